import PyProof.Rows.All
import Wide.All
import OpenK.AllK
import Wide.FinOn
import HandS.ForMost
import HandS.IsInst
import HandS.Wide
import HandS.StrMore
import HandS.Walk
import HandS.ForExc
import HandS.ExcIs
import HandS.TupAny
import HandS.Style
import PySem.Challenge.RW_forkrolls_k03_places_known
set_option Elab.async false
set_option linter.all false
set_option maxRecDepth 100000
namespace Pr
open PySem PySem.Spec PyProof.Rows L2

/-! ### texts of known size and signs -/
def okS (z : Str) : Prop := z.length ≤ 1000 ∧ PyData.strOk z = true
theorem strOk_iff {z : Str} : PyData.strOk z = true ↔ ∀ c ∈ z.cps.toList, c < 0x110000 := by
  unfold PyData.strOk
  rw [← Array.all_toList, List.all_eq_true]
  exact ⟨fun h c hc => of_decide_eq_true (h c hc), fun h c hc => decide_eq_true (h c hc)⟩
theorem strOk_cut {z : Str} (h : PyData.strOk z = true) (lo hi : Option Int) : PyData.strOk (cutS z lo hi) = true := by
  rw [strOk_iff] at h ⊢
  intro c hc
  refine h c ?_
  unfold cutS at hc
  exact List.mem_of_mem_drop (List.mem_of_mem_take hc)
theorem strOk_append {x y : Str} (h : PyData.strOk x = true) (h2 : PyData.strOk y = true) : PyData.strOk (x ++ y) = true := by
  rw [strOk_iff] at h h2 ⊢
  intro c hc
  have e : (x ++ y).cps.toList = x.cps.toList ++ y.cps.toList := by
    show (x.cps ++ y.cps).toList = _
    exact Array.toList_append
  rw [e] at hc
  exact (List.mem_append.mp hc).elim (h c) (h2 c)
theorem strOk_join {sep : Str} (hs : PyData.strOk sep = true) : ∀ {ys : List Str}, (∀ y ∈ ys, PyData.strOk y = true) → PyData.strOk (Str.join sep ys) = true
  | [], _ => by show PyData.strOk Str.empty = true; decide +kernel
  | [x], h => h x List.mem_cons_self
  | x :: y :: r, h => strOk_append (strOk_append (h x List.mem_cons_self) hs) (strOk_join hs fun z hz => h z (List.mem_cons_of_mem _ hz))
/-! ### what a value is, by its built-in class -/
inductive Knd (H : Hp) : V → String → Prop
  | non : Knd H .non "NoneType"
  | bl (b : Bool) : Knd H (.bl b) "bool"
  | int (i : Int) : Knd H (.int i) "int"
  | str (z : Str) (h : okS z) : Knd H (.str z) "str"
  | lst {a : Addr} {xs : List V} (e : H a = some (.lst xs)) : Knd H (.ref a) "list"
  | tup {a : Addr} {xs : List V} (e : H a = some (.tup xs)) : Knd H (.ref a) "tuple"
  | dK {a : Addr} {kvs : List (Key × V)} (e : H a = some (.dK kvs)) : Knd H (.ref a) "dict"
theorem Knd.same {H H' : Hp} {v : V} {k : String} (h : Knd H v k) (s : Same H H') : Knd H' v k := by
  cases h with
  | non => exact .non
  | bl b => exact .bl b
  | int i => exact .int i
  | str z hz => exact .str z hz
  | lst e => exact .lst (s _ _ e)
  | tup e => exact .tup (s _ _ e)
  | dK e => exact .dK (s _ _ e)
theorem Knd.ty {K : PySem.W.Frag} {H : Hp} {v : V} {k : String} (h : Knd H v k) : TyX K H v (.type k) := by
  cases h with
  | non => exact .base .non
  | bl b => exact .base (.bl b)
  | int i => exact .base (.int i)
  | str z hz => exact .base (.str z)
  | lst e => exact .base (.lst e)
  | tup e => exact .base (.tup e)
  | dK e => exact .base (.dK e)
/-- is a value of built-in class k one of T? -/
def isk (k T : String) : Bool := k == T || (k == "bool" && T == "int")
def okT (T : String) : Prop := T = "bool" ∨ T = "int" ∨ T = "str" ∨ T = "tuple" ∨ T = "list" ∨ T = "dict"
theorem isk_kit {K : PySem.W.Frag} {H : Hp} {v : V} {k T : String} (h : Knd H v k) (hT : okT T) : PySem.W.kitOne K (.type k) (.type T) = some (isk k T) := by
  refine kit_ty ?_
  rcases hT with rfl | rfl | rfl | rfl | rfl | rfl <;> cases h <;> decide +kernel
def rIsk : List V → Hp → VK → Prop := fun xs H Q => ∃ (v : V) (T k : String), xs = [v, .ty T] ∧ okT T ∧ Knd H v k ∧ Q (.bl (isk k T)) H
theorem call_isk {X : Cx} : CallR X (.builtin "isinstance") rIsk := by
  intro pins s σ H xs us Q I r h
  obtain ⟨v, T, k, rfl, hT, hk, q⟩ := h
  exact call_isi pins s σ H _ us Q I r ⟨v, .ty T, _, _, _, rfl, .ty T, hk.ty, isk_kit hk hT, q⟩

/-! ### powers of great numbers -/
def CPowW (i j : Int) : Prop := 0 ≤ j ∧ (Builtin.Int.intBits i : Int) * j ≤ 2 ^ 27
theorem op_powW {X : Cx} : OpR X (binaryOp .Pow) (rI CPowW fun i j => .int (i ^ j.toNat)) := opI fun _ _ _ _ _ _ _ hc q => pow_int hc.1 hc.2 q

/-! ### texts: eight small letters -/
theorem az1 : ∀ c : Fin 128, ((Unicode.isAlpha c.val && !(Unicode.isUpper c.val || Unicode.isTitle c.val)) = decide (97 ≤ c.val ∧ c.val ≤ 122)) := by decide +kernel
theorem az2 : ∀ c : Fin 128, Unicode.isLower c.val = decide (97 ≤ c.val ∧ c.val ≤ 122) := by decide +kernel
def azS : Str := "abcdefghijklmnopqrstuvwxyz"
theorem mem_az (c : Nat) : decide (c ∈ azS.cps.toList) = decide (97 ≤ c ∧ c ≤ 122) := by
  have e : azS.cps.toList = (List.range 26).map (· + 97) := by decide +kernel
  rw [e]
  apply decide_eq_decide.mpr
  rw [List.mem_map]
  constructor
  · rintro ⟨a, ha, rfl⟩
    have := List.mem_range.mp ha
    omega
  · rintro ⟨h1, h2⟩
    exact ⟨c - 97, List.mem_range.mpr (by omega), by omega⟩
/-- the letters are all small ones -/
def azAll (z : Str) : Bool := z.cps.toList.all fun c => decide (97 ≤ c ∧ c ≤ 122)
theorem az_word (z : Str) : (Txt.isascii z && (Txt.isalpha z && Txt.islower z)) = (decide (0 < z.length) && azAll z) := by
  unfold Txt.isascii Txt.isalpha Txt.islower azAll
  rw [← Array.all_toList, ← Array.all_toList, ← Array.any_toList, ← Array.any_toList]
  have hl : z.length = z.cps.toList.length := rfl
  rw [hl]
  generalize z.cps.toList = l
  by_cases ha : (l.all fun x => decide (x < 128)) = true
  · have h1 : ∀ c ∈ l, c < 128 := fun c hc => of_decide_eq_true (List.all_eq_true.mp ha c hc)
    rw [ha, Bool.true_and]
    cases l with
    | nil => rfl
    | cons d r =>
      have hpos : decide (0 < (d :: r).length) = true := by simp
      rw [hpos, Bool.true_and, Bool.true_and]
      generalize hm : d :: r = m at *
      have hne : ∃ c, c ∈ m := ⟨d, by rw [← hm]; exact List.mem_cons_self⟩
      apply Bool.eq_iff_iff.mpr
      constructor
      · intro h
        simp only [Bool.and_eq_true, List.all_eq_true, Bool.not_eq_true', List.any_eq_false] at h
        obtain ⟨ha1, ha2, ha3⟩ := h
        rw [List.all_eq_true]
        intro c hc
        have e := az1 ⟨c, h1 c hc⟩
        have q1 := ha1 c hc
        have q2 := ha3 c hc
        simp only [q1, Bool.true_and] at e
        rw [← e]
        simpa using q2
      · intro h
        rw [List.all_eq_true] at h
        simp only [Bool.and_eq_true, List.all_eq_true, Bool.not_eq_true', List.any_eq_false, List.any_eq_true]
        refine ⟨fun c hc => ?_, ?_, fun c hc => ?_⟩
        · have e := az1 ⟨c, h1 c hc⟩
          simp only [h c hc, Bool.and_eq_true] at e
          exact e.1
        · obtain ⟨c, hc⟩ := hne
          exact ⟨c, hc, (az2 ⟨c, h1 c hc⟩).trans (h c hc)⟩
        · have e := az1 ⟨c, h1 c hc⟩
          simp only [h c hc, Bool.and_eq_true] at e
          simpa using e.2
  · have h0 : (l.all fun x => decide (x < 128)) = false := by simpa using ha
    rw [h0, Bool.false_and]
    have : (l.all fun c => decide (97 ≤ c ∧ c ≤ 122)) = false := by
      apply Bool.eq_false_iff.mpr
      intro h
      apply ha
      rw [List.all_eq_true] at h ⊢
      intro c hc
      have := of_decide_eq_true (h c hc)
      exact decide_eq_true (by omega)
    rw [this, Bool.and_false]
end Pr
namespace Pr
open PySem PySem.Spec PyProof.Rows L2
/-! ### the pot: three numbers in a list -/
def Pot (p : Addr) (n : Nat) (H : Hp) : Prop := ∃ a b c : Int, H p = some (.lst [.int a, .int b, .int c]) ∧ (0 ≤ a ∧ a < 2 ^ 2000) ∧ (0 ≤ b ∧ b < 2 ^ 61) ∧ 0 ≤ c ∧ c ≤ n
/-- all that was tracked is as it was, but at p -/
def But (p : Addr) (H H' : Hp) : Prop := ∀ q o, q ≠ p → H q = some o → H' q = some o
theorem But.refl (p : Addr) (H : Hp) : But p H H := fun _ _ _ h => h
theorem But.trans {p : Addr} {H H1 H2 : Hp} (a : But p H H1) (b : But p H1 H2) : But p H H2 := fun q o n h => b q o n (a q o n h)
theorem But.of {p : Addr} {H H1 : Hp} (a : Same H H1) : But p H H1 := fun q o _ h => a q o h
theorem But.put {p : Addr} {H : Hp} {o : HO} : But p H (upd H p o) := fun q _ n h => by rw [upd_ne n]; exact h
theorem But.new {p q : Addr} {H : Hp} {o : HO} (h : H q = none) : But p H (upd H q o) := fun b x _ e => by
  rw [upd_ne (ne_of_none e h)]
  exact e
theorem Same.new {q : Addr} {H : Hp} {o : HO} (h : H q = none) : Same H (upd H q o) := fun b x e => by
  rw [upd_ne (ne_of_none e h)]
  exact e
theorem Pot.some {p : Addr} {n : Nat} {H : Hp} (h : Pot p n H) : ∃ o, H p = some o := by
  obtain ⟨a, b, c, e, _⟩ := h
  exact ⟨_, e⟩
theorem Pot.ne {p q : Addr} {n : Nat} {H : Hp} (h : Pot p n H) (e : H q = none) : q ≠ p := by
  obtain ⟨o, ho⟩ := h.some
  exact fun z => by rw [z, ho] at e; cases e
theorem Pot.same {p : Addr} {n : Nat} {H H' : Hp} (h : Pot p n H) (s : Same H H') : Pot p n H' := by
  obtain ⟨a, b, c, e, r⟩ := h
  exact ⟨a, b, c, s _ _ e, r⟩
theorem Pot.mono {p : Addr} {n m : Nat} {H : Hp} (h : Pot p n H) (l : n ≤ m) : Pot p m H := by
  obtain ⟨a, b, c, e, ha, hb, h0, h1⟩ := h
  exact ⟨a, b, c, e, ha, hb, h0, by omega⟩
theorem But.same {p : Addr} {H0 H H' : Hp} (b : But p H H') (hp : H0 p = none) (s : Same H0 H) : Same H0 H' := fun q o h => b q o (ne_of_none h hp) (s q o h)
theorem atI_bdN {α : Type} {xs : List α} {r : Int} (h0 : 0 ≤ r) (h1 : r < xs.length) : ∃ v, atI xs r = some v ∧ v ∈ xs := by
  obtain ⟨j, rfl⟩ := Int.eq_ofNat_of_zero_le h0
  have hj : j < xs.length := by omega
  exact ⟨xs[j], atI_nat (List.getElem?_eq_getElem hj), List.getElem_mem hj⟩
theorem atI_bd {xs : List V} {r : Int} (h0 : 0 ≤ r) (h1 : r < xs.length) : ∃ v, atI xs r = some v ∧ v ∈ xs := atI_bdN h0 h1
theorem join_le (sep : Str) (ys : List Str) : (Txt.join sep ys).length ≤ (ys.map (·.length)).sum + ys.length * sep.length := by
  show (Builtin.Str.glued sep ys).length ≤ _
  rw [StrLaws.glued_eq_join]
  exact StrLaws.join_length_le sep ys
theorem strOk_joinT {sep : Str} (hs : PyData.strOk sep = true) {ys : List Str} (h : ∀ y ∈ ys, PyData.strOk y = true) : PyData.strOk (Txt.join sep ys) = true := by
  show PyData.strOk (Builtin.Str.glued sep ys) = true
  rw [StrLaws.glued_eq_join]
  exact strOk_join hs h
theorem sum_ones : ∀ (ys : List Str), (∀ y ∈ ys, y.length = 1) → (ys.map (·.length)).sum = ys.length
  | [], _ => rfl
  | y :: r, h => by
    rw [List.map_cons, List.sum_cons, sum_ones r fun z hz => h z (List.mem_cons_of_mem _ hz), h y List.mem_cons_self, List.length_cons]
    omega

def spTake : Sp := fun vs H Q _ => ∃ (p : Addr) (n : Nat) (many : Int), vs = [.ref p, .int many] ∧ Pot p n H ∧ n < 100000 ∧ 0 < many ∧ many < 2 ^ 64 ∧
  ∀ r H', 0 ≤ r → r < many → Pot p (n + 1) H' → But p H H' → Q (.int r) H'
def spPot (K : PySem.W.Frag) : Sp := fun vs H Q _ => ∃ (a : Addr) (ns : List Int) (k : Int), vs = [.ref a, .int k] ∧ SqL K H a (ns.map V.int) ∧ 0 ≤ k ∧ k < 1000 ∧
  ∀ p H', H p = none → Same H H' → Pot p 0 H' → Q (.ref p) H'
theorem big_lt : ((10 : Int) ^ (60 : Int).toNat) ^ (10 : Int).toNat < 2 ^ 2000 ∧ (0 : Int) < ((10 : Int) ^ (60 : Int).toNat) ^ (10 : Int).toNat := by decide +kernel
theorem powW1 : CPowW ((10 : Int) ^ (60 : Int).toNat) 10 := by
  refine ⟨by decide, ?_⟩
  decide +kernel
theorem b01 (g : Bool) : -(2 ^ 64) < (if g = true then (1 : Int) else 0) ∧ (if g = true then (1 : Int) else 0) < 2 ^ 64 := by cases g <;> decide
theorem powArg {r k : Int} (h0 : 0 ≤ r) (h1 : r < 2147483629) (k0 : 0 ≤ k) (k1 : k < 1000) : (r + 7919 * k + 1).natAbs < 2 ^ 64 := by omega
theorem lt2000 : (0 : Int) < 2 ^ 2000 := by decide +kernel
end Pr
namespace Pr
open PySem PySem.Spec PyProof.Rows L2
theorem But.later {p q : Addr} {H H1 : Hp} {o : HO} (b : But p H H1) (h : H q = none) : But p H (upd H1 q o) := fun c x n e => by
  rw [upd_ne (ne_of_none e h)]
  exact b c x n e
theorem Knd.but {p : Addr} {H H' : Hp} {v : V} {k : String} (h : Knd H v k) (hp : v ≠ .ref p) (s : But p H H') : Knd H' v k := by
  cases h with
  | non => exact .non
  | bl b => exact .bl b
  | int i => exact .int i
  | str z hz => exact .str z hz
  | lst e => exact .lst (s _ _ (fun q => hp (by rw [q])) e)
  | tup e => exact .tup (s _ _ (fun q => hp (by rw [q])) e)
  | dK e => exact .dK (s _ _ (fun q => hp (by rw [q])) e)
theorem Knd.updL {L : Addr} {H : Hp} {xs ys : List V} {v : V} {k : String} (e0 : H L = some (.lst xs)) (h : Knd H v k) : Knd (upd H L (.lst ys)) v k := by
  cases h with
  | non => exact .non
  | bl b => exact .bl b
  | int i => exact .int i
  | str z hz => exact .str z hz
  | @lst a zs e =>
    by_cases q : a = L
    · rw [q]; exact .lst upd_same
    · exact .lst (by rw [upd_ne q]; exact e)
  | tup e => exact .tup (by rw [upd_ne (ne_of e e0 (by intro z; cases z))]; exact e)
  | dK e => exact .dK (by rw [upd_ne (ne_of e e0 (by intro z; cases z))]; exact e)
/-- a part: of some kind, not the pot -/
def El (p : Addr) (H : Hp) (x : V) : Prop := (∃ k, Knd H x k) ∧ x ≠ .ref p
theorem El.but {p : Addr} {H H' : Hp} {x : V} (h : El p H x) (s : But p H H') : El p H' x := ⟨h.1.elim fun k q => ⟨k, q.but h.2 s⟩, h.2⟩
theorem El.updL {p L : Addr} {H : Hp} {xs ys : List V} {x : V} (e0 : H L = some (.lst xs)) (h : El p H x) : El p (upd H L (.lst ys)) x := ⟨h.1.elim fun k q => ⟨k, q.updL e0⟩, h.2⟩
theorem El.int {p : Addr} {H : Hp} (i : Int) : El p H (.int i) := ⟨⟨_, .int i⟩, fun z => by cases z⟩
theorem El.str {p : Addr} {H : Hp} {z : Str} (h : okS z) : El p H (.str z) := ⟨⟨_, .str z h⟩, fun z => by cases z⟩
/-- a thing of any kind, not the pot; what is in a tuple is of some kind, too -/
inductive Thing (p : Addr) (H : Hp) : V → Prop
  | flat {v : V} {k : String} (h : Knd H v k) (hk : k ≠ "tuple") (hp : v ≠ .ref p) : Thing p H v
  | tup {a : Addr} {xs : List V} (e : H a = some (.tup xs)) (h : ∀ x ∈ xs, El p H x) (hp : a ≠ p) : Thing p H (.ref a)
theorem Thing.but {p : Addr} {H H' : Hp} {v : V} (h : Thing p H v) (s : But p H H') : Thing p H' v := by
  cases h with
  | flat h hk hp => exact .flat (h.but hp s) hk hp
  | tup e h hp => exact .tup (s _ _ hp e) (fun x hx => (h x hx).but s) hp
theorem Thing.el {p : Addr} {H : Hp} {v : V} (h : Thing p H v) : El p H v := by
  cases h with
  | flat h hk hp => exact ⟨⟨_, h⟩, hp⟩
  | tup e h hp => exact ⟨⟨_, .tup e⟩, fun z => hp (V.ref.inj z)⟩
theorem Thing.knd {p : Addr} {H : Hp} {v : V} (h : Thing p H v) : ∃ k, Knd H v k := h.el.1
theorem Thing.int {p : Addr} {H : Hp} (i : Int) : Thing p H (.int i) := .flat (.int i) (by decide) (fun z => by cases z)
theorem Thing.str {p : Addr} {H : Hp} {z : Str} (h : okS z) : Thing p H (.str z) := .flat (.str z h) (by decide) (fun z => by cases z)
theorem alloc {H : Hp} {p : Addr} (o : HO) (h : H p = none) : ∃ H1, upd H p o = H1 ∧ Same H H1 ∧ H1 p = some o := ⟨_, rfl, Same.new h, upd_same⟩
/-- what follows, by a name -/
theorem absQ {t : TE} {σ : L2.St} {H : Hp} {Q : VK} (h : ∀ G : VK, (∀ v H', Q v H' → G v H') → t σ H G) : t σ H Q := h Q fun _ _ q => q
theorem seqAsg {te : TE} {g : TG} {u : TS} {D : Ends} {σ : L2.St} {H : Hp} (h : ∀ G : VK, (∀ v H', g v σ H' (u D) → G v H') → te σ H G) : tSeq (tAsg te g) u D σ H := absQ (t := te) h
theorem nameInto {t : TS} {D E : Ends} {i : Nat} {x : V} {σ : L2.St} {H : Hp} (h : t D (σ.set i (some x)) H) : gName i x σ H ({ E with nx := t D } : Ends).nx := h
theorem mem_cutV {xs : List V} {lo hi : Option Int} {x : V} (h : x ∈ cutV xs lo hi) : x ∈ xs := by
  unfold cutV at h
  exact List.mem_of_mem_drop (List.mem_of_mem_take h)
end Pr
namespace PySem.SeqAt
open PySem PySem.Spec PyProof.Rows
theorem dict_eq_declines_strX (l : Addr) (es : Array DictEntry) (ep : Nat) (dd : Option Addr) (sl : Array (Option Value)) (b : Str) (u : Tok) :
    Meets (Builtin.«dict.__eq__» ⟨[.ref l, .str b u], []⟩) (fun _ R s => s.heap.get? l = some { cls := .type "dict", dict := dd, data := .dict es ep, slots := sl } ∧ R (.ok (.ret .notImplemented)) s) :=
  .of_wp fun prog w A R s h => by obtain ⟨hp, g, d, tk, os⟩ := s; obtain ⟨hl, h⟩ := h; have f1 := F.sub_str_dict; wp_walk using wpAny_loadPart' hl; exact ⟨_, rfl, h⟩
theorem str_eq_declines_dictX (b : Str) (u : Tok) (l : Addr) (es : Array DictEntry) (ep : Nat) (dd : Option Addr) (sl : Array (Option Value)) :
    Meets (Builtin.«str.__eq__» ⟨[.str b u, .ref l], []⟩) (fun _ R s => s.heap.get? l = some { cls := .type "dict", dict := dd, data := .dict es ep, slots := sl } ∧ R (.ok (.ret .notImplemented)) s) :=
  .of_wp fun prog w A R s h => by obtain ⟨hp, g, d, tk, os⟩ := s; obtain ⟨hl, h⟩ := h; wp_walk using wpAny_loadPart' hl, wpAny_load hl; exact ⟨_, rfl, h⟩
section
variable {A : Around} {s : Shared}
def IsDct (h : Heap) (l : Addr) : Prop := ∃ (o : Obj) (es : Array DictEntry) (ep : Nat), h.get? l = some o ∧ o.cls = .type "dict" ∧ o.data = .dict es ep
theorem RcAt.dict_strX {l : Addr} (b : Str) (u : Tok) (hl : IsDct s.heap l) (hu : A.units < cLine) : RcAt A s (.ref l) (.str b u) false := fun prog w E Q h => by
  obtain ⟨⟨cls, dd, data, sl⟩, es, ep, ho, hc, hd⟩ := id hl
  simp only at hc hd
  subst hc hd
  exact rc_eq_decline_or (k := false) ⟨_, ho, rfl⟩ (typeIs_str s b u) (by decide) F.sub_str_dict F.slot_dict_eq F.slot_str_eq_refl
    (fun _ hq => call_meets F.slot_dict_eq ⟨_, ho, rfl⟩ F.entry_dict_eq (F.args_dict_eq_2 _ _) (dict_eq_declines_strX l es ep dd sl b u) ⟨ho, hq⟩)
    (fun _ hq => call_meets F.slot_str_eq_refl (typeIs_str s b u) F.entry_str_eq (F.args_str_eq_2 _ _) (str_eq_declines_dictX b u l es ep dd sl) ⟨ho, hq⟩)
    (fun _ hq => wpAny_of_eq (rfl : isSame (.ref l) (.str b u) = pure false) hq) (.inr hu) h
theorem RcAt.str_dictX {l : Addr} (b : Str) (u : Tok) (hl : IsDct s.heap l) (hu : A.units < cLine) : RcAt A s (.str b u) (.ref l) false := fun prog w E Q h => by
  obtain ⟨⟨cls, dd, data, sl⟩, es, ep, ho, hc, hd⟩ := id hl
  simp only at hc hd
  subst hc hd
  exact rc_eq_decline_or (k := false) (typeIs_str s b u) ⟨_, ho, rfl⟩ (by decide) F.sub_dict_str F.slot_str_eq F.slot_dict_eq_refl
    (fun _ hq => call_meets F.slot_str_eq (typeIs_str s b u) F.entry_str_eq (F.args_str_eq_2 _ _) (str_eq_declines_dictX b u l es ep dd sl) ⟨ho, hq⟩)
    (fun _ hq => call_meets F.slot_dict_eq_refl ⟨_, ho, rfl⟩ F.entry_dict_eq (F.args_dict_eq_2 _ _) (dict_eq_declines_strX l es ep dd sl b u) ⟨ho, hq⟩)
    (fun _ hq => wpAny_of_eq (rfl : isSame (.str b u) (.ref l) = pure false) hq) (.inr hu) h
theorem EqAt.str_dictX {l : Addr} (b : Str) (u : Tok) (hl : IsDct s.heap l) (hu : A.units < cLine) : EqAt A s (.str b u) (.ref l) false := fun prog w E Q h => by
  unfold eqBool
  refine wpAny_holding ?_
  refine wpAny_ite_split (fun hab => absurd (eq_of_beq hab) nofun) (fun _ => ?_)
  exact wpAny_bind (RcAt.str_dictX b u hl hu prog w E _ (wpAny_truthy_bool h))
end
end PySem.SeqAt
namespace Pr
open PySem PySem.Spec PyProof.Rows L2
/-! ### things as data; lists and dicts are told by their kind alone -/
inductive D where
  | non | bl (b : Bool) | int (i : Int) | str (z : Str) | tup (ds : List D) | lst | dct
mutual
inductive Is (p : Addr) (H : Hp) : V → D → Prop
  | non : Is p H .non .non
  | bl (b : Bool) : Is p H (.bl b) (.bl b)
  | int (i : Int) : Is p H (.int i) (.int i)
  | str (z : Str) (h : okS z) : Is p H (.str z) (.str z)
  | tup {a : Addr} {xs : List V} {ds : List D} (e : H a = some (.tup xs)) (h : IsAll p H xs ds) (hp : a ≠ p) : Is p H (.ref a) (.tup ds)
  | lst {a : Addr} {xs : List V} (e : H a = some (.lst xs)) (hp : a ≠ p) : Is p H (.ref a) .lst
  | dct {a : Addr} {kvs : List (Key × V)} (e : H a = some (.dK kvs)) (hp : a ≠ p) : Is p H (.ref a) .dct
inductive IsAll (p : Addr) (H : Hp) : List V → List D → Prop
  | nil : IsAll p H [] []
  | cons {v : V} {vs : List V} {d : D} {ds : List D} : Is p H v d → IsAll p H vs ds → IsAll p H (v :: vs) (d :: ds)
end
mutual
theorem Is.but {p : Addr} {H H' : Hp} {v : V} {d : D} (h : Is p H v d) (s : But p H H') : Is p H' v d := by
  cases h with
  | non => exact .non
  | bl b => exact .bl b
  | int i => exact .int i
  | str z hz => exact .str z hz
  | tup e h hp => exact .tup (s _ _ hp e) (IsAll.but h s) hp
  | lst e hp => exact .lst (s _ _ hp e) hp
  | dct e hp => exact .dct (s _ _ hp e) hp
theorem IsAll.but {p : Addr} {H H' : Hp} {vs : List V} {ds : List D} (h : IsAll p H vs ds) (s : But p H H') : IsAll p H' vs ds := by
  cases h with
  | nil => exact .nil
  | cons h t => exact .cons (Is.but h s) (IsAll.but t s)
end
theorem Is.same {p : Addr} {H H' : Hp} {v : V} {d : D} (h : Is p H v d) (s : Same H H') : Is p H' v d := h.but (But.of s)
theorem IsAll.same {p : Addr} {H H' : Hp} {v : List V} {d : List D} (h : IsAll p H v d) (s : Same H H') : IsAll p H' v d := h.but (But.of s)
theorem IsAll.length {p : Addr} {H : Hp} : ∀ {vs : List V} {ds : List D}, IsAll p H vs ds → vs.length = ds.length
  | _, _, .nil => rfl
  | _, _, .cons _ t => by rw [List.length_cons, List.length_cons, t.length]
theorem IsAll.get {p : Addr} {H : Hp} : ∀ {vs : List V} {ds : List D} {i : Nat} {v : V}, IsAll p H vs ds → vs[i]? = some v → ∃ d, ds[i]? = some d ∧ Is p H v d
  | _, _, _, _, .nil, e => by simp at e
  | _, _, 0, _, .cons h _, e => by
    obtain rfl : _ = _ := by simpa using e
    exact ⟨_, rfl, h⟩
  | _, _, i + 1, _, .cons _ t, e => by
    obtain ⟨d, h1, h2⟩ := t.get (i := i) (by simpa using e)
    exact ⟨d, by simpa using h1, h2⟩
theorem IsAll.append {p : Addr} {H : Hp} : ∀ {xs ys : List V} {ds es : List D}, IsAll p H xs ds → IsAll p H ys es → IsAll p H (xs ++ ys) (ds ++ es)
  | _, _, _, _, .nil, t => t
  | _, _, _, _, .cons h s, t => .cons h (s.append t)
theorem IsAll.drop {p : Addr} {H : Hp} : ∀ {xs : List V} {ds : List D} (n : Nat), IsAll p H xs ds → IsAll p H (xs.drop n) (ds.drop n)
  | _, _, 0, h => h
  | _, _, n + 1, .nil => .nil
  | _, _, n + 1, .cons _ t => t.drop n
theorem IsAll.take {p : Addr} {H : Hp} : ∀ {xs : List V} {ds : List D} (n : Nat), IsAll p H xs ds → IsAll p H (xs.take n) (ds.take n)
  | _, _, 0, _ => .nil
  | _, _, n + 1, .nil => .nil
  | _, _, n + 1, .cons h t => .cons h (t.take n)
theorem IsAll.of_mem {p : Addr} {H : Hp} : ∀ {xs : List V}, (∀ x ∈ xs, ∃ d, Is p H x d) → ∃ ds, IsAll p H xs ds
  | [], _ => ⟨[], .nil⟩
  | x :: r, h => by
    obtain ⟨d, hd⟩ := h x List.mem_cons_self
    obtain ⟨ds, hs⟩ := IsAll.of_mem fun y hy => h y (List.mem_cons_of_mem _ hy)
    exact ⟨_, .cons hd hs⟩
theorem IsAll.mem {p : Addr} {H : Hp} : ∀ {xs : List V} {ds : List D}, IsAll p H xs ds → ∀ x ∈ xs, ∃ d, Is p H x d
  | _, _, .nil => fun _ h => nomatch h
  | _, _, .cons h t => fun x hx => by
    rcases List.mem_cons.mp hx with rfl | hx
    · exact ⟨_, h⟩
    · exact t.mem x hx
/-- a thing of any kind -/
def Any (p : Addr) (H : Hp) (v : V) : Prop := ∃ d, Is p H v d
theorem Any.but {p : Addr} {H H' : Hp} {v : V} (h : Any p H v) (s : But p H H') : Any p H' v := h.elim fun d q => ⟨d, q.but s⟩
theorem Any.same {p : Addr} {H H' : Hp} {v : V} (h : Any p H v) (s : Same H H') : Any p H' v := h.but (But.of s)
def D.kind : D → String
  | .non => "NoneType" | .bl _ => "bool" | .int _ => "int" | .str _ => "str" | .tup _ => "tuple" | .lst => "list" | .dct => "dict"
theorem Is.knd {p : Addr} {H : Hp} {v : V} {d : D} (h : Is p H v d) : Knd H v d.kind := by
  cases h with
  | non => exact .non
  | bl b => exact .bl b
  | int i => exact .int i
  | str z hz => exact .str z hz
  | tup e h hp => exact .tup e
  | lst e hp => exact .lst e
  | dct e hp => exact .dK e
def rIsd : List V → Hp → VK → Prop := fun xs H Q => ∃ (p : Addr) (v : V) (d : D) (T : String), xs = [v, .ty T] ∧ okT T ∧ Is p H v d ∧ Q (.bl (isk d.kind T)) H
theorem call_isd {X : Cx} : CallR X (.builtin "isinstance") rIsd := by
  intro pins s σ H xs us Q I r h
  obtain ⟨p, v, d, T, rfl, hT, hd, q⟩ := h
  exact call_isk pins s σ H _ us Q I r ⟨v, T, _, rfl, hT, hd.knd, q⟩
/-- is the thing this text? -/
def isS (d : D) (z : Str) : Bool := match d with
  | .str y => decide (y = z)
  | _ => false
section
variable {X : Cx} {pins : List (Addr × Obj)} {σ : L2.St} {H : Hp} {s : Shared}
theorem isDct_of {a : Addr} {kvs : List (Key × V)} (I : Inv X pins σ H s) (e : H a = some (.dK kvs)) : PySem.SeqAt.IsDct s.heap a := by
  obtain ⟨_, _, vs, _, o, es, ep, h1, h2, h3, _⟩ := (show ObjOk X.prog X.w H s.heap a (.dK kvs) from I.hok a _ e)
  exact ⟨o, es, ep, h1, h2.1, h3⟩
/-- x == 'text' -/
theorem op_eqS (hu : X.A.units + 64 < cLine) : OpR X (compareOp .Eq) (fun x y H Q => ∃ (p : Addr) (d : D) (z : Str), y = .str z ∧ Is p H x d ∧ Q (.bl (isS d z)) H) := by
  intro pins s σ H x y v u Q I rx ry h
  obtain ⟨p, d, z, rfl, hd, q⟩ := h
  have hu' : X.A.units < cLine := by omega
  cases hd with
  | non => exact op_eq pins s σ H _ _ v u Q I rx ry ⟨rfl, q⟩
  | bl b => exact op_eq pins s σ H _ _ v u Q I rx ry ⟨rfl, by simpa [isS] using q⟩
  | int i => exact op_eq pins s σ H _ _ v u Q I rx ry ⟨rfl, by simpa [isS] using q⟩
  | str y hy => exact op_eq pins s σ H _ _ v u Q I rx ry ⟨rfl, by simpa [isS] using q⟩
  | tup e h hp =>
    cases (show v = Value.ref _ from rx)
    obtain ⟨t, rfl⟩ := ry
    obtain ⟨its, r, pl, hz⟩ := I.tuple (SqT.of e)
    exact SeqAt.RcAt.tuple_str z t pl hu' X.prog X.w _ _ ⟨.bl false, H, I, rfl, q⟩
  | lst e hp =>
    cases (show v = Value.ref _ from rx)
    obtain ⟨t, rfl⟩ := ry
    obtain ⟨its, r, pl, hz⟩ := I.list (SqL.of e)
    exact SeqAt.RcAt.list_str z t pl.isList hu' X.prog X.w _ _ ⟨.bl false, H, I, rfl, q⟩
  | dct e hp =>
    cases (show v = Value.ref _ from rx)
    obtain ⟨t, rfl⟩ := ry
    exact SeqAt.RcAt.dict_strX z t (isDct_of I e) hu' X.prog X.w _ _ ⟨.bl false, H, I, rfl, q⟩
/-- x is True -/
def isT (d : D) : Bool := match d with
  | .bl b => b
  | _ => false
theorem op_isTrue : OpR X (compareOp .Is) (fun x y H Q => ∃ (p : Addr) (d : D), y = .bl true ∧ Is p H x d ∧ Q (.bl (isT d)) H) := by
  intro pins s σ H x y v u Q I rx ry h
  obtain ⟨p, d, rfl, hd, q⟩ := h
  cases (show u = Value.bool true from ry)
  cases hd with
  | non => cases rx; exact wpAny_is_other rfl (by intro z; cases z) ⟨.bl false, H, I, rfl, q⟩
  | bl b =>
    cases rx
    cases b with
    | true => exact wpAny_is_self rfl ⟨.bl true, H, I, rfl, q⟩
    | false => exact wpAny_is_other rfl (by intro z; cases z) ⟨.bl false, H, I, rfl, q⟩
  | int i => obtain ⟨t, rfl⟩ := rx; exact wpAny_is_other rfl (by intro z; cases z) ⟨.bl false, H, I, rfl, q⟩
  | str y hy => obtain ⟨t, rfl⟩ := rx; exact wpAny_is_other rfl (by intro z; cases z) ⟨.bl false, H, I, rfl, q⟩
  | tup e h hp => cases rx; exact wpAny_is_other rfl (by intro z; cases z) ⟨.bl false, H, I, rfl, q⟩
  | lst e hp => cases rx; exact wpAny_is_other rfl (by intro z; cases z) ⟨.bl false, H, I, rfl, q⟩
  | dct e hp => cases rx; exact wpAny_is_other rfl (by intro z; cases z) ⟨.bl false, H, I, rfl, q⟩
/-- x in a row of texts -/
def inS (d : D) (zs : List Str) : Bool := zs.any fun z => isS d z
def eqS (d : D) : Value → Bool
  | .str z _ => isS d z
  | _ => false
theorem any_eqS {d : D} : ∀ {zs : List Str} {us : List Value}, Vals (zs.map V.str) us → us.any (eqS d) = inS d zs
  | [], _, .nil => rfl
  | z :: zs, _, .cons r t => by
    obtain ⟨k, rfl⟩ := r
    unfold inS
    rw [List.any_cons, List.any_cons, any_eqS t]
    rfl
theorem mem_eqS {p : Addr} {d : D} {x : V} {v : Value} (I : Inv X pins σ H s) (rx : RelV x v) (hd : Is p H x d) {A : Around} (hu : A.units < cLine) : ∀ {zs : List Str} {us : List Value}, Vals (zs.map V.str) us → ∀ u ∈ us, SeqAt.EqAt A s u v (eqS d u)
  | [], _, .nil => fun _ h => nomatch h
  | z :: zs, _, .cons r t => fun u' hm => by
    rcases List.mem_cons.mp hm with rfl | hm
    · obtain ⟨k, rfl⟩ := r
      cases hd with
      | non => cases rx; exact SeqAt.EqAt.str_none z k
      | bl b => cases rx; exact SeqAt.EqAt.str_bool z k b
      | int i => obtain ⟨t, rfl⟩ := rx; exact SeqAt.EqAt.str_int z k i t
      | str y hy =>
        obtain ⟨t, rfl⟩ := rx
        have e := SeqAt.EqAt.str_str (A := A) (s := s) z k y t
        have e2 : eqS (.str y) (.str z k) = (z == y) := by
          show decide (y = z) = _
          by_cases q : y = z
          · subst q; simp
          · rw [decide_eq_false q]; exact (beq_eq_false_iff_ne.mpr (Ne.symm q)).symm
        rw [e2]
        exact e
      | tup e h hp =>
        cases rx
        obtain ⟨its, r, pl, hz⟩ := I.tuple (SqT.of e)
        exact SeqAt.EqAt.str_tuple z k pl hu
      | lst e hp =>
        cases rx
        obtain ⟨its, r, pl, hz⟩ := I.list (SqL.of e)
        exact SeqAt.EqAt.str_list z k pl.isList hu
      | dct e hp =>
        cases rx
        exact SeqAt.EqAt.str_dictX z k (isDct_of I e) hu
    · exact mem_eqS I rx hd hu t u' hm
theorem op_inS2 (hu : X.A.units + 64 < cLine) : OpR X (compareOp .In) (fun x y H Q => ∃ (p q : Addr) (d : D) (zs : List Str), y = .ref q ∧ (SqL X.K H q (zs.map V.str) ∨ SqT X.K H q (zs.map V.str)) ∧ Is p H x d ∧ Q (.bl (inS d zs)) H) := by
  intro pins s σ H x y v u Q I rx ry h
  obtain ⟨p, qa, d, zs, rfl, hq, hd, q⟩ := h
  cases ry
  have hu' : X.A.in1.units < cLine := by show X.A.units + 1 < cLine; omega
  rcases hq with hq | hq
  · obtain ⟨its, r, pl, hz⟩ := I.list hq
    refine SeqAt.in_listAt (eqS d) pl.isList (fun w hw => mem_eqS I rx hd hu' r w (by simpa using hw)) ⟨.bl _, H, I, rfl, ?_⟩
    rw [show its.toArray.any (eqS d) = its.any (eqS d) by simp, any_eqS r]
    exact q
  · obtain ⟨its, r, pl, hz⟩ := I.tuple hq
    refine SeqAt.in_tupleAt (eqS d) pl (fun w hw => mem_eqS I rx hd hu' r w (by simpa using hw)) ⟨.bl _, H, I, rfl, ?_⟩
    rw [show its.toArray.any (eqS d) = its.any (eqS d) by simp, any_eqS r]
    exact q
end
/-! ### the looks, over data -/
def mWhole (lo hi : Int) : D → Bool
  | .int i => decide (lo ≤ i) && decide (i ≤ hi)
  | _ => false
def mWord : D → Bool
  | .str z => decide (z.length ≤ 8) && (decide (0 < z.length) && azAll z)
  | _ => false
def mName (d : D) : Bool := mWord d && !isS d "key"
def mValue (d : D) : Bool := mWord d || mWhole (-1000000000) 1000000000 d
def mId : D → Bool
  | .tup [a, b, c] => mWhole 0 7 a && (mName b && mWhole 0 1000000 c)
  | _ => false
theorem mWord_str {d : D} (h : mWord d = true) : ∃ z, d = .str z := by
  cases d <;> first | exact ⟨_, rfl⟩ | cases h
theorem mId_len {xs : List D} (h : xs.length ≠ 3) : mId (.tup xs) = false := by
  unfold mId
  split
  · rename_i q
    injection q with q
    rw [q] at h
    exact absurd rfl h
  · rfl
end Pr
namespace Pr
open PySem PySem.Spec PyProof.Rows L2
def rIsEx (K : PySem.W.Frag) (a : Addr) (cls : Value) (d : Option Addr) : List V → Hp → VK → Prop := fun xs H Q => ∃ (D : Addr) (c : V) (cv : Value) (b : Bool), cls = .ref D ∧ d = none ∧ ExcC K D ∧ xs = [.ref a, c] ∧ (∀ u, RelV c u → u = cv) ∧ PySem.W.kitOne K (.ref D) cv = some b ∧ Q (.bl b) H
theorem call_isEx {X : Cx} {a : Addr} {cls : Value} {d : Option Addr} {oe : Obj} {pn : List (Addr × Obj)} (hz : Zc cls d oe) (hf : ∃ vs, oe.data = .fields vs) : CallR (X.suite a ((a, oe) :: pn)) (.builtin "isinstance") (rIsEx X.K a cls d) := by
  intro pins s σ H xs us Q I r h
  obtain ⟨D, c, cv, b, rfl, rfl, hC, rfl, hcv, e, q⟩ := h
  exact call_isE hC hz hf pins s σ H _ us Q I r ⟨c, cv, b, rfl, hcv, e, q⟩
theorem kit_same {K : PySem.W.Frag} {a : Addr} : PySem.W.kitOne K (.ref a) (.ref a) = some true := by
  unfold PySem.W.kitOne
  rw [if_pos (beq_self_eq_true _)]
/-- a look at one thing -/
def spD (m : D → Bool) : Sp := fun vs H Q _ => ∃ (p : Addr) (v : V) (d : D), vs = [v] ∧ Is p H v d ∧ ∀ H', Same H H' → Q (.bl (m d)) H'
def spWhole : Sp := fun vs H Q _ => ∃ (p : Addr) (v : V) (d : D) (lo hi : Int), vs = [v, .int lo, .int hi] ∧ Is p H v d ∧ ∀ H', Same H H' → Q (.bl (mWhole lo hi d)) H'
theorem Is.str_inv {p : Addr} {H : Hp} {v : V} {z : Str} (h : Is p H v (.str z)) : v = .str z ∧ okS z := by
  cases h with
  | str _ hz => exact ⟨rfl, hz⟩
theorem Is.int_inv {p : Addr} {H : Hp} {v : V} {i : Int} (h : Is p H v (.int i)) : v = .int i := by
  cases h with
  | int _ => rfl
end Pr
namespace Pr
open PySem PySem.Spec PyProof.Rows L2
def spD2 (m : D → D → Bool) : Sp := fun vs H Q _ => ∃ (p : Addr) (v u : V) (d e : D), vs = [v, u] ∧ Is p H v d ∧ Is p H u e ∧ ∀ H', Same H H' → Q (.bl (m d e)) H'
theorem iteB {A B : Prop} {c : Bool} (h1 : c = true → A) (h2 : c = false → B) : if c = true then A else B := by
  cases c with
  | true => exact h1 rfl
  | false => exact h2 rfl
theorem iteN {A B : Prop} {c : Bool} (h1 : c = true → B) (h2 : c = false → A) : if (!c) = true then A else B := by
  cases c with
  | true => exact h1 rfl
  | false => exact h2 rfl
theorem cut2 (w t : V) (r : List V) : cutV (w :: t :: r) (some 2) none = r := by
  unfold cutV
  have e : HT.sIx (w :: t :: r).length 0 (some 2) = min 2 (w :: t :: r).length := HT.sIx_nat _ _ 2
  have e2 : min 2 (w :: t :: r).length = 2 := by rw [List.length_cons, List.length_cons]; omega
  rw [HT.sIx_none, e, e2]
  show List.take _ r = r
  rw [List.length_cons, List.length_cons]
  exact List.take_of_length_le (by omega)
def mKind (d : D) : Bool := inS d ["number", "word", "any"]
abbrev mKey : D → Bool := mWhole 0 1000000000
def mFollow (w x : D) : Bool := if isS w "row" then mKey x else if isS w "slot" then mName x else (inS w ["column", "name", "kind", "else"] && mId x)
def mPlaceR (w : D) : List D → Bool
  | [] => isS w "table"
  | [x] => mFollow w x
  | [k, i] => isS w "cell" && (mKey k && mId i)
  | _ => false
def mPlace : D → Bool
  | .tup (w :: t :: r) => mName t && mPlaceR w r
  | _ => false
def mFits (w x : D) : Bool := if inS w ["table", "column", "row"] then isT x else if isS w "name" then mName x else if isS w "slot" then mId x else if isS w "kind" then mKind x else mValue x
def mStand : D → D → Bool
  | .tup (w :: _), x => mFits w x
  | _, _ => false
def spNeed (C : Addr) : Sp := fun vs H Q E => ∃ (p : Addr) (v : V) (d : D), vs = [v] ∧ Is p H v d ∧ (mPlace d = true → ∀ H', Same H H' → Q .non H') ∧ (mPlace d = false → ∀ H', Same H H' → E (.ref C) none H')
def spTable (C : Addr) : Sp := fun vs H Q E => ∃ (p : Addr) (v : V) (d : D), vs = [v] ∧ Is p H v d ∧ (mPlace d = true → ∀ a x t r, v = .ref a → H a = some (.tup (x :: t :: r)) → ∀ H', Same H H' → Q t H') ∧ (mPlace d = false → ∀ H', Same H H' → E (.ref C) none H')
def spStand (C : Addr) : Sp := fun vs H Q E => ∃ (p : Addr) (v u : V) (d e : D), vs = [v, u] ∧ Is p H v d ∧ Is p H u e ∧ (mPlace d = true → ∀ H', Same H H' → Q (.bl (mStand d e)) H') ∧ (mPlace d = false → ∀ H', Same H H' → E (.ref C) none H')
/-- a place is a row of two parts at least -/
theorem mPlace_inv {p : Addr} {H : Hp} {v : V} {d : D} (h : Is p H v d) (hm : mPlace d = true) : ∃ a w t r dw dt dr, v = .ref a ∧ d = .tup (dw :: dt :: dr) ∧ H a = some (.tup (w :: t :: r)) ∧ Is p H w dw ∧ Is p H t dt ∧ IsAll p H r dr ∧ a ≠ p := by
  cases h with
  | @tup a xs ds e h hp =>
    cases h with
    | nil => cases hm
    | @cons w r dw dr gw t =>
      cases t with
      | nil => cases hm
      | @cons t r2 dt dr2 gt t2 => exact ⟨_, _, _, _, _, _, _, rfl, rfl, e, gw, gt, t2, hp⟩
  | _ => cases hm
end Pr
namespace L2
open PySem PySem.Spec PyProof.Rows HT
section
variable {prog : Program} {w : World} {A : Around} {E : Value → Shared → Prop} {s : Shared}
theorem adjust_rev (n : Nat) : Builtin.Slice.sliceAdjust none none (-1) (n : Int) = ((n : Int) - 1, -1) := by
  unfold Builtin.Slice.sliceAdjust
  rfl
theorem places_rev (n : Nat) : Builtin.Slice.slicePlaces ((n : Int) - 1) (-1) (-1) = n := by
  unfold Builtin.Slice.slicePlaces
  have h1 : ¬ ((-1 : Int) > 0) := by omega
  simp only [h1, if_false]
  split
  · simp only [Int.neg_neg, Int.ediv_one]
    omega
  · omega
theorem sliceApplied_rev {sl : Addr} {t : Tok} {n : Nat} {Q : Int × Int × Nat → Shared → Prop} (hs : s.heap.IsSliceOf sl .none .none (.int (-1) t))
    (h : Q ((n : Int) - 1, -1, n) s) : wpAny (model prog w) A (Builtin.Slice.sliceApplied (.ref sl) (pure (n : Int))) Q E s := by
  obtain ⟨os, hos, hcs, hds⟩ := id hs
  unfold Builtin.Slice.sliceApplied Builtin.Slice.sliceFields
  refine wpAny_bind (wpAny_bind (wpAny_field hos hds (x := .none) rfl (wpAny_bind (wpAny_field hos hds (x := .none) rfl (wpAny_bind (wpAny_field hos hds (x := .int (-1) t) rfl (wpAny_pure ?_)))))))
  refine wpAny_bind (slicePart_int ?_)
  show wpAny _ _ (if ((-1 : Int) == 0) = true then _ else _) _ _ s
  rw [if_neg (by decide)]
  refine wpAny_bind (slicePart_none (wpAny_bind (slicePart_none (wpAny_bind (wpAny_pure ?_)))))
  show wpAny _ _ (match Builtin.Slice.sliceAdjust none none (-1) (n : Int) with | (lo, hi) => pure (lo, (-1 : Int), Builtin.Slice.slicePlaces lo hi (-1))) _ _ s
  rw [adjust_rev n]
  show wpAny _ _ (pure ((n : Int) - 1, (-1 : Int), Builtin.Slice.slicePlaces ((n : Int) - 1) (-1) (-1))) _ _ s
  rw [places_rev]
  exact wpAny_pure h
theorem fm_congr {α β : Type} {f g : α → Option β} : ∀ {l : List α}, (∀ x ∈ l, f x = g x) → l.filterMap f = l.filterMap g
  | [], _ => rfl
  | x :: r, h => by rw [List.filterMap_cons, List.filterMap_cons, h x List.mem_cons_self, fm_congr fun y hy => h y (List.mem_cons_of_mem _ hy)]
theorem pick_rev (xs : Array Value) : ((List.range xs.size).filterMap fun (m : Nat) => xs[(((xs.size : Int) - 1) + (m : Int) * (-1)).toNat]?).toArray = xs.toList.reverse.toArray := by
  congr 1
  have e : ((List.range xs.size).filterMap fun (m : Nat) => xs[(((xs.size : Int) - 1) + (m : Int) * (-1)).toNat]?) = ((List.range xs.size).map fun k => xs.size - 1 - k).filterMap (xs[·]?) := by
    rw [List.filterMap_map]
    apply fm_congr
    intro m hm
    have := List.mem_range.mp hm
    show _ = xs[xs.size - 1 - m]?
    congr 1
    omega
  rw [e, PySem.W.krv_range, List.filterMap_reverse, PySem.W.krv_all]
theorem getItem_tuple_rev {t sl : Addr} {items : Array Value} {k : Tok} {Q : Value → Shared → Prop} (ht : IsTup s.heap t items) (hs : s.heap.IsSliceOf sl .none .none (.int (-1) k))
    (h : Q (.ref s.heap.objs.size) { s with heap := s.heap.push { cls := .type "tuple", data := .seq items.toList.reverse.toArray } })
    (hsz : items.size ≤ sizeLine) : wpAny (model prog w) A (getItem (.ref t) (.ref sl)) Q E s := by
  have htake : sizeOk (.seq items.toList.reverse.toArray) := by
    show items.toList.reverse.toArray.size ≤ sizeLine
    rw [List.size_toArray, List.length_reverse, Array.length_toList]
    exact hsz
  obtain ⟨os, hos, hcs, hds⟩ := id hs
  have hTs : s.TypeIs (.ref sl) "slice" := ⟨os, hos, hcs⟩
  unfold getItem
  try with_reducible refine wpAny_holding ?_
  first | refine wpAny_bind (wpAny_pure ?_) | skip
  refine wpAny_bind (wpAny_sequenceKey ht.typeIs (by decide) ?_)
  refine wpAny_bind (wpAny_callSpecial?_slot (name := Str.ofString "__getitem__") ht.typeIs PyProof.Rows.slot_tuple_getitem
    (wpAny_call_entry PyProof.Rows.slot_tuple_getitem ht.typeIs entry_tuple_getitem ?_ (args_tuple_getitem _ _)))
  show wpAny _ _ (Builtin.Tuple.tupleItemsOf (.ref t) >>= _) _ _ s
  refine wpAny_bind (tupleItemsOf_ ht ?_)
  refine wpAny_bind (wpAny_typeOf hTs ?_)
  rw [if_pos (by decide)]
  refine wpAny_bind (sliceApplied_rev hs ?_)
  have hno : ¬ ((((items.size : Int) - 1) == 0 && (-1 : Int) == 1 && items.size == items.size) = true) := by
    intro q
    rw [Bool.and_eq_true, Bool.and_eq_true] at q
    exact absurd (eq_of_beq q.1.2) (by decide)
  show wpAny _ _ (if (((items.size : Int) - 1) == 0 && (-1 : Int) == 1 && items.size == items.size) = true then _ else _) _ _ s
  rw [if_neg hno, pick_rev]
  first
    | exact wpAny_bind (m := Builtin.Tuple.tupleExact _) (wpAny_newObj_type (wpAny_pure ⟨_, rfl, wpAny_pure h⟩) htake)
    | exact wpAny_bind (m := Builtin.Tuple.tupleExact _) (wpAny_newObj_type (wpAny_bind (wpAny_pure (wpAny_pure ⟨_, rfl, wpAny_pure h⟩))) htake)
    | exact wpAny_bind (wpAny_bind (m := Builtin.Tuple.tupleExact _) (wpAny_newObj_type (wpAny_pure (wpAny_pure ⟨_, rfl, wpAny_pure h⟩)) htake))
    | exact wpAny_bind (wpAny_bind (m := Builtin.Tuple.tupleExact _) (wpAny_newObj_type (wpAny_pure ⟨_, rfl, wpAny_pure h⟩) htake))
end
section
variable {X : Cx}
/-- t[::-1] -/
def tRevT (K : PySem.W.Frag) (te : TE) : TE := fun σ H Q => te σ H fun x H1 => ∃ a xs, x = .ref a ∧ SqT K H1 a xs ∧ ∀ p, H1 p = none → Q (.ref p) (upd H1 p (.tup xs.reverse))
theorem pe_revT {e : Expr} {te : TE} {k : Nat} {p1 p2 p3 pos : Pos} (he : PE X e te) : PE X (.Subscript e (.Slice none none (some (.UnaryOp .USub (.Constant (.int 1) k p1) p2)) p3) pos) (tRevT X.K te) := by
  refine ⟨fun pins s σ H Q I h => ?_⟩
  refine Subscript_ (thn (he.run pins s σ H _ I h) fun v s1 ⟨x, H1, I1, r1, q1⟩ => ?_)
  obtain ⟨a, xs, ex, hx, q⟩ := q1
  subst ex
  cases r1
  have hst : PE X (.UnaryOp .USub (.Constant (.int 1) k p1) p2) (tUn (rU fun i => .int (-i)) (tC (.int 1))) := pe_un un_neg pe_int
  refine wpAny_Slice (thn (po_none.run pins s1 σ H1 (fun o H2 => o = none ∧ H2 = H1) I1 ⟨rfl, rfl⟩) fun vl s2 ⟨l, H2, I2, pl, el, e2⟩ => ?_)
  subst el e2
  cases pl
  refine thn (po_none.run pins s2 σ H2 (fun o H3 => o = none ∧ H3 = H2) I2 ⟨rfl, rfl⟩) fun vu s3 ⟨u, H3, I3, pu, eu, e3⟩ => ?_
  subst eu e3
  cases pu
  refine thn (hst.run pins s3 σ H3 (fun o H4 => o = V.int (-1) ∧ H4 = H3) I3 ⟨1, rfl, rfl, rfl⟩) fun vs s4 ⟨o, H4, I4, ps, eo, e4⟩ => ?_
  subst eo e4
  obtain ⟨tk, rfl⟩ := ps
  have I5 : Inv X pins σ H4 { s4 with heap := s4.heap.push { cls := .type "slice", data := .fields #[.none, .none, .int (-1) tk] } } := I4.kept (t' := s4.toks) fun b ob q => Heap.get?_push_of_some _ q
  obtain ⟨its, r, ht, hz⟩ := I5.tuple hx
  have hlen := r.length
  show wpAny (model X.prog X.w) X.A (subscriptTail e (.Slice none none (some (.UnaryOp .USub (.Constant (.int 1) k p1) p2)) p3) (.ref a) (.ref s4.heap.objs.size)) (EP X pins σ Q) X.xe { s4 with heap := s4.heap.push { cls := .type "slice", data := .fields #[.none, .none, .int (-1) tk] } }
  refine tail_any (ops := [.ref a, .ref s4.heap.objs.size]) ht.typeIs (PyProof.Rows.slot_tuple_getitem.lookup) ?_ (by with_unfolding_all rfl)
  refine getItem_tuple_rev ht (Heap.IsSliceOf.new _ .none .none (.int (-1) tk)) ?_ (by rw [List.size_toArray]; omega)
  refine ⟨.ref _, _, I5.laid (t' := s4.toks) (o := .tup xs.reverse) (fun b ob q => Heap.get?_push_of_some _ q) (Nat.le_refl _) ?_, rfl, q _ (I5.hok.fresh (Nat.le_refl _))⟩
  exact ⟨by rw [List.length_reverse]; exact hz, _, r.reverse, IsTup.new _ _⟩
end
end L2
namespace Pr
open PySem PySem.Spec PyProof.Rows L2
/-- draws: the pot goes on by c takes, R of what is told and the heap -/
def spDraw (c : Nat) (R : Addr → Hp → V → Prop) : Sp := fun vs H Q _ => ∃ (p : Addr) (n : Nat), vs = [.ref p] ∧ Pot p n H ∧ n + c < 100000 ∧
  ∀ v H', R p H' v → Pot p (n + c) H' → But p H H' → Q v H'
def isText : Addr → Hp → V → Prop := fun _ _ v => ∃ z : Str, v = .str z ∧ okS z
def isNum : Addr → Hp → V → Prop := fun _ _ v => ∃ i : Int, v = .int i
def AnyAll (p : Addr) (H : Hp) (xs : List V) : Prop := ∀ x ∈ xs, Any p H x
theorem AnyAll.nil {p : Addr} {H : Hp} : AnyAll p H [] := fun _ h => nomatch h
theorem AnyAll.cons {p : Addr} {H : Hp} {x : V} {xs : List V} (h : Any p H x) (t : AnyAll p H xs) : AnyAll p H (x :: xs) := fun y hy => by
  rcases List.mem_cons.mp hy with rfl | hy
  · exact h
  · exact t y hy
theorem AnyAll.append {p : Addr} {H : Hp} {xs ys : List V} (h : AnyAll p H xs) (t : AnyAll p H ys) : AnyAll p H (xs ++ ys) := fun y hy => (List.mem_append.mp hy).elim (h y) (t y)
theorem AnyAll.but {p : Addr} {H H' : Hp} {xs : List V} (h : AnyAll p H xs) (s : But p H H') : AnyAll p H' xs := fun x hx => (h x hx).but s
theorem AnyAll.same {p : Addr} {H H' : Hp} {xs : List V} (h : AnyAll p H xs) (s : Same H H') : AnyAll p H' xs := h.but (But.of s)
theorem Any.int {p : Addr} {H : Hp} (i : Int) : Any p H (.int i) := ⟨_, .int i⟩
theorem Any.non {p : Addr} {H : Hp} : Any p H .non := ⟨_, .non⟩
theorem Any.bl {p : Addr} {H : Hp} (b : Bool) : Any p H (.bl b) := ⟨_, .bl b⟩
theorem Any.str {p : Addr} {H : Hp} {z : Str} (h : okS z) : Any p H (.str z) := ⟨_, .str z h⟩
theorem Any.tup {p : Addr} {H : Hp} {a : Addr} {xs : List V} (e : H a = some (.tup xs)) (h : AnyAll p H xs) (hp : a ≠ p) : Any p H (.ref a) := by
  obtain ⟨ds, hs⟩ := IsAll.of_mem h
  exact ⟨_, .tup e hs hp⟩
theorem Any.lst {p : Addr} {H : Hp} {a : Addr} {xs : List V} (e : H a = some (.lst xs)) (hp : a ≠ p) : Any p H (.ref a) := ⟨_, .lst e hp⟩
theorem Any.dct {p : Addr} {H : Hp} {a : Addr} {xs : List (Key × V)} (e : H a = some (.dK xs)) (hp : a ≠ p) : Any p H (.ref a) := ⟨_, .dct e hp⟩
/-- a new tuple behind what is there -/
theorem accT {p : Addr} {n : Nat} {H : Hp} {acc xs : List V} (A : AnyAll p H acc) (P : Pot p n H) (hx : AnyAll p H xs) {a : Addr} (hn : H a = none) :
    ∃ H1, upd H a (.tup xs) = H1 ∧ Same H H1 ∧ AnyAll p H1 (acc ++ [.ref a]) ∧ Pot p n H1 ∧ H1 a = some (.tup xs) := by
  have s : Same H (upd H a (.tup xs)) := Same.new hn
  exact ⟨_, rfl, s, (A.same s).append (.cons (.tup upd_same (hx.same s) (P.ne hn)) .nil), P.same s, upd_same⟩
theorem accL {p : Addr} {n : Nat} {H : Hp} {acc xs : List V} (A : AnyAll p H acc) (P : Pot p n H) {a : Addr} (hn : H a = none) :
    ∃ H1, upd H a (.lst xs) = H1 ∧ Same H H1 ∧ AnyAll p H1 (acc ++ [.ref a]) ∧ Pot p n H1 ∧ H1 a = some (.lst xs) := by
  have s : Same H (upd H a (.lst xs)) := Same.new hn
  exact ⟨_, rfl, s, (A.same s).append (.cons (.lst upd_same (P.ne hn)) .nil), P.same s, upd_same⟩
theorem accD {p : Addr} {n : Nat} {H : Hp} {acc : List V} {xs : List (Key × V)} (A : AnyAll p H acc) (P : Pot p n H) {a : Addr} (hn : H a = none) :
    ∃ H1, upd H a (.dK xs) = H1 ∧ Same H H1 ∧ AnyAll p H1 (acc ++ [.ref a]) ∧ Pot p n H1 ∧ H1 a = some (.dK xs) := by
  have s : Same H (upd H a (.dK xs)) := Same.new hn
  exact ⟨_, rfl, s, (A.same s).append (.cons (.dct upd_same (P.ne hn)) .nil), P.same s, upd_same⟩
theorem pw {n : Int} (h0 : 0 ≤ n := by decide) (h1 : n ≤ 1000000 := by decide) : CPow 10 n := ⟨h0, h1, by decide⟩
end Pr
namespace Pr
open PySem PySem.Spec PyProof.Rows L2
section
variable {X : Cx}
theorem cutV_whole {xs : List V} {lo hi : Option Int} (h : HT.sIx xs.length 0 lo = 0 ∧ HT.sIx xs.length xs.length hi = xs.length) : cutV xs lo hi = xs := by
  unfold cutV
  rw [h.1, h.2, List.drop_zero, Nat.sub_zero]
  exact List.take_length
def rSlB : V → Option Int → Option Int → Hp → VK → Prop := fun x lo hi H Q => ∃ a xs, x = .ref a ∧ H a = some (.tup xs) ∧ ∀ t H', Same H H' → H' t = some (.tup (cutV xs lo hi)) → Q (.ref t) H'
theorem sl_tupB : SlR X rSlB := by
  intro pins s σ H x v vl vu lo hi sl Q I rx hs pl pu h
  obtain ⟨a, xs, rfl, e, q⟩ := h
  exact sl_tupA pins s σ H _ v vl vu lo hi sl Q I rx hs pl pu ⟨a, xs, rfl, .inl (.inl e), fun hw => q a H (.refl _) (by rw [cutV_whole hw]; exact e), fun _ t ht => q t _ (Same.new ht) upd_same⟩
def rCatB : R2 := fun x y H Q => ∃ a b xs ys, x = .ref a ∧ y = .ref b ∧ H a = some (.tup xs) ∧ H b = some (.tup ys) ∧ xs.length + ys.length ≤ sizeLine ∧ ∀ t H', Same H H' → H' t = some (.tup (xs ++ ys)) → Q (.ref t) H'
theorem op_catB : OpR X (binaryOp .Add) rCatB := by
  intro pins s σ H x y v u Q I rx ry h
  obtain ⟨a, b, xs, ys, rfl, rfl, ea, eb, hl, q⟩ := h
  refine op_catA pins s σ H _ _ v u Q I rx ry ⟨a, b, xs, ys, rfl, rfl, .inl (.inl ea), .inl (.inl eb), hl, fun h => ?_, fun _ h => ?_, fun _ _ t ht => q t _ (Same.new ht) upd_same⟩
  · subst h
    exact q b H (.refl _) eb
  · subst h
    exact q a H (.refl _) (by rw [List.append_nil]; exact ea)
end
theorem tupNe {p a : Addr} {n : Nat} {H : Hp} {xs : List V} (P : Pot p n H) (e : H a = some (.tup xs)) : a ≠ p := by
  obtain ⟨x, y, z, ep, _⟩ := P
  exact ne_of e ep (by intro z; cases z)
theorem AnyAll.cut {p : Addr} {H : Hp} {xs : List V} (h : AnyAll p H xs) (lo hi : Option Int) : AnyAll p H (cutV xs lo hi) := fun x hx => h x (mem_cutV hx)
theorem cutV_len (xs : List V) (lo hi : Option Int) : (cutV xs lo hi).length ≤ xs.length := cutV_length xs lo hi
def oneS (c : Nat) : Str := ⟨#[c]⟩
theorem dpAll_ones {K : PySem.W.Frag} {H : Hp} : ∀ cs : List Nat, DpAll K H (cs.map fun c => V.str (oneS c)) (cs.map fun c => PyData.str (oneS c))
  | [] => .nil
  | c :: r => .cons (.str _) (dpAll_ones r)
theorem canLay_ones : ∀ cs : List Nat, (∀ c ∈ cs, c < 0x110000) → PyData.canLayAll0 (cs.map fun c => PyData.str (oneS c)) = true
  | [], _ => rfl
  | c :: r, h => by
    rw [List.map_cons, PyData.canLayAll0, canLay_ones r fun d hd => h d (List.mem_cons_of_mem _ hd), Bool.and_true]
    show PyData.strOk (oneS c) = true
    exact strOk_iff.mpr fun d hd => by rw [List.mem_singleton.mp hd]; exact h c List.mem_cons_self
theorem depth_ones : ∀ cs : List Nat, PyData.depthAll (cs.map fun c => PyData.str (oneS c)) = 0
  | [] => rfl
  | c :: r => by
    rw [List.map_cons, PyData.depthAll, depth_ones r]
    rfl
theorem shaped_ones {cs : List Nat} (h : ∀ c ∈ cs, c < 0x110000) : SeqAt.shaped (.list (cs.map fun c => PyData.str (oneS c))) = true := by
  unfold SeqAt.shaped
  rw [PyData.canLay0, canLay_ones cs h, Bool.true_and, PyData.depth, depth_ones]
  rfl
theorem eqv_ones (cs : List Nat) : PyData.eqv (.list (cs.map fun c => PyData.str (oneS c))) (.list []) = cs.isEmpty := by
  cases cs with
  | nil => rfl
  | cons c r => rfl
theorem filter_empty (z : Str) : (z.cps.toList.filter fun c => !decide (c ∈ azS.cps.toList)).isEmpty = azAll z := by
  unfold azAll
  generalize z.cps.toList = l
  induction l with
  | nil => rfl
  | cons c r ih =>
    rw [List.filter_cons, List.all_cons, ← mem_az c]
    cases hc : decide (c ∈ azS.cps.toList)
    · rfl
    · rw [Bool.true_and]
      exact ih
theorem notEqv_str {x y : Str} : PyData.eqv (.str x) (.str y) = decide (x = y) := by
  rw [PyData.eqv]
  by_cases h : x = y
  · subst h; simp
  · rw [decide_eq_false h]; simpa using h
end Pr
namespace K03
open PySem PySem.Spec PyProof.Rows L2 Pr
def topS (i : Nat) : Stmt := PySem.Challenge.pw_forkrolls_k03_places_known.main.body.getD i (.Pass ⟨0, 0, 0, 0⟩)
abbrev s_is_whole : Stmt := topS 10
abbrev N_is_whole : List Str := ["thing", "low", "high"]
theorem sc_is_whole : FnScope N_is_whole ["thing", "low", "high"] (defScope s_is_whole) := ⟨rfl, rfl, rfl, by decide +kernel, rfl, by decide +kernel, by decide +kernel⟩
abbrev s_is_word : Stmt := topS 11
abbrev N_is_word : List Str := ["thing"]
theorem sc_is_word : FnScope N_is_word ["thing"] (defScope s_is_word) := ⟨rfl, rfl, rfl, by decide +kernel, rfl, by decide +kernel, by decide +kernel⟩
abbrev s_is_name : Stmt := topS 12
abbrev N_is_name : List Str := ["thing"]
theorem sc_is_name : FnScope N_is_name ["thing"] (defScope s_is_name) := ⟨rfl, rfl, rfl, by decide +kernel, rfl, by decide +kernel, by decide +kernel⟩
abbrev s_is_key : Stmt := topS 13
abbrev N_is_key : List Str := ["thing"]
theorem sc_is_key : FnScope N_is_key ["thing"] (defScope s_is_key) := ⟨rfl, rfl, rfl, by decide +kernel, rfl, by decide +kernel, by decide +kernel⟩
abbrev s_is_value : Stmt := topS 14
abbrev N_is_value : List Str := ["thing"]
theorem sc_is_value : FnScope N_is_value ["thing"] (defScope s_is_value) := ⟨rfl, rfl, rfl, by decide +kernel, rfl, by decide +kernel, by decide +kernel⟩
abbrev s_is_hand : Stmt := topS 15
abbrev N_is_hand : List Str := ["thing"]
theorem sc_is_hand : FnScope N_is_hand ["thing"] (defScope s_is_hand) := ⟨rfl, rfl, rfl, by decide +kernel, rfl, by decide +kernel, by decide +kernel⟩
abbrev s_is_kind : Stmt := topS 16
abbrev N_is_kind : List Str := ["thing"]
theorem sc_is_kind : FnScope N_is_kind ["thing"] (defScope s_is_kind) := ⟨rfl, rfl, rfl, by decide +kernel, rfl, by decide +kernel, by decide +kernel⟩
abbrev s_is_id : Stmt := topS 17
abbrev N_is_id : List Str := ["thing", "hand", "name", "number"]
theorem sc_is_id : FnScope N_is_id ["thing"] (defScope s_is_id) := ⟨rfl, rfl, rfl, by decide +kernel, rfl, by decide +kernel, by decide +kernel⟩
abbrev s_is_place : Stmt := topS 21
abbrev N_is_place : List Str := ["thing", "word", "rest"]
theorem sc_is_place : FnScope N_is_place ["thing"] (defScope s_is_place) := ⟨rfl, rfl, rfl, by decide +kernel, rfl, by decide +kernel, by decide +kernel⟩
abbrev s__may_follow : Stmt := topS 22
abbrev N__may_follow : List Str := ["word", "part"]
theorem sc__may_follow : FnScope N__may_follow ["word", "part"] (defScope s__may_follow) := ⟨rfl, rfl, rfl, by decide +kernel, rfl, by decide +kernel, by decide +kernel⟩
abbrev s_need_place : Stmt := topS 23
abbrev N_need_place : List Str := ["thing"]
theorem sc_need_place : FnScope N_need_place ["thing"] (defScope s_need_place) := ⟨rfl, rfl, rfl, by decide +kernel, rfl, by decide +kernel, by decide +kernel⟩
abbrev s_table_of : Stmt := topS 24
abbrev N_table_of : List Str := ["place"]
theorem sc_table_of : FnScope N_table_of ["place"] (defScope s_table_of) := ⟨rfl, rfl, rfl, by decide +kernel, rfl, by decide +kernel, by decide +kernel⟩
abbrev s_may_stand : Stmt := topS 25
abbrev N_may_stand : List Str := ["place", "thing"]
theorem sc_may_stand : FnScope N_may_stand ["place", "thing"] (defScope s_may_stand) := ⟨rfl, rfl, rfl, by decide +kernel, rfl, by decide +kernel, by decide +kernel⟩
abbrev s__fits : Stmt := topS 26
abbrev N__fits : List Str := ["word", "thing"]
theorem sc__fits : FnScope N__fits ["word", "thing"] (defScope s__fits) := ⟨rfl, rfl, rfl, by decide +kernel, rfl, by decide +kernel, by decide +kernel⟩
abbrev s__law_pot : Stmt := topS 28
abbrev N__law_pot : List Str := ["script", "k", "cell"]
theorem sc__law_pot : FnScope N__law_pot ["script", "k"] (defScope s__law_pot) := ⟨rfl, rfl, rfl, by decide +kernel, rfl, by decide +kernel, by decide +kernel⟩
abbrev s__law_take : Stmt := topS 29
abbrev N__law_take : List Str := ["pot", "many", "found", "one", "other"]
theorem sc__law_take : FnScope N__law_take ["pot", "many"] (defScope s__law_take) := ⟨rfl, rfl, rfl, by decide +kernel, rfl, by decide +kernel, by decide +kernel⟩
abbrev s__law_whole : Stmt := topS 30
abbrev N__law_whole : List Str := ["found"]
theorem sc__law_whole : FnScope N__law_whole ["found"] (defScope s__law_whole) := ⟨rfl, rfl, rfl, by decide +kernel, rfl, by decide +kernel, by decide +kernel⟩
abbrev s__law_word : Stmt := topS 31
abbrev N__law_word : List Str := ["pot", "many", "word", "k"]
theorem sc__law_word : FnScope N__law_word ["pot"] (defScope s__law_word) := ⟨rfl, rfl, rfl, by decide +kernel, rfl, by decide +kernel, by decide +kernel⟩
abbrev s__law_words_all : Stmt := topS 32
abbrev N__law_words_all : List Str := []
theorem sc__law_words_all : FnScope N__law_words_all [] (defScope s__law_words_all) := ⟨rfl, rfl, rfl, by decide +kernel, rfl, by decide +kernel, by decide +kernel⟩
abbrev s__law_an_id : Stmt := topS 33
abbrev N__law_an_id : List Str := ["pot"]
theorem sc__law_an_id : FnScope N__law_an_id ["pot"] (defScope s__law_an_id) := ⟨rfl, rfl, rfl, by decide +kernel, rfl, by decide +kernel, by decide +kernel⟩
abbrev s__law_a_key : Stmt := topS 34
abbrev N__law_a_key : List Str := ["pot"]
theorem sc__law_a_key : FnScope N__law_a_key ["pot"] (defScope s__law_a_key) := ⟨rfl, rfl, rfl, by decide +kernel, rfl, by decide +kernel, by decide +kernel⟩
abbrev s__law_a_place : Stmt := topS 35
abbrev N__law_a_place : List Str := ["pot", "word", "table"]
theorem sc__law_a_place : FnScope N__law_a_place ["pot", "word"] (defScope s__law_a_place) := ⟨rfl, rfl, rfl, by decide +kernel, rfl, by decide +kernel, by decide +kernel⟩
abbrev s__law_odd : Stmt := topS 36
abbrev N__law_odd : List Str := ["pot", "some"]
theorem sc__law_odd : FnScope N__law_odd ["pot"] (defScope s__law_odd) := ⟨rfl, rfl, rfl, by decide +kernel, rfl, by decide +kernel, by decide +kernel⟩
abbrev s__law_bent : Stmt := topS 37
abbrev N__law_bent : List Str := ["pot", "place", "at", "odd", "some"]
theorem sc__law_bent : FnScope N__law_bent ["pot", "place"] (defScope s__law_bent) := ⟨rfl, rfl, rfl, by decide +kernel, rfl, by decide +kernel, by decide +kernel⟩
abbrev s__law_is_name : Stmt := topS 38
abbrev N__law_is_name : List Str := ["thing", "letter"]
theorem sc__law_is_name : FnScope N__law_is_name ["thing"] (defScope s__law_is_name) := ⟨rfl, rfl, rfl, by decide +kernel, rfl, by decide +kernel, by decide +kernel⟩
abbrev s__law_is_id : Stmt := topS 39
abbrev N__law_is_id : List Str := ["thing"]
theorem sc__law_is_id : FnScope N__law_is_id ["thing"] (defScope s__law_is_id) := ⟨rfl, rfl, rfl, by decide +kernel, rfl, by decide +kernel, by decide +kernel⟩
abbrev s__law_is_key : Stmt := topS 40
abbrev N__law_is_key : List Str := ["thing"]
theorem sc__law_is_key : FnScope N__law_is_key ["thing"] (defScope s__law_is_key) := ⟨rfl, rfl, rfl, by decide +kernel, rfl, by decide +kernel, by decide +kernel⟩
abbrev s__law_is_place : Stmt := topS 41
abbrev N__law_is_place : List Str := ["thing", "word"]
theorem sc__law_is_place : FnScope N__law_is_place ["thing"] (defScope s__law_is_place) := ⟨rfl, rfl, rfl, by decide +kernel, rfl, by decide +kernel, by decide +kernel⟩
abbrev s__law_stands : Stmt := topS 42
abbrev N__law_stands : List Str := ["place", "thing", "word"]
theorem sc__law_stands : FnScope N__law_stands ["place", "thing"] (defScope s__law_stands) := ⟨rfl, rfl, rfl, by decide +kernel, rfl, by decide +kernel, by decide +kernel⟩
abbrev s__law_told : Stmt := topS 43
abbrev N__law_told : List Str := ["way", "place", "thing", "e"]
theorem sc__law_told : FnScope N__law_told ["way", "place", "thing"] (defScope s__law_told) := ⟨rfl, rfl, rfl, by decide +kernel, rfl, by decide +kernel, by decide +kernel⟩
abbrev s__law_right : Stmt := topS 44
abbrev N__law_right : List Str := ["place", "thing", "good", "told", "found"]
theorem sc__law_right : FnScope N__law_right ["place", "thing"] (defScope s__law_right) := ⟨rfl, rfl, rfl, by decide +kernel, rfl, by decide +kernel, by decide +kernel⟩
abbrev s_law : Stmt := topS 45
abbrev N_law : List Str := ["script", "k", "pot", "word", "place", "kind", "fine", "thing"]
theorem sc_law : FnScope N_law ["script"] (defScope s_law) := ⟨rfl, rfl, rfl, by decide +kernel, rfl, by decide +kernel, by decide +kernel⟩
structure Txt (K : PySem.W.Frag) (mg : Str → Option Value) where
  f_is_whole : Addr
  d_is_whole : FuncData
  F_is_whole : Fun K "is_whole" "is_whole" s_is_whole f_is_whole d_is_whole
  g_is_whole : mg "is_whole" = some (.ref f_is_whole)
  b_is_whole : Binds K d_is_whole ["thing", "low", "high"] []
  f_is_word : Addr
  d_is_word : FuncData
  F_is_word : Fun K "is_word" "is_word" s_is_word f_is_word d_is_word
  g_is_word : mg "is_word" = some (.ref f_is_word)
  b_is_word : Binds K d_is_word ["thing"] []
  f_is_name : Addr
  d_is_name : FuncData
  F_is_name : Fun K "is_name" "is_name" s_is_name f_is_name d_is_name
  g_is_name : mg "is_name" = some (.ref f_is_name)
  b_is_name : Binds K d_is_name ["thing"] []
  f_is_key : Addr
  d_is_key : FuncData
  F_is_key : Fun K "is_key" "is_key" s_is_key f_is_key d_is_key
  g_is_key : mg "is_key" = some (.ref f_is_key)
  b_is_key : Binds K d_is_key ["thing"] []
  f_is_value : Addr
  d_is_value : FuncData
  F_is_value : Fun K "is_value" "is_value" s_is_value f_is_value d_is_value
  g_is_value : mg "is_value" = some (.ref f_is_value)
  b_is_value : Binds K d_is_value ["thing"] []
  f_is_hand : Addr
  d_is_hand : FuncData
  F_is_hand : Fun K "is_hand" "is_hand" s_is_hand f_is_hand d_is_hand
  g_is_hand : mg "is_hand" = some (.ref f_is_hand)
  b_is_hand : Binds K d_is_hand ["thing"] []
  f_is_kind : Addr
  d_is_kind : FuncData
  F_is_kind : Fun K "is_kind" "is_kind" s_is_kind f_is_kind d_is_kind
  g_is_kind : mg "is_kind" = some (.ref f_is_kind)
  b_is_kind : Binds K d_is_kind ["thing"] []
  f_is_id : Addr
  d_is_id : FuncData
  F_is_id : Fun K "is_id" "is_id" s_is_id f_is_id d_is_id
  g_is_id : mg "is_id" = some (.ref f_is_id)
  b_is_id : Binds K d_is_id ["thing"] []
  f_is_place : Addr
  d_is_place : FuncData
  F_is_place : Fun K "is_place" "is_place" s_is_place f_is_place d_is_place
  g_is_place : mg "is_place" = some (.ref f_is_place)
  b_is_place : Binds K d_is_place ["thing"] []
  f__may_follow : Addr
  d__may_follow : FuncData
  F__may_follow : Fun K "_may_follow" "_may_follow" s__may_follow f__may_follow d__may_follow
  g__may_follow : mg "_may_follow" = some (.ref f__may_follow)
  b__may_follow : Binds K d__may_follow ["word", "part"] []
  f_need_place : Addr
  d_need_place : FuncData
  F_need_place : Fun K "need_place" "need_place" s_need_place f_need_place d_need_place
  g_need_place : mg "need_place" = some (.ref f_need_place)
  b_need_place : Binds K d_need_place ["thing"] []
  f_table_of : Addr
  d_table_of : FuncData
  F_table_of : Fun K "table_of" "table_of" s_table_of f_table_of d_table_of
  g_table_of : mg "table_of" = some (.ref f_table_of)
  b_table_of : Binds K d_table_of ["place"] []
  f_may_stand : Addr
  d_may_stand : FuncData
  F_may_stand : Fun K "may_stand" "may_stand" s_may_stand f_may_stand d_may_stand
  g_may_stand : mg "may_stand" = some (.ref f_may_stand)
  b_may_stand : Binds K d_may_stand ["place", "thing"] []
  f__fits : Addr
  d__fits : FuncData
  F__fits : Fun K "_fits" "_fits" s__fits f__fits d__fits
  g__fits : mg "_fits" = some (.ref f__fits)
  b__fits : Binds K d__fits ["word", "thing"] []
  f__law_pot : Addr
  d__law_pot : FuncData
  F__law_pot : Fun K "_law_pot" "_law_pot" s__law_pot f__law_pot d__law_pot
  g__law_pot : mg "_law_pot" = some (.ref f__law_pot)
  b__law_pot : Binds K d__law_pot ["script", "k"] []
  f__law_take : Addr
  d__law_take : FuncData
  F__law_take : Fun K "_law_take" "_law_take" s__law_take f__law_take d__law_take
  g__law_take : mg "_law_take" = some (.ref f__law_take)
  b__law_take : Binds K d__law_take ["pot", "many"] []
  f__law_whole : Addr
  d__law_whole : FuncData
  F__law_whole : Fun K "_law_whole" "_law_whole" s__law_whole f__law_whole d__law_whole
  g__law_whole : mg "_law_whole" = some (.ref f__law_whole)
  b__law_whole : Binds K d__law_whole ["found"] []
  f__law_word : Addr
  d__law_word : FuncData
  F__law_word : Fun K "_law_word" "_law_word" s__law_word f__law_word d__law_word
  g__law_word : mg "_law_word" = some (.ref f__law_word)
  b__law_word : Binds K d__law_word ["pot"] []
  f__law_words_all : Addr
  d__law_words_all : FuncData
  F__law_words_all : Fun K "_law_words_all" "_law_words_all" s__law_words_all f__law_words_all d__law_words_all
  g__law_words_all : mg "_law_words_all" = some (.ref f__law_words_all)
  b__law_words_all : Binds K d__law_words_all [] []
  f__law_an_id : Addr
  d__law_an_id : FuncData
  F__law_an_id : Fun K "_law_an_id" "_law_an_id" s__law_an_id f__law_an_id d__law_an_id
  g__law_an_id : mg "_law_an_id" = some (.ref f__law_an_id)
  b__law_an_id : Binds K d__law_an_id ["pot"] []
  f__law_a_key : Addr
  d__law_a_key : FuncData
  F__law_a_key : Fun K "_law_a_key" "_law_a_key" s__law_a_key f__law_a_key d__law_a_key
  g__law_a_key : mg "_law_a_key" = some (.ref f__law_a_key)
  b__law_a_key : Binds K d__law_a_key ["pot"] []
  f__law_a_place : Addr
  d__law_a_place : FuncData
  F__law_a_place : Fun K "_law_a_place" "_law_a_place" s__law_a_place f__law_a_place d__law_a_place
  g__law_a_place : mg "_law_a_place" = some (.ref f__law_a_place)
  b__law_a_place : Binds K d__law_a_place ["pot", "word"] []
  f__law_odd : Addr
  d__law_odd : FuncData
  F__law_odd : Fun K "_law_odd" "_law_odd" s__law_odd f__law_odd d__law_odd
  g__law_odd : mg "_law_odd" = some (.ref f__law_odd)
  b__law_odd : Binds K d__law_odd ["pot"] []
  f__law_bent : Addr
  d__law_bent : FuncData
  F__law_bent : Fun K "_law_bent" "_law_bent" s__law_bent f__law_bent d__law_bent
  g__law_bent : mg "_law_bent" = some (.ref f__law_bent)
  b__law_bent : Binds K d__law_bent ["pot", "place"] []
  f__law_is_name : Addr
  d__law_is_name : FuncData
  F__law_is_name : Fun K "_law_is_name" "_law_is_name" s__law_is_name f__law_is_name d__law_is_name
  g__law_is_name : mg "_law_is_name" = some (.ref f__law_is_name)
  b__law_is_name : Binds K d__law_is_name ["thing"] []
  f__law_is_id : Addr
  d__law_is_id : FuncData
  F__law_is_id : Fun K "_law_is_id" "_law_is_id" s__law_is_id f__law_is_id d__law_is_id
  g__law_is_id : mg "_law_is_id" = some (.ref f__law_is_id)
  b__law_is_id : Binds K d__law_is_id ["thing"] []
  f__law_is_key : Addr
  d__law_is_key : FuncData
  F__law_is_key : Fun K "_law_is_key" "_law_is_key" s__law_is_key f__law_is_key d__law_is_key
  g__law_is_key : mg "_law_is_key" = some (.ref f__law_is_key)
  b__law_is_key : Binds K d__law_is_key ["thing"] []
  f__law_is_place : Addr
  d__law_is_place : FuncData
  F__law_is_place : Fun K "_law_is_place" "_law_is_place" s__law_is_place f__law_is_place d__law_is_place
  g__law_is_place : mg "_law_is_place" = some (.ref f__law_is_place)
  b__law_is_place : Binds K d__law_is_place ["thing"] []
  f__law_stands : Addr
  d__law_stands : FuncData
  F__law_stands : Fun K "_law_stands" "_law_stands" s__law_stands f__law_stands d__law_stands
  g__law_stands : mg "_law_stands" = some (.ref f__law_stands)
  b__law_stands : Binds K d__law_stands ["place", "thing"] []
  f__law_told : Addr
  d__law_told : FuncData
  F__law_told : Fun K "_law_told" "_law_told" s__law_told f__law_told d__law_told
  g__law_told : mg "_law_told" = some (.ref f__law_told)
  b__law_told : Binds K d__law_told ["way", "place", "thing"] []
  f__law_right : Addr
  d__law_right : FuncData
  F__law_right : Fun K "_law_right" "_law_right" s__law_right f__law_right d__law_right
  g__law_right : mg "_law_right" = some (.ref f__law_right)
  b__law_right : Binds K d__law_right ["place", "thing"] []
  f_law : Addr
  d_law : FuncData
  F_law : Fun K "law" "law" s_law f_law d_law
  g_law : mg "law" = some (.ref f_law)
  b_law : Binds K d_law ["script"] []
  f_RollError : Addr
  g_RollError : mg "RollError" = some (.ref f_RollError)
  s_RollError : PySem.W.subIn K (.ref f_RollError) (.type "BaseException") = some true
  t_RollError : PySem.W.typeIn K (.ref f_RollError) = some (.type "type")
  hd_RollError : PySem.W.hasDictIn K f_RollError = true
  f_NoPlace : Addr
  g_NoPlace : mg "NoPlace" = some (.ref f_NoPlace)
  s_NoPlace : PySem.W.subIn K (.ref f_NoPlace) (.type "BaseException") = some true
  t_NoPlace : PySem.W.typeIn K (.ref f_NoPlace) = some (.type "type")
  hd_NoPlace : PySem.W.hasDictIn K f_NoPlace = true
  x_NoPlace : PySem.W.excIn K f_NoPlace [.type "ValueError", .type "Exception", .type "BaseException", .type "object"] "ValueError.__new__" = true
  k_NoPlace : PySem.W.keepIn K (.ref f_NoPlace) = true
  eg_NoPlace : PySem.W.findIn K (.ref f_NoPlace) "__getattribute__" = some (some (.builtin "BaseException.__getattribute__"))
  ek_NoPlace : PySem.W.findIn K (.ref f_NoPlace) "__getattr__" = some none
  ea_NoPlace : PySem.W.findIn K (.ref f_NoPlace) "__class__" = some (some (.builtin "object.__class__"))
  em_NoPlace : PySem.W.mroIn K f_NoPlace (.type "object") = some true
  en_NoPlace : PySem.W.specialIn K (.builtin "object.__class__") "__get__" = some (some (.builtin "getset_descriptor.__get__"))
  et_NoPlace : PySem.W.takesIn K (.builtin "object.__class__") = some true
  u_RollError_NoPlace : PySem.W.subIn K (.ref f_NoPlace) (.ref f_RollError) = some true
  t_MOST_LETTERS : Tok
  c_MOST_LETTERS : mg "MOST_LETTERS" = some (.int 8 t_MOST_LETTERS)
  t_MOST_KEY : Tok
  c_MOST_KEY : mg "MOST_KEY" = some (.int 1000000000 t_MOST_KEY)
  t_MOST_VALUE : Tok
  c_MOST_VALUE : mg "MOST_VALUE" = some (.int 1000000000 t_MOST_VALUE)
  t_MOST_HAND : Tok
  c_MOST_HAND : mg "MOST_HAND" = some (.int 7 t_MOST_HAND)
  f_KINDS : Addr
  c_KINDS : mg "KINDS" = some (.ref f_KINDS)
  s_KINDS : ∀ H, SqT K H f_KINDS ((["number", "word", "any"] : List Str).map V.str)
  t_MOST_NUMBER : Tok
  c_MOST_NUMBER : mg "MOST_NUMBER" = some (.int 1000000 t_MOST_NUMBER)
  f_ID_WORDS : Addr
  c_ID_WORDS : mg "ID_WORDS" = some (.ref f_ID_WORDS)
  s_ID_WORDS : ∀ H, SqT K H f_ID_WORDS ((["column", "name", "kind", "else"] : List Str).map V.str)
  f_BARE_WORDS : Addr
  c_BARE_WORDS : mg "BARE_WORDS" = some (.ref f_BARE_WORDS)
  s_BARE_WORDS : ∀ H, SqT K H f_BARE_WORDS ((["table", "column", "row"] : List Str).map V.str)
  n_isinstance : mg "isinstance" = none
  n_bool : mg "bool" = none
  n_int : mg "int" = none
  n_str : mg "str" = none
  n_len : mg "len" = none
  n_tuple : mg "tuple" = none
  n_abs : mg "abs" = none
  n_range : mg "range" = none
  n_list : mg "list" = none
  n_max : mg "max" = none
  n_min : mg "min" = none
section
variable {P : Program} {w : World} {K : PySem.W.Frag} {mg : Str → Option Value} {base : Heap}
theorem ok_is_whole {k : Nat} (T : Txt K mg) : FnOk P w K mg base CX0 (k + 1) T.f_is_whole T.d_is_whole ["thing", "low", "high"] spWhole := by
  refine (T.F_is_whole).ok sc_is_whole (fun vs H Q E h => ?_) (fun cdv A outer s H vs Q E hr h => ?_)
  · obtain ⟨p, v, d, lo, hi, rfl, _⟩ := h
    rfl
  · obtain ⟨p, v, d, lo, hi, rfl, hd, q⟩ := h
    refine ⟨_, (pss_cons (ps_if (PW.pt (pw_or (pt_val (pe_callB call_isd (by rfl) T.n_isinstance (by decide +kernel) (pa_cons (pv 0) (pa_cons (pe_bltn (by rfl) T.n_bool (by decide +kernel) (v := .ty "bool") rfl) pa_nil)))) (pw_or1 (pt_not (pt_val (pe_callB call_isd (by rfl) T.n_isinstance (by decide +kernel) (pa_cons (pv 0) (pa_cons (pe_bltn (by rfl) T.n_int (by decide +kernel) (v := .ty "int") rfl) pa_nil)))))))) (pss_one (ps_ret pe_bl)) pss_nil) (pss_one (ps_ret (pe_chain op_le op_le (pv 1) (pv 0) (pv 2))))), ?_⟩
    refine ⟨_, rfl, p, _, d, "bool", rfl, .inl rfl, hd, _, rfl, ?_⟩
    have hd' := hd
    cases hd' <;> first | exact q _ (.refl _) | refine ⟨_, rfl, p, _, _, "int", rfl, .inr (.inl rfl), hd, _, rfl, ?_⟩
    all_goals first | exact q _ (.refl _) | skip
    rename_i i
    have q1 := q _ (.refl _)
    refine ⟨_, rfl, _, rfl, lo, i, rfl, rfl, _, rfl, ite2 (fun h1 => ?_) (fun h1 => ?_)⟩
    · refine ⟨_, rfl, i, hi, rfl, rfl, ?_⟩
      have e : mWhole lo hi (.int i) = decide (i ≤ hi) := by
        show (decide (lo ≤ i) && decide (i ≤ hi)) = _
        rw [h1, Bool.true_and]
      rw [e] at q1
      exact q1
    · have e : mWhole lo hi (.int i) = false := by
        show (decide (lo ≤ i) && decide (i ≤ hi)) = _
        rw [Bool.eq_false_iff.mpr h1, Bool.false_and]
      rw [e] at q1
      exact q1
theorem ok_is_word {k : Nat} (T : Txt K mg) : FnOk P w K mg base CX0 (k + 1) T.f_is_word T.d_is_word ["thing"] (spD mWord) := by
  refine (T.F_is_word).ok sc_is_word (fun vs H Q E h => ?_) (fun cdv A outer s H vs Q E hr h => ?_)
  · obtain ⟨p, v, d, rfl, _⟩ := h
    rfl
  · obtain ⟨p, v, d, rfl, hd, q⟩ := h
    refine ⟨_, (pss_cons (ps_if (PW.pt (pw_or (pt_not (pt_val (pe_callB call_isd (by rfl) T.n_isinstance (by decide +kernel) (pa_cons (pv 0) (pa_cons (pe_bltn (by rfl) T.n_str (by decide +kernel) (v := .ty "str") rfl) pa_nil))))) (pw_or1 (pt_cmpR op_gt (pe_callB call_len_str (by rfl) T.n_len PySem.boot_len (pa_cons (pv 0) pa_nil)) (pe_glob (v := .int 8) (by rfl) T.c_MOST_LETTERS ⟨_, rfl⟩) (nomark _))))) (pss_one (ps_ret pe_bl)) pss_nil) (pss_one (ps_ret (pe_and (pe_m0 PySem.F.slot_str_isascii PySem.F.type_str_isascii mt_isascii (pv 0)) (pe_and (pe_m0 PySem.F.slot_str_isalpha PySem.F.type_str_isalpha mt_isalpha (pv 0)) (pe_one (pe_m0 PySem.F.slot_str_islower PySem.F.type_str_islower mt_islower (pv 0)))))))), ?_⟩
    refine ⟨_, rfl, p, _, d, "str", rfl, .inr (.inr (.inl rfl)), hd, _, rfl, ?_⟩
    replace q := q _ (.refl _)
    cases hd <;> first | exact q | skip
    rename_i z hz
    refine ⟨_, rfl, _, rfl, Nat.le_of_lt (small1000 hz.1), _, _, rfl, rfl, _, rfl, ite2 (fun h1 => ?_) (fun h1 => ?_)⟩
    · have e : mWord (.str z) = false := by
        show (decide (z.length ≤ 8) && _) = _
        have h2 : ¬ z.length ≤ 8 := by
          have := of_decide_eq_true h1
          omega
        rw [decide_eq_false h2, Bool.false_and]
      rw [e] at q
      exact q
    · have h2 : z.length ≤ 8 := by
        have := of_decide_eq_false (Bool.eq_false_iff.mpr h1)
        omega
      have e : mWord (.str z) = (Txt.isascii z && (Txt.isalpha z && Txt.islower z)) := by
        rw [az_word]
        show (decide (z.length ≤ 8) && _) = _
        rw [decide_eq_true h2, Bool.true_and]
      rw [e] at q
      refine ⟨_, rfl, ⟨_, rfl⟩, _, rfl, rfl, trivial, _, rfl, ?_⟩
      cases ha : Txt.isascii z
      · rw [ha] at q
        exact q
      · rw [ha] at q
        refine ⟨_, rfl, ⟨_, rfl⟩, _, rfl, rfl, trivial, _, rfl, ?_⟩
        cases hb : Txt.isalpha z
        · rw [hb] at q
          exact q
        · rw [hb] at q
          exact ⟨_, rfl, ⟨_, rfl⟩, _, rfl, rfl, trivial, q⟩
theorem ok_is_name {k : Nat} (T : Txt K mg) : FnOk P w K mg base CX0 (k + 2) T.f_is_name T.d_is_name ["thing"] (spD mName) := by
  refine (T.F_is_name).ok sc_is_name (fun vs H Q E h => ?_) (fun cdv A outer s H vs Q E hr h => ?_)
  · obtain ⟨p, v, d, rfl, _⟩ := h
    rfl
  · obtain ⟨p, v, d, rfl, hd, q⟩ := h
    refine ⟨_, (pss_one (ps_ret (pe_and (pe_call (ok_is_word T) hr (by rfl) T.g_is_word T.F_is_word.kp T.b_is_word .nil pass0 (pa_cons (pv 0) pa_nil)) (pe_one (pe_cmpR op_ne (pv 0) pe_str (nomark _)))))), ?_⟩
    refine ⟨_, rfl, p, v, d, rfl, hd, fun H1 s1 => ⟨_, rfl, ite2 (fun h1 => ?_) (fun h1 => ?_)⟩⟩
    · obtain ⟨z, rfl⟩ := mWord_str h1
      obtain ⟨rfl, hz⟩ := hd.str_inv
      refine ⟨_, rfl, rfl, ?_⟩
      have q1 := q _ s1
      unfold mName at q1
      rw [h1, Bool.true_and] at q1
      have e : isS (.str z) "key" = decide (V.str z = V.str "key") := by
        show decide (z = _) = _
        apply decide_eq_decide.mpr
        exact ⟨fun h => by rw [h], fun h => V.str.inj h⟩
      rw [e] at q1
      exact q1
    · have q1 := q _ s1
      unfold mName at q1
      rw [Bool.eq_false_iff.mpr h1, Bool.false_and] at q1
      exact q1
theorem ok_is_key {k : Nat} (T : Txt K mg) : FnOk P w K mg base CX0 (k + 2) T.f_is_key T.d_is_key ["thing"] (spD (mWhole 0 1000000000)) := by
  refine (T.F_is_key).ok sc_is_key (fun vs H Q E h => ?_) (fun cdv A outer s H vs Q E hr h => ?_)
  · obtain ⟨p, v, d, rfl, _⟩ := h
    rfl
  · obtain ⟨p, v, d, rfl, hd, q⟩ := h
    refine ⟨_, (pss_one (ps_ret (pe_call (ok_is_whole T) hr (by rfl) T.g_is_whole T.F_is_whole.kp T.b_is_whole .nil pass0 (pa_cons (pv 0) (pa_cons pe_int (pa_cons (pe_glob (v := .int 1000000000) (by rfl) T.c_MOST_KEY ⟨_, rfl⟩) pa_nil)))))), ?_⟩
    exact ⟨_, rfl, p, v, d, _, _, rfl, hd, q⟩
theorem ok_is_value {k : Nat} (T : Txt K mg) : FnOk P w K mg base CX0 (k + 2) T.f_is_value T.d_is_value ["thing"] (spD mValue) := by
  refine (T.F_is_value).ok sc_is_value (fun vs H Q E h => ?_) (fun cdv A outer s H vs Q E hr h => ?_)
  · obtain ⟨p, v, d, rfl, _⟩ := h
    rfl
  · obtain ⟨p, v, d, rfl, hd, q⟩ := h
    refine ⟨_, (pss_one (ps_ret (pe_or (pe_call (ok_is_word T) hr (by rfl) T.g_is_word T.F_is_word.kp T.b_is_word .nil pass0 (pa_cons (pv 0) pa_nil)) (pe_one (pe_call (ok_is_whole T) hr (by rfl) T.g_is_whole T.F_is_whole.kp T.b_is_whole .nil pass0 (pa_cons (pv 0) (pa_cons (pe_un un_neg (pe_glob (v := .int 1000000000) (by rfl) T.c_MOST_VALUE ⟨_, rfl⟩)) (pa_cons (pe_glob (v := .int 1000000000) (by rfl) T.c_MOST_VALUE ⟨_, rfl⟩) pa_nil)))))))), ?_⟩
    refine ⟨_, rfl, p, v, d, rfl, hd, fun H1 s1 => ⟨_, rfl, ite2 (fun h1 => ?_) (fun h1 => ?_)⟩⟩
    · have q1 := q _ s1
      unfold mValue at q1
      rw [h1, Bool.true_or] at q1
      exact q1
    · refine ⟨_, rfl, _, rfl, p, v, d, _, _, rfl, hd.same s1, fun H2 s2 => ?_⟩
      have q1 := q _ (s1.trans s2)
      unfold mValue at q1
      rw [Bool.eq_false_iff.mpr h1, Bool.false_or] at q1
      exact q1
theorem ok_is_hand {k : Nat} (T : Txt K mg) : FnOk P w K mg base CX0 (k + 2) T.f_is_hand T.d_is_hand ["thing"] (spD (mWhole 0 7)) := by
  refine (T.F_is_hand).ok sc_is_hand (fun vs H Q E h => ?_) (fun cdv A outer s H vs Q E hr h => ?_)
  · obtain ⟨p, v, d, rfl, _⟩ := h
    rfl
  · obtain ⟨p, v, d, rfl, hd, q⟩ := h
    refine ⟨_, (pss_one (ps_ret (pe_call (ok_is_whole T) hr (by rfl) T.g_is_whole T.F_is_whole.kp T.b_is_whole .nil pass0 (pa_cons (pv 0) (pa_cons pe_int (pa_cons (pe_glob (v := .int 7) (by rfl) T.c_MOST_HAND ⟨_, rfl⟩) pa_nil)))))), ?_⟩
    exact ⟨_, rfl, p, v, d, _, _, rfl, hd, q⟩
theorem ok_is_kind {k : Nat} (T : Txt K mg) : FnOk P w K mg base CX0 (k + 1) T.f_is_kind T.d_is_kind ["thing"] (spD mKind) := by
  refine (T.F_is_kind).ok sc_is_kind (fun vs H Q E h => ?_) (fun cdv A outer s H vs Q E hr h => ?_)
  · obtain ⟨p, v, d, rfl, _⟩ := h
    rfl
  · obtain ⟨p, v, d, rfl, hd, q⟩ := h
    refine ⟨_, (pss_one (ps_ret (pe_cmpR (op_inS2 hr.units) (pv 0) (pe_glob (v := .ref T.f_KINDS) (by rfl) T.c_KINDS rfl) (by rfl)))), ?_⟩
    exact ⟨_, rfl, p, _, d, _, rfl, .inr (T.s_KINDS _), hd, q _ (.refl _)⟩
theorem ok_is_id {k : Nat} (T : Txt K mg) : FnOk P w K mg base CX0 (k + 3) T.f_is_id T.d_is_id ["thing"] (spD mId) := by
  refine (T.F_is_id).ok sc_is_id (fun vs H Q E h => ?_) (fun cdv A outer s H vs Q E hr h => ?_)
  · obtain ⟨p, v, d, rfl, _⟩ := h
    rfl
  · obtain ⟨p, v, d, rfl, hd, q⟩ := h
    refine ⟨_, (pss_cons (ps_if (PW.pt (pw_or (pt_not (pt_val (pe_callB call_isd (by rfl) T.n_isinstance (by decide +kernel) (pa_cons (pv 0) (pa_cons (pe_bltn (by rfl) T.n_tuple (by decide +kernel) (v := .ty "tuple") rfl) pa_nil))))) (pw_or1 (pt_cmpR op_ne (pe_callB call_len_seq (by rfl) T.n_len PySem.boot_len (pa_cons (pv 0) pa_nil)) pe_int (nomark _))))) (pss_one (ps_ret pe_bl)) pss_nil) (pss_cons (ps_asg (pv 0) (pg_tup (by rfl) (pgs_cons (pg_name (i := 1) sc_is_id.nd rfl (Or.inl rfl)) (pgs_cons (pg_name (i := 2) sc_is_id.nd rfl (Or.inl rfl)) (pgs_cons (pg_name (i := 3) sc_is_id.nd rfl (Or.inl rfl)) pgs_nil))))) (pss_one (ps_ret (pe_and (pe_call (ok_is_hand T) hr (by rfl) T.g_is_hand T.F_is_hand.kp T.b_is_hand .nil pass0 (pa_cons (pv 1) pa_nil)) (pe_and (pe_call (ok_is_name T) hr (by rfl) T.g_is_name T.F_is_name.kp T.b_is_name .nil pass0 (pa_cons (pv 2) pa_nil)) (pe_one (pe_call (ok_is_whole T) hr (by rfl) T.g_is_whole T.F_is_whole.kp T.b_is_whole .nil pass0 (pa_cons (pv 3) (pa_cons pe_int (pa_cons (pe_glob (v := .int 1000000) (by rfl) T.c_MOST_NUMBER ⟨_, rfl⟩) pa_nil))))))))))), ?_⟩
    refine ⟨_, rfl, p, _, d, "tuple", rfl, .inr (.inr (.inr (.inl rfl))), hd, _, rfl, ?_⟩
    cases hd <;> first | exact q _ (.refl _) | skip
    rename_i a xs ds e hx hp
    have hS : SqT K H a xs := .inl (.inl e)
    refine ⟨_, rfl, a, xs, rfl, .inr hS, rfl, _, rfl, ite2 (fun h1 => ?_) (fun h1 => ?_)⟩
    · have h2 : ds.length ≠ 3 := by
        intro z
        rw [hx.length, z] at h1
        exact absurd h1 (by decide)
      have q1 := q _ (.refl _)
      rw [mId_len h2] at q1
      exact q1
    · have h2 : xs.length = 3 := by
        have h3 := of_decide_eq_true (show decide (V.int (xs.length : Int) = V.int 3) = true by simpa using h1)
        have h4 := V.int.inj h3
        omega
      cases hx with
      | nil => simp at h2
      | @cons x _ dx _ gx t1 =>
      cases t1 with
      | nil => simp at h2
      | @cons y _ dy _ gy t2 =>
      cases t2 with
      | nil => simp at h2
      | @cons z _ dz _ gz t3 =>
      cases t3 with
      | cons _ _ => simp at h2
      | nil =>
        change ∀ H', Same H H' → Q (.bl (mWhole 0 7 dx && (mName dy && mWhole 0 1000000 dz))) H' at q
        refine ⟨_, rfl, a, _, rfl, hS, rfl, _, _, rfl, _, _, rfl, _, _, rfl, rfl, ?_⟩
        refine ⟨_, rfl, p, x, dx, rfl, gx, fun H1 s1 => ⟨_, rfl, ite2 (fun h1 => ?_) (fun h1 => ?_)⟩⟩
        · refine ⟨_, rfl, p, y, dy, rfl, gy.same s1, fun H2 s2 => ⟨_, rfl, ite2 (fun h2 => ?_) (fun h2 => ?_)⟩⟩
          · refine ⟨_, rfl, p, z, dz, _, _, rfl, (gz.same s1).same s2, fun H3 s3 => ?_⟩
            have q1 := q _ ((s1.trans s2).trans s3)
            rw [h1, h2, Bool.true_and, Bool.true_and] at q1
            exact q1
          · have q1 := q _ (s1.trans s2)
            rw [h1, Bool.eq_false_iff.mpr h2] at q1
            exact q1
        · have q1 := q _ s1
          rw [Bool.eq_false_iff.mpr h1] at q1
          exact q1
end
end K03
namespace K03
open PySem PySem.Spec PyProof.Rows L2 Pr
section
variable {P : Program} {w : World} {K : PySem.W.Frag} {mg : Str → Option Value} {base : Heap}
theorem ok__may_follow {k : Nat} (T : Txt K mg) : FnOk P w K mg base CX0 (k + 4) T.f__may_follow T.d__may_follow ["word", "part"] (spD2 mFollow) := by
  refine (T.F__may_follow).ok sc__may_follow (fun vs H Q E h => ?_) (fun cdv A outer s H vs Q E hr h => ?_)
  · obtain ⟨p, v, u, d, e, rfl, _⟩ := h
    rfl
  · obtain ⟨p, v, u, d, e, rfl, hd, he, q⟩ := h
    refine ⟨_, (pss_cons (ps_if (pt_cmpR (op_eqS hr.units) (pv 0) pe_str (nomark _)) (pss_one (ps_ret (pe_call (ok_is_key T) hr (by rfl) T.g_is_key T.F_is_key.kp T.b_is_key .nil pass0 (pa_cons (pv 1) pa_nil)))) pss_nil) (pss_cons (ps_if (pt_cmpR (op_eqS hr.units) (pv 0) pe_str (nomark _)) (pss_one (ps_ret (pe_call (ok_is_name T) hr (by rfl) T.g_is_name T.F_is_name.kp T.b_is_name .nil pass0 (pa_cons (pv 1) pa_nil)))) pss_nil) (pss_one (ps_ret (pe_and (pe_cmpR (op_inS2 hr.units) (pv 0) (pe_glob (v := .ref T.f_ID_WORDS) (by rfl) T.c_ID_WORDS rfl) (by rfl)) (pe_one (pe_call (ok_is_id T) hr (by rfl) T.g_is_id T.F_is_id.kp T.b_is_id .nil pass0 (pa_cons (pv 1) pa_nil)))))))), ?_⟩
    unfold mFollow at q
    refine ⟨_, rfl, p, d, "row", rfl, hd, _, rfl, iteB (fun h1 => ?_) (fun h1 => ?_)⟩
    · rw [if_pos h1] at q
      exact ⟨_, rfl, p, u, e, rfl, he, q⟩
    · rw [if_neg (Bool.eq_false_iff.mp h1)] at q
      refine ⟨_, rfl, p, d, "slot", rfl, hd, _, rfl, iteB (fun h2 => ?_) (fun h2 => ?_)⟩
      · rw [if_pos h2] at q
        exact ⟨_, rfl, p, u, e, rfl, he, q⟩
      · rw [if_neg (Bool.eq_false_iff.mp h2)] at q
        refine ⟨_, rfl, p, _, d, _, rfl, .inr (T.s_ID_WORDS _), hd, _, rfl, iteB (fun h3 => ?_) (fun h3 => ?_)⟩
        · rw [h3, Bool.true_and] at q
          exact ⟨_, rfl, p, u, e, rfl, he, q⟩
        · rw [h3, Bool.false_and] at q
          exact q _ (.refl _)
theorem ok__fits {k : Nat} (T : Txt K mg) : FnOk P w K mg base CX0 (k + 4) T.f__fits T.d__fits ["word", "thing"] (spD2 mFits) := by
  refine (T.F__fits).ok sc__fits (fun vs H Q E h => ?_) (fun cdv A outer s H vs Q E hr h => ?_)
  · obtain ⟨p, v, u, d, e, rfl, _⟩ := h
    rfl
  · obtain ⟨p, v, u, d, e, rfl, hd, he, q⟩ := h
    refine ⟨_, (pss_cons (ps_if (pt_cmpR (op_inS2 hr.units) (pv 0) (pe_glob (v := .ref T.f_BARE_WORDS) (by rfl) T.c_BARE_WORDS rfl) (by rfl)) (pss_one (ps_ret (pe_cmpR op_isTrue (pv 1) pe_bl (nomark _)))) pss_nil) (pss_cons (ps_if (pt_cmpR (op_eqS hr.units) (pv 0) pe_str (nomark _)) (pss_one (ps_ret (pe_call (ok_is_name T) hr (by rfl) T.g_is_name T.F_is_name.kp T.b_is_name .nil pass0 (pa_cons (pv 1) pa_nil)))) pss_nil) (pss_cons (ps_if (pt_cmpR (op_eqS hr.units) (pv 0) pe_str (nomark _)) (pss_one (ps_ret (pe_call (ok_is_id T) hr (by rfl) T.g_is_id T.F_is_id.kp T.b_is_id .nil pass0 (pa_cons (pv 1) pa_nil)))) pss_nil) (pss_cons (ps_if (pt_cmpR (op_eqS hr.units) (pv 0) pe_str (nomark _)) (pss_one (ps_ret (pe_call (ok_is_kind T) hr (by rfl) T.g_is_kind T.F_is_kind.kp T.b_is_kind .nil pass0 (pa_cons (pv 1) pa_nil)))) pss_nil) (pss_one (ps_ret (pe_call (ok_is_value T) hr (by rfl) T.g_is_value T.F_is_value.kp T.b_is_value .nil pass0 (pa_cons (pv 1) pa_nil)))))))), ?_⟩
    unfold mFits at q
    refine ⟨_, rfl, p, _, d, _, rfl, .inr (T.s_BARE_WORDS _), hd, _, rfl, iteB (fun h0 => ?_) (fun h0 => ?_)⟩
    · rw [if_pos h0] at q
      exact ⟨_, rfl, p, e, rfl, he, q _ (.refl _)⟩
    rw [if_neg (Bool.eq_false_iff.mp h0)] at q
    refine ⟨_, rfl, p, d, "name", rfl, hd, _, rfl, iteB (fun h1 => ?_) (fun h1 => ?_)⟩
    · rw [if_pos h1] at q
      exact ⟨_, rfl, p, u, e, rfl, he, q⟩
    rw [if_neg (Bool.eq_false_iff.mp h1)] at q
    refine ⟨_, rfl, p, d, "slot", rfl, hd, _, rfl, iteB (fun h2 => ?_) (fun h2 => ?_)⟩
    · rw [if_pos h2] at q
      exact ⟨_, rfl, p, u, e, rfl, he, q⟩
    rw [if_neg (Bool.eq_false_iff.mp h2)] at q
    refine ⟨_, rfl, p, d, "kind", rfl, hd, _, rfl, iteB (fun h3 => ?_) (fun h3 => ?_)⟩
    · rw [if_pos h3] at q
      exact ⟨_, rfl, p, u, e, rfl, he, q⟩
    rw [if_neg (Bool.eq_false_iff.mp h3)] at q
    exact ⟨_, rfl, p, u, e, rfl, he, q⟩
theorem ok_is_place {k : Nat} (T : Txt K mg) : FnOk P w K mg base CX0 (k + 5) T.f_is_place T.d_is_place ["thing"] (spD mPlace) := by
  refine (T.F_is_place).ok sc_is_place (fun vs H Q E h => ?_) (fun cdv A outer s H vs Q E hr h => ?_)
  · obtain ⟨p, v, d, rfl, _⟩ := h
    rfl
  · obtain ⟨p, v, d, rfl, hd, q⟩ := h
    refine ⟨_, (pss_cons (ps_if (PW.pt (pw_or (pt_not (pt_val (pe_callB call_isd (by rfl) T.n_isinstance (by decide +kernel) (pa_cons (pv 0) (pa_cons (pe_bltn (by rfl) T.n_tuple (by decide +kernel) (v := .ty "tuple") rfl) pa_nil))))) (pw_or (pt_cmpR op_lt (pe_callB call_len_seq (by rfl) T.n_len PySem.boot_len (pa_cons (pv 0) pa_nil)) pe_int (nomark _)) (pw_or1 (pt_not (pt_val (pe_call (ok_is_name T) hr (by rfl) T.g_is_name T.F_is_name.kp T.b_is_name .nil pass0 (pa_cons (pe_ix ix_tup (pv 0) pe_int (fun _ _ => rfl)) pa_nil)))))))) (pss_one (ps_ret pe_bl)) pss_nil) (pss_cons (ps_set (i := 1) sc_is_place.nd rfl (Or.inl rfl) (pe_ix ix_tup (pv 0) pe_int (fun _ _ => rfl))) (pss_cons (ps_set (i := 2) sc_is_place.nd rfl (Or.inl rfl) (pe_slice sl_tup (pv 0) (po_some pe_int) po_none)) (pss_cons (ps_if (pt_cmpR op_eq (pe_callB call_len_seq (by rfl) T.n_len PySem.boot_len (pa_cons (pv 2) pa_nil)) pe_int (nomark _)) (pss_one (ps_ret (pe_cmpR (op_eqS hr.units) (pv 1) pe_str (nomark _)))) pss_nil) (pss_cons (ps_if (pt_cmpR op_eq (pe_callB call_len_seq (by rfl) T.n_len PySem.boot_len (pa_cons (pv 2) pa_nil)) pe_int (nomark _)) (pss_one (ps_ret (pe_and (pe_cmpR (op_eqS hr.units) (pv 1) pe_str (nomark _)) (pe_and (pe_call (ok_is_key T) hr (by rfl) T.g_is_key T.F_is_key.kp T.b_is_key .nil pass0 (pa_cons (pe_ix ix_tup (pv 2) pe_int (fun _ _ => rfl)) pa_nil)) (pe_one (pe_call (ok_is_id T) hr (by rfl) T.g_is_id T.F_is_id.kp T.b_is_id .nil pass0 (pa_cons (pe_ix ix_tup (pv 2) pe_int (fun _ _ => rfl)) pa_nil))))))) pss_nil) (pss_one (ps_ret (pe_and (pe_cmpR op_eq (pe_callB call_len_seq (by rfl) T.n_len PySem.boot_len (pa_cons (pv 2) pa_nil)) pe_int (nomark _)) (pe_one (pe_call (ok__may_follow T) hr (by rfl) T.g__may_follow T.F__may_follow.kp T.b__may_follow .nil pass0 (pa_cons (pv 1) (pa_cons (pe_ix ix_tup (pv 2) pe_int (fun _ _ => rfl)) pa_nil)))))))))))), ?_⟩
    refine ⟨_, rfl, p, _, d, "tuple", rfl, .inr (.inr (.inr (.inl rfl))), hd, _, rfl, ?_⟩
    cases hd <;> first | exact q _ (.refl _) | skip
    rename_i a xs ds e hx hp
    have hS : SqT K H a xs := .inl (.inl e)
    refine ⟨_, rfl, a, xs, rfl, .inr hS, _, _, rfl, rfl, _, rfl, ?_⟩
    cases hx with
    | nil => exact q _ (.refl _)
    | @cons w _ dw _ gw t1 =>
    cases t1 with
    | nil => exact q _ (.refl _)
    | @cons t r dt dr gt t2 =>
      have hlen : ¬ (((w :: t :: r).length : Int) < 2) := by rw [List.length_cons, List.length_cons]; omega
      refine iteB (fun h1 => absurd (of_decide_eq_true h1) hlen) (fun _ => ?_)
      change ∀ H', Same H H' → Q (.bl (mName dt && mPlaceR dw dr)) H' at q
      refine ⟨_, rfl, a, _, 1, t, rfl, rfl, hS, atI_nat (j := 1) rfl, p, t, dt, rfl, gt, fun H1 s1 => ⟨_, rfl, ?_⟩⟩
      show if (!mName dt) = true then _ else _
      refine iteN (fun h1 => ?_) (fun h1 => ?_)
      · rw [h1, Bool.true_and] at q
        have hS1 : SqT K H1 a (w :: t :: r) := .inl (.inl (s1 _ _ e))
        refine ⟨_, rfl, a, _, 0, w, rfl, rfl, hS1, atI_nat (j := 0) rfl, ?_⟩
        refine ⟨_, rfl, _, rfl, a, _, rfl, hS1, ?_, fun R hR => ?_⟩
        · intro z
          have z1 := z.1
          have e1 : HT.sIx (w :: t :: r).length 0 (some 2) = min 2 (w :: t :: r).length := HT.sIx_nat _ _ 2
          rw [e1, List.length_cons, List.length_cons] at z1
          omega
        rw [cut2]
        obtain ⟨H2, h2, s2, e2⟩ := alloc (.tup r) hR
        rw [h2]
        have s12 := s1.trans s2
        have hSR : SqT K H2 R r := .inl (.inl e2)
        have t2' := t2.same s12
        have gw' := gw.same s12
        refine ⟨_, rfl, R, r, rfl, .inr hSR, rfl, _, rfl, ?_⟩
        cases t2' with
        | nil => exact ⟨_, rfl, p, dw, "table", rfl, gw', q _ s12⟩
        | @cons k r2 dk dr2 gk t3 =>
          refine iteB (fun h => ?_) (fun _ => ?_)
          · exact absurd (V.int.inj (of_decide_eq_true h)) (by rw [List.length_cons]; omega)
          refine ⟨_, rfl, R, _, rfl, .inr hSR, rfl, _, rfl, ?_⟩
          cases t3 with
          | nil =>
            refine iteB (fun h => ?_) (fun _ => ?_)
            · exact absurd (V.int.inj (of_decide_eq_true h)) (by simp)
            refine ⟨_, rfl, R, _, rfl, .inr hSR, rfl, _, rfl, ?_⟩
            refine ⟨_, rfl, _, rfl, R, _, 0, k, rfl, rfl, hSR, atI_nat (j := 0) rfl, p, w, k, dw, dk, rfl, gw', gk, fun H3 s3 => ?_⟩
            exact q _ (s12.trans s3)
          | @cons i r3 di dr3 gi t4 =>
            cases t4 with
            | nil =>
              change ∀ H', Same H H' → Q (.bl (isS dw "cell" && (mKey dk && mId di))) H' at q
              refine ⟨_, rfl, p, dw, "cell", rfl, gw', _, rfl, iteB (fun h3 => ?_) (fun h3 => ?_)⟩
              · rw [h3, Bool.true_and] at q
                refine ⟨_, rfl, R, _, 0, k, rfl, rfl, hSR, atI_nat (j := 0) rfl, p, k, dk, rfl, gk, fun H3 s3 => ⟨_, rfl, iteB (fun h4 => ?_) (fun h4 => ?_)⟩⟩
                · rw [show mKey dk = true from h4, Bool.true_and] at q
                  refine ⟨_, rfl, R, _, 1, i, rfl, rfl, .inl (.inl (s3 _ _ e2)), atI_nat (j := 1) rfl, p, i, di, rfl, gi.same s3, fun H4 s4 => ?_⟩
                  exact q _ ((s12.trans s3).trans s4)
                · rw [show mKey dk = false from h4, Bool.false_and] at q
                  exact q _ (s12.trans s3)
              · rw [h3, Bool.false_and] at q
                exact q _ s12
            | @cons j r4 dj dr4 gj t5 =>
              refine iteB (fun h => ?_) (fun _ => ?_)
              · exact absurd (V.int.inj (of_decide_eq_true h)) (by rw [List.length_cons, List.length_cons, List.length_cons]; omega)
              refine ⟨_, rfl, R, _, rfl, .inr hSR, rfl, _, rfl, iteB (fun h => ?_) (fun _ => ?_)⟩
              · exact absurd (V.int.inj (of_decide_eq_true h)) (by rw [List.length_cons, List.length_cons, List.length_cons]; omega)
              exact q _ s12
      · rw [h1, Bool.false_and] at q
        exact q _ s1
theorem ok_need_place {k : Nat} (T : Txt K mg) : FnOk P w K mg base (L2.CX P w) (k + 6) T.f_need_place T.d_need_place ["thing"] (spNeed T.f_NoPlace) := by
  refine (T.F_need_place).okX sc_need_place (fun vs H Q E h => ?_) (fun cdv A outer s H vs Q E hr h => ?_)
  · obtain ⟨p, v, d, rfl, _⟩ := h
    rfl
  · obtain ⟨p, v, d, rfl, hd, q1, q2⟩ := h
    refine ⟨_, (pss_one (ps_if (pt_not (pt_val (pe_call (ok_is_place T) hr (by rfl) T.g_is_place T.F_is_place.kp T.b_is_place .nil pass0 (pa_cons (pv 0) pa_nil)))) (pss_one (ps_raise rfl (takes_of rfl rfl rfl rfl) (pmk_own PySem.F.excBase_ValueError T.x_NoPlace T.g_NoPlace T.k_NoPlace (raises_own T.s_NoPlace T.t_NoPlace) (by rfl)))) pss_nil)), ?_⟩
    refine ⟨_, rfl, p, v, d, rfl, hd, fun H1 s1 => ⟨_, rfl, ?_⟩⟩
    show if (!mPlace d) = true then _ else _
    exact iteN (fun h => q1 h _ s1) (fun h => q2 h _ s1)
theorem ok_table_of {k : Nat} (T : Txt K mg) : FnOk P w K mg base (L2.CX P w) (k + 7) T.f_table_of T.d_table_of ["place"] (spTable T.f_NoPlace) := by
  refine (T.F_table_of).okX sc_table_of (fun vs H Q E h => ?_) (fun cdv A outer s H vs Q E hr h => ?_)
  · obtain ⟨p, v, d, rfl, _⟩ := h
    rfl
  · obtain ⟨p, v, d, rfl, hd, q1, q2⟩ := h
    refine ⟨_, (pss_cons (ps_expr (pe_callS (ok_need_place T) hr (by rfl) T.g_need_place T.F_need_place.kp T.b_need_place (fun σ => passAt (takes_of rfl rfl rfl rfl) σ) (by exact (pa_cons (pv 0) pa_nil)))) (pss_one (ps_ret (pe_ix ix_tup (pv 0) pe_int (fun _ _ => rfl))))), ?_⟩
    refine ⟨_, rfl, p, v, d, rfl, hd, fun hm H1 s1 => ?_, fun hm H1 s1 => q2 hm _ s1⟩
    obtain ⟨a, w, t, r, dw, dt, dr, rfl, rfl, e, gw, gt, gr, hp⟩ := mPlace_inv hd hm
    exact ⟨_, rfl, a, _, 1, t, rfl, rfl, .inl (.inl (s1 _ _ e)), atI_nat (j := 1) rfl, q1 hm _ _ _ _ rfl e _ s1⟩
theorem ok_may_stand {k : Nat} (T : Txt K mg) : FnOk P w K mg base (L2.CX P w) (k + 7) T.f_may_stand T.d_may_stand ["place", "thing"] (spStand T.f_NoPlace) := by
  refine (T.F_may_stand).okX sc_may_stand (fun vs H Q E h => ?_) (fun cdv A outer s H vs Q E hr h => ?_)
  · obtain ⟨p, v, u, d, e, rfl, _⟩ := h
    rfl
  · obtain ⟨p, v, u, d, e, rfl, hd, he, q1, q2⟩ := h
    refine ⟨_, (pss_cons (ps_expr (pe_callS (ok_need_place T) hr (by rfl) T.g_need_place T.F_need_place.kp T.b_need_place (fun σ => passAt (takes_of rfl rfl rfl rfl) σ) (by exact (pa_cons (pv 0) pa_nil)))) (pss_one (ps_ret (pe_call (ok__fits T) hr (by rfl) T.g__fits T.F__fits.kp T.b__fits .nil pass0 (pa_cons (pe_ix ix_tup (pv 0) pe_int (fun _ _ => rfl)) (pa_cons (pv 1) pa_nil)))))), ?_⟩
    refine ⟨_, rfl, p, v, d, rfl, hd, fun hm H1 s1 => ?_, fun hm H1 s1 => q2 hm _ s1⟩
    obtain ⟨a, w, t, r, dw, dt, dr, rfl, rfl, e', gw, gt, gr, hp⟩ := mPlace_inv hd hm
    refine ⟨_, rfl, a, _, 0, w, rfl, rfl, .inl (.inl (s1 _ _ e')), atI_nat (j := 0) rfl, _, rfl, p, w, u, dw, e, rfl, gw.same s1, he.same s1, fun H2 s2 => ?_⟩
    exact q1 hm _ (s1.trans s2)
end
end K03
namespace K03
open PySem PySem.Spec PyProof.Rows L2 Pr
section
variable {P : Program} {w : World} {K : PySem.W.Frag} {mg : Str → Option Value} {base : Heap}
theorem ok__law_take {k : Nat} (T : Txt K mg) : FnOk P w K mg base CX0 (k + 1) T.f__law_take T.d__law_take ["pot", "many"] spTake := by
  refine (T.F__law_take).ok sc__law_take (fun vs H Q E h => ?_) (fun cdv A outer s H vs Q E hr h => ?_)
  · obtain ⟨p, n, many, rfl, _⟩ := h
    rfl
  · obtain ⟨p, n, many, rfl, hP, hn, hm, hm2, q⟩ := h
    obtain ⟨a, b, c, e, ⟨ha, ha2⟩, ⟨hb, hb2⟩, hc, hc2⟩ := hP
    refine ⟨_, (pss_cons (ps_if (pt_cmpR op_gt (pe_ix ix_list (pv 0) pe_int (fun _ _ => rfl)) pe_int (nomark _)) (pss_cons (ps_set (i := 2) sc__law_take.nd rfl (Or.inl rfl) (pe_op op_mod (pe_ix ix_list (pv 0) pe_int (fun _ _ => rfl)) (pv 1))) (pss_cons (ps_asg (pe_op op_fdivW (pe_ix ix_list (pv 0) pe_int (fun _ _ => rfl)) (pv 1)) (pg_sub (pv 0) pe_int set_list)) (pss_one (ps_ret (pv 2))))) pss_nil) (pss_cons (ps_asg (pe_op op_add (pe_ix ix_list (pv 0) pe_int (fun _ _ => rfl)) pe_int) (pg_sub (pv 0) pe_int set_list)) (pss_cons (ps_set (i := 3) sc__law_take.nd rfl (Or.inl rfl) (pe_op op_mod (pe_op op_pow (pe_op op_add (pe_ix ix_list (pv 0) pe_int (fun _ _ => rfl)) (pe_op op_mul pe_int (pe_ix ix_list (pv 0) pe_int (fun _ _ => rfl)))) pe_int) pe_int)) (pss_cons (ps_set (i := 4) sc__law_take.nd rfl (Or.inl rfl) (pe_op op_mod (pe_op op_pow (pe_op op_add (pe_op op_add (pv 3) (pe_op op_mod (pe_ix ix_list (pv 0) pe_int (fun _ _ => rfl)) pe_int)) (pe_op op_mul pe_int (pe_ix ix_list (pv 0) pe_int (fun _ _ => rfl)))) pe_int) pe_int)) (pss_one (ps_ret (pe_op op_mod (pe_op op_fdivW (pv 4) pe_int) (pv 1)))))))), ?_⟩
    refine ⟨_, rfl, p, _, 0, _, rfl, rfl, SqL.of e, atI_nat (j := 0) rfl, a, 0, rfl, rfl, _, rfl, ite2 (fun h1 => ?_) (fun h1 => ?_)⟩
    · refine ⟨_, rfl, p, _, 0, _, rfl, rfl, SqL.of e, atI_nat (j := 0) rfl, _, rfl, a, many, rfl, rfl, hm, ?_⟩
      refine ⟨_, rfl, p, _, 0, _, rfl, rfl, SqL.of e, atI_nat (j := 0) rfl, _, rfl, a, many, rfl, rfl, wide_div (b := 64) hm (by omega) (by decide) (by decide), ?_⟩
      refine ⟨_, rfl, p, _, 0, 0, rfl, rfl, e, rfl, ?_⟩
      refine ⟨_, rfl, ?_⟩
      refine q _ _ (Int.emod_nonneg _ (by omega)) (Int.emod_lt_of_pos _ hm) ⟨_, b, c, upd_same, ⟨Int.ediv_nonneg ha (by omega), ?_⟩, ⟨hb, hb2⟩, hc, by omega⟩ But.put
      exact Int.lt_of_le_of_lt (Int.ediv_le_self many ha) ha2
    · refine ⟨_, rfl, p, _, 2, _, rfl, rfl, SqL.of e, atI_nat (j := 2) rfl, c, 1, rfl, rfl, ?_⟩
      refine ⟨_, rfl, p, _, 2, 2, rfl, rfl, e, rfl, ?_⟩
      have e2 : upd H p (.lst [.int a, .int b, .int (c + 1)]) p = some (.lst [.int a, .int b, .int (c + 1)]) := upd_same
      refine ⟨_, rfl, p, _, 1, _, rfl, rfl, SqL.of e2, atI_nat (j := 1) rfl, _, rfl, p, _, 2, _, rfl, rfl, SqL.of e2, atI_nat (j := 2) rfl, _, _, rfl, rfl, .inl ⟨by decide, by decide⟩, _, _, rfl, rfl, _, _, rfl, rfl, ⟨by decide, by decide, ?_⟩, _, _, rfl, rfl, (by decide : (0 : Int) < 2305843009213693921), ?_⟩
      · omega
      generalize hone : (b + 104729 * (c + 1)) ^ (3 : Int).toNat % 2305843009213693921 = one
      have ho1 : 0 ≤ one := by rw [← hone]; exact Int.emod_nonneg _ (by decide)
      have ho2 : one < 2305843009213693921 := by rw [← hone]; exact Int.emod_lt_of_pos _ (by decide)
      have hr1 : 0 ≤ b % 65537 := Int.emod_nonneg _ (by decide)
      have hr2 : b % 65537 < 65537 := Int.emod_lt_of_pos _ (by decide)
      refine ⟨_, rfl, _, rfl, p, _, 1, _, rfl, rfl, SqL.of e2, atI_nat (j := 1) rfl, _, _, rfl, rfl, (by decide : (0 : Int) < 65537), _, _, rfl, rfl, _, rfl, p, _, 2, _, rfl, rfl, SqL.of e2, atI_nat (j := 2) rfl, _, _, rfl, rfl, .inl ⟨by decide, by decide⟩, _, _, rfl, rfl, _, _, rfl, rfl, ⟨by decide, by decide, ?_⟩, _, _, rfl, rfl, (by decide : (0 : Int) < 2305843009213693907), ?_⟩
      · omega
      refine ⟨_, rfl, _, _, rfl, rfl, ⟨by decide, by decide +kernel⟩, _, rfl, _, _, rfl, rfl, hm, ?_⟩
      exact q _ _ (Int.emod_nonneg _ (by omega)) (Int.emod_lt_of_pos _ hm) ⟨a, b, c + 1, e2, ⟨ha, ha2⟩, ⟨hb, hb2⟩, by omega, by omega⟩ But.put

theorem ok__law_pot {k : Nat} (T : Txt K mg) : FnOk P w K mg base CX0 (k + 1) T.f__law_pot T.d__law_pot ["script", "k"] (spPot K) := by
  refine (T.F__law_pot).ok sc__law_pot (fun vs H Q E h => ?_) (fun cdv A outer s H vs Q E hr h => ?_)
  · obtain ⟨a, ns, kk, rfl, _⟩ := h
    rfl
  · obtain ⟨a, ns, kk, rfl, hS, hk0, hk1, q⟩ := h
    refine ⟨_, (pss_cons (ps_set (i := 2) sc__law_pot.nd rfl (Or.inl rfl) pe_int) (pss_cons (ps_if (pt_cmpR op_lt (pv 1) (pe_callB call_len_seq (by rfl) T.n_len PySem.boot_len (pa_cons (pv 0) pa_nil)) (nomark _)) (pss_one (ps_set (i := 2) sc__law_pot.nd rfl (Or.inl rfl) (pe_op op_mod (pe_callB call_abs (by rfl) T.n_abs (by decide +kernel) (pa_cons (pe_ix ix_list (pv 0) (pv 1) (fun _ _ => rfl)) pa_nil)) (pe_op op_powW (pe_op op_pow pe_int pe_int) pe_int)))) pss_nil) (pss_one (ps_ret (pe_lst (pa_cons (pe_op op_mul (pv 2) (pe_callTy call_int1 (by rfl) T.n_int (by decide +kernel) (pa_cons (pe_cmpR op_ge (pv 2) (pe_op op_pow pe_int pe_int) (nomark _)) pa_nil))) (pa_cons (pe_op op_mod (pe_op op_pow (pe_op op_add (pe_op op_add (pe_op op_mod (pv 2) pe_int) (pe_op op_mul pe_int (pv 1))) pe_int) pe_int) pe_int) (pa_cons pe_int pa_nil)))))))), ?_⟩
    have fin : ∀ cell : Int, 0 ≤ cell → cell < 2 ^ 2000 → ∀ b : Int, 0 ≤ b → b < 2305843009213693951 → ∀ g : Bool, ∀ p, H p = none → Q (.ref p) (upd H p (.lst [.int (cell * if g = true then 1 else 0), .int b, .int 0])) := by
      intro cell h0 h1 b hb0 hb1 g p hp
      refine q p _ hp (Same.new hp) ⟨_, b, 0, upd_same, ?_, ⟨hb0, by omega⟩, by decide, by decide⟩
      cases g
      · rw [if_neg (by decide), Int.mul_zero]
        exact ⟨by decide, lt2000⟩
      · rw [if_pos rfl, Int.mul_one]
        exact ⟨h0, h1⟩
    have rest : ∀ cell : Int, 0 ≤ cell → cell < 2 ^ 2000 → True := fun _ _ _ => trivial
    refine ⟨_, rfl, _, rfl, a, _, rfl, .inl hS, _, _, rfl, rfl, _, rfl, ite2 (fun h1 => ?_) (fun h1 => ?_)⟩
    · have h2 := of_decide_eq_true h1
      obtain ⟨v, hv, hm⟩ := atI_bd hk0 h2
      obtain ⟨i, hi, rfl⟩ := List.mem_map.mp hm
      refine ⟨_, rfl, _, rfl, a, _, kk, _, rfl, rfl, hS, hv, _, rfl, _, _, rfl, rfl, ⟨by decide, by decide, by decide⟩, _, _, rfl, rfl, powW1, _, _, rfl, rfl, big_lt.2, ?_⟩
      have hc0 := Int.emod_nonneg (if i < 0 then -i else i) (Int.ne_of_gt big_lt.2)
      have hc1 := Int.lt_trans (Int.emod_lt_of_pos (if i < 0 then -i else i) big_lt.2) big_lt.1
      refine ⟨_, rfl, _, rfl, _, _, rfl, rfl, ⟨by decide, by decide, by decide⟩, _, _, rfl, rfl, .inr ⟨_, rfl, ?_⟩⟩
      refine ⟨_, _, rfl, rfl, .inr (b01 _), ?_⟩
      refine ⟨_, rfl, _, _, rfl, rfl, (by decide : (0 : Int) < 2147483629), _, rfl, _, _, rfl, rfl, .inl ⟨by decide, by decide⟩, _, _, rfl, rfl, _, _, rfl, rfl, _, _, rfl, rfl, ⟨by decide, by decide, powArg (Int.emod_nonneg _ (by decide)) (Int.emod_lt_of_pos _ (by decide)) hk0 hk1⟩, _, _, rfl, rfl, (by decide : (0 : Int) < 2305843009213693951), ?_⟩
      refine ⟨(by decide : 3 ≤ sizeLine), fun p hp => ?_⟩
      exact fin _ hc0 hc1 _ (Int.emod_nonneg _ (by decide)) (Int.emod_lt_of_pos _ (by decide)) _ p hp
    · refine ⟨_, rfl, _, rfl, _, _, rfl, rfl, ⟨by decide, by decide, by decide⟩, _, _, rfl, rfl, .inr ⟨_, rfl, ?_⟩⟩
      refine ⟨_, _, rfl, rfl, .inr (b01 _), ?_⟩
      refine ⟨_, rfl, _, _, rfl, rfl, (by decide : (0 : Int) < 2147483629), _, rfl, _, _, rfl, rfl, .inl ⟨by decide, by decide⟩, _, _, rfl, rfl, _, _, rfl, rfl, _, _, rfl, rfl, ⟨by decide, by decide, powArg (Int.emod_nonneg _ (by decide)) (Int.emod_lt_of_pos _ (by decide)) hk0 hk1⟩, _, _, rfl, rfl, (by decide : (0 : Int) < 2305843009213693951), ?_⟩
      refine ⟨(by decide : 3 ≤ sizeLine), fun p hp => ?_⟩
      exact fin 0 (by decide) lt2000 _ (Int.emod_nonneg _ (by decide)) (Int.emod_lt_of_pos _ (by decide)) _ p hp
end
end K03
namespace K03
open PySem PySem.Spec PyProof.Rows L2 Pr
section
variable {P : Program} {w : World} {K : PySem.W.Frag} {mg : Str → Option Value} {base : Heap}
theorem ok__law_word {k : Nat} (T : Txt K mg) : FnOk P w K mg base CX0 (k + 2) T.f__law_word T.d__law_word ["pot"] (spDraw 10 isText) := by
  refine (T.F__law_word).ok sc__law_word (fun vs H Q E h => ?_) (fun cdv A outer s H vs Q E hr h => ?_)
  · obtain ⟨p, n, rfl, _⟩ := h
    rfl
  · obtain ⟨p, n, rfl, hP, hn, q⟩ := h
    refine ⟨_, (pss_cons (ps_set (i := 1) sc__law_word.nd rfl (Or.inl rfl) (pe_ix ix_list (pe_lst (pa_cons pe_int (pa_cons pe_int (pa_cons (pe_op op_add pe_int (pe_call (ok__law_take T) hr (by rfl) T.g__law_take T.F__law_take.kp T.b__law_take .nil pass0 (pa_cons (pv 0) (pa_cons pe_int pa_nil)))) pa_nil)))) (pe_call (ok__law_take T) hr (by rfl) T.g__law_take T.F__law_take.kp T.b__law_take .nil pass0 (pa_cons (pv 0) (pa_cons pe_int pa_nil))) (fun _ _ => rfl))) (pss_cons (ps_set (i := 2) sc__law_word.nd rfl (Or.inl rfl) (pe_join pe_str (pe_lc (own := [("k", 3)]) (g := gName 3) (tt := tYes) rfl sc__law_word.nd (pi_range1 (by rfl) T.n_range (pa_cons (pv 1) pa_nil)) (blkOk_by (own := [("k", 3)]) (N := N__law_word) (sc := defScope s__law_word) (by decide +kernel)) (fun _ _ _ _ _ => (pg_name (i := 3) sc__law_word.nd rfl (Or.inl rfl))) (fun _ _ _ _ _ => pts_nil) (fun _ _ _ _ _ => (pe_ix ix_str pe_str (pe_call (ok__law_take T) hr (by rfl) T.g__law_take T.F__law_take.kp T.b__law_take .nil pass0 (pa_cons (pv 0) (pa_cons pe_int pa_nil))) (fun _ _ => rfl)))))) (pss_one (ps_ret (pe_ifExp (pt_cmpR op_eq (pv 2) pe_str (nomark _)) pe_str (pv 2)))))), ?_⟩
    refine ⟨_, rfl, p, n, 8, rfl, hP, by omega, by decide, by decide, fun c1 G1 c10 c11 PG1 BG1 => ?_⟩
    refine ⟨_, _, rfl, rfl, (by decide : 3 ≤ sizeLine), fun L hL => ?_⟩
    have nL := PG1.ne hL
    obtain ⟨G2, hG2, sG2, eG2⟩ := alloc (.lst [.int 1, .int 2, .int (1 + c1)]) hL
    rw [hG2]
    refine ⟨_, rfl, p, _, 3, rfl, PG1.same sG2, by omega, by decide, by decide, fun r0 H1 r00 r01 P1 BH1 => ?_⟩
    obtain ⟨v, hv, hm⟩ := atI_bd (xs := [.int 1, .int 2, .int (1 + c1)]) r00 r01
    refine ⟨L, _, r0, v, rfl, rfl, SqL.of (BH1 _ _ nL eG2), hv, ?_⟩
    have hj : ∃ j : Int, v = .int j ∧ 0 ≤ j ∧ j ≤ 8 := by
      simp only [List.mem_cons, List.not_mem_nil, or_false] at hm
      rcases hm with rfl | rfl | rfl
      · exact ⟨_, rfl, by omega, by omega⟩
      · exact ⟨_, rfl, by omega, by omega⟩
      · exact ⟨_, rfl, by omega, by omega⟩
    obtain ⟨many, rfl, m0, m1⟩ := hj
    have B1 : But p H H1 := (BG1.trans (But.of sG2)).trans BH1
    refine ⟨⟨_, rfl⟩, _, rfl, many, rfl, by omega, by omega, fun D hD => ?_⟩
    refine lc_range (lo := 0) (n := many.toNat) (fun i H => ∃ ys : List Str, H D = some (.lst (ys.map V.str)) ∧ ys.length = i ∧ (∀ y ∈ ys, y.length = 1 ∧ PyData.strOk y = true) ∧ Pot p (n + 1 + 1 + i) H ∧ But p H1 H) ?_ ?_ ?_
    · exact ⟨[], upd_same, rfl, (fun y h => nomatch h), P1.same (Same.new hD), But.of (Same.new hD)⟩
    · intro i H2 hi hv
      obtain ⟨ys, eD, hl, hy, hp, hb⟩ := hv
      refine ⟨rfl, _, rfl, p, n + 1 + 1 + i, 26, rfl, hp, by omega, by decide, by decide, fun r H3 r0 r1 P3 B3 => ?_⟩
      obtain ⟨c, hc, hcm⟩ := atI_bdN (xs := azS.cps.toList) r0 (by rw [show azS.cps.toList.length = 26 by decide +kernel]; exact r1)
      have nDp : D ≠ p := hp.ne (H := H2) (q := D) |> fun f => fun z => by
        have := P1.ne hD
        exact this z
      have eD3 : H3 D = some (.lst (ys.map V.str)) := B3 _ _ nDp eD
      refine ⟨azS, r, c, rfl, rfl, by decide, hc, _, eD3, ?_, ys ++ [⟨#[c]⟩], ?_, ?_, ?_, ?_, ?_⟩
      · rw [List.length_map, hl]
        exact small1000 (by omega)
      · rw [upd_same, List.map_append]
        rfl
      · rw [List.length_append, hl]
        rfl
      · intro y hm
        rcases List.mem_append.mp hm with h | h
        · exact hy y h
        · rw [List.mem_singleton.mp h]
          refine ⟨rfl, strOk_iff.mpr fun d hd => ?_⟩
          rw [List.mem_singleton.mp hd]
          exact strOk_iff.mp (by decide +kernel : PyData.strOk azS = true) c hcm
      · obtain ⟨a, b, c, e, r⟩ := P3
        exact ⟨a, b, c, by rw [upd_ne nDp.symm]; exact e, r⟩
      · exact (hb.trans B3).later hD
    · intro H2 hv
      obtain ⟨ys, eD, hl, hy, hp, hb⟩ := hv
      have hlen : (Txt.join "" ys).length ≤ 10 := by
        have h1 := join_le "" ys
        rw [sum_ones ys fun y h => (hy y h).1] at h1
        have h2 : (("" : Str)).length = 0 := rfl
        rw [h2] at h1
        omega
      refine ⟨_, D, ys, rfl, rfl, .inl (SqL.of eD), ?_, ?_⟩
      · rw [sum_ones ys fun y h => (hy y h).1]
        show ys.length + ys.length * 0 ≤ 16777216
        omega
      have hok : PyData.strOk (Txt.join "" ys) = true := strOk_joinT (by decide +kernel) fun y h => (hy y h).2
      generalize Txt.join "" ys = word at hlen hok ⊢
      refine ⟨_, rfl, rfl, _, rfl, iteB (fun _ => ?_) (fun _ => ?_)⟩
      · exact q _ _ ⟨_, rfl, by decide, by decide +kernel⟩ (hp.mono (by omega)) (B1.trans hb)
      · exact ⟨_, rfl, q _ _ ⟨_, rfl, by omega, hok⟩ (hp.mono (by omega)) (B1.trans hb)⟩
def theWords : List Str := ["table", "column", "name", "slot", "kind", "else", "row", "cell"]
def spWords : Sp := fun vs H Q _ => vs = [] ∧ ∀ L H', H L = none → Same H H' → H' L = some (.lst (theWords.map V.str)) → Q (.ref L) H'
theorem ok__law_words_all {k : Nat} (T : Txt K mg) : FnOk P w K mg base CX0 (k + 1) T.f__law_words_all T.d__law_words_all [] spWords := by
  refine (T.F__law_words_all).ok sc__law_words_all (fun vs H Q E h => ?_) (fun cdv A outer s H vs Q E hr h => ?_)
  · obtain ⟨rfl, _⟩ := h
    rfl
  · obtain ⟨rfl, q⟩ := h
    refine ⟨_, (pss_one (ps_ret (pe_lst (pa_cons pe_str (pa_cons pe_str (pa_cons pe_str (pa_cons pe_str (pa_cons pe_str (pa_cons pe_str (pa_cons pe_str (pa_cons pe_str pa_nil))))))))))), ?_⟩
    exact ⟨by decide, fun L hL => q L _ hL (Same.new hL) upd_same⟩
theorem ok__law_an_id {k : Nat} (T : Txt K mg) : FnOk P w K mg base CX0 (k + 3) T.f__law_an_id T.d__law_an_id ["pot"] (spDraw 14 Any) := by
  refine (T.F__law_an_id).ok sc__law_an_id (fun vs H Q E h => ?_) (fun cdv A outer s H vs Q E hr h => ?_)
  · obtain ⟨p, n, rfl, _⟩ := h
    rfl
  · obtain ⟨p, n, rfl, hP, hn, q⟩ := h
    refine ⟨_, (pss_one (ps_ret (pe_tup (pa_cons (pe_call (ok__law_take T) hr (by rfl) T.g__law_take T.F__law_take.kp T.b__law_take .nil pass0 (pa_cons (pv 0) (pa_cons pe_int pa_nil))) (pa_cons (pe_call (ok__law_word T) hr (by rfl) T.g__law_word T.F__law_word.kp T.b__law_word .nil pass0 (pa_cons (pv 0) pa_nil)) (pa_cons (pe_ix ix_list (pe_lst (pa_cons (pe_call (ok__law_take T) hr (by rfl) T.g__law_take T.F__law_take.kp T.b__law_take .nil pass0 (pa_cons (pv 0) (pa_cons pe_int pa_nil))) (pa_cons (pe_call (ok__law_take T) hr (by rfl) T.g__law_take T.F__law_take.kp T.b__law_take .nil pass0 (pa_cons (pv 0) (pa_cons (pe_op op_add (pe_op op_pow pe_int pe_int) pe_int) pa_nil))) pa_nil))) (pe_call (ok__law_take T) hr (by rfl) T.g__law_take T.F__law_take.kp T.b__law_take .nil pass0 (pa_cons (pv 0) (pa_cons pe_int pa_nil))) (fun _ _ => rfl)) pa_nil)))))), ?_⟩
    refine ⟨_, rfl, p, n, 8, rfl, hP, by omega, by decide, by decide, fun c1 H1 c10 c11 P1 B1 => ?_⟩
    refine ⟨_, rfl, p, _, rfl, P1, by omega, fun v2 H2 ⟨z, ez, hz⟩ P2 B2 => ?_⟩
    refine ⟨_, rfl, p, _, 9, rfl, P2, by omega, by decide, by decide, fun c3 H3 c30 c31 P3 B3 => ?_⟩
    refine ⟨_, rfl, _, _, rfl, rfl, pw, _, _, rfl, rfl, p, _, _, rfl, P3, by omega, by decide, by decide, fun c4 H4 c40 c41 P4 B4 => ?_⟩
    subst ez
    refine ⟨(by decide : 2 ≤ sizeLine), fun L hL => ?_⟩
    have nL := P4.ne hL
    obtain ⟨H5, h5, s5, e5⟩ := alloc (.lst [.int c3, .int c4]) hL
    rw [h5]
    refine ⟨_, rfl, p, _, 2, rfl, P4.same s5, by omega, by decide, by decide, fun r H6 r0 r1 P6 B6 => ?_⟩
    obtain ⟨v, hv, hm⟩ := atI_bd (xs := [.int c3, .int c4]) r0 r1
    refine ⟨L, _, r, v, rfl, rfl, SqL.of (B6 _ _ nL e5), hv, ?_⟩
    refine ⟨(by decide : 3 ≤ sizeLine), fun t ht => ?_⟩
    have hj : Any p H6 v := by
      simp only [List.mem_cons, List.not_mem_nil, or_false] at hm
      rcases hm with rfl | rfl <;> exact Any.int _
    obtain ⟨H7, h7, s7, A7, P7, e7⟩ := accT (acc := []) AnyAll.nil P6 (.cons (Any.int c1) (.cons (Any.str hz) (.cons hj .nil))) ht
    rw [h7]
    exact q _ _ (A7 _ List.mem_cons_self) (P7.mono (by omega)) ((((((B1.trans B2).trans B3).trans B4).trans (But.of s5)).trans B6).trans (But.of s7))
theorem ok__law_a_key {k : Nat} (T : Txt K mg) : FnOk P w K mg base CX0 (k + 2) T.f__law_a_key T.d__law_a_key ["pot"] (spDraw 3 isNum) := by
  refine (T.F__law_a_key).ok sc__law_a_key (fun vs H Q E h => ?_) (fun cdv A outer s H vs Q E hr h => ?_)
  · obtain ⟨p, n, rfl, _⟩ := h
    rfl
  · obtain ⟨p, n, rfl, hP, hn, q⟩ := h
    refine ⟨_, (pss_one (ps_ret (pe_ix ix_list (pe_lst (pa_cons (pe_call (ok__law_take T) hr (by rfl) T.g__law_take T.F__law_take.kp T.b__law_take .nil pass0 (pa_cons (pv 0) (pa_cons pe_int pa_nil))) (pa_cons (pe_call (ok__law_take T) hr (by rfl) T.g__law_take T.F__law_take.kp T.b__law_take .nil pass0 (pa_cons (pv 0) (pa_cons (pe_op op_add (pe_op op_pow pe_int pe_int) pe_int) pa_nil))) (pa_cons (pe_op op_pow pe_int pe_int) (pa_cons pe_int pa_nil))))) (pe_call (ok__law_take T) hr (by rfl) T.g__law_take T.F__law_take.kp T.b__law_take .nil pass0 (pa_cons (pv 0) (pa_cons pe_int pa_nil))) (fun _ _ => rfl)))), ?_⟩
    refine ⟨_, rfl, p, n, 9, rfl, hP, by omega, by decide, by decide, fun c1 H1 c10 c11 P1 B1 => ?_⟩
    refine ⟨_, rfl, _, _, rfl, rfl, pw, _, _, rfl, rfl, p, _, _, rfl, P1, by omega, by decide, by decide, fun c2 H2 c20 c21 P2 B2 => ?_⟩
    refine ⟨_, _, rfl, rfl, pw, (by decide : 4 ≤ sizeLine), fun L hL => ?_⟩
    have nL := P2.ne hL
    obtain ⟨H5, h5, s5, e5⟩ := alloc (.lst [.int c1, .int c2, .int (10 ^ Int.toNat 9), .int 0]) hL
    rw [h5]
    refine ⟨_, rfl, p, _, 4, rfl, P2.same s5, by omega, by decide, by decide, fun r H6 r0 r1 P6 B6 => ?_⟩
    obtain ⟨v, hv, hm⟩ := atI_bd (xs := [.int c1, .int c2, .int (10 ^ Int.toNat 9), .int 0]) r0 r1
    refine ⟨L, _, r, v, rfl, rfl, SqL.of (B6 _ _ nL e5), hv, ?_⟩
    refine q _ _ ?_ P6 (((B1.trans B2).trans (But.of s5)).trans B6)
    simp only [List.mem_cons, List.not_mem_nil, or_false] at hm
    rcases hm with rfl | rfl | rfl | rfl <;> exact ⟨_, rfl⟩
/-- a row of one part at least -/
def isRow : Addr → Hp → V → Prop := fun p H v => ∃ (a : Addr) (xs : List V), v = .ref a ∧ H a = some (.tup xs) ∧ AnyAll p H xs ∧ a ≠ p ∧ 1 ≤ xs.length ∧ xs.length ≤ 100
theorem isRow.any {p : Addr} {H : Hp} {v : V} (h : isRow p H v) : Any p H v := by
  obtain ⟨a, xs, rfl, e, hx, hp, _⟩ := h
  exact .tup e hx hp
theorem isRow.but {p : Addr} {H H' : Hp} {v : V} (h : isRow p H v) (s : But p H H') : isRow p H' v := by
  obtain ⟨a, xs, rfl, e, hx, hp, l1, l2⟩ := h
  exact ⟨a, xs, rfl, s _ _ hp e, hx.but s, hp, l1, l2⟩
theorem isRow.mk {p : Addr} {n : Nat} {H H1 : Hp} {xs : List V} (P : Pot p n H) (hx : AnyAll p H xs) {a : Addr} (hn : H a = none) (h : upd H a (.tup xs) = H1) (l1 : 1 ≤ xs.length) (l2 : xs.length ≤ 100) : isRow p H1 (.ref a) ∧ Pot p n H1 ∧ Same H H1 := by
  have s : Same H H1 := h ▸ Same.new hn
  exact ⟨⟨a, xs, rfl, h ▸ upd_same, hx.same s, P.ne hn, l1, l2⟩, P.same s, s⟩
def spPlace : Sp := fun vs H Q _ => ∃ (p : Addr) (n : Nat) (z : Str), vs = [.ref p, .str z] ∧ okS z ∧ Pot p n H ∧ n + 30 < 100000 ∧
  ∀ v H', isRow p H' v → Pot p (n + 30) H' → But p H H' → Q v H'
theorem ok__law_a_place {k : Nat} (T : Txt K mg) : FnOk P w K mg base CX0 (k + 4) T.f__law_a_place T.d__law_a_place ["pot", "word"] spPlace := by
  refine (T.F__law_a_place).ok sc__law_a_place (fun vs H Q E h => ?_) (fun cdv A outer s H vs Q E hr h => ?_)
  · obtain ⟨p, n, z, rfl, _⟩ := h
    rfl
  · obtain ⟨p, n, z, rfl, hz, hP, hn, q⟩ := h
    refine ⟨_, (pss_cons (ps_set (i := 2) sc__law_a_place.nd rfl (Or.inl rfl) (pe_call (ok__law_word T) hr (by rfl) T.g__law_word T.F__law_word.kp T.b__law_word .nil pass0 (pa_cons (pv 0) pa_nil))) (pss_cons (ps_if (pt_cmpR op_eq (pv 1) pe_str (nomark _)) (pss_one (ps_ret (pe_tup (pa_cons (pv 1) (pa_cons (pv 2) pa_nil))))) pss_nil) (pss_cons (ps_if (pt_cmpR op_eq (pv 1) pe_str (nomark _)) (pss_one (ps_ret (pe_tup (pa_cons (pv 1) (pa_cons (pv 2) (pa_cons (pe_call (ok__law_word T) hr (by rfl) T.g__law_word T.F__law_word.kp T.b__law_word .nil pass0 (pa_cons (pv 0) pa_nil)) pa_nil)))))) pss_nil) (pss_cons (ps_if (pt_cmpR op_eq (pv 1) pe_str (nomark _)) (pss_one (ps_ret (pe_tup (pa_cons (pv 1) (pa_cons (pv 2) (pa_cons (pe_call (ok__law_a_key T) hr (by rfl) T.g__law_a_key T.F__law_a_key.kp T.b__law_a_key .nil pass0 (pa_cons (pv 0) pa_nil)) pa_nil)))))) pss_nil) (pss_cons (ps_if (pt_cmpR op_eq (pv 1) pe_str (nomark _)) (pss_one (ps_ret (pe_tup (pa_cons (pv 1) (pa_cons (pv 2) (pa_cons (pe_call (ok__law_a_key T) hr (by rfl) T.g__law_a_key T.F__law_a_key.kp T.b__law_a_key .nil pass0 (pa_cons (pv 0) pa_nil)) (pa_cons (pe_call (ok__law_an_id T) hr (by rfl) T.g__law_an_id T.F__law_an_id.kp T.b__law_an_id .nil pass0 (pa_cons (pv 0) pa_nil)) pa_nil))))))) pss_nil) (pss_one (ps_ret (pe_tup (pa_cons (pv 1) (pa_cons (pv 2) (pa_cons (pe_call (ok__law_an_id T) hr (by rfl) T.g__law_an_id T.F__law_an_id.kp T.b__law_an_id .nil pass0 (pa_cons (pv 0) pa_nil)) pa_nil))))))))))), ?_⟩
    refine ⟨_, rfl, p, _, rfl, hP, by omega, fun v1 H1 ⟨tb, et, htb⟩ P1 B1 => ?_⟩
    subst et
    refine ⟨_, rfl, rfl, _, rfl, iteB (fun _ => ?_) (fun _ => ?_)⟩
    · refine ⟨_, rfl, _, rfl, (by decide : 2 ≤ sizeLine), fun t ht => ?_⟩
      obtain ⟨R, PR, s⟩ := isRow.mk P1 (.cons (Any.str hz) (.cons (Any.str htb) .nil)) ht rfl (by simp) (by simp)
      exact q _ _ R (PR.mono (by omega)) (B1.trans (But.of s))
    refine ⟨_, rfl, rfl, _, rfl, iteB (fun _ => ?_) (fun _ => ?_)⟩
    · refine ⟨_, rfl, _, rfl, _, rfl, p, _, rfl, P1, by omega, fun v2 H2 ⟨y, ey, hy⟩ P2 B2 => ?_⟩
      subst ey
      refine ⟨(by decide : 3 ≤ sizeLine), fun t ht => ?_⟩
      obtain ⟨R, PR, s⟩ := isRow.mk P2 (.cons (Any.str hz) (.cons (Any.str htb) (.cons (Any.str hy) .nil))) ht rfl (by simp) (by simp)
      exact q _ _ R (PR.mono (by omega)) ((B1.trans B2).trans (But.of s))
    refine ⟨_, rfl, rfl, _, rfl, iteB (fun _ => ?_) (fun _ => ?_)⟩
    · refine ⟨_, rfl, _, rfl, _, rfl, p, _, rfl, P1, by omega, fun v2 H2 ⟨y, ey⟩ P2 B2 => ?_⟩
      subst ey
      refine ⟨(by decide : 3 ≤ sizeLine), fun t ht => ?_⟩
      obtain ⟨R, PR, s⟩ := isRow.mk P2 (.cons (Any.str hz) (.cons (Any.str htb) (.cons (Any.int y) .nil))) ht rfl (by simp) (by simp)
      exact q _ _ R (PR.mono (by omega)) ((B1.trans B2).trans (But.of s))
    refine ⟨_, rfl, rfl, _, rfl, iteB (fun _ => ?_) (fun _ => ?_)⟩
    · refine ⟨_, rfl, _, rfl, _, rfl, p, _, rfl, P1, by omega, fun v2 H2 ⟨y, ey⟩ P2 B2 => ?_⟩
      subst ey
      refine ⟨_, rfl, p, _, rfl, P2, by omega, fun v3 H3 R3 P3 B3 => ?_⟩
      refine ⟨(by decide : 4 ≤ sizeLine), fun t ht => ?_⟩
      obtain ⟨R, PR, s⟩ := isRow.mk P3 (.cons (Any.str hz) (.cons (Any.str htb) (.cons (Any.int y) (.cons R3 .nil)))) ht rfl (by simp) (by simp)
      exact q _ _ R (PR.mono (by omega)) (((B1.trans B2).trans B3).trans (But.of s))
    · refine ⟨_, rfl, _, rfl, _, rfl, p, _, rfl, P1, by omega, fun v2 H2 R2 P2 B2 => ?_⟩
      refine ⟨(by decide : 3 ≤ sizeLine), fun t ht => ?_⟩
      obtain ⟨R, PR, s⟩ := isRow.mk P2 (.cons (Any.str hz) (.cons (Any.str htb) (.cons R2 .nil))) ht rfl (by simp) (by simp)
      exact q _ _ R (PR.mono (by omega)) ((B1.trans B2).trans (But.of s))
end
end K03
namespace K03
open PySem PySem.Spec PyProof.Rows L2 Pr
section
variable {P : Program} {w : World} {K : PySem.W.Frag} {mg : Str → Option Value} {base : Heap}
theorem flat1 (v : V) (xs : List V) (h : v ∈ xs) (hf : ∀ x ∈ xs, (x = .non ∨ (∃ b, x = .bl b) ∨ (∃ i, x = .int i) ∨ ∃ z, x = .str z ∧ okS z)) {p : Addr} {H : Hp} : Any p H v := by
  rcases hf v h with rfl | ⟨b, rfl⟩ | ⟨i, rfl⟩ | ⟨z, rfl, hz⟩
  · exact .non
  · exact .bl b
  · exact .int i
  · exact .str hz
theorem ok__law_odd {k : Nat} (T : Txt K mg) : FnOk P w K mg base CX0 (k + 2) T.f__law_odd T.d__law_odd ["pot"] (spDraw 1 Any) := by
  refine (T.F__law_odd).ok sc__law_odd (fun vs H Q E h => ?_) (fun cdv A outer s H vs Q E hr h => ?_)
  · obtain ⟨p, n, rfl, _⟩ := h
    rfl
  · obtain ⟨p, n, rfl, hP, hn, q⟩ := h
    refine ⟨_, (pss_cons (ps_set (i := 1) sc__law_odd.nd rfl (Or.inl rfl) (pe_lst (pa_cons pe_non (pa_cons pe_bl (pa_cons pe_bl (pa_cons pe_int (pa_cons pe_int (pa_cons pe_int (pa_cons pe_int (pa_cons (pe_un un_neg pe_int) (pa_cons (pe_op op_pow pe_int pe_int) (pa_cons (pe_op op_add (pe_op op_pow pe_int pe_int) pe_int) (pa_cons (pe_op op_pow pe_int pe_int) (pa_cons (pe_op op_add (pe_op op_pow pe_int pe_int) pe_int) (pa_cons (pe_un un_neg (pe_op op_pow pe_int pe_int)) (pa_cons (pe_op op_sub (pe_un un_neg (pe_op op_pow pe_int pe_int)) pe_int) pa_nil)))))))))))))))) (pss_cons (ps_set (i := 1) sc__law_odd.nd rfl (Or.inl rfl) (pe_op op_cat (pv 1) (pe_lst (pa_cons (pe_op op_pow pe_int pe_int) (pa_cons pe_str (pa_cons pe_str (pa_cons pe_str (pa_cons pe_str (pa_cons pe_str (pa_cons pe_str (pa_cons pe_str (pa_cons pe_str (pa_cons pe_str (pa_cons pe_str (pa_cons pe_str (pa_cons (pe_tup pa_nil) pa_nil)))))))))))))))) (pss_cons (ps_set (i := 1) sc__law_odd.nd rfl (Or.inl rfl) (pe_op op_cat (pv 1) (pe_lst (pa_cons (pe_tup (pa_cons pe_int (pa_cons pe_str (pa_cons pe_int pa_nil)))) (pa_cons (pe_tup (pa_cons pe_int (pa_cons pe_str (pa_cons pe_int pa_nil)))) (pa_cons (pe_tup (pa_cons pe_int (pa_cons pe_str (pa_cons pe_int pa_nil)))) (pa_cons (pe_tup (pa_cons pe_int (pa_cons pe_str (pa_cons (pe_un un_neg pe_int) pa_nil)))) (pa_cons (pe_tup (pa_cons pe_int (pa_cons pe_str (pa_cons (pe_op op_add (pe_op op_pow pe_int pe_int) pe_int) pa_nil)))) (pa_cons (pe_tup (pa_cons pe_bl (pa_cons pe_str (pa_cons pe_int pa_nil)))) pa_nil))))))))) (pss_cons (ps_set (i := 1) sc__law_odd.nd rfl (Or.inl rfl) (pe_op op_cat (pv 1) (pe_lst (pa_cons (pe_tup (pa_cons pe_int (pa_cons pe_str pa_nil))) (pa_cons (pe_tup (pa_cons pe_int (pa_cons pe_str (pa_cons pe_int (pa_cons pe_int pa_nil))))) (pa_cons (pe_lst (pa_cons pe_int (pa_cons pe_str (pa_cons pe_int pa_nil)))) (pa_cons (pe_lst pa_nil) (pa_cons pe_dnewK (pa_cons (pe_tup (pa_cons pe_str pa_nil)) (pa_cons (pe_tup (pa_cons pe_str (pa_cons pe_str pa_nil))) (pa_cons (pe_tup (pa_cons pe_int (pa_cons pe_int (pa_cons pe_int pa_nil)))) (pa_cons (pe_tup (pa_cons pe_str (pa_cons pe_str (pa_cons pe_int pa_nil)))) pa_nil)))))))))))) (pss_one (ps_ret (pe_ix ix_list (pv 1) (pe_call (ok__law_take T) hr (by rfl) T.g__law_take T.F__law_take.kp T.b__law_take .nil pass0 (pa_cons (pv 0) (pa_cons (pe_callB call_len_seq (by rfl) T.n_len PySem.boot_len (pa_cons (pv 1) pa_nil)) pa_nil))) (fun _ _ => rfl)))))))), ?_⟩
    refine ⟨_, rfl, _, _, rfl, rfl, pw, _, _, rfl, rfl, pw, _, _, rfl, rfl, _, _, rfl, rfl, pw, _, _, rfl, rfl, pw, _, _, rfl, rfl, _, _, rfl, rfl, pw, _, rfl, _, _, rfl, rfl, pw, _, rfl, _, _, rfl, rfl, by decide, fun L1 hL1 => ?_⟩
    generalize hxs : [V.non, V.bl _, V.bl _, V.int 0, V.int 1, V.int 7, V.int 8, V.int _, V.int _, V.int _, V.int _, V.int _, V.int _, V.int _] = xs1
    have a1 : AnyAll p H xs1 := by
      rw [← hxs]
      exact .cons .non (.cons (.bl _) (.cons (.bl _) (.cons (.int _) (.cons (.int _) (.cons (.int _) (.cons (.int _) (.cons (.int _) (.cons (.int _) (.cons (.int _) (.cons (.int _) (.cons (.int _) (.cons (.int _) (.cons (.int _) .nil)))))))))))))
    have l1 : xs1.length = 14 := by rw [← hxs]; rfl
    obtain ⟨H1, h1, s1, e1⟩ := alloc (.lst xs1) hL1
    rw [h1]
    have P1 := hP.same s1
    -- the second row
    refine ⟨_, rfl, _, _, rfl, rfl, pw, by decide, fun t1 ht1 => ?_⟩
    obtain ⟨H2, h2, s2, A2, P2, _⟩ := accT (acc := []) AnyAll.nil P1 AnyAll.nil ht1
    rw [h2]
    refine ⟨(by decide : 13 ≤ sizeLine), fun L2 hL2 => ?_⟩
    generalize hys : [V.int _, V.str _, V.str _, V.str _, V.str _, V.str _, V.str _, V.str _, V.str _, V.str _, V.str _, V.str _, V.ref t1] = ys1
    have a2 : AnyAll p H2 ys1 := by
      rw [← hys]
      refine .cons (.int _) (.cons (.str ⟨by decide, by decide +kernel⟩) (.cons (.str ⟨by decide, by decide +kernel⟩) (.cons (.str ⟨by decide, by decide +kernel⟩) (.cons (.str ⟨by decide, by decide +kernel⟩) (.cons (.str ⟨by decide, by decide +kernel⟩) (.cons (.str ⟨by decide, by decide +kernel⟩) (.cons (.str ⟨by decide, by decide +kernel⟩) (.cons (.str ⟨by decide, by decide +kernel⟩) (.cons (.str ⟨by decide, by decide +kernel⟩) (.cons (.str ⟨by decide, by decide +kernel⟩) (.cons (.str ⟨by decide, by decide +kernel⟩) (.cons (A2 _ (by simp)) .nil))))))))))))
    have l2 : ys1.length = 13 := by rw [← hys]; rfl
    obtain ⟨H3, h3, s3, e3⟩ := alloc (.lst ys1) hL2
    rw [h3]
    refine ⟨L1, L2, xs1, ys1, rfl, rfl, s3 _ _ (s2 _ _ e1), e3, ?_, fun L3 hL3 => ?_⟩
    · rw [l1, l2]
      exact (by decide : 27 ≤ sizeLine)
    have a3 : AnyAll p H3 (xs1 ++ ys1) := (a1.same ((s1.trans s2).trans s3)).append (a2.same s3)
    have l3 : (xs1 ++ ys1).length = 27 := by rw [List.length_append, l1, l2]
    generalize xs1 ++ ys1 = xs2 at a3 l3 ⊢
    obtain ⟨H4, h4, s4, e4⟩ := alloc (.lst xs2) hL3
    rw [h4]
    have s04 := ((s1.trans s2).trans s3).trans s4
    have P4 := hP.same s04
    -- the third row: six ids
    have oa : okS "a" := ⟨by decide, by decide +kernel⟩
    have ok_ : okS "key" := ⟨by decide, by decide +kernel⟩
    have ot : okS "table" := ⟨by decide, by decide +kernel⟩
    refine ⟨_, rfl, by decide, fun t1 ht1 => ?_⟩
    obtain ⟨G1, g1, r1, B1, Q1, _⟩ := accT (acc := []) AnyAll.nil P4 (.cons (.int 0) (.cons (.str oa) (.cons (.int 0) .nil))) ht1
    rw [g1]
    refine ⟨by decide, fun t2 ht2 => ?_⟩
    obtain ⟨G2, g2, r2, B2, Q2, _⟩ := accT B1 Q1 (.cons (.int 8) (.cons (.str oa) (.cons (.int 0) .nil))) ht2
    rw [g2]
    refine ⟨by decide, fun t3 ht3 => ?_⟩
    obtain ⟨G3, g3, r3, B3, Q3, _⟩ := accT B2 Q2 (.cons (.int 0) (.cons (.str ok_) (.cons (.int 0) .nil))) ht3
    rw [g3]
    refine ⟨_, rfl, (by decide : 3 ≤ sizeLine), fun t4 ht4 => ?_⟩
    obtain ⟨G4, g4, r4, B4, Q4, _⟩ := accT B3 Q3 (.cons (.int 0) (.cons (.str oa) (.cons (.int _) .nil))) ht4
    rw [g4]
    refine ⟨_, _, rfl, rfl, pw, _, _, rfl, rfl, (by decide : 3 ≤ sizeLine), fun t5 ht5 => ?_⟩
    obtain ⟨G5, g5, r5, B5, Q5, _⟩ := accT B4 Q4 (.cons (.int 0) (.cons (.str oa) (.cons (.int _) .nil))) ht5
    rw [g5]
    refine ⟨by decide, fun t6 ht6 => ?_⟩
    obtain ⟨G6, g6, r6, B6, Q6, _⟩ := accT B5 Q5 (.cons (.bl true) (.cons (.str oa) (.cons (.int 0) .nil))) ht6
    rw [g6]
    refine ⟨(by decide : 6 ≤ sizeLine), fun L4 hL4 => ?_⟩
    change AnyAll p G6 [.ref t1, .ref t2, .ref t3, .ref t4, .ref t5, .ref t6] at B6
    generalize hzs : [V.ref t1, .ref t2, .ref t3, .ref t4, .ref t5, .ref t6] = zs at B6 ⊢
    have l4 : zs.length = 6 := by rw [← hzs]; rfl
    obtain ⟨H5, h5, s5, e5⟩ := alloc (.lst zs) hL4
    rw [h5]
    have rr := ((((r1.trans r2).trans r3).trans r4).trans r5).trans r6
    refine ⟨L3, L4, xs2, zs, rfl, rfl, s5 _ _ (rr _ _ e4), e5, ?_, fun L5 hL5 => ?_⟩
    · rw [l3, l4]
      exact (by decide : 33 ≤ sizeLine)
    have a5 : AnyAll p H5 (xs2 ++ zs) := (a3.same ((s4.trans rr).trans s5)).append (B6.same s5)
    have l5 : (xs2 ++ zs).length = 33 := by rw [List.length_append, l3, l4]
    generalize xs2 ++ zs = xs3 at a5 l5 ⊢
    obtain ⟨H6, h6, s6, e6⟩ := alloc (.lst xs3) hL5
    rw [h6]
    have s06 := ((s04.trans rr).trans s5).trans s6
    have P6 := hP.same s06
    -- the fourth row
    refine ⟨_, rfl, by decide, fun t1 ht1 => ?_⟩
    obtain ⟨G1, g1, r1, B1, Q1, _⟩ := accT (acc := []) AnyAll.nil P6 (.cons (.int 0) (.cons (.str oa) .nil)) ht1
    rw [g1]
    refine ⟨by decide, fun t2 ht2 => ?_⟩
    obtain ⟨G2, g2, r2, B2, Q2, _⟩ := accT B1 Q1 (.cons (.int 0) (.cons (.str oa) (.cons (.int 0) (.cons (.int 0) .nil)))) ht2
    rw [g2]
    refine ⟨by decide, fun t3 ht3 => ?_⟩
    obtain ⟨G3, g3, r3, B3, Q3, _⟩ := accL B2 Q2 (xs := [.int 0, .str "a", .int 0]) ht3
    rw [g3]
    refine ⟨by decide, fun t4 ht4 => ?_⟩
    obtain ⟨G4, g4, r4, B4, Q4, _⟩ := accL B3 Q3 (xs := []) ht4
    rw [g4]
    refine fun t5 ht5 => ?_
    obtain ⟨G5, g5, r5, B5, Q5, _⟩ := accD B4 Q4 (xs := []) ht5
    rw [g5]
    refine ⟨by decide, fun t6 ht6 => ?_⟩
    obtain ⟨G6, g6, r6, B6, Q6, _⟩ := accT B5 Q5 (.cons (.str oa) .nil) ht6
    rw [g6]
    refine ⟨by decide, fun t7 ht7 => ?_⟩
    obtain ⟨G7, g7, r7, B7, Q7, _⟩ := accT B6 Q6 (.cons (.str ot) (.cons (.str oa) .nil)) ht7
    rw [g7]
    refine ⟨by decide, fun t8 ht8 => ?_⟩
    obtain ⟨G8, g8, r8, B8, Q8, _⟩ := accT B7 Q7 (.cons (.int 0) (.cons (.int 0) (.cons (.int 0) .nil))) ht8
    rw [g8]
    refine ⟨by decide, fun t9 ht9 => ?_⟩
    obtain ⟨G9, g9, r9, B9, Q9, _⟩ := accT B8 Q8 (.cons (.str oa) (.cons (.str oa) (.cons (.int 0) .nil))) ht9
    rw [g9]
    refine ⟨(by decide : 9 ≤ sizeLine), fun L6 hL6 => ?_⟩
    change AnyAll p G9 [.ref t1, .ref t2, .ref t3, .ref t4, .ref t5, .ref t6, .ref t7, .ref t8, .ref t9] at B9
    generalize hws : [V.ref t1, .ref t2, .ref t3, .ref t4, .ref t5, .ref t6, .ref t7, .ref t8, .ref t9] = ws at B9 ⊢
    have l6 : ws.length = 9 := by rw [← hws]; rfl
    obtain ⟨H7, h7, s7, e7⟩ := alloc (.lst ws) hL6
    rw [h7]
    have rr2 := (((((((r1.trans r2).trans r3).trans r4).trans r5).trans r6).trans r7).trans r8).trans r9
    refine ⟨L5, L6, xs3, ws, rfl, rfl, s7 _ _ (rr2 _ _ e6), e7, ?_, fun L7 hL7 => ?_⟩
    · rw [l5, l6]
      exact (by decide : 42 ≤ sizeLine)
    have a7 : AnyAll p H7 (xs3 ++ ws) := (a5.same ((s6.trans rr2).trans s7)).append (B9.same s7)
    have l7 : (xs3 ++ ws).length = 42 := by rw [List.length_append, l5, l6]
    generalize xs3 ++ ws = xs4 at a7 l7 ⊢
    have s07 := (s06.trans rr2).trans s7
    have nL7 := (hP.same s07).ne hL7
    obtain ⟨H8, h8, s8, e8⟩ := alloc (.lst xs4) hL7
    rw [h8]
    have s08 := s07.trans s8
    refine ⟨_, rfl, _, rfl, _, rfl, L7, xs4, rfl, .inl (SqL.of e8), p, n, _, rfl, hP.same s08, by omega, by rw [l7]; decide, by rw [l7]; decide, fun r HF r0 r1 PF BF => ?_⟩
    obtain ⟨v, hv, hm⟩ := atI_bd (xs := xs4) r0 r1
    refine ⟨L7, _, r, v, rfl, rfl, SqL.of (BF _ _ nL7 e8), hv, ?_⟩
    exact q _ _ ((a7 v hm).but ((But.of s8).trans BF)) PF ((But.of s08).trans BF)
end
end K03
namespace K03
open PySem PySem.Spec PyProof.Rows L2 Pr
section
variable {P : Program} {w : World} {K : PySem.W.Frag} {mg : Str → Option Value} {base : Heap}
def spBent : Sp := fun vs H Q _ => ∃ (p : Addr) (n : Nat) (v : V), vs = [.ref p, v] ∧ isRow p H v ∧ Pot p n H ∧ n + 4 < 100000 ∧
  ∀ v H', Any p H' v → Pot p (n + 4) H' → But p H H' → Q v H'
theorem small400 {n : Nat} (h : n ≤ 400) : n ≤ sizeLine := Nat.le_of_lt (small1000 (by omega))
theorem ok__law_bent {k : Nat} (T : Txt K mg) : FnOk P w K mg base CX0 (k + 3) T.f__law_bent T.d__law_bent ["pot", "place"] spBent := by
  refine (T.F__law_bent).ok sc__law_bent (fun vs H Q E h => ?_) (fun cdv A outer s H vs Q E hr h => ?_)
  · obtain ⟨p, n, v, rfl, _⟩ := h
    rfl
  · obtain ⟨p, n, v, rfl, ⟨a, xs, rfl, e, hx, hap, l1, l2⟩, hP, hn, q⟩ := h
    refine ⟨_, (pss_cons (ps_set (i := 2) sc__law_bent.nd rfl (Or.inl rfl) (pe_call (ok__law_take T) hr (by rfl) T.g__law_take T.F__law_take.kp T.b__law_take .nil pass0 (pa_cons (pv 0) (pa_cons (pe_callB call_len_seq (by rfl) T.n_len PySem.boot_len (pa_cons (pv 1) pa_nil)) pa_nil)))) (pss_cons (ps_set (i := 3) sc__law_bent.nd rfl (Or.inl rfl) (pe_call (ok__law_odd T) hr (by rfl) T.g__law_odd T.F__law_odd.kp T.b__law_odd .nil pass0 (pa_cons (pv 0) pa_nil))) (pss_cons (ps_set (i := 4) sc__law_bent.nd rfl (Or.inl rfl) (pe_lst (pa_cons (pe_op op_catB (pe_op op_catB (pe_slice sl_tupB (pv 1) po_none (po_some (pv 2))) (pe_tup (pa_cons (pv 3) pa_nil))) (pe_slice sl_tupB (pv 1) (po_some (pe_op op_add (pv 2) pe_int)) po_none)) (pa_cons (pe_op op_catB (pe_op op_catB (pe_slice sl_tupB (pv 1) po_none (po_some (pv 2))) (pe_tup (pa_cons (pv 3) pa_nil))) (pe_slice sl_tupB (pv 1) (po_some (pe_op op_add (pv 2) pe_int)) po_none)) (pa_cons (pe_op op_catB (pe_slice sl_tupB (pv 1) po_none (po_some (pv 2))) (pe_slice sl_tupB (pv 1) (po_some (pe_op op_add (pv 2) pe_int)) po_none)) pa_nil))))) (pss_cons (ps_set (i := 4) sc__law_bent.nd rfl (Or.inl rfl) (pe_op op_cat (pv 4) (pe_lst (pa_cons (pe_op op_catB (pv 1) (pe_tup (pa_cons (pv 3) pa_nil))) (pa_cons (pe_callTy call_list_of (by rfl) T.n_list (by decide +kernel) (pa_cons (pv 1) pa_nil)) (pa_cons (pe_op op_catB (pe_tup (pa_cons (pe_ix ix_list (pe_call0 (ok__law_words_all T) hr (by rfl) T.g__law_words_all T.F__law_words_all.kp T.b__law_words_all .nil pass0) (pe_call (ok__law_take T) hr (by rfl) T.g__law_take T.F__law_take.kp T.b__law_take .nil pass0 (pa_cons (pv 0) (pa_cons pe_int pa_nil))) (fun _ _ => rfl)) pa_nil)) (pe_slice sl_tupB (pv 1) (po_some pe_int) po_none)) (pa_cons (pe_revT (pv 1)) (pa_cons (pv 3) pa_nil)))))))) (pss_one (ps_ret (pe_ix ix_list (pv 4) (pe_call (ok__law_take T) hr (by rfl) T.g__law_take T.F__law_take.kp T.b__law_take .nil pass0 (pa_cons (pv 0) (pa_cons pe_int pa_nil))) (fun _ _ => rfl)))))))), ?_⟩
    refine ⟨_, rfl, _, rfl, a, xs, rfl, .inr (.inl (.inl e)), p, n, _, rfl, hP, by omega, by omega, by omega, fun at_ H1 at0 at1 P1 B1 => ?_⟩
    refine ⟨_, rfl, p, _, rfl, P1, by omega, fun odd H2 R2 P2 B2 => ?_⟩
    have b2 := B1.trans B2
    have e2 := b2 _ _ hap e
    have hx2 := hx.but b2
    have cl : ∀ lo hi, (cutV xs lo hi).length ≤ 100 := fun lo hi => Nat.le_trans (cutV_length _ _ _) l2
    -- place[:at] + (odd,) + place[at + 1:], twice
    refine ⟨_, rfl, _, rfl, at_, rfl, a, xs, rfl, e2, fun t1 G1 s1 e1 => ?_⟩
    refine ⟨_, rfl, by show 1 ≤ sizeLine; decide, fun t2 ht2 => ?_⟩
    obtain ⟨G2, g2, s2, e2'⟩ := alloc (.tup [odd]) ht2
    rw [g2]
    refine ⟨t1, t2, _, _, rfl, rfl, s2 _ _ e1, e2', small400 (by have := cl none (some at_); simp; omega), fun t3 G3 s3 e3 => ?_⟩
    have s03 := (s1.trans s2).trans s3
    refine ⟨_, rfl, _, rfl, _, _, rfl, rfl, _, rfl, a, xs, rfl, s03 _ _ e2, fun t4 G4 s4 e4 => ?_⟩
    refine ⟨t3, t4, _, _, rfl, rfl, s4 _ _ e3, e4, small400 (by have h1 := cl none (some at_); have h2 := cl (some (at_ + 1)) none; simp; omega), fun t5 G5 s5 e5 => ?_⟩
    have s05 := (s03.trans s4).trans s5
    have c1 : AnyAll p H2 (cutV xs none (some at_) ++ [odd] ++ cutV xs (some (at_ + 1)) none) := ((hx2.cut _ _).append (.cons R2 .nil)).append (hx2.cut _ _)
    generalize hc1 : cutV xs none (some at_) ++ [odd] ++ cutV xs (some (at_ + 1)) none = row1 at c1 e5
    refine ⟨_, rfl, _, rfl, at_, rfl, a, xs, rfl, s05 _ _ e2, fun t6 G6 s6 e6 => ?_⟩
    refine ⟨_, rfl, by show 1 ≤ sizeLine; decide, fun t7 ht7 => ?_⟩
    obtain ⟨G7, g7, s7, e7⟩ := alloc (.tup [odd]) ht7
    rw [g7]
    refine ⟨t6, t7, _, _, rfl, rfl, s7 _ _ e6, e7, small400 (by have := cl none (some at_); simp; omega), fun t8 G8 s8 e8 => ?_⟩
    have s08 := ((s05.trans s6).trans s7).trans s8
    refine ⟨_, rfl, _, rfl, _, _, rfl, rfl, _, rfl, a, xs, rfl, s08 _ _ e2, fun t9 G9 s9 e9 => ?_⟩
    refine ⟨t8, t9, _, _, rfl, rfl, s9 _ _ e8, e9, small400 (by have h1 := cl none (some at_); have h2 := cl (some (at_ + 1)) none; simp; omega), fun t10 G10 s10 e10 => ?_⟩
    have s010 := (s08.trans s9).trans s10
    rw [hc1] at e10
    refine ⟨_, rfl, _, rfl, at_, rfl, a, xs, rfl, s010 _ _ e2, fun t11 G11 s11 e11 => ?_⟩
    refine ⟨_, rfl, _, rfl, _, _, rfl, rfl, _, rfl, a, xs, rfl, (s010.trans s11) _ _ e2, fun t12 G12 s12 e12 => ?_⟩
    refine ⟨t11, t12, _, _, rfl, rfl, s12 _ _ e11, e12, small400 (by have h1 := cl none (some at_); have h2 := cl (some (at_ + 1)) none; omega), fun t13 G13 s13 e13 => ?_⟩
    have s013 := ((s010.trans s11).trans s12).trans s13
    have c3 : AnyAll p H2 (cutV xs none (some at_) ++ cutV xs (some (at_ + 1)) none) := (hx2.cut _ _).append (hx2.cut _ _)
    refine ⟨(by decide : 3 ≤ sizeLine), fun L1 hL1 => ?_⟩
    obtain ⟨G14, g14, s14, e14⟩ := alloc (.lst [.ref t5, .ref t10, .ref t13]) hL1
    rw [g14]
    have s014 := s013.trans s14
    have P14 := P2.same s014
    have A1 : AnyAll p G14 [.ref t5, .ref t10, .ref t13] := by
      have k5 := ((((((s6.trans s7).trans s8).trans s9).trans s10).trans s11).trans s12).trans s13
      have f5 := (k5.trans s14) _ _ e5
      have f10 := (((s11.trans s12).trans s13).trans s14) _ _ e10
      have f13 := s14 _ _ e13
      exact .cons (.tup f5 (c1.same s014) (tupNe P14 f5)) (.cons (.tup f10 (c1.same s014) (tupNe P14 f10)) (.cons (.tup f13 (c3.same s014) (tupNe P14 f13)) .nil))
    have hl3 : [V.ref t5, .ref t10, .ref t13].length = 3 := rfl
    generalize [V.ref t5, .ref t10, .ref t13] = first3 at e14 A1 hl3 ⊢
    -- the second row
    refine ⟨_, rfl, _, rfl, _, rfl, by show 1 ≤ sizeLine; decide, fun u1 hu1 => ?_⟩
    obtain ⟨F1, f1, r1, d1⟩ := alloc (.tup [odd]) hu1
    rw [f1]
    refine ⟨a, u1, xs, _, rfl, rfl, r1 _ _ (s014 _ _ e2), d1, small400 (by simp; omega), fun u2 F2 r2 d2 => ?_⟩
    have z2 := (s014.trans r1).trans r2
    refine ⟨_, rfl, a, xs, rfl, .inr (.inl (.inl (z2 _ _ e2))), fun u3 hu3 => ?_⟩
    obtain ⟨F3, f3, r3, d3⟩ := alloc (.lst xs) hu3
    rw [f3]
    have z3 := z2.trans r3
    refine ⟨rfl, fun L2 F4 hL2 r4 d4 => ?_⟩
    have z4 := z3.trans r4
    have P4 := P2.same z4
    have nL2 : L2 ≠ p := (P2.same z3).ne hL2
    refine ⟨_, rfl, p, _, 8, rfl, P4, by omega, by decide, by decide, fun r F5 r0 r1' P5 B5 => ?_⟩
    obtain ⟨v, hv, hm⟩ := atI_bd (xs := theWords.map V.str) r0 r1'
    refine ⟨L2, _, r, v, rfl, rfl, SqL.of (B5 _ _ nL2 d4), hv, ?_⟩
    have hvz : Any p F5 v := by
      obtain ⟨z, hz, rfl⟩ := List.mem_map.mp hm
      refine .str ?_
      have : ∀ z ∈ theWords, z.length ≤ 1000 ∧ PyData.strOk z = true := by decide +kernel
      exact this z hz
    have b5 : But p H2 F5 := (But.of z4).trans B5
    have e25 := b5 _ _ hap e2
    have hx5 := hx2.but b5
    refine ⟨by show 1 ≤ sizeLine; decide, fun u4 hu4 => ?_⟩
    obtain ⟨F6, f6, r6, d6⟩ := alloc (.tup [v]) hu4
    rw [f6]
    refine ⟨_, rfl, _, rfl, a, xs, rfl, r6 _ _ e25, fun u5 F7 r7 d7 => ?_⟩
    refine ⟨u4, u5, _, _, rfl, rfl, r7 _ _ d6, d7, small400 (by have := cl (some 1) none; simp; omega), fun u6 F8 r8 d8 => ?_⟩
    have z8 := (r6.trans r7).trans r8
    refine ⟨_, rfl, a, xs, rfl, .inl (.inl (z8 _ _ e25)), fun u7 hu7 => ?_⟩
    obtain ⟨F9, f9, r9, d9⟩ := alloc (.tup xs.reverse) hu7
    rw [f9]
    have z9 := z8.trans r9
    refine ⟨_, rfl, (by decide : 5 ≤ sizeLine), fun L3 hL3 => ?_⟩
    obtain ⟨F10, f10, r10, d10⟩ := alloc (.lst [.ref u2, .ref u3, .ref u6, .ref u7, odd]) hL3
    rw [f10]
    have z10 := z9.trans r10
    have P10 := P5.same z10
    have b10 : But p H2 F10 := b5.trans (But.of z10)
    have nL1 : L1 ≠ p := (P2.same s013).ne hL1
    have lateL1 : F10 L1 = some (.lst first3) := z10 _ _ (B5 _ _ nL1 ((((r1.trans r2).trans r3).trans r4) _ _ e14))
    have A2 : AnyAll p F10 [.ref u2, .ref u3, .ref u6, .ref u7, odd] := by
      have n2 : u2 ≠ p := tupNe (P2.same z2) d2
      have g2' : F10 u2 = some (.tup (xs ++ [odd])) := z10 _ _ (B5 _ _ n2 ((r3.trans r4) _ _ d2))
      have n3 : u3 ≠ p := (P2.same z2).ne hu3
      have g3 : F10 u3 = some (.lst xs) := z10 _ _ (B5 _ _ n3 (r4 _ _ d3))
      have g6 := (r9.trans r10) _ _ d8
      have g7 := r10 _ _ d9
      have hx10 := hx2.but b10
      refine .cons (.tup g2' (hx10.append (.cons (R2.but b10) .nil)) n2) (.cons (.lst g3 n3) (.cons (.tup g6 ?_ (tupNe P10 g6)) (.cons (.tup g7 (fun x h => hx10 x (List.mem_reverse.mp h)) (tupNe P10 g7)) (.cons (R2.but b10) .nil))))
      exact (AnyAll.cons (hvz.same z10) .nil).append (hx10.cut _ _)
    have hl5 : [V.ref u2, .ref u3, .ref u6, .ref u7, odd].length = 5 := rfl
    generalize [V.ref u2, .ref u3, .ref u6, .ref u7, odd] = last5 at d10 A2 hl5 ⊢
    refine ⟨L1, L3, first3, last5, rfl, rfl, lateL1, d10, by rw [hl3, hl5]; decide, fun L4 hL4 => ?_⟩
    obtain ⟨F11, f11, r11, d11⟩ := alloc (.lst (first3 ++ last5)) hL4
    rw [f11]
    have nL4 := P10.ne hL4
    refine ⟨_, rfl, _, rfl, p, _, 8, rfl, P10.same r11, by omega, by decide, by decide, fun r' F12 r0' r1'' P12 B12 => ?_⟩
    obtain ⟨v', hv', hm'⟩ := atI_bd (xs := first3 ++ last5) r0' (by rw [List.length_append, hl3, hl5]; exact r1'')
    refine ⟨L4, _, r', v', rfl, rfl, SqL.of (B12 _ _ nL4 d11), hv', ?_⟩
    have A12 : AnyAll p F12 (first3 ++ last5) := by
      have k1 : But p G14 F10 := (But.of (((r1.trans r2).trans r3).trans r4)).trans (B5.trans (But.of z10))
      exact ((A1.but k1).append A2).but ((But.of r11).trans B12)
    exact q _ _ (A12 v' hm') (P12.mono (by omega)) ((b2.trans b10).trans ((But.of r11).trans B12))
end
end K03
namespace K03
open PySem PySem.Spec PyProof.Rows L2 Pr
section
variable {P : Program} {w : World} {K : PySem.W.Frag} {mg : Str → Option Value} {base : Heap}
def mInt : D → Bool
  | .int _ => true
  | _ => false
theorem mInt_int {d : D} (h : mInt d = true) : ∃ i, d = .int i := by
  cases d <;> first | exact ⟨_, rfl⟩ | cases h
theorem mInt_whole {d : D} {lo hi : Int} (h : mInt d = false) : mWhole lo hi d = false := by
  cases d <;> first | rfl | cases h
theorem isS_dec (z y : Str) : isS (.str z) y = decide (V.str z = V.str y) := by
  show decide (z = y) = _
  exact decide_eq_decide.mpr ⟨fun h => by rw [h], fun h => V.str.inj h⟩
theorem ok__law_whole {k : Nat} (T : Txt K mg) : FnOk P w K mg base CX0 (k + 1) T.f__law_whole T.d__law_whole ["found"] (spD mInt) := by
  refine (T.F__law_whole).ok sc__law_whole (fun vs H Q E h => ?_) (fun cdv A outer s H vs Q E hr h => ?_)
  · obtain ⟨p, v, d, rfl, _⟩ := h
    rfl
  · obtain ⟨p, v, d, rfl, hd, q⟩ := h
    refine ⟨_, (pss_one (ps_ret (pe_and (pe_callB call_isd (by rfl) T.n_isinstance (by decide +kernel) (pa_cons (pv 0) (pa_cons (pe_bltn (by rfl) T.n_int (by decide +kernel) (v := .ty "int") rfl) pa_nil))) (pe_one (pe_not (pe_callB call_isd (by rfl) T.n_isinstance (by decide +kernel) (pa_cons (pv 0) (pa_cons (pe_bltn (by rfl) T.n_bool (by decide +kernel) (v := .ty "bool") rfl) pa_nil)))))))), ?_⟩
    have hd' := hd
    refine ⟨_, rfl, p, _, _, "int", rfl, .inr (.inl rfl), hd, _, rfl, ?_⟩
    cases hd' <;> first | exact q _ (.refl _) | exact ⟨_, rfl, p, _, _, "bool", rfl, .inl rfl, hd, _, rfl, q _ (.refl _)⟩
theorem ok__law_is_name {k : Nat} (T : Txt K mg) : FnOk P w K mg base CX0 (k + 1) T.f__law_is_name T.d__law_is_name ["thing"] (spD mName) := by
  refine (T.F__law_is_name).ok sc__law_is_name (fun vs H Q E h => ?_) (fun cdv A outer s H vs Q E hr h => ?_)
  · obtain ⟨p, v, d, rfl, _⟩ := h
    rfl
  · obtain ⟨p, v, d, rfl, hd, q⟩ := h
    refine ⟨_, (pss_cons (ps_if (PW.pt (pw_or (pt_not (pt_val (pe_callB call_isd (by rfl) T.n_isinstance (by decide +kernel) (pa_cons (pv 0) (pa_cons (pe_bltn (by rfl) T.n_str (by decide +kernel) (v := .ty "str") rfl) pa_nil))))) (pw_or (pt_cmpR op_eq (pv 0) pe_str (nomark _)) (pw_or1 (pt_not (pt_chain op_lt op_lt pe_int (pe_callB call_len_str (by rfl) T.n_len PySem.boot_len (pa_cons (pv 0) pa_nil)) pe_int)))))) (pss_one (ps_ret pe_bl)) pss_nil) (pss_one (ps_ret (pe_cmpR (op_eqD hr.units) (pe_lc (own := [("letter", 1)]) (g := gName 1) rfl sc__law_is_name.nd (pi_str (pv 0)) (blkOk_by (own := [("letter", 1)]) (N := N__law_is_name) (sc := defScope s__law_is_name) (by decide +kernel)) (fun _ _ _ _ _ => (pg_name (i := 1) sc__law_is_name.nd rfl (Or.inl rfl))) (fun _ _ _ _ _ => (pts_one (pt_cmpR op_notIn_sign (pv 1) pe_str (by rfl)))) (fun _ _ _ _ _ => (pv 1))) (pe_lst pa_nil) (nomark _))))), ?_⟩
    refine ⟨_, rfl, p, _, d, "str", rfl, .inr (.inr (.inl rfl)), hd, _, rfl, ?_⟩
    cases hd <;> first | exact q _ (.refl _) | skip
    rename_i z hz
    have en : mName (.str z) = ((decide (z.length ≤ 8) && (decide (0 < z.length) && azAll z)) && !decide (V.str z = V.str "key")) := by
      unfold mName
      rw [isS_dec]
      rfl
    refine ⟨_, rfl, rfl, _, rfl, iteB (fun hkey => ?_) (fun hkey => ?_)⟩
    · rw [en, hkey] at q
      have q1 := q H (.refl _)
      rw [Bool.not_true, Bool.and_false] at q1
      exact q1
    have en2 : mName (.str z) = (decide (z.length ≤ 8) && (decide (0 < z.length) && azAll z)) := by rw [en, hkey, Bool.not_false, Bool.and_true]
    rw [en2] at q
    refine ⟨_, rfl, _, rfl, Nat.le_of_lt (small1000 hz.1), 0, _, rfl, rfl, _, rfl, ite2 (fun h1 => ?_) (fun h1 => ?_)⟩
    · have h1' : 0 < z.length := by have := of_decide_eq_true h1; omega
      refine ⟨_, _, rfl, rfl, _, rfl, ?_⟩
      show if (!decide ((z.length : Int) < 9)) = true then _ else _
      refine ite2 (fun h2 => ?_) (fun h2 => ?_)
      · have h2' : ¬ z.length ≤ 8 := by
          have : ¬ (z.length : Int) < 9 := by simpa using h2
          omega
        have q1 := q H (.refl _)
        rw [decide_eq_false h2', Bool.false_and] at q1
        exact q1
      · have h2' : z.length ≤ 8 := by
          have : (z.length : Int) < 9 := by simpa using h2
          omega
        refine ⟨_, rfl, z, rfl, fun D hD => ?_⟩
        refine lc_it walk_str (fun i G => ∃ cs : List Nat, cs = (z.cps.toList.take i).filter (fun c => !decide (c ∈ azS.cps.toList)) ∧ G D = some (.lst (cs.map fun c => V.str (oneS c))) ∧ Same H G) ⟨[], rfl, upd_same, Same.new hD⟩ (fun _ _ _ _ => trivial) ?_ ?_
        · intro i x G G' hi hv hy
          obtain ⟨cs, ec, eD, sG⟩ := hv
          obtain ⟨rfl, c, hc, rfl⟩ := hy
          have hc' : z.cps.toList[i]? = some c := by simpa using hc
          refine ⟨rfl, _, rfl, c, azS, rfl, rfl, _, rfl, ite2 (fun h3 => ?_) (fun h3 => ?_)⟩
          · refine ⟨_, rfl, _, eD, ?_, cs ++ [c], ?_, ?_, ?_⟩
            · rw [List.length_map, ec]
              have h1 := List.length_filter_le (fun c => !decide (c ∈ azS.cps.toList)) (z.cps.toList.take i)
              have h2 : (z.cps.toList.take i).length ≤ z.cps.toList.length := by rw [List.length_take]; exact Nat.min_le_right _ _
              have h3 : z.cps.toList.length = z.length := rfl
              exact small1000 (by omega)
            · rw [List.take_add_one, hc', List.filter_append, ← ec]
              congr 1
              show [c] = List.filter _ [c]
              rw [List.filter_cons, if_pos h3]
              rfl
            · rw [upd_same, List.map_append]
              rfl
            · intro q o e
              have nq : q ≠ D := ne_of_none e hD
              rw [upd_ne nq]
              exact sG _ _ e
          · refine ⟨cs, ?_, eD, sG⟩
            rw [List.take_add_one, hc', List.filter_append, ← ec]
            have : List.filter (fun c => !decide (c ∈ azS.cps.toList)) (some c).toList = [] := by
              show List.filter _ [c] = []
              rw [List.filter_cons, if_neg h3]
              rfl
            rw [this, List.append_nil]
        · intro G hv
          obtain ⟨cs, ec, eD, sG⟩ := hv
          have ec2 : cs = z.cps.toList.filter (fun c => !decide (c ∈ azS.cps.toList)) := by
            rw [ec, List.take_of_length_le (by simp)]
          refine ⟨by decide, fun D2 hD2 => ?_⟩
          obtain ⟨G2, h2, s2, e2⟩ := alloc (.lst []) hD2
          rw [h2]
          refine ⟨_, _, .lst (SqL.of (s2 _ _ eD)) (dpAll_ones cs), .lst (SqL.of e2) .nil, shaped_ones ?_, rfl, ?_⟩
          · intro c hc
            rw [ec2] at hc
            exact strOk_iff.mp hz.2 c (List.mem_filter.mp hc).1
          rw [eqv_ones, ec2, filter_empty]
          have q1 := q G2 (sG.trans s2)
          rw [decide_eq_true h2', decide_eq_true h1', Bool.true_and, Bool.true_and] at q1
          exact q1
    · have h1' : ¬ 0 < z.length := by
        have : ¬ (0 : Int) < z.length := by simpa using h1
        omega
      have q1 := q H (.refl _)
      rw [decide_eq_false h1', Bool.false_and, Bool.and_false] at q1
      exact ⟨_, rfl, q1⟩

theorem ok__law_is_key {k : Nat} (T : Txt K mg) : FnOk P w K mg base CX0 (k + 2) T.f__law_is_key T.d__law_is_key ["thing"] (spD mKey) := by
  refine (T.F__law_is_key).ok sc__law_is_key (fun vs H Q E h => ?_) (fun cdv A outer s H vs Q E hr h => ?_)
  · obtain ⟨p, v, d, rfl, _⟩ := h
    rfl
  · obtain ⟨p, v, d, rfl, hd, q⟩ := h
    refine ⟨_, (pss_one (ps_ret (pe_and (pe_call (ok__law_whole T) hr (by rfl) T.g__law_whole T.F__law_whole.kp T.b__law_whole .nil pass0 (pa_cons (pv 0) pa_nil)) (pe_one (pe_chain op_le op_le pe_int (pv 0) (pe_op op_pow pe_int pe_int)))))), ?_⟩
    refine ⟨_, rfl, p, v, d, rfl, hd, fun H1 s1 => ⟨_, rfl, iteB (fun h1 => ?_) (fun h1 => ?_)⟩⟩
    · obtain ⟨i, rfl⟩ := mInt_int h1
      have ev := hd.int_inv
      subst ev
      have q1 := q _ s1
      change Q (.bl (decide (0 ≤ i) && decide (i ≤ 1000000000))) H1 at q1
      refine ⟨_, rfl, 0, i, rfl, rfl, _, rfl, iteB (fun h2 => ?_) (fun h2 => ?_)⟩
      · rw [h2, Bool.true_and] at q1
        exact ⟨_, _, rfl, rfl, pw, _, _, rfl, rfl, q1⟩
      · rw [h2, Bool.false_and] at q1
        exact q1
    · have q1 := q _ s1
      rw [show mKey d = false from mInt_whole h1] at q1
      exact q1
theorem ok__law_is_id {k : Nat} (T : Txt K mg) : FnOk P w K mg base CX0 (k + 2) T.f__law_is_id T.d__law_is_id ["thing"] (spD mId) := by
  refine (T.F__law_is_id).ok sc__law_is_id (fun vs H Q E h => ?_) (fun cdv A outer s H vs Q E hr h => ?_)
  · obtain ⟨p, v, d, rfl, _⟩ := h
    rfl
  · obtain ⟨p, v, d, rfl, hd, q⟩ := h
    refine ⟨_, (pss_cons (ps_if (PW.pt (pw_or (pt_not (pt_val (pe_callB call_isd (by rfl) T.n_isinstance (by decide +kernel) (pa_cons (pv 0) (pa_cons (pe_bltn (by rfl) T.n_tuple (by decide +kernel) (v := .ty "tuple") rfl) pa_nil))))) (pw_or (pt_cmpR op_ne (pe_callB call_len_seq (by rfl) T.n_len PySem.boot_len (pa_cons (pv 0) pa_nil)) pe_int (nomark _)) (pw_or1 (pt_not (pt_val (pe_call (ok__law_is_name T) hr (by rfl) T.g__law_is_name T.F__law_is_name.kp T.b__law_is_name .nil pass0 (pa_cons (pe_ix ix_tup (pv 0) pe_int (fun _ _ => rfl)) pa_nil)))))))) (pss_one (ps_ret pe_bl)) pss_nil) (pss_cons (ps_if (PW.pt (pw_or (pt_not (pt_val (pe_call (ok__law_whole T) hr (by rfl) T.g__law_whole T.F__law_whole.kp T.b__law_whole .nil pass0 (pa_cons (pe_ix ix_tup (pv 0) pe_int (fun _ _ => rfl)) pa_nil)))) (pw_or1 (pt_not (pt_val (pe_call (ok__law_whole T) hr (by rfl) T.g__law_whole T.F__law_whole.kp T.b__law_whole .nil pass0 (pa_cons (pe_ix ix_tup (pv 0) pe_int (fun _ _ => rfl)) pa_nil))))))) (pss_one (ps_ret pe_bl)) pss_nil) (pss_one (ps_ret (pe_and (pe_chain op_le op_le pe_int (pe_ix ix_tup (pv 0) pe_int (fun _ _ => rfl)) pe_int) (pe_one (pe_chain op_le op_le pe_int (pe_ix ix_tup (pv 0) pe_int (fun _ _ => rfl)) (pe_op op_pow pe_int pe_int)))))))), ?_⟩
    refine ⟨_, rfl, p, _, d, "tuple", rfl, .inr (.inr (.inr (.inl rfl))), hd, _, rfl, ?_⟩
    cases hd <;> first | exact q _ (.refl _) | skip
    rename_i a xs ds e hx hp
    have hS : SqT K H a xs := .inl (.inl e)
    refine ⟨_, rfl, a, xs, rfl, .inr hS, rfl, _, rfl, ite2 (fun h1 => ?_) (fun h1 => ?_)⟩
    · have h2 : ds.length ≠ 3 := by
        intro z
        rw [hx.length, z] at h1
        exact absurd h1 (by decide)
      have q1 := q _ (.refl _)
      rw [mId_len h2] at q1
      exact q1
    · have h2 : xs.length = 3 := by
        have h3 := of_decide_eq_true (show decide (V.int (xs.length : Int) = V.int 3) = true by simpa using h1)
        have h4 := V.int.inj h3
        omega
      cases hx with
      | nil => simp at h2
      | @cons x _ dx _ gx t1 =>
      cases t1 with
      | nil => simp at h2
      | @cons y _ dy _ gy t2 =>
      cases t2 with
      | nil => simp at h2
      | @cons z _ dz _ gz t3 =>
      cases t3 with
      | cons _ _ => simp at h2
      | nil =>
        change ∀ H', Same H H' → Q (.bl (mWhole 0 7 dx && (mName dy && mWhole 0 1000000 dz))) H' at q
        refine ⟨_, rfl, a, _, 1, y, rfl, rfl, hS, atI_nat (j := 1) rfl, p, y, dy, rfl, gy, fun H1 s1 => ⟨_, rfl, ?_⟩⟩
        show if (!mName dy) = true then _ else _
        refine iteN (fun hn => ?_) (fun hn => ?_)
        · rw [hn, Bool.true_and] at q
          refine ⟨_, rfl, a, _, 0, x, rfl, rfl, .inl (.inl (s1 _ _ e)), atI_nat (j := 0) rfl, p, x, dx, rfl, gx.same s1, fun H2 s2 => ⟨_, rfl, ?_⟩⟩
          have s12 := s1.trans s2
          cases hi : mInt dx with
          | false =>
            rw [mInt_whole hi, Bool.false_and] at q
            exact q _ s12
          | true =>
            obtain ⟨i, rfl⟩ := mInt_int hi
            have ex := gx.int_inv
            subst ex
            refine ⟨_, rfl, a, _, 2, z, rfl, rfl, .inl (.inl (s12 _ _ e)), atI_nat (j := 2) rfl, p, z, dz, rfl, gz.same s12, fun H3 s3 => ⟨_, rfl, ?_⟩⟩
            have s13 := s12.trans s3
            have hS3 : SqT K H3 a [V.int i, y, z] := .inl (.inl (s13 _ _ e))
            cases hj : mInt dz with
            | false =>
              rw [mInt_whole (d := dz) hj, Bool.and_false] at q
              exact q _ s13
            | true =>
              obtain ⟨j, rfl⟩ := mInt_int hj
              have ez := gz.int_inv
              subst ez
              change ∀ H', Same H H' → Q (.bl ((decide (0 ≤ i) && decide (i ≤ 7)) && (decide (0 ≤ j) && decide (j ≤ 1000000)))) H' at q
              have q1 := q _ s13
              refine ⟨_, rfl, a, _, 0, _, rfl, rfl, hS3, atI_nat (j := 0) rfl, 0, i, rfl, rfl, _, rfl, ?_⟩
              cases hd1 : decide (0 ≤ i) with
              | false =>
                rw [hd1, Bool.false_and, Bool.false_and] at q1
                exact ⟨_, rfl, q1⟩
              | true =>
                refine ⟨i, 7, rfl, rfl, _, rfl, ?_⟩
                cases hd2 : decide (i ≤ 7) with
                | false =>
                  rw [hd2, Bool.and_false, Bool.false_and] at q1
                  exact q1
                | true =>
                  rw [hd1, hd2, Bool.true_and, Bool.true_and] at q1
                  refine ⟨_, rfl, a, _, 2, _, rfl, rfl, hS3, atI_nat (j := 2) rfl, 0, j, rfl, rfl, _, rfl, ?_⟩
                  cases hd3 : decide (0 ≤ j) with
                  | false =>
                    rw [hd3, Bool.false_and] at q1
                    exact q1
                  | true =>
                    rw [hd3, Bool.true_and] at q1
                    exact ⟨_, _, rfl, rfl, pw, _, _, rfl, rfl, q1⟩
        · rw [hn, Bool.false_and, Bool.and_false] at q
          exact q _ s1
end
end K03
namespace K03
open PySem PySem.Spec PyProof.Rows L2 Pr
theorem mFollow_str {dw x : D} (h : ∀ z, dw ≠ .str z) : mFollow dw x = false := by
  cases dw <;> first | rfl | exact absurd rfl (h _)
theorem mPlaceR_str {dw : D} {r : List D} (h : ∀ z, dw ≠ .str z) : mPlaceR dw r = false := by
  match r with
  | [] => cases dw <;> first | rfl | exact absurd rfl (h _)
  | [x] => exact mFollow_str h
  | [k, i] => cases dw <;> first | rfl | exact absurd rfl (h _)
  | _ :: _ :: _ :: _ => rfl
theorem mPlaceR_more {dw dk di : D} (h : isS dw "cell" = false) : ∀ {r : List D}, mPlaceR dw (dk :: di :: r) = false
  | [] => by show (isS dw "cell" && _) = false; rw [h, Bool.false_and]
  | _ :: _ => rfl
theorem isStr_of {d : D} : (∃ z, d = .str z) ∨ (∀ z, d ≠ .str z) := by
  cases d <;> first | exact .inl ⟨_, rfl⟩ | exact .inr (fun z h => by cases h)
theorem mPlace_word {dw dt : D} {dr : List D} (h : mPlace (.tup (dw :: dt :: dr)) = true) : ∃ z, dw = .str z := by
  rcases isStr_of (d := dw) with hz | hn
  · exact hz
  · change (mName dt && mPlaceR dw dr) = true at h
    rw [mPlaceR_str hn, Bool.and_false] at h
    cases h
section
variable {P : Program} {w : World} {K : PySem.W.Frag} {mg : Str → Option Value} {base : Heap}
theorem lt2 {n : Nat} : decide (((n + 1 + 1 : Nat) : Int) < 2) = false := decide_eq_false (by omega)
theorem eqn {n m : Nat} : decide (V.int ((n : Nat) : Int) = V.int ((m : Nat) : Int)) = decide (n = m) := decide_eq_decide.mpr ⟨fun h => by have := V.int.inj h; omega, fun h => by rw [h]⟩
theorem ok__law_is_place {k : Nat} (T : Txt K mg) : FnOk P w K mg base CX0 (k + 3) T.f__law_is_place T.d__law_is_place ["thing"] (spD mPlace) := by
  refine (T.F__law_is_place).ok sc__law_is_place (fun vs H Q E h => ?_) (fun cdv A outer s H vs Q E hr h => ?_)
  · obtain ⟨p, v, d, rfl, _⟩ := h
    rfl
  · obtain ⟨p, v, d, rfl, hd, q⟩ := h
    refine ⟨_, (pss_cons (ps_if (PW.pt (pw_or (pt_not (pt_val (pe_callB call_isd (by rfl) T.n_isinstance (by decide +kernel) (pa_cons (pv 0) (pa_cons (pe_bltn (by rfl) T.n_tuple (by decide +kernel) (v := .ty "tuple") rfl) pa_nil))))) (pw_or (pt_cmpR op_lt (pe_callB call_len_seq (by rfl) T.n_len PySem.boot_len (pa_cons (pv 0) pa_nil)) pe_int (nomark _)) (pw_or (pt_not (pt_val (pe_callB call_isd (by rfl) T.n_isinstance (by decide +kernel) (pa_cons (pe_ix ix_tup (pv 0) pe_int (fun _ _ => rfl)) (pa_cons (pe_bltn (by rfl) T.n_str (by decide +kernel) (v := .ty "str") rfl) pa_nil))))) (pw_or1 (pt_not (pt_val (pe_call (ok__law_is_name T) hr (by rfl) T.g__law_is_name T.F__law_is_name.kp T.b__law_is_name .nil pass0 (pa_cons (pe_ix ix_tup (pv 0) pe_int (fun _ _ => rfl)) pa_nil))))))))) (pss_one (ps_ret pe_bl)) pss_nil) (pss_cons (ps_set (i := 1) sc__law_is_place.nd rfl (Or.inl rfl) (pe_ix ix_tup (pv 0) pe_int (fun _ _ => rfl))) (pss_cons (ps_if (pt_cmpR op_eq (pv 1) pe_str (nomark _)) (pss_one (ps_ret (pe_cmpR op_eq (pe_callB call_len_seq (by rfl) T.n_len PySem.boot_len (pa_cons (pv 0) pa_nil)) pe_int (nomark _)))) pss_nil) (pss_cons (ps_if (pt_cmpR op_eq (pv 1) pe_str (nomark _)) (pss_one (ps_ret (pe_and (pe_cmpR op_eq (pe_callB call_len_seq (by rfl) T.n_len PySem.boot_len (pa_cons (pv 0) pa_nil)) pe_int (nomark _)) (pe_and (pe_call (ok__law_is_key T) hr (by rfl) T.g__law_is_key T.F__law_is_key.kp T.b__law_is_key .nil pass0 (pa_cons (pe_ix ix_tup (pv 0) pe_int (fun _ _ => rfl)) pa_nil)) (pe_one (pe_call (ok__law_is_id T) hr (by rfl) T.g__law_is_id T.F__law_is_id.kp T.b__law_is_id .nil pass0 (pa_cons (pe_ix ix_tup (pv 0) pe_int (fun _ _ => rfl)) pa_nil))))))) pss_nil) (pss_cons (ps_if (pt_cmpR op_ne (pe_callB call_len_seq (by rfl) T.n_len PySem.boot_len (pa_cons (pv 0) pa_nil)) pe_int (nomark _)) (pss_one (ps_ret pe_bl)) pss_nil) (pss_cons (ps_if (pt_cmpR op_eq (pv 1) pe_str (nomark _)) (pss_one (ps_ret (pe_call (ok__law_is_name T) hr (by rfl) T.g__law_is_name T.F__law_is_name.kp T.b__law_is_name .nil pass0 (pa_cons (pe_ix ix_tup (pv 0) pe_int (fun _ _ => rfl)) pa_nil)))) pss_nil) (pss_cons (ps_if (pt_cmpR op_eq (pv 1) pe_str (nomark _)) (pss_one (ps_ret (pe_call (ok__law_is_key T) hr (by rfl) T.g__law_is_key T.F__law_is_key.kp T.b__law_is_key .nil pass0 (pa_cons (pe_ix ix_tup (pv 0) pe_int (fun _ _ => rfl)) pa_nil)))) pss_nil) (pss_one (ps_ret (pe_and (pe_cmpR (op_inS2 hr.units) (pv 1) (pe_lst (pa_cons pe_str (pa_cons pe_str (pa_cons pe_str (pa_cons pe_str pa_nil))))) (by rfl)) (pe_one (pe_call (ok__law_is_id T) hr (by rfl) T.g__law_is_id T.F__law_is_id.kp T.b__law_is_id .nil pass0 (pa_cons (pe_ix ix_tup (pv 0) pe_int (fun _ _ => rfl)) pa_nil))))))))))))), ?_⟩
    refine ⟨_, rfl, p, _, d, "tuple", rfl, .inr (.inr (.inr (.inl rfl))), hd, _, rfl, ?_⟩
    cases hd <;> first | exact q _ (.refl _) | skip
    rename_i a xs ds e hx hp
    have hS : SqT K H a xs := .inl (.inl e)
    refine ⟨_, rfl, a, xs, rfl, .inr hS, _, _, rfl, rfl, _, rfl, ?_⟩
    cases hx with
    | nil => exact q _ (.refl _)
    | @cons w _ dw _ gw t1 =>
    cases t1 with
    | nil => exact q _ (.refl _)
    | @cons t r dt dr gt t2 =>
      have hlen : ¬ (((w :: t :: r).length : Int) < 2) := by rw [List.length_cons, List.length_cons]; omega
      refine iteB (fun h1 => absurd (of_decide_eq_true h1) hlen) (fun _ => ?_)
      change ∀ H', Same H H' → Q (.bl (mName dt && mPlaceR dw dr)) H' at q
      refine ⟨_, rfl, a, _, 0, w, rfl, rfl, hS, atI_nat (j := 0) rfl, p, w, dw, "str", rfl, .inr (.inr (.inl rfl)), gw, _, rfl, ?_⟩
      rcases isStr_of (d := dw) with ⟨zw, rfl⟩ | hn
      · obtain ⟨rfl, hzw⟩ := gw.str_inv
        refine ⟨_, rfl, a, _, 1, t, rfl, rfl, hS, atI_nat (j := 1) rfl, p, t, dt, rfl, gt, fun H1 s1 => ⟨_, rfl, ?_⟩⟩
        show if (!mName dt) = true then _ else _
        refine iteN (fun hn => ?_) (fun hn => ?_)
        · rw [hn, Bool.true_and] at q
          have hS1 : SqT K H1 a (V.str zw :: t :: r) := .inl (.inl (s1 _ _ e))
          have t2' := t2.same s1
          refine ⟨_, rfl, a, _, 0, _, rfl, rfl, hS1, atI_nat (j := 0) rfl, ?_⟩
          have hlen2 : (V.str zw :: t :: r).length = r.length + 2 := rfl
          have hl := t2.length
          refine ⟨_, rfl, rfl, _, rfl, iteB (fun h2 => ?_) (fun h2 => ?_)⟩
          · -- table
            have hz : zw = "table" := V.str.inj (of_decide_eq_true h2)
            subst hz
            refine ⟨_, rfl, a, _, rfl, .inr hS1, rfl, ?_⟩
            have ee : mPlaceR (.str "table") dr = decide (V.int ((V.str "table" :: t :: r).length : Int) = V.int 2) := by
              rw [show (2 : Int) = ((2 : Nat) : Int) from rfl, eqn, hlen2]
              match dr, hl with
              | [], hl => rw [show r.length = 0 from hl]; rfl
              | [x], hl =>
                rw [show r.length = 1 from hl]
                cases x <;> rfl
              | [x, y], hl => rw [show r.length = 2 from hl]; rfl
              | x :: y :: z :: rest, hl =>
                rw [decide_eq_false (by rw [hl]; simp)]
                rfl
            have q1 := q _ s1
            rw [ee] at q1
            exact q1
          have n1 : isS (.str zw) "table" = false := by rw [isS_dec]; exact h2
          refine ⟨_, rfl, rfl, _, rfl, iteB (fun h3 => ?_) (fun h3 => ?_)⟩
          · -- cell
            have hz : zw = "cell" := V.str.inj (of_decide_eq_true h3)
            subst hz
            refine ⟨_, rfl, a, _, rfl, .inr hS1, rfl, _, rfl, ?_⟩
            have hd4 : decide (V.int ((V.str "cell" :: t :: r).length : Int) = V.int 4) = decide (r.length = 2) := by
              rw [show (4 : Int) = ((4 : Nat) : Int) from rfl, eqn, hlen2]
              exact decide_eq_decide.mpr ⟨fun h => by omega, fun h => by omega⟩
            show if decide (V.int ((V.str "cell" :: t :: r).length : Int) = V.int 4) = true then _ else _
            rw [hd4]
            cases t2' with
            | nil =>
              refine iteB (fun h => absurd (of_decide_eq_true h) (by simp)) (fun _ => ?_)
              have q1 := q _ s1
              exact q1
            | @cons k r2 dk dr2 gk t3 =>
            cases t3 with
            | nil =>
              refine iteB (fun h => absurd (of_decide_eq_true h) (by simp)) (fun _ => ?_)
              have q1 := q _ s1
              have e0 : mPlaceR (.str "cell") [dk] = false := rfl
              rw [e0] at q1
              exact q1
            | @cons i r3 di dr3 gi t4 =>
            cases t4 with
            | nil =>
              refine iteB (fun _ => ?_) (fun h => absurd rfl (of_decide_eq_false h))
              change ∀ H', Same H H' → Q (.bl (true && (mKey dk && mId di))) H' at q
              rw [Bool.true_and] at q
              refine ⟨_, rfl, a, _, 2, k, rfl, rfl, hS1, atI_nat (j := 2) rfl, p, k, dk, rfl, gk, fun H3 s3 => ⟨_, rfl, iteB (fun h4 => ?_) (fun h4 => ?_)⟩⟩
              · rw [show mKey dk = true from h4, Bool.true_and] at q
                refine ⟨_, rfl, a, _, 3, i, rfl, rfl, .inl (.inl (s3 _ _ (s1 _ _ e))), atI_nat (j := 3) rfl, p, i, di, rfl, gi.same s3, fun H4 s4 => ?_⟩
                exact q _ ((s1.trans s3).trans s4)
              · rw [show mKey dk = false from h4, Bool.false_and] at q
                exact q _ (s1.trans s3)
            | @cons j r4 dj dr4 gj t5 =>
              refine iteB (fun h => absurd (of_decide_eq_true h) (by simp)) (fun _ => ?_)
              exact q _ s1
          have n2 : isS (.str zw) "cell" = false := by rw [isS_dec]; exact h3
          refine ⟨_, rfl, a, _, rfl, .inr hS1, rfl, _, rfl, ?_⟩
          have hd3 : decide (V.int ((V.str zw :: t :: r).length : Int) = V.int 3) = decide (r.length = 1) := by
            rw [show (3 : Int) = ((3 : Nat) : Int) from rfl, eqn, hlen2]
            exact decide_eq_decide.mpr ⟨fun h => by omega, fun h => by omega⟩
          show if (!decide (V.int ((V.str zw :: t :: r).length : Int) = V.int 3)) = true then _ else _
          rw [hd3]
          cases t2' with
          | nil =>
            refine iteN (fun h => absurd (of_decide_eq_true h) (by simp)) (fun _ => ?_)
            have q1 := q _ s1
            change Q (.bl (isS (.str zw) "table")) H1 at q1
            rw [n1] at q1
            exact q1
          | @cons k r2 dk dr2 gk t3 =>
          cases t3 with
          | @cons i r3 di dr3 gi t4 =>
            refine iteN (fun h => absurd (of_decide_eq_true h) (by simp)) (fun _ => ?_)
            have q1 := q _ s1
            rw [mPlaceR_more n2] at q1
            exact q1
          | nil =>
            refine iteN (fun _ => ?_) (fun h => absurd rfl (of_decide_eq_false h))
            change ∀ H', Same H H' → Q (.bl (mFollow (.str zw) dk)) H' at q
            unfold mFollow at q
            refine ⟨_, rfl, rfl, _, rfl, iteB (fun h4 => ?_) (fun h4 => ?_)⟩
            · -- slot
              have hz : zw = "slot" := V.str.inj (of_decide_eq_true h4)
              subst hz
              refine ⟨_, rfl, a, _, 2, k, rfl, rfl, hS1, atI_nat (j := 2) rfl, p, k, dk, rfl, gk, fun H3 s3 => ?_⟩
              exact q _ (s1.trans s3)
            have n3 : isS (.str zw) "slot" = false := by rw [isS_dec]; exact h4
            refine ⟨_, rfl, rfl, _, rfl, iteB (fun h5 => ?_) (fun h5 => ?_)⟩
            · have hz : zw = "row" := V.str.inj (of_decide_eq_true h5)
              subst hz
              refine ⟨_, rfl, a, _, 2, k, rfl, rfl, hS1, atI_nat (j := 2) rfl, p, k, dk, rfl, gk, fun H3 s3 => ?_⟩
              exact q _ (s1.trans s3)
            have n4 : isS (.str zw) "row" = false := by rw [isS_dec]; exact h5
            rw [n3, n4, if_neg Bool.false_ne_true, if_neg Bool.false_ne_true] at q
            refine ⟨_, rfl, by decide, fun L hL => ?_⟩
            obtain ⟨H2, g2, s2, e2⟩ := alloc (.lst [.str "column", .str "name", .str "kind", .str "else"]) hL
            rw [g2]
            have s12 := s1.trans s2
            refine ⟨p, L, .str zw, ["column", "name", "kind", "else"], rfl, .inl (SqL.of e2), .str zw hzw, _, rfl, iteB (fun h6 => ?_) (fun h6 => ?_)⟩
            · rw [h6, Bool.true_and] at q
              refine ⟨_, rfl, a, _, 2, k, rfl, rfl, .inl (.inl (s12 _ _ e)), atI_nat (j := 2) rfl, p, k, dk, rfl, gk.same s2, fun H3 s3 => ?_⟩
              exact q _ (s12.trans s3)
            · rw [h6, Bool.false_and] at q
              exact q _ s12
        · rw [hn, Bool.false_and] at q
          exact q _ s1
      · rw [mPlaceR_str hn, Bool.and_false] at q
        have hi : isk dw.kind "str" = false := by
          cases dw <;> first | rfl | exact absurd rfl (hn _)
        rw [hi]
        exact q _ (.refl _)
end
end K03
namespace K03
open PySem PySem.Spec PyProof.Rows L2 Pr
theorem mWord_name (z : Str) : mWord (.str z) = (mName (.str z) || decide (V.str z = V.str "key")) := by
  unfold mName
  rw [isS_dec]
  by_cases h : (V.str z = V.str "key")
  · rw [decide_eq_true h, Bool.not_true, Bool.and_false, Bool.false_or]
    rw [V.str.inj h]
    decide +kernel
  · rw [decide_eq_false h, Bool.not_false, Bool.and_true, Bool.or_false]
theorem mWhole_str {lo hi : Int} {z : Str} : mWhole lo hi (.str z) = false := rfl
theorem abs_le (i : Int) : decide ((if i < 0 then -i else i) ≤ 1000000000) = (decide (-1000000000 ≤ i) && decide (i ≤ 1000000000)) := by
  rw [← Bool.decide_and]
  apply decide_eq_decide.mpr
  split <;> omega
section
variable {P : Program} {w : World} {K : PySem.W.Frag} {mg : Str → Option Value} {base : Heap}
def spLStands : Sp := fun vs H Q _ => ∃ (p : Addr) (v u : V) (d e : D), vs = [v, u] ∧ Is p H v d ∧ Is p H u e ∧ mPlace d = true ∧ ∀ H', Same H H' → Q (.bl (mStand d e)) H'
theorem ok__law_stands {k : Nat} (T : Txt K mg) : FnOk P w K mg base CX0 (k + 3) T.f__law_stands T.d__law_stands ["place", "thing"] spLStands := by
  refine (T.F__law_stands).ok sc__law_stands (fun vs H Q E h => ?_) (fun cdv A outer s H vs Q E hr h => ?_)
  · obtain ⟨p, v, u, d, e, rfl, _⟩ := h
    rfl
  · obtain ⟨p, v, u, d, e, rfl, hd, he, hm, q⟩ := h
    refine ⟨_, (pss_cons (ps_set (i := 2) sc__law_stands.nd rfl (Or.inl rfl) (pe_ix ix_tup (pv 0) pe_int (fun _ _ => rfl))) (pss_cons (ps_if (pt_cmpR (op_inS2 hr.units) (pv 2) (pe_lst (pa_cons pe_str (pa_cons pe_str (pa_cons pe_str pa_nil)))) (by rfl)) (pss_one (ps_ret (pe_and (pe_callB call_isd (by rfl) T.n_isinstance (by decide +kernel) (pa_cons (pv 1) (pa_cons (pe_bltn (by rfl) T.n_bool (by decide +kernel) (v := .ty "bool") rfl) pa_nil))) (pe_one (pv 1))))) pss_nil) (pss_cons (ps_if (pt_cmpR op_eq (pv 2) pe_str (nomark _)) (pss_one (ps_ret (pe_call (ok__law_is_name T) hr (by rfl) T.g__law_is_name T.F__law_is_name.kp T.b__law_is_name .nil pass0 (pa_cons (pv 1) pa_nil)))) pss_nil) (pss_cons (ps_if (pt_cmpR op_eq (pv 2) pe_str (nomark _)) (pss_one (ps_ret (pe_call (ok__law_is_id T) hr (by rfl) T.g__law_is_id T.F__law_is_id.kp T.b__law_is_id .nil pass0 (pa_cons (pv 1) pa_nil)))) pss_nil) (pss_cons (ps_if (pt_cmpR op_eq (pv 2) pe_str (nomark _)) (pss_one (ps_ret (pe_and (pe_callB call_isd (by rfl) T.n_isinstance (by decide +kernel) (pa_cons (pv 1) (pa_cons (pe_bltn (by rfl) T.n_str (by decide +kernel) (v := .ty "str") rfl) pa_nil))) (pe_one (pe_cmpR (op_inS2 hr.units) (pv 1) (pe_lst (pa_cons pe_str (pa_cons pe_str (pa_cons pe_str pa_nil)))) (by rfl)))))) pss_nil) (pss_cons (ps_if (pt_val (pe_callB call_isd (by rfl) T.n_isinstance (by decide +kernel) (pa_cons (pv 1) (pa_cons (pe_bltn (by rfl) T.n_str (by decide +kernel) (v := .ty "str") rfl) pa_nil)))) (pss_one (ps_ret (pe_or (pe_call (ok__law_is_name T) hr (by rfl) T.g__law_is_name T.F__law_is_name.kp T.b__law_is_name .nil pass0 (pa_cons (pv 1) pa_nil)) (pe_one (pe_cmpR (op_eqS hr.units) (pv 1) pe_str (nomark _)))))) pss_nil) (pss_one (ps_ret (pe_and (pe_call (ok__law_whole T) hr (by rfl) T.g__law_whole T.F__law_whole.kp T.b__law_whole .nil pass0 (pa_cons (pv 1) pa_nil)) (pe_one (pe_cmpR op_le (pe_callB call_abs (by rfl) T.n_abs (by decide +kernel) (pa_cons (pv 1) pa_nil)) (pe_op op_pow pe_int pe_int) (nomark _)))))))))))), ?_⟩
    obtain ⟨a, w, t, r, dw, dt, dr, rfl, rfl, ea, gw, gt, gr, hp⟩ := mPlace_inv hd hm
    obtain ⟨zw, rfl⟩ := mPlace_word hm
    obtain ⟨rfl, hzw⟩ := gw.str_inv
    change ∀ H', Same H H' → Q (.bl (mFits (.str zw) e)) H' at q
    unfold mFits at q
    refine ⟨_, rfl, a, _, 0, _, rfl, rfl, .inl (.inl ea), atI_nat (j := 0) rfl, ?_⟩
    refine ⟨_, rfl, by decide, fun L hL => ?_⟩
    obtain ⟨H1, g1, s1, e1⟩ := alloc (.lst [.str "table", .str "column", .str "row"]) hL
    rw [g1]
    have he1 := he.same s1
    refine ⟨p, L, .str zw, ["table", "column", "row"], rfl, .inl (SqL.of e1), .str zw hzw, _, rfl, iteB (fun h0 => ?_) (fun h0 => ?_)⟩
    · rw [if_pos h0] at q
      have q1 := q _ s1
      refine ⟨_, rfl, p, u, e, "bool", rfl, .inl rfl, he1, _, rfl, ?_⟩
      cases he1 <;> first | exact q1 | exact ⟨_, rfl, q1⟩
    rw [if_neg (Bool.eq_false_iff.mp h0)] at q
    refine ⟨_, rfl, rfl, _, rfl, iteB (fun h1 => ?_) (fun h1 => ?_)⟩
    · rw [if_pos (show isS (.str zw) "name" = true by rw [isS_dec]; exact h1)] at q
      exact ⟨_, rfl, p, u, e, rfl, he1, fun H' s' => q _ (s1.trans s')⟩
    rw [if_neg (show ¬ isS (.str zw) "name" = true by rw [isS_dec, h1]; exact Bool.false_ne_true)] at q
    refine ⟨_, rfl, rfl, _, rfl, iteB (fun h2 => ?_) (fun h2 => ?_)⟩
    · rw [if_pos (show isS (.str zw) "slot" = true by rw [isS_dec]; exact h2)] at q
      exact ⟨_, rfl, p, u, e, rfl, he1, fun H' s' => q _ (s1.trans s')⟩
    rw [if_neg (show ¬ isS (.str zw) "slot" = true by rw [isS_dec, h2]; exact Bool.false_ne_true)] at q
    refine ⟨_, rfl, rfl, _, rfl, iteB (fun h3 => ?_) (fun h3 => ?_)⟩
    · rw [if_pos (show isS (.str zw) "kind" = true by rw [isS_dec]; exact h3)] at q
      refine ⟨_, rfl, p, u, e, "str", rfl, .inr (.inr (.inl rfl)), he1, _, rfl, iteB (fun h4 => ?_) (fun h4 => ?_)⟩
      · refine ⟨_, rfl, by decide, fun L2 hL2 => ?_⟩
        obtain ⟨H2, g2, s2, e2⟩ := alloc (.lst [.str "number", .str "word", .str "any"]) hL2
        rw [g2]
        exact ⟨p, L2, e, ["number", "word", "any"], rfl, .inl (SqL.of e2), he1.same s2, q _ (s1.trans s2)⟩
      · have e0 : mKind e = false := by cases e <;> first | rfl | exact absurd (show isk "str" "str" = false from h4) (by decide)
        rw [e0] at q
        exact q _ s1
    rw [if_neg (show ¬ isS (.str zw) "kind" = true by rw [isS_dec, h3]; exact Bool.false_ne_true)] at q
    refine ⟨_, rfl, p, u, e, "str", rfl, .inr (.inr (.inl rfl)), he1, _, rfl, ?_⟩
    unfold mValue at q
    rcases isStr_of (d := e) with ⟨z, rfl⟩ | hns
    · obtain ⟨rfl, hz⟩ := he.str_inv
      rw [mWhole_str, Bool.or_false, mWord_name] at q
      refine ⟨_, rfl, p, _, _, rfl, he1, fun H2 s2 => ⟨_, rfl, iteB (fun h5 => ?_) (fun h5 => ?_)⟩⟩
      · rw [h5, Bool.true_or] at q
        exact q _ (s1.trans s2)
      · rw [h5, Bool.false_or] at q
        refine ⟨_, rfl, p, _, "key", rfl, he1.same s2, ?_⟩
        rw [isS_dec]
        exact q _ (s1.trans s2)
    · have hk : isk e.kind "str" = false := by cases e <;> first | rfl | exact absurd rfl (hns _)
      have hw : mWord e = false := by cases e <;> first | rfl | exact absurd rfl (hns _)
      rw [hk]
      rw [hw, Bool.false_or] at q
      refine ⟨_, rfl, p, u, e, rfl, he1, fun H2 s2 => ⟨_, rfl, iteB (fun h5 => ?_) (fun h5 => ?_)⟩⟩
      · obtain ⟨i, rfl⟩ := mInt_int h5
        have eu := he.int_inv
        subst eu
        have q1 := q _ (s1.trans s2)
        refine ⟨_, rfl, i, rfl, _, _, rfl, rfl, pw, _, _, rfl, rfl, ?_⟩
        have e5 : mWhole (-1000000000) 1000000000 (.int i) = decide ((if i < 0 then -i else i) ≤ (10 : Int) ^ (9 : Int).toNat) := (abs_le i).symm
        rw [e5] at q1
        exact q1
      · rw [mInt_whole h5] at q
        exact q _ (s1.trans s2)
abbrev refusedL : List V := [.str "refused", .bl true]
def spTold : Sp := fun vs H Q _ => ∃ (p : Addr) (way : Int) (v u : V) (d e : D), vs = [.int way, v, u] ∧ Is p H v d ∧ Is p H u e ∧
  (mPlace d = false → ∀ L H', Same H H' → H' L = some (.lst refusedL) → Q (.ref L) H') ∧
  (mPlace d = true → way = 0 → ∀ a x t r, v = .ref a → H a = some (.tup (x :: t :: r)) → ∀ H', Same H H' → Q t H') ∧
  (mPlace d = true → way ≠ 0 → ∀ H', Same H H' → Q (.bl (mStand d e)) H')
theorem excC_of (T : Txt K mg) : ExcC K T.f_NoPlace := ⟨T.eg_NoPlace, T.ek_NoPlace, T.s_NoPlace, T.hd_NoPlace, T.ea_NoPlace, T.en_NoPlace, T.et_NoPlace, T.em_NoPlace⟩
theorem exm_of3 (T : Txt K mg) : PySem.W.exmOne K (.ref T.f_NoPlace) (.ref T.f_RollError) = some true := PySem.W.exm_ref T.s_RollError T.hd_RollError T.t_RollError T.u_RollError_NoPlace
theorem ok__law_told {k : Nat} (T : Txt K mg) : FnOk P w K mg base CX0 (k + 8) T.f__law_told T.d__law_told ["way", "place", "thing"] spTold := by
  refine (T.F__law_told).ok sc__law_told (fun vs H Q E h => ?_) (fun cdv A outer s H vs Q E hr h => ?_)
  · obtain ⟨p, way, v, u, d, e, rfl, _⟩ := h
    rfl
  · obtain ⟨p, way, v, u, d, e, rfl, hd, he, q0, q1, q2⟩ := h
    refine ⟨_, (pss_one (ps_try_as (i := 3) rfl rfl sc__law_told.nd rfl rfl ⟨rfl, by decide, .inl T.g_RollError⟩ takes0 (fun W pn xe tk _ => (pss_cons (ps_if (pt_cmpR op_eq (pv 0) pe_int (nomark _)) (pss_one (ps_ret (pe_callS (ok_table_of T) hr (by rfl) T.g_table_of T.F_table_of.kp T.b_table_of (fun σ => passAt tk σ) (by exact (pa_cons (pv 1) pa_nil))))) pss_nil) (pss_one (ps_ret (pe_callS (ok_may_stand T) hr (by rfl) T.g_may_stand T.F_may_stand.kp T.b_may_stand (fun σ => passAt tk σ) (by exact (pa_cons (pv 1) (pa_cons (pv 2) pa_nil)))))))) (fun a oe cls d pn hz hf => (pss_one (ps_ret (pe_lst (pa_cons pe_str (pa_cons (pe_callB (call_isEx hz hf) (by rfl) T.n_isinstance (by decide +kernel) (pa_cons (pv 3) (pa_cons (pe_glob (v := .ref T.f_NoPlace) (by rfl) T.g_NoPlace rfl) pa_nil))) pa_nil)))))))), ?_⟩
    refine ⟨_, rfl, rfl, _, rfl, iteB (fun h1 => ?_) (fun h1 => ?_)⟩
    · have hw : way = 0 := V.int.inj (of_decide_eq_true h1)
      refine ⟨_, rfl, p, v, d, rfl, hd, fun hm a x t r ev ea H1 s1 => ?_, fun hm H1 s1 => ?_⟩
      · exact q1 hm hw a x t r ev ea _ s1
      · refine ⟨true, exm_of3 T, fun _ a0 na => ?_, fun z => Bool.noConfusion z⟩
        refine ⟨_, rfl, T.f_NoPlace, _, _, true, rfl, rfl, excC_of T, rfl, fun _ z => z, kit_same, (by decide : 2 ≤ sizeLine), fun L hL => ?_⟩
        exact q0 hm L _ (s1.trans (Same.new hL)) upd_same
    · have hw : way ≠ 0 := fun z => by rw [z] at h1; exact absurd h1 (by decide)
      refine ⟨_, rfl, _, rfl, p, v, u, d, e, rfl, hd, he, fun hm H1 s1 => ?_, fun hm H1 s1 => ?_⟩
      · exact q2 hm hw _ s1
      · refine ⟨true, exm_of3 T, fun _ a0 na => ?_, fun z => Bool.noConfusion z⟩
        refine ⟨_, rfl, T.f_NoPlace, _, _, true, rfl, rfl, excC_of T, rfl, fun _ z => z, kit_same, (by decide : 2 ≤ sizeLine), fun L hL => ?_⟩
        exact q0 hm L _ (s1.trans (Same.new hL)) upd_same
def spRight : Sp := fun vs H Q _ => ∃ (p : Addr) (v u : V) (d e : D), vs = [v, u] ∧ Is p H v d ∧ Is p H u e ∧ ∀ H', Same H H' → Q (.bl true) H'
def refusedD : PyData := .list [.str "refused", .bool true]
theorem refused_sh : SeqAt.shaped refusedD = true := by decide +kernel
theorem refused_eq : PyData.eqv refusedD refusedD = true := by decide +kernel
theorem refused_dp {H : Hp} {L : Addr} (e : H L = some (.lst refusedL)) : Dp K H (.ref L) refusedD := .lst (SqL.of e) (.cons (.str _) (.cons (.bl _) .nil))
theorem str_sh {z : Str} (h : okS z) : SeqAt.shaped (.str z) = true := by
  show (PyData.strOk z && _) = true
  rw [h.2]
  rfl
theorem ok__law_right {k : Nat} (T : Txt K mg) : FnOk P w K mg base CX0 (k + 9) T.f__law_right T.d__law_right ["place", "thing"] spRight := by
  refine (T.F__law_right).ok sc__law_right (fun vs H Q E h => ?_) (fun cdv A outer s H vs Q E hr h => ?_)
  · obtain ⟨p, v, u, d, e, rfl, _⟩ := h
    rfl
  · obtain ⟨p, v, u, d, e, rfl, hd, he, q⟩ := h
    refine ⟨_, (pss_cons (ps_set (i := 2) sc__law_right.nd rfl (Or.inl rfl) (pe_call (ok__law_is_place T) hr (by rfl) T.g__law_is_place T.F__law_is_place.kp T.b__law_is_place .nil pass0 (pa_cons (pv 0) pa_nil))) (pss_cons (ps_set (i := 3) sc__law_right.nd rfl (Or.inl rfl) (pe_call (ok_is_place T) hr (by rfl) T.g_is_place T.F_is_place.kp T.b_is_place .nil pass0 (pa_cons (pv 0) pa_nil))) (pss_cons (ps_if (PW.pt (pw_or (pt_not (pt_val (pe_callB call_isd (by rfl) T.n_isinstance (by decide +kernel) (pa_cons (pv 3) (pa_cons (pe_bltn (by rfl) T.n_bool (by decide +kernel) (v := .ty "bool") rfl) pa_nil))))) (pw_or1 (pt_cmpR op_ne (pv 3) (pv 2) (nomark _))))) (pss_one (ps_ret pe_bl)) pss_nil) (pss_cons (ps_if (pt_not (pt_val (pv 2))) (pss_one (ps_ret (pe_and (pe_cmpR (op_eqD hr.units) (pe_call (ok__law_told T) hr (by rfl) T.g__law_told T.F__law_told.kp T.b__law_told .nil pass0 (pa_cons pe_int (pa_cons (pv 0) (pa_cons (pv 1) pa_nil)))) (pe_lst (pa_cons pe_str (pa_cons pe_bl pa_nil))) (nomark _)) (pe_one (pe_cmpR (op_eqD hr.units) (pe_call (ok__law_told T) hr (by rfl) T.g__law_told T.F__law_told.kp T.b__law_told .nil pass0 (pa_cons pe_int (pa_cons (pv 0) (pa_cons (pv 1) pa_nil)))) (pe_lst (pa_cons pe_str (pa_cons pe_bl pa_nil))) (nomark _)))))) pss_nil) (pss_cons (ps_set (i := 4) sc__law_right.nd rfl (Or.inl rfl) (pe_call (ok__law_told T) hr (by rfl) T.g__law_told T.F__law_told.kp T.b__law_told .nil pass0 (pa_cons pe_int (pa_cons (pv 0) (pa_cons (pv 1) pa_nil))))) (pss_one (ps_ret (pe_and (pe_cmpR (op_eqD hr.units) (pe_call (ok__law_told T) hr (by rfl) T.g__law_told T.F__law_told.kp T.b__law_told .nil pass0 (pa_cons pe_int (pa_cons (pv 0) (pa_cons (pv 1) pa_nil)))) (pe_ix ix_tup (pv 0) pe_int (fun _ _ => rfl)) (nomark _)) (pe_and (pe_callB call_isd (by rfl) T.n_isinstance (by decide +kernel) (pa_cons (pv 4) (pa_cons (pe_bltn (by rfl) T.n_bool (by decide +kernel) (v := .ty "bool") rfl) pa_nil))) (pe_one (pe_cmpR op_eq (pv 4) (pe_call (ok__law_stands T) hr (by rfl) T.g__law_stands T.F__law_stands.kp T.b__law_stands .nil pass0 (pa_cons (pv 0) (pa_cons (pv 1) pa_nil))) (nomark _)))))))))))), ?_⟩
    refine ⟨_, rfl, p, v, d, rfl, hd, fun H1 s1 => ?_⟩
    refine ⟨_, rfl, p, v, d, rfl, hd.same s1, fun H2 s2 => ?_⟩
    have s12 := s1.trans s2
    refine ⟨_, rfl, p, _, .bl (mPlace d), "bool", rfl, .inl rfl, .bl _, _, rfl, ?_⟩
    refine ⟨_, rfl, _, rfl, rfl, _, rfl, iteB (fun h1 => ?_) (fun _ => ?_)⟩
    · rw [decide_eq_true rfl] at h1
      cases h1
    refine ⟨_, rfl, _, rfl, ?_⟩
    cases hm : mPlace d with
    | false =>
      refine ⟨_, rfl, _, rfl, p, 0, v, u, d, e, rfl, hd.same s12, he.same s12, fun _ L H3 s3 e3 => ?_, fun h => (by rw [hm] at h; cases h), fun h => (by rw [hm] at h; cases h)⟩
      refine ⟨by decide, fun L2 hL2 => ?_⟩
      obtain ⟨H4, g4, s4, e4⟩ := alloc (.lst refusedL) hL2
      rw [g4]
      have s14 := (s12.trans s3).trans s4
      refine ⟨refusedD, refusedD, refused_dp (s4 _ _ e3), refused_dp e4, refused_sh, refused_sh, _, rfl, ?_⟩
      rw [refused_eq]
      refine ⟨_, rfl, _, rfl, p, 1, v, u, d, e, rfl, hd.same s14, he.same s14, fun _ L3 H5 s5 e5 => ?_, fun h => (by rw [hm] at h; cases h), fun h => (by rw [hm] at h; cases h)⟩
      refine ⟨by decide, fun L4 hL4 => ?_⟩
      obtain ⟨H6, g6, s6, e6⟩ := alloc (.lst refusedL) hL4
      rw [g6]
      refine ⟨refusedD, refusedD, refused_dp (s6 _ _ e5), refused_dp e6, refused_sh, refused_sh, ?_⟩
      rw [refused_eq]
      exact q _ ((s14.trans s5).trans s6)
    | true =>
      obtain ⟨a, w, t, r, dw, dt, dr, rfl, rfl, ea, gw, gt, gr, hp⟩ := mPlace_inv hd hm
      have hdt : mName dt = true := (Bool.and_eq_true_iff.mp (show (mName dt && mPlaceR dw dr) = true from hm)).1
      obtain ⟨zt, rfl⟩ := mWord_str (Bool.and_eq_true_iff.mp hdt).1
      obtain ⟨rfl, hzt⟩ := gt.str_inv
      refine ⟨_, rfl, _, rfl, p, 1, _, u, _, e, rfl, hd.same s12, he.same s12, fun h => (by rw [hm] at h; cases h), fun _ h => absurd h (by decide), fun _ _ H3 s3 => ?_⟩
      have s13 := s12.trans s3
      refine ⟨_, rfl, _, rfl, p, 0, _, u, _, e, rfl, hd.same s13, he.same s13, fun h => (by rw [hm] at h; cases h), fun _ _ a' x' t' r' ea' eh' H4 s4 => ?_, fun _ h => absurd rfl h⟩
      cases ea'
      have e1 := s13 _ _ ea
      rw [e1] at eh'
      have eh2 : V.str zt = t' := by
        injection eh' with h
        injection h with h
        injection h with h1 h2
        injection h2 with h3 h4
      subst eh2
      have s14 := s13.trans s4
      refine ⟨_, rfl, a, _, 1, _, rfl, rfl, .inl (.inl (s14 _ _ ea)), atI_nat (j := 1) rfl, .str zt, .str zt, .str _, .str _, str_sh hzt, str_sh hzt, _, rfl, ?_⟩
      rw [notEqv_str, decide_eq_true rfl]
      refine ⟨_, rfl, p, _, .bl _, "bool", rfl, .inl rfl, .bl _, _, rfl, ?_⟩
      refine ⟨_, rfl, _, rfl, _, rfl, p, _, u, _, e, rfl, hd.same s14, he.same s14, hm, fun H5 s5 => ⟨rfl, ?_⟩⟩
      rw [decide_eq_true rfl]
      exact q _ (s14.trans s5)
end
end K03
namespace K03
open PySem PySem.Spec PyProof.Rows L2 Pr
section
variable {P : Program} {w : World} {K : PySem.W.Frag} {mg : Str → Option Value} {base : Heap}
def spLaw (K : PySem.W.Frag) : Sp := fun vs H Q _ => ∃ (a : Addr) (ns : List Int), vs = [.ref a] ∧ SqL K H a (ns.map V.int) ∧ ns.length ≤ 63 ∧ ∀ H', Q (.bl true) H'
theorem ok_law {k : Nat} (T : Txt K mg) : FnOk P w K mg base CX0 (k + 10) T.f_law T.d_law ["script"] (spLaw K) := by
  refine (T.F_law).ok sc_law (fun vs H Q E h => ?_) (fun cdv A outer s H vs Q E hr h => ?_)
  · obtain ⟨a, ns, rfl, _⟩ := h
    rfl
  · obtain ⟨a, ns, rfl, hS, hlen, q⟩ := h
    refine ⟨_, (pss_cons (ps_for PassesOwn.never rfl (pi_range1 (by rfl) T.n_range (pa_cons (pe_callB (call_max2 rfl) (by rfl) T.n_max (by decide +kernel) (pa_cons pe_int (pa_cons (pe_callB (call_min2 rfl) (by rfl) T.n_min (by decide +kernel) (pa_cons pe_int (pa_cons (pe_callB call_len_seq (by rfl) T.n_len PySem.boot_len (pa_cons (pv 0) pa_nil)) pa_nil))) pa_nil))) pa_nil)) (pg_name (i := 1) sc_law.nd rfl (Or.inl rfl)) (pss_cons (ps_set (i := 2) sc_law.nd rfl (Or.inl rfl) (pe_call (ok__law_pot T) hr (by rfl) T.g__law_pot T.F__law_pot.kp T.b__law_pot .nil pass0 (pa_cons (pv 0) (pa_cons (pv 1) pa_nil)))) (pss_cons (ps_for PassesOwn.never rfl (pi_list (pe_call0 (ok__law_words_all T) hr (by rfl) T.g__law_words_all T.F__law_words_all.kp T.b__law_words_all .nil pass0)) (pg_name (i := 3) sc_law.nd rfl (Or.inl rfl)) (pss_cons (ps_set (i := 4) sc_law.nd rfl (Or.inl rfl) (pe_call (ok__law_a_place T) hr (by rfl) T.g__law_a_place T.F__law_a_place.kp T.b__law_a_place .nil pass0 (pa_cons (pv 2) (pa_cons (pv 3) pa_nil)))) (pss_cons (ps_set (i := 5) sc_law.nd rfl (Or.inl rfl) (pe_ix ix_list (pe_lst (pa_cons pe_str (pa_cons pe_str (pa_cons pe_str pa_nil)))) (pe_call (ok__law_take T) hr (by rfl) T.g__law_take T.F__law_take.kp T.b__law_take .nil pass0 (pa_cons (pv 2) (pa_cons pe_int pa_nil))) (fun _ _ => rfl))) (pss_cons (ps_set (i := 6) sc_law.nd rfl (Or.inl rfl) (pe_lst (pa_cons pe_bl (pa_cons (pe_call (ok__law_word T) hr (by rfl) T.g__law_word T.F__law_word.kp T.b__law_word .nil pass0 (pa_cons (pv 2) pa_nil)) (pa_cons (pe_call (ok__law_an_id T) hr (by rfl) T.g__law_an_id T.F__law_an_id.kp T.b__law_an_id .nil pass0 (pa_cons (pv 2) pa_nil)) (pa_cons (pv 5) (pa_cons (pe_call (ok__law_a_key T) hr (by rfl) T.g__law_a_key T.F__law_a_key.kp T.b__law_a_key .nil pass0 (pa_cons (pv 2) pa_nil)) pa_nil))))))) (pss_cons (ps_for PassesOwn.never rfl (pi_list (pe_lst (pa_cons (pe_ix ix_list (pv 6) (pe_call (ok__law_take T) hr (by rfl) T.g__law_take T.F__law_take.kp T.b__law_take .nil pass0 (pa_cons (pv 2) (pa_cons pe_int pa_nil))) (fun _ _ => rfl)) (pa_cons (pe_ix ix_list (pv 6) (pe_call (ok__law_take T) hr (by rfl) T.g__law_take T.F__law_take.kp T.b__law_take .nil pass0 (pa_cons (pv 2) (pa_cons pe_int pa_nil))) (fun _ _ => rfl)) (pa_cons (pe_call (ok__law_odd T) hr (by rfl) T.g__law_odd T.F__law_odd.kp T.b__law_odd .nil pass0 (pa_cons (pv 2) pa_nil)) (pa_cons (pe_call (ok__law_odd T) hr (by rfl) T.g__law_odd T.F__law_odd.kp T.b__law_odd .nil pass0 (pa_cons (pv 2) pa_nil)) pa_nil)))))) (pg_name (i := 7) sc_law.nd rfl (Or.inl rfl)) (pss_one (ps_if (pt_not (pt_val (pe_call (ok__law_right T) hr (by rfl) T.g__law_right T.F__law_right.kp T.b__law_right .nil pass0 (pa_cons (pv 4) (pa_cons (pv 7) pa_nil))))) (pss_one (ps_ret pe_bl)) pss_nil))) (pss_one (ps_if (pt_not (pt_val (pe_call (ok__law_right T) hr (by rfl) T.g__law_right T.F__law_right.kp T.b__law_right .nil pass0 (pa_cons (pe_call (ok__law_bent T) hr (by rfl) T.g__law_bent T.F__law_bent.kp T.b__law_bent .nil pass0 (pa_cons (pv 2) (pa_cons (pv 4) pa_nil))) (pa_cons (pe_call (ok__law_odd T) hr (by rfl) T.g__law_odd T.F__law_odd.kp T.b__law_odd .nil pass0 (pa_cons (pv 2) pa_nil)) pa_nil))))) (pss_one (ps_ret pe_bl)) pss_nil))))))) (pss_one (ps_if (pt_not (pt_val (pe_call (ok__law_right T) hr (by rfl) T.g__law_right T.F__law_right.kp T.b__law_right .nil pass0 (pa_cons (pe_call (ok__law_odd T) hr (by rfl) T.g__law_odd T.F__law_odd.kp T.b__law_odd .nil pass0 (pa_cons (pv 2) pa_nil)) (pa_cons (pe_call (ok__law_odd T) hr (by rfl) T.g__law_odd T.F__law_odd.kp T.b__law_odd .nil pass0 (pa_cons (pv 2) pa_nil)) pa_nil))))) (pss_one (ps_ret pe_bl)) pss_nil))))) (pss_one (ps_ret pe_bl))), ?_⟩
    have hl : (ns.map V.int).length = ns.length := List.length_map ..
    refine ⟨_, rfl, a, _, rfl, .inl hS, _, _, rfl, _, _, rfl, ?_⟩
    rw [hl]
    have hN : ∃ j : Int, (if (if (ns.length : Int) < 30 then (ns.length : Int) else 30) > 1 then (if (ns.length : Int) < 30 then (ns.length : Int) else 30) else 1) = j ∧ 0 ≤ j ∧ j ≤ 63 := ⟨_, rfl, by split <;> split <;> omega, by split <;> split <;> omega⟩
    obtain ⟨N, eN, N0, N1⟩ := hN
    refine ⟨N, by rw [← eN], by omega, by omega, ?_⟩
    refine for_range (lo := 0) (n := N.toNat) (fun i σ G => ∃ y1 y2 y3 y4 y5 y6 y7, σ = [some (.ref a), y1, y2, y3, y4, y5, y6, y7] ∧ Same H G) ⟨none, none, none, none, none, none, none, rfl, .refl _⟩ ?_ ?_
    · intro i σ G hi hv
      obtain ⟨y1, y2, y3, y4, y5, y6, y7, rfl, sG⟩ := hv
      refine ⟨_, rfl, _, rfl, a, ns, 0 + (i : Int), rfl, sG.seq hS, by omega, by omega, fun p G0 hp s0 P0 => ?_⟩
      have hp0 : H p = none := sG.free hp
      have f0 := sG.trans s0
      refine ⟨rfl, fun W GW hW sW eW => ?_⟩
      have nW : W ≠ p := P0.ne hW
      refine ⟨W, rfl, ⟨_, SqL.of eW⟩, ?_⟩
      refine for_list (K := K) (a := W) (xs := theWords.map V.str) (fun j σ F => ∃ y3 y4 y5 y6 y7, σ = [some (.ref a), some (.int (0 + (i : Int))), some (.ref p), y3, y4, y5, y6, y7] ∧ But p GW F ∧ Pot p (100 * j) F) ⟨_, _, _, _, _, rfl, But.refl _ _, P0.same sW⟩ (fun j σ F hj hv => ?_) ?_ ?_
      · obtain ⟨_, _, _, _, _, _, b, _⟩ := hv
        exact SqL.of (b _ _ nW eW)
      · intro j x σ F hx hv
        obtain ⟨y3, y4, y5, y6, y7, rfl, bF, PF⟩ := hv
        have hj : j < 8 := by
          have := (List.getElem?_eq_some_iff.mp hx).1
          simpa [theWords] using this
        obtain ⟨zw, hzw, rfl⟩ : ∃ z, okS z ∧ x = .str z := by
          obtain ⟨z, hz, rfl⟩ := List.mem_map.mp (List.mem_of_getElem? hx)
          refine ⟨z, ?_, rfl⟩
          have : ∀ z ∈ theWords, z.length ≤ 1000 ∧ PyData.strOk z = true := by decide +kernel
          exact this z hz
        refine ⟨_, rfl, _, rfl, p, _, zw, rfl, hzw, PF, by omega, fun pl F1 R1 P1 B1 => ?_⟩
        refine ⟨by decide, fun L hL => ?_⟩
        have nL := P1.ne hL
        obtain ⟨F2, g2, s2, e2⟩ := alloc (.lst [.str "number", .str "word", .str "any"]) hL
        rw [g2]
        refine ⟨_, rfl, p, _, 3, rfl, P1.same s2, by omega, by decide, by decide, fun r F3 r0 r1 P3 B3 => ?_⟩
        obtain ⟨kd, hkd, hm⟩ := atI_bd (xs := [.str "number", .str "word", .str "any"]) r0 r1
        refine ⟨L, _, r, kd, rfl, rfl, SqL.of (B3 _ _ nL e2), hkd, ?_⟩
        have hkd' : ∀ {G : Hp}, Any p G kd := by
          intro G
          simp only [List.mem_cons, List.not_mem_nil, or_false] at hm
          rcases hm with rfl | rfl | rfl <;> exact .str ⟨by decide, by decide +kernel⟩
        refine ⟨_, rfl, p, _, rfl, P3, by omega, fun v4 F4 ⟨z4, e4, hz4⟩ P4 B4 => ?_⟩
        refine ⟨_, rfl, p, _, rfl, P4, by omega, fun v5 F5 R5 P5 B5 => ?_⟩
        refine ⟨_, rfl, _, rfl, p, _, rfl, P5, by omega, fun v6 F6 ⟨i6, e6⟩ P6 B6 => ?_⟩
        subst e4 e6
        refine ⟨(by decide : 5 ≤ sizeLine), fun L2 hL2 => ?_⟩
        have nL2 := P6.ne hL2
        have A6 : AnyAll p F6 [.bl true, .str z4, v5, kd, .int i6] := .cons (.bl true) (.cons (.str hz4) (.cons (R5.but B6) (.cons hkd' (.cons (.int i6) .nil))))
        have hl5 : ([.bl true, .str z4, v5, kd, .int i6] : List V).length = 5 := rfl
        generalize ([.bl true, .str z4, v5, kd, .int i6] : List V) = fine at A6 hl5 ⊢
        obtain ⟨F7, g7, s7, e7⟩ := alloc (.lst fine) hL2
        rw [g7]
        have P7 := P6.same s7
        refine ⟨_, rfl, _, rfl, p, _, 5, rfl, P7, by omega, by decide, by decide, fun r1' F8 r10 r11 P8 B8 => ?_⟩
        obtain ⟨u1, hu1, hm1⟩ := atI_bd (xs := fine) r10 (by rw [hl5]; exact r11)
        refine ⟨L2, _, _, u1, rfl, rfl, SqL.of (B8 _ _ nL2 e7), hu1, ?_⟩
        refine ⟨_, rfl, _, rfl, p, _, 5, rfl, P8, by omega, by decide, by decide, fun r2' F9 r20 r21 P9 B9 => ?_⟩
        obtain ⟨u2, hu2, hm2⟩ := atI_bd (xs := fine) r20 (by rw [hl5]; exact r21)
        refine ⟨L2, _, _, u2, rfl, rfl, SqL.of ((B8.trans B9) _ _ nL2 e7), hu2, ?_⟩
        refine ⟨_, rfl, p, _, rfl, P9, by omega, fun u3 F10 R10 P10 B10 => ?_⟩
        refine ⟨_, rfl, p, _, rfl, P10, by omega, fun u4 F11 R11 P11 B11 => ?_⟩
        refine ⟨(by decide : 4 ≤ sizeLine), fun L3 hL3 => ?_⟩
        obtain ⟨F12, g12, s12, e12⟩ := alloc (.lst [u1, u2, u3, u4]) hL3
        rw [g12]
        have k612 : But p F6 F12 := (But.of s7).trans (B8.trans (B9.trans (B10.trans (B11.trans (But.of s12)))))
        have A12 : AnyAll p F12 [u1, u2, u3, u4] := .cons ((A6 u1 hm1).but k612) (.cons ((A6 u2 hm2).but k612) (.cons (R10.but (B11.trans (But.of s12))) (.cons (R11.same s12) .nil)))
        have P12 := P11.same s12
        have bF6 : But p F1 F6 := (But.of s2).trans (B3.trans (B4.trans (B5.trans B6)))
        have R12 : isRow p F12 pl := R1.but (bF6.trans k612)
        have b12 : But p GW F12 := (bF.trans B1).trans (bF6.trans k612)
        generalize ([u1, u2, u3, u4] : List V) = things at e12 A12 ⊢
        refine ⟨L3, rfl, ⟨_, SqL.of e12⟩, ?_⟩
        refine for_list (K := K) (a := L3) (xs := things) (fun m σ G' => ∃ y7, σ = [some (.ref a), some (.int (0 + (i : Int))), some (.ref p), some (.str zw), some pl, some kd, some (.ref L2), y7] ∧ Same F12 G') ⟨_, rfl, .refl _⟩ (fun m σ G' hm hv => ?_) ?_ ?_
        · obtain ⟨_, _, sG'⟩ := hv
          exact SqL.of (sG' _ _ e12)
        · intro m x σ G' hx hv
          obtain ⟨y7, rfl, sG'⟩ := hv
          obtain ⟨dp, hdp⟩ := R12.any
          obtain ⟨dx, hdx⟩ := A12 x (List.mem_of_getElem? hx)
          refine ⟨_, rfl, _, rfl, p, pl, x, dp, dx, rfl, hdp.same sG', hdx.same sG', fun G'' s'' => ?_⟩
          exact ⟨_, rfl, _, rfl, sG'.trans s''⟩
        · intro σ G' hv
          obtain ⟨y7, rfl, sG'⟩ := hv
          have P13 := P12.same sG'
          refine ⟨_, rfl, _, rfl, p, _, pl, rfl, R12.but (But.of sG'), P13, by omega, fun v1 F13 R13 P14 B13 => ?_⟩
          refine ⟨_, rfl, p, _, rfl, P14, by omega, fun v2 F14 R14 P15 B14 => ?_⟩
          obtain ⟨d1, hd1⟩ := R13.but B14
          obtain ⟨d2, hd2⟩ := R14
          refine ⟨p, v1, v2, d1, d2, rfl, hd1, hd2, fun F15 s15 => ?_⟩
          refine ⟨_, rfl, _, _, _, _, _, rfl, ?_, (P15.same s15).mono (by omega)⟩
          exact (b12.trans (But.of sG')).trans ((B13.trans B14).trans (But.of s15))
      · intro σ F hv
        obtain ⟨y3, y4, y5, y6, y7, rfl, bF, PF⟩ := hv
        have PF' : Pot p 800 F := PF.mono (by decide)
        refine ⟨_, rfl, p, _, rfl, PF', by omega, fun v1 F1 R1 P1 B1 => ?_⟩
        refine ⟨_, rfl, p, _, rfl, P1, by omega, fun v2 F2 R2 P2 B2 => ?_⟩
        obtain ⟨d1, hd1⟩ := R1.but B2
        obtain ⟨d2, hd2⟩ := R2
        refine ⟨p, v1, v2, d1, d2, rfl, hd1, hd2, fun F3 s3 => ?_⟩
        refine ⟨_, rfl, _, _, _, _, _, _, _, rfl, ?_⟩
        exact (((bF.trans B1).trans B2).trans (But.of s3)).same hp0 (f0.trans sW)
    · intro σ G hv
      exact q G
end
theorem all_mk {l : PySem.W.OpenLaw} {w : World} {K : PySem.W.Frag} {h : Heap} {mg : Str → Option Value} {fa : Addr} (X : K.In h) (G : h.Ns mainGlobals mg) (hfa : mg "law" = some (.ref fa))
    {f0 : Addr} {od0 an0 : Option Addr} {sl0 : Array (Option Value)} {oc0 kV0 dc0 pm0 cd0 ct0 : Value}
    (a0 : PySem.W.nsIn K mainGlobals "is_whole" = some (some (.ref f0))) (l0 : K.lookup f0 = some ⟨oc0, od0, .func (PySem.W.fnOf "is_whole" "is_whole" (defArgs s_is_whole) (defBody s_is_whole) (defScope s_is_whole) .none kV0 dc0 pm0 an0 cd0 ct0), sl0⟩) (c0 : PySem.W.codeIn K cd0 "is_whole" = true) (k0 : PySem.W.keepIn K (.ref f0) = true)
    {f1 : Addr} {od1 an1 : Option Addr} {sl1 : Array (Option Value)} {oc1 kV1 dc1 pm1 cd1 ct1 : Value}
    (a1 : PySem.W.nsIn K mainGlobals "is_word" = some (some (.ref f1))) (l1 : K.lookup f1 = some ⟨oc1, od1, .func (PySem.W.fnOf "is_word" "is_word" (defArgs s_is_word) (defBody s_is_word) (defScope s_is_word) .none kV1 dc1 pm1 an1 cd1 ct1), sl1⟩) (c1 : PySem.W.codeIn K cd1 "is_word" = true) (k1 : PySem.W.keepIn K (.ref f1) = true)
    {f2 : Addr} {od2 an2 : Option Addr} {sl2 : Array (Option Value)} {oc2 kV2 dc2 pm2 cd2 ct2 : Value}
    (a2 : PySem.W.nsIn K mainGlobals "is_name" = some (some (.ref f2))) (l2 : K.lookup f2 = some ⟨oc2, od2, .func (PySem.W.fnOf "is_name" "is_name" (defArgs s_is_name) (defBody s_is_name) (defScope s_is_name) .none kV2 dc2 pm2 an2 cd2 ct2), sl2⟩) (c2 : PySem.W.codeIn K cd2 "is_name" = true) (k2 : PySem.W.keepIn K (.ref f2) = true)
    {f3 : Addr} {od3 an3 : Option Addr} {sl3 : Array (Option Value)} {oc3 kV3 dc3 pm3 cd3 ct3 : Value}
    (a3 : PySem.W.nsIn K mainGlobals "is_key" = some (some (.ref f3))) (l3 : K.lookup f3 = some ⟨oc3, od3, .func (PySem.W.fnOf "is_key" "is_key" (defArgs s_is_key) (defBody s_is_key) (defScope s_is_key) .none kV3 dc3 pm3 an3 cd3 ct3), sl3⟩) (c3 : PySem.W.codeIn K cd3 "is_key" = true) (k3 : PySem.W.keepIn K (.ref f3) = true)
    {f4 : Addr} {od4 an4 : Option Addr} {sl4 : Array (Option Value)} {oc4 kV4 dc4 pm4 cd4 ct4 : Value}
    (a4 : PySem.W.nsIn K mainGlobals "is_value" = some (some (.ref f4))) (l4 : K.lookup f4 = some ⟨oc4, od4, .func (PySem.W.fnOf "is_value" "is_value" (defArgs s_is_value) (defBody s_is_value) (defScope s_is_value) .none kV4 dc4 pm4 an4 cd4 ct4), sl4⟩) (c4 : PySem.W.codeIn K cd4 "is_value" = true) (k4 : PySem.W.keepIn K (.ref f4) = true)
    {f5 : Addr} {od5 an5 : Option Addr} {sl5 : Array (Option Value)} {oc5 kV5 dc5 pm5 cd5 ct5 : Value}
    (a5 : PySem.W.nsIn K mainGlobals "is_hand" = some (some (.ref f5))) (l5 : K.lookup f5 = some ⟨oc5, od5, .func (PySem.W.fnOf "is_hand" "is_hand" (defArgs s_is_hand) (defBody s_is_hand) (defScope s_is_hand) .none kV5 dc5 pm5 an5 cd5 ct5), sl5⟩) (c5 : PySem.W.codeIn K cd5 "is_hand" = true) (k5 : PySem.W.keepIn K (.ref f5) = true)
    {f6 : Addr} {od6 an6 : Option Addr} {sl6 : Array (Option Value)} {oc6 kV6 dc6 pm6 cd6 ct6 : Value}
    (a6 : PySem.W.nsIn K mainGlobals "is_kind" = some (some (.ref f6))) (l6 : K.lookup f6 = some ⟨oc6, od6, .func (PySem.W.fnOf "is_kind" "is_kind" (defArgs s_is_kind) (defBody s_is_kind) (defScope s_is_kind) .none kV6 dc6 pm6 an6 cd6 ct6), sl6⟩) (c6 : PySem.W.codeIn K cd6 "is_kind" = true) (k6 : PySem.W.keepIn K (.ref f6) = true)
    {f7 : Addr} {od7 an7 : Option Addr} {sl7 : Array (Option Value)} {oc7 kV7 dc7 pm7 cd7 ct7 : Value}
    (a7 : PySem.W.nsIn K mainGlobals "is_id" = some (some (.ref f7))) (l7 : K.lookup f7 = some ⟨oc7, od7, .func (PySem.W.fnOf "is_id" "is_id" (defArgs s_is_id) (defBody s_is_id) (defScope s_is_id) .none kV7 dc7 pm7 an7 cd7 ct7), sl7⟩) (c7 : PySem.W.codeIn K cd7 "is_id" = true) (k7 : PySem.W.keepIn K (.ref f7) = true)
    {f8 : Addr} {od8 an8 : Option Addr} {sl8 : Array (Option Value)} {oc8 kV8 dc8 pm8 cd8 ct8 : Value}
    (a8 : PySem.W.nsIn K mainGlobals "is_place" = some (some (.ref f8))) (l8 : K.lookup f8 = some ⟨oc8, od8, .func (PySem.W.fnOf "is_place" "is_place" (defArgs s_is_place) (defBody s_is_place) (defScope s_is_place) .none kV8 dc8 pm8 an8 cd8 ct8), sl8⟩) (c8 : PySem.W.codeIn K cd8 "is_place" = true) (k8 : PySem.W.keepIn K (.ref f8) = true)
    {f9 : Addr} {od9 an9 : Option Addr} {sl9 : Array (Option Value)} {oc9 kV9 dc9 pm9 cd9 ct9 : Value}
    (a9 : PySem.W.nsIn K mainGlobals "_may_follow" = some (some (.ref f9))) (l9 : K.lookup f9 = some ⟨oc9, od9, .func (PySem.W.fnOf "_may_follow" "_may_follow" (defArgs s__may_follow) (defBody s__may_follow) (defScope s__may_follow) .none kV9 dc9 pm9 an9 cd9 ct9), sl9⟩) (c9 : PySem.W.codeIn K cd9 "_may_follow" = true) (k9 : PySem.W.keepIn K (.ref f9) = true)
    {f10 : Addr} {od10 an10 : Option Addr} {sl10 : Array (Option Value)} {oc10 kV10 dc10 pm10 cd10 ct10 : Value}
    (a10 : PySem.W.nsIn K mainGlobals "need_place" = some (some (.ref f10))) (l10 : K.lookup f10 = some ⟨oc10, od10, .func (PySem.W.fnOf "need_place" "need_place" (defArgs s_need_place) (defBody s_need_place) (defScope s_need_place) .none kV10 dc10 pm10 an10 cd10 ct10), sl10⟩) (c10 : PySem.W.codeIn K cd10 "need_place" = true) (k10 : PySem.W.keepIn K (.ref f10) = true)
    {f11 : Addr} {od11 an11 : Option Addr} {sl11 : Array (Option Value)} {oc11 kV11 dc11 pm11 cd11 ct11 : Value}
    (a11 : PySem.W.nsIn K mainGlobals "table_of" = some (some (.ref f11))) (l11 : K.lookup f11 = some ⟨oc11, od11, .func (PySem.W.fnOf "table_of" "table_of" (defArgs s_table_of) (defBody s_table_of) (defScope s_table_of) .none kV11 dc11 pm11 an11 cd11 ct11), sl11⟩) (c11 : PySem.W.codeIn K cd11 "table_of" = true) (k11 : PySem.W.keepIn K (.ref f11) = true)
    {f12 : Addr} {od12 an12 : Option Addr} {sl12 : Array (Option Value)} {oc12 kV12 dc12 pm12 cd12 ct12 : Value}
    (a12 : PySem.W.nsIn K mainGlobals "may_stand" = some (some (.ref f12))) (l12 : K.lookup f12 = some ⟨oc12, od12, .func (PySem.W.fnOf "may_stand" "may_stand" (defArgs s_may_stand) (defBody s_may_stand) (defScope s_may_stand) .none kV12 dc12 pm12 an12 cd12 ct12), sl12⟩) (c12 : PySem.W.codeIn K cd12 "may_stand" = true) (k12 : PySem.W.keepIn K (.ref f12) = true)
    {f13 : Addr} {od13 an13 : Option Addr} {sl13 : Array (Option Value)} {oc13 kV13 dc13 pm13 cd13 ct13 : Value}
    (a13 : PySem.W.nsIn K mainGlobals "_fits" = some (some (.ref f13))) (l13 : K.lookup f13 = some ⟨oc13, od13, .func (PySem.W.fnOf "_fits" "_fits" (defArgs s__fits) (defBody s__fits) (defScope s__fits) .none kV13 dc13 pm13 an13 cd13 ct13), sl13⟩) (c13 : PySem.W.codeIn K cd13 "_fits" = true) (k13 : PySem.W.keepIn K (.ref f13) = true)
    {f14 : Addr} {od14 an14 : Option Addr} {sl14 : Array (Option Value)} {oc14 kV14 dc14 pm14 cd14 ct14 : Value}
    (a14 : PySem.W.nsIn K mainGlobals "_law_pot" = some (some (.ref f14))) (l14 : K.lookup f14 = some ⟨oc14, od14, .func (PySem.W.fnOf "_law_pot" "_law_pot" (defArgs s__law_pot) (defBody s__law_pot) (defScope s__law_pot) .none kV14 dc14 pm14 an14 cd14 ct14), sl14⟩) (c14 : PySem.W.codeIn K cd14 "_law_pot" = true) (k14 : PySem.W.keepIn K (.ref f14) = true)
    {f15 : Addr} {od15 an15 : Option Addr} {sl15 : Array (Option Value)} {oc15 kV15 dc15 pm15 cd15 ct15 : Value}
    (a15 : PySem.W.nsIn K mainGlobals "_law_take" = some (some (.ref f15))) (l15 : K.lookup f15 = some ⟨oc15, od15, .func (PySem.W.fnOf "_law_take" "_law_take" (defArgs s__law_take) (defBody s__law_take) (defScope s__law_take) .none kV15 dc15 pm15 an15 cd15 ct15), sl15⟩) (c15 : PySem.W.codeIn K cd15 "_law_take" = true) (k15 : PySem.W.keepIn K (.ref f15) = true)
    {f16 : Addr} {od16 an16 : Option Addr} {sl16 : Array (Option Value)} {oc16 kV16 dc16 pm16 cd16 ct16 : Value}
    (a16 : PySem.W.nsIn K mainGlobals "_law_whole" = some (some (.ref f16))) (l16 : K.lookup f16 = some ⟨oc16, od16, .func (PySem.W.fnOf "_law_whole" "_law_whole" (defArgs s__law_whole) (defBody s__law_whole) (defScope s__law_whole) .none kV16 dc16 pm16 an16 cd16 ct16), sl16⟩) (c16 : PySem.W.codeIn K cd16 "_law_whole" = true) (k16 : PySem.W.keepIn K (.ref f16) = true)
    {f17 : Addr} {od17 an17 : Option Addr} {sl17 : Array (Option Value)} {oc17 kV17 dc17 pm17 cd17 ct17 : Value}
    (a17 : PySem.W.nsIn K mainGlobals "_law_word" = some (some (.ref f17))) (l17 : K.lookup f17 = some ⟨oc17, od17, .func (PySem.W.fnOf "_law_word" "_law_word" (defArgs s__law_word) (defBody s__law_word) (defScope s__law_word) .none kV17 dc17 pm17 an17 cd17 ct17), sl17⟩) (c17 : PySem.W.codeIn K cd17 "_law_word" = true) (k17 : PySem.W.keepIn K (.ref f17) = true)
    {f18 : Addr} {od18 an18 : Option Addr} {sl18 : Array (Option Value)} {oc18 kV18 dc18 pm18 cd18 ct18 : Value}
    (a18 : PySem.W.nsIn K mainGlobals "_law_words_all" = some (some (.ref f18))) (l18 : K.lookup f18 = some ⟨oc18, od18, .func (PySem.W.fnOf "_law_words_all" "_law_words_all" (defArgs s__law_words_all) (defBody s__law_words_all) (defScope s__law_words_all) .none kV18 dc18 pm18 an18 cd18 ct18), sl18⟩) (c18 : PySem.W.codeIn K cd18 "_law_words_all" = true) (k18 : PySem.W.keepIn K (.ref f18) = true)
    {f19 : Addr} {od19 an19 : Option Addr} {sl19 : Array (Option Value)} {oc19 kV19 dc19 pm19 cd19 ct19 : Value}
    (a19 : PySem.W.nsIn K mainGlobals "_law_an_id" = some (some (.ref f19))) (l19 : K.lookup f19 = some ⟨oc19, od19, .func (PySem.W.fnOf "_law_an_id" "_law_an_id" (defArgs s__law_an_id) (defBody s__law_an_id) (defScope s__law_an_id) .none kV19 dc19 pm19 an19 cd19 ct19), sl19⟩) (c19 : PySem.W.codeIn K cd19 "_law_an_id" = true) (k19 : PySem.W.keepIn K (.ref f19) = true)
    {f20 : Addr} {od20 an20 : Option Addr} {sl20 : Array (Option Value)} {oc20 kV20 dc20 pm20 cd20 ct20 : Value}
    (a20 : PySem.W.nsIn K mainGlobals "_law_a_key" = some (some (.ref f20))) (l20 : K.lookup f20 = some ⟨oc20, od20, .func (PySem.W.fnOf "_law_a_key" "_law_a_key" (defArgs s__law_a_key) (defBody s__law_a_key) (defScope s__law_a_key) .none kV20 dc20 pm20 an20 cd20 ct20), sl20⟩) (c20 : PySem.W.codeIn K cd20 "_law_a_key" = true) (k20 : PySem.W.keepIn K (.ref f20) = true)
    {f21 : Addr} {od21 an21 : Option Addr} {sl21 : Array (Option Value)} {oc21 kV21 dc21 pm21 cd21 ct21 : Value}
    (a21 : PySem.W.nsIn K mainGlobals "_law_a_place" = some (some (.ref f21))) (l21 : K.lookup f21 = some ⟨oc21, od21, .func (PySem.W.fnOf "_law_a_place" "_law_a_place" (defArgs s__law_a_place) (defBody s__law_a_place) (defScope s__law_a_place) .none kV21 dc21 pm21 an21 cd21 ct21), sl21⟩) (c21 : PySem.W.codeIn K cd21 "_law_a_place" = true) (k21 : PySem.W.keepIn K (.ref f21) = true)
    {f22 : Addr} {od22 an22 : Option Addr} {sl22 : Array (Option Value)} {oc22 kV22 dc22 pm22 cd22 ct22 : Value}
    (a22 : PySem.W.nsIn K mainGlobals "_law_odd" = some (some (.ref f22))) (l22 : K.lookup f22 = some ⟨oc22, od22, .func (PySem.W.fnOf "_law_odd" "_law_odd" (defArgs s__law_odd) (defBody s__law_odd) (defScope s__law_odd) .none kV22 dc22 pm22 an22 cd22 ct22), sl22⟩) (c22 : PySem.W.codeIn K cd22 "_law_odd" = true) (k22 : PySem.W.keepIn K (.ref f22) = true)
    {f23 : Addr} {od23 an23 : Option Addr} {sl23 : Array (Option Value)} {oc23 kV23 dc23 pm23 cd23 ct23 : Value}
    (a23 : PySem.W.nsIn K mainGlobals "_law_bent" = some (some (.ref f23))) (l23 : K.lookup f23 = some ⟨oc23, od23, .func (PySem.W.fnOf "_law_bent" "_law_bent" (defArgs s__law_bent) (defBody s__law_bent) (defScope s__law_bent) .none kV23 dc23 pm23 an23 cd23 ct23), sl23⟩) (c23 : PySem.W.codeIn K cd23 "_law_bent" = true) (k23 : PySem.W.keepIn K (.ref f23) = true)
    {f24 : Addr} {od24 an24 : Option Addr} {sl24 : Array (Option Value)} {oc24 kV24 dc24 pm24 cd24 ct24 : Value}
    (a24 : PySem.W.nsIn K mainGlobals "_law_is_name" = some (some (.ref f24))) (l24 : K.lookup f24 = some ⟨oc24, od24, .func (PySem.W.fnOf "_law_is_name" "_law_is_name" (defArgs s__law_is_name) (defBody s__law_is_name) (defScope s__law_is_name) .none kV24 dc24 pm24 an24 cd24 ct24), sl24⟩) (c24 : PySem.W.codeIn K cd24 "_law_is_name" = true) (k24 : PySem.W.keepIn K (.ref f24) = true)
    {f25 : Addr} {od25 an25 : Option Addr} {sl25 : Array (Option Value)} {oc25 kV25 dc25 pm25 cd25 ct25 : Value}
    (a25 : PySem.W.nsIn K mainGlobals "_law_is_id" = some (some (.ref f25))) (l25 : K.lookup f25 = some ⟨oc25, od25, .func (PySem.W.fnOf "_law_is_id" "_law_is_id" (defArgs s__law_is_id) (defBody s__law_is_id) (defScope s__law_is_id) .none kV25 dc25 pm25 an25 cd25 ct25), sl25⟩) (c25 : PySem.W.codeIn K cd25 "_law_is_id" = true) (k25 : PySem.W.keepIn K (.ref f25) = true)
    {f26 : Addr} {od26 an26 : Option Addr} {sl26 : Array (Option Value)} {oc26 kV26 dc26 pm26 cd26 ct26 : Value}
    (a26 : PySem.W.nsIn K mainGlobals "_law_is_key" = some (some (.ref f26))) (l26 : K.lookup f26 = some ⟨oc26, od26, .func (PySem.W.fnOf "_law_is_key" "_law_is_key" (defArgs s__law_is_key) (defBody s__law_is_key) (defScope s__law_is_key) .none kV26 dc26 pm26 an26 cd26 ct26), sl26⟩) (c26 : PySem.W.codeIn K cd26 "_law_is_key" = true) (k26 : PySem.W.keepIn K (.ref f26) = true)
    {f27 : Addr} {od27 an27 : Option Addr} {sl27 : Array (Option Value)} {oc27 kV27 dc27 pm27 cd27 ct27 : Value}
    (a27 : PySem.W.nsIn K mainGlobals "_law_is_place" = some (some (.ref f27))) (l27 : K.lookup f27 = some ⟨oc27, od27, .func (PySem.W.fnOf "_law_is_place" "_law_is_place" (defArgs s__law_is_place) (defBody s__law_is_place) (defScope s__law_is_place) .none kV27 dc27 pm27 an27 cd27 ct27), sl27⟩) (c27 : PySem.W.codeIn K cd27 "_law_is_place" = true) (k27 : PySem.W.keepIn K (.ref f27) = true)
    {f28 : Addr} {od28 an28 : Option Addr} {sl28 : Array (Option Value)} {oc28 kV28 dc28 pm28 cd28 ct28 : Value}
    (a28 : PySem.W.nsIn K mainGlobals "_law_stands" = some (some (.ref f28))) (l28 : K.lookup f28 = some ⟨oc28, od28, .func (PySem.W.fnOf "_law_stands" "_law_stands" (defArgs s__law_stands) (defBody s__law_stands) (defScope s__law_stands) .none kV28 dc28 pm28 an28 cd28 ct28), sl28⟩) (c28 : PySem.W.codeIn K cd28 "_law_stands" = true) (k28 : PySem.W.keepIn K (.ref f28) = true)
    {f29 : Addr} {od29 an29 : Option Addr} {sl29 : Array (Option Value)} {oc29 kV29 dc29 pm29 cd29 ct29 : Value}
    (a29 : PySem.W.nsIn K mainGlobals "_law_told" = some (some (.ref f29))) (l29 : K.lookup f29 = some ⟨oc29, od29, .func (PySem.W.fnOf "_law_told" "_law_told" (defArgs s__law_told) (defBody s__law_told) (defScope s__law_told) .none kV29 dc29 pm29 an29 cd29 ct29), sl29⟩) (c29 : PySem.W.codeIn K cd29 "_law_told" = true) (k29 : PySem.W.keepIn K (.ref f29) = true)
    {f30 : Addr} {od30 an30 : Option Addr} {sl30 : Array (Option Value)} {oc30 kV30 dc30 pm30 cd30 ct30 : Value}
    (a30 : PySem.W.nsIn K mainGlobals "_law_right" = some (some (.ref f30))) (l30 : K.lookup f30 = some ⟨oc30, od30, .func (PySem.W.fnOf "_law_right" "_law_right" (defArgs s__law_right) (defBody s__law_right) (defScope s__law_right) .none kV30 dc30 pm30 an30 cd30 ct30), sl30⟩) (c30 : PySem.W.codeIn K cd30 "_law_right" = true) (k30 : PySem.W.keepIn K (.ref f30) = true)
    {f31 : Addr} {od31 an31 : Option Addr} {sl31 : Array (Option Value)} {oc31 kV31 dc31 pm31 cd31 ct31 : Value}
    (a31 : PySem.W.nsIn K mainGlobals "law" = some (some (.ref f31))) (l31 : K.lookup f31 = some ⟨oc31, od31, .func (PySem.W.fnOf "law" "law" (defArgs s_law) (defBody s_law) (defScope s_law) .none kV31 dc31 pm31 an31 cd31 ct31), sl31⟩) (c31 : PySem.W.codeIn K cd31 "law" = true) (k31 : PySem.W.keepIn K (.ref f31) = true)
    {f_RollError : Addr}
    (g_RollError : PySem.W.nsIn K mainGlobals "RollError" = some (some (.ref f_RollError)))
    (s_RollError : PySem.W.subIn K (.ref f_RollError) (.type "BaseException") = some true)
    (t_RollError : PySem.W.typeIn K (.ref f_RollError) = some (.type "type"))
    (hd_RollError : PySem.W.hasDictIn K f_RollError = true)
    {f_NoPlace : Addr}
    (g_NoPlace : PySem.W.nsIn K mainGlobals "NoPlace" = some (some (.ref f_NoPlace)))
    (s_NoPlace : PySem.W.subIn K (.ref f_NoPlace) (.type "BaseException") = some true)
    (t_NoPlace : PySem.W.typeIn K (.ref f_NoPlace) = some (.type "type"))
    (hd_NoPlace : PySem.W.hasDictIn K f_NoPlace = true)
    (x_NoPlace : PySem.W.excIn K f_NoPlace [.type "ValueError", .type "Exception", .type "BaseException", .type "object"] "ValueError.__new__" = true)
    (k_NoPlace : PySem.W.keepIn K (.ref f_NoPlace) = true)
    (eg_NoPlace : PySem.W.findIn K (.ref f_NoPlace) "__getattribute__" = some (some (.builtin "BaseException.__getattribute__")))
    (ek_NoPlace : PySem.W.findIn K (.ref f_NoPlace) "__getattr__" = some none)
    (ea_NoPlace : PySem.W.findIn K (.ref f_NoPlace) "__class__" = some (some (.builtin "object.__class__")))
    (em_NoPlace : PySem.W.mroIn K f_NoPlace (.type "object") = some true)
    (en_NoPlace : PySem.W.specialIn K (.builtin "object.__class__") "__get__" = some (some (.builtin "getset_descriptor.__get__")))
    (et_NoPlace : PySem.W.takesIn K (.builtin "object.__class__") = some true)
    (u_RollError_NoPlace : PySem.W.subIn K (.ref f_NoPlace) (.ref f_RollError) = some true)
    {u0 : Tok} (v0 : PySem.W.nsIn K mainGlobals "MOST_LETTERS" = some (some (.int 8 u0)))
    {u1 : Tok} (v1 : PySem.W.nsIn K mainGlobals "MOST_KEY" = some (some (.int 1000000000 u1)))
    {u2 : Tok} (v2 : PySem.W.nsIn K mainGlobals "MOST_VALUE" = some (some (.int 1000000000 u2)))
    {u3 : Tok} (v3 : PySem.W.nsIn K mainGlobals "MOST_HAND" = some (some (.int 7 u3)))
    {fc4 : Addr} {dc_4 : Option Addr} {nc4 : Nat} {sc4 : Array (Option Value)} {tc4_0 tc4_1 tc4_2 : Tok} (v4 : PySem.W.nsIn K mainGlobals "KINDS" = some (some (.ref fc4))) (lc4 : K.lookup fc4 = some ⟨.type "tuple", dc_4, .seq #[.str "number" tc4_0, .str "word" tc4_1, .str "any" tc4_2] nc4, sc4⟩)
    {u5 : Tok} (v5 : PySem.W.nsIn K mainGlobals "MOST_NUMBER" = some (some (.int 1000000 u5)))
    {fc6 : Addr} {dc_6 : Option Addr} {nc6 : Nat} {sc6 : Array (Option Value)} {tc6_0 tc6_1 tc6_2 tc6_3 : Tok} (v6 : PySem.W.nsIn K mainGlobals "ID_WORDS" = some (some (.ref fc6))) (lc6 : K.lookup fc6 = some ⟨.type "tuple", dc_6, .seq #[.str "column" tc6_0, .str "name" tc6_1, .str "kind" tc6_2, .str "else" tc6_3] nc6, sc6⟩)
    {fc7 : Addr} {dc_7 : Option Addr} {nc7 : Nat} {sc7 : Array (Option Value)} {tc7_0 tc7_1 tc7_2 : Tok} (v7 : PySem.W.nsIn K mainGlobals "BARE_WORDS" = some (some (.ref fc7))) (lc7 : K.lookup fc7 = some ⟨.type "tuple", dc_7, .seq #[.str "table" tc7_0, .str "column" tc7_1, .str "row" tc7_2] nc7, sc7⟩)
    (z0 : PySem.W.nsIn K mainGlobals "isinstance" = some none)
    (z1 : PySem.W.nsIn K mainGlobals "bool" = some none)
    (z2 : PySem.W.nsIn K mainGlobals "int" = some none)
    (z3 : PySem.W.nsIn K mainGlobals "str" = some none)
    (z4 : PySem.W.nsIn K mainGlobals "len" = some none)
    (z5 : PySem.W.nsIn K mainGlobals "tuple" = some none)
    (z6 : PySem.W.nsIn K mainGlobals "abs" = some none)
    (z7 : PySem.W.nsIn K mainGlobals "range" = some none)
    (z8 : PySem.W.nsIn K mainGlobals "list" = some none)
    (z9 : PySem.W.nsIn K mainGlobals "max" = some none)
    (z10 : PySem.W.nsIn K mainGlobals "min" = some none)
    : ∃ fd : FuncData, (∀ (s : Shared) (v : Value), BindsTo s fd ⟨[v], []⟩ [("script", v)]) ∧ ∀ base : Heap, K.In base → base.Ns mainGlobals mg → FnOk l.prog w K mg base CX0 10 fa fd ["script"] (spLaw K) := by
  have e := hfa.symm.trans (PySem.W.mg_of X G a31)
  cases e
  have F0 := fun_mk (st := s_is_whole) l0 c0 k0
  have b0 := F0.binds (ps := ["thing", "low", "high"]) fun _ _ _ _ _ _ us hl => match us, hl with | [_, _, _], _ => rfl
  have F1 := fun_mk (st := s_is_word) l1 c1 k1
  have b1 := F1.binds (ps := ["thing"]) fun _ _ _ _ _ _ us hl => match us, hl with | [_], _ => rfl
  have F2 := fun_mk (st := s_is_name) l2 c2 k2
  have b2 := F2.binds (ps := ["thing"]) fun _ _ _ _ _ _ us hl => match us, hl with | [_], _ => rfl
  have F3 := fun_mk (st := s_is_key) l3 c3 k3
  have b3 := F3.binds (ps := ["thing"]) fun _ _ _ _ _ _ us hl => match us, hl with | [_], _ => rfl
  have F4 := fun_mk (st := s_is_value) l4 c4 k4
  have b4 := F4.binds (ps := ["thing"]) fun _ _ _ _ _ _ us hl => match us, hl with | [_], _ => rfl
  have F5 := fun_mk (st := s_is_hand) l5 c5 k5
  have b5 := F5.binds (ps := ["thing"]) fun _ _ _ _ _ _ us hl => match us, hl with | [_], _ => rfl
  have F6 := fun_mk (st := s_is_kind) l6 c6 k6
  have b6 := F6.binds (ps := ["thing"]) fun _ _ _ _ _ _ us hl => match us, hl with | [_], _ => rfl
  have F7 := fun_mk (st := s_is_id) l7 c7 k7
  have b7 := F7.binds (ps := ["thing"]) fun _ _ _ _ _ _ us hl => match us, hl with | [_], _ => rfl
  have F8 := fun_mk (st := s_is_place) l8 c8 k8
  have b8 := F8.binds (ps := ["thing"]) fun _ _ _ _ _ _ us hl => match us, hl with | [_], _ => rfl
  have F9 := fun_mk (st := s__may_follow) l9 c9 k9
  have b9 := F9.binds (ps := ["word", "part"]) fun _ _ _ _ _ _ us hl => match us, hl with | [_, _], _ => rfl
  have F10 := fun_mk (st := s_need_place) l10 c10 k10
  have b10 := F10.binds (ps := ["thing"]) fun _ _ _ _ _ _ us hl => match us, hl with | [_], _ => rfl
  have F11 := fun_mk (st := s_table_of) l11 c11 k11
  have b11 := F11.binds (ps := ["place"]) fun _ _ _ _ _ _ us hl => match us, hl with | [_], _ => rfl
  have F12 := fun_mk (st := s_may_stand) l12 c12 k12
  have b12 := F12.binds (ps := ["place", "thing"]) fun _ _ _ _ _ _ us hl => match us, hl with | [_, _], _ => rfl
  have F13 := fun_mk (st := s__fits) l13 c13 k13
  have b13 := F13.binds (ps := ["word", "thing"]) fun _ _ _ _ _ _ us hl => match us, hl with | [_, _], _ => rfl
  have F14 := fun_mk (st := s__law_pot) l14 c14 k14
  have b14 := F14.binds (ps := ["script", "k"]) fun _ _ _ _ _ _ us hl => match us, hl with | [_, _], _ => rfl
  have F15 := fun_mk (st := s__law_take) l15 c15 k15
  have b15 := F15.binds (ps := ["pot", "many"]) fun _ _ _ _ _ _ us hl => match us, hl with | [_, _], _ => rfl
  have F16 := fun_mk (st := s__law_whole) l16 c16 k16
  have b16 := F16.binds (ps := ["found"]) fun _ _ _ _ _ _ us hl => match us, hl with | [_], _ => rfl
  have F17 := fun_mk (st := s__law_word) l17 c17 k17
  have b17 := F17.binds (ps := ["pot"]) fun _ _ _ _ _ _ us hl => match us, hl with | [_], _ => rfl
  have F18 := fun_mk (st := s__law_words_all) l18 c18 k18
  have b18 := F18.binds (ps := []) fun _ _ _ _ _ _ us hl => match us, hl with | [], _ => rfl
  have F19 := fun_mk (st := s__law_an_id) l19 c19 k19
  have b19 := F19.binds (ps := ["pot"]) fun _ _ _ _ _ _ us hl => match us, hl with | [_], _ => rfl
  have F20 := fun_mk (st := s__law_a_key) l20 c20 k20
  have b20 := F20.binds (ps := ["pot"]) fun _ _ _ _ _ _ us hl => match us, hl with | [_], _ => rfl
  have F21 := fun_mk (st := s__law_a_place) l21 c21 k21
  have b21 := F21.binds (ps := ["pot", "word"]) fun _ _ _ _ _ _ us hl => match us, hl with | [_, _], _ => rfl
  have F22 := fun_mk (st := s__law_odd) l22 c22 k22
  have b22 := F22.binds (ps := ["pot"]) fun _ _ _ _ _ _ us hl => match us, hl with | [_], _ => rfl
  have F23 := fun_mk (st := s__law_bent) l23 c23 k23
  have b23 := F23.binds (ps := ["pot", "place"]) fun _ _ _ _ _ _ us hl => match us, hl with | [_, _], _ => rfl
  have F24 := fun_mk (st := s__law_is_name) l24 c24 k24
  have b24 := F24.binds (ps := ["thing"]) fun _ _ _ _ _ _ us hl => match us, hl with | [_], _ => rfl
  have F25 := fun_mk (st := s__law_is_id) l25 c25 k25
  have b25 := F25.binds (ps := ["thing"]) fun _ _ _ _ _ _ us hl => match us, hl with | [_], _ => rfl
  have F26 := fun_mk (st := s__law_is_key) l26 c26 k26
  have b26 := F26.binds (ps := ["thing"]) fun _ _ _ _ _ _ us hl => match us, hl with | [_], _ => rfl
  have F27 := fun_mk (st := s__law_is_place) l27 c27 k27
  have b27 := F27.binds (ps := ["thing"]) fun _ _ _ _ _ _ us hl => match us, hl with | [_], _ => rfl
  have F28 := fun_mk (st := s__law_stands) l28 c28 k28
  have b28 := F28.binds (ps := ["place", "thing"]) fun _ _ _ _ _ _ us hl => match us, hl with | [_, _], _ => rfl
  have F29 := fun_mk (st := s__law_told) l29 c29 k29
  have b29 := F29.binds (ps := ["way", "place", "thing"]) fun _ _ _ _ _ _ us hl => match us, hl with | [_, _, _], _ => rfl
  have F30 := fun_mk (st := s__law_right) l30 c30 k30
  have b30 := F30.binds (ps := ["place", "thing"]) fun _ _ _ _ _ _ us hl => match us, hl with | [_, _], _ => rfl
  have F31 := fun_mk (st := s_law) l31 c31 k31
  have b31 := F31.binds (ps := ["script"]) fun _ _ _ _ _ _ us hl => match us, hl with | [_], _ => rfl
  let T : Txt K mg := ⟨f0, _, F0, PySem.W.mg_of X G a0, b0, f1, _, F1, PySem.W.mg_of X G a1, b1, f2, _, F2, PySem.W.mg_of X G a2, b2, f3, _, F3, PySem.W.mg_of X G a3, b3, f4, _, F4, PySem.W.mg_of X G a4, b4, f5, _, F5, PySem.W.mg_of X G a5, b5, f6, _, F6, PySem.W.mg_of X G a6, b6, f7, _, F7, PySem.W.mg_of X G a7, b7, f8, _, F8, PySem.W.mg_of X G a8, b8, f9, _, F9, PySem.W.mg_of X G a9, b9, f10, _, F10, PySem.W.mg_of X G a10, b10, f11, _, F11, PySem.W.mg_of X G a11, b11, f12, _, F12, PySem.W.mg_of X G a12, b12, f13, _, F13, PySem.W.mg_of X G a13, b13, f14, _, F14, PySem.W.mg_of X G a14, b14, f15, _, F15, PySem.W.mg_of X G a15, b15, f16, _, F16, PySem.W.mg_of X G a16, b16, f17, _, F17, PySem.W.mg_of X G a17, b17, f18, _, F18, PySem.W.mg_of X G a18, b18, f19, _, F19, PySem.W.mg_of X G a19, b19, f20, _, F20, PySem.W.mg_of X G a20, b20, f21, _, F21, PySem.W.mg_of X G a21, b21, f22, _, F22, PySem.W.mg_of X G a22, b22, f23, _, F23, PySem.W.mg_of X G a23, b23, f24, _, F24, PySem.W.mg_of X G a24, b24, f25, _, F25, PySem.W.mg_of X G a25, b25, f26, _, F26, PySem.W.mg_of X G a26, b26, f27, _, F27, PySem.W.mg_of X G a27, b27, f28, _, F28, PySem.W.mg_of X G a28, b28, f29, _, F29, PySem.W.mg_of X G a29, b29, f30, _, F30, PySem.W.mg_of X G a30, b30, fa, _, F31, PySem.W.mg_of X G a31, b31, f_RollError, PySem.W.mg_of X G g_RollError, s_RollError, t_RollError, hd_RollError, f_NoPlace, PySem.W.mg_of X G g_NoPlace, s_NoPlace, t_NoPlace, hd_NoPlace, x_NoPlace, k_NoPlace, eg_NoPlace, ek_NoPlace, ea_NoPlace, em_NoPlace, en_NoPlace, et_NoPlace, u_RollError_NoPlace, u0, PySem.W.mg_of X G v0, u1, PySem.W.mg_of X G v1, u2, PySem.W.mg_of X G v2, u3, PySem.W.mg_of X G v3, fc4, PySem.W.mg_of X G v4, fun _ => .inr ⟨_, _, _, lc4, rfl, rfl, (by decide : 3 ≤ sizeLine), (.cons ⟨_, rfl⟩ (.cons ⟨_, rfl⟩ (.cons ⟨_, rfl⟩ .nil)))⟩, u5, PySem.W.mg_of X G v5, fc6, PySem.W.mg_of X G v6, fun _ => .inr ⟨_, _, _, lc6, rfl, rfl, (by decide : 4 ≤ sizeLine), (.cons ⟨_, rfl⟩ (.cons ⟨_, rfl⟩ (.cons ⟨_, rfl⟩ (.cons ⟨_, rfl⟩ .nil))))⟩, fc7, PySem.W.mg_of X G v7, fun _ => .inr ⟨_, _, _, lc7, rfl, rfl, (by decide : 3 ≤ sizeLine), (.cons ⟨_, rfl⟩ (.cons ⟨_, rfl⟩ (.cons ⟨_, rfl⟩ .nil)))⟩, PySem.W.mg_none_of X G z0, PySem.W.mg_none_of X G z1, PySem.W.mg_none_of X G z2, PySem.W.mg_none_of X G z3, PySem.W.mg_none_of X G z4, PySem.W.mg_none_of X G z5, PySem.W.mg_none_of X G z6, PySem.W.mg_none_of X G z7, PySem.W.mg_none_of X G z8, PySem.W.mg_none_of X G z9, PySem.W.mg_none_of X G z10⟩
  exact ⟨PySem.W.fnOf "law" "law" (defArgs s_law) (defBody s_law) (defScope s_law) .none kV31 dc31 pm31 an31 cd31 ct31, fun s v => .of_eq rfl, fun base _ _ => ok_law (k := 0) T⟩
end K03
open PySem PySem.W PyProof.Rows
set_option maxHeartbeats 0 in
theorem PySem.Challenge.cw_forkrolls_k03_places_known_holds : PySem.Challenge.rw_forkrolls_k03_places_known.Holds := by
  w_on; o_law; k_head; (case hw => w_witness2)
  k_fill
  refine L2.walk_of (l := PySem.Challenge.rw_forkrolls_k03_places_known) (n := 63) (k := 10) (x := "script") (CX := fun _ => L2.CX0) (sp := fun w => K03.spLaw _) rfl (by decide) rfl ⟨rfl, by decide, by decide⟩ (fun w h Y => PySem.W.kIn_of Y) ?F (fun _ _ a ns hl _ hS => ⟨a, ns, rfl, hS, hl, fun _ => rfl⟩) (fun _ _ _ _ _ h => h)
  case F =>
    intro w mg fa h KX G hmg
    refine' K03.all_mk KX G hmg ?a0 ?l0 ?c0 ?k0 ?a1 ?l1 ?c1 ?k1 ?a2 ?l2 ?c2 ?k2 ?a3 ?l3 ?c3 ?k3 ?a4 ?l4 ?c4 ?k4 ?a5 ?l5 ?c5 ?k5 ?a6 ?l6 ?c6 ?k6 ?a7 ?l7 ?c7 ?k7 ?a8 ?l8 ?c8 ?k8 ?a9 ?l9 ?c9 ?k9 ?a10 ?l10 ?c10 ?k10 ?a11 ?l11 ?c11 ?k11 ?a12 ?l12 ?c12 ?k12 ?a13 ?l13 ?c13 ?k13 ?a14 ?l14 ?c14 ?k14 ?a15 ?l15 ?c15 ?k15 ?a16 ?l16 ?c16 ?k16 ?a17 ?l17 ?c17 ?k17 ?a18 ?l18 ?c18 ?k18 ?a19 ?l19 ?c19 ?k19 ?a20 ?l20 ?c20 ?k20 ?a21 ?l21 ?c21 ?k21 ?a22 ?l22 ?c22 ?k22 ?a23 ?l23 ?c23 ?k23 ?a24 ?l24 ?c24 ?k24 ?a25 ?l25 ?c25 ?k25 ?a26 ?l26 ?c26 ?k26 ?a27 ?l27 ?c27 ?k27 ?a28 ?l28 ?c28 ?k28 ?a29 ?l29 ?c29 ?k29 ?a30 ?l30 ?c30 ?k30 ?a31 ?l31 ?c31 ?k31 ?g_RollError ?s_RollError ?t_RollError ?hd_RollError ?g_NoPlace ?s_NoPlace ?t_NoPlace ?hd_NoPlace ?x_NoPlace ?k_NoPlace ?eg_NoPlace ?ek_NoPlace ?ea_NoPlace ?em_NoPlace ?en_NoPlace ?et_NoPlace ?u_RollError_NoPlace ?v0 ?v1 ?v2 ?v3 ?v4 ?lc4 ?v5 ?v6 ?lc6 ?v7 ?lc7 ?z0 ?z1 ?z2 ?z3 ?z4 ?z5 ?z6 ?z7 ?z8 ?z9 ?z10
    (case a0 => k_is); (case l0 => k_is); (case c0 => k_is); (case k0 => k_is); (case a1 => k_is); (case l1 => k_is); (case c1 => k_is); (case k1 => k_is); (case a2 => k_is); (case l2 => k_is); (case c2 => k_is); (case k2 => k_is); (case a3 => k_is); (case l3 => k_is); (case c3 => k_is); (case k3 => k_is); (case a4 => k_is); (case l4 => k_is); (case c4 => k_is); (case k4 => k_is); (case a5 => k_is); (case l5 => k_is); (case c5 => k_is); (case k5 => k_is); (case a6 => k_is); (case l6 => k_is); (case c6 => k_is); (case k6 => k_is); (case a7 => k_is); (case l7 => k_is); (case c7 => k_is); (case k7 => k_is); (case a8 => k_is); (case l8 => k_is); (case c8 => k_is); (case k8 => k_is); (case a9 => k_is); (case l9 => k_is); (case c9 => k_is); (case k9 => k_is); (case a10 => k_is); (case l10 => k_is); (case c10 => k_is); (case k10 => k_is); (case a11 => k_is); (case l11 => k_is); (case c11 => k_is); (case k11 => k_is); (case a12 => k_is); (case l12 => k_is); (case c12 => k_is); (case k12 => k_is); (case a13 => k_is); (case l13 => k_is); (case c13 => k_is); (case k13 => k_is); (case a14 => k_is); (case l14 => k_is); (case c14 => k_is); (case k14 => k_is); (case a15 => k_is); (case l15 => k_is); (case c15 => k_is); (case k15 => k_is); (case a16 => k_is); (case l16 => k_is); (case c16 => k_is); (case k16 => k_is); (case a17 => k_is); (case l17 => k_is); (case c17 => k_is); (case k17 => k_is); (case a18 => k_is); (case l18 => k_is); (case c18 => k_is); (case k18 => k_is); (case a19 => k_is); (case l19 => k_is); (case c19 => k_is); (case k19 => k_is); (case a20 => k_is); (case l20 => k_is); (case c20 => k_is); (case k20 => k_is); (case a21 => k_is); (case l21 => k_is); (case c21 => k_is); (case k21 => k_is); (case a22 => k_is); (case l22 => k_is); (case c22 => k_is); (case k22 => k_is); (case a23 => k_is); (case l23 => k_is); (case c23 => k_is); (case k23 => k_is); (case a24 => k_is); (case l24 => k_is); (case c24 => k_is); (case k24 => k_is); (case a25 => k_is); (case l25 => k_is); (case c25 => k_is); (case k25 => k_is); (case a26 => k_is); (case l26 => k_is); (case c26 => k_is); (case k26 => k_is); (case a27 => k_is); (case l27 => k_is); (case c27 => k_is); (case k27 => k_is); (case a28 => k_is); (case l28 => k_is); (case c28 => k_is); (case k28 => k_is); (case a29 => k_is); (case l29 => k_is); (case c29 => k_is); (case k29 => k_is); (case a30 => k_is); (case l30 => k_is); (case c30 => k_is); (case k30 => k_is); (case a31 => k_is); (case l31 => k_is); (case c31 => k_is); (case k31 => k_is); (case g_RollError => k_is); (case s_RollError => k_is); (case t_RollError => k_is); (case hd_RollError => k_is); (case g_NoPlace => k_is); (case s_NoPlace => k_is); (case t_NoPlace => k_is); (case hd_NoPlace => k_is); (case x_NoPlace => k_exc); (case k_NoPlace => k_is); (case eg_NoPlace => k_is); (case ek_NoPlace => k_is); (case ea_NoPlace => k_is); (case em_NoPlace => k_is); (case en_NoPlace => k_is); (case et_NoPlace => k_is); (case u_RollError_NoPlace => k_is); (case v0 => k_is); (case v1 => k_is); (case v2 => k_is); (case v3 => k_is); (case v4 => k_is); (case lc4 => k_is); (case v5 => k_is); (case v6 => k_is); (case lc6 => k_is); (case v7 => k_is); (case lc7 => k_is); (case z0 => k_is); (case z1 => k_is); (case z2 => k_is); (case z3 => k_is); (case z4 => k_is); (case z5 => k_is); (case z6 => k_is); (case z7 => k_is); (case z8 => k_is); (case z9 => k_is); (case z10 => k_is)
