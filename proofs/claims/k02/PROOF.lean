import PyProof.Rows.All
import Wide.All
import OpenK.AllK
import Wide.FinOn
import HandS.ForMost
import HandS.IsInst
import HandS.Wide
import HandS.StrMore
import HandS.Walk
import PySem.Challenge.RW_forkrolls_k02_names_values_ids
set_option Elab.async false
set_option linter.all false
set_option maxRecDepth 100000
namespace Pr
open PySem PySem.Spec PyProof.Rows L2

/-! ### texts of known size and signs -/
def okS (z : Str) : Prop := z.length ≤ 1000 ∧ PyData.strOk z = true
theorem strOk_iff {z : Str} : PyData.strOk z = true ↔ ∀ c ∈ z.cps.toList, c < 0x110000 := by
  unfold PyData.strOk
  rw [← Array.all_toList, List.all_eq_true]
  exact ⟨fun h c hc => of_decide_eq_true (h c hc), fun h c hc => decide_eq_true (h c hc)⟩
theorem strOk_cut {z : Str} (h : PyData.strOk z = true) (lo hi : Option Int) : PyData.strOk (cutS z lo hi) = true := by
  rw [strOk_iff] at h ⊢
  intro c hc
  refine h c ?_
  unfold cutS at hc
  exact List.mem_of_mem_drop (List.mem_of_mem_take hc)
theorem strOk_append {x y : Str} (h : PyData.strOk x = true) (h2 : PyData.strOk y = true) : PyData.strOk (x ++ y) = true := by
  rw [strOk_iff] at h h2 ⊢
  intro c hc
  have e : (x ++ y).cps.toList = x.cps.toList ++ y.cps.toList := by
    show (x.cps ++ y.cps).toList = _
    exact Array.toList_append
  rw [e] at hc
  exact (List.mem_append.mp hc).elim (h c) (h2 c)
theorem strOk_join {sep : Str} (hs : PyData.strOk sep = true) : ∀ {ys : List Str}, (∀ y ∈ ys, PyData.strOk y = true) → PyData.strOk (Str.join sep ys) = true
  | [], _ => by show PyData.strOk Str.empty = true; decide +kernel
  | [x], h => h x List.mem_cons_self
  | x :: y :: r, h => strOk_append (strOk_append (h x List.mem_cons_self) hs) (strOk_join hs fun z hz => h z (List.mem_cons_of_mem _ hz))
/-! ### what a value is, by its built-in class -/
inductive Knd (H : Hp) : V → String → Prop
  | non : Knd H .non "NoneType"
  | bl (b : Bool) : Knd H (.bl b) "bool"
  | int (i : Int) : Knd H (.int i) "int"
  | str (z : Str) (h : okS z) : Knd H (.str z) "str"
  | lst {a : Addr} {xs : List V} (e : H a = some (.lst xs)) : Knd H (.ref a) "list"
  | tup {a : Addr} {xs : List V} (e : H a = some (.tup xs)) : Knd H (.ref a) "tuple"
  | dK {a : Addr} {kvs : List (Key × V)} (e : H a = some (.dK kvs)) : Knd H (.ref a) "dict"
theorem Knd.same {H H' : Hp} {v : V} {k : String} (h : Knd H v k) (s : Same H H') : Knd H' v k := by
  cases h with
  | non => exact .non
  | bl b => exact .bl b
  | int i => exact .int i
  | str z hz => exact .str z hz
  | lst e => exact .lst (s _ _ e)
  | tup e => exact .tup (s _ _ e)
  | dK e => exact .dK (s _ _ e)
theorem Knd.ty {K : PySem.W.Frag} {H : Hp} {v : V} {k : String} (h : Knd H v k) : TyX K H v (.type k) := by
  cases h with
  | non => exact .base .non
  | bl b => exact .base (.bl b)
  | int i => exact .base (.int i)
  | str z hz => exact .base (.str z)
  | lst e => exact .base (.lst e)
  | tup e => exact .base (.tup e)
  | dK e => exact .base (.dK e)
/-- is a value of built-in class k one of T? -/
def isk (k T : String) : Bool := k == T || (k == "bool" && T == "int")
def okT (T : String) : Prop := T = "bool" ∨ T = "int" ∨ T = "str" ∨ T = "tuple" ∨ T = "list" ∨ T = "dict"
theorem isk_kit {K : PySem.W.Frag} {H : Hp} {v : V} {k T : String} (h : Knd H v k) (hT : okT T) : PySem.W.kitOne K (.type k) (.type T) = some (isk k T) := by
  refine kit_ty ?_
  rcases hT with rfl | rfl | rfl | rfl | rfl | rfl <;> cases h <;> decide +kernel
def rIsk : List V → Hp → VK → Prop := fun xs H Q => ∃ (v : V) (T k : String), xs = [v, .ty T] ∧ okT T ∧ Knd H v k ∧ Q (.bl (isk k T)) H
theorem call_isk {X : Cx} : CallR X (.builtin "isinstance") rIsk := by
  intro pins s σ H xs us Q I r h
  obtain ⟨v, T, k, rfl, hT, hk, q⟩ := h
  exact call_isi pins s σ H _ us Q I r ⟨v, .ty T, _, _, _, rfl, .ty T, hk.ty, isk_kit hk hT, q⟩

/-! ### powers of great numbers -/
def CPowW (i j : Int) : Prop := 0 ≤ j ∧ (Builtin.Int.intBits i : Int) * j ≤ 2 ^ 27
theorem op_powW {X : Cx} : OpR X (binaryOp .Pow) (rI CPowW fun i j => .int (i ^ j.toNat)) := opI fun _ _ _ _ _ _ _ hc q => pow_int hc.1 hc.2 q

/-! ### texts: eight small letters -/
theorem az1 : ∀ c : Fin 128, ((Unicode.isAlpha c.val && !(Unicode.isUpper c.val || Unicode.isTitle c.val)) = decide (97 ≤ c.val ∧ c.val ≤ 122)) := by decide +kernel
theorem az2 : ∀ c : Fin 128, Unicode.isLower c.val = decide (97 ≤ c.val ∧ c.val ≤ 122) := by decide +kernel
def azS : Str := "abcdefghijklmnopqrstuvwxyz"
theorem mem_az (c : Nat) : decide (c ∈ azS.cps.toList) = decide (97 ≤ c ∧ c ≤ 122) := by
  have e : azS.cps.toList = (List.range 26).map (· + 97) := by decide +kernel
  rw [e]
  apply decide_eq_decide.mpr
  rw [List.mem_map]
  constructor
  · rintro ⟨a, ha, rfl⟩
    have := List.mem_range.mp ha
    omega
  · rintro ⟨h1, h2⟩
    exact ⟨c - 97, List.mem_range.mpr (by omega), by omega⟩
/-- the letters are all small ones -/
def azAll (z : Str) : Bool := z.cps.toList.all fun c => decide (97 ≤ c ∧ c ≤ 122)
theorem az_word (z : Str) : (Txt.isascii z && (Txt.isalpha z && Txt.islower z)) = (decide (0 < z.length) && azAll z) := by
  unfold Txt.isascii Txt.isalpha Txt.islower azAll
  rw [← Array.all_toList, ← Array.all_toList, ← Array.any_toList, ← Array.any_toList]
  have hl : z.length = z.cps.toList.length := rfl
  rw [hl]
  generalize z.cps.toList = l
  by_cases ha : (l.all fun x => decide (x < 128)) = true
  · have h1 : ∀ c ∈ l, c < 128 := fun c hc => of_decide_eq_true (List.all_eq_true.mp ha c hc)
    rw [ha, Bool.true_and]
    cases l with
    | nil => rfl
    | cons d r =>
      have hpos : decide (0 < (d :: r).length) = true := by simp
      rw [hpos, Bool.true_and, Bool.true_and]
      generalize hm : d :: r = m at *
      have hne : ∃ c, c ∈ m := ⟨d, by rw [← hm]; exact List.mem_cons_self⟩
      apply Bool.eq_iff_iff.mpr
      constructor
      · intro h
        simp only [Bool.and_eq_true, List.all_eq_true, Bool.not_eq_true', List.any_eq_false] at h
        obtain ⟨ha1, ha2, ha3⟩ := h
        rw [List.all_eq_true]
        intro c hc
        have e := az1 ⟨c, h1 c hc⟩
        have q1 := ha1 c hc
        have q2 := ha3 c hc
        simp only [q1, Bool.true_and] at e
        rw [← e]
        simpa using q2
      · intro h
        rw [List.all_eq_true] at h
        simp only [Bool.and_eq_true, List.all_eq_true, Bool.not_eq_true', List.any_eq_false, List.any_eq_true]
        refine ⟨fun c hc => ?_, ?_, fun c hc => ?_⟩
        · have e := az1 ⟨c, h1 c hc⟩
          simp only [h c hc, Bool.and_eq_true] at e
          exact e.1
        · obtain ⟨c, hc⟩ := hne
          exact ⟨c, hc, (az2 ⟨c, h1 c hc⟩).trans (h c hc)⟩
        · have e := az1 ⟨c, h1 c hc⟩
          simp only [h c hc, Bool.and_eq_true] at e
          simpa using e.2
  · have h0 : (l.all fun x => decide (x < 128)) = false := by simpa using ha
    rw [h0, Bool.false_and]
    have : (l.all fun c => decide (97 ≤ c ∧ c ≤ 122)) = false := by
      apply Bool.eq_false_iff.mpr
      intro h
      apply ha
      rw [List.all_eq_true] at h ⊢
      intro c hc
      have := of_decide_eq_true (h c hc)
      exact decide_eq_true (by omega)
    rw [this, Bool.and_false]
end Pr
namespace Pr
open PySem PySem.Spec PyProof.Rows L2
/-! ### the pot: three numbers in a list -/
def Pot (p : Addr) (n : Nat) (H : Hp) : Prop := ∃ a b c : Int, H p = some (.lst [.int a, .int b, .int c]) ∧ (0 ≤ a ∧ a < 2 ^ 2000) ∧ (0 ≤ b ∧ b < 2 ^ 61) ∧ 0 ≤ c ∧ c ≤ n
/-- all that was tracked is as it was, but at p -/
def But (p : Addr) (H H' : Hp) : Prop := ∀ q o, q ≠ p → H q = some o → H' q = some o
theorem But.refl (p : Addr) (H : Hp) : But p H H := fun _ _ _ h => h
theorem But.trans {p : Addr} {H H1 H2 : Hp} (a : But p H H1) (b : But p H1 H2) : But p H H2 := fun q o n h => b q o n (a q o n h)
theorem But.of {p : Addr} {H H1 : Hp} (a : Same H H1) : But p H H1 := fun q o _ h => a q o h
theorem But.put {p : Addr} {H : Hp} {o : HO} : But p H (upd H p o) := fun q _ n h => by rw [upd_ne n]; exact h
theorem But.new {p q : Addr} {H : Hp} {o : HO} (h : H q = none) : But p H (upd H q o) := fun b x _ e => by
  rw [upd_ne (ne_of_none e h)]
  exact e
theorem Same.new {q : Addr} {H : Hp} {o : HO} (h : H q = none) : Same H (upd H q o) := fun b x e => by
  rw [upd_ne (ne_of_none e h)]
  exact e
theorem Pot.some {p : Addr} {n : Nat} {H : Hp} (h : Pot p n H) : ∃ o, H p = some o := by
  obtain ⟨a, b, c, e, _⟩ := h
  exact ⟨_, e⟩
theorem Pot.ne {p q : Addr} {n : Nat} {H : Hp} (h : Pot p n H) (e : H q = none) : q ≠ p := by
  obtain ⟨o, ho⟩ := h.some
  exact fun z => by rw [z, ho] at e; cases e
theorem Pot.same {p : Addr} {n : Nat} {H H' : Hp} (h : Pot p n H) (s : Same H H') : Pot p n H' := by
  obtain ⟨a, b, c, e, r⟩ := h
  exact ⟨a, b, c, s _ _ e, r⟩
theorem Pot.mono {p : Addr} {n m : Nat} {H : Hp} (h : Pot p n H) (l : n ≤ m) : Pot p m H := by
  obtain ⟨a, b, c, e, ha, hb, h0, h1⟩ := h
  exact ⟨a, b, c, e, ha, hb, h0, by omega⟩
theorem But.same {p : Addr} {H0 H H' : Hp} (b : But p H H') (hp : H0 p = none) (s : Same H0 H) : Same H0 H' := fun q o h => b q o (ne_of_none h hp) (s q o h)
theorem atI_bdN {α : Type} {xs : List α} {r : Int} (h0 : 0 ≤ r) (h1 : r < xs.length) : ∃ v, atI xs r = some v ∧ v ∈ xs := by
  obtain ⟨j, rfl⟩ := Int.eq_ofNat_of_zero_le h0
  have hj : j < xs.length := by omega
  exact ⟨xs[j], atI_nat (List.getElem?_eq_getElem hj), List.getElem_mem hj⟩
theorem atI_bd {xs : List V} {r : Int} (h0 : 0 ≤ r) (h1 : r < xs.length) : ∃ v, atI xs r = some v ∧ v ∈ xs := atI_bdN h0 h1
theorem join_le (sep : Str) (ys : List Str) : (Txt.join sep ys).length ≤ (ys.map (·.length)).sum + ys.length * sep.length := by
  show (Builtin.Str.glued sep ys).length ≤ _
  rw [StrLaws.glued_eq_join]
  exact StrLaws.join_length_le sep ys
theorem strOk_joinT {sep : Str} (hs : PyData.strOk sep = true) {ys : List Str} (h : ∀ y ∈ ys, PyData.strOk y = true) : PyData.strOk (Txt.join sep ys) = true := by
  show PyData.strOk (Builtin.Str.glued sep ys) = true
  rw [StrLaws.glued_eq_join]
  exact strOk_join hs h
theorem sum_ones : ∀ (ys : List Str), (∀ y ∈ ys, y.length = 1) → (ys.map (·.length)).sum = ys.length
  | [], _ => rfl
  | y :: r, h => by
    rw [List.map_cons, List.sum_cons, sum_ones r fun z hz => h z (List.mem_cons_of_mem _ hz), h y List.mem_cons_self, List.length_cons]
    omega

def spTake : Sp := fun vs H Q _ => ∃ (p : Addr) (n : Nat) (many : Int), vs = [.ref p, .int many] ∧ Pot p n H ∧ n < 100000 ∧ 0 < many ∧ many < 2 ^ 64 ∧
  ∀ r H', 0 ≤ r → r < many → Pot p (n + 1) H' → But p H H' → Q (.int r) H'
def spPot (K : PySem.W.Frag) : Sp := fun vs H Q _ => ∃ (a : Addr) (ns : List Int) (k : Int), vs = [.ref a, .int k] ∧ SqL K H a (ns.map V.int) ∧ 0 ≤ k ∧ k < 1000 ∧
  ∀ p H', H p = none → Same H H' → Pot p 0 H' → Q (.ref p) H'
theorem big_lt : ((10 : Int) ^ (60 : Int).toNat) ^ (10 : Int).toNat < 2 ^ 2000 ∧ (0 : Int) < ((10 : Int) ^ (60 : Int).toNat) ^ (10 : Int).toNat := by decide +kernel
theorem powW1 : CPowW ((10 : Int) ^ (60 : Int).toNat) 10 := by
  refine ⟨by decide, ?_⟩
  decide +kernel
theorem b01 (g : Bool) : -(2 ^ 64) < (if g = true then (1 : Int) else 0) ∧ (if g = true then (1 : Int) else 0) < 2 ^ 64 := by cases g <;> decide
theorem powArg {r k : Int} (h0 : 0 ≤ r) (h1 : r < 2147483629) (k0 : 0 ≤ k) (k1 : k < 1000) : (r + 7919 * k + 1).natAbs < 2 ^ 64 := by omega
theorem lt2000 : (0 : Int) < 2 ^ 2000 := by decide +kernel
end Pr
namespace Pr
open PySem PySem.Spec PyProof.Rows L2
theorem But.later {p q : Addr} {H H1 : Hp} {o : HO} (b : But p H H1) (h : H q = none) : But p H (upd H1 q o) := fun c x n e => by
  rw [upd_ne (ne_of_none e h)]
  exact b c x n e
theorem Knd.but {p : Addr} {H H' : Hp} {v : V} {k : String} (h : Knd H v k) (hp : v ≠ .ref p) (s : But p H H') : Knd H' v k := by
  cases h with
  | non => exact .non
  | bl b => exact .bl b
  | int i => exact .int i
  | str z hz => exact .str z hz
  | lst e => exact .lst (s _ _ (fun q => hp (by rw [q])) e)
  | tup e => exact .tup (s _ _ (fun q => hp (by rw [q])) e)
  | dK e => exact .dK (s _ _ (fun q => hp (by rw [q])) e)
theorem Knd.updL {L : Addr} {H : Hp} {xs ys : List V} {v : V} {k : String} (e0 : H L = some (.lst xs)) (h : Knd H v k) : Knd (upd H L (.lst ys)) v k := by
  cases h with
  | non => exact .non
  | bl b => exact .bl b
  | int i => exact .int i
  | str z hz => exact .str z hz
  | @lst a zs e =>
    by_cases q : a = L
    · rw [q]; exact .lst upd_same
    · exact .lst (by rw [upd_ne q]; exact e)
  | tup e => exact .tup (by rw [upd_ne (ne_of e e0 (by intro z; cases z))]; exact e)
  | dK e => exact .dK (by rw [upd_ne (ne_of e e0 (by intro z; cases z))]; exact e)
/-- a part: of some kind, not the pot -/
def El (p : Addr) (H : Hp) (x : V) : Prop := (∃ k, Knd H x k) ∧ x ≠ .ref p
theorem El.but {p : Addr} {H H' : Hp} {x : V} (h : El p H x) (s : But p H H') : El p H' x := ⟨h.1.elim fun k q => ⟨k, q.but h.2 s⟩, h.2⟩
theorem El.updL {p L : Addr} {H : Hp} {xs ys : List V} {x : V} (e0 : H L = some (.lst xs)) (h : El p H x) : El p (upd H L (.lst ys)) x := ⟨h.1.elim fun k q => ⟨k, q.updL e0⟩, h.2⟩
theorem El.int {p : Addr} {H : Hp} (i : Int) : El p H (.int i) := ⟨⟨_, .int i⟩, fun z => by cases z⟩
theorem El.str {p : Addr} {H : Hp} {z : Str} (h : okS z) : El p H (.str z) := ⟨⟨_, .str z h⟩, fun z => by cases z⟩
/-- a thing of any kind, not the pot; what is in a tuple is of some kind, too -/
inductive Thing (p : Addr) (H : Hp) : V → Prop
  | flat {v : V} {k : String} (h : Knd H v k) (hk : k ≠ "tuple") (hp : v ≠ .ref p) : Thing p H v
  | tup {a : Addr} {xs : List V} (e : H a = some (.tup xs)) (h : ∀ x ∈ xs, El p H x) (hp : a ≠ p) : Thing p H (.ref a)
theorem Thing.but {p : Addr} {H H' : Hp} {v : V} (h : Thing p H v) (s : But p H H') : Thing p H' v := by
  cases h with
  | flat h hk hp => exact .flat (h.but hp s) hk hp
  | tup e h hp => exact .tup (s _ _ hp e) (fun x hx => (h x hx).but s) hp
theorem Thing.el {p : Addr} {H : Hp} {v : V} (h : Thing p H v) : El p H v := by
  cases h with
  | flat h hk hp => exact ⟨⟨_, h⟩, hp⟩
  | tup e h hp => exact ⟨⟨_, .tup e⟩, fun z => hp (V.ref.inj z)⟩
theorem Thing.knd {p : Addr} {H : Hp} {v : V} (h : Thing p H v) : ∃ k, Knd H v k := h.el.1
theorem Thing.int {p : Addr} {H : Hp} (i : Int) : Thing p H (.int i) := .flat (.int i) (by decide) (fun z => by cases z)
theorem Thing.str {p : Addr} {H : Hp} {z : Str} (h : okS z) : Thing p H (.str z) := .flat (.str z h) (by decide) (fun z => by cases z)
theorem alloc {H : Hp} {p : Addr} (o : HO) (h : H p = none) : ∃ H1, upd H p o = H1 ∧ Same H H1 ∧ H1 p = some o := ⟨_, rfl, Same.new h, upd_same⟩
/-- what follows, by a name -/
theorem absQ {t : TE} {σ : L2.St} {H : Hp} {Q : VK} (h : ∀ G : VK, (∀ v H', Q v H' → G v H') → t σ H G) : t σ H Q := h Q fun _ _ q => q
theorem seqAsg {te : TE} {g : TG} {u : TS} {D : Ends} {σ : L2.St} {H : Hp} (h : ∀ G : VK, (∀ v H', g v σ H' (u D) → G v H') → te σ H G) : tSeq (tAsg te g) u D σ H := absQ (t := te) h
theorem nameInto {t : TS} {D E : Ends} {i : Nat} {x : V} {σ : L2.St} {H : Hp} (h : t D (σ.set i (some x)) H) : gName i x σ H ({ E with nx := t D } : Ends).nx := h
theorem mem_cutV {xs : List V} {lo hi : Option Int} {x : V} (h : x ∈ cutV xs lo hi) : x ∈ xs := by
  unfold cutV at h
  exact List.mem_of_mem_drop (List.mem_of_mem_take h)
end Pr
namespace K02
open PySem PySem.Spec PyProof.Rows L2 Pr
def topS (i : Nat) : Stmt := PySem.Challenge.pw_forkrolls_k02_names_values_ids.main.body.getD i (.Pass ⟨0, 0, 0, 0⟩)
abbrev s_is_whole : Stmt := topS 5
abbrev N_is_whole : List Str := ["thing", "low", "high"]
theorem sc_is_whole : FnScope N_is_whole ["thing", "low", "high"] (defScope s_is_whole) := ⟨rfl, rfl, rfl, by decide +kernel, rfl, by decide +kernel, by decide +kernel⟩
abbrev s_is_word : Stmt := topS 6
abbrev N_is_word : List Str := ["thing"]
theorem sc_is_word : FnScope N_is_word ["thing"] (defScope s_is_word) := ⟨rfl, rfl, rfl, by decide +kernel, rfl, by decide +kernel, by decide +kernel⟩
abbrev s_is_name : Stmt := topS 7
abbrev N_is_name : List Str := ["thing"]
theorem sc_is_name : FnScope N_is_name ["thing"] (defScope s_is_name) := ⟨rfl, rfl, rfl, by decide +kernel, rfl, by decide +kernel, by decide +kernel⟩
abbrev s_is_value : Stmt := topS 8
abbrev N_is_value : List Str := ["thing"]
theorem sc_is_value : FnScope N_is_value ["thing"] (defScope s_is_value) := ⟨rfl, rfl, rfl, by decide +kernel, rfl, by decide +kernel, by decide +kernel⟩
abbrev s_is_hand : Stmt := topS 9
abbrev N_is_hand : List Str := ["thing"]
theorem sc_is_hand : FnScope N_is_hand ["thing"] (defScope s_is_hand) := ⟨rfl, rfl, rfl, by decide +kernel, rfl, by decide +kernel, by decide +kernel⟩
abbrev s_is_id : Stmt := topS 10
abbrev N_is_id : List Str := ["thing", "hand", "name", "number"]
theorem sc_is_id : FnScope N_is_id ["thing"] (defScope s_is_id) := ⟨rfl, rfl, rfl, by decide +kernel, rfl, by decide +kernel, by decide +kernel⟩
abbrev s__law_pot : Stmt := topS 12
abbrev N__law_pot : List Str := ["script", "k", "cell"]
theorem sc__law_pot : FnScope N__law_pot ["script", "k"] (defScope s__law_pot) := ⟨rfl, rfl, rfl, by decide +kernel, rfl, by decide +kernel, by decide +kernel⟩
abbrev s__law_take : Stmt := topS 13
abbrev N__law_take : List Str := ["pot", "many", "found", "one", "other"]
theorem sc__law_take : FnScope N__law_take ["pot", "many"] (defScope s__law_take) := ⟨rfl, rfl, rfl, by decide +kernel, rfl, by decide +kernel, by decide +kernel⟩
abbrev s__law_whole : Stmt := topS 14
abbrev N__law_whole : List Str := ["found"]
theorem sc__law_whole : FnScope N__law_whole ["found"] (defScope s__law_whole) := ⟨rfl, rfl, rfl, by decide +kernel, rfl, by decide +kernel, by decide +kernel⟩
abbrev s__law_text : Stmt := topS 15
abbrev N__law_text : List Str := ["pot", "many", "word", "way", "at", "sign", "turn"]
theorem sc__law_text : FnScope N__law_text ["pot"] (defScope s__law_text) := ⟨rfl, rfl, rfl, by decide +kernel, rfl, by decide +kernel, by decide +kernel⟩
abbrev s__law_number : Stmt := topS 16
abbrev N__law_number : List Str := ["pot", "some"]
theorem sc__law_number : FnScope N__law_number ["pot"] (defScope s__law_number) := ⟨rfl, rfl, rfl, by decide +kernel, rfl, by decide +kernel, by decide +kernel⟩
abbrev s__law_odd : Stmt := topS 17
abbrev N__law_odd : List Str := ["pot", "some"]
theorem sc__law_odd : FnScope N__law_odd ["pot"] (defScope s__law_odd) := ⟨rfl, rfl, rfl, by decide +kernel, rfl, by decide +kernel, by decide +kernel⟩
abbrev s__law_any : Stmt := topS 18
abbrev N__law_any : List Str := ["pot"]
theorem sc__law_any : FnScope N__law_any ["pot"] (defScope s__law_any) := ⟨rfl, rfl, rfl, by decide +kernel, rfl, by decide +kernel, by decide +kernel⟩
abbrev s__law_an_id : Stmt := topS 19
abbrev N__law_an_id : List Str := ["pot", "some", "way"]
theorem sc__law_an_id : FnScope N__law_an_id ["pot"] (defScope s__law_an_id) := ⟨rfl, rfl, rfl, by decide +kernel, rfl, by decide +kernel, by decide +kernel⟩
abbrev s__law_is_word : Stmt := topS 20
abbrev N__law_is_word : List Str := ["thing", "letter"]
theorem sc__law_is_word : FnScope N__law_is_word ["thing"] (defScope s__law_is_word) := ⟨rfl, rfl, rfl, by decide +kernel, rfl, by decide +kernel, by decide +kernel⟩
abbrev s__law_is_id : Stmt := topS 21
abbrev N__law_is_id : List Str := ["thing"]
theorem sc__law_is_id : FnScope N__law_is_id ["thing"] (defScope s__law_is_id) := ⟨rfl, rfl, rfl, by decide +kernel, rfl, by decide +kernel, by decide +kernel⟩
abbrev s__law_right : Stmt := topS 22
abbrev N__law_right : List Str := ["thing", "name", "value", "found", "one"]
theorem sc__law_right : FnScope N__law_right ["thing"] (defScope s__law_right) := ⟨rfl, rfl, rfl, by decide +kernel, rfl, by decide +kernel, by decide +kernel⟩
abbrev s_law : Stmt := topS 23
abbrev N_law : List Str := ["script", "k", "pot", "some", "thing"]
theorem sc_law : FnScope N_law ["script"] (defScope s_law) := ⟨rfl, rfl, rfl, by decide +kernel, rfl, by decide +kernel, by decide +kernel⟩
structure Txt (K : PySem.W.Frag) (mg : Str → Option Value) where
  f_is_whole : Addr
  d_is_whole : FuncData
  F_is_whole : Fun K "is_whole" "is_whole" s_is_whole f_is_whole d_is_whole
  g_is_whole : mg "is_whole" = some (.ref f_is_whole)
  b_is_whole : Binds K d_is_whole ["thing", "low", "high"] []
  f_is_word : Addr
  d_is_word : FuncData
  F_is_word : Fun K "is_word" "is_word" s_is_word f_is_word d_is_word
  g_is_word : mg "is_word" = some (.ref f_is_word)
  b_is_word : Binds K d_is_word ["thing"] []
  f_is_name : Addr
  d_is_name : FuncData
  F_is_name : Fun K "is_name" "is_name" s_is_name f_is_name d_is_name
  g_is_name : mg "is_name" = some (.ref f_is_name)
  b_is_name : Binds K d_is_name ["thing"] []
  f_is_value : Addr
  d_is_value : FuncData
  F_is_value : Fun K "is_value" "is_value" s_is_value f_is_value d_is_value
  g_is_value : mg "is_value" = some (.ref f_is_value)
  b_is_value : Binds K d_is_value ["thing"] []
  f_is_hand : Addr
  d_is_hand : FuncData
  F_is_hand : Fun K "is_hand" "is_hand" s_is_hand f_is_hand d_is_hand
  g_is_hand : mg "is_hand" = some (.ref f_is_hand)
  b_is_hand : Binds K d_is_hand ["thing"] []
  f_is_id : Addr
  d_is_id : FuncData
  F_is_id : Fun K "is_id" "is_id" s_is_id f_is_id d_is_id
  g_is_id : mg "is_id" = some (.ref f_is_id)
  b_is_id : Binds K d_is_id ["thing"] []
  f__law_pot : Addr
  d__law_pot : FuncData
  F__law_pot : Fun K "_law_pot" "_law_pot" s__law_pot f__law_pot d__law_pot
  g__law_pot : mg "_law_pot" = some (.ref f__law_pot)
  b__law_pot : Binds K d__law_pot ["script", "k"] []
  f__law_take : Addr
  d__law_take : FuncData
  F__law_take : Fun K "_law_take" "_law_take" s__law_take f__law_take d__law_take
  g__law_take : mg "_law_take" = some (.ref f__law_take)
  b__law_take : Binds K d__law_take ["pot", "many"] []
  f__law_whole : Addr
  d__law_whole : FuncData
  F__law_whole : Fun K "_law_whole" "_law_whole" s__law_whole f__law_whole d__law_whole
  g__law_whole : mg "_law_whole" = some (.ref f__law_whole)
  b__law_whole : Binds K d__law_whole ["found"] []
  f__law_text : Addr
  d__law_text : FuncData
  F__law_text : Fun K "_law_text" "_law_text" s__law_text f__law_text d__law_text
  g__law_text : mg "_law_text" = some (.ref f__law_text)
  b__law_text : Binds K d__law_text ["pot"] []
  f__law_number : Addr
  d__law_number : FuncData
  F__law_number : Fun K "_law_number" "_law_number" s__law_number f__law_number d__law_number
  g__law_number : mg "_law_number" = some (.ref f__law_number)
  b__law_number : Binds K d__law_number ["pot"] []
  f__law_odd : Addr
  d__law_odd : FuncData
  F__law_odd : Fun K "_law_odd" "_law_odd" s__law_odd f__law_odd d__law_odd
  g__law_odd : mg "_law_odd" = some (.ref f__law_odd)
  b__law_odd : Binds K d__law_odd ["pot"] []
  f__law_any : Addr
  d__law_any : FuncData
  F__law_any : Fun K "_law_any" "_law_any" s__law_any f__law_any d__law_any
  g__law_any : mg "_law_any" = some (.ref f__law_any)
  b__law_any : Binds K d__law_any ["pot"] []
  f__law_an_id : Addr
  d__law_an_id : FuncData
  F__law_an_id : Fun K "_law_an_id" "_law_an_id" s__law_an_id f__law_an_id d__law_an_id
  g__law_an_id : mg "_law_an_id" = some (.ref f__law_an_id)
  b__law_an_id : Binds K d__law_an_id ["pot"] []
  f__law_is_word : Addr
  d__law_is_word : FuncData
  F__law_is_word : Fun K "_law_is_word" "_law_is_word" s__law_is_word f__law_is_word d__law_is_word
  g__law_is_word : mg "_law_is_word" = some (.ref f__law_is_word)
  b__law_is_word : Binds K d__law_is_word ["thing"] []
  f__law_is_id : Addr
  d__law_is_id : FuncData
  F__law_is_id : Fun K "_law_is_id" "_law_is_id" s__law_is_id f__law_is_id d__law_is_id
  g__law_is_id : mg "_law_is_id" = some (.ref f__law_is_id)
  b__law_is_id : Binds K d__law_is_id ["thing"] []
  f__law_right : Addr
  d__law_right : FuncData
  F__law_right : Fun K "_law_right" "_law_right" s__law_right f__law_right d__law_right
  g__law_right : mg "_law_right" = some (.ref f__law_right)
  b__law_right : Binds K d__law_right ["thing"] []
  f_law : Addr
  d_law : FuncData
  F_law : Fun K "law" "law" s_law f_law d_law
  g_law : mg "law" = some (.ref f_law)
  b_law : Binds K d_law ["script"] []
  t_MOST_LETTERS : Tok
  c_MOST_LETTERS : mg "MOST_LETTERS" = some (.int 8 t_MOST_LETTERS)
  t_MOST_VALUE : Tok
  c_MOST_VALUE : mg "MOST_VALUE" = some (.int 1000000000 t_MOST_VALUE)
  t_MOST_HAND : Tok
  c_MOST_HAND : mg "MOST_HAND" = some (.int 7 t_MOST_HAND)
  t_MOST_NUMBER : Tok
  c_MOST_NUMBER : mg "MOST_NUMBER" = some (.int 1000000 t_MOST_NUMBER)
  n_isinstance : mg "isinstance" = none
  n_bool : mg "bool" = none
  n_int : mg "int" = none
  n_str : mg "str" = none
  n_len : mg "len" = none
  n_tuple : mg "tuple" = none
  n_abs : mg "abs" = none
  n_range : mg "range" = none
  n_all : mg "all" = none
  n_max : mg "max" = none
  n_min : mg "min" = none
section
variable {P : Program} {w : World} {K : PySem.W.Frag} {mg : Str → Option Value} {base : Heap}

def mWhole (lo hi : Int) : V → Bool
  | .int i => decide (lo ≤ i) && decide (i ≤ hi)
  | _ => false
def spWhole : Sp := fun vs H Q _ => ∃ (v : V) (k : String) (lo hi : Int), vs = [v, .int lo, .int hi] ∧ Knd H v k ∧ Q (.bl (mWhole lo hi v)) H
theorem ok_is_whole {k : Nat} (T : Txt K mg) : FnOk P w K mg base CX0 (k + 1) T.f_is_whole T.d_is_whole ["thing", "low", "high"] spWhole := by
  refine (T.F_is_whole).ok sc_is_whole (fun vs H Q E h => ?_) (fun cdv A outer s H vs Q E hr h => ?_)
  · obtain ⟨v, kk, lo, hi, rfl, _⟩ := h
    rfl
  · obtain ⟨v, kk, lo, hi, rfl, hk, q⟩ := h
    refine ⟨_, (pss_cons (ps_if (PW.pt (pw_or (pt_val (pe_callB call_isk (by rfl) T.n_isinstance (by decide +kernel) (pa_cons (pv 0) (pa_cons (pe_bltn (by rfl) T.n_bool (by decide +kernel) (v := .ty "bool") rfl) pa_nil)))) (pw_or1 (pt_not (pt_val (pe_callB call_isk (by rfl) T.n_isinstance (by decide +kernel) (pa_cons (pv 0) (pa_cons (pe_bltn (by rfl) T.n_int (by decide +kernel) (v := .ty "int") rfl) pa_nil)))))))) (pss_one (ps_ret pe_bl)) pss_nil) (pss_one (ps_ret (pe_chain op_le op_le (pv 1) (pv 0) (pv 2))))), ?_⟩
    have hk' := hk
    refine ⟨_, rfl, _, "bool", kk, rfl, .inl rfl, hk, _, rfl, ?_⟩
    cases hk' <;> first | exact q | refine ⟨_, rfl, _, "int", _, rfl, .inr (.inl rfl), hk, _, rfl, ?_⟩
    all_goals first | exact q | skip
    rename_i i
    refine ⟨_, rfl, _, rfl, lo, i, rfl, rfl, _, rfl, ite2 (fun h1 => ?_) (fun h1 => ?_)⟩
    · refine ⟨_, rfl, i, hi, rfl, rfl, ?_⟩
      have e : mWhole lo hi (.int i) = decide (i ≤ hi) := by
        show (decide (lo ≤ i) && decide (i ≤ hi)) = _
        rw [h1, Bool.true_and]
      rw [e] at q
      exact q
    · have e : mWhole lo hi (.int i) = false := by
        show (decide (lo ≤ i) && decide (i ≤ hi)) = _
        rw [Bool.eq_false_iff.mpr h1, Bool.false_and]
      rw [e] at q
      exact q

def mWord : V → Bool
  | .str z => decide (z.length ≤ 8) && (decide (0 < z.length) && azAll z)
  | _ => false
def spWord : Sp := fun vs H Q _ => ∃ (v : V) (k : String), vs = [v] ∧ Knd H v k ∧ Q (.bl (mWord v)) H
theorem ok_is_word {k : Nat} (T : Txt K mg) : FnOk P w K mg base CX0 (k + 1) T.f_is_word T.d_is_word ["thing"] spWord := by
  refine (T.F_is_word).ok sc_is_word (fun vs H Q E h => ?_) (fun cdv A outer s H vs Q E hr h => ?_)
  · obtain ⟨v, kk, rfl, _⟩ := h
    rfl
  · obtain ⟨v, kk, rfl, hk, q⟩ := h
    refine ⟨_, (pss_cons (ps_if (PW.pt (pw_or (pt_not (pt_val (pe_callB call_isk (by rfl) T.n_isinstance (by decide +kernel) (pa_cons (pv 0) (pa_cons (pe_bltn (by rfl) T.n_str (by decide +kernel) (v := .ty "str") rfl) pa_nil))))) (pw_or1 (pt_cmpR op_gt (pe_callB call_len_str (by rfl) T.n_len PySem.boot_len (pa_cons (pv 0) pa_nil)) (pe_glob (v := .int 8) (by rfl) T.c_MOST_LETTERS ⟨_, rfl⟩) (nomark _))))) (pss_one (ps_ret pe_bl)) pss_nil) (pss_one (ps_ret (pe_and (pe_m0 PySem.F.slot_str_isascii PySem.F.type_str_isascii mt_isascii (pv 0)) (pe_and (pe_m0 PySem.F.slot_str_isalpha PySem.F.type_str_isalpha mt_isalpha (pv 0)) (pe_one (pe_m0 PySem.F.slot_str_islower PySem.F.type_str_islower mt_islower (pv 0)))))))), ?_⟩
    have hk' := hk
    refine ⟨_, rfl, _, "str", kk, rfl, .inr (.inr (.inl rfl)), hk, _, rfl, ?_⟩
    cases hk' <;> first | exact q | skip
    rename_i z hz
    refine ⟨_, rfl, _, rfl, Nat.le_of_lt (small1000 hz.1), _, _, rfl, rfl, _, rfl, ite2 (fun h1 => ?_) (fun h1 => ?_)⟩
    · have e : mWord (.str z) = false := by
        show (decide (z.length ≤ 8) && _) = _
        have h2 : ¬ z.length ≤ 8 := by
          have := of_decide_eq_true h1
          omega
        rw [decide_eq_false h2, Bool.false_and]
      rw [e] at q
      exact q
    · have h2 : z.length ≤ 8 := by
        have := of_decide_eq_false (Bool.eq_false_iff.mpr h1)
        omega
      have e : mWord (.str z) = (Txt.isascii z && (Txt.isalpha z && Txt.islower z)) := by
        rw [az_word]
        show (decide (z.length ≤ 8) && _) = _
        rw [decide_eq_true h2, Bool.true_and]
      rw [e] at q
      refine ⟨_, rfl, ⟨_, rfl⟩, _, rfl, rfl, trivial, _, rfl, ?_⟩
      cases ha : Txt.isascii z
      · rw [ha] at q
        exact q
      · rw [ha] at q
        refine ⟨_, rfl, ⟨_, rfl⟩, _, rfl, rfl, trivial, _, rfl, ?_⟩
        cases hb : Txt.isalpha z
        · rw [hb] at q
          exact q
        · rw [hb] at q
          exact ⟨_, rfl, ⟨_, rfl⟩, _, rfl, rfl, trivial, q⟩

def mName (v : V) : Bool := mWord v && !decide (v = .str "key")
def spName : Sp := fun vs H Q _ => ∃ (v : V) (k : String), vs = [v] ∧ Knd H v k ∧ Q (.bl (mName v)) H
theorem mWord_str {v : V} (h : mWord v = true) : ∃ z, v = .str z := by
  cases v <;> first | exact ⟨_, rfl⟩ | cases h
theorem ok_is_name {k : Nat} (T : Txt K mg) : FnOk P w K mg base CX0 (k + 2) T.f_is_name T.d_is_name ["thing"] spName := by
  refine (T.F_is_name).ok sc_is_name (fun vs H Q E h => ?_) (fun cdv A outer s H vs Q E hr h => ?_)
  · obtain ⟨v, kk, rfl, _⟩ := h
    rfl
  · obtain ⟨v, kk, rfl, hk, q⟩ := h
    refine ⟨_, (pss_one (ps_ret (pe_and (pe_call (ok_is_word T) hr (by rfl) T.g_is_word T.F_is_word.kp T.b_is_word .nil pass0 (pa_cons (pv 0) pa_nil)) (pe_one (pe_cmpR op_ne (pv 0) pe_str (nomark _)))))), ?_⟩
    refine ⟨_, rfl, v, kk, rfl, hk, _, rfl, ite2 (fun h1 => ?_) (fun h1 => ?_)⟩
    · obtain ⟨z, rfl⟩ := mWord_str h1
      refine ⟨_, rfl, rfl, ?_⟩
      unfold mName at q
      rw [h1, Bool.true_and] at q
      exact q
    · unfold mName at q
      rw [Bool.eq_false_iff.mpr h1, Bool.false_and] at q
      exact q

def mValue (v : V) : Bool := mWord v || mWhole (-1000000000) 1000000000 v
def spValue : Sp := fun vs H Q _ => ∃ (v : V) (k : String), vs = [v] ∧ Knd H v k ∧ Q (.bl (mValue v)) H
theorem ok_is_value {k : Nat} (T : Txt K mg) : FnOk P w K mg base CX0 (k + 2) T.f_is_value T.d_is_value ["thing"] spValue := by
  refine (T.F_is_value).ok sc_is_value (fun vs H Q E h => ?_) (fun cdv A outer s H vs Q E hr h => ?_)
  · obtain ⟨v, kk, rfl, _⟩ := h
    rfl
  · obtain ⟨v, kk, rfl, hk, q⟩ := h
    refine ⟨_, (pss_one (ps_ret (pe_or (pe_call (ok_is_word T) hr (by rfl) T.g_is_word T.F_is_word.kp T.b_is_word .nil pass0 (pa_cons (pv 0) pa_nil)) (pe_one (pe_call (ok_is_whole T) hr (by rfl) T.g_is_whole T.F_is_whole.kp T.b_is_whole .nil pass0 (pa_cons (pv 0) (pa_cons (pe_un un_neg (pe_glob (v := .int 1000000000) (by rfl) T.c_MOST_VALUE ⟨_, rfl⟩)) (pa_cons (pe_glob (v := .int 1000000000) (by rfl) T.c_MOST_VALUE ⟨_, rfl⟩) pa_nil)))))))), ?_⟩
    unfold mValue at q
    refine ⟨_, rfl, v, kk, rfl, hk, _, rfl, ite2 (fun h1 => ?_) (fun h1 => ?_)⟩
    · rw [h1, Bool.true_or] at q
      exact q
    · rw [Bool.eq_false_iff.mpr h1, Bool.false_or] at q
      exact ⟨_, rfl, _, rfl, v, kk, _, _, rfl, hk, q⟩

def spHand : Sp := fun vs H Q _ => ∃ (v : V) (k : String), vs = [v] ∧ Knd H v k ∧ Q (.bl (mWhole 0 7 v)) H
theorem ok_is_hand {k : Nat} (T : Txt K mg) : FnOk P w K mg base CX0 (k + 2) T.f_is_hand T.d_is_hand ["thing"] spHand := by
  refine (T.F_is_hand).ok sc_is_hand (fun vs H Q E h => ?_) (fun cdv A outer s H vs Q E hr h => ?_)
  · obtain ⟨v, kk, rfl, _⟩ := h
    rfl
  · obtain ⟨v, kk, rfl, hk, q⟩ := h
    refine ⟨_, (pss_one (ps_ret (pe_call (ok_is_whole T) hr (by rfl) T.g_is_whole T.F_is_whole.kp T.b_is_whole .nil pass0 (pa_cons (pv 0) (pa_cons pe_int (pa_cons (pe_glob (v := .int 7) (by rfl) T.c_MOST_HAND ⟨_, rfl⟩) pa_nil)))))), ?_⟩
    exact ⟨_, rfl, v, kk, _, _, rfl, hk, q⟩

def mId3 : List V → Bool
  | [a, b, c] => mWhole 0 7 a && (mName b && mWhole 0 1000000 c)
  | _ => false
def mId (H : Hp) : V → Bool
  | .ref a => match H a with
    | some (.tup xs) => mId3 xs
    | _ => false
  | _ => false
theorem mId_flat {H : Hp} {v : V} {k : String} (h : Knd H v k) (hk : k ≠ "tuple") : mId H v = false := by
  cases h with
  | lst e => unfold mId; simp only [e]
  | dK e => unfold mId; simp only [e]
  | tup e => exact absurd rfl hk
  | _ => rfl
theorem mId_tup {H : Hp} {a : Addr} {xs : List V} (e : H a = some (.tup xs)) : mId H (.ref a) = mId3 xs := by
  unfold mId; simp only [e]
theorem mId3_len {xs : List V} (h : xs.length ≠ 3) : mId3 xs = false := by
  unfold mId3
  split
  · exact absurd rfl h
  · rfl
def spId : Sp := fun vs H Q _ => ∃ (v : V) (p : Addr), vs = [v] ∧ Thing p H v ∧ Q (.bl (mId H v)) H
theorem ok_is_id {k : Nat} (T : Txt K mg) : FnOk P w K mg base CX0 (k + 3) T.f_is_id T.d_is_id ["thing"] spId := by
  refine (T.F_is_id).ok sc_is_id (fun vs H Q E h => ?_) (fun cdv A outer s H vs Q E hr h => ?_)
  · obtain ⟨v, p, rfl, _⟩ := h
    rfl
  · obtain ⟨v, p, rfl, ht, q⟩ := h
    refine ⟨_, (pss_cons (ps_if (PW.pt (pw_or (pt_not (pt_val (pe_callB call_isk (by rfl) T.n_isinstance (by decide +kernel) (pa_cons (pv 0) (pa_cons (pe_bltn (by rfl) T.n_tuple (by decide +kernel) (v := .ty "tuple") rfl) pa_nil))))) (pw_or1 (pt_cmpR op_ne (pe_callB call_len_seq (by rfl) T.n_len PySem.boot_len (pa_cons (pv 0) pa_nil)) pe_int (nomark _))))) (pss_one (ps_ret pe_bl)) pss_nil) (pss_cons (ps_asg (pv 0) (pg_tup (by rfl) (pgs_cons (pg_name (i := 1) sc_is_id.nd rfl (Or.inl rfl)) (pgs_cons (pg_name (i := 2) sc_is_id.nd rfl (Or.inl rfl)) (pgs_cons (pg_name (i := 3) sc_is_id.nd rfl (Or.inl rfl)) pgs_nil))))) (pss_one (ps_ret (pe_and (pe_call (ok_is_hand T) hr (by rfl) T.g_is_hand T.F_is_hand.kp T.b_is_hand .nil pass0 (pa_cons (pv 1) pa_nil)) (pe_and (pe_call (ok_is_name T) hr (by rfl) T.g_is_name T.F_is_name.kp T.b_is_name .nil pass0 (pa_cons (pv 2) pa_nil)) (pe_one (pe_call (ok_is_whole T) hr (by rfl) T.g_is_whole T.F_is_whole.kp T.b_is_whole .nil pass0 (pa_cons (pv 3) (pa_cons pe_int (pa_cons (pe_glob (v := .int 1000000) (by rfl) T.c_MOST_NUMBER ⟨_, rfl⟩) pa_nil))))))))))), ?_⟩
    cases ht with
    | flat hk hn hp =>
      rw [mId_flat hk hn] at q
      have hk' := hk
      refine ⟨_, rfl, _, "tuple", _, rfl, .inr (.inr (.inr (.inl rfl))), hk, _, rfl, ?_⟩
      cases hk' <;> first | exact q | exact absurd rfl hn
    | @tup a xs e hx hp =>
      rw [mId_tup e] at q
      refine ⟨_, rfl, _, "tuple", _, rfl, .inr (.inr (.inr (.inl rfl))), .tup e, _, rfl, ?_⟩
      have hS : SqT K H a xs := .inl (.inl e)
      refine ⟨_, rfl, a, xs, rfl, .inr hS, rfl, _, rfl, ite2 (fun h1 => ?_) (fun h1 => ?_)⟩
      · have h2 : xs.length ≠ 3 := by
          intro z
          rw [z] at h1
          exact absurd h1 (by decide)
        rw [mId3_len h2] at q
        exact q
      · have h2 : xs.length = 3 := by
          have h3 := of_decide_eq_true (show decide (V.int (xs.length : Int) = V.int 3) = true by simpa using h1)
          have h4 := V.int.inj h3
          omega
        match xs, h2 with
        | [x, y, z], _ =>
          obtain ⟨⟨kx, gx⟩, _⟩ := hx x (by simp)
          obtain ⟨⟨ky, gy⟩, _⟩ := hx y (by simp)
          obtain ⟨⟨kz, gz⟩, _⟩ := hx z (by simp)
          change Q (.bl (mWhole 0 7 x && (mName y && mWhole 0 1000000 z))) H at q
          refine ⟨_, rfl, a, _, rfl, hS, rfl, _, _, rfl, _, _, rfl, _, _, rfl, rfl, ?_⟩
          refine ⟨_, rfl, x, kx, rfl, gx, _, rfl, ite2 (fun h1 => ?_) (fun h1 => ?_)⟩
          · refine ⟨_, rfl, y, ky, rfl, gy, _, rfl, ite2 (fun h2 => ?_) (fun h2 => ?_)⟩
            · refine ⟨_, rfl, z, kz, _, _, rfl, gz, ?_⟩
              rw [h1, h2] at q
              exact q
            · rw [h1, Bool.eq_false_iff.mpr h2] at q
              exact q
          · rw [Bool.eq_false_iff.mpr h1] at q
            exact q
end
end K02
namespace K02
open PySem PySem.Spec PyProof.Rows L2 Pr
section
variable {P : Program} {w : World} {K : PySem.W.Frag} {mg : Str → Option Value} {base : Heap}
theorem ok__law_take {k : Nat} (T : Txt K mg) : FnOk P w K mg base CX0 (k + 1) T.f__law_take T.d__law_take ["pot", "many"] spTake := by
  refine (T.F__law_take).ok sc__law_take (fun vs H Q E h => ?_) (fun cdv A outer s H vs Q E hr h => ?_)
  · obtain ⟨p, n, many, rfl, _⟩ := h
    rfl
  · obtain ⟨p, n, many, rfl, hP, hn, hm, hm2, q⟩ := h
    obtain ⟨a, b, c, e, ⟨ha, ha2⟩, ⟨hb, hb2⟩, hc, hc2⟩ := hP
    refine ⟨_, (pss_cons (ps_if (pt_cmpR op_gt (pe_ix ix_list (pv 0) pe_int (fun _ _ => rfl)) pe_int (nomark _)) (pss_cons (ps_set (i := 2) sc__law_take.nd rfl (Or.inl rfl) (pe_op op_mod (pe_ix ix_list (pv 0) pe_int (fun _ _ => rfl)) (pv 1))) (pss_cons (ps_asg (pe_op op_fdivW (pe_ix ix_list (pv 0) pe_int (fun _ _ => rfl)) (pv 1)) (pg_sub (pv 0) pe_int set_list)) (pss_one (ps_ret (pv 2))))) pss_nil) (pss_cons (ps_asg (pe_op op_add (pe_ix ix_list (pv 0) pe_int (fun _ _ => rfl)) pe_int) (pg_sub (pv 0) pe_int set_list)) (pss_cons (ps_set (i := 3) sc__law_take.nd rfl (Or.inl rfl) (pe_op op_mod (pe_op op_pow (pe_op op_add (pe_ix ix_list (pv 0) pe_int (fun _ _ => rfl)) (pe_op op_mul pe_int (pe_ix ix_list (pv 0) pe_int (fun _ _ => rfl)))) pe_int) pe_int)) (pss_cons (ps_set (i := 4) sc__law_take.nd rfl (Or.inl rfl) (pe_op op_mod (pe_op op_pow (pe_op op_add (pe_op op_add (pv 3) (pe_op op_mod (pe_ix ix_list (pv 0) pe_int (fun _ _ => rfl)) pe_int)) (pe_op op_mul pe_int (pe_ix ix_list (pv 0) pe_int (fun _ _ => rfl)))) pe_int) pe_int)) (pss_one (ps_ret (pe_op op_mod (pe_op op_fdivW (pv 4) pe_int) (pv 1)))))))), ?_⟩
    refine ⟨_, rfl, p, _, 0, _, rfl, rfl, SqL.of e, atI_nat (j := 0) rfl, a, 0, rfl, rfl, _, rfl, ite2 (fun h1 => ?_) (fun h1 => ?_)⟩
    · refine ⟨_, rfl, p, _, 0, _, rfl, rfl, SqL.of e, atI_nat (j := 0) rfl, _, rfl, a, many, rfl, rfl, hm, ?_⟩
      refine ⟨_, rfl, p, _, 0, _, rfl, rfl, SqL.of e, atI_nat (j := 0) rfl, _, rfl, a, many, rfl, rfl, wide_div (b := 64) hm (by omega) (by decide) (by decide), ?_⟩
      refine ⟨_, rfl, p, _, 0, 0, rfl, rfl, e, rfl, ?_⟩
      refine ⟨_, rfl, ?_⟩
      refine q _ _ (Int.emod_nonneg _ (by omega)) (Int.emod_lt_of_pos _ hm) ⟨_, b, c, upd_same, ⟨Int.ediv_nonneg ha (by omega), ?_⟩, ⟨hb, hb2⟩, hc, by omega⟩ But.put
      exact Int.lt_of_le_of_lt (Int.ediv_le_self many ha) ha2
    · refine ⟨_, rfl, p, _, 2, _, rfl, rfl, SqL.of e, atI_nat (j := 2) rfl, c, 1, rfl, rfl, ?_⟩
      refine ⟨_, rfl, p, _, 2, 2, rfl, rfl, e, rfl, ?_⟩
      have e2 : upd H p (.lst [.int a, .int b, .int (c + 1)]) p = some (.lst [.int a, .int b, .int (c + 1)]) := upd_same
      refine ⟨_, rfl, p, _, 1, _, rfl, rfl, SqL.of e2, atI_nat (j := 1) rfl, _, rfl, p, _, 2, _, rfl, rfl, SqL.of e2, atI_nat (j := 2) rfl, _, _, rfl, rfl, .inl ⟨by decide, by decide⟩, _, _, rfl, rfl, _, _, rfl, rfl, ⟨by decide, by decide, ?_⟩, _, _, rfl, rfl, (by decide : (0 : Int) < 2305843009213693921), ?_⟩
      · omega
      generalize hone : (b + 104729 * (c + 1)) ^ (3 : Int).toNat % 2305843009213693921 = one
      have ho1 : 0 ≤ one := by rw [← hone]; exact Int.emod_nonneg _ (by decide)
      have ho2 : one < 2305843009213693921 := by rw [← hone]; exact Int.emod_lt_of_pos _ (by decide)
      have hr1 : 0 ≤ b % 65537 := Int.emod_nonneg _ (by decide)
      have hr2 : b % 65537 < 65537 := Int.emod_lt_of_pos _ (by decide)
      refine ⟨_, rfl, _, rfl, p, _, 1, _, rfl, rfl, SqL.of e2, atI_nat (j := 1) rfl, _, _, rfl, rfl, (by decide : (0 : Int) < 65537), _, _, rfl, rfl, _, rfl, p, _, 2, _, rfl, rfl, SqL.of e2, atI_nat (j := 2) rfl, _, _, rfl, rfl, .inl ⟨by decide, by decide⟩, _, _, rfl, rfl, _, _, rfl, rfl, ⟨by decide, by decide, ?_⟩, _, _, rfl, rfl, (by decide : (0 : Int) < 2305843009213693907), ?_⟩
      · omega
      refine ⟨_, rfl, _, _, rfl, rfl, ⟨by decide, by decide +kernel⟩, _, rfl, _, _, rfl, rfl, hm, ?_⟩
      exact q _ _ (Int.emod_nonneg _ (by omega)) (Int.emod_lt_of_pos _ hm) ⟨a, b, c + 1, e2, ⟨ha, ha2⟩, ⟨hb, hb2⟩, by omega, by omega⟩ But.put

theorem ok__law_pot {k : Nat} (T : Txt K mg) : FnOk P w K mg base CX0 (k + 1) T.f__law_pot T.d__law_pot ["script", "k"] (spPot K) := by
  refine (T.F__law_pot).ok sc__law_pot (fun vs H Q E h => ?_) (fun cdv A outer s H vs Q E hr h => ?_)
  · obtain ⟨a, ns, kk, rfl, _⟩ := h
    rfl
  · obtain ⟨a, ns, kk, rfl, hS, hk0, hk1, q⟩ := h
    refine ⟨_, (pss_cons (ps_set (i := 2) sc__law_pot.nd rfl (Or.inl rfl) pe_int) (pss_cons (ps_if (pt_cmpR op_lt (pv 1) (pe_callB call_len_seq (by rfl) T.n_len PySem.boot_len (pa_cons (pv 0) pa_nil)) (nomark _)) (pss_one (ps_set (i := 2) sc__law_pot.nd rfl (Or.inl rfl) (pe_op op_mod (pe_callB call_abs (by rfl) T.n_abs (by decide +kernel) (pa_cons (pe_ix ix_list (pv 0) (pv 1) (fun _ _ => rfl)) pa_nil)) (pe_op op_powW (pe_op op_pow pe_int pe_int) pe_int)))) pss_nil) (pss_one (ps_ret (pe_lst (pa_cons (pe_op op_mul (pv 2) (pe_callTy call_int1 (by rfl) T.n_int (by decide +kernel) (pa_cons (pe_cmpR op_ge (pv 2) (pe_op op_pow pe_int pe_int) (nomark _)) pa_nil))) (pa_cons (pe_op op_mod (pe_op op_pow (pe_op op_add (pe_op op_add (pe_op op_mod (pv 2) pe_int) (pe_op op_mul pe_int (pv 1))) pe_int) pe_int) pe_int) (pa_cons pe_int pa_nil)))))))), ?_⟩
    have fin : ∀ cell : Int, 0 ≤ cell → cell < 2 ^ 2000 → ∀ b : Int, 0 ≤ b → b < 2305843009213693951 → ∀ g : Bool, ∀ p, H p = none → Q (.ref p) (upd H p (.lst [.int (cell * if g = true then 1 else 0), .int b, .int 0])) := by
      intro cell h0 h1 b hb0 hb1 g p hp
      refine q p _ hp (Same.new hp) ⟨_, b, 0, upd_same, ?_, ⟨hb0, by omega⟩, by decide, by decide⟩
      cases g
      · rw [if_neg (by decide), Int.mul_zero]
        exact ⟨by decide, lt2000⟩
      · rw [if_pos rfl, Int.mul_one]
        exact ⟨h0, h1⟩
    have rest : ∀ cell : Int, 0 ≤ cell → cell < 2 ^ 2000 → True := fun _ _ _ => trivial
    refine ⟨_, rfl, _, rfl, a, _, rfl, .inl hS, _, _, rfl, rfl, _, rfl, ite2 (fun h1 => ?_) (fun h1 => ?_)⟩
    · have h2 := of_decide_eq_true h1
      obtain ⟨v, hv, hm⟩ := atI_bd hk0 h2
      obtain ⟨i, hi, rfl⟩ := List.mem_map.mp hm
      refine ⟨_, rfl, _, rfl, a, _, kk, _, rfl, rfl, hS, hv, _, rfl, _, _, rfl, rfl, ⟨by decide, by decide, by decide⟩, _, _, rfl, rfl, powW1, _, _, rfl, rfl, big_lt.2, ?_⟩
      have hc0 := Int.emod_nonneg (if i < 0 then -i else i) (Int.ne_of_gt big_lt.2)
      have hc1 := Int.lt_trans (Int.emod_lt_of_pos (if i < 0 then -i else i) big_lt.2) big_lt.1
      refine ⟨_, rfl, _, rfl, _, _, rfl, rfl, ⟨by decide, by decide, by decide⟩, _, _, rfl, rfl, .inr ⟨_, rfl, ?_⟩⟩
      refine ⟨_, _, rfl, rfl, .inr (b01 _), ?_⟩
      refine ⟨_, rfl, _, _, rfl, rfl, (by decide : (0 : Int) < 2147483629), _, rfl, _, _, rfl, rfl, .inl ⟨by decide, by decide⟩, _, _, rfl, rfl, _, _, rfl, rfl, _, _, rfl, rfl, ⟨by decide, by decide, powArg (Int.emod_nonneg _ (by decide)) (Int.emod_lt_of_pos _ (by decide)) hk0 hk1⟩, _, _, rfl, rfl, (by decide : (0 : Int) < 2305843009213693951), ?_⟩
      refine ⟨(by decide : 3 ≤ sizeLine), fun p hp => ?_⟩
      exact fin _ hc0 hc1 _ (Int.emod_nonneg _ (by decide)) (Int.emod_lt_of_pos _ (by decide)) _ p hp
    · refine ⟨_, rfl, _, rfl, _, _, rfl, rfl, ⟨by decide, by decide, by decide⟩, _, _, rfl, rfl, .inr ⟨_, rfl, ?_⟩⟩
      refine ⟨_, _, rfl, rfl, .inr (b01 _), ?_⟩
      refine ⟨_, rfl, _, _, rfl, rfl, (by decide : (0 : Int) < 2147483629), _, rfl, _, _, rfl, rfl, .inl ⟨by decide, by decide⟩, _, _, rfl, rfl, _, _, rfl, rfl, _, _, rfl, rfl, ⟨by decide, by decide, powArg (Int.emod_nonneg _ (by decide)) (Int.emod_lt_of_pos _ (by decide)) hk0 hk1⟩, _, _, rfl, rfl, (by decide : (0 : Int) < 2305843009213693951), ?_⟩
      refine ⟨(by decide : 3 ≤ sizeLine), fun p hp => ?_⟩
      exact fin 0 (by decide) lt2000 _ (Int.emod_nonneg _ (by decide)) (Int.emod_lt_of_pos _ (by decide)) _ p hp
end
end K02
namespace K02
open PySem PySem.Spec PyProof.Rows L2 Pr
section
variable {P : Program} {w : World} {K : PySem.W.Frag} {mg : Str → Option Value} {base : Heap}
def mInt : V → Bool
  | .int _ => true
  | _ => false
def spLWhole : Sp := fun vs H Q _ => ∃ (v : V) (k : String), vs = [v] ∧ Knd H v k ∧ Q (.bl (mInt v)) H
theorem ok__law_whole {k : Nat} (T : Txt K mg) : FnOk P w K mg base CX0 (k + 1) T.f__law_whole T.d__law_whole ["found"] spLWhole := by
  refine (T.F__law_whole).ok sc__law_whole (fun vs H Q E h => ?_) (fun cdv A outer s H vs Q E hr h => ?_)
  · obtain ⟨v, kk, rfl, _⟩ := h
    rfl
  · obtain ⟨v, kk, rfl, hk, q⟩ := h
    refine ⟨_, (pss_one (ps_ret (pe_and (pe_callB call_isk (by rfl) T.n_isinstance (by decide +kernel) (pa_cons (pv 0) (pa_cons (pe_bltn (by rfl) T.n_int (by decide +kernel) (v := .ty "int") rfl) pa_nil))) (pe_one (pe_not (pe_callB call_isk (by rfl) T.n_isinstance (by decide +kernel) (pa_cons (pv 0) (pa_cons (pe_bltn (by rfl) T.n_bool (by decide +kernel) (v := .ty "bool") rfl) pa_nil)))))))), ?_⟩
    have hk' := hk
    refine ⟨_, rfl, _, "int", kk, rfl, .inr (.inl rfl), hk, _, rfl, ?_⟩
    cases hk' <;> first | exact q | exact ⟨_, rfl, _, "bool", _, rfl, .inl rfl, hk, _, rfl, q⟩
/-- draws: the pot goes on by c takes, R of what is told and the heap -/
def spDraw (c : Nat) (R : Addr → Hp → V → Prop) : Sp := fun vs H Q _ => ∃ (p : Addr) (n : Nat), vs = [.ref p] ∧ Pot p n H ∧ n + c < 100000 ∧
  ∀ v H', R p H' v → Pot p (n + c) H' → But p H H' → Q v H'
def isText : Addr → Hp → V → Prop := fun _ _ v => ∃ z : Str, v = .str z ∧ okS z
theorem ok__law_text {k : Nat} (T : Txt K mg) : FnOk P w K mg base CX0 (k + 2) T.f__law_text T.d__law_text ["pot"] (spDraw 20 isText) := by
  refine (T.F__law_text).ok sc__law_text (fun vs H Q E h => ?_) (fun cdv A outer s H vs Q E hr h => ?_)
  · obtain ⟨p, n, rfl, _⟩ := h
    rfl
  · obtain ⟨p, n, rfl, hP, hn, q⟩ := h
    refine ⟨_, (pss_cons (ps_set (i := 1) sc__law_text.nd rfl (Or.inl rfl) (pe_call (ok__law_take T) hr (by rfl) T.g__law_take T.F__law_take.kp T.b__law_take .nil pass0 (pa_cons (pv 0) (pa_cons pe_int pa_nil)))) (pss_cons (ps_set (i := 2) sc__law_text.nd rfl (Or.inl rfl) (pe_join pe_str (pe_lc (own := [("turn", 6)]) (g := gName 6) (tt := tYes) rfl sc__law_text.nd (pi_range1 (by rfl) T.n_range (pa_cons (pv 1) pa_nil)) (blkOk_by (own := [("turn", 6)]) (N := N__law_text) (sc := defScope s__law_text) (by decide +kernel)) (fun _ _ _ _ _ => (pg_name (i := 6) sc__law_text.nd rfl (Or.inl rfl))) (fun _ _ _ _ _ => pts_nil) (fun _ _ _ _ _ => (pe_ix ix_str pe_str (pe_call (ok__law_take T) hr (by rfl) T.g__law_take T.F__law_take.kp T.b__law_take .nil pass0 (pa_cons (pv 0) (pa_cons pe_int pa_nil))) (fun _ _ => rfl)))))) (pss_cons (ps_set (i := 3) sc__law_text.nd rfl (Or.inl rfl) (pe_call (ok__law_take T) hr (by rfl) T.g__law_take T.F__law_take.kp T.b__law_take .nil pass0 (pa_cons (pv 0) (pa_cons pe_int pa_nil)))) (pss_cons (ps_set (i := 4) sc__law_text.nd rfl (Or.inl rfl) (pe_call (ok__law_take T) hr (by rfl) T.g__law_take T.F__law_take.kp T.b__law_take .nil pass0 (pa_cons (pv 0) (pa_cons (pe_op op_add (pv 1) pe_int) pa_nil)))) (pss_cons (ps_set (i := 5) sc__law_text.nd rfl (Or.inl rfl) (pe_ix ix_list (pe_lst (pa_cons pe_str (pa_cons pe_str (pa_cons pe_str (pa_cons pe_str (pa_cons pe_str (pa_cons pe_str (pa_cons pe_str (pa_cons pe_str (pa_cons pe_str (pa_cons pe_str pa_nil))))))))))) (pe_call (ok__law_take T) hr (by rfl) T.g__law_take T.F__law_take.kp T.b__law_take .nil pass0 (pa_cons (pv 0) (pa_cons pe_int pa_nil))) (fun _ _ => rfl))) (pss_cons (ps_if (pt_cmpR op_eq (pv 3) pe_int (nomark _)) (pss_one (ps_ret (pe_op op_add_str (pe_op op_add_str (pe_slice sl_str (pv 2) po_none (po_some (pv 4))) (pv 5)) (pe_slice sl_str (pv 2) (po_some (pe_op op_add (pv 4) pe_int)) po_none)))) pss_nil) (pss_one (ps_ret (pe_ix ix_list (pe_lst (pa_cons (pv 2) (pa_cons (pv 2) (pa_cons (pv 2) (pa_cons (pe_ix ix_list (pe_lst (pa_cons pe_str (pa_cons pe_str (pa_cons pe_str (pa_cons pe_str (pa_cons pe_str pa_nil)))))) (pe_call (ok__law_take T) hr (by rfl) T.g__law_take T.F__law_take.kp T.b__law_take .nil pass0 (pa_cons (pv 0) (pa_cons pe_int pa_nil))) (fun _ _ => rfl)) pa_nil))))) (pe_op op_sub (pv 3) pe_int) (fun _ _ => rfl)))))))))), ?_⟩
    refine ⟨_, rfl, p, n, 10, rfl, hP, by omega, by decide, by decide, fun many H1 m0 m1 P1 B1 => ?_⟩
    refine ⟨⟨_, rfl⟩, _, rfl, many, rfl, by omega, by omega, fun D hD => ?_⟩
    refine lc_range (lo := 0) (n := many.toNat) (fun i H => ∃ ys : List Str, H D = some (.lst (ys.map V.str)) ∧ ys.length = i ∧ (∀ y ∈ ys, y.length = 1 ∧ PyData.strOk y = true) ∧ Pot p (n + 1 + i) H ∧ But p H1 H) ?_ ?_ ?_
    · exact ⟨[], upd_same, rfl, (fun y h => nomatch h), P1.same (Same.new hD), But.of (Same.new hD)⟩
    · intro i H2 hi hv
      obtain ⟨ys, eD, hl, hy, hp, hb⟩ := hv
      refine ⟨rfl, _, rfl, p, n + 1 + i, 26, rfl, hp, by omega, by decide, by decide, fun r H3 r0 r1 P3 B3 => ?_⟩
      obtain ⟨c, hc, hcm⟩ := atI_bdN (xs := azS.cps.toList) r0 (by rw [show azS.cps.toList.length = 26 by decide +kernel]; exact r1)
      have nDp : D ≠ p := hp.ne (H := H2) (q := D) |> fun f => fun z => by
        have := P1.ne hD
        exact this z
      have eD3 : H3 D = some (.lst (ys.map V.str)) := B3 _ _ nDp eD
      refine ⟨azS, r, c, rfl, rfl, by decide, hc, _, eD3, ?_, ys ++ [⟨#[c]⟩], ?_, ?_, ?_, ?_, ?_⟩
      · rw [List.length_map, hl]
        exact small1000 (by omega)
      · rw [upd_same, List.map_append]
        rfl
      · rw [List.length_append, hl]
        rfl
      · intro y hm
        rcases List.mem_append.mp hm with h | h
        · exact hy y h
        · rw [List.mem_singleton.mp h]
          refine ⟨rfl, strOk_iff.mpr fun d hd => ?_⟩
          rw [List.mem_singleton.mp hd]
          exact strOk_iff.mp (by decide +kernel : PyData.strOk azS = true) c hcm
      · obtain ⟨a, b, c, e, r⟩ := P3
        exact ⟨a, b, c, by rw [upd_ne nDp.symm]; exact e, r⟩
      · exact (hb.trans B3).later hD
    · intro H2 hv
      obtain ⟨ys, eD, hl, hy, hp, hb⟩ := hv
      have hlen : (Txt.join "" ys).length ≤ 10 := by
        have h1 := join_le "" ys
        rw [sum_ones ys fun y h => (hy y h).1] at h1
        have h2 : (("" : Str)).length = 0 := rfl
        rw [h2] at h1
        omega
      refine ⟨_, D, ys, rfl, rfl, .inl (SqL.of eD), ?_, ?_⟩
      · rw [sum_ones ys fun y h => (hy y h).1]
        show ys.length + ys.length * 0 ≤ 16777216
        omega
      have hok : PyData.strOk (Txt.join "" ys) = true := strOk_joinT (by decide +kernel) fun y h => (hy y h).2
      generalize Txt.join "" ys = word at hlen hok ⊢
      have hlen2 : ∀ lo hi, (cutS word lo hi).length ≤ 10 := fun lo hi => Nat.le_trans (cutS_length _ _ _) hlen
      refine ⟨_, rfl, p, _, 5, rfl, hp, by omega, by decide, by decide, fun way H3 w0 w1 P3 B3 => ?_⟩
      refine ⟨_, rfl, _, rfl, many, 1, rfl, rfl, p, _, _, rfl, P3, by omega, by omega, by omega, fun at_ H4 a0 a1 P4 B4 => ?_⟩
      refine ⟨by decide, fun L hL => ?_⟩
      have nLp := P4.ne hL
      refine ⟨_, rfl, p, _, 10, rfl, P4.same (Same.new hL), by omega, by decide, by decide, fun r H5 r0 r1 P5 B5 => ?_⟩
      obtain ⟨v, hv, hm⟩ := atI_bd (xs := [.str "A", .str "Z", .str "0", .str " ", .str "_", .str "-", .str ".", .str "\n", .str "`", .str "{"]) r0 (by simpa using r1)
      refine ⟨L, _, r, v, rfl, rfl, SqL.of (B5 _ _ nLp upd_same), hv, ?_⟩
      have hsz : ∃ z : Str, v = .str z ∧ z.length ≤ 10 ∧ PyData.strOk z = true := by
        simp only [List.mem_cons, List.not_mem_nil, or_false] at hm
        rcases hm with rfl | rfl | rfl | rfl | rfl | rfl | rfl | rfl | rfl | rfl <;> exact ⟨_, rfl, by decide, by decide +kernel⟩
      obtain ⟨sg, rfl, hsg, hsg2⟩ := hsz
      have bb : But p H H5 := ((((B1.trans hb).trans B3).trans B4).trans (But.new hL)).trans B5
      refine ⟨_, rfl, rfl, _, rfl, ite2 (fun h1 => ?_) (fun h1 => ?_)⟩
      · refine ⟨_, rfl, _, rfl, _, rfl, _, rfl, Nat.le_of_lt (small1000 (by omega)), _, rfl, _, _, rfl, rfl, ?_, ?_⟩
        · have := hlen2 none (some at_)
          exact Nat.le_of_lt (small1000 (by omega))
        refine ⟨_, rfl, _, rfl, _, _, rfl, rfl, _, rfl, _, rfl, Nat.le_of_lt (small1000 (by omega)), _, _, rfl, rfl, ?_, ?_⟩
        · have h1 := hlen2 none (some at_)
          have h2 := hlen2 (some (at_ + 1)) none
          rw [Str.length_append]
          exact Nat.le_of_lt (small1000 (by omega))
        refine q _ _ ⟨_, rfl, ?_, strOk_append (strOk_append (strOk_cut hok _ _) hsg2) (strOk_cut hok _ _)⟩ (P5.mono (by omega)) bb
        have h1 := hlen2 none (some at_)
        have h2 := hlen2 (some (at_ + 1)) none
        rw [Str.length_append, Str.length_append]
        omega
      · have hw : way ≠ 0 := fun z => h1 (by rw [z]; rfl)
        refine ⟨_, rfl, _, rfl, _, rfl, by decide, fun L2 hL2 => ?_⟩
        have nLp2 := P5.ne hL2
        refine ⟨_, rfl, p, _, 5, rfl, P5.same (Same.new hL2), by omega, by decide, by decide, fun r2 H6 r20 r21 P6 B6 => ?_⟩
        obtain ⟨v, hv, hm⟩ := atI_bd (xs := [.str "key", .str "keys", .str "ke", .str "Key", .str "key "]) r20 (by simpa using r21)
        refine ⟨L2, _, r2, v, rfl, rfl, SqL.of (B6 _ _ nLp2 upd_same), hv, ?_⟩
        have hsz : ∃ z : Str, v = .str z ∧ z.length ≤ 10 ∧ PyData.strOk z = true := by
          simp only [List.mem_cons, List.not_mem_nil, or_false] at hm
          rcases hm with rfl | rfl | rfl | rfl | rfl <;> exact ⟨_, rfl, by decide, by decide +kernel⟩
        obtain ⟨ky, rfl, hky, hky2⟩ := hsz
        refine ⟨(by decide : 4 ≤ sizeLine), fun L3 hL3 => ?_⟩
        obtain ⟨v, hv, hm⟩ := atI_bd (xs := [.str word, .str word, .str word, .str ky]) (r := way - 1) (by omega) (by simp; omega)
        refine ⟨_, rfl, _, _, rfl, rfl, L3, _, way - 1, v, rfl, rfl, SqL.of upd_same, hv, ?_⟩
        have hsz : ∃ z : Str, v = .str z ∧ z.length ≤ 10 ∧ PyData.strOk z = true := by
          simp only [List.mem_cons, List.not_mem_nil, or_false] at hm
          rcases hm with rfl | rfl | rfl | rfl
          · exact ⟨_, rfl, hlen, hok⟩
          · exact ⟨_, rfl, hlen, hok⟩
          · exact ⟨_, rfl, hlen, hok⟩
          · exact ⟨_, rfl, hky, hky2⟩
        obtain ⟨z, rfl, hz, hz2⟩ := hsz
        exact q _ _ ⟨_, rfl, by omega, hz2⟩ ((P6.same (Same.new hL3)).mono (by omega)) (((bb.trans (But.new hL2)).trans B6).trans (But.new hL3))
end
end K02
namespace K02
open PySem PySem.Spec PyProof.Rows L2 Pr
section
variable {P : Program} {w : World} {K : PySem.W.Frag} {mg : Str → Option Value} {base : Heap}
def isNum : Addr → Hp → V → Prop := fun _ _ v => ∃ i : Int, v = .int i
theorem pw {n : Int} (h0 : 0 ≤ n := by decide) (h1 : n ≤ 1000000 := by decide) : CPow 10 n := ⟨h0, h1, by decide⟩
theorem ok__law_number {k : Nat} (T : Txt K mg) : FnOk P w K mg base CX0 (k + 2) T.f__law_number T.d__law_number ["pot"] (spDraw 2 isNum) := by
  refine (T.F__law_number).ok sc__law_number (fun vs H Q E h => ?_) (fun cdv A outer s H vs Q E hr h => ?_)
  · obtain ⟨p, n, rfl, _⟩ := h
    rfl
  · obtain ⟨p, n, rfl, hP, hn, q⟩ := h
    refine ⟨_, (pss_cons (ps_set (i := 1) sc__law_number.nd rfl (Or.inl rfl) (pe_lst (pa_cons (pe_op op_sub (pe_un un_neg (pe_op op_pow pe_int pe_int)) pe_int) (pa_cons (pe_un un_neg (pe_op op_pow pe_int pe_int)) (pa_cons (pe_un un_neg pe_int) (pa_cons pe_int (pa_cons pe_int (pa_cons pe_int (pa_cons pe_int (pa_cons (pe_op op_pow pe_int pe_int) (pa_cons (pe_op op_add (pe_op op_pow pe_int pe_int) pe_int) (pa_cons (pe_op op_pow pe_int pe_int) (pa_cons (pe_op op_add (pe_op op_pow pe_int pe_int) pe_int) (pa_cons (pe_op op_pow pe_int pe_int) pa_nil)))))))))))))) (pss_cons (ps_set (i := 1) sc__law_number.nd rfl (Or.inl rfl) (pe_op op_cat (pv 1) (pe_lst (pa_cons (pe_un un_neg (pe_op op_pow pe_int pe_int)) (pa_cons (pe_op op_sub (pe_call (ok__law_take T) hr (by rfl) T.g__law_take T.F__law_take.kp T.b__law_take .nil pass0 (pa_cons (pv 0) (pa_cons (pe_op op_mul pe_int (pe_op op_pow pe_int pe_int)) pa_nil))) (pe_op op_mul pe_int (pe_op op_pow pe_int pe_int))) pa_nil))))) (pss_one (ps_ret (pe_ix ix_list (pv 1) (pe_call (ok__law_take T) hr (by rfl) T.g__law_take T.F__law_take.kp T.b__law_take .nil pass0 (pa_cons (pv 0) (pa_cons pe_int pa_nil))) (fun _ _ => rfl)))))), ?_⟩
    refine ⟨_, _, rfl, rfl, pw, _, rfl, _, _, rfl, rfl, _, _, rfl, rfl, pw, _, rfl, _, rfl, _, _, rfl, rfl, pw, _, _, rfl, rfl, pw, _, _, rfl, rfl, _, _, rfl, rfl, pw, _, _, rfl, rfl, pw, _, _, rfl, rfl, _, _, rfl, rfl, pw, by decide, fun L hL => ?_⟩
    have nLp := hP.ne hL
    generalize hxs : [V.int _, V.int _, V.int _, V.int 0, V.int 1, V.int 7, V.int 8, V.int _, V.int _, V.int _, V.int _, V.int _] = xs
    have hi : ∀ v ∈ xs, ∃ i : Int, v = .int i := by
      rw [← hxs]
      intro v hm
      simp only [List.mem_cons, List.not_mem_nil, or_false] at hm
      rcases hm with rfl | rfl | rfl | rfl | rfl | rfl | rfl | rfl | rfl | rfl | rfl | rfl <;> exact ⟨_, rfl⟩
    have hlen : xs.length = 12 := by rw [← hxs]; rfl
    have eL : upd H L (.lst xs) L = some (.lst xs) := upd_same
    refine ⟨_, rfl, _, _, rfl, rfl, pw, _, rfl, _, rfl, _, _, rfl, rfl, pw, _, _, rfl, rfl, .inl ⟨by decide, by decide⟩, p, n, _, rfl, hP.same (Same.new hL), by omega, by decide, by decide, fun r H1 r0 r1 P1 B1 => ?_⟩
    refine ⟨_, _, rfl, rfl, pw, _, _, rfl, rfl, .inl ⟨by decide, by decide⟩, _, _, rfl, rfl, (by decide : 2 ≤ sizeLine), fun L2 hL2 => ?_⟩
    have eL1 : H1 L = some (.lst xs) := B1 _ _ nLp eL
    have eL2 : upd H1 L2 (.lst [V.int (-10 ^ Int.toNat 39), V.int (r - 2 * 10 ^ Int.toNat 9)]) L = some (.lst xs) := Same.new hL2 _ _ eL1
    refine ⟨L, L2, xs, _, rfl, rfl, eL2, upd_same, ?_, fun L3 hL3 => ?_⟩
    · rw [hlen]
      exact (by decide : 14 ≤ sizeLine)
    have nL2 := P1.ne hL2
    have P3 := (P1.same (Same.new (o := .lst [V.int (-10 ^ Int.toNat 39), V.int (r - 2 * 10 ^ Int.toNat 9)]) hL2))
    have nL3 := P3.ne hL3
    refine ⟨_, rfl, _, rfl, p, _, 14, rfl, P3.same (Same.new hL3), by omega, by decide, by decide, fun r2 H4 r20 r21 P4 B4 => ?_⟩
    obtain ⟨v, hv, hm⟩ := atI_bd (xs := xs ++ [V.int (-10 ^ Int.toNat 39), V.int (r - 2 * 10 ^ Int.toNat 9)]) r20 (by rw [List.length_append, hlen]; exact r21)
    refine ⟨L3, _, r2, v, rfl, rfl, SqL.of (B4 _ _ nL3 upd_same), hv, ?_⟩
    refine q _ _ ?_ (P4.mono (by omega)) ((((But.new hL).trans B1).trans (But.new hL2)).trans (But.new hL3) |>.trans B4)
    rcases List.mem_append.mp hm with h | h
    · exact hi v h
    · simp only [List.mem_cons, List.not_mem_nil, or_false] at h
      rcases h with rfl | rfl <;> exact ⟨_, rfl⟩
theorem ok__law_odd {k : Nat} (T : Txt K mg) : FnOk P w K mg base CX0 (k + 2) T.f__law_odd T.d__law_odd ["pot"] (spDraw 1 Thing) := by
  refine (T.F__law_odd).ok sc__law_odd (fun vs H Q E h => ?_) (fun cdv A outer s H vs Q E hr h => ?_)
  · obtain ⟨p, n, rfl, _⟩ := h
    rfl
  · obtain ⟨p, n, rfl, hP, hn, q⟩ := h
    refine ⟨_, (pss_cons (ps_set (i := 1) sc__law_odd.nd rfl (Or.inl rfl) (pe_lst (pa_cons pe_non (pa_cons pe_bl (pa_cons pe_bl (pa_cons (pe_tup pa_nil) (pa_cons (pe_lst pa_nil) (pa_cons pe_dnewK (pa_cons (pe_tup (pa_cons pe_str pa_nil)) (pa_cons (pe_lst (pa_cons pe_str pa_nil)) (pa_cons (pe_lst (pa_cons pe_int pa_nil)) (pa_cons (pe_disp (pps_cons pe_str pe_int pps_nil) (by rfl) (by rfl) (fun z => by cases z) (by decide)) (pa_cons (pe_tup (pa_cons pe_int pa_nil)) (pa_cons (pe_tup (pa_cons (pe_tup pa_nil) pa_nil)) pa_nil)))))))))))))) (pss_one (ps_ret (pe_ix ix_list (pv 1) (pe_call (ok__law_take T) hr (by rfl) T.g__law_take T.F__law_take.kp T.b__law_take .nil pass0 (pa_cons (pv 0) (pa_cons pe_int pa_nil))) (fun _ _ => rfl))))), ?_⟩
    refine ⟨by decide, fun a1 n1 => ?_⟩
    obtain ⟨H1, h1, s1, e1⟩ := alloc (.tup []) n1
    rw [h1]
    refine ⟨by decide, fun a2 n2 => ?_⟩
    obtain ⟨H2, h2, s2, e2⟩ := alloc (.lst []) n2
    rw [h2]
    refine fun a3 n3 => ?_
    obtain ⟨H3, h3, s3, e3⟩ := alloc (.dK []) n3
    rw [h3]
    refine ⟨by decide, fun a4 n4 => ?_⟩
    obtain ⟨H4, h4, s4, e4⟩ := alloc (.tup [V.str (Str.ofString "a")]) n4
    rw [h4]
    refine ⟨by decide, fun a5 n5 => ?_⟩
    obtain ⟨H5, h5, s5, e5⟩ := alloc (.lst [V.str (Str.ofString "a")]) n5
    rw [h5]
    refine ⟨by decide, fun a6 n6 => ?_⟩
    obtain ⟨H6, h6, s6, e6⟩ := alloc (.lst [V.int 0]) n6
    rw [h6]
    refine fun a7 n7 => ⟨upd_same, [(.inr "a", .int 0)], rfl, by decide, ?_⟩
    rw [upd_upd]
    obtain ⟨H7, h7, s7, e7⟩ := alloc (.dK (mergeK [] [(.inr "a", .int 0)])) n7
    rw [h7]
    refine ⟨by decide, fun a8 n8 => ?_⟩
    obtain ⟨H8, h8, s8, e8⟩ := alloc (.tup [V.int 0]) n8
    rw [h8]
    refine ⟨by decide, fun a9 n9 => ?_⟩
    obtain ⟨H9, h9, s9, e9⟩ := alloc (.tup []) n9
    rw [h9]
    refine ⟨(by decide : 1 ≤ sizeLine), fun a10 n10 => ?_⟩
    obtain ⟨H10, h10, s10, e10⟩ := alloc (.tup [V.ref a9]) n10
    rw [h10]
    refine ⟨(by decide : 12 ≤ sizeLine), fun L hL => ?_⟩
    obtain ⟨HL, h11, sL, eL⟩ := alloc (.lst [.non, .bl true, .bl false, .ref a1, .ref a2, .ref a3, .ref a4, .ref a5, .ref a6, .ref a7, .ref a8, .ref a10]) hL
    rw [h11]
    have t10 := sL
    have t9 := s10.trans t10
    have t8 := s9.trans t9
    have t7 := s8.trans t8
    have t6 := s7.trans t7
    have t5 := s6.trans t6
    have t4 := s5.trans t5
    have t3 := s4.trans t4
    have t2 := s3.trans t3
    have t1 := s2.trans t2
    have t0 := s1.trans t1
    have nn : ∀ (q : Addr) (G : Hp), Same H G → G q = none → q ≠ p := fun q G sg hg => (hP.same sg).ne hg
    have m1 := nn _ _ (.refl _) n1
    have m2 := nn _ _ s1 n2
    have m3 := nn _ _ (s1.trans s2) n3
    have m4 := nn _ _ ((s1.trans s2).trans s3) n4
    have m5 := nn _ _ (((s1.trans s2).trans s3).trans s4) n5
    have m6 := nn _ _ ((((s1.trans s2).trans s3).trans s4).trans s5) n6
    have m7 := nn _ _ (((((s1.trans s2).trans s3).trans s4).trans s5).trans s6) n7
    have m8 := nn _ _ ((((((s1.trans s2).trans s3).trans s4).trans s5).trans s6).trans s7) n8
    have m9 := nn _ _ (((((((s1.trans s2).trans s3).trans s4).trans s5).trans s6).trans s7).trans s8) n9
    have m10 := nn _ _ ((((((((s1.trans s2).trans s3).trans s4).trans s5).trans s6).trans s7).trans s8).trans s9) n10
    have mL := nn _ _ (((((((((s1.trans s2).trans s3).trans s4).trans s5).trans s6).trans s7).trans s8).trans s9).trans s10) hL
    have nr : ∀ {q : Addr}, q ≠ p → V.ref q ≠ V.ref p := fun h z => h (V.ref.inj z)
    refine ⟨_, rfl, _, rfl, p, _, 12, rfl, hP.same t0, by omega, by decide, by decide, fun r G r0 r1 P1 B1 => ?_⟩
    obtain ⟨v, hv, hm⟩ := atI_bd (xs := [.non, .bl true, .bl false, .ref a1, .ref a2, .ref a3, .ref a4, .ref a5, .ref a6, .ref a7, .ref a8, .ref a10]) r0 r1
    refine ⟨L, _, r, v, rfl, rfl, SqL.of (B1 _ _ mL eL), hv, ?_⟩
    refine q _ _ ?_ P1 ((But.of t0).trans B1)
    refine Thing.but ?_ B1
    simp only [List.mem_cons, List.not_mem_nil, or_false] at hm
    rcases hm with rfl | rfl | rfl | rfl | rfl | rfl | rfl | rfl | rfl | rfl | rfl | rfl
    · exact .flat .non (by decide) (fun z => by cases z)
    · exact .flat (.bl _) (by decide) (fun z => by cases z)
    · exact .flat (.bl _) (by decide) (fun z => by cases z)
    · exact .tup (t1 _ _ e1) (fun x h => nomatch h) m1
    · exact .flat (.lst (t2 _ _ e2)) (by decide) (nr m2)
    · exact .flat (.dK (t3 _ _ e3)) (by decide) (nr m3)
    · exact .tup (t4 _ _ e4) (fun x h => by rw [List.mem_singleton.mp h]; exact .str ⟨by decide, by decide +kernel⟩) m4
    · exact .flat (.lst (t5 _ _ e5)) (by decide) (nr m5)
    · exact .flat (.lst (t6 _ _ e6)) (by decide) (nr m6)
    · exact .flat (.dK (t7 _ _ e7)) (by decide) (nr m7)
    · exact .tup (t8 _ _ e8) (fun x h => by rw [List.mem_singleton.mp h]; exact .int 0) m8
    · exact .tup (t10 _ _ e10) (fun x h => by rw [List.mem_singleton.mp h]; exact ⟨⟨_, .tup (t9 _ _ e9)⟩, nr m9⟩) m10
end
end K02
namespace K02
open PySem PySem.Spec PyProof.Rows L2 Pr
section
variable {P : Program} {w : World} {K : PySem.W.Frag} {mg : Str → Option Value} {base : Heap}
theorem ok__law_any {k : Nat} (T : Txt K mg) : FnOk P w K mg base CX0 (k + 3) T.f__law_any T.d__law_any ["pot"] (spDraw 24 Thing) := by
  refine (T.F__law_any).ok sc__law_any (fun vs H Q E h => ?_) (fun cdv A outer s H vs Q E hr h => ?_)
  · obtain ⟨p, n, rfl, _⟩ := h
    rfl
  · obtain ⟨p, n, rfl, hP, hn, q⟩ := h
    refine ⟨_, (pss_one (ps_ret (pe_ix ix_list (pe_lst (pa_cons (pe_call (ok__law_text T) hr (by rfl) T.g__law_text T.F__law_text.kp T.b__law_text .nil pass0 (pa_cons (pv 0) pa_nil)) (pa_cons (pe_call (ok__law_number T) hr (by rfl) T.g__law_number T.F__law_number.kp T.b__law_number .nil pass0 (pa_cons (pv 0) pa_nil)) (pa_cons (pe_call (ok__law_odd T) hr (by rfl) T.g__law_odd T.F__law_odd.kp T.b__law_odd .nil pass0 (pa_cons (pv 0) pa_nil)) pa_nil)))) (pe_ix ix_list (pe_lst (pa_cons pe_int (pa_cons pe_int (pa_cons pe_int (pa_cons pe_int (pa_cons pe_int pa_nil)))))) (pe_call (ok__law_take T) hr (by rfl) T.g__law_take T.F__law_take.kp T.b__law_take .nil pass0 (pa_cons (pv 0) (pa_cons pe_int pa_nil))) (fun _ _ => rfl)) (fun _ _ => rfl)))), ?_⟩
    refine ⟨_, rfl, p, n, rfl, hP, by omega, fun v1 H1 ⟨z, ez, hz⟩ P1 B1 => ?_⟩
    refine ⟨_, rfl, p, _, rfl, P1, by omega, fun v2 H2 ⟨i, ei⟩ P2 B2 => ?_⟩
    refine ⟨_, rfl, p, _, rfl, P2, by omega, fun v3 H3 R3 P3 B3 => ?_⟩
    subst ez ei
    refine ⟨(by decide : 3 ≤ sizeLine), fun L hL => ?_⟩
    have nL := P3.ne hL
    obtain ⟨HL, hH, sL, eL⟩ := alloc (.lst [.str z, .int i, v3]) hL
    rw [hH]
    have PL := P3.same sL
    refine ⟨by decide, fun L2 hL2 => ?_⟩
    have nL2 := PL.ne hL2
    obtain ⟨HL2, hH2, sL2, eL2⟩ := alloc (.lst [.int 0, .int 0, .int 1, .int 1, .int 2]) hL2
    rw [hH2]
    have PL2 := PL.same sL2
    refine ⟨_, rfl, p, _, 5, rfl, PL2, by omega, by decide, by decide, fun r H4 r0 r1 P4 B4 => ?_⟩
    obtain ⟨u, hu, hm⟩ := atI_bd (xs := [.int 0, .int 0, .int 1, .int 1, .int 2]) r0 r1
    refine ⟨L2, _, r, u, rfl, rfl, SqL.of (B4 _ _ nL2 eL2), hu, ?_⟩
    have hj : ∃ j : Int, u = .int j ∧ 0 ≤ j ∧ j < 3 := by
      simp only [List.mem_cons, List.not_mem_nil, or_false] at hm
      rcases hm with rfl | rfl | rfl | rfl | rfl <;> exact ⟨_, rfl, by decide, by decide⟩
    obtain ⟨j, rfl, j0, j1⟩ := hj
    obtain ⟨v, hv, hm2⟩ := atI_bd (xs := [.str z, .int i, v3]) j0 j1
    refine ⟨L, _, j, v, rfl, rfl, SqL.of (B4 _ _ nL (sL2 _ _ eL)), hv, ?_⟩
    refine q _ _ ?_ (P4.mono (by omega)) (((((B1.trans B2).trans B3).trans (But.of sL)).trans (But.of sL2)).trans B4)
    simp only [List.mem_cons, List.not_mem_nil, or_false] at hm2
    rcases hm2 with rfl | rfl | rfl
    · exact .str hz
    · exact .int i
    · exact R3.but (((But.of sL).trans (But.of sL2)).trans B4)
theorem ok__law_an_id {k : Nat} (T : Txt K mg) : FnOk P w K mg base CX0 (k + 4) T.f__law_an_id T.d__law_an_id ["pot"] (spDraw 30 Thing) := by
  refine (T.F__law_an_id).ok sc__law_an_id (fun vs H Q E h => ?_) (fun cdv A outer s H vs Q E hr h => ?_)
  · obtain ⟨p, n, rfl, _⟩ := h
    rfl
  · obtain ⟨p, n, rfl, hP, hn, q⟩ := h
    refine ⟨_, (pss_cons (ps_set (i := 1) sc__law_an_id.nd rfl (Or.inl rfl) (pe_lst (pa_cons (pe_call (ok__law_take T) hr (by rfl) T.g__law_take T.F__law_take.kp T.b__law_take .nil pass0 (pa_cons (pv 0) (pa_cons pe_int pa_nil))) (pa_cons (pe_slice sl_str pe_str po_none (po_some (pe_op op_add pe_int (pe_call (ok__law_take T) hr (by rfl) T.g__law_take T.F__law_take.kp T.b__law_take .nil pass0 (pa_cons (pv 0) (pa_cons pe_int pa_nil)))))) (pa_cons (pe_call (ok__law_take T) hr (by rfl) T.g__law_take T.F__law_take.kp T.b__law_take .nil pass0 (pa_cons (pv 0) (pa_cons (pe_op op_add (pe_op op_pow pe_int pe_int) pe_int) pa_nil))) pa_nil))))) (pss_cons (ps_set (i := 2) sc__law_an_id.nd rfl (Or.inl rfl) (pe_call (ok__law_take T) hr (by rfl) T.g__law_take T.F__law_take.kp T.b__law_take .nil pass0 (pa_cons (pv 0) (pa_cons pe_int pa_nil)))) (pss_cons (ps_if (pt_cmpR op_lt (pv 2) pe_int (nomark _)) (pss_one (ps_asg (pe_call (ok__law_any T) hr (by rfl) T.g__law_any T.F__law_any.kp T.b__law_any .nil pass0 (pa_cons (pv 0) pa_nil)) (pg_sub (pv 1) (pv 2) set_list))) pss_nil) (pss_one (ps_ret (pe_ix ix_list (pe_lst (pa_cons (pe_callTy call_tuple_of (by rfl) T.n_tuple (by decide +kernel) (pa_cons (pv 1) pa_nil)) (pa_cons (pe_callTy call_tuple_of (by rfl) T.n_tuple (by decide +kernel) (pa_cons (pv 1) pa_nil)) (pa_cons (pe_callTy call_tuple_of (by rfl) T.n_tuple (by decide +kernel) (pa_cons (pv 1) pa_nil)) (pa_cons (pe_callTy call_tuple_of (by rfl) T.n_tuple (by decide +kernel) (pa_cons (pe_op op_cat (pv 1) (pe_lst (pa_cons pe_int pa_nil))) pa_nil)) (pa_cons (pe_callTy call_tuple_of (by rfl) T.n_tuple (by decide +kernel) (pa_cons (pe_slice sl_list (pv 1) po_none (po_some pe_int)) pa_nil)) (pa_cons (pv 1) pa_nil))))))) (pe_call (ok__law_take T) hr (by rfl) T.g__law_take T.F__law_take.kp T.b__law_take .nil pass0 (pa_cons (pv 0) (pa_cons pe_int pa_nil))) (fun _ _ => rfl))))))), ?_⟩
    refine ⟨_, rfl, p, n, 8, rfl, hP, by omega, by decide, by decide, fun c1 H1 c10 c11 P1 B1 => ?_⟩
    refine ⟨_, rfl, p, _, 8, rfl, P1, by omega, by decide, by decide, fun c2 H2 c20 c21 P2 B2 => ?_⟩
    refine ⟨_, _, rfl, rfl, _, rfl, _, rfl, by decide, ?_⟩
    have hz : okS (cutS "abcdefgh" none (some (1 + c2))) := ⟨Nat.le_trans (cutS_length _ _ _) (by decide), strOk_cut (by decide +kernel) _ _⟩
    generalize cutS "abcdefgh" none (some (1 + c2)) = z at hz ⊢
    refine ⟨_, rfl, _, _, rfl, rfl, pw, _, _, rfl, rfl, p, _, _, rfl, P2, by omega, by decide, by decide, fun c3 H3 c30 c31 P3 B3 => ?_⟩
    refine ⟨(by decide : 3 ≤ sizeLine), fun L hL => ?_⟩
    have nL := P3.ne hL
    have B03 := (B1.trans B2).trans B3
    have hL0 : H L = none := by
      cases e : H L with
      | none => rfl
      | some o =>
        have := B03 _ _ nL e
        rw [hL] at this
        cases this
    obtain ⟨HL, hH, sL, eL⟩ := alloc (.lst [.int c1, .str z, .int c3]) hL
    rw [hH]
    have PL := P3.same sL
    refine ⟨_, rfl, p, _, 6, rfl, PL, by omega, by decide, by decide, fun way H4 w0 w1 P4 B4 => ?_⟩
    have eL4 := B4 _ _ nL eL
    have B04 := (B03.trans (But.of sL)).trans B4
    have c0 : ∀ x ∈ [V.int c1, .str z, .int c3], El p H4 x := by
      intro x hx
      simp only [List.mem_cons, List.not_mem_nil, or_false] at hx
      rcases hx with rfl | rfl | rfl
      · exact .int c1
      · exact .str hz
      · exact .int c3
    refine ⟨_, rfl, way, 3, rfl, rfl, _, rfl, ite2 (fun h1 => ?_) (fun h1 => ?_)⟩
    · have hw : way < 3 := of_decide_eq_true h1
      refine ⟨_, rfl, p, _, rfl, P4, by omega, fun v H5 R5 P5 B5 => ?_⟩
      have eL5 := B5 _ _ nL eL4
      obtain ⟨j, hj⟩ : ∃ j : Nat, way = (j : Int) := ⟨way.toNat, by omega⟩
      subst hj
      refine ⟨_, rfl, _, rfl, L, _, _, j, rfl, rfl, eL5, ?_, ?_⟩
      · show ixN 3 (j : Int) = some j
        unfold ixN
        rw [if_pos (by omega), if_pos (by omega)]
        rfl
      have eG : upd H5 L (.lst ([V.int c1, .str z, .int c3].set j v)) L = some (.lst ([V.int c1, .str z, .int c3].set j v)) := upd_same
      have hx : ∀ x ∈ [V.int c1, .str z, .int c3].set j v, El p (upd H5 L (.lst ([V.int c1, .str z, .int c3].set j v))) x := by
        intro x hm
        rcases List.mem_or_eq_of_mem_set hm with h | h
        · exact ((c0 x h).but B5).updL eL5
        · rw [h]
          exact R5.el.updL eL5
      have hlen : ([V.int c1, .str z, .int c3].set j v).length = 3 := by rw [List.length_set]; rfl
      have hp : Pot p (n + 1 + 1 + 1 + 1 + 24) (upd H5 L (.lst ([V.int c1, .str z, .int c3].set j v))) := by
        obtain ⟨a, b, c, e, r⟩ := P5
        exact ⟨a, b, c, by rw [upd_ne nL.symm]; exact e, r⟩
      have hb : But p H (upd H5 L (.lst ([V.int c1, .str z, .int c3].set j v))) := (B04.trans B5).later hL0
      generalize [V.int c1, .str z, .int c3].set j v = XS at eG hx hlen hp hb ⊢
      generalize upd H5 L (.lst XS) = G0 at eG hx hp hb ⊢
      have s0 : Same G0 G0 := Same.refl _
      refine ⟨_, rfl, L, XS, rfl, .inl ⟨SqL.of eG, fun t1 n1 => ?_⟩⟩
      obtain ⟨G1, h1', s1, e1⟩ := alloc (.tup XS) n1
      rw [h1']
      have a1 := s1
      refine ⟨_, rfl, L, XS, rfl, .inl ⟨SqL.of (a1 _ _ eG), fun t2 n2 => ?_⟩⟩
      obtain ⟨G2, h2', s2, e2⟩ := alloc (.tup XS) n2
      rw [h2']
      have a2 := a1.trans s2
      refine ⟨_, rfl, L, XS, rfl, .inl ⟨SqL.of (a2 _ _ eG), fun t3 n3 => ?_⟩⟩
      obtain ⟨G3, h3', s3, e3⟩ := alloc (.tup XS) n3
      rw [h3']
      have a3 := a2.trans s3
      refine ⟨_, rfl, by decide, fun l0 n0 => ?_⟩
      obtain ⟨G4, h4', s4, e4⟩ := alloc (.lst [.int 0]) n0
      rw [h4']
      have a4 := a3.trans s4
      refine ⟨L, l0, XS, _, rfl, rfl, a4 _ _ eG, e4, by rw [hlen]; decide, fun l1 n5 => ?_⟩
      obtain ⟨G5, h5', s5, e5⟩ := alloc (.lst (XS ++ [.int 0])) n5
      rw [h5']
      have a5 := a4.trans s5
      refine ⟨l1, _, rfl, .inl ⟨SqL.of e5, fun t4 n6 => ?_⟩⟩
      obtain ⟨G6, h6', s6, e6⟩ := alloc (.tup (XS ++ [.int 0])) n6
      rw [h6']
      have a6 := a5.trans s6
      refine ⟨_, rfl, _, rfl, L, XS, rfl, SqL.of (a6 _ _ eG), fun l2 n7 => ?_⟩
      obtain ⟨G7, h7', s7, e7⟩ := alloc (.lst (cutV XS none (some 2))) n7
      rw [h7']
      have a7 := a6.trans s7
      refine ⟨l2, _, rfl, .inl ⟨SqL.of e7, fun t5 n8 => ?_⟩⟩
      obtain ⟨G8, h8', s8, e8⟩ := alloc (.tup (cutV XS none (some 2))) n8
      rw [h8']
      have a8 := a7.trans s8
      refine ⟨_, rfl, (by decide : 6 ≤ sizeLine), fun l3 n9 => ?_⟩
      obtain ⟨G9, h9', s9, e9⟩ := alloc (.lst [.ref t1, .ref t2, .ref t3, .ref t4, .ref t5, .ref L]) n9
      rw [h9']
      have a9 := a8.trans s9
      have b8 := s9
      have b7 := s8.trans b8
      have b6 := s7.trans b7
      have b5 := s6.trans b6
      have b4 := s5.trans b5
      have b3 := s4.trans b4
      have b2 := s3.trans b3
      have b1 := s2.trans b2
      have nn : ∀ (q : Addr) (G' : Hp), Same G0 G' → G' q = none → q ≠ p := fun q G' sg hg => (hp.same sg).ne hg
      refine ⟨_, rfl, p, _, 6, rfl, hp.same a9, by omega, by decide, by decide, fun r GF r0 r1 PF BF => ?_⟩
      obtain ⟨v, hv, hm⟩ := atI_bd (xs := [.ref t1, .ref t2, .ref t3, .ref t4, .ref t5, .ref L]) r0 r1
      refine ⟨l3, _, r, v, rfl, rfl, SqL.of (BF _ _ (nn _ _ a8 n9) e9), hv, ?_⟩
      have hx9 : ∀ x ∈ XS, El p G9 x := fun x h => (hx x h).but (But.of a9)
      refine q _ _ (Thing.but ?_ BF) (PF.mono (by omega)) ((hb.trans (But.of a9)).trans BF)
      simp only [List.mem_cons, List.not_mem_nil, or_false] at hm
      rcases hm with rfl | rfl | rfl | rfl | rfl | rfl
      · exact .tup (b1 _ _ e1) hx9 (nn _ _ (.refl _) n1)
      · exact .tup (b2 _ _ e2) hx9 (nn _ _ a1 n2)
      · exact .tup (b3 _ _ e3) hx9 (nn _ _ a2 n3)
      · refine .tup (b6 _ _ e6) (fun x h => ?_) (nn _ _ a5 n6)
        rcases List.mem_append.mp h with h | h
        · exact hx9 x h
        · rw [List.mem_singleton.mp h]
          exact .int 0
      · exact .tup (b8 _ _ e8) (fun x h => hx9 x (mem_cutV h)) (nn _ _ a7 n8)
      · exact .flat (.lst (a9 _ _ eG)) (by decide) (fun z => nL (V.ref.inj z))
    · have eG : H4 L = some (.lst [V.int c1, .str z, .int c3]) := eL4
      have hx := c0
      have hlen : [V.int c1, .str z, .int c3].length = 3 := rfl
      have hp := P4
      have hb := B04
      generalize [V.int c1, .str z, .int c3] = XS at eG hx hlen hp hb ⊢
      have s0 : Same H4 H4 := Same.refl _
      refine ⟨_, rfl, L, XS, rfl, .inl ⟨SqL.of eG, fun t1 n1 => ?_⟩⟩
      obtain ⟨G1, h1', s1, e1⟩ := alloc (.tup XS) n1
      rw [h1']
      have a1 := s1
      refine ⟨_, rfl, L, XS, rfl, .inl ⟨SqL.of (a1 _ _ eG), fun t2 n2 => ?_⟩⟩
      obtain ⟨G2, h2', s2, e2⟩ := alloc (.tup XS) n2
      rw [h2']
      have a2 := a1.trans s2
      refine ⟨_, rfl, L, XS, rfl, .inl ⟨SqL.of (a2 _ _ eG), fun t3 n3 => ?_⟩⟩
      obtain ⟨G3, h3', s3, e3⟩ := alloc (.tup XS) n3
      rw [h3']
      have a3 := a2.trans s3
      refine ⟨_, rfl, by decide, fun l0 n0 => ?_⟩
      obtain ⟨G4, h4', s4, e4⟩ := alloc (.lst [.int 0]) n0
      rw [h4']
      have a4 := a3.trans s4
      refine ⟨L, l0, XS, _, rfl, rfl, a4 _ _ eG, e4, by rw [hlen]; decide, fun l1 n5 => ?_⟩
      obtain ⟨G5, h5', s5, e5⟩ := alloc (.lst (XS ++ [.int 0])) n5
      rw [h5']
      have a5 := a4.trans s5
      refine ⟨l1, _, rfl, .inl ⟨SqL.of e5, fun t4 n6 => ?_⟩⟩
      obtain ⟨G6, h6', s6, e6⟩ := alloc (.tup (XS ++ [.int 0])) n6
      rw [h6']
      have a6 := a5.trans s6
      refine ⟨_, rfl, _, rfl, L, XS, rfl, SqL.of (a6 _ _ eG), fun l2 n7 => ?_⟩
      obtain ⟨G7, h7', s7, e7⟩ := alloc (.lst (cutV XS none (some 2))) n7
      rw [h7']
      have a7 := a6.trans s7
      refine ⟨l2, _, rfl, .inl ⟨SqL.of e7, fun t5 n8 => ?_⟩⟩
      obtain ⟨G8, h8', s8, e8⟩ := alloc (.tup (cutV XS none (some 2))) n8
      rw [h8']
      have a8 := a7.trans s8
      refine ⟨_, rfl, (by decide : 6 ≤ sizeLine), fun l3 n9 => ?_⟩
      obtain ⟨G9, h9', s9, e9⟩ := alloc (.lst [.ref t1, .ref t2, .ref t3, .ref t4, .ref t5, .ref L]) n9
      rw [h9']
      have a9 := a8.trans s9
      have b8 := s9
      have b7 := s8.trans b8
      have b6 := s7.trans b7
      have b5 := s6.trans b6
      have b4 := s5.trans b5
      have b3 := s4.trans b4
      have b2 := s3.trans b3
      have b1 := s2.trans b2
      have nn : ∀ (q : Addr) (G' : Hp), Same H4 G' → G' q = none → q ≠ p := fun q G' sg hg => (hp.same sg).ne hg
      refine ⟨_, rfl, p, _, 6, rfl, hp.same a9, by omega, by decide, by decide, fun r GF r0 r1 PF BF => ?_⟩
      obtain ⟨v, hv, hm⟩ := atI_bd (xs := [.ref t1, .ref t2, .ref t3, .ref t4, .ref t5, .ref L]) r0 r1
      refine ⟨l3, _, r, v, rfl, rfl, SqL.of (BF _ _ (nn _ _ a8 n9) e9), hv, ?_⟩
      have hx9 : ∀ x ∈ XS, El p G9 x := fun x h => (hx x h).but (But.of a9)
      refine q _ _ (Thing.but ?_ BF) (PF.mono (by omega)) ((hb.trans (But.of a9)).trans BF)
      simp only [List.mem_cons, List.not_mem_nil, or_false] at hm
      rcases hm with rfl | rfl | rfl | rfl | rfl | rfl
      · exact .tup (b1 _ _ e1) hx9 (nn _ _ (.refl _) n1)
      · exact .tup (b2 _ _ e2) hx9 (nn _ _ a1 n2)
      · exact .tup (b3 _ _ e3) hx9 (nn _ _ a2 n3)
      · refine .tup (b6 _ _ e6) (fun x h => ?_) (nn _ _ a5 n6)
        rcases List.mem_append.mp h with h | h
        · exact hx9 x h
        · rw [List.mem_singleton.mp h]
          exact .int 0
      · exact .tup (b8 _ _ e8) (fun x h => hx9 x (mem_cutV h)) (nn _ _ a7 n8)
      · exact .flat (.lst (a9 _ _ eG)) (by decide) (fun z => nL (V.ref.inj z))
end
end K02
namespace K02
open PySem PySem.Spec PyProof.Rows L2 Pr
section
variable {P : Program} {w : World} {K : PySem.W.Frag} {mg : Str → Option Value} {base : Heap}
def oneS (c : Nat) : Str := ⟨#[c]⟩
theorem dpAll_ones {K : PySem.W.Frag} {H : Hp} : ∀ cs : List Nat, DpAll K H (cs.map fun c => V.str (oneS c)) (cs.map fun c => PyData.str (oneS c))
  | [] => .nil
  | c :: r => .cons (.str _) (dpAll_ones r)
theorem canLay_ones : ∀ cs : List Nat, (∀ c ∈ cs, c < 0x110000) → PyData.canLayAll0 (cs.map fun c => PyData.str (oneS c)) = true
  | [], _ => rfl
  | c :: r, h => by
    rw [List.map_cons, PyData.canLayAll0, canLay_ones r fun d hd => h d (List.mem_cons_of_mem _ hd), Bool.and_true]
    show PyData.strOk (oneS c) = true
    exact strOk_iff.mpr fun d hd => by rw [List.mem_singleton.mp hd]; exact h c List.mem_cons_self
theorem depth_ones : ∀ cs : List Nat, PyData.depthAll (cs.map fun c => PyData.str (oneS c)) = 0
  | [] => rfl
  | c :: r => by
    rw [List.map_cons, PyData.depthAll, depth_ones r]
    rfl
theorem shaped_ones {cs : List Nat} (h : ∀ c ∈ cs, c < 0x110000) : SeqAt.shaped (.list (cs.map fun c => PyData.str (oneS c))) = true := by
  unfold SeqAt.shaped
  rw [PyData.canLay0, canLay_ones cs h, Bool.true_and, PyData.depth, depth_ones]
  rfl
theorem eqv_ones (cs : List Nat) : PyData.eqv (.list (cs.map fun c => PyData.str (oneS c))) (.list []) = cs.isEmpty := by
  cases cs with
  | nil => rfl
  | cons c r => rfl
theorem filter_empty (z : Str) : (z.cps.toList.filter fun c => !decide (c ∈ azS.cps.toList)).isEmpty = azAll z := by
  unfold azAll
  generalize z.cps.toList = l
  induction l with
  | nil => rfl
  | cons c r ih =>
    rw [List.filter_cons, List.all_cons, ← mem_az c]
    cases hc : decide (c ∈ azS.cps.toList)
    · rfl
    · rw [Bool.true_and]
      exact ih
def spLWord : Sp := fun vs H Q _ => ∃ (v : V) (k : String), vs = [v] ∧ Knd H v k ∧ ∀ H', Same H H' → Q (.bl (mWord v)) H'
theorem ok__law_is_word {k : Nat} (T : Txt K mg) : FnOk P w K mg base CX0 (k + 1) T.f__law_is_word T.d__law_is_word ["thing"] spLWord := by
  refine (T.F__law_is_word).ok sc__law_is_word (fun vs H Q E h => ?_) (fun cdv A outer s H vs Q E hr h => ?_)
  · obtain ⟨v, kk, rfl, _⟩ := h
    rfl
  · obtain ⟨v, kk, rfl, hk, q⟩ := h
    refine ⟨_, (pss_cons (ps_if (PW.pt (pw_or (pt_not (pt_val (pe_callB call_isk (by rfl) T.n_isinstance (by decide +kernel) (pa_cons (pv 0) (pa_cons (pe_bltn (by rfl) T.n_str (by decide +kernel) (v := .ty "str") rfl) pa_nil))))) (pw_or1 (pt_not (pt_chain op_lt op_lt pe_int (pe_callB call_len_str (by rfl) T.n_len PySem.boot_len (pa_cons (pv 0) pa_nil)) pe_int))))) (pss_one (ps_ret pe_bl)) pss_nil) (pss_one (ps_ret (pe_cmpR (op_eqD hr.units) (pe_lc (own := [("letter", 1)]) (g := gName 1) rfl sc__law_is_word.nd (pi_str (pv 0)) (blkOk_by (own := [("letter", 1)]) (N := N__law_is_word) (sc := defScope s__law_is_word) (by decide +kernel)) (fun _ _ _ _ _ => (pg_name (i := 1) sc__law_is_word.nd rfl (Or.inl rfl))) (fun _ _ _ _ _ => (pts_one (pt_cmpR op_notIn_sign (pv 1) pe_str (by rfl)))) (fun _ _ _ _ _ => (pv 1))) (pe_lst pa_nil) (nomark _))))), ?_⟩
    have hk' := hk
    refine ⟨_, rfl, _, "str", kk, rfl, .inr (.inr (.inl rfl)), hk, _, rfl, ?_⟩
    cases hk' <;> first | exact q _ (.refl _) | skip
    rename_i z hz
    have bad : (decide (0 < z.length) && decide (z.length ≤ 8)) = false → mWord (.str z) = false := by
      intro h
      show (decide (z.length ≤ 8) && (decide (0 < z.length) && azAll z)) = false
      rw [← Bool.and_assoc, Bool.and_comm (decide (z.length ≤ 8)), h, Bool.false_and]
    refine ⟨_, rfl, _, rfl, Nat.le_of_lt (small1000 hz.1), 0, _, rfl, rfl, _, rfl, ite2 (fun h1 => ?_) (fun h1 => ?_)⟩
    · have h1' : 0 < z.length := by have := of_decide_eq_true h1; omega
      refine ⟨_, _, rfl, rfl, _, rfl, ?_⟩
      show if (!decide ((z.length : Int) < 9)) = true then _ else _
      refine ite2 (fun h2 => ?_) (fun h2 => ?_)
      · have h2' : ¬ z.length ≤ 8 := by
          have : ¬ (z.length : Int) < 9 := by simpa using h2
          omega
        have := q H (.refl _)
        rw [bad (by rw [decide_eq_false h2', Bool.and_false])] at this
        exact this
      · have h2' : z.length ≤ 8 := by
          have : (z.length : Int) < 9 := by simpa using h2
          omega
        refine ⟨_, rfl, z, rfl, fun D hD => ?_⟩
        refine lc_it walk_str (fun i G => ∃ cs : List Nat, cs = (z.cps.toList.take i).filter (fun c => !decide (c ∈ azS.cps.toList)) ∧ G D = some (.lst (cs.map fun c => V.str (oneS c))) ∧ Same H G) ⟨[], rfl, upd_same, Same.new hD⟩ (fun _ _ _ _ => trivial) ?_ ?_
        · intro i x G G' hi hv hy
          obtain ⟨cs, ec, eD, sG⟩ := hv
          obtain ⟨rfl, c, hc, rfl⟩ := hy
          have hc' : z.cps.toList[i]? = some c := by simpa using hc
          refine ⟨rfl, _, rfl, c, azS, rfl, rfl, _, rfl, ite2 (fun h3 => ?_) (fun h3 => ?_)⟩
          · refine ⟨_, rfl, _, eD, ?_, cs ++ [c], ?_, ?_, ?_⟩
            · rw [List.length_map, ec]
              have h1 := List.length_filter_le (fun c => !decide (c ∈ azS.cps.toList)) (z.cps.toList.take i)
              have h2 : (z.cps.toList.take i).length ≤ z.cps.toList.length := by rw [List.length_take]; exact Nat.min_le_right _ _
              have h3 : z.cps.toList.length = z.length := rfl
              exact small1000 (by omega)
            · rw [List.take_add_one, hc', List.filter_append, ← ec]
              congr 1
              show [c] = List.filter _ [c]
              rw [List.filter_cons, if_pos h3]
              rfl
            · rw [upd_same, List.map_append]
              rfl
            · intro q o e
              have nq : q ≠ D := ne_of_none e hD
              rw [upd_ne nq]
              exact sG _ _ e
          · refine ⟨cs, ?_, eD, sG⟩
            rw [List.take_add_one, hc', List.filter_append, ← ec]
            have : List.filter (fun c => !decide (c ∈ azS.cps.toList)) (some c).toList = [] := by
              show List.filter _ [c] = []
              rw [List.filter_cons, if_neg h3]
              rfl
            rw [this, List.append_nil]
        · intro G hv
          obtain ⟨cs, ec, eD, sG⟩ := hv
          have ec2 : cs = z.cps.toList.filter (fun c => !decide (c ∈ azS.cps.toList)) := by
            rw [ec, List.take_of_length_le (by simp)]
          refine ⟨by decide, fun D2 hD2 => ?_⟩
          obtain ⟨G2, h2, s2, e2⟩ := alloc (.lst []) hD2
          rw [h2]
          refine ⟨_, _, .lst (SqL.of (s2 _ _ eD)) (dpAll_ones cs), .lst (SqL.of e2) .nil, shaped_ones ?_, rfl, ?_⟩
          · intro c hc
            rw [ec2] at hc
            exact strOk_iff.mp hz.2 c (List.mem_filter.mp hc).1
          rw [eqv_ones, ec2, filter_empty]
          have e : mWord (.str z) = azAll z := by
            show (decide (z.length ≤ 8) && (decide (0 < z.length) && azAll z)) = _
            rw [decide_eq_true h2', decide_eq_true h1', Bool.true_and, Bool.true_and]
          have := q G2 (sG.trans s2)
          rw [e] at this
          exact this
    · have h1' : ¬ 0 < z.length := by
        have : ¬ (0 : Int) < z.length := by simpa using h1
        omega
      have := q H (.refl _)
      rw [bad (by rw [decide_eq_false h1', Bool.false_and])] at this
      exact ⟨_, rfl, this⟩
end
end K02
namespace K02
open PySem PySem.Spec PyProof.Rows L2 Pr
theorem mInt_whole {v : V} {lo hi : Int} (h : mInt v = false) : mWhole lo hi v = false := by
  cases v <;> first | rfl | cases h
theorem mInt_int {v : V} (h : mInt v = true) : ∃ i, v = .int i := by
  cases v <;> first | exact ⟨_, rfl⟩ | cases h
theorem mId_same {p : Addr} {H H' : Hp} {v : V} (t : Pr.Thing p H v) (s : Same H H') : mId H' v = mId H v := by
  cases t with
  | flat h hk hp => rw [mId_flat h hk, mId_flat (h.same s) hk]
  | tup e h hp => rw [mId_tup e, mId_tup (s _ _ e)]
section
variable {P : Program} {w : World} {K : PySem.W.Frag} {mg : Str → Option Value} {base : Heap}
def spLId : Sp := fun vs H Q _ => ∃ (v : V) (p : Addr), vs = [v] ∧ Pr.Thing p H v ∧ ∀ H', Same H H' → Q (.bl (mId H v)) H'
theorem ok__law_is_id {k : Nat} (T : Txt K mg) : FnOk P w K mg base CX0 (k + 2) T.f__law_is_id T.d__law_is_id ["thing"] spLId := by
  refine (T.F__law_is_id).ok sc__law_is_id (fun vs H Q E h => ?_) (fun cdv A outer s H vs Q E hr h => ?_)
  · obtain ⟨v, p, rfl, _⟩ := h
    rfl
  · obtain ⟨v, p, rfl, ht, q⟩ := h
    refine ⟨_, (pss_cons (ps_if (PW.pt (pw_or (pt_not (pt_val (pe_callB call_isk (by rfl) T.n_isinstance (by decide +kernel) (pa_cons (pv 0) (pa_cons (pe_bltn (by rfl) T.n_tuple (by decide +kernel) (v := .ty "tuple") rfl) pa_nil))))) (pw_or (pt_cmpR op_ne (pe_callB call_len_seq (by rfl) T.n_len PySem.boot_len (pa_cons (pv 0) pa_nil)) pe_int (nomark _)) (pw_or (pt_not (pt_val (pe_call (ok__law_is_word T) hr (by rfl) T.g__law_is_word T.F__law_is_word.kp T.b__law_is_word .nil pass0 (pa_cons (pe_ix ix_tup (pv 0) pe_int (fun _ _ => rfl)) pa_nil)))) (pw_or1 (pt_cmpR op_eq (pe_ix ix_tup (pv 0) pe_int (fun _ _ => rfl)) pe_str (nomark _))))))) (pss_one (ps_ret pe_bl)) pss_nil) (pss_cons (ps_if (PW.pt (pw_or (pt_not (pt_val (pe_call (ok__law_whole T) hr (by rfl) T.g__law_whole T.F__law_whole.kp T.b__law_whole .nil pass0 (pa_cons (pe_ix ix_tup (pv 0) pe_int (fun _ _ => rfl)) pa_nil)))) (pw_or1 (pt_not (pt_val (pe_call (ok__law_whole T) hr (by rfl) T.g__law_whole T.F__law_whole.kp T.b__law_whole .nil pass0 (pa_cons (pe_ix ix_tup (pv 0) pe_int (fun _ _ => rfl)) pa_nil))))))) (pss_one (ps_ret pe_bl)) pss_nil) (pss_one (ps_ret (pe_and (pe_chain op_le op_le pe_int (pe_ix ix_tup (pv 0) pe_int (fun _ _ => rfl)) pe_int) (pe_one (pe_chain op_le op_le pe_int (pe_ix ix_tup (pv 0) pe_int (fun _ _ => rfl)) (pe_op op_pow pe_int pe_int)))))))), ?_⟩
    cases ht with
    | flat hk hn hp =>
      rw [mId_flat hk hn] at q
      have hk' := hk
      refine ⟨_, rfl, _, "tuple", _, rfl, .inr (.inr (.inr (.inl rfl))), hk, _, rfl, ?_⟩
      cases hk' <;> first | exact q _ (.refl _) | exact absurd rfl hn
    | @tup a xs e hx hp =>
      rw [mId_tup e] at q
      refine ⟨_, rfl, _, "tuple", _, rfl, .inr (.inr (.inr (.inl rfl))), .tup e, _, rfl, ?_⟩
      have hS : SqT K H a xs := .inl (.inl e)
      refine ⟨_, rfl, a, xs, rfl, .inr hS, rfl, _, rfl, ite2 (fun h1 => ?_) (fun h1 => ?_)⟩
      · have h2 : xs.length ≠ 3 := by
          intro z
          rw [z] at h1
          exact absurd h1 (by decide)
        have := q H (.refl _)
        rw [mId3_len h2] at this
        exact this
      · have h2 : xs.length = 3 := by
          have h3 := of_decide_eq_true (show decide (V.int (xs.length : Int) = V.int 3) = true by simpa using h1)
          have h4 := V.int.inj h3
          omega
        match xs, h2 with
        | [x, y, z], _ =>
          obtain ⟨⟨kx, gx⟩, _⟩ := hx x (by simp)
          obtain ⟨⟨ky, gy⟩, _⟩ := hx y (by simp)
          obtain ⟨⟨kz, gz⟩, _⟩ := hx z (by simp)
          change ∀ H', Same H H' → Q (.bl (mWhole 0 7 x && (mName y && mWhole 0 1000000 z))) H' at q
          refine ⟨_, rfl, a, _, 1, y, rfl, rfl, hS, atI_nat (j := 1) rfl, y, ky, rfl, gy, fun H1 s1 => ⟨_, rfl, ?_⟩⟩
          have hS1 : SqT K H1 a [x, y, z] := .inl (.inl (s1 _ _ e))
          cases hw : mWord y with
          | false =>
            have e0 : (mWhole 0 7 x && (mName y && mWhole 0 1000000 z)) = false := by
              unfold mName
              rw [hw, Bool.false_and, Bool.false_and, Bool.and_false]
            rw [e0] at q
            exact q _ s1
          | true =>
            obtain ⟨t, rfl⟩ := mWord_str hw
            refine ⟨_, rfl, a, _, 1, _, rfl, rfl, hS1, atI_nat (j := 1) rfl, rfl, _, rfl, ite2 (fun h3 => ?_) (fun h3 => ?_)⟩
            · have e0 : (mWhole 0 7 x && (mName (.str t) && mWhole 0 1000000 z)) = false := by
                unfold mName
                rw [h3, Bool.not_true, Bool.and_false, Bool.false_and, Bool.and_false]
              rw [e0] at q
              exact q _ s1
            · have en : mName (.str t) = true := by
                unfold mName
                rw [hw, Bool.eq_false_iff.mpr h3]
                rfl
              rw [en, Bool.true_and] at q
              refine ⟨_, rfl, a, _, 0, x, rfl, rfl, hS1, atI_nat (j := 0) rfl, x, kx, rfl, gx.same s1, _, rfl, ?_⟩
              cases hi : mInt x with
              | false =>
                rw [mInt_whole hi, Bool.false_and] at q
                exact q _ s1
              | true =>
                obtain ⟨i, rfl⟩ := mInt_int hi
                refine ⟨_, rfl, a, _, 2, z, rfl, rfl, hS1, atI_nat (j := 2) rfl, z, kz, rfl, gz.same s1, _, rfl, ?_⟩
                cases hj : mInt z with
                | false =>
                  rw [mInt_whole (v := z) hj, Bool.and_false] at q
                  exact q _ s1
                | true =>
                  obtain ⟨j, rfl⟩ := mInt_int hj
                  change ∀ H', Same H H' → Q (.bl ((decide (0 ≤ i) && decide (i ≤ 7)) && (decide (0 ≤ j) && decide (j ≤ 1000000)))) H' at q
                  have q1 := q _ s1
                  refine ⟨_, rfl, a, _, 0, _, rfl, rfl, hS1, atI_nat (j := 0) rfl, 0, i, rfl, rfl, _, rfl, ?_⟩
                  cases hd1 : decide (0 ≤ i) with
                  | false =>
                    rw [hd1, Bool.false_and, Bool.false_and] at q1
                    exact ⟨_, rfl, q1⟩
                  | true =>
                    refine ⟨i, 7, rfl, rfl, _, rfl, ?_⟩
                    cases hd2 : decide (i ≤ 7) with
                    | false =>
                      rw [hd2, Bool.and_false, Bool.false_and] at q1
                      exact q1
                    | true =>
                      rw [hd1, hd2, Bool.true_and, Bool.true_and] at q1
                      refine ⟨_, rfl, a, _, 2, _, rfl, rfl, hS1, atI_nat (j := 2) rfl, 0, j, rfl, rfl, _, rfl, ?_⟩
                      cases hd3 : decide (0 ≤ j) with
                      | false =>
                        rw [hd3, Bool.false_and] at q1
                        exact q1
                      | true =>
                        rw [hd3, Bool.true_and] at q1
                        exact ⟨_, _, rfl, rfl, pw, _, _, rfl, rfl, q1⟩
theorem bools3 (a b c : Bool) : SeqAt.shaped (.list [.bool a, .bool b, .bool c]) = true ∧ PyData.eqv (.list [.bool a, .bool b, .bool c]) (.list [.bool a, .bool b, .bool c]) = true := by
  cases a <;> cases b <;> cases c <;> decide +kernel
def spRight : Sp := fun vs H Q _ => ∃ (v : V) (p : Addr), vs = [v] ∧ Pr.Thing p H v ∧ ∀ H', Same H H' → Q (.bl true) H'
theorem abs_le (i : Int) : decide ((if i < 0 then -i else i) ≤ 1000000000) = (decide (-1000000000 ≤ i) && decide (i ≤ 1000000000)) := by
  rw [← Bool.decide_and]
  apply decide_eq_decide.mpr
  split <;> omega
theorem ok__law_right {k : Nat} (T : Txt K mg) : FnOk P w K mg base CX0 (k + 4) T.f__law_right T.d__law_right ["thing"] spRight := by
  refine (T.F__law_right).ok sc__law_right (fun vs H Q E h => ?_) (fun cdv A outer s H vs Q E hr h => ?_)
  · obtain ⟨v, p, rfl, _⟩ := h
    rfl
  · obtain ⟨v, p, rfl, ht, q⟩ := h
    obtain ⟨k, hk⟩ := ht.knd
    refine ⟨_, (pss_cons (ps_set (i := 1) sc__law_right.nd rfl (Or.inl rfl) (pe_and (pe_call (ok__law_is_word T) hr (by rfl) T.g__law_is_word T.F__law_is_word.kp T.b__law_is_word .nil pass0 (pa_cons (pv 0) pa_nil)) (pe_one (pe_cmpR op_ne (pv 0) pe_str (nomark _))))) (pss_cons (ps_set (i := 2) sc__law_right.nd rfl (Or.inl rfl) (pe_or (pe_call (ok__law_is_word T) hr (by rfl) T.g__law_is_word T.F__law_is_word.kp T.b__law_is_word .nil pass0 (pa_cons (pv 0) pa_nil)) (pe_one (pe_and (pe_call (ok__law_whole T) hr (by rfl) T.g__law_whole T.F__law_whole.kp T.b__law_whole .nil pass0 (pa_cons (pv 0) pa_nil)) (pe_one (pe_cmpR op_le (pe_callB call_abs (by rfl) T.n_abs (by decide +kernel) (pa_cons (pv 0) pa_nil)) (pe_op op_pow pe_int pe_int) (nomark _))))))) (pss_cons (ps_set (i := 3) sc__law_right.nd rfl (Or.inl rfl) (pe_lst (pa_cons (pe_call (ok_is_name T) hr (by rfl) T.g_is_name T.F_is_name.kp T.b_is_name .nil pass0 (pa_cons (pv 0) pa_nil)) (pa_cons (pe_call (ok_is_value T) hr (by rfl) T.g_is_value T.F_is_value.kp T.b_is_value .nil pass0 (pa_cons (pv 0) pa_nil)) (pa_cons (pe_call (ok_is_id T) hr (by rfl) T.g_is_id T.F_is_id.kp T.b_is_id .nil pass0 (pa_cons (pv 0) pa_nil)) pa_nil))))) (pss_cons (ps_if (pt_not (pt_val (pe_callB (cr_all rfl) (by rfl) T.n_all (by decide +kernel) (pa_cons (pe_lc (own := [("one", 4)]) (g := gName 4) (tt := tYes) rfl sc__law_right.nd (pi_list (pv 3)) (blkOk_by (own := [("one", 4)]) (N := N__law_right) (sc := defScope s__law_right) (by decide +kernel)) (fun _ _ _ _ _ => (pg_name (i := 4) sc__law_right.nd rfl (Or.inl rfl))) (fun _ _ _ _ _ => pts_nil) (fun _ _ _ _ _ => (pe_callB call_isk (by rfl) T.n_isinstance (by decide +kernel) (pa_cons (pv 4) (pa_cons (pe_bltn (by rfl) T.n_bool (by decide +kernel) (v := .ty "bool") rfl) pa_nil))))) pa_nil)))) (pss_one (ps_ret pe_bl)) pss_nil) (pss_one (ps_ret (pe_cmpR (op_eqD hr.units) (pv 3) (pe_lst (pa_cons (pv 1) (pa_cons (pv 2) (pa_cons (pe_call (ok__law_is_id T) hr (by rfl) T.g__law_is_id T.F__law_is_id.kp T.b__law_is_id .nil pass0 (pa_cons (pv 0) pa_nil)) pa_nil)))) (nomark _)))))))), ?_⟩
    refine absQ (t := tAndV _ _) (fun G hG => ?_)
    have key : ∀ H1, Same H H1 → G (.bl (mName v)) H1 := by
      intro H1 s1
      refine hG _ _ ?_
      refine nameInto (t := tSeq (tAsg (tOrV _ _) _) _) ?_
      refine seqAsg (fun G2 hG2 => ?_)
      have key2 : ∀ H2, Same H1 H2 → G2 (.bl (mValue v)) H2 := by
        intro H2 s2
        refine hG2 _ _ ?_
        have s12 := s1.trans s2
        have t2 := ht.but (But.of s12)
        have k2 := hk.same s12
        refine ⟨_, rfl, v, k, rfl, k2, _, rfl, v, k, rfl, k2, _, rfl, v, p, rfl, t2, ?_⟩
        refine ⟨(by decide : 3 ≤ sizeLine), fun F hF => ?_⟩
        obtain ⟨H3, h3, s3, e3⟩ := alloc (.lst [.bl (mName v), .bl (mValue v), .bl (mId H2 v)]) hF
        rw [h3]
        refine ⟨_, rfl, F, rfl, ⟨_, SqL.of e3⟩, fun D hD => ?_⟩
        refine lc_list (K := K) (a := F) (xs := [.bl (mName v), .bl (mValue v), .bl (mId H2 v)]) (fun i G => Same H3 G ∧ G D = some (.lst ((List.replicate i true).map V.bl))) ⟨Same.new hD, upd_same⟩ (fun i G hi hv => SqL.of (hv.1 _ _ e3)) ?_ ?_
        · intro i x G hx hv
          obtain ⟨sG, eD⟩ := hv
          have hb : ∃ b, x = .bl b := by
            match i, hx with
            | 0, hx => exact ⟨_, (Option.some.inj hx).symm⟩
            | 1, hx => exact ⟨_, (Option.some.inj hx).symm⟩
            | 2, hx => exact ⟨_, (Option.some.inj hx).symm⟩
            | (j + 3), hx => simp at hx
          have hi : i < 3 := by
            have := (List.getElem?_eq_some_iff.mp hx).1
            simpa using this
          obtain ⟨b, rfl⟩ := hb
          refine ⟨rfl, _, rfl, _, "bool", _, rfl, .inl rfl, .bl b, _, eD, ?_, ?_, ?_⟩
          · rw [List.length_map, List.length_replicate]
            exact small1000 (by omega)
          · intro q o e
            have nq : q ≠ D := ne_of_none e hD
            rw [upd_ne nq]
            exact sG _ _ e
          · rw [upd_same, List.replicate_succ', List.map_append]
            rfl
        · intro G hv
          obtain ⟨sG, eD⟩ := hv
          refine ⟨D, [true, true, true], rfl, SqL.of eD, _, rfl, ?_⟩
          have s4 := (s12.trans s3).trans sG
          refine ⟨_, rfl, _, rfl, _, rfl, _, rfl, v, p, rfl, ht.but (But.of s4), fun H5 s5 => ?_⟩
          refine ⟨(by decide : 3 ≤ sizeLine), fun F2 hF2 => ?_⟩
          obtain ⟨H6, h6, s6, e6⟩ := alloc (.lst [.bl (mName v), .bl (mValue v), .bl (mId G v)]) hF2
          rw [h6]
          have ei : mId G v = mId H2 v := mId_same t2 (s3.trans sG)
          rw [ei] at e6
          refine ⟨_, _, .lst (SqL.of (s6 _ _ (s5 _ _ (sG _ _ e3)))) (.cons (.bl _) (.cons (.bl _) (.cons (.bl _) .nil))), .lst (SqL.of e6) (.cons (.bl _) (.cons (.bl _) (.cons (.bl _) .nil))), (bools3 _ _ _).1, (bools3 _ _ _).1, ?_⟩
          rw [(bools3 _ _ _).2]
          exact q _ ((s4.trans s5).trans s6)
      unfold mValue at key2
      refine ⟨_, rfl, v, k, rfl, hk.same s1, fun H2 s2 => ⟨_, rfl, ite2 (fun h1 => ?_) (fun h1 => ?_)⟩⟩
      · have q1 := key2 H2 s2
        rw [h1, Bool.true_or] at q1
        exact q1
      · have q1 := key2 H2 s2
        rw [Bool.eq_false_iff.mpr h1, Bool.false_or] at q1
        refine ⟨_, rfl, v, k, rfl, (hk.same s1).same s2, _, rfl, ite2 (fun h2 => ?_) (fun h2 => ?_)⟩
        · obtain ⟨i, rfl⟩ := mInt_int h2
          refine ⟨_, rfl, i, rfl, _, _, rfl, rfl, pw, _, _, rfl, rfl, ?_⟩
          have e : mWhole (-1000000000) 1000000000 (.int i) = decide ((if i < 0 then -i else i) ≤ (10 : Int) ^ (9 : Int).toNat) := (abs_le i).symm
          rw [e] at q1
          exact q1
        · rw [mInt_whole (Bool.eq_false_iff.mpr h2)] at q1
          exact q1
    unfold mName at key
    refine ⟨_, rfl, v, k, rfl, hk, fun H1 s1 => ⟨_, rfl, ite2 (fun h1 => ?_) (fun h1 => ?_)⟩⟩
    · obtain ⟨z, rfl⟩ := mWord_str h1
      have q1 := key H1 s1
      rw [h1, Bool.true_and] at q1
      exact ⟨_, rfl, rfl, q1⟩
    · have q1 := key H1 s1
      rw [Bool.eq_false_iff.mpr h1, Bool.false_and] at q1
      exact q1
end
end K02
namespace K02
open PySem PySem.Spec PyProof.Rows L2 Pr
section
variable {P : Program} {w : World} {K : PySem.W.Frag} {mg : Str → Option Value} {base : Heap}
def spLaw (K : PySem.W.Frag) : Sp := fun vs H Q _ => ∃ (a : Addr) (ns : List Int), vs = [.ref a] ∧ SqL K H a (ns.map V.int) ∧ ns.length ≤ 63 ∧ ∀ H', Q (.bl true) H'
theorem ok_law {k : Nat} (T : Txt K mg) : FnOk P w K mg base CX0 (k + 5) T.f_law T.d_law ["script"] (spLaw K) := by
  refine (T.F_law).ok sc_law (fun vs H Q E h => ?_) (fun cdv A outer s H vs Q E hr h => ?_)
  · obtain ⟨a, ns, rfl, _⟩ := h
    rfl
  · obtain ⟨a, ns, rfl, hS, hlen, q⟩ := h
    refine ⟨_, (pss_cons (ps_for PassesOwn.never rfl (pi_range1 (by rfl) T.n_range (pa_cons (pe_callB (call_max2 rfl) (by rfl) T.n_max (by decide +kernel) (pa_cons pe_int (pa_cons (pe_callB (call_min2 rfl) (by rfl) T.n_min (by decide +kernel) (pa_cons pe_int (pa_cons (pe_callB call_len_seq (by rfl) T.n_len PySem.boot_len (pa_cons (pv 0) pa_nil)) pa_nil))) pa_nil))) pa_nil)) (pg_name (i := 1) sc_law.nd rfl (Or.inl rfl)) (pss_cons (ps_set (i := 2) sc_law.nd rfl (Or.inl rfl) (pe_call (ok__law_pot T) hr (by rfl) T.g__law_pot T.F__law_pot.kp T.b__law_pot .nil pass0 (pa_cons (pv 0) (pa_cons (pv 1) pa_nil)))) (pss_cons (ps_set (i := 3) sc_law.nd rfl (Or.inl rfl) (pe_lst (pa_cons (pe_call (ok__law_text T) hr (by rfl) T.g__law_text T.F__law_text.kp T.b__law_text .nil pass0 (pa_cons (pv 2) pa_nil)) (pa_cons (pe_call (ok__law_text T) hr (by rfl) T.g__law_text T.F__law_text.kp T.b__law_text .nil pass0 (pa_cons (pv 2) pa_nil)) (pa_cons (pe_call (ok__law_number T) hr (by rfl) T.g__law_number T.F__law_number.kp T.b__law_number .nil pass0 (pa_cons (pv 2) pa_nil)) (pa_cons (pe_call (ok__law_number T) hr (by rfl) T.g__law_number T.F__law_number.kp T.b__law_number .nil pass0 (pa_cons (pv 2) pa_nil)) (pa_cons (pe_call (ok__law_odd T) hr (by rfl) T.g__law_odd T.F__law_odd.kp T.b__law_odd .nil pass0 (pa_cons (pv 2) pa_nil)) pa_nil))))))) (pss_cons (ps_set (i := 3) sc_law.nd rfl (Or.inl rfl) (pe_op op_cat (pv 3) (pe_lst (pa_cons (pe_call (ok__law_an_id T) hr (by rfl) T.g__law_an_id T.F__law_an_id.kp T.b__law_an_id .nil pass0 (pa_cons (pv 2) pa_nil)) (pa_cons (pe_call (ok__law_an_id T) hr (by rfl) T.g__law_an_id T.F__law_an_id.kp T.b__law_an_id .nil pass0 (pa_cons (pv 2) pa_nil)) (pa_cons (pe_call (ok__law_an_id T) hr (by rfl) T.g__law_an_id T.F__law_an_id.kp T.b__law_an_id .nil pass0 (pa_cons (pv 2) pa_nil)) pa_nil)))))) (pss_one (ps_for PassesOwn.never rfl (pi_list (pv 3)) (pg_name (i := 4) sc_law.nd rfl (Or.inl rfl)) (pss_one (ps_if (pt_not (pt_val (pe_call (ok__law_right T) hr (by rfl) T.g__law_right T.F__law_right.kp T.b__law_right .nil pass0 (pa_cons (pv 4) pa_nil)))) (pss_one (ps_ret pe_bl)) pss_nil)))))))) (pss_one (ps_ret pe_bl))), ?_⟩
    have hl : (ns.map V.int).length = ns.length := List.length_map ..
    refine ⟨_, rfl, a, _, rfl, .inl hS, _, _, rfl, _, _, rfl, ?_⟩
    rw [hl]
    have hN : ∃ j : Int, (if (if (ns.length : Int) < 40 then (ns.length : Int) else 40) > 1 then (if (ns.length : Int) < 40 then (ns.length : Int) else 40) else 1) = j ∧ 0 ≤ j ∧ j ≤ 63 := ⟨_, rfl, by split <;> split <;> omega, by split <;> split <;> omega⟩
    obtain ⟨N, eN, N0, N1⟩ := hN
    refine ⟨N, by rw [← eN], by omega, by omega, ?_⟩
    refine for_range (lo := 0) (n := N.toNat) (fun i σ G => ∃ y1 y2 y3 y4, σ = [some (.ref a), y1, y2, y3, y4] ∧ Same H G) ⟨none, none, none, none, rfl, .refl _⟩ ?_ ?_
    · intro i σ G hi hv
      obtain ⟨y1, y2, y3, y4, rfl, sG⟩ := hv
      refine ⟨_, rfl, _, rfl, a, ns, 0 + (i : Int), rfl, sG.seq hS, by omega, by omega, fun p G0 hp s0 P0 => ?_⟩
      have hp0 : H p = none := sG.free hp
      have f0 := sG.trans s0
      refine ⟨_, rfl, p, _, rfl, P0, by omega, fun v1 G1 ⟨z1, e1, hz1⟩ P1 B1 => ?_⟩
      refine ⟨_, rfl, p, _, rfl, P1, by omega, fun v2 G2 ⟨z2, e2, hz2⟩ P2 B2 => ?_⟩
      refine ⟨_, rfl, p, _, rfl, P2, by omega, fun v3 G3 ⟨i3, e3⟩ P3 B3 => ?_⟩
      refine ⟨_, rfl, p, _, rfl, P3, by omega, fun v4 G4 ⟨i4, e4⟩ P4 B4 => ?_⟩
      refine ⟨_, rfl, p, _, rfl, P4, by omega, fun v5 G5 R5 P5 B5 => ?_⟩
      subst e1 e2 e3 e4
      refine ⟨(by decide : 5 ≤ sizeLine), fun L hL => ?_⟩
      have nL := P5.ne hL
      obtain ⟨GL, hGL, sL, eL⟩ := alloc (.lst [.str z1, .str z2, .int i3, .int i4, v5]) hL
      rw [hGL]
      have PL := P5.same sL
      refine ⟨_, rfl, _, rfl, p, _, rfl, PL, by omega, fun v6 G6 R6 P6 B6 => ?_⟩
      refine ⟨_, rfl, p, _, rfl, P6, by omega, fun v7 G7 R7 P7 B7 => ?_⟩
      refine ⟨_, rfl, p, _, rfl, P7, by omega, fun v8 G8 R8 P8 B8 => ?_⟩
      refine ⟨(by decide : 3 ≤ sizeLine), fun L2 hL2 => ?_⟩
      obtain ⟨GM, hGM, sM, eM⟩ := alloc (.lst [v6, v7, v8]) hL2
      rw [hGM]
      have b68 := (B6.trans B7).trans B8
      refine ⟨L, L2, _, _, rfl, rfl, sM _ _ (b68 _ _ nL eL), eM, (by decide : 8 ≤ sizeLine), fun L3 hL3 => ?_⟩
      obtain ⟨GN, hGN, sN, eN3⟩ := alloc (.lst ([.str z1, .str z2, .int i3, .int i4, v5] ++ [v6, v7, v8])) hL3
      rw [hGN]
      have sMN := sM.trans sN
      have bAll : But p G0 GN := ((((((((B1.trans B2).trans B3).trans B4).trans B5).trans (But.of sL)).trans b68).trans (But.of sMN)))
      have sHN : Same H GN := bAll.same hp0 f0
      have hth : ∀ x ∈ [V.str z1, .str z2, .int i3, .int i4, v5] ++ [v6, v7, v8], Pr.Thing p GN x := by
        intro x hx
        simp only [List.cons_append, List.nil_append, List.mem_cons, List.not_mem_nil, or_false] at hx
        rcases hx with rfl | rfl | rfl | rfl | rfl | rfl | rfl | rfl
        · exact .str hz1
        · exact .str hz2
        · exact .int _
        · exact .int _
        · exact R5.but (((But.of sL).trans b68).trans (But.of sMN))
        · exact R6.but ((B7.trans B8).trans (But.of sMN))
        · exact R7.but (B8.trans (But.of sMN))
        · exact R8.but (But.of sMN)
      generalize [V.str z1, .str z2, .int i3, .int i4, v5] ++ [v6, v7, v8] = things at eN3 hth ⊢
      refine ⟨_, rfl, L3, rfl, ⟨_, SqL.of eN3⟩, ?_⟩
      refine for_list (K := K) (a := L3) (xs := things) (fun j σ G' => ∃ y1 y2 y3 y4, σ = [some (.ref a), y1, y2, y3, y4] ∧ Same GN G') ⟨_, _, _, _, rfl, .refl _⟩ (fun j σ G' hj hv => ?_) ?_ ?_
      · obtain ⟨_, _, _, _, _, sG'⟩ := hv
        exact SqL.of (sG' _ _ eN3)
      · intro j x σ G' hx hv
        obtain ⟨y1, y2, y3, y4, rfl, sG'⟩ := hv
        refine ⟨_, rfl, x, p, rfl, (hth x (List.mem_of_getElem? hx)).but (But.of sG'), fun G'' s'' => ?_⟩
        exact ⟨_, rfl, _, _, _, _, rfl, sG'.trans s''⟩
      · intro σ G' hv
        obtain ⟨y1, y2, y3, y4, rfl, sG'⟩ := hv
        exact ⟨_, _, _, _, rfl, sHN.trans sG'⟩
    · intro σ G hv
      exact q G
end
theorem all_mk {l : PySem.W.OpenLaw} {w : World} {K : PySem.W.Frag} {h : Heap} {mg : Str → Option Value} {fa : Addr} (X : K.In h) (G : h.Ns mainGlobals mg) (hfa : mg "law" = some (.ref fa))
    {f0 : Addr} {od0 an0 : Option Addr} {sl0 : Array (Option Value)} {oc0 kV0 dc0 pm0 cd0 ct0 : Value}
    (a0 : PySem.W.nsIn K mainGlobals "is_whole" = some (some (.ref f0))) (l0 : K.lookup f0 = some ⟨oc0, od0, .func (PySem.W.fnOf "is_whole" "is_whole" (defArgs s_is_whole) (defBody s_is_whole) (defScope s_is_whole) .none kV0 dc0 pm0 an0 cd0 ct0), sl0⟩) (c0 : PySem.W.codeIn K cd0 "is_whole" = true) (k0 : PySem.W.keepIn K (.ref f0) = true)
    {f1 : Addr} {od1 an1 : Option Addr} {sl1 : Array (Option Value)} {oc1 kV1 dc1 pm1 cd1 ct1 : Value}
    (a1 : PySem.W.nsIn K mainGlobals "is_word" = some (some (.ref f1))) (l1 : K.lookup f1 = some ⟨oc1, od1, .func (PySem.W.fnOf "is_word" "is_word" (defArgs s_is_word) (defBody s_is_word) (defScope s_is_word) .none kV1 dc1 pm1 an1 cd1 ct1), sl1⟩) (c1 : PySem.W.codeIn K cd1 "is_word" = true) (k1 : PySem.W.keepIn K (.ref f1) = true)
    {f2 : Addr} {od2 an2 : Option Addr} {sl2 : Array (Option Value)} {oc2 kV2 dc2 pm2 cd2 ct2 : Value}
    (a2 : PySem.W.nsIn K mainGlobals "is_name" = some (some (.ref f2))) (l2 : K.lookup f2 = some ⟨oc2, od2, .func (PySem.W.fnOf "is_name" "is_name" (defArgs s_is_name) (defBody s_is_name) (defScope s_is_name) .none kV2 dc2 pm2 an2 cd2 ct2), sl2⟩) (c2 : PySem.W.codeIn K cd2 "is_name" = true) (k2 : PySem.W.keepIn K (.ref f2) = true)
    {f3 : Addr} {od3 an3 : Option Addr} {sl3 : Array (Option Value)} {oc3 kV3 dc3 pm3 cd3 ct3 : Value}
    (a3 : PySem.W.nsIn K mainGlobals "is_value" = some (some (.ref f3))) (l3 : K.lookup f3 = some ⟨oc3, od3, .func (PySem.W.fnOf "is_value" "is_value" (defArgs s_is_value) (defBody s_is_value) (defScope s_is_value) .none kV3 dc3 pm3 an3 cd3 ct3), sl3⟩) (c3 : PySem.W.codeIn K cd3 "is_value" = true) (k3 : PySem.W.keepIn K (.ref f3) = true)
    {f4 : Addr} {od4 an4 : Option Addr} {sl4 : Array (Option Value)} {oc4 kV4 dc4 pm4 cd4 ct4 : Value}
    (a4 : PySem.W.nsIn K mainGlobals "is_hand" = some (some (.ref f4))) (l4 : K.lookup f4 = some ⟨oc4, od4, .func (PySem.W.fnOf "is_hand" "is_hand" (defArgs s_is_hand) (defBody s_is_hand) (defScope s_is_hand) .none kV4 dc4 pm4 an4 cd4 ct4), sl4⟩) (c4 : PySem.W.codeIn K cd4 "is_hand" = true) (k4 : PySem.W.keepIn K (.ref f4) = true)
    {f5 : Addr} {od5 an5 : Option Addr} {sl5 : Array (Option Value)} {oc5 kV5 dc5 pm5 cd5 ct5 : Value}
    (a5 : PySem.W.nsIn K mainGlobals "is_id" = some (some (.ref f5))) (l5 : K.lookup f5 = some ⟨oc5, od5, .func (PySem.W.fnOf "is_id" "is_id" (defArgs s_is_id) (defBody s_is_id) (defScope s_is_id) .none kV5 dc5 pm5 an5 cd5 ct5), sl5⟩) (c5 : PySem.W.codeIn K cd5 "is_id" = true) (k5 : PySem.W.keepIn K (.ref f5) = true)
    {f6 : Addr} {od6 an6 : Option Addr} {sl6 : Array (Option Value)} {oc6 kV6 dc6 pm6 cd6 ct6 : Value}
    (a6 : PySem.W.nsIn K mainGlobals "_law_pot" = some (some (.ref f6))) (l6 : K.lookup f6 = some ⟨oc6, od6, .func (PySem.W.fnOf "_law_pot" "_law_pot" (defArgs s__law_pot) (defBody s__law_pot) (defScope s__law_pot) .none kV6 dc6 pm6 an6 cd6 ct6), sl6⟩) (c6 : PySem.W.codeIn K cd6 "_law_pot" = true) (k6 : PySem.W.keepIn K (.ref f6) = true)
    {f7 : Addr} {od7 an7 : Option Addr} {sl7 : Array (Option Value)} {oc7 kV7 dc7 pm7 cd7 ct7 : Value}
    (a7 : PySem.W.nsIn K mainGlobals "_law_take" = some (some (.ref f7))) (l7 : K.lookup f7 = some ⟨oc7, od7, .func (PySem.W.fnOf "_law_take" "_law_take" (defArgs s__law_take) (defBody s__law_take) (defScope s__law_take) .none kV7 dc7 pm7 an7 cd7 ct7), sl7⟩) (c7 : PySem.W.codeIn K cd7 "_law_take" = true) (k7 : PySem.W.keepIn K (.ref f7) = true)
    {f8 : Addr} {od8 an8 : Option Addr} {sl8 : Array (Option Value)} {oc8 kV8 dc8 pm8 cd8 ct8 : Value}
    (a8 : PySem.W.nsIn K mainGlobals "_law_whole" = some (some (.ref f8))) (l8 : K.lookup f8 = some ⟨oc8, od8, .func (PySem.W.fnOf "_law_whole" "_law_whole" (defArgs s__law_whole) (defBody s__law_whole) (defScope s__law_whole) .none kV8 dc8 pm8 an8 cd8 ct8), sl8⟩) (c8 : PySem.W.codeIn K cd8 "_law_whole" = true) (k8 : PySem.W.keepIn K (.ref f8) = true)
    {f9 : Addr} {od9 an9 : Option Addr} {sl9 : Array (Option Value)} {oc9 kV9 dc9 pm9 cd9 ct9 : Value}
    (a9 : PySem.W.nsIn K mainGlobals "_law_text" = some (some (.ref f9))) (l9 : K.lookup f9 = some ⟨oc9, od9, .func (PySem.W.fnOf "_law_text" "_law_text" (defArgs s__law_text) (defBody s__law_text) (defScope s__law_text) .none kV9 dc9 pm9 an9 cd9 ct9), sl9⟩) (c9 : PySem.W.codeIn K cd9 "_law_text" = true) (k9 : PySem.W.keepIn K (.ref f9) = true)
    {f10 : Addr} {od10 an10 : Option Addr} {sl10 : Array (Option Value)} {oc10 kV10 dc10 pm10 cd10 ct10 : Value}
    (a10 : PySem.W.nsIn K mainGlobals "_law_number" = some (some (.ref f10))) (l10 : K.lookup f10 = some ⟨oc10, od10, .func (PySem.W.fnOf "_law_number" "_law_number" (defArgs s__law_number) (defBody s__law_number) (defScope s__law_number) .none kV10 dc10 pm10 an10 cd10 ct10), sl10⟩) (c10 : PySem.W.codeIn K cd10 "_law_number" = true) (k10 : PySem.W.keepIn K (.ref f10) = true)
    {f11 : Addr} {od11 an11 : Option Addr} {sl11 : Array (Option Value)} {oc11 kV11 dc11 pm11 cd11 ct11 : Value}
    (a11 : PySem.W.nsIn K mainGlobals "_law_odd" = some (some (.ref f11))) (l11 : K.lookup f11 = some ⟨oc11, od11, .func (PySem.W.fnOf "_law_odd" "_law_odd" (defArgs s__law_odd) (defBody s__law_odd) (defScope s__law_odd) .none kV11 dc11 pm11 an11 cd11 ct11), sl11⟩) (c11 : PySem.W.codeIn K cd11 "_law_odd" = true) (k11 : PySem.W.keepIn K (.ref f11) = true)
    {f12 : Addr} {od12 an12 : Option Addr} {sl12 : Array (Option Value)} {oc12 kV12 dc12 pm12 cd12 ct12 : Value}
    (a12 : PySem.W.nsIn K mainGlobals "_law_any" = some (some (.ref f12))) (l12 : K.lookup f12 = some ⟨oc12, od12, .func (PySem.W.fnOf "_law_any" "_law_any" (defArgs s__law_any) (defBody s__law_any) (defScope s__law_any) .none kV12 dc12 pm12 an12 cd12 ct12), sl12⟩) (c12 : PySem.W.codeIn K cd12 "_law_any" = true) (k12 : PySem.W.keepIn K (.ref f12) = true)
    {f13 : Addr} {od13 an13 : Option Addr} {sl13 : Array (Option Value)} {oc13 kV13 dc13 pm13 cd13 ct13 : Value}
    (a13 : PySem.W.nsIn K mainGlobals "_law_an_id" = some (some (.ref f13))) (l13 : K.lookup f13 = some ⟨oc13, od13, .func (PySem.W.fnOf "_law_an_id" "_law_an_id" (defArgs s__law_an_id) (defBody s__law_an_id) (defScope s__law_an_id) .none kV13 dc13 pm13 an13 cd13 ct13), sl13⟩) (c13 : PySem.W.codeIn K cd13 "_law_an_id" = true) (k13 : PySem.W.keepIn K (.ref f13) = true)
    {f14 : Addr} {od14 an14 : Option Addr} {sl14 : Array (Option Value)} {oc14 kV14 dc14 pm14 cd14 ct14 : Value}
    (a14 : PySem.W.nsIn K mainGlobals "_law_is_word" = some (some (.ref f14))) (l14 : K.lookup f14 = some ⟨oc14, od14, .func (PySem.W.fnOf "_law_is_word" "_law_is_word" (defArgs s__law_is_word) (defBody s__law_is_word) (defScope s__law_is_word) .none kV14 dc14 pm14 an14 cd14 ct14), sl14⟩) (c14 : PySem.W.codeIn K cd14 "_law_is_word" = true) (k14 : PySem.W.keepIn K (.ref f14) = true)
    {f15 : Addr} {od15 an15 : Option Addr} {sl15 : Array (Option Value)} {oc15 kV15 dc15 pm15 cd15 ct15 : Value}
    (a15 : PySem.W.nsIn K mainGlobals "_law_is_id" = some (some (.ref f15))) (l15 : K.lookup f15 = some ⟨oc15, od15, .func (PySem.W.fnOf "_law_is_id" "_law_is_id" (defArgs s__law_is_id) (defBody s__law_is_id) (defScope s__law_is_id) .none kV15 dc15 pm15 an15 cd15 ct15), sl15⟩) (c15 : PySem.W.codeIn K cd15 "_law_is_id" = true) (k15 : PySem.W.keepIn K (.ref f15) = true)
    {f16 : Addr} {od16 an16 : Option Addr} {sl16 : Array (Option Value)} {oc16 kV16 dc16 pm16 cd16 ct16 : Value}
    (a16 : PySem.W.nsIn K mainGlobals "_law_right" = some (some (.ref f16))) (l16 : K.lookup f16 = some ⟨oc16, od16, .func (PySem.W.fnOf "_law_right" "_law_right" (defArgs s__law_right) (defBody s__law_right) (defScope s__law_right) .none kV16 dc16 pm16 an16 cd16 ct16), sl16⟩) (c16 : PySem.W.codeIn K cd16 "_law_right" = true) (k16 : PySem.W.keepIn K (.ref f16) = true)
    {f17 : Addr} {od17 an17 : Option Addr} {sl17 : Array (Option Value)} {oc17 kV17 dc17 pm17 cd17 ct17 : Value}
    (a17 : PySem.W.nsIn K mainGlobals "law" = some (some (.ref f17))) (l17 : K.lookup f17 = some ⟨oc17, od17, .func (PySem.W.fnOf "law" "law" (defArgs s_law) (defBody s_law) (defScope s_law) .none kV17 dc17 pm17 an17 cd17 ct17), sl17⟩) (c17 : PySem.W.codeIn K cd17 "law" = true) (k17 : PySem.W.keepIn K (.ref f17) = true)
    {u0 : Tok} (v0 : PySem.W.nsIn K mainGlobals "MOST_LETTERS" = some (some (.int 8 u0)))
    {u1 : Tok} (v1 : PySem.W.nsIn K mainGlobals "MOST_VALUE" = some (some (.int 1000000000 u1)))
    {u2 : Tok} (v2 : PySem.W.nsIn K mainGlobals "MOST_HAND" = some (some (.int 7 u2)))
    {u3 : Tok} (v3 : PySem.W.nsIn K mainGlobals "MOST_NUMBER" = some (some (.int 1000000 u3)))
    (z0 : PySem.W.nsIn K mainGlobals "isinstance" = some none)
    (z1 : PySem.W.nsIn K mainGlobals "bool" = some none)
    (z2 : PySem.W.nsIn K mainGlobals "int" = some none)
    (z3 : PySem.W.nsIn K mainGlobals "str" = some none)
    (z4 : PySem.W.nsIn K mainGlobals "len" = some none)
    (z5 : PySem.W.nsIn K mainGlobals "tuple" = some none)
    (z6 : PySem.W.nsIn K mainGlobals "abs" = some none)
    (z7 : PySem.W.nsIn K mainGlobals "range" = some none)
    (z8 : PySem.W.nsIn K mainGlobals "all" = some none)
    (z9 : PySem.W.nsIn K mainGlobals "max" = some none)
    (z10 : PySem.W.nsIn K mainGlobals "min" = some none)
    : ∃ fd : FuncData, (∀ (s : Shared) (v : Value), BindsTo s fd ⟨[v], []⟩ [("script", v)]) ∧ ∀ base : Heap, K.In base → base.Ns mainGlobals mg → FnOk l.prog w K mg base CX0 5 fa fd ["script"] (spLaw K) := by
  have e := hfa.symm.trans (PySem.W.mg_of X G a17)
  cases e
  have F0 := fun_mk (st := s_is_whole) l0 c0 k0
  have b0 := F0.binds (ps := ["thing", "low", "high"]) fun _ _ _ _ _ _ us hl => match us, hl with | [_, _, _], _ => rfl
  have F1 := fun_mk (st := s_is_word) l1 c1 k1
  have b1 := F1.binds (ps := ["thing"]) fun _ _ _ _ _ _ us hl => match us, hl with | [_], _ => rfl
  have F2 := fun_mk (st := s_is_name) l2 c2 k2
  have b2 := F2.binds (ps := ["thing"]) fun _ _ _ _ _ _ us hl => match us, hl with | [_], _ => rfl
  have F3 := fun_mk (st := s_is_value) l3 c3 k3
  have b3 := F3.binds (ps := ["thing"]) fun _ _ _ _ _ _ us hl => match us, hl with | [_], _ => rfl
  have F4 := fun_mk (st := s_is_hand) l4 c4 k4
  have b4 := F4.binds (ps := ["thing"]) fun _ _ _ _ _ _ us hl => match us, hl with | [_], _ => rfl
  have F5 := fun_mk (st := s_is_id) l5 c5 k5
  have b5 := F5.binds (ps := ["thing"]) fun _ _ _ _ _ _ us hl => match us, hl with | [_], _ => rfl
  have F6 := fun_mk (st := s__law_pot) l6 c6 k6
  have b6 := F6.binds (ps := ["script", "k"]) fun _ _ _ _ _ _ us hl => match us, hl with | [_, _], _ => rfl
  have F7 := fun_mk (st := s__law_take) l7 c7 k7
  have b7 := F7.binds (ps := ["pot", "many"]) fun _ _ _ _ _ _ us hl => match us, hl with | [_, _], _ => rfl
  have F8 := fun_mk (st := s__law_whole) l8 c8 k8
  have b8 := F8.binds (ps := ["found"]) fun _ _ _ _ _ _ us hl => match us, hl with | [_], _ => rfl
  have F9 := fun_mk (st := s__law_text) l9 c9 k9
  have b9 := F9.binds (ps := ["pot"]) fun _ _ _ _ _ _ us hl => match us, hl with | [_], _ => rfl
  have F10 := fun_mk (st := s__law_number) l10 c10 k10
  have b10 := F10.binds (ps := ["pot"]) fun _ _ _ _ _ _ us hl => match us, hl with | [_], _ => rfl
  have F11 := fun_mk (st := s__law_odd) l11 c11 k11
  have b11 := F11.binds (ps := ["pot"]) fun _ _ _ _ _ _ us hl => match us, hl with | [_], _ => rfl
  have F12 := fun_mk (st := s__law_any) l12 c12 k12
  have b12 := F12.binds (ps := ["pot"]) fun _ _ _ _ _ _ us hl => match us, hl with | [_], _ => rfl
  have F13 := fun_mk (st := s__law_an_id) l13 c13 k13
  have b13 := F13.binds (ps := ["pot"]) fun _ _ _ _ _ _ us hl => match us, hl with | [_], _ => rfl
  have F14 := fun_mk (st := s__law_is_word) l14 c14 k14
  have b14 := F14.binds (ps := ["thing"]) fun _ _ _ _ _ _ us hl => match us, hl with | [_], _ => rfl
  have F15 := fun_mk (st := s__law_is_id) l15 c15 k15
  have b15 := F15.binds (ps := ["thing"]) fun _ _ _ _ _ _ us hl => match us, hl with | [_], _ => rfl
  have F16 := fun_mk (st := s__law_right) l16 c16 k16
  have b16 := F16.binds (ps := ["thing"]) fun _ _ _ _ _ _ us hl => match us, hl with | [_], _ => rfl
  have F17 := fun_mk (st := s_law) l17 c17 k17
  have b17 := F17.binds (ps := ["script"]) fun _ _ _ _ _ _ us hl => match us, hl with | [_], _ => rfl
  let T : Txt K mg := ⟨f0, _, F0, PySem.W.mg_of X G a0, b0, f1, _, F1, PySem.W.mg_of X G a1, b1, f2, _, F2, PySem.W.mg_of X G a2, b2, f3, _, F3, PySem.W.mg_of X G a3, b3, f4, _, F4, PySem.W.mg_of X G a4, b4, f5, _, F5, PySem.W.mg_of X G a5, b5, f6, _, F6, PySem.W.mg_of X G a6, b6, f7, _, F7, PySem.W.mg_of X G a7, b7, f8, _, F8, PySem.W.mg_of X G a8, b8, f9, _, F9, PySem.W.mg_of X G a9, b9, f10, _, F10, PySem.W.mg_of X G a10, b10, f11, _, F11, PySem.W.mg_of X G a11, b11, f12, _, F12, PySem.W.mg_of X G a12, b12, f13, _, F13, PySem.W.mg_of X G a13, b13, f14, _, F14, PySem.W.mg_of X G a14, b14, f15, _, F15, PySem.W.mg_of X G a15, b15, f16, _, F16, PySem.W.mg_of X G a16, b16, fa, _, F17, PySem.W.mg_of X G a17, b17, u0, PySem.W.mg_of X G v0, u1, PySem.W.mg_of X G v1, u2, PySem.W.mg_of X G v2, u3, PySem.W.mg_of X G v3, PySem.W.mg_none_of X G z0, PySem.W.mg_none_of X G z1, PySem.W.mg_none_of X G z2, PySem.W.mg_none_of X G z3, PySem.W.mg_none_of X G z4, PySem.W.mg_none_of X G z5, PySem.W.mg_none_of X G z6, PySem.W.mg_none_of X G z7, PySem.W.mg_none_of X G z8, PySem.W.mg_none_of X G z9, PySem.W.mg_none_of X G z10⟩
  exact ⟨PySem.W.fnOf "law" "law" (defArgs s_law) (defBody s_law) (defScope s_law) .none kV17 dc17 pm17 an17 cd17 ct17, fun s v => .of_eq rfl, fun base _ _ => ok_law (k := 0) T⟩
end K02
open PySem PySem.W PyProof.Rows
set_option maxHeartbeats 0 in
theorem PySem.Challenge.cw_forkrolls_k02_names_values_ids_holds : PySem.Challenge.rw_forkrolls_k02_names_values_ids.Holds := by
  w_on; o_law; k_head; (case hw => w_witness2)
  k_fill
  refine L2.walk_of (l := PySem.Challenge.rw_forkrolls_k02_names_values_ids) (n := 63) (k := 5) (x := "script") (CX := fun _ => L2.CX0) (sp := fun w => K02.spLaw _) rfl (by decide) rfl ⟨rfl, by decide, by decide⟩ (fun w h Y => PySem.W.kIn_of Y) ?F (fun _ _ a ns hl _ hS => ⟨a, ns, rfl, hS, hl, fun _ => rfl⟩) (fun _ _ _ _ _ h => h)
  case F =>
    intro w mg fa h KX G hmg
    refine' K02.all_mk KX G hmg ?a0 ?l0 ?c0 ?k0 ?a1 ?l1 ?c1 ?k1 ?a2 ?l2 ?c2 ?k2 ?a3 ?l3 ?c3 ?k3 ?a4 ?l4 ?c4 ?k4 ?a5 ?l5 ?c5 ?k5 ?a6 ?l6 ?c6 ?k6 ?a7 ?l7 ?c7 ?k7 ?a8 ?l8 ?c8 ?k8 ?a9 ?l9 ?c9 ?k9 ?a10 ?l10 ?c10 ?k10 ?a11 ?l11 ?c11 ?k11 ?a12 ?l12 ?c12 ?k12 ?a13 ?l13 ?c13 ?k13 ?a14 ?l14 ?c14 ?k14 ?a15 ?l15 ?c15 ?k15 ?a16 ?l16 ?c16 ?k16 ?a17 ?l17 ?c17 ?k17 ?v0 ?v1 ?v2 ?v3 ?z0 ?z1 ?z2 ?z3 ?z4 ?z5 ?z6 ?z7 ?z8 ?z9 ?z10
    (case a0 => k_is); (case l0 => k_is); (case c0 => k_is); (case k0 => k_is); (case a1 => k_is); (case l1 => k_is); (case c1 => k_is); (case k1 => k_is); (case a2 => k_is); (case l2 => k_is); (case c2 => k_is); (case k2 => k_is); (case a3 => k_is); (case l3 => k_is); (case c3 => k_is); (case k3 => k_is); (case a4 => k_is); (case l4 => k_is); (case c4 => k_is); (case k4 => k_is); (case a5 => k_is); (case l5 => k_is); (case c5 => k_is); (case k5 => k_is); (case a6 => k_is); (case l6 => k_is); (case c6 => k_is); (case k6 => k_is); (case a7 => k_is); (case l7 => k_is); (case c7 => k_is); (case k7 => k_is); (case a8 => k_is); (case l8 => k_is); (case c8 => k_is); (case k8 => k_is); (case a9 => k_is); (case l9 => k_is); (case c9 => k_is); (case k9 => k_is); (case a10 => k_is); (case l10 => k_is); (case c10 => k_is); (case k10 => k_is); (case a11 => k_is); (case l11 => k_is); (case c11 => k_is); (case k11 => k_is); (case a12 => k_is); (case l12 => k_is); (case c12 => k_is); (case k12 => k_is); (case a13 => k_is); (case l13 => k_is); (case c13 => k_is); (case k13 => k_is); (case a14 => k_is); (case l14 => k_is); (case c14 => k_is); (case k14 => k_is); (case a15 => k_is); (case l15 => k_is); (case c15 => k_is); (case k15 => k_is); (case a16 => k_is); (case l16 => k_is); (case c16 => k_is); (case k16 => k_is); (case a17 => k_is); (case l17 => k_is); (case c17 => k_is); (case k17 => k_is); (case v0 => k_is); (case v1 => k_is); (case v2 => k_is); (case v3 => k_is); (case z0 => k_is); (case z1 => k_is); (case z2 => k_is); (case z3 => k_is); (case z4 => k_is); (case z5 => k_is); (case z6 => k_is); (case z7 => k_is); (case z8 => k_is); (case z9 => k_is); (case z10 => k_is)
