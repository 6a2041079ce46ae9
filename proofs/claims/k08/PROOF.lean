import PyProof.Rows.All
import Wide.All
import OpenK.AllK
import Wide.FinOn
import HandS.Base
import HandS.Call
import HandS.List
import HandS.Comp
import HandS.Ends
import HandS.Dict
import HandS.Iter
import HandS.Text
import HandS.Words
import HandS.WordsList
import HandS.Wide
import HandS.IsInst
import HandS.Walk
import HandS.Style
import HandS.NoneIn
import PySem.Challenge.RW_bakeahead_k08_whole_crossing
set_option Elab.async false
set_option linter.all false
set_option maxRecDepth 100000
set_option maxHeartbeats 4000000
namespace Bk
open PySem PySem.Spec PyProof.Rows L2
/-! ### a def of the text with its promise -/
structure Def (P : Program) (w : World) (K : PySem.W.Frag) (mg : Str → Option Value) (base : Heap) (x : Str) (k : Nat) (ps : List Str) (sp : Sp) : Prop where
  ex : ∃ (f : Addr) (fd : FuncData), mg x = some (.ref f) ∧ PySem.W.keepIn K (.ref f) = true ∧ Binds K fd ps [] ∧ FnOk P w K mg base CX0 k f fd ps sp
theorem pe_callD {X : Cx} {x : Str} {k j : Nat} {ps : List Str} {sp : Sp} {e : Expr} {es : List Expr} {t : TA} {p pos : Pos} (D : Def X.prog X.w X.K X.mg X.base x k ps sp) (hr : Room j X.A) (hg : Gl X x) (ha : PA X (e :: es) t)
    (hkj : k ≤ j := by omega) (hdb : (x == ("__debug__" : Str)) = false := by decide) (he : starEach (e :: es) X.env = (false, eval e X.env) :: starEach es X.env := by rfl) (hpl : (backTo pos (starEach es X.env)).any (·.1) = false := by rfl) :
    PE X (.Call (.Name x p) (e :: es) [] pos) (tCall sp [] E0 t) := by
  obtain ⟨f, fd, hm, hk, hb, F⟩ := D.ex
  exact pe_call F (hr.mono hkj) hg hm hk hb .nil pass0 ha hdb he hpl
theorem same_upd {H : Hp} {p : Addr} {o : HO} (h : H p = none) : Same H (upd H p o) := fun b x e => by
  rw [upd_ne (ne_of_none e h)]
  exact e
/-- what H does not know may change -/
theorem same_mut {H H' : Hp} {p : Addr} {o : HO} (e : Same H H') (h : H p = none) : Same H (upd H' p o) := fun b x q => by
  rw [upd_ne (ne_of_none q h)]
  exact e b x q
theorem _root_.L2.SqL.upd_ {K : PySem.W.Frag} {H : Hp} {a p : Addr} {o : HO} {xs : List V} (h : SqL K H a xs) (hp : H p = none) : SqL K (upd H p o) a xs := (same_upd hp).seq h
theorem Same.tup {K : PySem.W.Frag} {H H' : Hp} {a : Addr} {xs : List V} (e : Same H H') (h : SqT K H a xs) : SqT K H' a xs := by
  rcases h with (h | ⟨o, h⟩) | h
  · exact .inl (.inl (e _ _ h))
  · exact .inl (.inr ⟨o, e _ _ h⟩)
  · exact .inr h
/-- the written part of a def's place -/
theorem cxK {CX : CXT} {P : Program} {w : World} {K : PySem.W.Frag} {mg : Str → Option Value} {base : Heap} {N : List Str} {qual : Str} {scope : Scope} {f : Addr} {cd : Value} {A : Around} {outer : List Env} {s : Shared} {H : Hp} {E : XK} :
    (cxOf CX P w K mg base N qual scope f cd A outer s H E).K = K := rfl
theorem rI_ii {C : Int → Int → Prop} {g : Int → Int → V} {i j : Int} {H : Hp} {Q : VK} : rI C g (.int i) (.int j) H Q = (C i j ∧ Q (g i j) H) := propext ⟨fun ⟨a, b, e1, e2, h⟩ => by cases e1; cases e2; exact h, fun h => ⟨i, j, rfl, rfl, h⟩⟩
theorem rI0_ii {g : Int → Int → V} {i j : Int} {H : Hp} {Q : VK} : rI0 g (.int i) (.int j) H Q = Q (g i j) H := propext ⟨fun ⟨a, b, e1, e2, h⟩ => by cases e1; cases e2; exact h, fun h => ⟨i, j, rfl, rfl, h⟩⟩
theorem rU_i {g : Int → V} {i : Int} {H : Hp} {Q : VK} : rU g (.int i) H Q = Q (g i) H := propext ⟨fun ⟨a, e1, h⟩ => by cases e1; exact h, fun h => ⟨i, rfl, h⟩⟩
theorem rIxL_r {K : PySem.W.Frag} {p : Addr} {i : Int} {H : Hp} {Q : VK} : rIxL K (.ref p) (.int i) H Q = ∃ xs v, SqL K H p xs ∧ atI xs i = some v ∧ Q v H := propext ⟨fun ⟨a, xs, b, v, e1, e2, h⟩ => by cases e1; cases e2; exact ⟨xs, v, h⟩, fun ⟨xs, v, h⟩ => ⟨p, xs, i, v, rfl, rfl, h⟩⟩
theorem rIxT_r {K : PySem.W.Frag} {p : Addr} {i : Int} {H : Hp} {Q : VK} : rIxT K (.ref p) (.int i) H Q = ∃ xs v, SqT K H p xs ∧ atI xs i = some v ∧ Q v H := propext ⟨fun ⟨a, xs, b, v, e1, e2, h⟩ => by cases e1; cases e2; exact ⟨xs, v, h⟩, fun ⟨xs, v, h⟩ => ⟨p, xs, i, v, rfl, rfl, h⟩⟩
theorem rAppend_r {l : Addr} {y : V} {H : Hp} {Q : VK} : rAppend (.ref l) [y] H Q = ∃ xs, H l = some (.lst xs) ∧ xs.length < sizeLine ∧ Q .non (upd H l (.lst (xs ++ [y]))) :=
  propext ⟨fun ⟨a, xs, b, e1, e2, h⟩ => by cases e1; cases e2; exact ⟨xs, h⟩, fun ⟨xs, h⟩ => ⟨l, xs, y, rfl, rfl, h⟩⟩
theorem tyL {K : PySem.W.Frag} {l : Addr} {H : Hp} {xs : List V} (h : SqL K H l xs) : tyV K "list" (.ref l) H := .inl ⟨rfl, xs, h⟩
theorem atI_of {α : Type} {xs : List α} {i : Int} {v : α} (h0 : 0 ≤ i) (h : xs[i.toNat]? = some v) : atI xs i = some v := by
  have e : i = ((i.toNat : Nat) : Int) := by omega
  rw [e]
  exact atI_nat h
theorem atI_map {α : Type} {f : α → V} {xs : List α} {i : Int} {v : α} (h0 : 0 ≤ i) (h : xs[i.toNat]? = some v) : atI (xs.map f) i = some (f v) := atI_of h0 (by rw [List.getElem?_map, h]; rfl)
theorem sz100 {n : Nat} (h : n ≤ 100000) : n ≤ sizeLine := Nat.le_trans h (by decide)
theorem sz100l {n : Nat} (h : n < 100000) : n < sizeLine := Nat.lt_of_lt_of_le h (by decide)
/-! ### calls of built-ins by named readings -/
def rMx : List V → Hp → VK → Prop := fun xs H Q => ∃ i j, xs = [.int i, .int j] ∧ Q (.int (if j > i then j else i)) H
def rMn : List V → Hp → VK → Prop := fun xs H Q => ∃ i j, xs = [.int i, .int j] ∧ Q (.int (if j < i then j else i)) H
theorem call_mx {X : Cx} (hc : X.calm = true) : CallR X (.builtin "max") rMx := call_max2 hc
theorem call_mn {X : Cx} (hc : X.calm = true) : CallR X (.builtin "min") rMn := call_min2 hc
theorem rMx_ii {i j : Int} {H : Hp} {Q : VK} : rMx [.int i, .int j] H Q = Q (.int (if j > i then j else i)) H := propext ⟨fun ⟨a, b, e, h⟩ => by cases e; exact h, fun h => ⟨i, j, rfl, h⟩⟩
theorem rMn_ii {i j : Int} {H : Hp} {Q : VK} : rMn [.int i, .int j] H Q = Q (.int (if j < i then j else i)) H := propext ⟨fun ⟨a, b, e, h⟩ => by cases e; exact h, fun h => ⟨i, j, rfl, h⟩⟩
/-- len of a list, of a tuple -/
def rLnL (K : PySem.W.Frag) : List V → Hp → VK → Prop := fun xs H Q => ∃ p ys, xs = [.ref p] ∧ SqL K H p ys ∧ Q (.int ys.length) H
def rLnT (K : PySem.W.Frag) : List V → Hp → VK → Prop := fun xs H Q => ∃ p ys, xs = [.ref p] ∧ SqT K H p ys ∧ Q (.int ys.length) H
theorem call_lnL {X : Cx} : CallR X (.builtin "len") (rLnL X.K) := fun pins s σ H xs us Q I r ⟨p, ys, e, h, q⟩ => call_len_seq pins s σ H xs us Q I r ⟨p, ys, e, .inl h, q⟩
theorem call_lnT {X : Cx} : CallR X (.builtin "len") (rLnT X.K) := fun pins s σ H xs us Q I r ⟨p, ys, e, h, q⟩ => call_len_seq pins s σ H xs us Q I r ⟨p, ys, e, .inr h, q⟩
theorem rLnL_r {K : PySem.W.Frag} {p : Addr} {H : Hp} {Q : VK} : rLnL K [.ref p] H Q = ∃ ys, SqL K H p ys ∧ Q (.int ys.length) H := propext ⟨fun ⟨a, ys, e, h⟩ => by cases e; exact ⟨ys, h⟩, fun ⟨ys, h⟩ => ⟨p, ys, rfl, h⟩⟩
theorem rLnT_r {K : PySem.W.Frag} {p : Addr} {H : Hp} {Q : VK} : rLnT K [.ref p] H Q = ∃ ys, SqT K H p ys ∧ Q (.int ys.length) H := propext ⟨fun ⟨a, ys, e, h⟩ => by cases e; exact ⟨ys, h⟩, fun ⟨ys, h⟩ => ⟨p, ys, rfl, h⟩⟩
/-- for k in range(n), range(a, b) -/
theorem q_range1 {ta : TA} {n : Int} {g : TG} {tb : TS} {D : Ends} {σ : L2.St} {H : Hp} (h : ta σ H fun vs H1 => vs = [.int n] ∧ H1 = H) (h1 : n < 2 ^ 62) (h0 : -(2 ^ 62) ≤ n) (Pv : Nat → L2.St → Hp → Prop)
    (hm : ∀ {P Q : List V → Hp → Prop}, ta σ H P → (∀ vs H', P vs H' → Q vs H') → ta σ H Q)
    (a : Pv 0 σ H) (hs : ∀ i σ H, i < n.toNat → Pv i σ H → g (.int (i : Int)) σ H fun σ2 H2 => tb { D with nx := Pv (i + 1), ct := Pv (i + 1), bk := D.nx } σ2 H2) (hd : ∀ σ H, Pv n.toNat σ H → D.nx σ H) : tFor (iRng1 ta) g tb D σ H := by
  refine hm h fun vs H1 e => ?_
  obtain ⟨rfl, rfl⟩ := e
  exact ⟨n, rfl, h0, h1, for_range (lo := 0) (n := n.toNat) Pv a (fun i σ H hi p => by rw [Int.zero_add]; exact hs i σ H hi p) hd⟩
/-! ### any thing, as data -/
mutual
inductive Th (K : PySem.W.Frag) (H : Hp) : V → PyData → Prop
  | non : Th K H .non .none
  | bl (b : Bool) : Th K H (.bl b) (.bool b)
  | int (i : Int) : Th K H (.int i) (.int i)
  | str (x : Str) : Th K H (.str x) (.str x)
  | lst {a : Addr} {xs : List V} {ds : List PyData} : SqL K H a xs → ThAll K H xs ds → Th K H (.ref a) (.list ds)
  | tup {a : Addr} {xs : List V} {ds : List PyData} : SqT K H a xs → ThAll K H xs ds → Th K H (.ref a) (.tuple ds)
  | dic {a : Addr} : H a = some (.dK []) → Th K H (.ref a) (.dict [])
inductive ThAll (K : PySem.W.Frag) (H : Hp) : List V → List PyData → Prop
  | nil : ThAll K H [] []
  | cons {v : V} {vs : List V} {d : PyData} {ds : List PyData} : Th K H v d → ThAll K H vs ds → ThAll K H (v :: vs) (d :: ds)
end
mutual
theorem Th.same {K : PySem.W.Frag} {H H' : Hp} (e : Same H H') : ∀ {v : V} {d : PyData}, Th K H v d → Th K H' v d
  | _, _, .non => .non
  | _, _, .bl b => .bl b
  | _, _, .int i => .int i
  | _, _, .str x => .str x
  | _, _, .lst h t => .lst (e.seq h) (ThAll.same e t)
  | _, _, .tup h t => .tup (Same.tup e h) (ThAll.same e t)
  | _, _, .dic h => .dic (e _ _ h)
theorem ThAll.same {K : PySem.W.Frag} {H H' : Hp} (e : Same H H') : ∀ {vs : List V} {ds : List PyData}, ThAll K H vs ds → ThAll K H' vs ds
  | _, _, .nil => .nil
  | _, _, .cons h t => .cons (Th.same e h) (ThAll.same e t)
end
theorem ThAll.length {K : PySem.W.Frag} {H : Hp} : ∀ {vs : List V} {ds : List PyData}, ThAll K H vs ds → vs.length = ds.length
  | _, _, .nil => rfl
  | _, _, .cons _ t => by rw [List.length_cons, List.length_cons, ThAll.length t]
theorem ThAll.get {K : PySem.W.Frag} {H : Hp} : ∀ {vs : List V} {ds : List PyData} {i : Nat} {v : V}, ThAll K H vs ds → vs[i]? = some v → ∃ d, ds[i]? = some d ∧ Th K H v d
  | _, _, _, _, .nil, e => by simp at e
  | _, _, 0, _, .cons h _, e => by
    rw [List.getElem?_cons_zero] at e
    cases e
    exact ⟨_, List.getElem?_cons_zero .., h⟩
  | _, _, i + 1, _, .cons _ t, e => by
    rw [List.getElem?_cons_succ] at e
    obtain ⟨d, h1, h2⟩ := ThAll.get t e
    exact ⟨d, by rw [List.getElem?_cons_succ]; exact h1, h2⟩
theorem ThAll.get' {K : PySem.W.Frag} {H : Hp} {vs : List V} {ds : List PyData} {i : Nat} {d : PyData} (t : ThAll K H vs ds) (e : ds[i]? = some d) : ∃ v, vs[i]? = some v ∧ Th K H v d := by
  have hi : i < vs.length := by
    rw [t.length]
    exact (List.getElem?_eq_some_iff.mp e).1
  obtain ⟨d', h1, h2⟩ := t.get (List.getElem?_eq_getElem hi)
  have e2 : d' = d := Option.some.inj (h1.symm.trans e)
  subst e2
  exact ⟨_, List.getElem?_eq_getElem hi, h2⟩
theorem ThAll.ints {K : PySem.W.Frag} {H : Hp} : ∀ ns : List Int, ThAll K H (ns.map V.int) (ns.map PyData.int)
  | [] => .nil
  | n :: r => .cons (.int n) (ThAll.ints r)
/-- the built-in classes that are asked for -/
inductive Cl | int | bool | list | tuple | str | dict
def Cl.name : Cl → String
  | .int => "int" | .bool => "bool" | .list => "list" | .tuple => "tuple" | .str => "str" | .dict => "dict"
def kindD : PyData → String
  | .none => "NoneType" | .bool _ => "bool" | .int _ => "int" | .str _ => "str" | .list _ => "list" | .tuple _ => "tuple" | .dict _ => "dict"
def isD : Cl → PyData → Bool
  | .int, .int _ => true
  | .int, .bool _ => true
  | .bool, .bool _ => true
  | .list, .list _ => true
  | .tuple, .tuple _ => true
  | .str, .str _ => true
  | .dict, .dict _ => true
  | _, _ => false
def isN (c : Cl) (n : String) : Bool := n == c.name || (n == "bool" && c.name == "int")
theorem isN_kit : ∀ (c : Cl), ∀ n ∈ ["NoneType", "bool", "int", "str", "list", "tuple", "dict"], kitB n c.name = some (isN c n) := by
  intro c
  cases c <;> decide +kernel
theorem kindD_mem (d : PyData) : kindD d ∈ ["NoneType", "bool", "int", "str", "list", "tuple", "dict"] := by cases d <;> simp [kindD]
theorem isN_tab : ∀ c : Cl, isN c "NoneType" = isD c .none ∧ isN c "bool" = isD c (.bool true) ∧ isN c "int" = isD c (.int 0) ∧ isN c "str" = isD c (.str "") ∧ isN c "list" = isD c (.list []) ∧ isN c "tuple" = isD c (.tuple []) ∧ isN c "dict" = isD c (.dict []) := by
  intro c
  cases c <;> decide +kernel
theorem isD_N (c : Cl) (d : PyData) : isN c (kindD d) = isD c d := by
  obtain ⟨h1, h2, h3, h4, h5, h6, h7⟩ := isN_tab c
  cases d with
  | none => exact h1
  | bool b => exact h2.trans (by cases c <;> rfl)
  | int i => exact h3.trans (by cases c <;> rfl)
  | str x => exact h4.trans (by cases c <;> rfl)
  | list x => exact h5.trans (by cases c <;> rfl)
  | tuple x => exact h6.trans (by cases c <;> rfl)
  | dict x => exact h7.trans (by cases c <;> rfl)
theorem isD_kit {K : PySem.W.Frag} (c : Cl) (d : PyData) : PySem.W.kitOne K (.type (kindD d)) (.type c.name) = some (isD c d) := by
  rw [← isD_N]
  exact kit_ty (isN_kit c _ (kindD_mem d))
theorem Th.ty {K : PySem.W.Frag} {H : Hp} {v : V} {d : PyData} (h : Th K H v d) : TyX K H v (.type (kindD d)) := by
  cases h with
  | non => exact .base .non
  | bl b => exact .base (.bl b)
  | int i => exact .base (.int i)
  | str x => exact .base (.str x)
  | lst h _ =>
    rcases h with (h | ⟨o, h⟩) | ⟨o, its, n, h, c, _⟩
    · exact .base (.lst h)
    · exact .base (.frz h)
    · exact .kList h c
  | tup h _ =>
    rcases h with (h | ⟨o, h⟩) | ⟨o, its, n, h, c, _⟩
    · exact .base (.tup h)
    · exact .fTuple h
    · exact .kTuple h c
  | dic h => exact .base (.dK h)
/-- isinstance(x, a built-in class) of any thing -/
def rIsD (K : PySem.W.Frag) (c : Cl) : List V → Hp → VK → Prop := fun xs H Q => ∃ x d, xs = [x, .ty c.name] ∧ Th K H x d ∧ Q (.bl (isD c d)) H
theorem call_isD {X : Cx} (c : Cl) : CallR X (.builtin "isinstance") (rIsD X.K c) := fun pins s σ H xs us Q I r ⟨x, d, e, h, q⟩ =>
  call_isi pins s σ H xs us Q I r ⟨x, .ty c.name, .type (kindD d), .type c.name, isD c d, e, .ty _, h.ty, isD_kit c d, q⟩
theorem rIsD_int {K : PySem.W.Frag} {x : V} {H : Hp} {Q : VK} : rIsD K .int [x, .ty "int"] H Q = ∃ d, Th K H x d ∧ Q (.bl (isD .int d)) H := propext ⟨fun ⟨y, d, e, h⟩ => by cases e; exact ⟨d, h⟩, fun ⟨d, h⟩ => ⟨x, d, rfl, h⟩⟩
theorem rIsD_bool {K : PySem.W.Frag} {x : V} {H : Hp} {Q : VK} : rIsD K .bool [x, .ty "bool"] H Q = ∃ d, Th K H x d ∧ Q (.bl (isD .bool d)) H := propext ⟨fun ⟨y, d, e, h⟩ => by cases e; exact ⟨d, h⟩, fun ⟨d, h⟩ => ⟨x, d, rfl, h⟩⟩
theorem rIsD_list {K : PySem.W.Frag} {x : V} {H : Hp} {Q : VK} : rIsD K .list [x, .ty "list"] H Q = ∃ d, Th K H x d ∧ Q (.bl (isD .list d)) H := propext ⟨fun ⟨y, d, e, h⟩ => by cases e; exact ⟨d, h⟩, fun ⟨d, h⟩ => ⟨x, d, rfl, h⟩⟩
theorem rIsD_tuple {K : PySem.W.Frag} {x : V} {H : Hp} {Q : VK} : rIsD K .tuple [x, .ty "tuple"] H Q = ∃ d, Th K H x d ∧ Q (.bl (isD .tuple d)) H := propext ⟨fun ⟨y, d, e, h⟩ => by cases e; exact ⟨d, h⟩, fun ⟨d, h⟩ => ⟨x, d, rfl, h⟩⟩
def wholeD : PyData → Bool
  | .int _ => true
  | _ => false
def numD : PyData → Bool
  | .int i => decide (0 ≤ i) && decide (i ≤ 1000000000)
  | _ => false
theorem wholeD_is (d : PyData) : (isD .int d && !isD .bool d) = wholeD d := by cases d <;> rfl
theorem pe_globI {X : Cx} {x : Str} {i : Int} {t : Tok} {pos : Pos} (hg : Gl X x) (hm : X.mg x = some (.int i t)) (hd : (x == ("__debug__" : Str)) = false := by decide) : PE X (.Name x pos) (tC (.int i)) := pe_glob hg hm ⟨_, rfl⟩ hd
/-- isinstance(x, int) and not isinstance(x, bool) -/
theorem e_whole {K : PySem.W.Frag} {i j : Nat} {σ : L2.St} {H : Hp} {x : V} {d : PyData} {Q : VK} (hx : Th K H x d) (hi : σ[i]? = some (some x)) (hj : σ[j]? = some (some x)) (q : Q (.bl (wholeD d)) H) :
    tAndV (tCB (rIsD K .int) (tCons (tVar i) (tCons (tC (.ty "int")) tNil))) (tNotV (tCB (rIsD K .bool) (tCons (tVar j) (tCons (tC (.ty "bool")) tNil)))) σ H Q := by
  refine ⟨x, hi, x, d, rfl, hx, isD .int d, rfl, ite2 (fun h => ⟨x, hj, x, d, rfl, hx, isD .bool d, rfl, ?_⟩) (fun h => ?_)⟩
  · rw [← wholeD_is, h] at q
    exact q
  · rw [← wholeD_is, Bool.eq_false_iff.mpr h] at q
    exact q
theorem cutV_mem {xs : List V} {lo hi : Option Int} {x : V} (h : x ∈ cutV xs lo hi) : x ∈ xs := List.mem_of_mem_drop (List.mem_of_mem_take h)
theorem cutV_length (xs : List V) (lo hi : Option Int) : (cutV xs lo hi).length ≤ xs.length := by
  unfold cutV
  rw [List.length_take, List.length_drop]
  omega
theorem gCons_c {t : TG} {u : TGs} {v : V} {r : List V} {σ : L2.St} {H : Hp} {Q : L2.St → Hp → Prop} : gCons t u (v :: r) σ H Q = t v σ H fun σ' H' => u r σ' H' Q := propext ⟨fun ⟨a, b, e, h⟩ => by cases e; exact h, fun h => ⟨v, r, rfl, h⟩⟩
theorem gNil_n {σ : L2.St} {H : Hp} {Q : L2.St → Hp → Prop} : gNil [] σ H Q = Q σ H := propext ⟨fun h => h.2, fun h => ⟨rfl, h⟩⟩
theorem five {α : Type} {l : List α} (h : l.length = 5) : ∃ a b c d e, l = [a, b, c, d, e] := by
  match l, h with
  | [a, b, c, d, e], _ => exact ⟨a, b, c, d, e, rfl⟩
/-! ### loops and comprehensions, kept shut -/
def LoopR (J : It) (g : TG) (tb : TS) (D : Ends) (σ : L2.St) (H : Hp) : Prop := ∃ W : Nat → Nat → L2.St → Hp → Prop, (∃ m, W 0 m σ H) ∧ ∀ i m σ H, W i m σ H →
  (J.stop i H ∧ D.nx σ H) ∨ (J.go i H ∧ ∃ N : L2.St → Hp → Prop, (∀ σ' H', N σ' H' → ∃ m', m' < m ∧ W (i + 1) m' σ' H') ∧ ∀ x H', J.yld i H x H' → g x σ H' fun σ2 H2 => tb { D with nx := N, ct := N, bk := D.nx } σ2 H2)
theorem tFor_eq {wi : TI} {g : TG} {tb : TS} {D : Ends} {σ : L2.St} {H : Hp} : tFor wi g tb D σ H = wi σ H fun J H1 => LoopR J g tb D σ H1 := rfl
theorem LoopR.by {J : It} {n : Nat} {G : Hp → Prop} {Y : Nat → Hp → V → Hp → Prop} (w : Walk J n G Y) {g : TG} {tb : TS} {D : Ends} {σ : L2.St} {H : Hp} (Pv : Nat → L2.St → Hp → Prop) (h0 : Pv 0 σ H) (hG : ∀ i σ H, i ≤ n → Pv i σ H → G H)
    (hs : ∀ i x σ H H', i < n → Pv i σ H → Y i H x H' → g x σ H' fun σ2 H2 => tb { D with nx := Pv (i + 1), ct := Pv (i + 1), bk := D.nx } σ2 H2) (hd : ∀ σ H, Pv n σ H → D.nx σ H) : LoopR J g tb D σ H := for_it w Pv h0 hG hs hd
def LcR (J : It) (g : TG) (tt : TT) (te : TE) (vs : List Nat) (σ : L2.St) (D : Addr) (H1 : Hp) (Qd : Hp → Prop) : Prop := ∃ W : Nat → Nat → Hp → Prop, (∃ m, W 0 m (upd H1 D (.lst []))) ∧ ∀ i m H, W i m H →
  (J.stop i H ∧ Qd H) ∨ (J.go i H ∧ ∃ Nx : Hp → Prop, (∀ H', Nx H' → ∃ m', m' < m ∧ W (i + 1) m' H') ∧ ∀ x H', J.yld i H x H' → g x (wipe σ vs) H' fun σ2 H2 => wipe σ2 vs = wipe σ vs ∧ tt σ2 H2 fun b H3 =>
    if b = true then te σ2 H3 fun y H4 => ∃ acc, H4 D = some (.lst acc) ∧ acc.length < sizeLine ∧ Nx (upd H4 D (.lst (acc ++ [y]))) else Nx H3)
theorem tLc_eq {wi : TI} {g : TG} {tt : TT} {te : TE} {vs : List Nat} {σ : L2.St} {H : Hp} {Q : VK} : tLc wi g tt te vs σ H Q = wi σ H fun J H1 => ∀ D, H1 D = none → LcR J g tt te vs σ D H1 (fun H => Q (.ref D) H) := rfl
theorem LcR.by {J : It} {n : Nat} {G : Hp → Prop} {Y : Nat → Hp → V → Hp → Prop} (w : Walk J n G Y) {g : TG} {tt : TT} {te : TE} {vs : List Nat} {σ : L2.St} {H1 : Hp} {D : Addr} {Qd : Hp → Prop} (Pv : Nat → Hp → Prop) (h0 : Pv 0 (upd H1 D (.lst []))) (hG : ∀ i H, i ≤ n → Pv i H → G H)
    (hs : ∀ i x H H', i < n → Pv i H → Y i H x H' → g x (wipe σ vs) H' fun σ2 H2 => wipe σ2 vs = wipe σ vs ∧ tt σ2 H2 fun b H3 =>
      if b = true then te σ2 H3 fun y H4 => ∃ acc, H4 D = some (.lst acc) ∧ acc.length < sizeLine ∧ Pv (i + 1) (upd H4 D (.lst (acc ++ [y]))) else Pv (i + 1) H3) (hd : ∀ H, Pv n H → Qd H) : LcR J g tt te vs σ D H1 Qd := lc_it w Pv h0 hG hs hd
theorem iList_r {K : PySem.W.Frag} {te : TE} {σ : L2.St} {H : Hp} {R : It → Hp → Prop} : iList K te σ H R = te σ H fun x H1 => ∃ a, x = .ref a ∧ (∃ xs, SqL K H1 a xs) ∧ R (Itl K a) H1 := rfl
theorem gTup_r {K : PySem.W.Frag} {n : Nat} {t : TGs} {a : Addr} {σ : L2.St} {H : Hp} {Q : L2.St → Hp → Prop} : gTup K n t (.ref a) σ H Q = ∃ xs, SqT K H a xs ∧ xs.length = n ∧ t xs σ H Q := propext ⟨fun ⟨b, xs, e, h⟩ => by cases e; exact ⟨xs, h⟩, fun ⟨xs, h⟩ => ⟨a, xs, rfl, h⟩⟩
def rEnum (K : PySem.W.Frag) (vs : List V) (H1 : Hp) (R : It → Hp → Prop) : Prop := ∃ a xs, vs = [.ref a] ∧ SqL K H1 a xs ∧ R (Ite K a) H1
theorem iEnum_eq {K : PySem.W.Frag} {ta : TA} {σ : L2.St} {H : Hp} {R : It → Hp → Prop} : iEnum K ta σ H R = ta σ H fun vs H1 => rEnum K vs H1 R := rfl
theorem rEnum_r {K : PySem.W.Frag} {a : Addr} {H : Hp} {R : It → Hp → Prop} : rEnum K [.ref a] H R = ∃ xs, SqL K H a xs ∧ R (Ite K a) H := propext ⟨fun ⟨b, xs, e, h⟩ => by cases e; exact ⟨xs, h⟩, fun ⟨xs, h⟩ => ⟨a, xs, rfl, h⟩⟩
def rZip (K : PySem.W.Frag) (vs : List V) (H1 : Hp) (R : It → Hp → Prop) : Prop := ∃ a b xs ys, vs = [.ref a, .ref b] ∧ SqL K H1 a xs ∧ SqL K H1 b ys ∧ R (Itz K a b) H1
theorem iZip_eq {K : PySem.W.Frag} {ta : TA} {σ : L2.St} {H : Hp} {R : It → Hp → Prop} : iZip K ta σ H R = ta σ H fun vs H1 => rZip K vs H1 R := rfl
theorem rZip_r {K : PySem.W.Frag} {a b : Addr} {H : Hp} {R : It → Hp → Prop} : rZip K [.ref a, .ref b] H R = ∃ xs ys, SqL K H a xs ∧ SqL K H b ys ∧ R (Itz K a b) H := propext ⟨fun ⟨_, _, xs, ys, e, h⟩ => by cases e; exact ⟨xs, ys, h⟩, fun ⟨xs, ys, h⟩ => ⟨a, b, xs, ys, rfl, h⟩⟩
def rRng1 (vs : List V) (H1 : Hp) (R : It → Hp → Prop) : Prop := ∃ j : Int, vs = [.int j] ∧ -(2 ^ 62) ≤ j ∧ j < 2 ^ 62 ∧ R (Itr 0 j.toNat) H1
theorem iRng1_eq {ta : TA} {σ : L2.St} {H : Hp} {R : It → Hp → Prop} : iRng1 ta σ H R = ta σ H fun vs H1 => rRng1 vs H1 R := rfl
theorem rRng1_i {j : Int} {H : Hp} {R : It → Hp → Prop} : rRng1 [.int j] H R = (-(2 ^ 62) ≤ j ∧ j < 2 ^ 62 ∧ R (Itr 0 j.toNat) H) := propext ⟨fun ⟨_, e, h⟩ => by cases e; exact h, fun h => ⟨j, rfl, h⟩⟩
def rRng2 (vs : List V) (H1 : Hp) (R : It → Hp → Prop) : Prop := ∃ i j : Int, vs = [.int i, .int j] ∧ (-(2 ^ 62) ≤ i ∧ i < 2 ^ 62 ∧ -(2 ^ 62) ≤ j ∧ j < 2 ^ 62) ∧ R (Itr i (j - i).toNat) H1
theorem iRng2_eq {ta : TA} {σ : L2.St} {H : Hp} {R : It → Hp → Prop} : iRng2 ta σ H R = ta σ H fun vs H1 => rRng2 vs H1 R := rfl
theorem rRng2_i {i j : Int} {H : Hp} {R : It → Hp → Prop} : rRng2 [.int i, .int j] H R = ((-(2 ^ 62) ≤ i ∧ i < 2 ^ 62 ∧ -(2 ^ 62) ≤ j ∧ j < 2 ^ 62) ∧ R (Itr i (j - i).toNat) H) := propext ⟨fun ⟨_, _, e, h⟩ => by cases e; exact h, fun h => ⟨i, j, rfl, h⟩⟩
theorem rSlL_r {K : PySem.W.Frag} {a : Addr} {lo hi : Option Int} {H : Hp} {Q : VK} : rSlL K (.ref a) lo hi H Q = ∃ xs, SqL K H a xs ∧ ∀ p, H p = none → Q (.ref p) (upd H p (.lst (cutV xs lo hi))) := propext ⟨fun ⟨_, xs, e, h⟩ => by cases e; exact ⟨xs, h⟩, fun ⟨xs, h⟩ => ⟨a, xs, rfl, h⟩⟩
theorem rCat_r {l b : Addr} {H : Hp} {Q : VK} : rCat (.ref l) (.ref b) H Q = ∃ xs zs, H l = some (.lst xs) ∧ H b = some (.lst zs) ∧ xs.length + zs.length ≤ sizeLine ∧ ∀ p, H p = none → Q (.ref p) (upd H p (.lst (xs ++ zs))) := propext ⟨fun ⟨_, _, xs, zs, e1, e2, h⟩ => by cases e1; cases e2; exact ⟨xs, zs, h⟩, fun ⟨xs, zs, h⟩ => ⟨l, b, xs, zs, rfl, rfl, h⟩⟩
end Bk

namespace Bk
open PySem PySem.Spec PyProof.Rows L2
/-! ### a comprehension without tests, by what each turn gives -/
theorem LcR.map {J : It} {n : Nat} {G : Hp → Prop} {Y : Nat → Hp → V → Hp → Prop} (w : Walk J n G Y) {g : TG} {te : TE} {vs : List Nat} {σ : L2.St} {H1 : Hp} {D : Addr} {Qd : Hp → Prop} (ys : List V) (hD : H1 D = none) (hn : ys.length = n) (hz : n ≤ 100000)
    (hG : ∀ H, Same H1 H → G H) (hY : ∀ i H x H', Y i H x H' → Same H H')
    (hs : ∀ i x y H H', i < n → Same H1 H' → Y i H x H' → ys[i]? = some y → ∀ R : V → Hp → Prop, (∀ H4, Same H' H4 → R y H4) → g x (wipe σ vs) H' fun σ2 H2 => wipe σ2 vs = wipe σ vs ∧ te σ2 H2 R)
    (hd : ∀ H, Same H1 H → H D = some (.lst ys) → Qd H) : LcR J g tYes te vs σ D H1 Qd := by
  refine LcR.by w (fun i H => Same H1 H ∧ H D = some (.lst (ys.take i))) ⟨same_upd hD, by rw [upd_same]; rfl⟩ (fun i H _ h => hG H h.1) (fun i x H H' hi h y => ?_) (fun H h => hd H h.1 ?_)
  · have s := hY _ _ _ _ y
    have e : ys[i]? = some (ys[i]'(by omega)) := List.getElem?_eq_getElem (by omega)
    refine hs i x _ H H' hi (h.1.trans s) y e _ fun H4 s4 => ?_
    have e4 := s4 _ _ (s _ _ h.2)
    refine ⟨_, e4, ?_, same_mut ((h.1.trans s).trans s4) hD, ?_⟩
    · rw [List.length_take]
      exact sz100l (by omega)
    · rw [upd_same, List.take_add_one, e]
      rfl
  · rw [← hn, List.take_length] at h
    exact h.2
theorem yat_same {xs : List V} {i : Nat} {H H' : Hp} {x : V} (y : YAt xs i H x H') : Same H H' := by
  rw [y.1]
  exact Same.refl H
theorem yfn_same {f : Nat → V} {i : Nat} {H H' : Hp} {x : V} (y : YFn f i H x H') : Same H H' := by
  rw [y.1]
  exact Same.refl H
theorem ypair_same {xs ys : Nat → Option V} {i : Nat} {H H' : Hp} {x : V} (y : YPair xs ys i H x H') : Same H H' := by
  obtain ⟨T, a, b, _, hT, e, _⟩ := y
  rw [e]
  exact same_upd hT
theorem rAll_r {K : PySem.W.Frag} {p : Addr} {H : Hp} {Q : VK} : rAll K [.ref p] H Q = ∃ bs : List Bool, SqL K H p (bs.map V.bl) ∧ Q (.bl (bs.all id)) H := propext ⟨fun ⟨a, bs, e, h⟩ => by cases e; exact ⟨bs, h⟩, fun ⟨bs, h⟩ => ⟨p, bs, rfl, h⟩⟩
theorem rSum_r {K : PySem.W.Frag} {p : Addr} {H : Hp} {Q : VK} : rSum K [.ref p] H Q = ∃ ns : List Int, SqL K H p (ns.map V.int) ∧ Q (.int ns.sum) H := propext ⟨fun ⟨a, bs, e, h⟩ => by cases e; exact ⟨bs, h⟩, fun ⟨bs, h⟩ => ⟨p, bs, rfl, h⟩⟩
/-! ### what a bakery is, as data -/
structure Day where
  want : Int
  loaf : Int
  keep : Int
  fine : Option Int
structure Good where
  days : List Day
  life : Option Int
structure Bak where
  lights : List Int
  bound : Option Int
  goods : List Good
def optD : Option Int → PyData
  | none => .none
  | some i => .int i
def dayD (d : Day) : PyData := .tuple [.int d.want, .int d.loaf, .int d.keep, optD d.fine]
def goodD (g : Good) : PyData := .tuple [.list (g.days.map dayD), optD g.life]
def bakD (b : Bak) : PyData := .tuple [.list (b.lights.map PyData.int), optD b.bound, .list (b.goods.map goodD)]
def tupB (n : Nat) : PyData → Bool
  | .tuple ds => decide (ds.length = n)
  | _ => false
def listB (lo hi : Nat) : PyData → Bool
  | .list ds => decide (lo ≤ ds.length) && decide (ds.length ≤ hi)
  | _ => false
def lightsB : PyData → Bool
  | .list ds => listB 1 40 (.list ds) && ds.all numD
  | _ => false
def boundB : PyData → Bool
  | .none => true
  | .int i => numD (.int i) && decide (1 ≤ i)
  | _ => false
def lifeB : PyData → Bool
  | .none => true
  | .int i => decide (0 ≤ i) && decide (i ≤ 40)
  | _ => false
def noneB : PyData → Bool
  | .none => true
  | _ => false
def dayB : PyData → Bool
  | .tuple [a, b, c, f] => (numD a && numD b && numD c) && (noneB f || numD f)
  | _ => false
def goodFormB (n : Nat) : PyData → Bool
  | .tuple [ds, l] => listB n n ds && lifeB l
  | _ => false
def bakFormB : PyData → Bool
  | .tuple [l, b, g] => lightsB l && (boundB b && listB 1 2 g)
  | _ => false
/-- a good of n days -/
def goodB (n : Nat) : PyData → Bool
  | .tuple [.list ds, l] => decide (ds.length = n) && lifeB l && ds.all dayB
  | _ => false
def bakB : PyData → Bool
  | .tuple [.list ls, b, .list gs] => lightsB (.list ls) && boundB b && listB 1 2 (.list gs) && gs.all (goodB ls.length)
  | _ => false
theorem Th.isNon {K : PySem.W.Frag} {H : Hp} {x : V} {d : PyData} (h : Th K H x d) : decide (x = V.non) = noneB d := by cases h <;> rfl
theorem qb {Q : VK} {H : Hp} {a b : Bool} (e : a = b) (q : Q (.bl b) H) : Q (.bl a) H := by
  rw [e]
  exact q
theorem two {α : Type} {l : List α} (h : l.length = 2) : ∃ a b, l = [a, b] := by
  match l, h with
  | [a, b], _ => exact ⟨a, b, rfl⟩
theorem three {α : Type} {l : List α} (h : l.length = 3) : ∃ a b c, l = [a, b, c] := by
  match l, h with
  | [a, b, c], _ => exact ⟨a, b, c, rfl⟩
theorem four {α : Type} {l : List α} (h : l.length = 4) : ∃ a b c d, l = [a, b, c, d] := by
  match l, h with
  | [a, b, c, d], _ => exact ⟨a, b, c, d, rfl⟩
theorem goodB_inv {n : Nat} {d : PyData} (h : goodB n d = true) : ∃ ds l, d = .tuple [.list ds, l] ∧ ds.length = n ∧ lifeB l = true ∧ ds.all dayB = true := by
  unfold goodB at h
  split at h
  · rename_i ds l
    rw [Bool.and_eq_true, Bool.and_eq_true] at h
    exact ⟨ds, l, rfl, of_decide_eq_true h.1.1, h.1.2, h.2⟩
  · cases h
theorem bakB_inv {d : PyData} (h : bakB d = true) : ∃ ls b gs, d = .tuple [.list ls, b, .list gs] ∧ lightsB (.list ls) = true ∧ boundB b = true ∧ listB 1 2 (.list gs) = true ∧ gs.all (goodB ls.length) = true := by
  unfold bakB at h
  split at h
  · rename_i ls b gs
    rw [Bool.and_eq_true, Bool.and_eq_true, Bool.and_eq_true] at h
    exact ⟨ls, b, gs, rfl, h.1.1.1, h.1.1.2, h.1.2, h.2⟩
  · cases h
/-- a bakery, part by part -/
theorem Th.bak {K : PySem.W.Frag} {H : Hp} {x : V} {b : Bak} (h : Th K H x (bakD b)) : ∃ (a l : Addr) (v : V) (g : Addr) (xl xg : List V), x = .ref a ∧ SqT K H a [.ref l, v, .ref g] ∧ SqL K H l xl ∧ ThAll K H xl (b.lights.map PyData.int) ∧ Th K H v (optD b.bound) ∧ SqL K H g xg ∧ ThAll K H xg (b.goods.map goodD) := by
  cases h with
  | tup ht hta =>
  cases hta with
  | cons t1 hta => cases hta with
  | cons t2 hta => cases hta with
  | cons t3 hta =>
  cases hta
  cases t1 with
  | lst h1 h2 =>
  cases t3 with
  | lst h3 h4 =>
  exact ⟨_, _, _, _, _, _, rfl, ht, h1, h2, t2, h3, h4⟩
def optV : Option Int → V
  | none => .non
  | some i => .int i
theorem Th.opt {K : PySem.W.Frag} {H : Hp} {v : V} {o : Option Int} (h : Th K H v (optD o)) : v = optV o := by
  cases o with
  | none =>
    cases h
    rfl
  | some i =>
    cases h
    rfl
theorem Th.optV {K : PySem.W.Frag} {H : Hp} (o : Option Int) : Th K H (Bk.optV o) (optD o) := by
  cases o with
  | none => exact .non
  | some i => exact .int i
theorem Th.day {K : PySem.W.Frag} {H : Hp} {x : V} {d : Day} (h : Th K H x (dayD d)) : ∃ t, x = .ref t ∧ SqT K H t [.int d.want, .int d.loaf, .int d.keep, Bk.optV d.fine] := by
  cases h with
  | tup ht hta =>
  cases hta with
  | cons t1 hta => cases hta with
  | cons t2 hta => cases hta with
  | cons t3 hta => cases hta with
  | cons t4 hta =>
  cases hta
  cases t1
  cases t2
  cases t3
  rw [t4.opt] at ht
  exact ⟨_, rfl, ht⟩
theorem Th.good {K : PySem.W.Frag} {H : Hp} {x : V} {g : Good} (h : Th K H x (goodD g)) : ∃ t a xs, x = .ref t ∧ SqT K H t [.ref a, Bk.optV g.life] ∧ SqL K H a xs ∧ ThAll K H xs (g.days.map dayD) := by
  cases h with
  | tup ht hta =>
  cases hta with
  | cons t1 hta => cases hta with
  | cons t2 hta =>
  cases hta
  cases t1 with
  | lst h1 h2 =>
  rw [t2.opt] at ht
  exact ⟨_, _, _, rfl, ht, h1, h2⟩
theorem ThAll.drop {K : PySem.W.Frag} {H : Hp} : ∀ {vs : List V} {ds : List PyData} (n : Nat), ThAll K H vs ds → ThAll K H (vs.drop n) (ds.drop n)
  | _, _, 0, h => h
  | _, _, _ + 1, .nil => .nil
  | _, _, n + 1, .cons _ t => ThAll.drop n t
theorem ThAll.take {K : PySem.W.Frag} {H : Hp} : ∀ {vs : List V} {ds : List PyData} (n : Nat), ThAll K H vs ds → ThAll K H (vs.take n) (ds.take n)
  | _, _, 0, _ => .nil
  | _, _, _ + 1, .nil => .nil
  | _, _, n + 1, .cons h t => .cons h (ThAll.take n t)
theorem ThAll.append {K : PySem.W.Frag} {H : Hp} : ∀ {vs ws : List V} {ds es : List PyData}, ThAll K H vs ds → ThAll K H ws es → ThAll K H (vs ++ ws) (ds ++ es)
  | _, _, _, _, .nil, h => h
  | _, _, _, _, .cons h t, h2 => .cons h (ThAll.append t h2)
theorem cutV_nat (xs : List V) (i j : Nat) : cutV xs (some (i : Int)) (some (j : Int)) = (xs.drop i).take (j - i) := by
  unfold cutV
  rw [HT.sIx_nat, HT.sIx_nat]
  by_cases hi : i ≤ xs.length
  · rw [Nat.min_eq_left hi]
    by_cases hj : j ≤ xs.length
    · rw [Nat.min_eq_left hj]
    · rw [Nat.min_eq_right (by omega), List.take_of_length_le (by rw [List.length_drop]; omega), List.take_of_length_le (by rw [List.length_drop]; omega)]
  · rw [show min i xs.length = xs.length by omega, List.drop_of_length_le (Nat.le_refl _), List.drop_of_length_le (show xs.length ≤ i by omega), List.take_nil, List.take_nil]
/-! ### the price of a loaf -/
def sumO : List (Option Int) → Option Int
  | [] => some 0
  | none :: _ => none
  | some x :: r => (sumO r).map (x + ·)
def keepsL (ds : List Day) (i j : Nat) : Int := (((ds.drop i).take (j - i)).map Day.keep).sum
def finesL (ds : List Day) (i j : Nat) : Option Int := sumO (((ds.drop i).take (j - i)).map Day.fine)
/-- a loaf of a good, baked on day j, given for day k -/
def loafP (g : Good) (j k : Nat) : Option Int := match g.days[j]? with
  | none => none
  | some d => if k < j then (finesL g.days k j).map (d.loaf + ·) else match g.life with
    | none => some (d.loaf + keepsL g.days j k)
    | some l => if l < (k : Int) - (j : Int) then none else some (d.loaf + keepsL g.days j k)
theorem sumO_none : ∀ {l : List (Option Int)}, inV .non (l.map optV) = true → sumO l = none
  | [], h => by cases h
  | none :: _, _ => rfl
  | some x :: r, h => by
    have h2 : inV .non (r.map optV) = true := by
      have h1 : (eqV (.int x) .non || inV .non (r.map optV)) = true := h
      simpa [eqV] using h1
    show (sumO r).map (x + ·) = none
    rw [sumO_none h2]
    rfl
theorem sumO_some : ∀ {l : List (Option Int)}, inV .non (l.map optV) = false → ∃ ns : List Int, l.map optV = ns.map V.int ∧ sumO l = some ns.sum
  | [], _ => ⟨[], rfl, rfl⟩
  | none :: r, h => by
    have h1 : (eqV .non .non || inV .non (r.map optV)) = false := h
    simp [eqV] at h1
  | some x :: r, h => by
    have h2 : inV .non (r.map optV) = false := by
      have h1 : (eqV (.int x) .non || inV .non (r.map optV)) = false := h
      simpa [eqV] using h1
    obtain ⟨ns, e1, e2⟩ := sumO_some h2
    refine ⟨x :: ns, ?_, ?_⟩
    · show V.int x :: r.map optV = V.int x :: ns.map V.int
      rw [e1]
    · show (sumO r).map (x + ·) = some (x :: ns).sum
      rw [e2, List.sum_cons]
      rfl
theorem rIn_r {K : PySem.W.Frag} {x : V} {p : Addr} {H : Hp} {Q : VK} : rIn K false x (.ref p) H Q = ∃ xs, (SqL K H p xs ∨ SqT K H p xs) ∧ flatV x = true ∧ xs.all flatV = true ∧ Q (.bl (inV x xs)) H :=
  propext ⟨fun ⟨_, xs, e, h⟩ => by cases e; exact ⟨xs, h⟩, fun ⟨xs, h⟩ => ⟨p, xs, rfl, h⟩⟩
theorem flat_opts (l : List (Option Int)) : (l.map optV).all flatV = true := by
  rw [List.all_eq_true]
  intro x hx
  obtain ⟨o, _, rfl⟩ := List.mem_map.mp hx
  cases o <;> rfl
theorem bakB_len {b : Bak} {g : Good} {i : Nat} (h : bakB (bakD b) = true) (hg : b.goods[i]? = some g) : g.days.length = b.lights.length ∧ b.lights.length ≤ 40 := by
  obtain ⟨ls, bo, gs, e, h1, h2, h3, h4⟩ := bakB_inv h
  unfold bakD at e
  injection e with e
  injection e with e1 e
  injection e with e2 e
  injection e with e3 e
  injection e1 with e1
  injection e3 with e3
  subst e1 e3
  have h5 := List.all_eq_true.mp h4 (goodD g) (List.mem_map.mpr ⟨g, List.mem_of_getElem? hg, rfl⟩)
  obtain ⟨ds, l, e4, e5, _⟩ := goodB_inv h5
  unfold goodD at e4
  injection e4 with e4
  injection e4 with e4 _
  injection e4 with e4
  subst e4
  rw [List.length_map, List.length_map] at e5
  have h6 := (Bool.and_eq_true_iff.mp (Bool.and_eq_true_iff.mp h1).1).2
  have h7 := of_decide_eq_true h6
  rw [List.length_map] at h7
  exact ⟨e5, h7⟩
end Bk

namespace Bk
open PySem PySem.Spec PyProof.Rows L2
/-! ### xs[a:b:c] of a list: some of its items -/
theorem vals_pick {xs : List V} {us : List Value} (r : Vals xs us) : ∀ is : List Nat, Vals (is.filterMap (xs[·]?)) (is.filterMap (us[·]?))
  | [] => .nil
  | i :: is => by
    have ih := vals_pick r is
    cases e : xs[i]? with
    | none =>
      rw [List.filterMap_cons_none e, List.filterMap_cons_none (r.none_of e)]
      exact ih
    | some x =>
      obtain ⟨u, e2, r2⟩ := r.get e
      rw [List.filterMap_cons_some e, List.filterMap_cons_some e2]
      exact .cons r2 ih
/-- the items of xs[l:u:st] -/
def stepV (xs : List V) (l u st : Option Int) : List V := (sliceRange (sliceBounds l u st xs.length).1 (sliceBounds l u st xs.length).2.1 (sliceBounds l u st xs.length).2.2).filterMap (xs[·]?)
theorem pick_length {α : Type} {xs : List α} : ∀ {is : List Nat}, (∀ i ∈ is, i < xs.length) → (is.filterMap (xs[·]?)).length = is.length
  | [], _ => rfl
  | i :: is, h => by
    rw [List.filterMap_cons_some (List.getElem?_eq_getElem (h i List.mem_cons_self)), List.length_cons, List.length_cons, pick_length fun j hj => h j (List.mem_cons_of_mem _ hj)]
theorem stepV_mem {xs : List V} {l u st : Option Int} {y : V} (h : y ∈ stepV xs l u st) : y ∈ xs := by
  obtain ⟨i, _, e⟩ := List.mem_filterMap.mp h
  exact List.mem_of_getElem? e
/-- xs[:0:-1] has one less -/
theorem stepV_back (xs : List V) : (stepV xs none (some 0) (some (-1))).length = xs.length - 1 := by
  unfold stepV
  by_cases h : xs.length = 0
  · have e : xs = [] := List.length_eq_zero_iff.mp h
    subst e
    rfl
  · have eb : sliceBounds none (some 0) (some (-1)) xs.length = ((xs.length : Int) - 1, 0, -1) := by
      simp only [sliceBounds, Option.getD_some, show ¬ ((-1 : Int) > 0) by decide, if_false, show ¬ ((0 : Int) < 0) by decide]
      rw [show max (-1 : Int) (min 0 ((xs.length : Int) - 1)) = 0 by omega]
    rw [eb]
    have er : (sliceRange ((xs.length : Int) - 1) 0 (-1)) = (List.range (xs.length - 1)).map fun (k : Nat) => ((xs.length : Int) - 1 + -1 * (k : Int)).toNat := by
      unfold sliceRange
      simp only [show ¬ ((-1 : Int) > 0) by decide, if_false]
      congr 2
      by_cases h2 : (xs.length : Int) - 1 > 0
      · rw [if_pos h2, show (- -1 : Int) = 1 by decide, Int.ediv_one]
        omega
      · rw [if_neg h2]
        omega
    rw [er, pick_length, List.length_map, List.length_range]
    intro i hi
    obtain ⟨k, hk, rfl⟩ := List.mem_map.mp hi
    have := List.mem_range.mp hk
    omega
def tStep (K : PySem.W.Frag) (te : TE) (tl th ts : TO) : TE := fun σ H Q => te σ H fun x H1 => tl σ H1 fun l H2 => th σ H2 fun u H3 => ts σ H3 fun st H4 => ∃ a xs, x = .ref a ∧ SqL K H4 a xs ∧ st ≠ some 0 ∧
  ∀ p, H4 p = none → Q (.ref p) (upd H4 p (.lst (stepV xs l u st)))
theorem pe_step {X : Cx} {e : Expr} {lo hi st : Option Expr} {te : TE} {tl th ts : TO} {p3 pos : Pos} (he : PE X e te) (hl : PO X lo tl) (hu : PO X hi th) (hst : PO X st ts)
    (hsub : ∀ a i, subscripted (.Slice lo hi st p3) false a i = operate [a, i] (getItem a i) := by intro _ _; with_unfolding_all rfl) : PE X (.Subscript e (.Slice lo hi st p3) pos) (tStep X.K te tl th ts) := by
  refine ⟨fun pins s σ H Q I h => ?_⟩
  refine Subscript_ (thn (he.run pins s σ H _ I h) fun v s1 ⟨x, H1, I1, r1, q1⟩ => ?_)
  refine wpAny_Slice (thn (hl.run pins s1 σ H1 _ I1 q1) fun vl s2 ⟨l, H2, I2, pl, q2⟩ => ?_)
  refine thn (hu.run pins s2 σ H2 _ I2 q2) fun vu s3 ⟨u, H3, I3, pu, q3⟩ => ?_
  refine thn (hst.run pins s3 σ H3 _ I3 q3) fun vs s4 ⟨o, H4, I4, ps, q4⟩ => ?_
  obtain ⟨a, xs, ex, hx, h0, q⟩ := q4
  subst ex
  cases r1
  have I5 : Inv X pins σ H4 { s4 with heap := s4.heap.push { cls := .type "slice", data := .fields #[vl, vu, vs] } } := I4.kept (t' := s4.toks) fun b ob q => Heap.get?_push_of_some _ q
  obtain ⟨its, r, ht, hz⟩ := I5.list hx
  have hlen := r.length
  show wpAny (model X.prog X.w) X.A (subscriptTail e (.Slice lo hi st p3) (.ref a) (.ref s4.heap.objs.size)) (EP X pins σ Q) X.xe { s4 with heap := s4.heap.push { cls := .type "slice", data := .fields #[vl, vu, vs] } }
  refine tail_any (ops := [.ref a, .ref s4.heap.objs.size]) ht.isList.typeIs (PySem.slot_list_getitem.lookup) ?_ (hsub _ _)
  refine wpAny_getItem_list_slice ht.isList (Heap.IsSliceOf.new _ vl vu vs) pl pu ps h0 ?_ (by rw [List.size_toArray]; omega)
  have hpk : slicePick its.toArray l u o = ((sliceRange (sliceBounds l u o xs.length).1 (sliceBounds l u o xs.length).2.1 (sliceBounds l u o xs.length).2.2).filterMap (its[·]?)).toArray := by
    unfold slicePick
    rw [List.size_toArray, ← hlen]
    simp
  have rp : Vals (stepV xs l u o) _ := vals_pick r (sliceRange (sliceBounds l u o xs.length).1 (sliceBounds l u o xs.length).2.1 (sliceBounds l u o xs.length).2.2)
  have hle := slicePick_size_le its.toArray l u o
  rw [hpk] at hle ⊢
  rw [List.size_toArray, List.size_toArray] at hle
  have hl2 : (stepV xs l u o).length ≤ xs.length := by
    rw [rp.length]
    omega
  refine ⟨.ref _, _, I5.laid (t' := s4.toks) (o := .lst (stepV xs l u o)) (fun b ob q => Heap.get?_push_of_some _ q) (Nat.le_refl _) ?_, rfl, q _ (I5.hok.fresh (Nat.le_refl _))⟩
  exact ⟨by omega, _, 0, rp, Heap.get?_push_size _ rfl⟩
theorem tStep_r {K : PySem.W.Frag} {te : TE} {tl th ts : TO} {σ : L2.St} {H : Hp} {Q : VK} : tStep K te tl th ts σ H Q = te σ H fun x H1 => tl σ H1 fun l H2 => th σ H2 fun u H3 => ts σ H3 fun st H4 => ∃ a xs, x = .ref a ∧ SqL K H4 a xs ∧ st ≠ some 0 ∧
  ∀ p, H4 p = none → Q (.ref p) (upd H4 p (.lst (stepV xs l u st))) := rfl
/-! ### data in objects that are tracked as they are -/
mutual
inductive Tk (H : Hp) : V → PyData → Prop
  | non : Tk H .non .none
  | bl (b : Bool) : Tk H (.bl b) (.bool b)
  | int (i : Int) : Tk H (.int i) (.int i)
  | str (x : Str) : Tk H (.str x) (.str x)
  | lst {a : Addr} {xs : List V} {ds : List PyData} : H a = some (.lst xs) → TkAll H xs ds → Tk H (.ref a) (.list ds)
  | tup {a : Addr} {xs : List V} {ds : List PyData} : H a = some (.tup xs) → TkAll H xs ds → Tk H (.ref a) (.tuple ds)
  | dic {a : Addr} : H a = some (.dK []) → Tk H (.ref a) (.dict [])
inductive TkAll (H : Hp) : List V → List PyData → Prop
  | nil : TkAll H [] []
  | cons {v : V} {vs : List V} {d : PyData} {ds : List PyData} : Tk H v d → TkAll H vs ds → TkAll H (v :: vs) (d :: ds)
end
mutual
theorem Tk.th {K : PySem.W.Frag} {H : Hp} : ∀ {v : V} {d : PyData}, Tk H v d → Th K H v d
  | _, _, .non => .non
  | _, _, .bl b => .bl b
  | _, _, .int i => .int i
  | _, _, .str x => .str x
  | _, _, .lst h t => .lst (SqL.of h) (TkAll.th t)
  | _, _, .tup h t => .tup (SqT.of h) (TkAll.th t)
  | _, _, .dic h => .dic h
theorem TkAll.th {K : PySem.W.Frag} {H : Hp} : ∀ {vs : List V} {ds : List PyData}, TkAll H vs ds → ThAll K H vs ds
  | _, _, .nil => .nil
  | _, _, .cons h t => .cons (Tk.th h) (TkAll.th t)
end
mutual
theorem Tk.same {H H' : Hp} (e : Same H H') : ∀ {v : V} {d : PyData}, Tk H v d → Tk H' v d
  | _, _, .non => .non
  | _, _, .bl b => .bl b
  | _, _, .int i => .int i
  | _, _, .str x => .str x
  | _, _, .lst h t => .lst (e _ _ h) (TkAll.same e t)
  | _, _, .tup h t => .tup (e _ _ h) (TkAll.same e t)
  | _, _, .dic h => .dic (e _ _ h)
theorem TkAll.same {H H' : Hp} (e : Same H H') : ∀ {vs : List V} {ds : List PyData}, TkAll H vs ds → TkAll H' vs ds
  | _, _, .nil => .nil
  | _, _, .cons h t => .cons (Tk.same e h) (TkAll.same e t)
end
theorem TkAll.append {H : Hp} : ∀ {vs ws : List V} {ds es : List PyData}, TkAll H vs ds → TkAll H ws es → TkAll H (vs ++ ws) (ds ++ es)
  | _, _, _, _, .nil, h => h
  | _, _, _, _, .cons h t, h2 => .cons h (TkAll.append t h2)
theorem TkAll.take {H : Hp} : ∀ {vs : List V} {ds : List PyData} (n : Nat), TkAll H vs ds → TkAll H (vs.take n) (ds.take n)
  | _, _, 0, _ => .nil
  | _, _, _ + 1, .nil => .nil
  | _, _, n + 1, .cons h t => .cons h (TkAll.take n t)
theorem TkAll.rep {H : Hp} {vs : List V} {ds : List PyData} (h : TkAll H vs ds) : ∀ n : Nat, TkAll H (List.replicate n vs).flatten (List.replicate n ds).flatten
  | 0 => .nil
  | n + 1 => by
    rw [List.replicate_succ, List.replicate_succ, List.flatten_cons, List.flatten_cons]
    exact h.append (TkAll.rep h n)
theorem TkAll.length {H : Hp} : ∀ {vs : List V} {ds : List PyData}, TkAll H vs ds → vs.length = ds.length
  | _, _, .nil => rfl
  | _, _, .cons _ t => by rw [List.length_cons, List.length_cons, TkAll.length t]
theorem TkAll.get {H : Hp} : ∀ {vs : List V} {ds : List PyData} {i : Nat} {v : V}, TkAll H vs ds → vs[i]? = some v → ∃ d, ds[i]? = some d ∧ Tk H v d
  | _, _, _, _, .nil, e => by simp at e
  | _, _, 0, _, .cons h _, e => by
    rw [List.getElem?_cons_zero] at e
    cases e
    exact ⟨_, List.getElem?_cons_zero .., h⟩
  | _, _, i + 1, _, .cons _ t, e => by
    rw [List.getElem?_cons_succ] at e
    obtain ⟨d, h1, h2⟩ := TkAll.get t e
    exact ⟨d, by rw [List.getElem?_cons_succ]; exact h1, h2⟩
theorem TkAll.ints {H : Hp} : ∀ ns : List Int, TkAll H (ns.map V.int) (ns.map PyData.int)
  | [] => .nil
  | n :: r => .cons (.int n) (TkAll.ints r)
theorem Tk.optV {H : Hp} (o : Option Int) : Tk H (Bk.optV o) (optD o) := by
  cases o with
  | none => exact .non
  | some i => exact .int i
/-! ### what is new -/
/-- the part of H' that H doesn't know -/
def newOf (H H' : Hp) : Hp := fun b => if H b = none then H' b else none
theorem newOf_same (H H' : Hp) : Same (newOf H H') H' := fun b o e => by
  unfold newOf at e
  split at e
  · exact e
  · cases e
theorem newOf_at {H H' : Hp} {b : Addr} {o : HO} (h : H b = none) (e : H' b = some o) : newOf H H' b = some o := by
  unfold newOf
  rw [if_pos h]
  exact e
theorem newOf_old {H H' : Hp} {b : Addr} {o : HO} (h : H b = some o) : newOf H H' b = none := by
  unfold newOf
  rw [if_neg (by rw [h]; exact fun z => nomatch z)]
theorem newOf_mono {H H1 H2 : Hp} (s : Same H1 H2) : Same (newOf H H1) (newOf H H2) := fun b o e => by
  unfold newOf at e ⊢
  split at e
  · rename_i h
    rw [if_pos h]
    exact s b o e
  · cases e
theorem newOf_left {H H1 H2 : Hp} (s : Same H H1) : Same (newOf H1 H2) (newOf H H2) := fun b o e => by
  unfold newOf at e ⊢
  split at e
  · rename_i h
    rw [if_pos (s.free h)]
    exact e
  · cases e
/-- the new part, without two places -/
def newBut (H : Hp) (l m : Addr) (H' : Hp) : Hp := fun b => if b = l ∨ b = m then none else newOf H H' b
theorem newBut_mono {H H1 H2 : Hp} {l m : Addr} (s : ∀ b o, b ≠ l → b ≠ m → H1 b = some o → H2 b = some o) : Same (newBut H l m H1) (newBut H l m H2) := fun b o e => by
  unfold newBut at e ⊢
  split at e
  · cases e
  · rename_i h
    rw [if_neg h]
    have h2 := newOf_same _ _ b o e
    unfold newOf at e ⊢
    split at e
    · rename_i h3
      rw [if_pos h3]
      exact s b o (fun z => h (.inl z)) (fun z => h (.inr z)) h2
    · cases e
theorem newBut_same (H : Hp) (l m : Addr) (H' : Hp) : Same (newBut H l m H') (newOf H H') := fun b o e => by
  unfold newBut at e
  split at e
  · cases e
  · exact e
theorem newBut_at {H H' : Hp} {l m b : Addr} {o : HO} (h : H b = none) (h1 : b ≠ l) (h2 : b ≠ m) (e : H' b = some o) : newBut H l m H' b = some o := by
  unfold newBut
  rw [if_neg (fun z => z.elim h1 h2)]
  exact newOf_at h e
theorem gUnl_r {K : PySem.W.Frag} {n : Nat} {t : TGs} {a : Addr} {σ : L2.St} {H : Hp} {Q : L2.St → Hp → Prop} : gUnl K n t (.ref a) σ H Q = ∃ xs, SqL K H a xs ∧ xs.length = n ∧ t xs σ H Q := propext ⟨fun ⟨b, xs, e, h⟩ => by cases e; exact ⟨xs, h⟩, fun ⟨xs, h⟩ => ⟨a, xs, rfl, h⟩⟩
def rInt1 : List V → Hp → VK → Prop := fun xs H Q => (∃ i, xs = [.int i] ∧ Q (.int i) H) ∨ ∃ k, xs = [.bl k] ∧ Q (.int (if k then 1 else 0)) H
theorem call_in1 {X : Cx} : CallR X (.type "int") rInt1 := call_int1
theorem rInt1_b {k : Bool} {H : Hp} {Q : VK} : rInt1 [.bl k] H Q = Q (.int (if k then 1 else 0)) H := by
  refine propext ⟨fun h => ?_, fun h => .inr ⟨k, rfl, h⟩⟩
  rcases h with ⟨i, e, _⟩ | ⟨j, e, q⟩
  · cases e
  · cases e
    exact q
theorem rInt1_i {i : Int} {H : Hp} {Q : VK} : rInt1 [.int i] H Q = Q (.int i) H := by
  refine propext ⟨fun h => ?_, fun h => .inl ⟨i, rfl, h⟩⟩
  rcases h with ⟨j, e, q⟩ | ⟨j, e, _⟩
  · cases e
    exact q
  · cases e
theorem rRep_r {l : Addr} {k : Int} {H : Hp} {Q : VK} : rRep (.ref l) (.int k) H Q = ∃ xs, H l = some (.lst xs) ∧ -(2 ^ 63) ≤ k ∧ k < 2 ^ 63 ∧ xs.length * k.toNat ≤ sizeLine ∧ ∀ p, H p = none → Q (.ref p) (upd H p (.lst (List.replicate k.toNat xs).flatten)) :=
  propext ⟨fun ⟨_, _, xs, e1, e2, h⟩ => by cases e1; cases e2; exact ⟨xs, h⟩, fun ⟨xs, h⟩ => ⟨l, k, xs, rfl, rfl, h⟩⟩
theorem seven {α : Type} {l : List α} (h : l.length = 7) : ∃ a b c d e f g, l = [a, b, c, d, e, f, g] := by
  match l, h with
  | [a, b, c, d, e, f, g], _ => exact ⟨a, b, c, d, e, f, g, rfl⟩
def nDays (u m : Nat) : Nat := max 2 (min u m) - 1
theorem newOf_to {H Hb H5 HF : Hp} (s : Same H Hb) (k : ∀ b o, Hb b = none → H5 b = some o → HF b = some o) : Same (newOf Hb H5) (newOf H HF) := fun b o e => by
  unfold newOf at e
  split at e
  · rename_i h
    exact newOf_at (s.free h) (k b o h e)
  · cases e
theorem bakB_mk {b : Bak} (h1 : 1 ≤ b.lights.length) (h2 : b.lights.length ≤ 40) (h3 : ∀ z ∈ b.lights, numD (.int z) = true) (h4 : boundB (optD b.bound) = true) (h5 : 1 ≤ b.goods.length) (h6 : b.goods.length ≤ 2)
    (h7 : ∀ g ∈ b.goods, g.days.length = b.lights.length ∧ lifeB (optD g.life) = true ∧ ∀ d ∈ g.days, dayB (dayD d) = true) : bakB (bakD b) = true := by
  have e1 : (b.lights.map PyData.int).all numD = true := by
    rw [List.all_eq_true]
    intro x hx
    obtain ⟨z, hz, rfl⟩ := List.mem_map.mp hx
    exact h3 z hz
  have e2 : (b.goods.map goodD).all (goodB (b.lights.map PyData.int).length) = true := by
    rw [List.all_eq_true]
    intro x hx
    obtain ⟨g, hg, rfl⟩ := List.mem_map.mp hx
    obtain ⟨g1, g2, g3⟩ := h7 g hg
    have e3 : (g.days.map dayD).all dayB = true := by
      rw [List.all_eq_true]
      intro y hy
      obtain ⟨d, hd, rfl⟩ := List.mem_map.mp hy
      exact g3 d hd
    simp only [goodD, goodB, e3, g2, List.length_map, g1, decide_true, Bool.and_self]
  rw [List.length_map] at e2
  simp only [bakD, bakB, lightsB, listB, e1, e2, h4, List.length_map, h1, h2, h5, h6, decide_true, Bool.and_self]
theorem ints_of : ∀ {xs : List V}, (∀ x ∈ xs, ∃ c : Int, x = .int c) → ∃ ns : List Int, xs = ns.map V.int
  | [], _ => ⟨[], rfl⟩
  | x :: r, h => by
    obtain ⟨c, rfl⟩ := h x List.mem_cons_self
    obtain ⟨ns, e⟩ := ints_of fun y hy => h y (List.mem_cons_of_mem _ hy)
    exact ⟨c :: ns, by rw [e]; rfl⟩
theorem cutV_upto (xs : List V) (n : Nat) : cutV xs none (some (n : Int)) = xs.take n := by
  unfold cutV
  rw [HT.sIx_nat, HT.sIx_none, List.drop_zero, Nat.sub_zero]
  by_cases h : n ≤ xs.length
  · rw [Nat.min_eq_left h]
  · rw [Nat.min_eq_right (by omega), List.take_of_length_le (Nat.le_refl _), List.take_of_length_le (by omega)]
theorem Tk.opt {H : Hp} {v : V} {o : Option Int} (h : Tk H v (optD o)) : v = Bk.optV o := (h.th (K := [])).opt
/-- a bakery in tracked objects, part by part -/
theorem Tk.bak {H : Hp} {x : V} {b : Bak} (h : Tk H x (bakD b)) : ∃ (a l g : Addr) (xl xg : List V), x = .ref a ∧ H a = some (.tup [.ref l, Bk.optV b.bound, .ref g]) ∧ H l = some (.lst xl) ∧ TkAll H xl (b.lights.map PyData.int) ∧ H g = some (.lst xg) ∧ TkAll H xg (b.goods.map goodD) := by
  cases h with
  | tup ht hta =>
  cases hta with
  | cons t1 hta => cases hta with
  | cons t2 hta => cases hta with
  | cons t3 hta =>
  cases hta
  cases t1 with
  | lst h1 h2 =>
  cases t3 with
  | lst h3 h4 =>
  rw [t2.opt] at ht
  exact ⟨_, _, _, _, _, rfl, ht, h1, h2, h3, h4⟩
theorem Tk.good {H : Hp} {x : V} {g : Good} (h : Tk H x (goodD g)) : ∃ t a xs, x = .ref t ∧ H t = some (.tup [.ref a, Bk.optV g.life]) ∧ H a = some (.lst xs) ∧ TkAll H xs (g.days.map dayD) := by
  cases h with
  | tup ht hta =>
  cases hta with
  | cons t1 hta => cases hta with
  | cons t2 hta =>
  cases hta
  cases t1 with
  | lst h1 h2 =>
  rw [t2.opt] at ht
  exact ⟨_, _, _, rfl, ht, h1, h2⟩
/-! ### a comprehension whose items are new things -/
theorem LcR.build {J : It} {n : Nat} {G : Hp → Prop} {Y : Nat → Hp → V → Hp → Prop} (w : Walk J n G Y) {g : TG} {te : TE} {vs : List Nat} {σ : L2.St} {H H1 : Hp} {D : Addr} {Qd : Hp → Prop} (es : List PyData) (hD : H1 D = none) (hn : es.length = n) (hz : n ≤ 100000)
    (hG : ∀ H, Same H1 H → G H) (hY : ∀ i H x H', Y i H x H' → Same H H')
    (hs : ∀ i x e H0 H', i < n → Same H1 H' → (∃ acc, H' D = some (.lst acc)) → Y i H0 x H' → es[i]? = some e → ∀ R : V → Hp → Prop, (∀ v H4, Same H' H4 → Tk (newBut H D D H4) v e → R v H4) → g x (wipe σ vs) H' fun σ2 H2 => wipe σ2 vs = wipe σ vs ∧ te σ2 H2 R)
    (hd : ∀ H' acc, Same H1 H' → H' D = some (.lst acc) → TkAll (newBut H D D H') acc es → Qd H') : LcR J g tYes te vs σ D H1 Qd := by
  refine LcR.by w (fun i H' => Same H1 H' ∧ ∃ acc, H' D = some (.lst acc) ∧ TkAll (newBut H D D H') acc (es.take i)) ⟨same_upd hD, [], upd_same, .nil⟩ (fun i H _ h => hG H h.1) (fun i x H0 H' hi h y => ?_) (fun H' h => ?_)
  · obtain ⟨s0, acc, ea, ta⟩ := h
    have s := hY _ _ _ _ y
    have e : es[i]? = some (es[i]'(by omega)) := List.getElem?_eq_getElem (by omega)
    refine hs i x _ H0 H' hi (s0.trans s) ⟨acc, s _ _ ea⟩ y e _ fun v H4 s4 tv => ?_
    have e4 := s4 _ _ (s _ _ ea)
    refine ⟨_, e4, ?_, same_mut ((s0.trans s).trans s4) hD, _, upd_same, ?_⟩
    · rw [ta.length, List.length_take]
      exact sz100l (by omega)
    · rw [List.take_add_one, e]
      refine (ta.same (newBut_mono fun b o h1 _ q => ?_)).append (.cons (tv.same (newBut_mono fun b o h1 _ q => ?_)) .nil)
      · rw [upd_ne h1]
        exact s4 _ _ (s _ _ q)
      · rw [upd_ne h1]
        exact q
  · obtain ⟨s0, acc, ea, ta⟩ := h
    rw [← hn, List.take_length] at ta
    exact hd H' acc s0 ea ta
/-! ### while, by the number of its turns -/
def WI (n : Nat) (Pv : Nat → L2.St → Hp → Prop) (m : Nat) (σ : L2.St) (H : Hp) : Prop := ∃ i, m = n - i ∧ i ≤ n ∧ Pv i σ H
def WStep (n : Nat) (Pv : Nat → L2.St → Hp → Prop) (i : Nat) (tb : TS) (D : Ends) (σ : L2.St) (H1 : Hp) : Prop := ∃ N : L2.St → Hp → Prop, (∀ σ' H', N σ' H' → ∃ m', m' < n - i ∧ WI n Pv m' σ' H') ∧ tb { D with nx := N, ct := N, bk := D.nx } σ H1
theorem while_by {c : TT} {tb : TS} {D : Ends} {σ : L2.St} {H : Hp} (n : Nat) (Pv : Nat → L2.St → Hp → Prop) (h0 : Pv 0 σ H) (hs : ∀ i σ H, i ≤ n → Pv i σ H → c σ H fun b H1 => if b = true then WStep n Pv i tb D σ H1 else D.nx σ H1) : tWhile c tb D σ H :=
  ⟨WI n Pv, ⟨n, 0, rfl, Nat.zero_le _, h0⟩, fun m σ H ⟨i, e, hi, p⟩ => by subst e; exact hs i σ H hi p⟩
theorem wstep {n i : Nat} {Pv : Nat → L2.St → Hp → Prop} {tb : TS} {D : Ends} {σ : L2.St} {H1 : Hp} (hi : i < n) (h : tb { D with nx := Pv (i + 1), ct := Pv (i + 1), bk := D.nx } σ H1) : WStep n Pv i tb D σ H1 :=
  ⟨Pv (i + 1), fun _ _ p => ⟨n - (i + 1), by omega, i + 1, rfl, by omega, p⟩, h⟩
end Bk

namespace Bk
open PySem PySem.Spec PyProof.Rows L2
/-! ### prices of loaves that cross -/
theorem sumO_append : ∀ {l m : List (Option Int)} {z : Int}, sumO (l ++ m) = some z → ∃ x y, sumO l = some x ∧ sumO m = some y ∧ x + y = z
  | [], m, z, h => ⟨0, z, rfl, h, Int.zero_add z⟩
  | none :: l, m, z, h => by cases h
  | some a :: l, m, z, h => by
    have h : (sumO (l ++ m)).map (a + ·) = some z := h
    cases e : sumO (l ++ m) with
    | none => rw [e] at h; cases h
    | some b =>
      rw [e] at h
      have h : a + b = z := Option.some.inj h
      obtain ⟨x, y, h1, h2, h3⟩ := sumO_append e
      refine ⟨a + x, y, ?_, h2, by omega⟩
      show (sumO l).map (a + ·) = some (a + x)
      rw [h1]
      rfl
theorem sumO_nonneg : ∀ {l : List (Option Int)} {z : Int}, (∀ o ∈ l, ∀ i, o = some i → 0 ≤ i) → sumO l = some z → 0 ≤ z
  | [], z, _, h => by
    have h : (0 : Int) = z := Option.some.inj h
    omega
  | none :: l, z, _, h => by cases h
  | some a :: l, z, hn, h => by
    have h : (sumO l).map (a + ·) = some z := h
    cases e : sumO l with
    | none => rw [e] at h; cases h
    | some b =>
      rw [e] at h
      have h : a + b = z := Option.some.inj h
      have h1 := sumO_nonneg (fun o ho => hn o (List.mem_cons_of_mem _ ho)) e
      have h2 := hn _ List.mem_cons_self a rfl
      omega
theorem seg_split {α : Type} (l : List α) {i j k : Nat} (h1 : i ≤ j) (h2 : j ≤ k) : (l.drop i).take (k - i) = (l.drop i).take (j - i) ++ (l.drop j).take (k - j) := by
  have e : k - i = (j - i) + (k - j) := by omega
  rw [e, List.take_add, List.drop_drop]
  congr 3
  omega
theorem sum_nonneg' : ∀ {l : List Int}, (∀ x ∈ l, 0 ≤ x) → 0 ≤ l.sum
  | [], _ => by decide
  | a :: r, h => by
    rw [List.sum_cons]
    have h1 := h a List.mem_cons_self
    have h2 := sum_nonneg' fun x hx => h x (List.mem_cons_of_mem _ hx)
    omega
theorem sum_append' : ∀ (l m : List Int), (l ++ m).sum = l.sum + m.sum
  | [], m => by rw [List.nil_append, List.sum_nil]; omega
  | a :: r, m => by rw [List.cons_append, List.sum_cons, List.sum_cons, sum_append' r m]; omega
theorem keepsL_split (ds : List Day) {i j k : Nat} (h1 : i ≤ j) (h2 : j ≤ k) : keepsL ds i k = keepsL ds i j + keepsL ds j k := by
  unfold keepsL
  rw [seg_split ds h1 h2, List.map_append, sum_append']
theorem finesL_split {ds : List Day} {i j k : Nat} {z : Int} (h1 : i ≤ j) (h2 : j ≤ k) (h : finesL ds i k = some z) : ∃ x y, finesL ds i j = some x ∧ finesL ds j k = some y ∧ x + y = z := by
  unfold finesL at h
  rw [seg_split ds h1 h2, List.map_append] at h
  exact sumO_append h
/-- keeps and fines are no less than 0 -/
structure NonNeg (ds : List Day) : Prop where
  keep : ∀ d ∈ ds, 0 ≤ d.keep
  fine : ∀ d ∈ ds, ∀ i, d.fine = some i → 0 ≤ i
theorem seg_mem {α : Type} {l : List α} {i n : Nat} {x : α} (h : x ∈ (l.drop i).take n) : x ∈ l := List.mem_of_mem_drop (List.mem_of_mem_take h)
theorem keepsL_nonneg {ds : List Day} (N : NonNeg ds) (i j : Nat) : 0 ≤ keepsL ds i j := sum_nonneg' fun x hx => by
  obtain ⟨d, hd, rfl⟩ := List.mem_map.mp hx
  exact N.keep d (seg_mem hd)
theorem finesL_nonneg {ds : List Day} (N : NonNeg ds) {i j : Nat} {z : Int} (h : finesL ds i j = some z) : 0 ≤ z := sumO_nonneg (fun o ho i e => by
  obtain ⟨d, hd, rfl⟩ := List.mem_map.mp ho
  exact N.fine d (seg_mem hd) i e) h
/-- what comes to the loaf price -/
def extP (g : Good) (j k : Nat) : Option Int := if k < j then finesL g.days k j else match g.life with
  | none => some (keepsL g.days j k)
  | some l => if l < (k : Int) - (j : Int) then none else some (keepsL g.days j k)
theorem loafP_ext {g : Good} {j k : Nat} {d : Day} (hd : g.days[j]? = some d) : loafP g j k = (extP g j k).map (d.loaf + ·) := by
  unfold loafP extP
  rw [hd]
  dsimp only
  by_cases h : k < j
  · rw [if_pos h, if_pos h]
  · rw [if_neg h, if_neg h]
    cases g.life with
    | none => rfl
    | some l =>
      dsimp only
      by_cases h2 : l < (k : Int) - (j : Int)
      · rw [if_pos h2, if_pos h2]
        rfl
      · rw [if_neg h2, if_neg h2]
        rfl
theorem ext_keep {g : Good} {j k : Nat} (h : j ≤ k) {z : Int} : extP g j k = some z ↔ (∀ l, g.life = some l → (k : Int) - (j : Int) ≤ l) ∧ keepsL g.days j k = z := by
  unfold extP
  rw [if_neg (by omega)]
  cases hl : g.life with
  | none => exact ⟨fun e => ⟨fun l h => (by cases h), Option.some.inj e⟩, fun e => by rw [e.2]⟩
  | some l =>
    dsimp only
    by_cases h2 : l < (k : Int) - (j : Int)
    · rw [if_pos h2]
      exact ⟨fun e => (by cases e), fun e => by have := e.1 l rfl; omega⟩
    · rw [if_neg h2]
      exact ⟨fun e => ⟨fun l' h' => (by cases h'; omega), Option.some.inj e⟩, fun e => by rw [e.2]⟩
theorem ext_fine {g : Good} {j k : Nat} (h : k < j) {z : Int} : extP g j k = some z ↔ finesL g.days k j = some z := by
  unfold extP
  rw [if_pos h]
theorem ext_cross {g : Good} (N : NonNeg g.days) {a c e l : Nat} (hac : a < c) (hel : e < l) {x y : Int} (h1 : extP g a l = some x) (h2 : extP g c e = some y) : ∃ z t, extP g a e = some z ∧ extP g c l = some t ∧ z + t ≤ x + y := by
  by_cases hal : a ≤ l
  · obtain ⟨hlf, hk1⟩ := (ext_keep hal).mp h1
    by_cases hce : c ≤ e
    · -- all ahead
      obtain ⟨_, hk2⟩ := (ext_keep hce).mp h2
      refine ⟨_, _, (ext_keep (by omega)).mpr ⟨fun m hm => by have := hlf m hm; omega, rfl⟩, (ext_keep (by omega)).mpr ⟨fun m hm => by have := hlf m hm; omega, rfl⟩, ?_⟩
      have e1 := keepsL_split g.days (show a ≤ c by omega) hce
      have e2 := keepsL_split g.days (show a ≤ c by omega) (show c ≤ l by omega)
      omega
    · have hf := (ext_fine (show e < c by omega)).mp h2
      by_cases hae : a ≤ e
      · by_cases hcl : c ≤ l
        · refine ⟨_, _, (ext_keep hae).mpr ⟨fun m hm => by have := hlf m hm; omega, rfl⟩, (ext_keep hcl).mpr ⟨fun m hm => by have := hlf m hm; omega, rfl⟩, ?_⟩
          have e1 := keepsL_split g.days hae (show e ≤ l by omega)
          have e2 := keepsL_split g.days (show e ≤ c by omega) hcl
          have n1 := keepsL_nonneg N e c
          have n2 := finesL_nonneg N hf
          omega
        · obtain ⟨u, v, f1, f2, f3⟩ := finesL_split (show e ≤ l by omega) (show l ≤ c by omega) hf
          refine ⟨_, _, (ext_keep hae).mpr ⟨fun m hm => by have := hlf m hm; omega, rfl⟩, (ext_fine (by omega)).mpr f2, ?_⟩
          have e1 := keepsL_split g.days hae (show e ≤ l by omega)
          have n1 := keepsL_nonneg N e l
          have n2 := finesL_nonneg N f1
          omega
      · obtain ⟨u, v, f1, f2, f3⟩ := finesL_split (show e ≤ a by omega) (show a ≤ c by omega) hf
        by_cases hcl : c ≤ l
        · refine ⟨_, _, (ext_fine (by omega)).mpr f1, (ext_keep hcl).mpr ⟨fun m hm => by have := hlf m hm; omega, rfl⟩, ?_⟩
          have e1 := keepsL_split g.days (show a ≤ c by omega) hcl
          have n1 := keepsL_nonneg N a c
          have n2 := finesL_nonneg N f2
          omega
        · obtain ⟨u2, v2, k1, k2, k3⟩ := finesL_split (show e ≤ l by omega) (show l ≤ c by omega) hf
          obtain ⟨u3, v3, m1, m2, m3⟩ := finesL_split (show e ≤ a by omega) hal k1
          have e3 : u = u3 := Option.some.inj (f1.symm.trans m1)
          refine ⟨_, _, (ext_fine (by omega)).mpr f1, (ext_fine (by omega)).mpr k2, ?_⟩
          have n1 := keepsL_nonneg N a l
          have n2 := finesL_nonneg N m2
          omega
  · have hf1 := (ext_fine (show l < a by omega)).mp h1
    have hf2 := (ext_fine (show e < c by omega)).mp h2
    obtain ⟨u, v, f1, f2, f3⟩ := finesL_split (show e ≤ a by omega) (show a ≤ c by omega) hf2
    obtain ⟨u2, v2, k1, k2, k3⟩ := finesL_split (show e ≤ l by omega) (show l ≤ c by omega) hf2
    obtain ⟨u3, v3, m1, m2, m3⟩ := finesL_split (show e ≤ l by omega) (show l ≤ a by omega) f1
    refine ⟨_, _, (ext_fine (by omega)).mpr f1, (ext_fine (by omega)).mpr k2, ?_⟩
    have e1 : u2 = u3 := Option.some.inj (k1.symm.trans m1)
    have e2 : v3 = x := Option.some.inj (m2.symm.trans hf1)
    omega
theorem loaf_cross {g : Good} (N : NonNeg g.days) {a c e l : Nat} (hac : a < c) (hel : e < l) (hc : c < g.days.length) {x y : Int} (h1 : loafP g a l = some x) (h2 : loafP g c e = some y) : ∃ z t, loafP g a e = some z ∧ loafP g c l = some t ∧ z + t ≤ x + y := by
  have da : g.days[a]? = some (g.days[a]'(by omega)) := List.getElem?_eq_getElem (by omega)
  have dc : g.days[c]? = some g.days[c] := List.getElem?_eq_getElem hc
  rw [loafP_ext da] at h1
  rw [loafP_ext dc] at h2
  cases e1 : extP g a l with
  | none => rw [e1] at h1; cases h1
  | some x' =>
    cases e2 : extP g c e with
    | none => rw [e2] at h2; cases h2
    | some y' =>
      rw [e1] at h1
      rw [e2] at h2
      have h1 := Option.some.inj h1
      have h2 := Option.some.inj h2
      obtain ⟨z, t, q1, q2, q3⟩ := ext_cross N hac hel e1 e2
      refine ⟨_, _, by rw [loafP_ext da, q1]; rfl, by rw [loafP_ext dc, q2]; rfl, ?_⟩
      dsimp only at h1 h2 ⊢
      omega
theorem bak_nonneg {b : Bak} {g : Good} {i : Nat} (h : bakB (bakD b) = true) (hg : b.goods[i]? = some g) : NonNeg g.days := by
  obtain ⟨ls, bo, gs, e, h1, h2, h3, h4⟩ := bakB_inv h
  unfold bakD at e
  injection e with e
  injection e with e1 e
  injection e with e2 e
  injection e with e3 e
  injection e3 with e3
  subst e3
  have h5 := List.all_eq_true.mp h4 (goodD g) (List.mem_map.mpr ⟨g, List.mem_of_getElem? hg, rfl⟩)
  obtain ⟨ds, l, e4, e5, _, h6⟩ := goodB_inv h5
  unfold goodD at e4
  injection e4 with e4
  injection e4 with e4 _
  injection e4 with e4
  subst e4
  have key : ∀ d ∈ g.days, dayB (dayD d) = true := fun d hd => List.all_eq_true.mp h6 (dayD d) (List.mem_map.mpr ⟨d, hd, rfl⟩)
  have nn : ∀ i, numD (.int i) = true → 0 ≤ i := fun i h => of_decide_eq_true (Bool.and_eq_true_iff.mp h).1
  refine ⟨fun d hd => ?_, fun d hd i e => ?_⟩
  · have k := key d hd
    simp only [dayD, dayB, Bool.and_eq_true] at k
    exact nn _ k.1.2
  · have k := key d hd
    simp only [dayD, dayB, Bool.and_eq_true, e, optD, noneB, Bool.false_or] at k
    exact nn _ k.2
theorem rNin_r {K : PySem.W.Frag} {x : V} {p : Addr} {H : Hp} {Q : VK} : rIn K true x (.ref p) H Q = ∃ xs, (SqL K H p xs ∨ SqT K H p xs) ∧ flatV x = true ∧ xs.all flatV = true ∧ Q (.bl (!inV x xs)) H :=
  propext ⟨fun ⟨_, xs, e, h⟩ => by cases e; exact ⟨xs, h⟩, fun ⟨xs, h⟩ => ⟨p, xs, rfl, h⟩⟩
end Bk

namespace Bk
open PySem PySem.Spec PyProof.Rows L2
local macro_rules | `(tactic| walk_at "wp") => `(tactic| try simp only [tNever, tFor_eq, tLc_eq, iList, iTup, iRng1_eq, rRng1_i, iRng2_eq, rRng2_i, iEnum_eq, rEnum_r, iZip_eq, rZip_r, tSl, tPart, tNoPart, rSlL_r, rCat_r, rIn_r, gTup_r, gUnl_r, rInt1_b, rInt1_i, rRep_r, tStep_r, scal, tSeq, tNext, tAsg, tRet, tRetN, tIfS, tDrop, tCB, tCons, tNil, tVar, tOp, tUn, tC, rU_i, rI_ii, rI0_ii, rEq, rNe, tTest, tB, tAnd, tOr, tNot, tAndV, tOrV, tNotV, tIf, tChain, tLst, tTup, tBM, tBM0, rAppend_r, rIxL_r, rIxT_r, rMx_ii, rMn_ii, rLnL_r, rLnT_r, rIsD_int, rIsD_bool, rIsD_list, rIsD_tuple, tCall, gName, gNil_n, gCons_c, cxK, L2.start, List.map, List.replicate, List.length_cons, List.length_nil, List.cons_append, List.nil_append, List.append_nil, List.getElem?_cons_zero, List.getElem?_cons_succ, Option.some.injEq, exists_eq_left', exists_eq_left, V.int.injEq, V.bl.injEq, V.str.injEq, V.ref.injEq, List.cons.injEq, and_true, true_and, and_self, List.set, wipe, rAll_r, rSum_r, reduceCtorEq, decide_true, decide_false, reduceIte, ite_true, ite_false, if_true, if_false, Bool.false_eq_true, Bool.not_true, Bool.not_false])
local macro_rules | `(tactic| walk_at "shaped") => `(tactic| (simp only [SeqAt.shaped, PyData.canLay0, PyData.canLayAll0, PyData.depth, PyData.depthAll]; rfl))
local macro_rules | `(tactic| walk_at "lay") => `(tactic| (simp only [PyData.canLay0, PyData.canLayAll0]; rfl))
def top (i : Nat) : Stmt := PySem.Challenge.pw_bakeahead_k08_whole_crossing.main.body.getD i (.Pass ⟨0, 0, 0, 0⟩)
structure Bi (mg : Str → Option Value) : Prop where
  len : mg "len" = none
  max : mg "max" = none
  min : mg "min" = none
  range : mg "range" = none
  isinstance : mg "isinstance" = none
  int : mg "int" = none
  bool : mg "bool" = none
  list : mg "list" = none
  tuple : mg "tuple" = none
  all : mg "all" = none
  sum : mg "sum" = none
  repr : mg "repr" = none
  enumerate : mg "enumerate" = none
section
variable {P : Program} {w : World} {K : PySem.W.Frag} {mg : Str → Option Value} {base : Heap}
abbrev s_is_whole : Stmt := top 7
theorem sc_is_whole : FnScope ["thing"] ["thing"] (defScope s_is_whole) := ⟨rfl, rfl, rfl, by decide +kernel, rfl, by decide +kernel, by decide +kernel⟩
def spWhole (K : PySem.W.Frag) : Sp := fun vs H Q _ => ∃ x d, vs = [x] ∧ Th K H x d ∧ Q (.bl (wholeD d)) H
theorem ok_is_whole {f : Addr} {fd : FuncData} {k : Nat} (F : Fun K "is_whole" "is_whole" s_is_whole f fd) (B : Bi mg) : FnOk P w K mg base CX0 (k + 1) f fd ["thing"] (spWhole K) := by
  refine F.ok sc_is_whole (fun vs H Q E h => ?_) (fun cdv A outer s H vs Q E hr h => ?_)
  · obtain ⟨x, d, rfl, _⟩ := h
    rfl
  · obtain ⟨x, d, rfl, hx, q⟩ := h
    refine ⟨_, (pss_one (ps_ret (pe_and (pe_callB (call_isD .int) (by rfl) B.isinstance (by decide +kernel) (pa_cons (pv 0) (pa_cons (pe_bltn (v := .ty "int") (by rfl) B.int (by decide +kernel) rfl) pa_nil))) (pe_one (pe_not (pe_callB (call_isD .bool) (by rfl) B.isinstance (by decide +kernel) (pa_cons (pv 0) (pa_cons (pe_bltn (v := .ty "bool") (by rfl) B.bool (by decide +kernel) rfl) pa_nil)))))))), ?_⟩
    walk_at "wp"
    refine ⟨d, hx, ite2 (fun h => ⟨d, hx, ?_⟩) (fun h => ?_)⟩
    · rw [← wholeD_is, h] at q
      exact q
    · rw [← wholeD_is, Bool.eq_false_iff.mpr h] at q
      exact q
abbrev s_is_number : Stmt := top 8
theorem sc_is_number : FnScope ["thing"] ["thing"] (defScope s_is_number) := ⟨rfl, rfl, rfl, by decide +kernel, rfl, by decide +kernel, by decide +kernel⟩
def spNum (K : PySem.W.Frag) : Sp := fun vs H Q _ => ∃ x d, vs = [x] ∧ Th K H x d ∧ Q (.bl (numD d)) H
theorem ok_is_number {f : Addr} {fd : FuncData} {k : Nat} (F : Fun K "is_number" "is_number" s_is_number f fd) (B : Bi mg) {t : Tok} (M_GREATEST : mg "GREATEST" = some (.int 1000000000 t)) (D_is_whole : Def P w K mg base "is_whole" (k + 1) ["thing"] (spWhole K)) :
    FnOk P w K mg base CX0 (k + 2) f fd ["thing"] (spNum K) := by
  refine F.ok sc_is_number (fun vs H Q E h => ?_) (fun cdv A outer s H vs Q E hr h => ?_)
  · obtain ⟨x, d, rfl, _⟩ := h
    rfl
  · obtain ⟨x, d, rfl, hx, q⟩ := h
    refine ⟨_, (pss_one (ps_ret (pe_and (pe_callD D_is_whole hr (by rfl) (pa_cons (pv 0) pa_nil)) (pe_one (pe_chain op_le op_le pe_int (pv 0) (pe_globI rfl M_GREATEST)))))), ?_⟩
    walk_at "wp"
    refine ⟨x, d, rfl, hx, ?_⟩
    walk_at "wp"
    cases hx with
    | int i =>
      simp only [wholeD]
      walk_at "wp"
      refine ite2 (fun h => ?_) (fun h => ?_)
      · show Q (.bl (decide (i ≤ 1000000000))) H
        simp only [numD, h, Bool.true_and] at q
        exact q
      · simp only [numD, Bool.eq_false_iff.mpr h, Bool.false_and] at q
        exact q
    | _ => exact q

abbrev s_is_tuple_of : Stmt := top 13
theorem sc_is_tuple_of : FnScope ["thing", "many"] ["thing", "many"] (defScope s_is_tuple_of) := ⟨rfl, rfl, rfl, by decide +kernel, rfl, by decide +kernel, by decide +kernel⟩
def spTupleOf (K : PySem.W.Frag) : Sp := fun vs H Q _ => ∃ x d, ∃ n : Nat, vs = [x, .int (n : Int)] ∧ Th K H x d ∧ Q (.bl (tupB n d)) H
theorem ok_is_tuple_of {f : Addr} {fd : FuncData} (F : Fun K "is_tuple_of" "is_tuple_of" s_is_tuple_of f fd) (B : Bi mg) : FnOk P w K mg base CX0 1 f fd ["thing", "many"] (spTupleOf K) := by
  refine F.ok sc_is_tuple_of (fun vs H Q E h => ?_) (fun cdv A outer s H vs Q E hr h => ?_)
  · obtain ⟨x, d, n, rfl, _⟩ := h
    rfl
  · obtain ⟨x, d, n, rfl, hx, q⟩ := h
    refine ⟨_, (pss_one (ps_ret (pe_and (pe_callB (call_isD .tuple) (by rfl) B.isinstance (by decide +kernel) (pa_cons (pv 0) (pa_cons (pe_bltn (v := .ty "tuple") (by rfl) B.tuple (by decide +kernel) rfl) pa_nil))) (pe_one (pe_cmpR op_eq (pe_callB call_lnT (by rfl) B.len (by decide +kernel) (pa_cons (pv 0) pa_nil)) (pv 1) (nomark _)))))), ?_⟩
    walk_at "wp"
    refine ⟨d, hx, ?_⟩
    cases hx with
    | tup ht ha =>
      simp only [isD]
      walk_at "wp"
      refine ⟨_, ht, qb ?_ q⟩
      rw [ha.length]
      exact decide_eq_decide.mpr (by omega)
    | _ => exact q
abbrev s_is_list_of : Stmt := top 14
theorem sc_is_list_of : FnScope ["thing", "fewest", "most"] ["thing", "fewest", "most"] (defScope s_is_list_of) := ⟨rfl, rfl, rfl, by decide +kernel, rfl, by decide +kernel, by decide +kernel⟩
def spListOf (K : PySem.W.Frag) : Sp := fun vs H Q _ => ∃ x d, ∃ n m : Nat, vs = [x, .int (n : Int), .int (m : Int)] ∧ Th K H x d ∧ Q (.bl (listB n m d)) H
theorem ok_is_list_of {f : Addr} {fd : FuncData} (F : Fun K "is_list_of" "is_list_of" s_is_list_of f fd) (B : Bi mg) : FnOk P w K mg base CX0 1 f fd ["thing", "fewest", "most"] (spListOf K) := by
  refine F.ok sc_is_list_of (fun vs H Q E h => ?_) (fun cdv A outer s H vs Q E hr h => ?_)
  · obtain ⟨x, d, n, m, rfl, _⟩ := h
    rfl
  · obtain ⟨x, d, n, m, rfl, hx, q⟩ := h
    refine ⟨_, (pss_one (ps_ret (pe_and (pe_callB (call_isD .list) (by rfl) B.isinstance (by decide +kernel) (pa_cons (pv 0) (pa_cons (pe_bltn (v := .ty "list") (by rfl) B.list (by decide +kernel) rfl) pa_nil))) (pe_one (pe_chain op_le op_le (pv 1) (pe_callB call_lnL (by rfl) B.len (by decide +kernel) (pa_cons (pv 0) pa_nil)) (pv 2)))))), ?_⟩
    walk_at "wp"
    refine ⟨d, hx, ?_⟩
    cases hx with
    | lst ht ha =>
      simp only [isD]
      walk_at "wp"
      refine ⟨_, ht, ?_⟩
      have e1 : ∀ a b : Nat, decide ((a : Int) ≤ (b : Int)) = decide (a ≤ b) := fun a b => decide_eq_decide.mpr (by omega)
      rw [ha.length, e1, e1]
      refine ite2 (fun h => qb ?_ q) (fun h => qb ?_ q)
      · simp only [listB, h, Bool.true_and]
      · simp only [listB, Bool.eq_false_iff.mpr h, Bool.false_and]
    | _ => exact q
abbrev s_are_lights : Stmt := top 15
theorem sc_are_lights : FnScope ["thing", "light"] ["thing"] (defScope s_are_lights) := ⟨rfl, rfl, rfl, by decide +kernel, rfl, by decide +kernel, by decide +kernel⟩
def spPred (K : PySem.W.Frag) (p : PyData → Bool) : Sp := fun vs H Q _ => ∃ x d, vs = [x] ∧ Th K H x d ∧ ∀ H', Same H H' → Q (.bl (p d)) H'
theorem ok_are_lights {f : Addr} {fd : FuncData} (F : Fun K "are_lights" "are_lights" s_are_lights f fd) (B : Bi mg) {t : Tok} (M_MOST_DAYS : mg "MOST_DAYS" = some (.int 40 t)) (D_is_list_of : Def P w K mg base "is_list_of" 1 ["thing", "fewest", "most"] (spListOf K)) (D_is_number : Def P w K mg base "is_number" 2 ["thing"] (spNum K)) :
    FnOk P w K mg base CX0 3 f fd ["thing"] (spPred K lightsB) := by
  refine F.ok sc_are_lights (fun vs H Q E h => ?_) (fun cdv A outer s H vs Q E hr h => ?_)
  · obtain ⟨x, d, rfl, _⟩ := h
    rfl
  · obtain ⟨x, d, rfl, hx, q⟩ := h
    refine ⟨_, (pss_one (ps_ret (pe_and (pe_callD D_is_list_of hr (by rfl) (pa_cons (pv 0) (pa_cons pe_int (pa_cons (pe_globI rfl M_MOST_DAYS) pa_nil)))) (pe_one (pe_callB (cr_all rfl) (by rfl) B.all (by decide +kernel) (pa_cons (pe_lc (own := [("light", 1)]) (g := (gName 1)) rfl sc_are_lights.nd (pi_list (pv 0)) (blkOk_by (own := [("light", 1)]) (N := ["thing", "light"]) (sc := defScope s_are_lights) (by decide +kernel)) (fun _ _ _ _ _ => (pg_name (i := 1) sc_are_lights.nd rfl (Or.inl rfl))) (fun _ _ _ _ _ => pts_nil) (fun _ _ _ _ _ => (pe_callD D_is_number hr (by rfl) (pa_cons (pv 1) pa_nil)))) pa_nil)))))), ?_⟩
    walk_at "wp"
    refine ⟨x, d, 1, 40, rfl, hx, ?_⟩
    walk_at "wp"
    cases hx with
    | lst hs ha =>
      refine ite2 (fun h => ?_) (fun h => ?_)
      · have hl := ha.length
        have h40 : _ ≤ 40 := of_decide_eq_true (Bool.and_eq_true_iff.mp h).2
        walk_at "wp"
        refine ⟨⟨_, hs⟩, fun D hD => ?_⟩
        rename_i ds
        refine LcR.map (walk_list (xs := _)) ((ds.map numD).map V.bl) hD (by rw [List.length_map, List.length_map, hl]) (by omega) (fun H s => s.seq hs) (fun _ _ _ _ y => yat_same y) (fun i x y H0 H1 hi s1 yy hy R hR => ?_) (fun H1 s1 hH => ?_)
        · obtain ⟨rfl, hx⟩ := yy
          obtain ⟨d, hd, hxd⟩ := ha.get hx
          walk_at "wp"
          refine ⟨x, d, rfl, hxd.same s1, ?_⟩
          rw [List.getElem?_map, List.getElem?_map, hd] at hy
          cases hy
          exact hR _ (Same.refl _)
        · refine ⟨ds.map numD, SqL.of hH, qb ?_ (q _ s1)⟩
          simp only [lightsB, h, Bool.true_and, List.all_map]
          rfl
      · exact qb (by simp only [lightsB, Bool.eq_false_iff.mpr h, Bool.false_and]) (q H (Same.refl _))
    | _ => exact q H (Same.refl _)
abbrev s_is_bound : Stmt := top 16
theorem sc_is_bound : FnScope ["thing"] ["thing"] (defScope s_is_bound) := ⟨rfl, rfl, rfl, by decide +kernel, rfl, by decide +kernel, by decide +kernel⟩
theorem ok_is_bound {f : Addr} {fd : FuncData} (F : Fun K "is_bound" "is_bound" s_is_bound f fd) (D_is_number : Def P w K mg base "is_number" 2 ["thing"] (spNum K)) :
    FnOk P w K mg base CX0 3 f fd ["thing"] (spPred K boundB) := by
  refine F.ok sc_is_bound (fun vs H Q E h => ?_) (fun cdv A outer s H vs Q E hr h => ?_)
  · obtain ⟨x, d, rfl, _⟩ := h
    rfl
  · obtain ⟨x, d, rfl, hx, q⟩ := h
    refine ⟨_, (pss_one (ps_ret (pe_or (pe_cmpR op_isN (pv 0) pe_non (nomark _)) (pe_one (pe_and (pe_callD D_is_number hr (by rfl) (pa_cons (pv 0) pa_nil)) (pe_one (pe_cmpR op_ge (pv 0) pe_int (nomark _)))))))), ?_⟩
    have hy := hx
    have q0 := q H (Same.refl _)
    cases hx with
    | non =>
      walk_at "wp"
      exact q0
    | int i =>
      walk_at "wp"
      refine ⟨_, _, rfl, hy, ?_⟩
      walk_at "wp"
      refine ite2 (fun h => qb ?_ q0) (fun h => qb ?_ q0)
      · simp only [boundB, h, Bool.true_and]
      · simp only [boundB, Bool.eq_false_iff.mpr h, Bool.false_and]
    | _ =>
      walk_at "wp"
      refine ⟨_, _, rfl, hy, ?_⟩
      exact ⟨_, rfl, iteF q0⟩
abbrev s_is_life : Stmt := top 17
theorem sc_is_life : FnScope ["thing"] ["thing"] (defScope s_is_life) := ⟨rfl, rfl, rfl, by decide +kernel, rfl, by decide +kernel, by decide +kernel⟩
theorem ok_is_life {f : Addr} {fd : FuncData} (F : Fun K "is_life" "is_life" s_is_life f fd) {t : Tok} (M_LONGEST_LIFE : mg "LONGEST_LIFE" = some (.int 40 t)) (D_is_whole : Def P w K mg base "is_whole" 1 ["thing"] (spWhole K)) :
    FnOk P w K mg base CX0 3 f fd ["thing"] (spPred K lifeB) := by
  refine F.ok sc_is_life (fun vs H Q E h => ?_) (fun cdv A outer s H vs Q E hr h => ?_)
  · obtain ⟨x, d, rfl, _⟩ := h
    rfl
  · obtain ⟨x, d, rfl, hx, q⟩ := h
    refine ⟨_, (pss_one (ps_ret (pe_or (pe_cmpR op_isN (pv 0) pe_non (nomark _)) (pe_one (pe_and (pe_callD D_is_whole hr (by rfl) (pa_cons (pv 0) pa_nil)) (pe_one (pe_chain op_le op_le pe_int (pv 0) (pe_globI rfl M_LONGEST_LIFE)))))))), ?_⟩
    have hy := hx
    have q0 := q H (Same.refl _)
    cases hx with
    | non =>
      walk_at "wp"
      exact q0
    | int i =>
      walk_at "wp"
      refine ⟨_, _, rfl, hy, ?_⟩
      simp only [wholeD]
      walk_at "wp"
      refine ite2 (fun h => qb ?_ q0) (fun h => qb ?_ q0)
      · simp only [lifeB, h, Bool.true_and]
      · simp only [lifeB, Bool.eq_false_iff.mpr h, Bool.false_and]
    | _ =>
      walk_at "wp"
      refine ⟨_, _, rfl, hy, ?_⟩
      exact ⟨_, rfl, iteF q0⟩
abbrev s_is_day : Stmt := top 18
theorem sc_is_day : FnScope ["thing", "want", "loaf", "keep", "fine", "part"] ["thing"] (defScope s_is_day) := ⟨rfl, rfl, rfl, by decide +kernel, rfl, by decide +kernel, by decide +kernel⟩
theorem ok_is_day {f : Addr} {fd : FuncData} (F : Fun K "is_day" "is_day" s_is_day f fd) (B : Bi mg) (D_is_tuple_of : Def P w K mg base "is_tuple_of" 1 ["thing", "many"] (spTupleOf K)) (D_is_number : Def P w K mg base "is_number" 2 ["thing"] (spNum K)) :
    FnOk P w K mg base CX0 3 f fd ["thing"] (spPred K dayB) := by
  refine F.ok sc_is_day (fun vs H Q E h => ?_) (fun cdv A outer s H vs Q E hr h => ?_)
  · obtain ⟨x, d, rfl, _⟩ := h
    rfl
  · obtain ⟨x, d, rfl, hx, q⟩ := h
    refine ⟨_, (pss_cons (ps_if (pt_not (pt_val (pe_callD D_is_tuple_of hr (by rfl) (pa_cons (pv 0) (pa_cons pe_int pa_nil))))) (pss_one (ps_ret pe_bl)) pss_nil)
 (pss_cons (ps_asg (pv 0) (pg_tup rfl (pgs_cons (pg_name (i := 1) sc_is_day.nd rfl (Or.inl rfl)) (pgs_cons (pg_name (i := 2) sc_is_day.nd rfl (Or.inl rfl)) (pgs_cons (pg_name (i := 3) sc_is_day.nd rfl (Or.inl rfl)) (pgs_cons (pg_name (i := 4) sc_is_day.nd rfl (Or.inl rfl)) pgs_nil))))))
 (pss_one (ps_ret (pe_and (pe_callB (cr_all rfl) (by rfl) B.all (by decide +kernel) (pa_cons (pe_lc (own := [("part", 5)]) (g := (gName 5)) rfl sc_is_day.nd (pi_tup (pe_tup (pa_cons (pv 1) (pa_cons (pv 2) (pa_cons (pv 3) pa_nil))))) (blkOk_by (own := [("part", 5)]) (N := ["thing", "want", "loaf", "keep", "fine", "part"]) (sc := defScope s_is_day) (by decide +kernel)) (fun _ _ _ _ _ => (pg_name (i := 5) sc_is_day.nd rfl (Or.inl rfl))) (fun _ _ _ _ _ => pts_nil) (fun _ _ _ _ _ => (pe_callD D_is_number hr (by rfl) (pa_cons (pv 5) pa_nil)))) pa_nil)) (pe_one (pe_or (pe_cmpR op_isN (pv 4) pe_non (nomark _)) (pe_one (pe_callD D_is_number hr (by rfl) (pa_cons (pv 4) pa_nil)))))))))), ?_⟩
    walk_at "wp"
    refine ⟨x, d, 4, rfl, hx, ?_⟩
    walk_at "wp"
    cases hx with
    | tup hs ha =>
      rename_i a xs ds
      refine ite2 (fun h => ?_) (fun h => ?_)
      · refine qb ?_ (q H (Same.refl _))
        have h4 : ¬ ds.length = 4 := of_decide_eq_false (Bool.eq_false_iff.mpr fun z => by rw [show tupB 4 (.tuple ds) = true from z] at h; cases h)
        symm
        match ds, h4 with
        | [], _ => rfl
        | [_], _ => rfl
        | [_, _], _ => rfl
        | [_, _, _], _ => rfl
        | [_, _, _, _], h4 => exact absurd rfl h4
        | _ :: _ :: _ :: _ :: _ :: _, _ => rfl
      · have h4 : ds.length = 4 := of_decide_eq_true (show tupB 4 (.tuple ds) = true by cases e : tupB 4 (.tuple ds) with | true => rfl | false => rw [e] at h; exact absurd rfl h)
        obtain ⟨d1, d2, d3, d4, rfl⟩ := four h4
        cases ha with
        | cons t1 ha => cases ha with
        | cons t2 ha => cases ha with
        | cons t3 ha => cases ha with
        | cons t4 ha =>
        cases ha
        rename_i v1 v2 v3 v4
        walk_at "wp"
        refine ⟨_, hs, rfl, ?_⟩
        walk_at "wp"
        refine ⟨sz100 (by decide), fun p hp => ⟨⟨_, SqT.of upd_same⟩, fun D hD => ?_⟩⟩
        have sp : Same H (upd H p (.tup [v1, v2, v3])) := same_upd hp
        have hT : SqT K (upd H p (.tup [v1, v2, v3])) p [v1, v2, v3] := SqT.of upd_same
        generalize upd H p (.tup [v1, v2, v3]) = Hb at sp hT hD ⊢
        have ta : ThAll K Hb [v1, v2, v3] [d1, d2, d3] := .cons (t1.same sp) (.cons (t2.same sp) (.cons (t3.same sp) .nil))
        refine LcR.map (walk_tup (xs := [v1, v2, v3])) (([d1, d2, d3].map numD).map V.bl) hD rfl (by show 3 ≤ 100000; decide) (fun H s => Same.tup s hT) (fun _ _ _ _ y => yat_same y) (fun i x y H0 H1 hi s1 yy hy R hR => ?_) (fun H1 s1 hH => ?_)
        · obtain ⟨rfl, hx⟩ := yy
          obtain ⟨d, hd, hxd⟩ := ta.get hx
          walk_at "wp"
          refine ⟨x, d, rfl, hxd.same s1, ?_⟩
          rw [List.getElem?_map, List.getElem?_map, hd] at hy
          cases hy
          exact hR _ (Same.refl _)
        · have q1 := q _ (sp.trans s1)
          refine ⟨[d1, d2, d3].map numD, SqL.of hH, ?_⟩
          have e3 : ([d1, d2, d3].map numD).all id = (numD d1 && numD d2 && numD d3) := by
            simp only [List.map, List.all_cons, List.all_nil, id, Bool.and_true, Bool.and_assoc]
          rw [e3]
          refine ite2 (fun h => ?_) (fun h => qb ?_ q1)
          · have t4' := t4.same (sp.trans s1)
            rw [t4'.isNon]
            refine ite2 (fun hn => qb ?_ q1) (fun hn => ⟨_, _, rfl, t4', qb ?_ q1⟩)
            · simp only [dayB, h, hn, Bool.true_or, Bool.true_and]
            · simp only [dayB, h, Bool.eq_false_iff.mpr hn, Bool.false_or, Bool.true_and]
          · simp only [dayB, Bool.eq_false_iff.mpr h, Bool.false_and]
    | _ => exact q H (Same.refl _)
abbrev s_has_bakery_form : Stmt := top 19
theorem sc_has_bakery_form : FnScope ["thing", "lights", "bound", "goods"] ["thing"] (defScope s_has_bakery_form) := ⟨rfl, rfl, rfl, by decide +kernel, rfl, by decide +kernel, by decide +kernel⟩
theorem ok_has_bakery_form {f : Addr} {fd : FuncData} (F : Fun K "has_bakery_form" "has_bakery_form" s_has_bakery_form f fd) (D_is_tuple_of : Def P w K mg base "is_tuple_of" 1 ["thing", "many"] (spTupleOf K)) (D_are_lights : Def P w K mg base "are_lights" 3 ["thing"] (spPred K lightsB))
    (D_is_bound : Def P w K mg base "is_bound" 3 ["thing"] (spPred K boundB)) (D_is_list_of : Def P w K mg base "is_list_of" 1 ["thing", "fewest", "most"] (spListOf K)) {t : Tok} (M_MOST_GOODS : mg "MOST_GOODS" = some (.int 2 t)) :
    FnOk P w K mg base CX0 4 f fd ["thing"] (spPred K bakFormB) := by
  refine F.ok sc_has_bakery_form (fun vs H Q E h => ?_) (fun cdv A outer s H vs Q E hr h => ?_)
  · obtain ⟨x, d, rfl, _⟩ := h
    rfl
  · obtain ⟨x, d, rfl, hx, q⟩ := h
    refine ⟨_, (pss_cons (ps_if (pt_not (pt_val (pe_callD D_is_tuple_of hr (by rfl) (pa_cons (pv 0) (pa_cons pe_int pa_nil))))) (pss_one (ps_ret pe_bl)) pss_nil)
 (pss_cons (ps_asg (pv 0) (pg_tup rfl (pgs_cons (pg_name (i := 1) sc_has_bakery_form.nd rfl (Or.inl rfl)) (pgs_cons (pg_name (i := 2) sc_has_bakery_form.nd rfl (Or.inl rfl)) (pgs_cons (pg_name (i := 3) sc_has_bakery_form.nd rfl (Or.inl rfl)) pgs_nil)))))
 (pss_one (ps_ret (pe_and (pe_callD D_are_lights hr (by rfl) (pa_cons (pv 1) pa_nil)) (pe_and (pe_callD D_is_bound hr (by rfl) (pa_cons (pv 2) pa_nil)) (pe_one (pe_callD D_is_list_of hr (by rfl) (pa_cons (pv 3) (pa_cons pe_int (pa_cons (pe_globI rfl M_MOST_GOODS) pa_nil))))))))))), ?_⟩
    walk_at "wp"
    refine ⟨x, d, 3, rfl, hx, ?_⟩
    walk_at "wp"
    cases hx with
    | tup hs ha =>
      rename_i a xs ds
      refine ite2 (fun h => ?_) (fun h => ?_)
      · refine qb ?_ (q H (Same.refl _))
        have h4 : ¬ ds.length = 3 := of_decide_eq_false (Bool.eq_false_iff.mpr fun z => by rw [show tupB 3 (.tuple ds) = true from z] at h; cases h)
        symm
        match ds, h4 with
        | [], _ => rfl
        | [_], _ => rfl
        | [_, _], _ => rfl
        | [_, _, _], h4 => exact absurd rfl h4
        | _ :: _ :: _ :: _ :: _, _ => rfl
      · have h4 : ds.length = 3 := of_decide_eq_true (show tupB 3 (.tuple ds) = true by cases e : tupB 3 (.tuple ds) with | true => rfl | false => rw [e] at h; exact absurd rfl h)
        obtain ⟨d1, d2, d3, rfl⟩ := three h4
        cases ha with
        | cons t1 ha => cases ha with
        | cons t2 ha => cases ha with
        | cons t3 ha =>
        cases ha
        rename_i v1 v2 v3
        walk_at "wp"
        refine ⟨_, hs, rfl, ?_⟩
        walk_at "wp"
        refine ⟨_, _, rfl, t1, fun H1 s1 => ?_⟩
        walk_at "wp"
        refine ite2 (fun h1 => ⟨_, _, rfl, t2.same s1, fun H2 s2 => ?_⟩) (fun h1 => qb ?_ (q H1 s1))
        · walk_at "wp"
          refine ite2 (fun h2 => ⟨_, _, 1, 2, rfl, t3.same (s1.trans s2), qb ?_ (q H2 (s1.trans s2))⟩) (fun h2 => qb ?_ (q H2 (s1.trans s2)))
          · simp only [bakFormB, h1, h2, Bool.true_and]
          · simp only [bakFormB, h1, Bool.eq_false_iff.mpr h2, Bool.true_and, Bool.false_and]
        · simp only [bakFormB, Bool.eq_false_iff.mpr h1, Bool.false_and]
    | _ => exact q H (Same.refl _)
abbrev s_has_good_form : Stmt := top 20
theorem sc_has_good_form : FnScope ["thing", "many", "days", "life"] ["thing", "many"] (defScope s_has_good_form) := ⟨rfl, rfl, rfl, by decide +kernel, rfl, by decide +kernel, by decide +kernel⟩
def spGoodForm (K : PySem.W.Frag) : Sp := fun vs H Q _ => ∃ x d, ∃ n : Nat, vs = [x, .int (n : Int)] ∧ Th K H x d ∧ ∀ H', Same H H' → Q (.bl (goodFormB n d)) H'
theorem ok_has_good_form {f : Addr} {fd : FuncData} (F : Fun K "has_good_form" "has_good_form" s_has_good_form f fd) (D_is_tuple_of : Def P w K mg base "is_tuple_of" 1 ["thing", "many"] (spTupleOf K)) (D_is_life : Def P w K mg base "is_life" 3 ["thing"] (spPred K lifeB))
    (D_is_list_of : Def P w K mg base "is_list_of" 1 ["thing", "fewest", "most"] (spListOf K)) :
    FnOk P w K mg base CX0 4 f fd ["thing", "many"] (spGoodForm K) := by
  refine F.ok sc_has_good_form (fun vs H Q E h => ?_) (fun cdv A outer s H vs Q E hr h => ?_)
  · obtain ⟨x, d, n, rfl, _⟩ := h
    rfl
  · obtain ⟨x, d, n, rfl, hx, q⟩ := h
    refine ⟨_, (pss_cons (ps_if (pt_not (pt_val (pe_callD D_is_tuple_of hr (by rfl) (pa_cons (pv 0) (pa_cons pe_int pa_nil))))) (pss_one (ps_ret pe_bl)) pss_nil)
 (pss_cons (ps_asg (pv 0) (pg_tup rfl (pgs_cons (pg_name (i := 2) sc_has_good_form.nd rfl (Or.inl rfl)) (pgs_cons (pg_name (i := 3) sc_has_good_form.nd rfl (Or.inl rfl)) pgs_nil))))
 (pss_one (ps_ret (pe_and (pe_callD D_is_list_of hr (by rfl) (pa_cons (pv 2) (pa_cons (pv 1) (pa_cons (pv 1) pa_nil)))) (pe_one (pe_callD D_is_life hr (by rfl) (pa_cons (pv 3) pa_nil)))))))), ?_⟩
    walk_at "wp"
    refine ⟨x, d, 2, rfl, hx, ?_⟩
    walk_at "wp"
    cases hx with
    | tup hs ha =>
      rename_i a xs ds
      refine ite2 (fun h => ?_) (fun h => ?_)
      · refine qb ?_ (q H (Same.refl _))
        have h4 : ¬ ds.length = 2 := of_decide_eq_false (Bool.eq_false_iff.mpr fun z => by rw [show tupB 2 (.tuple ds) = true from z] at h; cases h)
        symm
        match ds, h4 with
        | [], _ => rfl
        | [_], _ => rfl
        | [_, _], h4 => exact absurd rfl h4
        | _ :: _ :: _ :: _, _ => rfl
      · have h4 : ds.length = 2 := of_decide_eq_true (show tupB 2 (.tuple ds) = true by cases e : tupB 2 (.tuple ds) with | true => rfl | false => rw [e] at h; exact absurd rfl h)
        obtain ⟨d1, d2, rfl⟩ := two h4
        cases ha with
        | cons t1 ha => cases ha with
        | cons t2 ha =>
        cases ha
        rename_i v1 v2
        walk_at "wp"
        refine ⟨_, hs, rfl, ?_⟩
        walk_at "wp"
        refine ⟨_, _, n, n, rfl, t1, ?_⟩
        walk_at "wp"
        refine ite2 (fun h1 => ⟨_, _, rfl, t2, fun H2 s2 => qb ?_ (q H2 s2)⟩) (fun h1 => qb ?_ (q H (Same.refl _)))
        · simp only [goodFormB, h1, Bool.true_and]
        · simp only [goodFormB, Bool.eq_false_iff.mpr h1, Bool.false_and]
    | _ => exact q H (Same.refl _)
abbrev s_look_at_goods : Stmt := top 21
theorem sc_look_at_goods : FnScope ["goods", "many", "number", "good", "days", "life", "at", "day"] ["goods", "many"] (defScope s_look_at_goods) := ⟨rfl, rfl, rfl, by decide +kernel, rfl, by decide +kernel, by decide +kernel⟩
def spLookGoods (K : PySem.W.Frag) : Sp := fun vs H Q _ => ∃ x, ∃ n : Nat, ∃ gs, vs = [x, .int (n : Int)] ∧ Th K H x (.list gs) ∧ gs.all (goodB n) = true ∧ ∀ H', Same H H' → Q .non H'
def LgI (x : V) (n : Nat) (H : Hp) (_ : Nat) (σ : L2.St) (H' : Hp) : Prop := (∃ y2 y3 y4 y5 y6 y7, σ = [some x, some (.int (n : Int)), y2, y3, y4, y5, y6, y7]) ∧ Same H H'
def LgJ (x : V) (n : Nat) (v2 v3 v4 v5 : V) (H : Hp) (_ : Nat) (σ : L2.St) (H' : Hp) : Prop := (∃ y6 y7, σ = [some x, some (.int (n : Int)), some v2, some v3, some v4, some v5, y6, y7]) ∧ Same H H'
theorem ok_look_at_goods {f : Addr} {fd : FuncData} (F : Fun K "look_at_goods" "look_at_goods" s_look_at_goods f fd) (B : Bi mg) (D_has_good_form : Def P w K mg base "has_good_form" 4 ["thing", "many"] (spGoodForm K)) (D_is_day : Def P w K mg base "is_day" 3 ["thing"] (spPred K dayB)) :
    FnOk P w K mg base CX0 5 f fd ["goods", "many"] (spLookGoods K) := by
  refine F.ok sc_look_at_goods (fun vs H Q E h => ?_) (fun cdv A outer s H vs Q E hr h => ?_)
  · obtain ⟨x, n, gs, rfl, _⟩ := h
    rfl
  · obtain ⟨x, n, gs, rfl, hx, hg, q⟩ := h
    refine ⟨_, (pss_one (ps_for PassesOwn.never rfl (pi_enum (by rfl) B.enumerate (pa_cons (pv 0) pa_nil)) (pg_tup rfl (pgs_cons (pg_name (i := 2) sc_look_at_goods.nd rfl (Or.inl rfl)) (pgs_cons (pg_name (i := 3) sc_look_at_goods.nd rfl (Or.inl rfl)) pgs_nil))) (pss_cons (ps_if (pt_not (pt_val (pe_callD D_has_good_form hr (by rfl) (pa_cons (pv 3) (pa_cons (pv 1) pa_nil))))) (pss_one ps_never) pss_nil)
 (pss_cons (ps_asg (pv 3) (pg_tup rfl (pgs_cons (pg_name (i := 4) sc_look_at_goods.nd rfl (Or.inl rfl)) (pgs_cons (pg_name (i := 5) sc_look_at_goods.nd rfl (Or.inl rfl)) pgs_nil))))
 (pss_one (ps_for PassesOwn.never rfl (pi_enum (by rfl) B.enumerate (pa_cons (pv 4) pa_nil)) (pg_tup rfl (pgs_cons (pg_name (i := 6) sc_look_at_goods.nd rfl (Or.inl rfl)) (pgs_cons (pg_name (i := 7) sc_look_at_goods.nd rfl (Or.inl rfl)) pgs_nil))) (pss_one (ps_if (pt_not (pt_val (pe_callD D_is_day hr (by rfl) (pa_cons (pv 7) pa_nil)))) (pss_one ps_never) pss_nil)))))))), ?_⟩
    cases hx with
    | lst hs ha =>
    rename_i a xs
    walk_at "wp"
    refine ⟨_, hs, LoopR.by walk_enum (LgI (.ref a) n H) ⟨⟨_, _, _, _, _, _, rfl⟩, Same.refl _⟩ (fun i σ H' _ hI => hI.2.seq hs) (fun i v σ H0 H1 hi hI hY => ?_) (fun σ H' hI => q _ hI.2)⟩
    obtain ⟨⟨y2, y3, y4, y5, y6, y7, rfl⟩, S0⟩ := hI
    have S1 := S0.trans (ypair_same hY)
    obtain ⟨T, z1, z2, rfl, hT, rfl, e1, e2⟩ := hY
    cases e1
    have e2 : xs[i]? = some z2 := e2
    obtain ⟨d, hd, hz⟩ := ha.get e2
    have hdg : goodB n d = true := List.all_eq_true.mp hg d (List.mem_of_getElem? hd)
    obtain ⟨ds, l, rfl, hdl, hlf, hda⟩ := goodB_inv hdg
    walk_at "wp"
    refine ⟨_, SqT.of upd_same, rfl, ?_⟩
    walk_at "wp"
    refine ⟨_, _, n, rfl, hz.same S1, fun H2 S2 => ?_⟩
    rw [show goodFormB n (.tuple [.list ds, l]) = true by simp only [goodFormB, listB, hdl, hlf]; simp]
    walk_at "wp"
    have S3 := S1.trans S2
    have hz3 := hz.same S3
    cases hz3 with
    | tup ht hta =>
    rename_i b ys
    cases hta with
    | cons t1 hta => cases hta with
    | cons t2 hta =>
    cases hta
    rename_i v1 v2
    cases t1 with
    | lst hl1 hl2 =>
    rename_i c zs
    walk_at "wp"
    refine ⟨_, ht, rfl, ?_⟩
    walk_at "wp"
    refine ⟨_, hl1, LoopR.by walk_enum (LgJ (.ref a) n _ _ _ _ H2) ⟨⟨_, _, rfl⟩, Same.refl _⟩ (fun i σ H' _ hI => hI.2.seq hl1) (fun j v σ H4 H5 hj hI hY => ?_) (fun σ H' hI => ?_)⟩
    · obtain ⟨⟨y6, y7, rfl⟩, S4⟩ := hI
      have S5 := S4.trans (ypair_same hY)
      obtain ⟨T2, z3, z4, rfl, hT2, rfl, e3, e4⟩ := hY
      cases e3
      have e4 : zs[j]? = some z4 := e4
      obtain ⟨d2, hd2, hz2⟩ := hl2.get e4
      have hdd : dayB d2 = true := List.all_eq_true.mp hda d2 (List.mem_of_getElem? hd2)
      walk_at "wp"
      refine ⟨_, SqT.of upd_same, rfl, ?_⟩
      walk_at "wp"
      refine ⟨_, _, rfl, hz2.same S5, fun H6 S6 => ?_⟩
      rw [hdd]
      walk_at "wp"
      exact ⟨⟨_, _, rfl⟩, S5.trans S6⟩
    · obtain ⟨⟨y6, y7, rfl⟩, S4⟩ := hI
      exact ⟨⟨_, _, _, _, _, _, rfl⟩, S3.trans S4⟩
abbrev s_look_at_bakery : Stmt := top 22
theorem sc_look_at_bakery : FnScope ["thing", "lights", "bound", "goods"] ["thing"] (defScope s_look_at_bakery) := ⟨rfl, rfl, rfl, by decide +kernel, rfl, by decide +kernel, by decide +kernel⟩
def spLook (K : PySem.W.Frag) : Sp := fun vs H Q _ => ∃ x d, vs = [x] ∧ Th K H x d ∧ bakB d = true ∧ ∀ H', Same H H' → Q .non H'
theorem ok_look_at_bakery {f : Addr} {fd : FuncData} (F : Fun K "look_at_bakery" "look_at_bakery" s_look_at_bakery f fd) (B : Bi mg) (D_has_bakery_form : Def P w K mg base "has_bakery_form" 4 ["thing"] (spPred K bakFormB)) (D_look_at_goods : Def P w K mg base "look_at_goods" 5 ["goods", "many"] (spLookGoods K)) :
    FnOk P w K mg base CX0 6 f fd ["thing"] (spLook K) := by
  refine F.ok sc_look_at_bakery (fun vs H Q E h => ?_) (fun cdv A outer s H vs Q E hr h => ?_)
  · obtain ⟨x, d, rfl, _⟩ := h
    rfl
  · obtain ⟨x, d, rfl, hx, hb, q⟩ := h
    refine ⟨_, (pss_cons (ps_if (pt_not (pt_val (pe_callD D_has_bakery_form hr (by rfl) (pa_cons (pv 0) pa_nil)))) (pss_one ps_never) pss_nil)
 (pss_cons (ps_asg (pv 0) (pg_tup rfl (pgs_cons (pg_name (i := 1) sc_look_at_bakery.nd rfl (Or.inl rfl)) (pgs_cons (pg_name (i := 2) sc_look_at_bakery.nd rfl (Or.inl rfl)) (pgs_cons (pg_name (i := 3) sc_look_at_bakery.nd rfl (Or.inl rfl)) pgs_nil)))))
 (pss_one (ps_expr (pe_callD D_look_at_goods hr (by rfl) (pa_cons (pv 3) (pa_cons (pe_callB call_lnL (by rfl) B.len (by decide +kernel) (pa_cons (pv 1) pa_nil)) pa_nil))))))), ?_⟩
    walk_at "wp"
    refine ⟨_, _, rfl, hx, fun H1 S1 => ?_⟩
    obtain ⟨ls, b, gs, rfl, h1, h2, h3, h4⟩ := bakB_inv hb
    rw [show bakFormB (.tuple [.list ls, b, .list gs]) = true by simp only [bakFormB, h1, h2, h3, Bool.and_self]]
    walk_at "wp"
    have hx1 := hx.same S1
    cases hx1 with
    | tup ht hta =>
    cases hta with
    | cons t1 hta => cases hta with
    | cons t2 hta => cases hta with
    | cons t3 hta =>
    cases hta
    cases t1 with
    | lst hl1 hl2 =>
    walk_at "wp"
    refine ⟨_, ht, rfl, ?_⟩
    walk_at "wp"
    refine ⟨_, hl1, _, ls.length, gs, by rw [hl2.length], t3, h4, fun H2 S2 => q _ (S1.trans S2)⟩
abbrev s_is_place : Stmt := top 23
theorem sc_is_place : FnScope ["thing", "many"] ["thing", "many"] (defScope s_is_place) := ⟨rfl, rfl, rfl, by decide +kernel, rfl, by decide +kernel, by decide +kernel⟩
def spPlace (K : PySem.W.Frag) : Sp := fun vs H Q _ => ∃ i : Int, ∃ n : Nat, vs = [.int i, .int (n : Int)] ∧ Q (.bl (decide (0 ≤ i) && decide (i < (n : Int)))) H
theorem ok_is_place {f : Addr} {fd : FuncData} (F : Fun K "is_place" "is_place" s_is_place f fd) (D_is_whole : Def P w K mg base "is_whole" 1 ["thing"] (spWhole K)) : FnOk P w K mg base CX0 2 f fd ["thing", "many"] (spPlace K) := by
  refine F.ok sc_is_place (fun vs H Q E h => ?_) (fun cdv A outer s H vs Q E hr h => ?_)
  · obtain ⟨i, n, rfl, _⟩ := h
    rfl
  · obtain ⟨i, n, rfl, q⟩ := h
    refine ⟨_, (pss_one (ps_ret (pe_and (pe_callD D_is_whole hr (by rfl) (pa_cons (pv 0) pa_nil)) (pe_one (pe_chain op_le op_lt pe_int (pv 0) (pv 1)))))), ?_⟩
    walk_at "wp"
    refine ⟨_, _, rfl, .int i, ?_⟩
    simp only [wholeD]
    walk_at "wp"
    refine ite2 (fun h => qb ?_ q) (fun h => qb ?_ q)
    · rw [h, Bool.true_and]
    · rw [Bool.eq_false_iff.mpr h, Bool.false_and]
abbrev s_look_at_good_number : Stmt := top 24
theorem sc_look_at_good_number : FnScope ["bakery", "thing", "lights", "bound", "goods"] ["bakery", "thing"] (defScope s_look_at_good_number) := ⟨rfl, rfl, rfl, by decide +kernel, rfl, by decide +kernel, by decide +kernel⟩
def spPlaceG (K : PySem.W.Frag) : Sp := fun vs H Q _ => ∃ x b, ∃ i : Nat, vs = [x, .int (i : Int)] ∧ Th K H x (bakD b) ∧ i < b.goods.length ∧ Q .non H
theorem ok_look_at_good_number {f : Addr} {fd : FuncData} (F : Fun K "look_at_good_number" "look_at_good_number" s_look_at_good_number f fd) (B : Bi mg) (D_is_place : Def P w K mg base "is_place" 2 ["thing", "many"] (spPlace K)) : FnOk P w K mg base CX0 3 f fd ["bakery", "thing"] (spPlaceG K) := by
  refine F.ok sc_look_at_good_number (fun vs H Q E h => ?_) (fun cdv A outer s H vs Q E hr h => ?_)
  · obtain ⟨x, b, i, rfl, _⟩ := h
    rfl
  · obtain ⟨x, b, i, rfl, hx, hi, q⟩ := h
    refine ⟨_, (pss_cons (ps_asg (pv 0) (pg_tup rfl (pgs_cons (pg_name (i := 2) sc_look_at_good_number.nd rfl (Or.inl rfl)) (pgs_cons (pg_name (i := 3) sc_look_at_good_number.nd rfl (Or.inl rfl)) (pgs_cons (pg_name (i := 4) sc_look_at_good_number.nd rfl (Or.inl rfl)) pgs_nil)))))
 (pss_one (ps_if (pt_not (pt_val (pe_callD D_is_place hr (by rfl) (pa_cons (pv 1) (pa_cons (pe_callB call_lnL (by rfl) B.len (by decide +kernel) (pa_cons (pv 4) pa_nil)) pa_nil))))) (pss_one ps_never) pss_nil))), ?_⟩
    obtain ⟨a, l, v2, g, xl, xg, rfl, ht, hl, hla, h2, hg, hga⟩ := Th.bak hx
    walk_at "wp"
    refine ⟨_, ht, rfl, ?_⟩
    walk_at "wp"
    refine ⟨_, hg, i, xg.length, rfl, ?_⟩
    rw [hga.length, List.length_map]
    rw [show (decide ((0 : Int) ≤ (i : Int)) && decide ((i : Int) < (b.goods.length : Int))) = true by simp only [Bool.and_eq_true, decide_eq_true_eq]; omega]
    walk_at "wp"
    exact q
abbrev s_look_at_day_number : Stmt := top 25
theorem sc_look_at_day_number : FnScope ["bakery", "thing", "lights", "bound", "goods"] ["bakery", "thing"] (defScope s_look_at_day_number) := ⟨rfl, rfl, rfl, by decide +kernel, rfl, by decide +kernel, by decide +kernel⟩
def spPlaceD (K : PySem.W.Frag) : Sp := fun vs H Q _ => ∃ x b, ∃ i : Nat, vs = [x, .int (i : Int)] ∧ Th K H x (bakD b) ∧ i < b.lights.length ∧ Q .non H
theorem ok_look_at_day_number {f : Addr} {fd : FuncData} (F : Fun K "look_at_day_number" "look_at_day_number" s_look_at_day_number f fd) (B : Bi mg) (D_is_place : Def P w K mg base "is_place" 2 ["thing", "many"] (spPlace K)) : FnOk P w K mg base CX0 3 f fd ["bakery", "thing"] (spPlaceD K) := by
  refine F.ok sc_look_at_day_number (fun vs H Q E h => ?_) (fun cdv A outer s H vs Q E hr h => ?_)
  · obtain ⟨x, b, i, rfl, _⟩ := h
    rfl
  · obtain ⟨x, b, i, rfl, hx, hi, q⟩ := h
    refine ⟨_, (pss_cons (ps_asg (pv 0) (pg_tup rfl (pgs_cons (pg_name (i := 2) sc_look_at_day_number.nd rfl (Or.inl rfl)) (pgs_cons (pg_name (i := 3) sc_look_at_day_number.nd rfl (Or.inl rfl)) (pgs_cons (pg_name (i := 4) sc_look_at_day_number.nd rfl (Or.inl rfl)) pgs_nil)))))
 (pss_one (ps_if (pt_not (pt_val (pe_callD D_is_place hr (by rfl) (pa_cons (pv 1) (pa_cons (pe_callB call_lnL (by rfl) B.len (by decide +kernel) (pa_cons (pv 2) pa_nil)) pa_nil))))) (pss_one ps_never) pss_nil))), ?_⟩
    obtain ⟨a, l, v2, g, xl, xg, rfl, ht, hl, hla, h2, hg, hga⟩ := Th.bak hx
    walk_at "wp"
    refine ⟨_, ht, rfl, ?_⟩
    walk_at "wp"
    refine ⟨_, hl, i, xl.length, rfl, ?_⟩
    rw [hla.length, List.length_map]
    rw [show (decide ((0 : Int) ≤ (i : Int)) && decide ((i : Int) < (b.lights.length : Int))) = true by simp only [Bool.and_eq_true, decide_eq_true_eq]; omega]
    walk_at "wp"
    exact q
abbrev s_keeps_of : Stmt := top 27
theorem sc_keeps_of : FnScope ["days", "first", "behind", "want", "loaf", "keep", "fine"] ["days", "first", "behind"] (defScope s_keeps_of) := ⟨rfl, rfl, rfl, by decide +kernel, rfl, by decide +kernel, by decide +kernel⟩
def spKeeps (K : PySem.W.Frag) : Sp := fun vs H Q _ => ∃ x ds, ∃ i j : Nat, vs = [x, .int (i : Int), .int (j : Int)] ∧ Th K H x (.list (ds.map dayD)) ∧ ds.length ≤ 1000 ∧ ∀ H', Same H H' → Q (.int (keepsL ds i j)) H'
theorem ok_keeps_of {f : Addr} {fd : FuncData} (F : Fun K "keeps_of" "keeps_of" s_keeps_of f fd) (B : Bi mg) : FnOk P w K mg base CX0 1 f fd ["days", "first", "behind"] (spKeeps K) := by
  refine F.ok sc_keeps_of (fun vs H Q E h => ?_) (fun cdv A outer s H vs Q E hr h => ?_)
  · obtain ⟨x, ds, i, j, rfl, _⟩ := h
    rfl
  · obtain ⟨x, ds, i, j, rfl, hx, hl, q⟩ := h
    refine ⟨_, (pss_one (ps_ret (pe_callB (cr_sum rfl) (by rfl) B.sum (by decide +kernel) (pa_cons (pe_lc (own := [("want", 3), ("loaf", 4), ("keep", 5), ("fine", 6)]) (g := (gTup K 4 (gCons (gName 3) (gCons (gName 4) (gCons (gName 5) (gCons (gName 6) gNil)))))) rfl sc_keeps_of.nd (pi_list (pe_slice sl_list (pv 0) (po_some (pv 1)) (po_some (pv 2)))) (blkOk_by (own := [("want", 3), ("loaf", 4), ("keep", 5), ("fine", 6)]) (N := ["days", "first", "behind", "want", "loaf", "keep", "fine"]) (sc := defScope s_keeps_of) (by decide +kernel)) (fun _ _ _ _ _ => (pg_tup rfl (pgs_cons (pg_name (i := 3) sc_keeps_of.nd rfl (Or.inl rfl)) (pgs_cons (pg_name (i := 4) sc_keeps_of.nd rfl (Or.inl rfl)) (pgs_cons (pg_name (i := 5) sc_keeps_of.nd rfl (Or.inl rfl)) (pgs_cons (pg_name (i := 6) sc_keeps_of.nd rfl (Or.inl rfl)) pgs_nil)))))) (fun _ _ _ _ _ => pts_nil) (fun _ _ _ _ _ => (pv 5))) pa_nil)))), ?_⟩
    cases hx with
    | lst hs ha =>
    rename_i a xs
    walk_at "wp"
    refine ⟨_, hs, fun p hp => ⟨⟨_, SqL.of upd_same⟩, fun D hD => ?_⟩⟩
    rw [cutV_nat] at hD ⊢
    have sp : Same H (upd H p (.lst ((xs.drop i).take (j - i)))) := same_upd hp
    have hL : SqL K (upd H p (.lst ((xs.drop i).take (j - i)))) p ((xs.drop i).take (j - i)) := SqL.of upd_same
    have hb := ((ha.same sp).drop i).take (j - i)
    rw [← List.map_drop, ← List.map_take] at hb
    generalize upd H p (.lst ((xs.drop i).take (j - i))) = Hb at sp hL hD hb ⊢
    generalize hcut : (ds.drop i).take (j - i) = cs at hb
    have hcl : cs.length ≤ 1000 := by
      rw [← hcut, List.length_take, List.length_drop]
      omega
    have hbl := hb.length
    rw [List.length_map] at hbl
    refine LcR.map walk_list (cs.map fun d => V.int d.keep) hD (by rw [List.length_map, hbl]) (by omega) (fun H s => s.seq hL) (fun _ _ _ _ y => yat_same y) (fun i x y H0 H1 hi s1 yy hy R hR => ?_) (fun H1 s1 hH => ?_)
    · obtain ⟨rfl, hx⟩ := yy
      obtain ⟨d, hd, hxd⟩ := hb.get hx
      rw [List.getElem?_map] at hd hy
      cases hc : cs[i]? with
      | none => rw [hc] at hd; cases hd
      | some c =>
        rw [hc] at hd hy
        cases hd
        cases hy
        obtain ⟨t, rfl, ht⟩ := (hxd.same s1).day
        walk_at "wp"
        refine ⟨_, ht, rfl, ?_⟩
        walk_at "wp"
        exact hR _ (Same.refl _)
    · refine ⟨cs.map Day.keep, SqL.of (by rw [List.map_map]; exact hH), ?_⟩
      have q1 := q _ (sp.trans s1)
      unfold keepsL at q1
      rw [hcut] at q1
      exact q1
abbrev s_fines_of : Stmt := top 28
theorem sc_fines_of : FnScope ["days", "first", "behind", "fines", "want", "loaf", "keep", "fine"] ["days", "first", "behind"] (defScope s_fines_of) := ⟨rfl, rfl, rfl, by decide +kernel, rfl, by decide +kernel, by decide +kernel⟩
def spFines (K : PySem.W.Frag) : Sp := fun vs H Q _ => ∃ x ds, ∃ i j : Nat, vs = [x, .int (i : Int), .int (j : Int)] ∧ Th K H x (.list (ds.map dayD)) ∧ ds.length ≤ 1000 ∧ ∀ H', Same H H' → Q (optV (finesL ds i j)) H'
theorem ok_fines_of {f : Addr} {fd : FuncData} (F : Fun K "fines_of" "fines_of" s_fines_of f fd) (B : Bi mg) : FnOk P w K mg base CX0 1 f fd ["days", "first", "behind"] (spFines K) := by
  refine F.ok sc_fines_of (fun vs H Q E h => ?_) (fun cdv A outer s H vs Q E hr h => ?_)
  · obtain ⟨x, ds, i, j, rfl, _⟩ := h
    rfl
  · obtain ⟨x, ds, i, j, rfl, hx, hl, q⟩ := h
    refine ⟨_, (pss_cons (ps_setLc (i := 3) (own := [("want", 4), ("loaf", 5), ("keep", 6), ("fine", 7)]) (g := (gTup K 4 (gCons (gName 4) (gCons (gName 5) (gCons (gName 6) (gCons (gName 7) gNil)))))) rfl sc_fines_of.nd rfl rfl (sw_true rfl rfl rfl (by decide +kernel)) (pi_list (pe_slice sl_list (pv 0) (po_some (pv 1)) (po_some (pv 2)))) (blkOk_by (own := [("want", 4), ("loaf", 5), ("keep", 6), ("fine", 7)]) (N := ["days", "first", "behind", "fines", "want", "loaf", "keep", "fine"]) (sc := defScope s_fines_of) (by decide +kernel)) (fun _ _ _ _ _ => (pg_tup rfl (pgs_cons (pg_name (i := 4) sc_fines_of.nd rfl (Or.inl rfl)) (pgs_cons (pg_name (i := 5) sc_fines_of.nd rfl (Or.inl rfl)) (pgs_cons (pg_name (i := 6) sc_fines_of.nd rfl (Or.inl rfl)) (pgs_cons (pg_name (i := 7) sc_fines_of.nd rfl (Or.inl rfl)) pgs_nil)))))) (fun _ _ _ _ _ => pts_nil) (fun _ _ _ _ _ => (pv 7)))
 (pss_one (ps_ret (pe_ifExp (pt_cmpR op_in_seq pe_non (pv 3) (by rfl)) pe_non (pe_callB (cr_sum rfl) (by rfl) B.sum (by decide +kernel) (pa_cons (pv 3) pa_nil)))))), ?_⟩
    cases hx with
    | lst hs ha =>
    rename_i a xs
    walk_at "wp"
    refine ⟨_, hs, fun p hp => ⟨⟨_, SqL.of upd_same⟩, fun D hD => ?_⟩⟩
    rw [cutV_nat] at hD ⊢
    have sp : Same H (upd H p (.lst ((xs.drop i).take (j - i)))) := same_upd hp
    have hL : SqL K (upd H p (.lst ((xs.drop i).take (j - i)))) p ((xs.drop i).take (j - i)) := SqL.of upd_same
    have hb := ((ha.same sp).drop i).take (j - i)
    rw [← List.map_drop, ← List.map_take] at hb
    generalize upd H p (.lst ((xs.drop i).take (j - i))) = Hb at sp hL hD hb ⊢
    generalize hcut : (ds.drop i).take (j - i) = cs at hb
    have hcl : cs.length ≤ 1000 := by
      rw [← hcut, List.length_take, List.length_drop]
      omega
    have hbl := hb.length
    rw [List.length_map] at hbl
    refine LcR.map walk_list ((cs.map Day.fine).map optV) hD (by rw [List.length_map, List.length_map, hbl]) (by omega) (fun H s => s.seq hL) (fun _ _ _ _ y => yat_same y) (fun i x y H0 H1 hi s1 yy hy R hR => ?_) (fun H1 s1 hH => ?_)
    · obtain ⟨rfl, hx⟩ := yy
      obtain ⟨d, hd, hxd⟩ := hb.get hx
      rw [List.getElem?_map] at hd hy
      rw [List.getElem?_map] at hy
      cases hc : cs[i]? with
      | none => rw [hc] at hd; cases hd
      | some c =>
        rw [hc] at hd hy
        cases hd
        cases hy
        obtain ⟨t, rfl, ht⟩ := (hxd.same s1).day
        walk_at "wp"
        refine ⟨_, ht, rfl, ?_⟩
        walk_at "wp"
        exact hR _ (Same.refl _)
    · have q1 := q _ (sp.trans s1)
      unfold finesL at q1
      rw [hcut] at q1
      refine ⟨_, .inl (SqL.of hH), rfl, flat_opts _, ite2 (fun h => ?_) (fun h => ?_)⟩
      · rw [sumO_none h] at q1
        exact q1
      · obtain ⟨ns, e1, e2⟩ := sumO_some (Bool.eq_false_iff.mpr h)
        rw [e2] at q1
        rw [e1] at hH
        exact ⟨ns, SqL.of hH, q1⟩
abbrev s_loaf_price : Stmt := top 29
theorem sc_loaf_price : FnScope ["good", "baked", "given", "days", "life", "want", "loaf", "keep", "fine", "fines"] ["good", "baked", "given"] (defScope s_loaf_price) := ⟨rfl, rfl, rfl, by decide +kernel, rfl, by decide +kernel, by decide +kernel⟩
def spLoafP (K : PySem.W.Frag) : Sp := fun vs H Q _ => ∃ x g, ∃ j k : Nat, vs = [x, .int (j : Int), .int (k : Int)] ∧ Th K H x (goodD g) ∧ g.days.length ≤ 1000 ∧ j < g.days.length ∧ ∀ H', Same H H' → Q (optV (loafP g j k)) H'
theorem ok_loaf_price {f : Addr} {fd : FuncData} (F : Fun K "loaf_price" "loaf_price" s_loaf_price f fd) (D_fines_of : Def P w K mg base "fines_of" 1 ["days", "first", "behind"] (spFines K)) (D_keeps_of : Def P w K mg base "keeps_of" 1 ["days", "first", "behind"] (spKeeps K)) : FnOk P w K mg base CX0 2 f fd ["good", "baked", "given"] (spLoafP K) := by
  refine F.ok sc_loaf_price (fun vs H Q E h => ?_) (fun cdv A outer s H vs Q E hr h => ?_)
  · obtain ⟨x, g, j, k, rfl, _⟩ := h
    rfl
  · obtain ⟨x, g, j, k, rfl, hx, hl, hj, q⟩ := h
    refine ⟨_, (pss_cons (ps_asg (pv 0) (pg_tup rfl (pgs_cons (pg_name (i := 3) sc_loaf_price.nd rfl (Or.inl rfl)) (pgs_cons (pg_name (i := 4) sc_loaf_price.nd rfl (Or.inl rfl)) pgs_nil))))
 (pss_cons (ps_asg (pe_ix ix_list (pv 3) (pv 1) (fun _ _ => rfl)) (pg_tup rfl (pgs_cons (pg_name (i := 5) sc_loaf_price.nd rfl (Or.inl rfl)) (pgs_cons (pg_name (i := 6) sc_loaf_price.nd rfl (Or.inl rfl)) (pgs_cons (pg_name (i := 7) sc_loaf_price.nd rfl (Or.inl rfl)) (pgs_cons (pg_name (i := 8) sc_loaf_price.nd rfl (Or.inl rfl)) pgs_nil))))))
 (pss_cons (ps_if (pt_cmpR op_gt (pv 1) (pv 2) (nomark _)) (pss_cons (ps_set (i := 9) sc_loaf_price.nd rfl (Or.inl rfl) (pe_callD D_fines_of hr (by rfl) (pa_cons (pv 3) (pa_cons (pv 2) (pa_cons (pv 1) pa_nil)))))
 (pss_one (ps_ret (pe_ifExp (pt_cmpR op_isN (pv 9) pe_non (nomark _)) pe_non (pe_op op_add (pv 6) (pv 9)))))) pss_nil)
 (pss_cons (ps_if (PW.pt (pw_and (pt_cmpR op_notN (pv 4) pe_non (nomark _)) (pw_and1 (pt_cmpR op_gt (pe_op op_sub (pv 2) (pv 1)) (pv 4) (nomark _))))) (pss_one (ps_ret pe_non)) pss_nil)
 (pss_one (ps_ret (pe_op op_add (pv 6) (pe_callD D_keeps_of hr (by rfl) (pa_cons (pv 3) (pa_cons (pv 1) (pa_cons (pv 2) pa_nil))))))))))), ?_⟩
    obtain ⟨t, a, xs, rfl, ht, hs, ha⟩ := hx.good
    have hd : g.days[j]? = some g.days[j] := List.getElem?_eq_getElem hj
    generalize g.days[j] = d at hd
    obtain ⟨v, hv, hvd⟩ := ha.get' (i := j) (d := dayD d) (by rw [List.getElem?_map, hd]; rfl)
    obtain ⟨t2, rfl, ht2⟩ := hvd.day
    walk_at "wp"
    refine ⟨_, ht, rfl, ?_⟩
    walk_at "wp"
    refine ⟨_, _, hs, atI_nat hv, ?_⟩
    walk_at "wp"
    refine ⟨_, ht2, rfl, ?_⟩
    walk_at "wp"
    refine ite2 (fun h => ?_) (fun h => ?_)
    · have hkj : k < j := by have := of_decide_eq_true h; omega
      refine ⟨_, g.days, k, j, rfl, .lst hs ha, hl, fun H1 s1 => ?_⟩
      have q1 := q H1 s1
      simp only [loafP, hd, hkj, if_true] at q1
      cases hf : finesL g.days k j with
      | none =>
        rw [hf] at q1
        simp only [optV]
        walk_at "wp"
        exact q1
      | some z =>
        rw [hf] at q1
        simp only [optV]
        walk_at "wp"
        exact q1
    · have hkj : ¬ k < j := by intro z; exact h (decide_eq_true (by omega))
      have q1 := fun H1 s1 => q H1 s1
      simp only [loafP, hd, hkj, if_false] at q1
      have hkeep : ∀ R : VK, (∀ H1, Same H H1 → R (.int (d.loaf + keepsL g.days j k)) H1) → spKeeps K [V.ref a, V.int (j : Int), V.int (k : Int)] H (fun y H2 => rI0 (fun i j => V.int (i + j)) (V.int d.loaf) y H2 R) E0 := fun R hR =>
        ⟨_, g.days, j, k, rfl, .lst hs ha, hl, fun H1 s1 => ⟨_, _, rfl, rfl, hR H1 s1⟩⟩
      cases hlf : g.life with
      | none =>
        simp only [hlf] at q1
        simp only [optV]
        walk_at "wp"
        exact hkeep Q q1
      | some l =>
        simp only [hlf] at q1
        simp only [optV]
        walk_at "wp"
        refine ite2 (fun h2 => ?_) (fun h2 => ?_)
        · have := q1 H (Same.refl _)
          rw [if_pos (of_decide_eq_true h2)] at this
          exact this
        · refine hkeep Q fun H1 s1 => ?_
          have := q1 H1 s1
          rw [if_neg (fun z => h2 (decide_eq_true z))] at this
          exact this
abbrev s_price : Stmt := top 30
theorem sc_price : FnScope ["bakery", "good", "baked", "given", "lights", "bound", "goods"] ["bakery", "good", "baked", "given"] (defScope s_price) := ⟨rfl, rfl, rfl, by decide +kernel, rfl, by decide +kernel, by decide +kernel⟩
def spPrice (K : PySem.W.Frag) : Sp := fun vs H Q _ => ∃ x b g, ∃ i j k : Nat, vs = [x, .int (i : Int), .int (j : Int), .int (k : Int)] ∧ Th K H x (bakD b) ∧ bakB (bakD b) = true ∧ b.goods[i]? = some g ∧ j < b.lights.length ∧ k < b.lights.length ∧ ∀ H', Same H H' → Q (optV (loafP g j k)) H'
theorem ok_price {f : Addr} {fd : FuncData} (F : Fun K "price" "price" s_price f fd) (D_look_at_bakery : Def P w K mg base "look_at_bakery" 6 ["thing"] (spLook K)) (D_look_at_good_number : Def P w K mg base "look_at_good_number" 3 ["bakery", "thing"] (spPlaceG K))
    (D_look_at_day_number : Def P w K mg base "look_at_day_number" 3 ["bakery", "thing"] (spPlaceD K)) (D_loaf_price : Def P w K mg base "loaf_price" 2 ["good", "baked", "given"] (spLoafP K)) : FnOk P w K mg base CX0 7 f fd ["bakery", "good", "baked", "given"] (spPrice K) := by
  refine F.ok sc_price (fun vs H Q E h => ?_) (fun cdv A outer s H vs Q E hr h => ?_)
  · obtain ⟨x, b, g, i, j, k, rfl, _⟩ := h
    rfl
  · obtain ⟨x, b, g, i, j, k, rfl, hx, hb, hg, hj, hk, q⟩ := h
    refine ⟨_, (pss_cons (ps_expr (pe_callD D_look_at_bakery hr (by rfl) (pa_cons (pv 0) pa_nil)))
 (pss_cons (ps_expr (pe_callD D_look_at_good_number hr (by rfl) (pa_cons (pv 0) (pa_cons (pv 1) pa_nil))))
 (pss_cons (ps_expr (pe_callD D_look_at_day_number hr (by rfl) (pa_cons (pv 0) (pa_cons (pv 2) pa_nil))))
 (pss_cons (ps_expr (pe_callD D_look_at_day_number hr (by rfl) (pa_cons (pv 0) (pa_cons (pv 3) pa_nil))))
 (pss_cons (ps_asg (pv 0) (pg_tup rfl (pgs_cons (pg_name (i := 4) sc_price.nd rfl (Or.inl rfl)) (pgs_cons (pg_name (i := 5) sc_price.nd rfl (Or.inl rfl)) (pgs_cons (pg_name (i := 6) sc_price.nd rfl (Or.inl rfl)) pgs_nil)))))
 (pss_one (ps_ret (pe_callD D_loaf_price hr (by rfl) (pa_cons (pe_ix ix_list (pv 6) (pv 1) (fun _ _ => rfl)) (pa_cons (pv 2) (pa_cons (pv 3) pa_nil))))))))))), ?_⟩
    walk_at "wp"
    refine ⟨_, _, rfl, hx, hb, fun H1 s1 => ?_⟩
    have hx1 := hx.same s1
    refine ⟨_, b, i, rfl, hx1, (List.getElem?_eq_some_iff.mp hg).1, ⟨_, b, j, rfl, hx1, hj, ⟨_, b, k, rfl, hx1, hk, ?_⟩⟩⟩
    obtain ⟨a, l, v2, ga, xl, xg, rfl, ht, hl, hla, h2, hgl, hga⟩ := Th.bak hx1
    walk_at "wp"
    refine ⟨_, ht, rfl, ?_⟩
    walk_at "wp"
    obtain ⟨v, hv, hvg⟩ := hga.get' (i := i) (d := goodD g) (by rw [List.getElem?_map, hg]; rfl)
    obtain ⟨hgl1, hgl2⟩ := bakB_len hb hg
    exact ⟨_, _, hgl, atI_nat hv, _, g, j, k, rfl, hvg, by omega, by omega, fun H2 s2 => q _ (s1.trans s2)⟩
end
end Bk

namespace Bk
open PySem PySem.Spec PyProof.Rows L2
local macro_rules | `(tactic| walk_at "wp") => `(tactic| try simp only [tNever, tFor_eq, tLc_eq, iList, iTup, iRng1_eq, rRng1_i, iRng2_eq, rRng2_i, iEnum_eq, rEnum_r, iZip_eq, rZip_r, tSl, tPart, tNoPart, rSlL_r, rCat_r, rIn_r, gTup_r, gUnl_r, rInt1_b, rInt1_i, rRep_r, tStep_r, scal, tSeq, tNext, tAsg, tRet, tRetN, tIfS, tDrop, tCB, tCons, tNil, tVar, tOp, tUn, tC, rU_i, rI_ii, rI0_ii, rEq, rNe, tTest, tB, tAnd, tOr, tNot, tAndV, tOrV, tNotV, tIf, tChain, tLst, tTup, tBM, tBM0, rAppend_r, rIxL_r, rIxT_r, rMx_ii, rMn_ii, rLnL_r, rLnT_r, rIsD_int, rIsD_bool, rIsD_list, rIsD_tuple, tCall, gName, gNil_n, gCons_c, cxK, L2.start, List.map, List.replicate, List.length_cons, List.length_nil, List.cons_append, List.nil_append, List.append_nil, List.getElem?_cons_zero, List.getElem?_cons_succ, Option.some.injEq, exists_eq_left', exists_eq_left, V.int.injEq, V.bl.injEq, V.str.injEq, V.ref.injEq, List.cons.injEq, and_true, true_and, and_self, List.set, wipe, rAll_r, rSum_r, reduceCtorEq, decide_true, decide_false, reduceIte, ite_true, ite_false, if_true, if_false, Bool.false_eq_true, Bool.not_true, Bool.not_false])
local macro_rules | `(tactic| walk_at "shaped") => `(tactic| (simp only [SeqAt.shaped, PyData.canLay0, PyData.canLayAll0, PyData.depth, PyData.depthAll]; rfl))
local macro_rules | `(tactic| walk_at "lay") => `(tactic| (simp only [PyData.canLay0, PyData.canLayAll0]; rfl))
section
variable {P : Program} {w : World} {K : PySem.W.Frag} {mg : Str → Option Value} {base : Heap}
abbrev s_numbers : Stmt := top 33
theorem sc_numbers : FnScope ["_law_cell", "_law_salt", "_law_sizes", "_law_number", "_law_left", "_law_found", "_law_k", "_law_one"] ["_law_cell", "_law_salt", "_law_sizes"] (defScope s_numbers) := ⟨rfl, rfl, rfl, by decide +kernel, rfl, by decide +kernel, by decide +kernel⟩
/-- digits: one below each size -/
def Digs (zs fs : List Int) : Prop := fs.length = zs.length ∧ ∀ (i : Nat) (f z : Int), fs[i]? = some f → zs[i]? = some z → 0 ≤ f ∧ f < z
def spNumbers (K : PySem.W.Frag) : Sp := fun vs H Q _ => ∃ (c s : Int) (a : Addr) (zs : List Int), vs = [.int c, .int s, .ref a] ∧ SqL K H a (zs.map V.int) ∧ 0 ≤ s ∧ s ≤ 1000000 ∧ zs.length ≤ 1000 ∧ (∀ z ∈ zs, 0 < z ∧ z.natAbs < 2 ^ 200) ∧
  ∀ H' p fs, Same H H' → H p = none → Digs zs fs → H' p = some (.lst (fs.map V.int)) → Q (.ref p) H'
def NumI (H : Hp) (c s n : Int) (a p : Addr) (zs : List Int) (i : Nat) (σ : L2.St) (H' : Hp) : Prop := ∃ (l : Int) (fs : List Int) (y6 y7 : Option V), σ = [some (.int c), some (.int s), some (.ref a), some (.int n), some (.int l), some (.ref p), y6, y7] ∧ 0 ≤ l ∧ Same H H' ∧ H' p = some (.lst (fs.map V.int)) ∧ fs.length = i ∧
  ∀ (j : Nat) (f z : Int), fs[j]? = some f → zs[j]? = some z → 0 ≤ f ∧ f < z
theorem NumI.next {H H' : Hp} {c s n l x z : Int} {a p : Addr} {zs fs : List Int} {y6 y7 : Option V} (hp : H p = none) (hl : 0 ≤ l) (sm : Same H H') (hb : ∀ (j : Nat) (f z : Int), fs[j]? = some f → zs[j]? = some z → 0 ≤ f ∧ f < z) (g : zs[fs.length]? = some z) (h0 : 0 ≤ x) (h1 : x < z) :
    NumI H c s n a p zs (fs.length + 1) [some (.int c), some (.int s), some (.ref a), some (.int n), some (.int l), some (.ref p), y6, y7] (upd H' p (.lst (fs.map V.int ++ [.int x]))) := by
  refine ⟨l, fs ++ [x], y6, y7, rfl, hl, same_mut sm hp, by rw [upd_same, List.map_append]; rfl, by rw [List.length_append]; rfl, fun j f w e1 e2 => ?_⟩
  by_cases hj : j < fs.length
  · rw [List.getElem?_append_left hj] at e1
    exact hb j f w e1 e2
  · rw [List.getElem?_append_right (by omega)] at e1
    have ej : j - fs.length = 0 := by
      cases q : j - fs.length with
      | zero => rfl
      | succ m => rw [q] at e1; simp at e1
    have ej2 : j = fs.length := by omega
    subst ej2
    rw [ej] at e1
    have e3 : x = f := Option.some.inj e1
    have e4 : z = w := Option.some.inj (g.symm.trans e2)
    subst e3 e4
    exact ⟨h0, h1⟩
theorem ok_numbers {f : Addr} {fd : FuncData} {k : Nat} (F : Fun K "_law_numbers" "_law_numbers" s_numbers f fd) (B : Bi mg) : FnOk P w K mg base CX0 (k + 1) f fd ["_law_cell", "_law_salt", "_law_sizes"] (spNumbers K) := by
  refine F.ok sc_numbers (fun vs H Q E h => ?_) (fun cdv A outer s H vs Q E hr h => ?_)
  · obtain ⟨c, s, a, zs, rfl, _⟩ := h
    rfl
  · obtain ⟨c, s, a, zs, rfl, hS, hs0, hs1, hlen, hz, q⟩ := h
    refine ⟨_, (pss_cons (ps_set (i := 3) sc_numbers.nd rfl (Or.inl rfl) (pe_callB (call_mx rfl) (by rfl) B.max (by decide +kernel) (pa_cons (pv 0) (pa_cons (pe_op op_sub (pe_un un_neg pe_int) (pv 0)) pa_nil))))
 (pss_cons (ps_set (i := 4) sc_numbers.nd rfl (Or.inl rfl) (pv 3))
 (pss_cons (ps_set (i := 5) sc_numbers.nd rfl (Or.inl rfl) (pe_lst pa_nil))
 (pss_cons (ps_for PassesOwn.never rfl (pi_range1 (by rfl) B.range (pa_cons (pe_callB call_lnL (by rfl) B.len (by decide +kernel) (pa_cons (pv 2) pa_nil)) pa_nil)) (pg_name (i := 6) sc_numbers.nd rfl (Or.inl rfl)) (pss_one (ps_if (PW.pt (pw_and (pt_cmpR op_ge (pv 3) (pe_op op_pow pe_int pe_int) (nomark _)) (pw_and1 (pt_cmpR op_gt (pv 4) pe_int (nomark _))))) (pss_cons (ps_expr (pe_bm PySem.F.plainAttrs_list PySem.F.slot_list_append PySem.F.type_list_append mt_append (pv 5) (pa_cons (pe_op op_mod (pv 4) (pe_ix ix_list (pv 2) (pv 6) (fun _ _ => rfl))) pa_nil)))
 (pss_one (ps_set (i := 4) sc_numbers.nd rfl (Or.inl rfl) (pe_op op_fdivW (pv 4) (pe_ix ix_list (pv 2) (pv 6) (fun _ _ => rfl)))))) (pss_cons (ps_set (i := 7) sc_numbers.nd rfl (Or.inl rfl) (pe_op op_mod (pe_op op_pow (pe_op op_add (pe_op op_add (pe_op op_mod (pv 3) pe_int) (pe_op op_mul pe_int (pv 1))) pe_int) pe_int) pe_int))
 (pss_cons (ps_set (i := 7) sc_numbers.nd rfl (Or.inl rfl) (pe_op op_mod (pe_op op_mul (pe_op op_add (pv 7) (pe_op op_mul pe_int (pe_op op_add (pv 6) pe_int))) (pe_op op_add (pv 6) pe_int)) pe_int))
 (pss_cons (ps_set (i := 7) sc_numbers.nd rfl (Or.inl rfl) (pe_op op_mod (pe_op op_mul (pe_op op_mod (pe_op op_pow (pv 7) pe_int) pe_int) pe_int) pe_int))
 (pss_one (ps_expr (pe_bm PySem.F.plainAttrs_list PySem.F.slot_list_append PySem.F.type_list_append mt_append (pv 5) (pa_cons (pe_op op_mod (pe_op op_fdivW (pv 7) pe_int) (pe_ix ix_list (pv 2) (pv 6) (fun _ _ => rfl))) pa_nil))))))))))
 (pss_one (ps_ret (pv 5))))))), ?_⟩
    walk_at "wp"
    refine ⟨Nat.zero_le _, fun p hp => ?_⟩
    have hn0 : 0 ≤ (if -1 - c > c then -1 - c else c) := by split <;> omega
    generalize (if -1 - c > c then -1 - c else c) = n at hn0 ⊢
    refine ⟨_, hS.upd_ hp, by omega, by rw [List.length_map]; omega, ?_⟩
    rw [show (((zs.map V.int).length : Nat) : Int).toNat = zs.length by rw [List.length_map]; omega]
    refine LoopR.by walk_range (NumI H c s n a p zs) ⟨n, [], none, none, rfl, hn0, same_upd hp, upd_same, rfl, fun j f z e => by simp at e⟩ (fun _ _ _ _ _ => trivial) (fun i v σ H0 H' hi hI hY => ?_) (fun σ H' hI => ?_)
    · obtain ⟨l, fs, y6, y7, e, hl, sm, hf, hfl, hb⟩ := hI
      subst e
      obtain ⟨rfl, rfl⟩ := hY
      have g : zs[i]? = some zs[i] := List.getElem?_eq_getElem hi
      obtain ⟨hz0, hz1⟩ := hz _ (List.getElem_mem hi)
      generalize zs[i] = z at g hz0 hz1
      subst hfl
      have hA : SqL K H' a (zs.map V.int) := sm.seq hS
      have ga : atI (zs.map V.int) (0 + (fs.length : Int)) = some (.int z) := atI_map (by omega) (by rw [show (0 + (fs.length : Int)).toNat = fs.length by omega]; exact g)
      have sz : (fs.map V.int).length < sizeLine := sz100l (by rw [List.length_map]; omega)
      have hz9 : CDivW l z := wide_div hz0 hz1 (by decide) (by decide)
      walk_at "wp"
      refine ⟨⟨by decide, by decide, by decide⟩, ?_⟩
      have hB : ∀ o, SqL K (upd H' p o) a (zs.map V.int) := fun o => (same_mut sm hp).seq hS
      have p2 : NumI H c s n a p zs (fs.length + 1) [some (.int c), some (.int s), some (.ref a), some (.int n), some (.int (l / z)), some (.ref p), some (.int (0 + (fs.length : Int))), y7] (upd H' p (.lst (fs.map V.int ++ [.int (l % z)]))) :=
        NumI.next hp (Int.ediv_nonneg hl (by omega)) sm hb g (Int.emod_nonneg _ (by omega)) (Int.emod_lt_of_pos _ hz0)
      have p1 : ∀ (x : Int) (y7 : Option V), NumI H c s n a p zs (fs.length + 1) [some (.int c), some (.int s), some (.ref a), some (.int n), some (.int l), some (.ref p), some (.int (0 + (fs.length : Int))), y7] (upd H' p (.lst (fs.map V.int ++ [.int (x % z)]))) := fun x y7 =>
        NumI.next hp hl sm hb g (Int.emod_nonneg _ (by omega)) (Int.emod_lt_of_pos _ hz0)
      have m1 : 0 ≤ n % 2147483629 ∧ n % 2147483629 < 2147483629 := ⟨Int.emod_nonneg _ (by decide), Int.emod_lt_of_pos _ (by decide)⟩
      have m2 : ∀ x : Int, 0 ≤ x % 2147483629 ∧ x % 2147483629 < 2147483629 := fun x => ⟨Int.emod_nonneg _ (by decide), Int.emod_lt_of_pos _ (by decide)⟩
      have cp : ∀ x : Int, CPow (x % 2147483629) 5 := fun x => ⟨by decide, by decide, by have := m2 x; omega⟩
      have key : ∀ {R : Prop}, (∀ x : Int, ∃ xs v, SqL K H' a xs ∧ atI xs (0 + (fs.length : Int)) = some v ∧ R) → True := fun _ => trivial
      refine ite2 (fun _ => ite2 (fun _ => ?_) (fun _ => ?_)) (fun _ => ?_)
      · refine ⟨tyL (SqL.of hf), _, _, hA, ga, ?_⟩
        walk_at "wp"
        refine ⟨hz0, _, hf, sz, _, _, hB _, ga, ?_⟩
        walk_at "wp"
        exact ⟨hz9, p2⟩
      all_goals
        refine ⟨by decide, .inl ⟨by decide, by decide⟩, ⟨by decide, by decide, by omega⟩, by decide, .inl ⟨by decide, by decide⟩, .inr ⟨by omega, by omega⟩, by decide, cp _, by decide, .inr ⟨by decide, by decide⟩, by decide, tyL (SqL.of hf), wide_div (b := 10) (by decide) (by decide) (by decide) (by decide), _, _, hA, ga, ?_⟩
        walk_at "wp"
        exact ⟨hz0, _, hf, sz, p1 _ _⟩
    · obtain ⟨l, fs, y6, y7, e, hl, sm, hf, hfl, hb⟩ := hI
      subst e
      exact ⟨_, rfl, q H' p fs sm hp ⟨hfl, hb⟩ hf⟩
abbrev s_cell_at : Stmt := top 32
theorem sc_cell_at : FnScope ["_law_script", "_law_k"] ["_law_script", "_law_k"] (defScope s_cell_at) := ⟨rfl, rfl, rfl, by decide +kernel, rfl, by decide +kernel, by decide +kernel⟩
def spCellAt (K : PySem.W.Frag) : Sp := fun vs H Q _ => ∃ (a : Addr) (ns : List Int) (i : Nat), vs = [.ref a, .int (i : Int)] ∧ SqL K H a (ns.map V.int) ∧ ∀ c : Int, Q (.int c) H
theorem ok_cell_at {f : Addr} {fd : FuncData} (F : Fun K "_law_cell_at" "_law_cell_at" s_cell_at f fd) (B : Bi mg) : FnOk P w K mg base CX0 1 f fd ["_law_script", "_law_k"] (spCellAt K) := by
  refine F.ok sc_cell_at (fun vs H Q E h => ?_) (fun cdv A outer s H vs Q E hr h => ?_)
  · obtain ⟨a, ns, i, rfl, _⟩ := h
    rfl
  · obtain ⟨a, ns, i, rfl, hS, q⟩ := h
    refine ⟨_, (pss_cons (ps_if (pt_cmpR op_lt (pv 1) (pe_callB call_lnL (by rfl) B.len (by decide +kernel) (pa_cons (pv 0) pa_nil)) (nomark _)) (pss_one (ps_ret (pe_ix ix_list (pv 0) (pv 1) (fun _ _ => rfl)))) pss_nil)
 (pss_one (ps_ret pe_int))), ?_⟩
    walk_at "wp"
    refine ⟨_, hS, ite2 (fun h => ?_) (fun h => q _)⟩
    have hi : i < ns.length := by have := of_decide_eq_true h; rw [List.length_map] at this; omega
    exact ⟨_, _, hS, atI_map (by omega) (by rw [Int.toNat_natCast]; exact List.getElem?_eq_getElem hi), q _⟩
abbrev s_day : Stmt := top 34
theorem sc_day : FnScope ["_law_digits", "_law_late", "_law_want", "_law_light", "_law_loaf", "_law_keep", "_law_fine", "_law_none", "_law_far"] ["_law_digits", "_law_late"] (defScope s_day) := ⟨rfl, rfl, rfl, by decide +kernel, rfl, by decide +kernel, by decide +kernel⟩
def spDay (K : PySem.W.Frag) : Sp := fun vs H Q _ => ∃ (a : Addr) (fs zs : List Int) (late : Bool), vs = [.ref a, .bl late] ∧ SqL K H a (fs.map V.int) ∧ fs.length = 7 ∧ (∀ f ∈ fs, 0 ≤ f ∧ f ≤ 1000000000) ∧
  ∀ H' p t (d : Day) (l : Int), Same H H' → H p = none → H t = none → H' p = some (.tup [.int l, .ref t]) → H' t = some (.tup [.int d.want, .int d.loaf, .int d.keep, optV d.fine]) → numD (.int l) = true → dayB (dayD d) = true → Q (.ref p) H'
theorem numD_of {i : Int} (h : 0 ≤ i ∧ i ≤ 1000000000) : numD (.int i) = true := by
  simp only [numD, Bool.and_eq_true, decide_eq_true_eq]
  exact h
theorem ok_day {f : Addr} {fd : FuncData} (F : Fun K "_law_day" "_law_day" s_day f fd) : FnOk P w K mg base CX0 1 f fd ["_law_digits", "_law_late"] (spDay K) := by
  refine F.ok sc_day (fun vs H Q E h => ?_) (fun cdv A outer s H vs Q E hr h => ?_)
  · obtain ⟨a, fs, zs, late, rfl, _⟩ := h
    rfl
  · obtain ⟨a, fs, zs, late, rfl, hS, h7, hb, q⟩ := h
    refine ⟨_, (pss_cons (ps_asg (pv 0) (pg_unl rfl (pgs_cons (pg_name (i := 2) sc_day.nd rfl (Or.inl rfl)) (pgs_cons (pg_name (i := 3) sc_day.nd rfl (Or.inl rfl)) (pgs_cons (pg_name (i := 4) sc_day.nd rfl (Or.inl rfl)) (pgs_cons (pg_name (i := 5) sc_day.nd rfl (Or.inl rfl)) (pgs_cons (pg_name (i := 6) sc_day.nd rfl (Or.inl rfl)) (pgs_cons (pg_name (i := 7) sc_day.nd rfl (Or.inl rfl)) (pgs_cons (pg_name (i := 8) sc_day.nd rfl (Or.inl rfl)) pgs_nil)))))))))
 (pss_cons (ps_if (pt_cmpR op_eq (pv 7) pe_int (nomark _)) (pss_one (ps_set (i := 2) sc_day.nd rfl (Or.inl rfl) pe_int)) pss_nil)
 (pss_cons (ps_if (PW.pt (pw_or (pt_cmpR op_lt (pv 8) pe_int (nomark _)) (pw_or1 (pt_not (pt_val (pv 1)))))) (pss_one (ps_set (i := 6) sc_day.nd rfl (Or.inl rfl) pe_non)) pss_nil)
 (pss_one (ps_ret (pe_tup (pa_cons (pv 3) (pa_cons (pe_tup (pa_cons (pv 2) (pa_cons (pv 4) (pa_cons (pv 5) (pa_cons (pv 6) pa_nil))))) pa_nil)))))))), ?_⟩
    obtain ⟨w1, l1, f1, k1, n1, o1, r1, rfl⟩ := seven h7
    have b1 := hb w1 (by simp)
    have b2 := hb l1 (by simp)
    have b3 := hb f1 (by simp)
    have b4 := hb k1 (by simp)
    have b5 := hb n1 (by simp)
    have fin : ∀ (w2 : Int) (o : Option Int), (w2 = w1 ∨ w2 = 0) → (o = some n1 ∨ o = none) → ∀ p, H p = none → ∀ p2, upd H p (.tup [.int w2, .int f1, .int k1, optV o]) p2 = none → Q (.ref p2) (upd (upd H p (.tup [.int w2, .int f1, .int k1, optV o])) p2 (.tup [.int l1, .ref p])) := by
      intro w2 o hw ho p hp p2 hp2
      have s2 := same_upd (o := .tup [.int l1, .ref p]) hp2
      refine q _ p2 p ⟨w2, f1, k1, o⟩ l1 ((same_upd hp).trans s2) ((same_upd hp).free hp2) hp upd_same (s2 _ _ upd_same) (numD_of b2) ?_
      have e1 : numD (.int w2) = true := by
        rcases hw with e | e
        · rw [e]
          exact numD_of b1
        · rw [e]
          rfl
      have e2 : (noneB (optD o) || numD (optD o)) = true := by
        rcases ho with e | e
        · rw [e]
          show (false || numD (.int n1)) = true
          rw [numD_of b5]
          rfl
        · rw [e]
          rfl
      simp only [dayD, dayB, e1, e2, numD_of b3, numD_of b4, Bool.and_self]
    walk_at "wp"
    refine ⟨_, hS, rfl, ?_⟩
    walk_at "wp"
    refine ite2 (fun h1 => ite2 (fun h2 => ?_) (fun h2 => ite2 (fun h3 => ?_) (fun h3 => ?_))) (fun h1 => ite2 (fun h2 => ?_) (fun h2 => ite2 (fun h3 => ?_) (fun h3 => ?_)))
    · exact ⟨sz100 (by decide), fun p hp => ⟨sz100 (by decide), fun p2 hp2 => fin 0 none (.inr rfl) (.inr rfl) p hp p2 hp2⟩⟩
    · exact ⟨sz100 (by decide), fun p hp => ⟨sz100 (by decide), fun p2 hp2 => fin 0 none (.inr rfl) (.inr rfl) p hp p2 hp2⟩⟩
    · exact ⟨sz100 (by decide), fun p hp => ⟨sz100 (by decide), fun p2 hp2 => fin 0 (some n1) (.inr rfl) (.inl rfl) p hp p2 hp2⟩⟩
    · exact ⟨sz100 (by decide), fun p hp => ⟨sz100 (by decide), fun p2 hp2 => fin w1 none (.inl rfl) (.inr rfl) p hp p2 hp2⟩⟩
    · exact ⟨sz100 (by decide), fun p hp => ⟨sz100 (by decide), fun p2 hp2 => fin w1 none (.inl rfl) (.inr rfl) p hp p2 hp2⟩⟩
    · exact ⟨sz100 (by decide), fun p hp => ⟨sz100 (by decide), fun p2 hp2 => fin w1 (some n1) (.inl rfl) (.inl rfl) p hp p2 hp2⟩⟩
abbrev s_days : Stmt := top 35
theorem sc_days : FnScope ["_law_script", "_law_first", "_law_upto", "_law_salt", "_law_late", "_law_wide", "_law_sizes", "_law_lights", "_law_days_here", "_law_k", "_law_light", "_law_day_here"] ["_law_script", "_law_first", "_law_upto", "_law_salt", "_law_late"] (defScope s_days) := ⟨rfl, rfl, rfl, by decide +kernel, rfl, by decide +kernel, by decide +kernel⟩
def spDays (K : PySem.W.Frag) : Sp := fun vs H Q _ => ∃ (a : Addr) (ns : List Int) (u : Nat) (s : Int) (late : Bool), vs = [.ref a, .int 1, .int (u : Int), .int s, .bl late] ∧ SqL K H a (ns.map V.int) ∧ ns.length ≤ 1000 ∧ u ≤ 41 ∧ 0 ≤ s ∧ s ≤ 100000 ∧
  ∀ (H' : Hp) (p l d : Addr) (ls : List Int) (ds : List Day), Same H H' → H p = none → H' p = some (.tup [.ref l, .ref d]) → Tk (newOf H H') (.ref l) (.list (ls.map PyData.int)) → Tk (newOf H H') (.ref d) (.list (ds.map dayD)) → ls.length = nDays u ns.length → ds.length = nDays u ns.length →
    (∀ z ∈ ls, numD (.int z) = true) → (∀ z ∈ ds, dayB (dayD z) = true) → Q (.ref p) H'
structure DaysI (K : PySem.W.Frag) (H H0 : Hp) (a sz L D : Addr) (u : Nat) (s : Int) (late wide : Bool) (i : Nat) (σ : L2.St) (H' : Hp) : Prop where
  ex : ∃ (ls : List Int) (ds : List Day) (xs : List V) (y9 y10 y11 : Option V), σ = [some (.ref a), some (.int 1), some (.int (u : Int)), some (.int s), some (.bl late), some (.bl wide), some (.ref sz), some (.ref L), some (.ref D), y9, y10, y11] ∧
    Same H0 H' ∧ H' L = some (.lst (ls.map V.int)) ∧ H' D = some (.lst xs) ∧ TkAll (newBut H L D H') xs (ds.map dayD) ∧ ls.length = i ∧ ds.length = i ∧ (∀ z ∈ ls, numD (.int z) = true) ∧ (∀ z ∈ ds, dayB (dayD z) = true)
theorem ok_days {f : Addr} {fd : FuncData} (F : Fun K "_law_days" "_law_days" s_days f fd) (B : Bi mg) (D_numbers : Def P w K mg base "_law_numbers" 1 ["_law_cell", "_law_salt", "_law_sizes"] (spNumbers K)) (D_cell_at : Def P w K mg base "_law_cell_at" 1 ["_law_script", "_law_k"] (spCellAt K)) (D_day : Def P w K mg base "_law_day" 1 ["_law_digits", "_law_late"] (spDay K)) :
    FnOk P w K mg base CX0 2 f fd ["_law_script", "_law_first", "_law_upto", "_law_salt", "_law_late"] (spDays K) := by
  refine F.ok sc_days (fun vs H Q E h => ?_) (fun cdv A outer s H vs Q E hr h => ?_)
  · obtain ⟨a, ns, u, s, late, rfl, _⟩ := h
    rfl
  · obtain ⟨a, ns, u, s, late, rfl, hS, hn, hu, hs0, hs1, q⟩ := h
    refine ⟨_, (pss_cons (ps_set (i := 5) sc_days.nd rfl (Or.inl rfl) (pe_cmpR op_eq (pe_ix ix_list (pe_callD D_numbers hr (by rfl) (pa_cons (pe_callD D_cell_at hr (by rfl) (pa_cons (pv 0) (pa_cons pe_int pa_nil))) (pa_cons (pv 3) (pa_cons (pe_lst (pa_cons pe_int pa_nil)) pa_nil)))) pe_int (fun _ _ => rfl)) pe_int (nomark _)))
 (pss_cons (ps_set (i := 6) sc_days.nd rfl (Or.inl rfl) (pe_op op_cat (pe_ix ix_list (pe_lst (pa_cons (pe_lst (pa_cons pe_int (pa_cons pe_int (pa_cons pe_int (pa_cons pe_int (pa_cons pe_int pa_nil)))))) (pa_cons (pe_op op_rep (pe_lst (pa_cons (pe_op op_add (pe_op op_pow pe_int pe_int) pe_int) pa_nil)) pe_int) pa_nil))) (pe_callTy call_in1 (by rfl) B.int (by decide +kernel) (pa_cons (pv 5) pa_nil)) (fun _ _ => rfl)) (pe_lst (pa_cons pe_int (pa_cons pe_int pa_nil)))))
 (pss_cons (ps_set (i := 7) sc_days.nd rfl (Or.inl rfl) (pe_lst pa_nil))
 (pss_cons (ps_set (i := 8) sc_days.nd rfl (Or.inl rfl) (pe_lst pa_nil))
 (pss_cons (ps_for PassesOwn.never rfl (pi_range2 (by rfl) B.range (pa_cons (pv 1) (pa_cons (pe_callB (call_mx rfl) (by rfl) B.max (by decide +kernel) (pa_cons (pe_op op_add (pv 1) pe_int) (pa_cons (pe_callB (call_mn rfl) (by rfl) B.min (by decide +kernel) (pa_cons (pv 2) (pa_cons (pe_callB call_lnL (by rfl) B.len (by decide +kernel) (pa_cons (pv 0) pa_nil)) pa_nil))) pa_nil))) pa_nil))) (pg_name (i := 9) sc_days.nd rfl (Or.inl rfl)) (pss_cons (ps_asg (pe_callD D_day hr (by rfl) (pa_cons (pe_callD D_numbers hr (by rfl) (pa_cons (pe_callD D_cell_at hr (by rfl) (pa_cons (pv 0) (pa_cons (pv 9) pa_nil))) (pa_cons (pe_op op_add (pv 3) (pv 9)) (pa_cons (pv 6) pa_nil)))) (pa_cons (pv 4) pa_nil))) (pg_tup rfl (pgs_cons (pg_name (i := 10) sc_days.nd rfl (Or.inl rfl)) (pgs_cons (pg_name (i := 11) sc_days.nd rfl (Or.inl rfl)) pgs_nil))))
 (pss_cons (ps_expr (pe_bm PySem.F.plainAttrs_list PySem.F.slot_list_append PySem.F.type_list_append mt_append (pv 7) (pa_cons (pv 10) pa_nil)))
 (pss_one (ps_expr (pe_bm PySem.F.plainAttrs_list PySem.F.slot_list_append PySem.F.type_list_append mt_append (pv 8) (pa_cons (pv 11) pa_nil)))))))
 (pss_one (ps_ret (pe_tup (pa_cons (pv 7) (pa_cons (pv 8) pa_nil)))))))))), ?_⟩
    walk_at "wp"
    refine ⟨a, ns, 0, rfl, hS, fun c => ⟨sz100 (by decide), fun p1 h1 => ?_⟩⟩
    refine ⟨c, s, p1, [3], rfl, SqL.of upd_same, hs0, by omega, by decide, by decide, fun H1 pd fs S1 hpd hD hfs => ?_⟩
    have S1 := (same_upd h1).trans S1
    obtain ⟨f0, rfl⟩ : ∃ f0, fs = [f0] := by
      match fs, hD.1 with
      | [f0], _ => exact ⟨f0, rfl⟩
    walk_at "wp"
    refine ⟨_, _, SqL.of hfs, atI_nat (j := 0) rfl, ?_⟩
    walk_at "wp"
    generalize decide (f0 = 0) = wide
    refine ⟨sz100 (by decide), fun p2 h2 => ⟨⟨by decide, by decide, by decide⟩, sz100 (by decide), fun p3 h3 => ?_⟩⟩
    have S2 := same_upd (o := .lst [V.int 5, V.int 13, V.int 6, V.int 4, V.int 4]) h2
    have E2 : upd H1 p2 (.lst [V.int 5, V.int 13, V.int 6, V.int 4, V.int 4]) p2 = some (.lst ([5, 13, 6, 4, 4].map V.int)) := upd_same
    generalize upd H1 p2 (.lst [V.int 5, V.int 13, V.int 6, V.int 4, V.int 4]) = H2 at S2 E2 h3 ⊢
    have S3 := same_upd (o := .lst [V.int (10 ^ Int.toNat 9 + 1)]) h3
    have E3 : upd H2 p3 (.lst [V.int (10 ^ Int.toNat 9 + 1)]) p3 = some (.lst [V.int (10 ^ Int.toNat 9 + 1)]) := upd_same
    generalize upd H2 p3 (.lst [V.int (10 ^ Int.toNat 9 + 1)]) = H3 at S3 E3 ⊢
    refine ⟨_, E3, by decide, by decide, sz100 (by show 1 * 5 ≤ 100000; decide), fun p4 h4 => ⟨sz100 (by decide), fun p5 h5 => ?_⟩⟩
    have S4 := same_upd (o := .lst (List.replicate (Int.toNat 5) [V.int (10 ^ Int.toNat 9 + 1)]).flatten) h4
    have E4 : upd H3 p4 (.lst (List.replicate (Int.toNat 5) [V.int (10 ^ Int.toNat 9 + 1)]).flatten) p4 = some (.lst ([1000000001, 1000000001, 1000000001, 1000000001, 1000000001].map V.int)) := upd_same
    generalize upd H3 p4 (.lst (List.replicate (Int.toNat 5) [V.int (10 ^ Int.toNat 9 + 1)]).flatten) = H4 at S4 E4 h5 ⊢
    have S5 := same_upd (o := .lst [V.ref p2, V.ref p4]) h5
    have E5 : upd H4 p5 (.lst [V.ref p2, V.ref p4]) p5 = some (.lst [V.ref p2, V.ref p4]) := upd_same
    generalize upd H4 p5 (.lst [V.ref p2, V.ref p4]) = H5 at S5 E5 ⊢
    have hpick : ∃ (pz : Addr) (z5 : List Int), atI [V.ref p2, V.ref p4] (if wide = true then 1 else 0) = some (V.ref pz) ∧ H5 pz = some (.lst (z5.map V.int)) ∧ z5.length = 5 ∧ ∀ z ∈ z5, 0 < z ∧ z ≤ 1000000001 := by
      cases wide with
      | false => exact ⟨p2, _, rfl, (S3.trans (S4.trans S5)) _ _ E2, rfl, by decide⟩
      | true => exact ⟨p4, _, rfl, S5 _ _ E4, rfl, by decide⟩
    obtain ⟨pz, z5, hz1, hz2, hz3, hz4⟩ := hpick
    refine ⟨_, _, SqL.of E5, hz1, sz100 (by decide), fun p6 h6 => ?_⟩
    have S6 := same_upd (o := .lst [V.int 4, V.int 5]) h6
    have E6 : upd H5 p6 (.lst [V.int 4, V.int 5]) p6 = some (.lst [V.int 4, V.int 5]) := upd_same
    generalize upd H5 p6 (.lst [V.int 4, V.int 5]) = H6 at S6 E6 ⊢
    walk_at "wp"
    refine ⟨_, _, S6 _ _ hz2, E6, sz100 (by rw [List.length_map, hz3]; decide), fun p7 h7 => ?_⟩
    have S7 := same_upd (o := .lst (z5.map V.int ++ [V.int 4, V.int 5])) h7
    have E7 : upd H6 p7 (.lst (z5.map V.int ++ [V.int 4, V.int 5])) p7 = some (.lst ((z5 ++ [4, 5]).map V.int)) := by rw [upd_same, List.map_append]; rfl
    generalize upd H6 p7 (.lst (z5.map V.int ++ [V.int 4, V.int 5])) = H7 at S7 E7 ⊢
    have hz5 : ∀ z ∈ z5 ++ [4, 5], 0 < z ∧ z ≤ 1000000001 := by
      intro z hz
      rcases List.mem_append.mp hz with h | h
      · exact hz4 z h
      · have : z = 4 ∨ z = 5 := by simpa using h
        omega
    have hz6 : (z5 ++ [4, 5]).length = 7 := by rw [List.length_append, hz3]; rfl
    generalize z5 ++ [4, 5] = szs at E7 hz5 hz6
    have SA : Same H H7 := S1.trans (S2.trans (S3.trans (S4.trans (S5.trans (S6.trans S7)))))
    clear S1 S2 S3 S4 S5 S6 S7 E2 E3 E4 E5 E6 hz1 hz2 hz3 hz4 h1 h2 h3 h4 h5 h6 h7 hpd hfs hD
    refine ⟨Nat.zero_le _, fun L hL => ⟨Nat.zero_le _, fun D hD => ?_⟩⟩
    have hLD : L ≠ D := fun z => by rw [z, upd_same] at hD; cases hD
    have hD0 : H7 D = none := (same_upd hL).free hD
    have SB : Same H7 (upd (upd H7 L (.lst [])) D (.lst [])) := (same_upd hL).trans (same_upd hD)
    have EL : upd (upd H7 L (.lst [])) D (.lst []) L = some (.lst []) := by rw [upd_ne hLD, upd_same]
    have ED : upd (upd H7 L (.lst [])) D (.lst []) D = some (.lst []) := upd_same
    generalize upd (upd H7 L (.lst [])) D (.lst []) = H8 at SB EL ED ⊢
    refine ⟨_, (SA.trans SB).seq hS, ⟨by decide, by decide, by omega, ?_⟩, ?_⟩
    · rw [List.length_map]
      split <;> split <;> omega
    · rw [List.length_map, show ((if (if (ns.length : Int) < (u : Int) then (ns.length : Int) else (u : Int)) > 1 + 1 then (if (ns.length : Int) < (u : Int) then (ns.length : Int) else (u : Int)) else 1 + 1) - 1).toNat = nDays u ns.length by unfold nDays; split <;> split <;> omega]
      refine LoopR.by walk_range (DaysI K H H7 a p7 L D u s late wide) ⟨⟨[], [], [], none, none, none, rfl, SB, EL, ED, .nil, rfl, rfl, (by intro _ h; cases h), (by intro _ h; cases h)⟩⟩ (fun _ _ _ _ _ => trivial) (fun i v σ H0 H' hi hI hY => ?_) (fun σ H' hI => ?_)
      · obtain ⟨rfl, rfl⟩ := hY
        obtain ⟨ls, ds, xs, y9, y10, y11, rfl, S9, E9, E10, hT, hll, hdl, hlb, hdb⟩ := hI.ex
        have hi40 : (i : Int) < 41 := by unfold nDays at hi; omega
        walk_at "wp"
        refine ⟨a, ns, 1 + i, congrArg (fun z => [V.ref a, V.int z]) (by omega), (SA.trans S9).seq hS, fun c => ?_⟩
        refine ⟨c, s + (1 + (i : Int)), p7, szs, rfl, S9.seq (SqL.of E7), by omega, by omega, by omega, fun z hz => ⟨(hz5 z hz).1, ?_⟩, fun H9 pd fs T1 hpd hDg hfs => ?_⟩
        · have := hz5 z hz
          exact Nat.lt_of_le_of_lt (show z.natAbs ≤ 1000000001 by omega) (by decide)
        refine ⟨pd, fs, [], late, rfl, SqL.of hfs, hDg.1.trans hz6, fun f hf => ?_, fun HA p t d l T2 hp ht Ep Et hl hd => ?_⟩
        · obtain ⟨j, hj, e⟩ := List.getElem_of_mem hf
          have h1 : j < szs.length := by rw [← hDg.1]; exact hj
          have h2 := hDg.2 j f szs[j] (by rw [List.getElem?_eq_getElem hj, e]) (List.getElem?_eq_getElem h1)
          have h3 := hz5 _ (List.getElem_mem h1)
          omega
        have T3 := T1.trans T2
        have EL2 := T3 _ _ E9
        have ED2 := T3 _ _ E10
        walk_at "wp"
        refine ⟨_, SqT.of Ep, rfl, ?_⟩
        walk_at "wp"
        have ED3 : upd HA L (.lst (ls.map V.int ++ [V.int l])) D = some (.lst xs) := by rw [upd_ne hLD.symm]; exact ED2
        have szl : (ls.map V.int).length < sizeLine := sz100l (by rw [List.length_map, hll]; omega)
        have szd : xs.length < sizeLine := sz100l (by rw [hT.length, List.length_map, hdl]; omega)
        refine ⟨tyL (SqL.of EL2), _, EL2, szl, tyL (SqL.of ED3), _, ED3, szd, ⟨ls ++ [l], ds ++ [d], _, _, _, _, rfl, ?_, ?_, upd_same, ?_, ?_, ?_, ?_, ?_⟩⟩
        · exact same_mut (same_mut (S9.trans T3) hL) hD0
        · rw [upd_ne hLD, upd_same, List.map_append]
          rfl
        · have htL : t ≠ L := ne_of Et EL2 (by intro z; cases z)
          have htD : t ≠ D := ne_of Et ED2 (by intro z; cases z)
          have hnt : H t = none := ((SA.trans S9).trans T1).free ht
          rw [List.map_append]
          refine (hT.same (newBut_mono fun b o h1 h2 e => ?_)).append (.cons ?_ .nil)
          · rw [upd_ne h2, upd_ne h1]
            exact T3 _ _ e
          · have e : newBut H L D (upd (upd HA L (.lst (ls.map V.int ++ [V.int l]))) D (.lst (xs ++ [V.ref t]))) t = some (.tup [.int d.want, .int d.loaf, .int d.keep, optV d.fine]) := newBut_at hnt htL htD (by rw [upd_ne htD, upd_ne htL]; exact Et)
            exact .tup e (.cons (.int _) (.cons (.int _) (.cons (.int _) (.cons (Tk.optV _) .nil))))
        · rw [List.length_append, hll]
          rfl
        · rw [List.length_append, hdl]
          rfl
        · intro z hz
          rcases List.mem_append.mp hz with h | h
          · exact hlb z h
          · rw [List.mem_singleton.mp h]
            exact hl
        · intro z hz
          rcases List.mem_append.mp hz with h | h
          · exact hdb z h
          · rw [List.mem_singleton.mp h]
            exact hd
      · obtain ⟨ls, ds, xs, y9, y10, y11, rfl, S9, E9, E10, hT, hll, hdl, hlb, hdb⟩ := hI.ex
        walk_at "wp"
        refine ⟨sz100 (by decide), fun p hp => ?_⟩
        have SP := same_upd (o := .tup [V.ref L, V.ref D]) hp
        have hL0 : H L = none := SA.free hL
        have hDn : H D = none := SA.free hD0
        refine q _ p L D ls ds ((SA.trans S9).trans SP) ((SA.trans S9).free hp) upd_same ?_ ?_ hll hdl hlb hdb
        · exact .lst (newOf_at hL0 (SP _ _ E9)) (TkAll.ints ls)
        · exact .lst (newOf_at hDn (SP _ _ E10)) (hT.same ((newBut_same _ _ _ _).trans (newOf_mono SP)))
abbrev s_two : Stmt := top 36
theorem sc_two : FnScope ["_law_script", "_law_upto", "_law_salt", "_law_head", "_law_lights", "_law_days_here", "_law_lives", "_law_goods", "_law_others"] ["_law_script", "_law_upto", "_law_salt"] (defScope s_two) := ⟨rfl, rfl, rfl, by decide +kernel, rfl, by decide +kernel, by decide +kernel⟩
def spTwo (K : PySem.W.Frag) : Sp := fun vs H Q _ => ∃ (a : Addr) (ns : List Int) (u : Nat) (s : Int), vs = [.ref a, .int (u : Int), .int s] ∧ SqL K H a (ns.map V.int) ∧ ns.length ≤ 63 ∧ u ≤ 41 ∧ 0 ≤ s ∧ s ≤ 10000 ∧
  ∀ (H' : Hp) (x : V) (b : Bak), Same H H' → Tk (newOf H H') x (bakD b) → bakB (bakD b) = true → b.lights.length = nDays u ns.length → Q x H'
def livesO : List (Option Int) := [none, none, some 0, some 1, some 2, some 3, some 4, some 5, some 7, some 11, some 23, some 40]
theorem lives_at {i : Int} (h0 : 0 ≤ i) (h1 : i < 12) : ∃ o, atI (livesO.map optV) i = some (optV o) ∧ lifeB (optD o) = true := by
  have hi : i.toNat < livesO.length := by
    show i.toNat < 12
    omega
  refine ⟨livesO[i.toNat], atI_of h0 (by rw [List.getElem?_map, List.getElem?_eq_getElem hi]; rfl), ?_⟩
  have : ∀ o ∈ livesO, lifeB (optD o) = true := by decide
  exact this _ (List.getElem_mem hi)
def boundsO : List (Option Int) := [none, some 1, some 2, some 3, some 4, some 5, some 6, some 1000000000, some 12]
theorem bounds_at {i : Int} (h0 : 0 ≤ i) (h1 : i < 9) : ∃ o, atI (boundsO.map optV) i = some (optV o) ∧ boundB (optD o) = true := by
  have hi : i.toNat < boundsO.length := by
    show i.toNat < 9
    omega
  refine ⟨boundsO[i.toNat], atI_of h0 (by rw [List.getElem?_map, List.getElem?_eq_getElem hi]; rfl), ?_⟩
  have : ∀ o ∈ boundsO, boundB (optD o) = true := by decide
  exact this _ (List.getElem_mem hi)
theorem ok_two {f : Addr} {fd : FuncData} (F : Fun K "_law_two" "_law_two" s_two f fd) (D_numbers : Def P w K mg base "_law_numbers" 1 ["_law_cell", "_law_salt", "_law_sizes"] (spNumbers K)) (D_cell_at : Def P w K mg base "_law_cell_at" 1 ["_law_script", "_law_k"] (spCellAt K)) (D_days : Def P w K mg base "_law_days" 2 ["_law_script", "_law_first", "_law_upto", "_law_salt", "_law_late"] (spDays K)) :
    FnOk P w K mg base CX0 3 f fd ["_law_script", "_law_upto", "_law_salt"] (spTwo K) := by
  refine F.ok sc_two (fun vs H Q E h => ?_) (fun cdv A outer s H vs Q E hr h => ?_)
  · obtain ⟨a, ns, u, s, rfl, _⟩ := h
    rfl
  · obtain ⟨a, ns, u, s, rfl, hS, hn, hu, hs0, hs1, q⟩ := h
    refine ⟨_, (pss_cons (ps_set (i := 3) sc_two.nd rfl (Or.inl rfl) (pe_callD D_numbers hr (by rfl) (pa_cons (pe_callD D_cell_at hr (by rfl) (pa_cons (pv 0) (pa_cons pe_int pa_nil))) (pa_cons (pv 2) (pa_cons (pe_lst (pa_cons pe_int (pa_cons pe_int (pa_cons pe_int (pa_cons pe_int (pa_cons pe_int (pa_cons pe_int (pa_cons pe_int pa_nil)))))))) pa_nil)))))
 (pss_cons (ps_asg (pe_callD D_days hr (by rfl) (pa_cons (pv 0) (pa_cons pe_int (pa_cons (pv 1) (pa_cons (pv 2) (pa_cons (pe_cmpR op_eq (pe_ix ix_list (pv 3) pe_int (fun _ _ => rfl)) pe_int (nomark _)) pa_nil)))))) (pg_tup rfl (pgs_cons (pg_name (i := 4) sc_two.nd rfl (Or.inl rfl)) (pgs_cons (pg_name (i := 5) sc_two.nd rfl (Or.inl rfl)) pgs_nil))))
 (pss_cons (ps_set (i := 6) sc_two.nd rfl (Or.inl rfl) (pe_lst (pa_cons pe_non (pa_cons pe_non (pa_cons pe_int (pa_cons pe_int (pa_cons pe_int (pa_cons pe_int (pa_cons pe_int (pa_cons pe_int (pa_cons pe_int (pa_cons pe_int (pa_cons pe_int (pa_cons pe_int pa_nil))))))))))))))
 (pss_cons (ps_set (i := 7) sc_two.nd rfl (Or.inl rfl) (pe_lst (pa_cons (pe_tup (pa_cons (pv 5) (pa_cons (pe_ix ix_list (pv 6) (pe_ix ix_list (pv 3) pe_int (fun _ _ => rfl)) (fun _ _ => rfl)) pa_nil))) pa_nil)))
 (pss_cons (ps_if (pt_cmpR op_gt (pe_ix ix_list (pv 3) pe_int (fun _ _ => rfl)) pe_int (nomark _)) (pss_cons (ps_set (i := 8) sc_two.nd rfl (Or.inl rfl) (pe_ix ix_tup (pe_callD D_days hr (by rfl) (pa_cons (pe_op op_cat (pe_slice sl_list (pv 0) po_none (po_some pe_int)) (pe_step (pv 0) po_none (po_some pe_int) (po_some (pe_un un_neg pe_int)))) (pa_cons pe_int (pa_cons (pv 1) (pa_cons (pe_op op_add (pv 2) pe_int) (pa_cons (pe_cmpR op_eq (pe_ix ix_list (pv 3) pe_int (fun _ _ => rfl)) pe_int (nomark _)) pa_nil)))))) pe_int (fun _ _ => rfl)))
 (pss_one (ps_expr (pe_bm PySem.F.plainAttrs_list PySem.F.slot_list_append PySem.F.type_list_append mt_append (pv 7) (pa_cons (pe_tup (pa_cons (pv 8) (pa_cons (pe_ix ix_list (pv 6) (pe_ix ix_list (pv 3) pe_int (fun _ _ => rfl)) (fun _ _ => rfl)) pa_nil))) pa_nil))))) pss_nil)
 (pss_one (ps_ret (pe_tup (pa_cons (pv 4) (pa_cons (pe_ix ix_list (pe_lst (pa_cons pe_non (pa_cons pe_int (pa_cons pe_int (pa_cons pe_int (pa_cons pe_int (pa_cons pe_int (pa_cons pe_int (pa_cons (pe_op op_pow pe_int pe_int) (pa_cons pe_int pa_nil)))))))))) (pe_ix ix_list (pv 3) pe_int (fun _ _ => rfl)) (fun _ _ => rfl)) (pa_cons (pv 7) pa_nil))))))))))), ?_⟩
    walk_at "wp"
    refine ⟨a, ns, 0, rfl, hS, fun c => ⟨sz100 (by decide), fun p1 h1 => ?_⟩⟩
    refine ⟨c, s, p1, [3, 12, 2, 12, 3, 2, 9], rfl, SqL.of upd_same, hs0, by omega, by decide, by decide, fun H1 pd fs S1 hpd hD hfs => ?_⟩
    have S1 := (same_upd h1).trans S1
    obtain ⟨f0, f1, f2, f3, f4, f5, f6, rfl⟩ := seven hD.1
    have b1 := hD.2 1 f1 _ rfl rfl
    have b3 := hD.2 3 f3 _ rfl rfl
    have b6 := hD.2 6 f6 _ rfl rfl
    have hF : SqL K H1 pd [V.int f0, V.int f1, V.int f2, V.int f3, V.int f4, V.int f5, V.int f6] := SqL.of hfs
    clear hD h1 hpd hfs
    walk_at "wp"
    refine ⟨_, _, hF, atI_nat (j := 2) rfl, ?_⟩
    walk_at "wp"
    refine ⟨a, ns, u, s, decide (f2 = 1), rfl, S1.seq hS, by omega, hu, hs0, by omega, fun H2 p l d ls ds S2 hp Ep hl hd hll hdl hlb hdb => ?_⟩
    walk_at "wp"
    refine ⟨_, SqT.of Ep, rfl, ?_⟩
    walk_at "wp"
    have hF2 := S2.seq hF
    have hnd : 1 ≤ nDays u ns.length ∧ nDays u ns.length ≤ 40 := by unfold nDays; omega
    have fin : ∀ (HX : Hp) (g : Addr) (ts : List V) (gs : List Good), Same H2 HX → H g = none → HX g = some (.lst ts) → TkAll (newOf H HX) ts (gs.map goodD) → 1 ≤ gs.length → gs.length ≤ 2 →
        (∀ g ∈ gs, g.days.length = ls.length ∧ lifeB (optD g.life) = true ∧ ∀ d ∈ g.days, dayB (dayD d) = true) →
        (CPow 10 9 ∧ 0 + 1 + 1 + 1 + 1 + 1 + 1 + 1 + 1 + 1 ≤ sizeLine ∧ ∀ (p : Addr), HX p = none → ∃ xs v, SqL K (upd HX p (HO.lst [V.non, V.int 1, V.int 2, V.int 3, V.int 4, V.int 5, V.int 6, V.int (10 ^ Int.toNat 9), V.int 12])) pd xs ∧ atI xs 6 = some v ∧
          rIxL K (V.ref p) v (upd HX p (HO.lst [V.non, V.int 1, V.int 2, V.int 3, V.int 4, V.int 5, V.int 6, V.int (10 ^ Int.toNat 9), V.int 12])) fun x H1 => 0 + 1 + 1 + 1 ≤ sizeLine ∧ ∀ (p : Addr), H1 p = none → Q (V.ref p) (upd H1 p (HO.tup [V.ref l, x, V.ref g]))) := by
      intro HX g ts gs T1 hg Eg hT hg1 hg2 hgs
      refine ⟨⟨by decide, by decide, by decide⟩, sz100 (by decide), fun pp hpp => ?_⟩
      have T2 := same_upd (o := .lst (boundsO.map optV)) hpp
      have E2 : upd HX pp (.lst (boundsO.map optV)) pp = some (.lst (boundsO.map optV)) := upd_same
      show ∃ xs v, SqL K (upd HX pp (.lst (boundsO.map optV))) pd xs ∧ atI xs 6 = some v ∧ rIxL K (V.ref pp) v (upd HX pp (.lst (boundsO.map optV))) fun x H1 => 0 + 1 + 1 + 1 ≤ sizeLine ∧ ∀ (p : Addr), H1 p = none → Q (V.ref p) (upd H1 p (HO.tup [V.ref l, x, V.ref g]))
      generalize upd HX pp (.lst (boundsO.map optV)) = HY at T2 E2 ⊢
      refine ⟨_, _, (T1.trans T2).seq hF2, atI_nat (j := 6) rfl, ?_⟩
      obtain ⟨o, ho, hob⟩ := bounds_at b6.1 b6.2
      refine ⟨pp, _, f6, _, rfl, rfl, SqL.of E2, ho, sz100 (by decide), fun pf hpf => ?_⟩
      have T3 := same_upd (o := .tup [V.ref l, optV o, V.ref g]) hpf
      have E3 : upd HY pf (.tup [V.ref l, optV o, V.ref g]) pf = some (.tup [V.ref l, optV o, V.ref g]) := upd_same
      generalize upd HY pf (.tup [V.ref l, optV o, V.ref g]) = HF at T3 E3 ⊢
      have T4 := T2.trans T3
      have T5 : Same H HF := (S1.trans S2).trans (T1.trans T4)
      refine q HF (.ref pf) ⟨ls, o, gs⟩ T5 ?_ (bakB_mk (by show 1 ≤ ls.length; omega) (by show ls.length ≤ 40; omega) hlb hob hg1 hg2 hgs) hll
      have hf0 : H pf = none := ((S1.trans S2).trans (T1.trans T2)).free hpf
      exact .tup (newOf_at hf0 E3) (.cons (hl.same (newOf_to S1 fun b o _ e => (T1.trans T4) b o e)) (.cons (Tk.optV o) (.cons (.lst (newOf_at hg (T4 _ _ Eg)) (hT.same (newOf_mono T4))) .nil)))
    refine ⟨sz100 (by decide), fun p3 h3 => ?_⟩
    have S3 := same_upd (o := .lst (livesO.map optV)) h3
    have E3 : upd H2 p3 (.lst (livesO.map optV)) p3 = some (.lst (livesO.map optV)) := upd_same
    change ∃ xs v, SqL K (upd H2 p3 (.lst (livesO.map optV))) pd xs ∧ atI xs 1 = some v ∧ rIxL K (V.ref p3) v (upd H2 p3 (.lst (livesO.map optV))) _
    generalize upd H2 p3 (.lst (livesO.map optV)) = H3 at S3 E3 ⊢
    refine ⟨_, _, S3.seq hF2, atI_nat (j := 1) rfl, ?_⟩
    obtain ⟨o1, ho1, hob1⟩ := lives_at b1.1 b1.2
    refine ⟨p3, _, f1, _, rfl, rfl, SqL.of E3, ho1, sz100 (by decide), fun t1 ht1 => ⟨sz100 (by decide), fun g hg => ?_⟩⟩
    have S4 := same_upd (o := .tup [V.ref d, optV o1]) ht1
    have E4 : upd H3 t1 (.tup [V.ref d, optV o1]) t1 = some (.tup [V.ref d, optV o1]) := upd_same
    generalize upd H3 t1 (.tup [V.ref d, optV o1]) = H4 at S4 E4 hg ⊢
    have S5 := same_upd (o := .lst [V.ref t1]) hg
    have E5 : upd H4 g (.lst [V.ref t1]) g = some (.lst [V.ref t1]) := upd_same
    have N5 : ∀ b, b ≠ g → upd H4 g (.lst [V.ref t1]) b = H4 b := fun b hb => upd_ne hb
    generalize upd H4 g (.lst [V.ref t1]) = H5 at S5 E5 N5 ⊢
    have S25 := S3.trans (S4.trans S5)
    have S05 := (S1.trans S2).trans S25
    have hg0 : H g = none := ((S1.trans S2).trans (S3.trans S4)).free hg
    have ht0 : H t1 = none := ((S1.trans S2).trans S3).free ht1
    have htg : t1 ≠ g := ne_of_none E4 hg
    have hd4 : Tk (newOf H H4) (.ref d) (.list (ds.map dayD)) := hd.same (newOf_to S1 fun b o _ e => (S3.trans S4) b o e)
    have hgood1 : Tk (newOf H H4) (.ref t1) (goodD ⟨ds, o1⟩) := .tup (newOf_at ht0 E4) (.cons hd4 (.cons (Tk.optV o1) .nil))
    have hc1 : ds.length = ls.length ∧ lifeB (optD o1) = true ∧ ∀ d ∈ ds, dayB (dayD d) = true := ⟨hdl.trans hll.symm, hob1, hdb⟩
    refine ⟨_, _, S25.seq hF2, atI_nat (j := 4) rfl, ?_⟩
    walk_at "wp"
    refine ite2 (fun _ => ?_) (fun _ => fin H5 g [V.ref t1] [⟨ds, o1⟩] S25 hg0 E5 (.cons (hgood1.same (newOf_mono S5)) .nil) (by show 1 ≤ 1; decide) (by show 1 ≤ 2; decide) (by intro z hz; rw [List.mem_singleton.mp hz]; exact hc1))
    refine ⟨_, S05.seq hS, fun p4 h4 => ?_⟩
    have S6 := same_upd (o := .lst (cutV (ns.map V.int) none (some 1))) h4
    have E6 : upd H5 p4 (.lst (cutV (ns.map V.int) none (some 1))) p4 = some (.lst (cutV (ns.map V.int) none (some 1))) := upd_same
    generalize upd H5 p4 (.lst (cutV (ns.map V.int) none (some 1))) = H6 at S6 E6 ⊢
    refine ⟨a, _, rfl, (S05.trans S6).seq hS, by decide, fun p5 h5 => ?_⟩
    have S7 := same_upd (o := .lst (stepV (ns.map V.int) none (some 0) (some (-1)))) h5
    have E7 : upd H6 p5 (.lst (stepV (ns.map V.int) none (some 0) (some (-1)))) p5 = some (.lst (stepV (ns.map V.int) none (some 0) (some (-1)))) := upd_same
    generalize upd H6 p5 (.lst (stepV (ns.map V.int) none (some 0) (some (-1)))) = H7 at S7 E7 ⊢
    have hlen2 : (cutV (ns.map V.int) none (some 1) ++ stepV (ns.map V.int) none (some 0) (some (-1))).length = ns.length := by
      rw [List.length_append, stepV_back, show (1 : Int) = ((1 : Nat) : Int) from rfl, cutV_upto, List.length_take, List.length_map]
      omega
    refine ⟨_, _, S7 _ _ E6, E7, sz100 (by rw [← List.length_append, hlen2]; omega), fun p6 h6 => ?_⟩
    obtain ⟨ms, hms⟩ : ∃ ms : List Int, cutV (ns.map V.int) none (some 1) ++ stepV (ns.map V.int) none (some 0) (some (-1)) = ms.map V.int := ints_of fun x hx => by
      have hm : x ∈ ns.map V.int := by
        rcases List.mem_append.mp hx with h | h
        · exact cutV_mem h
        · exact stepV_mem h
      obtain ⟨c, _, e⟩ := List.mem_map.mp hm
      exact ⟨c, e.symm⟩
    rw [hms] at hlen2 ⊢
    rw [List.length_map] at hlen2
    have S8 := same_upd (o := .lst (ms.map V.int)) h6
    have E8 : upd H7 p6 (.lst (ms.map V.int)) p6 = some (.lst (ms.map V.int)) := upd_same
    generalize upd H7 p6 (.lst (ms.map V.int)) = H8 at S8 E8 ⊢
    have S58 := S6.trans (S7.trans S8)
    have S28 := S25.trans S58
    refine ⟨_, _, S28.seq hF2, atI_nat (j := 5) rfl, ?_⟩
    walk_at "wp"
    refine ⟨p6, ms, u, s + 70, decide (f5 = 1), rfl, SqL.of E8, by omega, hu, by omega, by omega, fun H9 p' l' d' ls' ds' S9 hp' Ep' hl' hd' hll' hdl' hlb' hdb' => ?_⟩
    walk_at "wp"
    have S29 := S28.trans S9
    refine ⟨_, _, SqT.of Ep', atI_nat (j := 1) rfl, tyL (SqL.of ((S58.trans S9) _ _ E5)), _, _, S29.seq hF2, atI_nat (j := 3) rfl, ?_⟩
    obtain ⟨o3, ho3, hob3⟩ := lives_at b3.1 b3.2
    walk_at "wp"
    refine ⟨_, _, ((S4.trans S5).trans (S58.trans S9)).seq (SqL.of E3), ho3, sz100 (by decide), fun t2 ht2 => ?_⟩
    have S10 := same_upd (o := .tup [V.ref d', optV o3]) ht2
    have E10 : upd H9 t2 (.tup [V.ref d', optV o3]) t2 = some (.tup [V.ref d', optV o3]) := upd_same
    generalize upd H9 t2 (.tup [V.ref d', optV o3]) = H10 at S10 E10 ⊢
    have S5x := (S58.trans S9).trans S10
    refine ⟨_, S5x _ _ E5, sz100l (by show 1 < 100000; decide), ?_⟩
    have ht2g : t2 ≠ g := fun z => by
      have e := (S58.trans S9) _ _ E5
      rw [z] at ht2
      rw [ht2] at e
      cases e
    have hg2 : H2 g = none := (S3.trans S4).free hg
    have hg4 : H4 g = none := hg
    refine fin (upd H10 g (.lst ([V.ref t1] ++ [V.ref t2]))) g [V.ref t1, V.ref t2] [⟨ds, o1⟩, ⟨ds', o3⟩] (same_mut (S29.trans S10) hg2) hg0 upd_same (.cons ?_ (.cons ?_ .nil)) (by show 1 ≤ 2; decide) (by show 2 ≤ 2; decide) ?_
    · exact hgood1.same (newOf_mono (same_mut (S5.trans S5x) hg4))
    · have hdx : Tk (newOf H (upd H10 g (.lst ([V.ref t1] ++ [V.ref t2])))) (.ref d') (.list (ds'.map dayD)) := hd'.same (newOf_to (S05.trans S58) fun b o hb e => by
        have hbg : b ≠ g := fun z => by
          have e5 := S58 _ _ E5
          rw [z, e5] at hb
          cases hb
        rw [upd_ne hbg]
        exact S10 _ _ e)
      have ht20 : H t2 = none := ((S05.trans S58).trans S9).free ht2
      exact .tup (newOf_at ht20 (by rw [upd_ne ht2g]; exact E10)) (.cons hdx (.cons (Tk.optV o3) .nil))
    · intro z hz
      rcases List.mem_cons.mp hz with e | e
      · rw [e]
        exact hc1
      · rw [List.mem_singleton.mp e]
        exact ⟨by rw [hdl', hlen2, hll], hob3, hdb'⟩
end
end Bk

namespace Bk
open PySem PySem.Spec PyProof.Rows L2
local macro_rules | `(tactic| walk_at "wp") => `(tactic| try simp only [Int.zero_add, tNever, tFor_eq, tLc_eq, iList, iTup, iRng1_eq, rRng1_i, iRng2_eq, rRng2_i, iEnum_eq, rEnum_r, iZip_eq, rZip_r, tSl, tPart, tNoPart, rSlL_r, rCat_r, rIn_r, rNin_r, gTup_r, gUnl_r, rInt1_b, rInt1_i, rRep_r, tStep_r, scal, tSeq, tNext, tAsg, tRet, tRetN, tIfS, tDrop, tCB, tCons, tNil, tVar, tOp, tUn, tC, rU_i, rI_ii, rI0_ii, rEq, rNe, tTest, tB, tAnd, tOr, tNot, tAndV, tOrV, tNotV, tIf, tChain, tLst, tTup, tBM, tBM0, rAppend_r, rIxL_r, rIxT_r, rMx_ii, rMn_ii, rLnL_r, rLnT_r, rIsD_int, rIsD_bool, rIsD_list, rIsD_tuple, tCall, gName, gNil_n, gCons_c, cxK, L2.start, List.map, List.replicate, List.length_cons, List.length_nil, List.cons_append, List.nil_append, List.append_nil, List.getElem?_cons_zero, List.getElem?_cons_succ, Option.some.injEq, exists_eq_left', exists_eq_left, V.int.injEq, V.bl.injEq, V.str.injEq, V.ref.injEq, List.cons.injEq, and_true, true_and, and_self, List.set, wipe, rAll_r, rSum_r, reduceCtorEq, decide_true, decide_false, reduceIte, ite_true, ite_false, if_true, if_false, Bool.false_eq_true, Bool.not_true, Bool.not_false])
local macro_rules | `(tactic| walk_at "shaped") => `(tactic| (simp only [SeqAt.shaped, PyData.canLay0, PyData.canLayAll0, PyData.depth, PyData.depthAll]; rfl))
local macro_rules | `(tactic| walk_at "lay") => `(tactic| (simp only [PyData.canLay0, PyData.canLayAll0]; rfl))
section
variable {P : Program} {w : World} {K : PySem.W.Frag} {mg : Str → Option Value} {base : Heap}
abbrev s_right : Stmt := top 37
theorem sc_right : FnScope ["_law_bakery", "_law_number", "_law_many", "_law_rows", "_law_baked", "_law_one", "_law_other", "_law_early", "_law_late", "_law_crossed", "_law_straight", "_law_given"] ["_law_bakery", "_law_number"] (defScope s_right) := ⟨rfl, rfl, rfl, by decide +kernel, rfl, by decide +kernel, by decide +kernel⟩
def spRight (K : PySem.W.Frag) : Sp := fun vs H Q _ => ∃ x b g, ∃ i : Nat, vs = [x, .int (i : Int)] ∧ Th K H x (bakD b) ∧ bakB (bakD b) = true ∧ b.goods[i]? = some g ∧ ∀ H', Same H H' → Q (.bl true) H'
def rowV (g : Good) (n j : Nat) : List V := (List.range n).map fun k => optV (loafP g j k)
structure RowsI (H0 : Hp) (x : V) (n m : Nat) (R : Addr) (g : Good) (i : Nat) (σ : L2.St) (H' : Hp) : Prop where
  ex : ∃ (rs : List V) (y4 y11 : Option V), σ = [some x, some (.int (n : Int)), some (.int (m : Int)), some (.ref R), y4, none, none, none, none, none, none, y11] ∧ Same H0 H' ∧ H' R = some (.lst rs) ∧ rs.length = i ∧
    ∀ j, j < i → ∃ p, rs[j]? = some (.ref p) ∧ p ≠ R ∧ H' p = some (.lst (rowV g m j))
def Rd5 (v0 v1 v2 v3 : V) (y4 y11 : Option V) (H0 : Hp) (_ : Nat) (σ : L2.St) (H' : Hp) : Prop := (∃ y5 y6 y7 y8 y9 y10, σ = [some v0, some v1, some v2, some v3, y4, y5, y6, y7, y8, y9, y10, y11]) ∧ Same H0 H'
def Rd6 (v0 v1 v2 v3 v5 : V) (y4 y11 : Option V) (H0 : Hp) (_ : Nat) (σ : L2.St) (H' : Hp) : Prop := (∃ y6 y7 y8 y9 y10, σ = [some v0, some v1, some v2, some v3, y4, some v5, y6, y7, y8, y9, y10, y11]) ∧ Same H0 H'
def Rd7 (v0 v1 v2 v3 v5 v6 : V) (y4 y11 : Option V) (H0 : Hp) (_ : Nat) (σ : L2.St) (H' : Hp) : Prop := (∃ y7 y8 y9 y10, σ = [some v0, some v1, some v2, some v3, y4, some v5, some v6, y7, y8, y9, y10, y11]) ∧ Same H0 H'
def Rd8 (v0 v1 v2 v3 v5 v6 v7 : V) (y4 y11 : Option V) (H0 : Hp) (_ : Nat) (σ : L2.St) (H' : Hp) : Prop := (∃ y8 y9 y10, σ = [some v0, some v1, some v2, some v3, y4, some v5, some v6, some v7, y8, y9, y10, y11]) ∧ Same H0 H'
theorem rowV_at {g : Good} {n j k : Nat} (h : k < n) : atI (rowV g n j) (k : Int) = some (optV (loafP g j k)) := atI_nat (by
  unfold rowV
  rw [List.getElem?_map, List.getElem?_range h]
  rfl)
theorem ok_right {f : Addr} {fd : FuncData} (F : Fun K "_law_right" "_law_right" s_right f fd) (B : Bi mg) (D_price : Def P w K mg base "price" 7 ["bakery", "good", "baked", "given"] (spPrice K)) : FnOk P w K mg base CX0 8 f fd ["_law_bakery", "_law_number"] (spRight K) := by
  refine F.ok sc_right (fun vs H Q E h => ?_) (fun cdv A outer s H vs Q E hr h => ?_)
  · obtain ⟨x, b, g, i, rfl, _⟩ := h
    rfl
  · obtain ⟨x, b, g, i, rfl, hx, hb, hg, q⟩ := h
    refine ⟨_, (pss_cons (ps_set (i := 2) sc_right.nd rfl (Or.inl rfl) (pe_callB call_lnL (by rfl) B.len (by decide +kernel) (pa_cons (pe_ix ix_tup (pv 0) pe_int (fun _ _ => rfl)) pa_nil)))
 (pss_cons (ps_set (i := 3) sc_right.nd rfl (Or.inl rfl) (pe_lst pa_nil))
 (pss_cons (ps_for PassesOwn.never rfl (pi_range1 (by rfl) B.range (pa_cons (pv 2) pa_nil)) (pg_name (i := 4) sc_right.nd rfl (Or.inr rfl)) (pss_one (ps_expr (pe_bm PySem.F.plainAttrs_list PySem.F.slot_list_append PySem.F.type_list_append mt_append (pv 3) (pa_cons (pe_lc (own := [("_law_given", 11)]) (g := (gName 11)) rfl sc_right.nd (pi_range1 (by rfl) B.range (pa_cons (pv 2) pa_nil)) (blkOk_by (own := [("_law_given", 11)]) (N := ["_law_bakery", "_law_number", "_law_many", "_law_rows", "_law_baked", "_law_one", "_law_other", "_law_early", "_law_late", "_law_crossed", "_law_straight", "_law_given"]) (sc := defScope s_right) (by decide +kernel)) (fun _ _ _ _ _ => (pg_name (i := 11) sc_right.nd rfl (Or.inl rfl))) (fun _ _ _ _ _ => pts_nil) (fun _ _ _ _ _ => (pe_callD D_price hr (by rfl) (pa_cons (pv 0) (pa_cons (pv 1) (pa_cons (pv 4) (pa_cons (pv 11) pa_nil))))))) pa_nil)))))
 (pss_cons (ps_for PassesOwn.never rfl (pi_range1 (by rfl) B.range (pa_cons (pv 2) pa_nil)) (pg_name (i := 5) sc_right.nd rfl (Or.inl rfl)) (pss_one (ps_for PassesOwn.never rfl (pi_range2 (by rfl) B.range (pa_cons (pe_op op_add (pv 5) pe_int) (pa_cons (pv 2) pa_nil))) (pg_name (i := 6) sc_right.nd rfl (Or.inl rfl)) (pss_one (ps_for PassesOwn.never rfl (pi_range1 (by rfl) B.range (pa_cons (pv 2) pa_nil)) (pg_name (i := 7) sc_right.nd rfl (Or.inl rfl)) (pss_one (ps_for PassesOwn.never rfl (pi_range2 (by rfl) B.range (pa_cons (pe_op op_add (pv 7) pe_int) (pa_cons (pv 2) pa_nil))) (pg_name (i := 8) sc_right.nd rfl (Or.inl rfl)) (pss_cons (ps_set (i := 9) sc_right.nd rfl (Or.inl rfl) (pe_lst (pa_cons (pe_ix ix_list (pe_ix ix_list (pv 3) (pv 5) (fun _ _ => rfl)) (pv 8) (fun _ _ => rfl)) (pa_cons (pe_ix ix_list (pe_ix ix_list (pv 3) (pv 6) (fun _ _ => rfl)) (pv 7) (fun _ _ => rfl)) pa_nil))))
 (pss_cons (ps_set (i := 10) sc_right.nd rfl (Or.inl rfl) (pe_lst (pa_cons (pe_ix ix_list (pe_ix ix_list (pv 3) (pv 5) (fun _ _ => rfl)) (pv 7) (fun _ _ => rfl)) (pa_cons (pe_ix ix_list (pe_ix ix_list (pv 3) (pv 6) (fun _ _ => rfl)) (pv 8) (fun _ _ => rfl)) pa_nil))))
 (pss_one (ps_if (PW.pt (pw_and (pt_cmpR op_notIn_seq pe_non (pv 9) (by rfl)) (pw_and1 (PW.pt (pw_or (pt_cmpR op_in_seq pe_non (pv 10) (by rfl)) (pw_or1 (pt_cmpR op_gt (pe_callB (cr_sum rfl) (by rfl) B.sum (by decide +kernel) (pa_cons (pv 10) pa_nil)) (pe_callB (cr_sum rfl) (by rfl) B.sum (by decide +kernel) (pa_cons (pv 9) pa_nil)) (nomark _)))))))) (pss_one (ps_ret pe_bl)) pss_nil)))))))))))
 (pss_one (ps_ret pe_bl)))))), ?_⟩
    obtain ⟨a, l, v2, ga, xl, xg, rfl, ht, hl, hla, h2, hgl, hga⟩ := Th.bak hx
    obtain ⟨hgl1, hgl2⟩ := bakB_len hb hg
    have N := bak_nonneg hb hg
    walk_at "wp"
    refine ⟨_, _, ht, atI_nat (j := 0) rfl, ?_⟩
    walk_at "wp"
    refine ⟨_, hl, Nat.zero_le _, fun R hR => ?_⟩
    rw [hla.length, List.length_map]
    generalize hm : b.lights.length = m
    have S1 := same_upd (o := .lst []) hR
    have E1 : upd H R (.lst []) R = some (.lst []) := upd_same
    generalize upd H R (.lst []) = H1 at S1 E1 ⊢
    refine ⟨by omega, by omega, ?_⟩
    rw [Int.toNat_natCast]
    refine LoopR.by walk_range (RowsI H (.ref a) i m R g) ⟨[], none, none, rfl, S1, E1, rfl, fun j hj => absurd hj (by omega)⟩ (fun _ _ _ _ _ => trivial) (fun j v σ H0 H' hj hI hY => ?_) (fun σ H' hI => ?_)
    · obtain ⟨rfl, rfl⟩ := hY
      obtain ⟨rs, y4, y11, rfl, S2, E2, hrl, hrs⟩ := hI.ex
      walk_at "wp"
      refine ⟨tyL (SqL.of E2), by omega, by omega, fun D hD => ?_⟩
      have hDR : D ≠ R := fun z => by rw [z, E2] at hD; cases hD
      refine LcR.map walk_range (rowV g m j) hD (by unfold rowV; rw [List.length_map, List.length_range]; omega) (by omega) (fun _ _ => trivial) (fun _ _ _ _ y => yfn_same y) (fun k v y H0 H3 hk s3 yy hy R' hR' => ?_) (fun H3 s3 hH3 => ?_)
      · obtain ⟨rfl, rfl⟩ := yy
        have hk2 : k < m := by omega
        walk_at "wp"
        refine ⟨_, b, g, i, j, k, ?_, hx.same (S2.trans s3), hb, hg, by omega, by omega, fun H4 s4 => ?_⟩
        · rfl
        · have e : rowV g m j = rowV g m j := rfl
          unfold rowV at hy
          rw [List.getElem?_map, List.getElem?_range hk2] at hy
          cases hy
          exact hR' _ s4
      · have E3 := s3 _ _ E2
        walk_at "wp"
        refine ⟨_, E3, sz100l (by omega), ⟨_, _, _, rfl, same_mut (S2.trans s3) hR, upd_same, by rw [List.length_append, hrl]; rfl, fun k hk => ?_⟩⟩
        by_cases hkj : k < j
        · obtain ⟨p, h1, h2, h3⟩ := hrs k hkj
          exact ⟨p, by rw [List.getElem?_append_left (by omega)]; exact h1, h2, by rw [upd_ne h2]; exact s3 _ _ h3⟩
        · have e : k = j := by omega
          subst e
          exact ⟨D, by rw [List.getElem?_append_right (by omega), hrl, Nat.sub_self]; rfl, hDR, by rw [upd_ne hDR]; exact hH3⟩
    · obtain ⟨rs, y4, y11, rfl, S2, E2, hrl, hrs⟩ := hI.ex
      have rowAt : ∀ (Hh : Hp) (j k : Nat), Same H' Hh → j < m → k < m → ∀ Qx : VK, Qx (optV (loafP g j k)) Hh → ∃ xs v, SqL K Hh R xs ∧ atI xs (j : Int) = some v ∧ rIxL K v (V.int (k : Int)) Hh Qx := fun Hh j k sh hj hk Qx qx => by
        obtain ⟨p, h1, h2, h3⟩ := hrs j hj
        exact ⟨rs, .ref p, SqL.of (sh _ _ E2), atI_nat h1, p, _, _, _, rfl, rfl, SqL.of (sh _ _ h3), rowV_at hk, qx⟩
      walk_at "wp"
      refine ⟨by omega, by omega, ?_⟩
      rw [Int.toNat_natCast]
      refine LoopR.by walk_range (Rd5 (.ref a) (.int (i : Int)) (.int (m : Int)) (.ref R) y4 y11 H') ⟨⟨_, _, _, _, _, _, rfl⟩, Same.refl _⟩ (fun _ _ _ _ _ => trivial) (fun one v σ H0 H5 hone hI hY => ?_) (fun σ H5 hI => q _ (S2.trans hI.2))
      obtain ⟨rfl, rfl⟩ := hY
      obtain ⟨⟨y5, y6, y7, y8, y9, y10, rfl⟩, S5⟩ := hI
      walk_at "wp"
      refine ⟨⟨by omega, by omega, by omega, by omega⟩, ?_⟩
      refine LoopR.by walk_range (Rd6 (.ref a) (.int (i : Int)) (.int (m : Int)) (.ref R) (.int (one : Int)) y4 y11 H') ⟨⟨_, _, _, _, _, rfl⟩, S5⟩ (fun _ _ _ _ _ => trivial) (fun o1 v σ H0 H6 hother hI hY => ?_) (fun σ H6 hI => ?_)
      rotate_left
      · obtain ⟨⟨y6, y7, y8, y9, y10, rfl⟩, S6⟩ := hI
        exact ⟨⟨_, _, _, _, _, _, rfl⟩, S6⟩
      obtain ⟨rfl, rfl⟩ := hY
      obtain ⟨⟨y6, y7, y8, y9, y10, rfl⟩, S6⟩ := hI
      have eo : (one : Int) + 1 + (o1 : Int) = ((one + 1 + o1 : Nat) : Int) := by omega
      have hother2 : one + 1 + o1 < m := by omega
      walk_at "wp"
      rw [eo]
      generalize hoth : one + 1 + o1 = other at hother2
      have hlt1 : one < other := by omega
      refine ⟨by omega, by omega, ?_⟩
      rw [Int.toNat_natCast]
      refine LoopR.by walk_range (Rd7 (.ref a) (.int (i : Int)) (.int (m : Int)) (.ref R) (.int (one : Int)) (.int (other : Int)) y4 y11 H') ⟨⟨_, _, _, _, rfl⟩, S6⟩ (fun _ _ _ _ _ => trivial) (fun early v σ H0 H7 hearly hI hY => ?_) (fun σ H7 hI => ?_)
      rotate_left
      · obtain ⟨⟨y7, y8, y9, y10, rfl⟩, S7⟩ := hI
        exact ⟨⟨_, _, _, _, _, rfl⟩, S7⟩
      obtain ⟨rfl, rfl⟩ := hY
      obtain ⟨⟨y7, y8, y9, y10, rfl⟩, S7⟩ := hI
      walk_at "wp"
      refine ⟨⟨by omega, by omega, by omega, by omega⟩, ?_⟩
      refine LoopR.by walk_range (Rd8 (.ref a) (.int (i : Int)) (.int (m : Int)) (.ref R) (.int (one : Int)) (.int (other : Int)) (.int (early : Int)) y4 y11 H') ⟨⟨_, _, _, rfl⟩, S7⟩ (fun _ _ _ _ _ => trivial) (fun o2 v σ H0 H8 hlate hI hY => ?_) (fun σ H8 hI => ?_)
      rotate_left
      · obtain ⟨⟨y8, y9, y10, rfl⟩, S8⟩ := hI
        exact ⟨⟨_, _, _, _, rfl⟩, S8⟩
      obtain ⟨rfl, rfl⟩ := hY
      obtain ⟨⟨y8, y9, y10, rfl⟩, S8⟩ := hI
      have el : (early : Int) + 1 + (o2 : Int) = ((early + 1 + o2 : Nat) : Int) := by omega
      have hlate2 : early + 1 + o2 < m := by omega
      walk_at "wp"
      rw [el]
      generalize hlt : early + 1 + o2 = late at hlate2
      have hlt2 : early < late := by omega
      refine rowAt _ _ _ S8 (by omega) hlate2 _ (rowAt _ _ _ S8 hother2 (by omega) _ ⟨sz100 (by decide), fun p1 h1 => ?_⟩)
      have T1 := same_upd (o := .lst [optV (loafP g one late), optV (loafP g other early)]) h1
      have F1 : upd H8 p1 (.lst [optV (loafP g one late), optV (loafP g other early)]) p1 = some (.lst ([loafP g one late, loafP g other early].map optV)) := upd_same
      generalize upd H8 p1 (.lst [optV (loafP g one late), optV (loafP g other early)]) = H9 at T1 F1 ⊢
      refine rowAt _ _ _ (S8.trans T1) (by omega) (by omega) _ (rowAt _ _ _ (S8.trans T1) hother2 hlate2 _ ⟨sz100 (by decide), fun p2 h2 => ?_⟩)
      have T2 := same_upd (o := .lst [optV (loafP g one early), optV (loafP g other late)]) h2
      have F2 : upd H9 p2 (.lst [optV (loafP g one early), optV (loafP g other late)]) p2 = some (.lst ([loafP g one early, loafP g other late].map optV)) := upd_same
      generalize upd H9 p2 (.lst [optV (loafP g one early), optV (loafP g other late)]) = HA at T2 F2 ⊢
      have F1 := T2 _ _ F1
      have SA := (S8.trans T1).trans T2
      have fin : Rd8 (.ref a) (.int (i : Int)) (.int (m : Int)) (.ref R) (.int (one : Int)) (.int (other : Int)) (.int (early : Int)) y4 y11 H' (o2 + 1) [some (V.ref a), some (V.int (i : Int)), some (V.int (m : Int)), some (V.ref R), y4, some (V.int (one : Int)), some (V.int (other : Int)), some (V.int (early : Int)), some (V.int (late : Int)), some (V.ref p1), some (V.ref p2), y11] HA := ⟨⟨_, _, _, rfl⟩, SA⟩
      refine ⟨_, .inl (SqL.of F1), rfl, flat_opts _, ?_⟩
      cases e1 : loafP g one late with
      | none =>
        rw [show inV V.non ([none, loafP g other early].map optV) = true from rfl]
        walk_at "wp"
        exact fin
      | some x1 =>
        cases e2 : loafP g other early with
        | none =>
          rw [show inV V.non ([some x1, none].map optV) = true from rfl]
          walk_at "wp"
          exact fin
        | some x2 =>
          obtain ⟨z, t, q1, q2, q3⟩ := loaf_cross N hlt1 hlt2 (by omega) e1 e2
          rw [show inV V.non ([some x1, some x2].map optV) = false from rfl]
          rw [e1, e2] at F1
          rw [q1, q2] at F2
          walk_at "wp"
          refine ⟨_, .inl (SqL.of F2), rfl, flat_opts _, ?_⟩
          rw [show inV V.non ([some z, some t].map optV) = false from rfl]
          walk_at "wp"
          refine ⟨[z, t], SqL.of F2, [x1, x2], SqL.of F1, ?_⟩
          rw [show decide ([x1, x2].sum < [z, t].sum) = false from decide_eq_false (by simp only [List.sum_cons, List.sum_nil]; omega)]
          walk_at "wp"
          exact fin
abbrev s_law : Stmt := top 38
theorem sc_law : FnScope ["_law_script", "_law_bakery", "_law_number"] ["_law_script"] (defScope s_law) := ⟨rfl, rfl, rfl, by decide +kernel, rfl, by decide +kernel, by decide +kernel⟩
def spLaw (K : PySem.W.Frag) : Sp := fun vs H Q _ => ∃ (a : Addr) (ns : List Int), vs = [.ref a] ∧ SqL K H a (ns.map V.int) ∧ ns.length ≤ 63 ∧ ∀ H', Q (.bl true) H'
theorem ok_law {f : Addr} {fd : FuncData} (F : Fun K "law" "law" s_law f fd) (B : Bi mg) (D_two : Def P w K mg base "_law_two" 3 ["_law_script", "_law_upto", "_law_salt"] (spTwo K)) (D_right : Def P w K mg base "_law_right" 8 ["_law_bakery", "_law_number"] (spRight K)) : FnOk P w K mg base CX0 9 f fd ["_law_script"] (spLaw K) := by
  refine F.ok sc_law (fun vs H Q E h => ?_) (fun cdv A outer s H vs Q E hr h => ?_)
  · obtain ⟨a, ns, rfl, _⟩ := h
    rfl
  · obtain ⟨a, ns, rfl, hS, hlen, q⟩ := h
    refine ⟨_, (pss_cons (ps_set (i := 1) sc_law.nd rfl (Or.inr rfl) (pe_callD D_two hr (by rfl) (pa_cons (pv 0) (pa_cons pe_int (pa_cons pe_int pa_nil)))))
 (pss_one (ps_ret (pe_callB (cr_all rfl) (by rfl) B.all (by decide +kernel) (pa_cons (pe_lc (own := [("_law_number", 2)]) (g := (gName 2)) rfl sc_law.nd (pi_range1 (by rfl) B.range (pa_cons (pe_callB call_lnL (by rfl) B.len (by decide +kernel) (pa_cons (pe_ix ix_tup (pv 1) pe_int (fun _ _ => rfl)) pa_nil)) pa_nil)) (blkOk_by (own := [("_law_number", 2)]) (N := ["_law_script", "_law_bakery", "_law_number"]) (sc := defScope s_law) (by decide +kernel)) (fun _ _ _ _ _ => (pg_name (i := 2) sc_law.nd rfl (Or.inl rfl))) (fun _ _ _ _ _ => pts_nil) (fun _ _ _ _ _ => (pe_callD D_right hr (by rfl) (pa_cons (pv 1) (pa_cons (pv 2) pa_nil))))) pa_nil))))), ?_⟩
    walk_at "wp"
    refine ⟨a, ns, 13, 800, rfl, hS, hlen, by decide, by decide, by decide, fun H1 x b S1 hx hb hbl => ?_⟩
    have hx1 := (hx.same (newOf_same _ _)).th (K := K)
    obtain ⟨a1, l, v2, ga, xl, xg, rfl, ht, hl, hla, h2, hgl, hga⟩ := Th.bak hx1
    walk_at "wp"
    refine ⟨_, _, ht, atI_nat (j := 2) rfl, ?_⟩
    walk_at "wp"
    have hg2 : b.goods.length ≤ 2 := by
      obtain ⟨ls, bo, gs, e, h1, h2, h3, h4⟩ := bakB_inv hb
      unfold bakD at e
      injection e with e
      injection e with e1 e
      injection e with e2 e
      injection e with e3 e
      injection e3 with e3
      subst e3
      have h6 := of_decide_eq_true (Bool.and_eq_true_iff.mp h3).2
      rw [List.length_map] at h6
      exact h6
    refine ⟨_, hgl, by omega, ?_, fun D hD => ?_⟩
    · rw [hga.length, List.length_map]
      omega
    · rw [hga.length, List.length_map, Int.toNat_natCast]
      refine LcR.map walk_range ((List.replicate b.goods.length true).map V.bl) hD (by rw [List.length_map, List.length_replicate]) (by omega) (fun _ _ => trivial) (fun _ _ _ _ y => yfn_same y) (fun k v y H0 H3 hk s3 yy hy R' hR' => ?_) (fun H3 s3 hH3 => ?_)
      · obtain ⟨rfl, rfl⟩ := yy
        rw [List.getElem?_map, List.getElem?_replicate, if_pos hk] at hy
        cases hy
        walk_at "wp"
        exact ⟨_, b, b.goods[k], k, rfl, hx1.same s3, hb, List.getElem?_eq_getElem hk, hR'⟩
      · refine ⟨List.replicate b.goods.length true, SqL.of hH3, ?_⟩
        rw [show (List.replicate b.goods.length true).all id = true by simp]
        exact q _
end
theorem all_mk {l : PySem.W.OpenLaw} {w : World} {K : PySem.W.Frag} {h : Heap} {mg : Str → Option Value} {fa f1 f2 f3 f4 f5 f6 f7 f8 f9 f10 f11 f12 f13 f14 f15 f16 f17 f18 f19 f20 f21 f22 f23 f24 f25 f26 : Addr} (X : K.In h) (G : h.Ns mainGlobals mg) (hfa : mg "law" = some (.ref fa))
    {od1 an1 od2 an2 od3 an3 od4 an4 od5 an5 od6 an6 od7 an7 od8 an8 od9 an9 od10 an10 od11 an11 od12 an12 od13 an13 od14 an14 od15 an15 od16 an16 od17 an17 od18 an18 od19 an19 od20 an20 od21 an21 od22 an22 od23 an23 od24 an24 od25 an25 od26 an26 : Option Addr} {sl1 sl2 sl3 sl4 sl5 sl6 sl7 sl8 sl9 sl10 sl11 sl12 sl13 sl14 sl15 sl16 sl17 sl18 sl19 sl20 sl21 sl22 sl23 sl24 sl25 sl26 : Array (Option Value)} {oc1 kV1 dc1 pm1 cd1 ct1 oc2 kV2 dc2 pm2 cd2 ct2 oc3 kV3 dc3 pm3 cd3 ct3 oc4 kV4 dc4 pm4 cd4 ct4 oc5 kV5 dc5 pm5 cd5 ct5 oc6 kV6 dc6 pm6 cd6 ct6 oc7 kV7 dc7 pm7 cd7 ct7 oc8 kV8 dc8 pm8 cd8 ct8 oc9 kV9 dc9 pm9 cd9 ct9 oc10 kV10 dc10 pm10 cd10 ct10 oc11 kV11 dc11 pm11 cd11 ct11 oc12 kV12 dc12 pm12 cd12 ct12 oc13 kV13 dc13 pm13 cd13 ct13 oc14 kV14 dc14 pm14 cd14 ct14 oc15 kV15 dc15 pm15 cd15 ct15 oc16 kV16 dc16 pm16 cd16 ct16 oc17 kV17 dc17 pm17 cd17 ct17 oc18 kV18 dc18 pm18 cd18 ct18 oc19 kV19 dc19 pm19 cd19 ct19 oc20 kV20 dc20 pm20 cd20 ct20 oc21 kV21 dc21 pm21 cd21 ct21 oc22 kV22 dc22 pm22 cd22 ct22 oc23 kV23 dc23 pm23 cd23 ct23 oc24 kV24 dc24 pm24 cd24 ct24 oc25 kV25 dc25 pm25 cd25 ct25 oc26 kV26 dc26 pm26 cd26 ct26 : Value} {tk_GREATEST tk_MOST_DAYS tk_MOST_GOODS tk_LONGEST_LIFE : Tok}
    (a1 : PySem.W.nsIn K mainGlobals "is_whole" = some (some (.ref f1))) (l1 : K.lookup f1 = some ⟨oc1, od1, .func (PySem.W.fnOf "is_whole" "is_whole" (defArgs s_is_whole) (defBody s_is_whole) (defScope s_is_whole) .none kV1 dc1 pm1 an1 cd1 ct1), sl1⟩) (c1 : PySem.W.codeIn K cd1 "is_whole" = true) (k1 : PySem.W.keepIn K (.ref f1) = true)
    (a2 : PySem.W.nsIn K mainGlobals "is_number" = some (some (.ref f2))) (l2 : K.lookup f2 = some ⟨oc2, od2, .func (PySem.W.fnOf "is_number" "is_number" (defArgs s_is_number) (defBody s_is_number) (defScope s_is_number) .none kV2 dc2 pm2 an2 cd2 ct2), sl2⟩) (c2 : PySem.W.codeIn K cd2 "is_number" = true) (k2 : PySem.W.keepIn K (.ref f2) = true)
    (a3 : PySem.W.nsIn K mainGlobals "is_tuple_of" = some (some (.ref f3))) (l3 : K.lookup f3 = some ⟨oc3, od3, .func (PySem.W.fnOf "is_tuple_of" "is_tuple_of" (defArgs s_is_tuple_of) (defBody s_is_tuple_of) (defScope s_is_tuple_of) .none kV3 dc3 pm3 an3 cd3 ct3), sl3⟩) (c3 : PySem.W.codeIn K cd3 "is_tuple_of" = true) (k3 : PySem.W.keepIn K (.ref f3) = true)
    (a4 : PySem.W.nsIn K mainGlobals "is_list_of" = some (some (.ref f4))) (l4 : K.lookup f4 = some ⟨oc4, od4, .func (PySem.W.fnOf "is_list_of" "is_list_of" (defArgs s_is_list_of) (defBody s_is_list_of) (defScope s_is_list_of) .none kV4 dc4 pm4 an4 cd4 ct4), sl4⟩) (c4 : PySem.W.codeIn K cd4 "is_list_of" = true) (k4 : PySem.W.keepIn K (.ref f4) = true)
    (a5 : PySem.W.nsIn K mainGlobals "are_lights" = some (some (.ref f5))) (l5 : K.lookup f5 = some ⟨oc5, od5, .func (PySem.W.fnOf "are_lights" "are_lights" (defArgs s_are_lights) (defBody s_are_lights) (defScope s_are_lights) .none kV5 dc5 pm5 an5 cd5 ct5), sl5⟩) (c5 : PySem.W.codeIn K cd5 "are_lights" = true) (k5 : PySem.W.keepIn K (.ref f5) = true)
    (a6 : PySem.W.nsIn K mainGlobals "is_bound" = some (some (.ref f6))) (l6 : K.lookup f6 = some ⟨oc6, od6, .func (PySem.W.fnOf "is_bound" "is_bound" (defArgs s_is_bound) (defBody s_is_bound) (defScope s_is_bound) .none kV6 dc6 pm6 an6 cd6 ct6), sl6⟩) (c6 : PySem.W.codeIn K cd6 "is_bound" = true) (k6 : PySem.W.keepIn K (.ref f6) = true)
    (a7 : PySem.W.nsIn K mainGlobals "is_life" = some (some (.ref f7))) (l7 : K.lookup f7 = some ⟨oc7, od7, .func (PySem.W.fnOf "is_life" "is_life" (defArgs s_is_life) (defBody s_is_life) (defScope s_is_life) .none kV7 dc7 pm7 an7 cd7 ct7), sl7⟩) (c7 : PySem.W.codeIn K cd7 "is_life" = true) (k7 : PySem.W.keepIn K (.ref f7) = true)
    (a8 : PySem.W.nsIn K mainGlobals "is_day" = some (some (.ref f8))) (l8 : K.lookup f8 = some ⟨oc8, od8, .func (PySem.W.fnOf "is_day" "is_day" (defArgs s_is_day) (defBody s_is_day) (defScope s_is_day) .none kV8 dc8 pm8 an8 cd8 ct8), sl8⟩) (c8 : PySem.W.codeIn K cd8 "is_day" = true) (k8 : PySem.W.keepIn K (.ref f8) = true)
    (a9 : PySem.W.nsIn K mainGlobals "has_bakery_form" = some (some (.ref f9))) (l9 : K.lookup f9 = some ⟨oc9, od9, .func (PySem.W.fnOf "has_bakery_form" "has_bakery_form" (defArgs s_has_bakery_form) (defBody s_has_bakery_form) (defScope s_has_bakery_form) .none kV9 dc9 pm9 an9 cd9 ct9), sl9⟩) (c9 : PySem.W.codeIn K cd9 "has_bakery_form" = true) (k9 : PySem.W.keepIn K (.ref f9) = true)
    (a10 : PySem.W.nsIn K mainGlobals "has_good_form" = some (some (.ref f10))) (l10 : K.lookup f10 = some ⟨oc10, od10, .func (PySem.W.fnOf "has_good_form" "has_good_form" (defArgs s_has_good_form) (defBody s_has_good_form) (defScope s_has_good_form) .none kV10 dc10 pm10 an10 cd10 ct10), sl10⟩) (c10 : PySem.W.codeIn K cd10 "has_good_form" = true) (k10 : PySem.W.keepIn K (.ref f10) = true)
    (a11 : PySem.W.nsIn K mainGlobals "look_at_goods" = some (some (.ref f11))) (l11 : K.lookup f11 = some ⟨oc11, od11, .func (PySem.W.fnOf "look_at_goods" "look_at_goods" (defArgs s_look_at_goods) (defBody s_look_at_goods) (defScope s_look_at_goods) .none kV11 dc11 pm11 an11 cd11 ct11), sl11⟩) (c11 : PySem.W.codeIn K cd11 "look_at_goods" = true) (k11 : PySem.W.keepIn K (.ref f11) = true)
    (a12 : PySem.W.nsIn K mainGlobals "look_at_bakery" = some (some (.ref f12))) (l12 : K.lookup f12 = some ⟨oc12, od12, .func (PySem.W.fnOf "look_at_bakery" "look_at_bakery" (defArgs s_look_at_bakery) (defBody s_look_at_bakery) (defScope s_look_at_bakery) .none kV12 dc12 pm12 an12 cd12 ct12), sl12⟩) (c12 : PySem.W.codeIn K cd12 "look_at_bakery" = true) (k12 : PySem.W.keepIn K (.ref f12) = true)
    (a13 : PySem.W.nsIn K mainGlobals "is_place" = some (some (.ref f13))) (l13 : K.lookup f13 = some ⟨oc13, od13, .func (PySem.W.fnOf "is_place" "is_place" (defArgs s_is_place) (defBody s_is_place) (defScope s_is_place) .none kV13 dc13 pm13 an13 cd13 ct13), sl13⟩) (c13 : PySem.W.codeIn K cd13 "is_place" = true) (k13 : PySem.W.keepIn K (.ref f13) = true)
    (a14 : PySem.W.nsIn K mainGlobals "look_at_good_number" = some (some (.ref f14))) (l14 : K.lookup f14 = some ⟨oc14, od14, .func (PySem.W.fnOf "look_at_good_number" "look_at_good_number" (defArgs s_look_at_good_number) (defBody s_look_at_good_number) (defScope s_look_at_good_number) .none kV14 dc14 pm14 an14 cd14 ct14), sl14⟩) (c14 : PySem.W.codeIn K cd14 "look_at_good_number" = true) (k14 : PySem.W.keepIn K (.ref f14) = true)
    (a15 : PySem.W.nsIn K mainGlobals "look_at_day_number" = some (some (.ref f15))) (l15 : K.lookup f15 = some ⟨oc15, od15, .func (PySem.W.fnOf "look_at_day_number" "look_at_day_number" (defArgs s_look_at_day_number) (defBody s_look_at_day_number) (defScope s_look_at_day_number) .none kV15 dc15 pm15 an15 cd15 ct15), sl15⟩) (c15 : PySem.W.codeIn K cd15 "look_at_day_number" = true) (k15 : PySem.W.keepIn K (.ref f15) = true)
    (a16 : PySem.W.nsIn K mainGlobals "keeps_of" = some (some (.ref f16))) (l16 : K.lookup f16 = some ⟨oc16, od16, .func (PySem.W.fnOf "keeps_of" "keeps_of" (defArgs s_keeps_of) (defBody s_keeps_of) (defScope s_keeps_of) .none kV16 dc16 pm16 an16 cd16 ct16), sl16⟩) (c16 : PySem.W.codeIn K cd16 "keeps_of" = true) (k16 : PySem.W.keepIn K (.ref f16) = true)
    (a17 : PySem.W.nsIn K mainGlobals "fines_of" = some (some (.ref f17))) (l17 : K.lookup f17 = some ⟨oc17, od17, .func (PySem.W.fnOf "fines_of" "fines_of" (defArgs s_fines_of) (defBody s_fines_of) (defScope s_fines_of) .none kV17 dc17 pm17 an17 cd17 ct17), sl17⟩) (c17 : PySem.W.codeIn K cd17 "fines_of" = true) (k17 : PySem.W.keepIn K (.ref f17) = true)
    (a18 : PySem.W.nsIn K mainGlobals "loaf_price" = some (some (.ref f18))) (l18 : K.lookup f18 = some ⟨oc18, od18, .func (PySem.W.fnOf "loaf_price" "loaf_price" (defArgs s_loaf_price) (defBody s_loaf_price) (defScope s_loaf_price) .none kV18 dc18 pm18 an18 cd18 ct18), sl18⟩) (c18 : PySem.W.codeIn K cd18 "loaf_price" = true) (k18 : PySem.W.keepIn K (.ref f18) = true)
    (a19 : PySem.W.nsIn K mainGlobals "price" = some (some (.ref f19))) (l19 : K.lookup f19 = some ⟨oc19, od19, .func (PySem.W.fnOf "price" "price" (defArgs s_price) (defBody s_price) (defScope s_price) .none kV19 dc19 pm19 an19 cd19 ct19), sl19⟩) (c19 : PySem.W.codeIn K cd19 "price" = true) (k19 : PySem.W.keepIn K (.ref f19) = true)
    (a20 : PySem.W.nsIn K mainGlobals "_law_cell_at" = some (some (.ref f20))) (l20 : K.lookup f20 = some ⟨oc20, od20, .func (PySem.W.fnOf "_law_cell_at" "_law_cell_at" (defArgs s_cell_at) (defBody s_cell_at) (defScope s_cell_at) .none kV20 dc20 pm20 an20 cd20 ct20), sl20⟩) (c20 : PySem.W.codeIn K cd20 "_law_cell_at" = true) (k20 : PySem.W.keepIn K (.ref f20) = true)
    (a21 : PySem.W.nsIn K mainGlobals "_law_numbers" = some (some (.ref f21))) (l21 : K.lookup f21 = some ⟨oc21, od21, .func (PySem.W.fnOf "_law_numbers" "_law_numbers" (defArgs s_numbers) (defBody s_numbers) (defScope s_numbers) .none kV21 dc21 pm21 an21 cd21 ct21), sl21⟩) (c21 : PySem.W.codeIn K cd21 "_law_numbers" = true) (k21 : PySem.W.keepIn K (.ref f21) = true)
    (a22 : PySem.W.nsIn K mainGlobals "_law_day" = some (some (.ref f22))) (l22 : K.lookup f22 = some ⟨oc22, od22, .func (PySem.W.fnOf "_law_day" "_law_day" (defArgs s_day) (defBody s_day) (defScope s_day) .none kV22 dc22 pm22 an22 cd22 ct22), sl22⟩) (c22 : PySem.W.codeIn K cd22 "_law_day" = true) (k22 : PySem.W.keepIn K (.ref f22) = true)
    (a23 : PySem.W.nsIn K mainGlobals "_law_days" = some (some (.ref f23))) (l23 : K.lookup f23 = some ⟨oc23, od23, .func (PySem.W.fnOf "_law_days" "_law_days" (defArgs s_days) (defBody s_days) (defScope s_days) .none kV23 dc23 pm23 an23 cd23 ct23), sl23⟩) (c23 : PySem.W.codeIn K cd23 "_law_days" = true) (k23 : PySem.W.keepIn K (.ref f23) = true)
    (a24 : PySem.W.nsIn K mainGlobals "_law_two" = some (some (.ref f24))) (l24 : K.lookup f24 = some ⟨oc24, od24, .func (PySem.W.fnOf "_law_two" "_law_two" (defArgs s_two) (defBody s_two) (defScope s_two) .none kV24 dc24 pm24 an24 cd24 ct24), sl24⟩) (c24 : PySem.W.codeIn K cd24 "_law_two" = true) (k24 : PySem.W.keepIn K (.ref f24) = true)
    (a25 : PySem.W.nsIn K mainGlobals "_law_right" = some (some (.ref f25))) (l25 : K.lookup f25 = some ⟨oc25, od25, .func (PySem.W.fnOf "_law_right" "_law_right" (defArgs s_right) (defBody s_right) (defScope s_right) .none kV25 dc25 pm25 an25 cd25 ct25), sl25⟩) (c25 : PySem.W.codeIn K cd25 "_law_right" = true) (k25 : PySem.W.keepIn K (.ref f25) = true)
    (a26 : PySem.W.nsIn K mainGlobals "law" = some (some (.ref f26))) (l26 : K.lookup f26 = some ⟨oc26, od26, .func (PySem.W.fnOf "law" "law" (defArgs s_law) (defBody s_law) (defScope s_law) .none kV26 dc26 pm26 an26 cd26 ct26), sl26⟩) (c26 : PySem.W.codeIn K cd26 "law" = true) (k26 : PySem.W.keepIn K (.ref f26) = true)
    (z_len : PySem.W.nsIn K mainGlobals "len" = some none) (z_max : PySem.W.nsIn K mainGlobals "max" = some none) (z_min : PySem.W.nsIn K mainGlobals "min" = some none) (z_range : PySem.W.nsIn K mainGlobals "range" = some none) (z_isinstance : PySem.W.nsIn K mainGlobals "isinstance" = some none) (z_int : PySem.W.nsIn K mainGlobals "int" = some none) (z_bool : PySem.W.nsIn K mainGlobals "bool" = some none) (z_list : PySem.W.nsIn K mainGlobals "list" = some none) (z_tuple : PySem.W.nsIn K mainGlobals "tuple" = some none) (z_all : PySem.W.nsIn K mainGlobals "all" = some none) (z_sum : PySem.W.nsIn K mainGlobals "sum" = some none) (z_repr : PySem.W.nsIn K mainGlobals "repr" = some none) (z_enumerate : PySem.W.nsIn K mainGlobals "enumerate" = some none) (y_GREATEST : PySem.W.nsIn K mainGlobals "GREATEST" = some (some (.int 1000000000 tk_GREATEST))) (y_MOST_DAYS : PySem.W.nsIn K mainGlobals "MOST_DAYS" = some (some (.int 40 tk_MOST_DAYS))) (y_MOST_GOODS : PySem.W.nsIn K mainGlobals "MOST_GOODS" = some (some (.int 2 tk_MOST_GOODS))) (y_LONGEST_LIFE : PySem.W.nsIn K mainGlobals "LONGEST_LIFE" = some (some (.int 40 tk_LONGEST_LIFE))) :
    ∃ fd : FuncData, (∀ (s : Shared) (v : Value), BindsTo s fd ⟨[v], []⟩ [("_law_script", v)]) ∧ ∀ base : Heap, K.In base → base.Ns mainGlobals mg → FnOk l.prog w K mg base CX0 9 fa fd ["_law_script"] (spLaw K) := by
  have e := hfa.symm.trans (PySem.W.mg_of X G a26)
  cases e
  have F1 := fun_mk (st := s_is_whole) l1 c1 k1
  have b1 := F1.binds (ps := ["thing"]) fun _ _ _ _ _ _ us hl => match us, hl with | [_], _ => rfl
  have F2 := fun_mk (st := s_is_number) l2 c2 k2
  have b2 := F2.binds (ps := ["thing"]) fun _ _ _ _ _ _ us hl => match us, hl with | [_], _ => rfl
  have F3 := fun_mk (st := s_is_tuple_of) l3 c3 k3
  have b3 := F3.binds (ps := ["thing", "many"]) fun _ _ _ _ _ _ us hl => match us, hl with | [_, _], _ => rfl
  have F4 := fun_mk (st := s_is_list_of) l4 c4 k4
  have b4 := F4.binds (ps := ["thing", "fewest", "most"]) fun _ _ _ _ _ _ us hl => match us, hl with | [_, _, _], _ => rfl
  have F5 := fun_mk (st := s_are_lights) l5 c5 k5
  have b5 := F5.binds (ps := ["thing"]) fun _ _ _ _ _ _ us hl => match us, hl with | [_], _ => rfl
  have F6 := fun_mk (st := s_is_bound) l6 c6 k6
  have b6 := F6.binds (ps := ["thing"]) fun _ _ _ _ _ _ us hl => match us, hl with | [_], _ => rfl
  have F7 := fun_mk (st := s_is_life) l7 c7 k7
  have b7 := F7.binds (ps := ["thing"]) fun _ _ _ _ _ _ us hl => match us, hl with | [_], _ => rfl
  have F8 := fun_mk (st := s_is_day) l8 c8 k8
  have b8 := F8.binds (ps := ["thing"]) fun _ _ _ _ _ _ us hl => match us, hl with | [_], _ => rfl
  have F9 := fun_mk (st := s_has_bakery_form) l9 c9 k9
  have b9 := F9.binds (ps := ["thing"]) fun _ _ _ _ _ _ us hl => match us, hl with | [_], _ => rfl
  have F10 := fun_mk (st := s_has_good_form) l10 c10 k10
  have b10 := F10.binds (ps := ["thing", "many"]) fun _ _ _ _ _ _ us hl => match us, hl with | [_, _], _ => rfl
  have F11 := fun_mk (st := s_look_at_goods) l11 c11 k11
  have b11 := F11.binds (ps := ["goods", "many"]) fun _ _ _ _ _ _ us hl => match us, hl with | [_, _], _ => rfl
  have F12 := fun_mk (st := s_look_at_bakery) l12 c12 k12
  have b12 := F12.binds (ps := ["thing"]) fun _ _ _ _ _ _ us hl => match us, hl with | [_], _ => rfl
  have F13 := fun_mk (st := s_is_place) l13 c13 k13
  have b13 := F13.binds (ps := ["thing", "many"]) fun _ _ _ _ _ _ us hl => match us, hl with | [_, _], _ => rfl
  have F14 := fun_mk (st := s_look_at_good_number) l14 c14 k14
  have b14 := F14.binds (ps := ["bakery", "thing"]) fun _ _ _ _ _ _ us hl => match us, hl with | [_, _], _ => rfl
  have F15 := fun_mk (st := s_look_at_day_number) l15 c15 k15
  have b15 := F15.binds (ps := ["bakery", "thing"]) fun _ _ _ _ _ _ us hl => match us, hl with | [_, _], _ => rfl
  have F16 := fun_mk (st := s_keeps_of) l16 c16 k16
  have b16 := F16.binds (ps := ["days", "first", "behind"]) fun _ _ _ _ _ _ us hl => match us, hl with | [_, _, _], _ => rfl
  have F17 := fun_mk (st := s_fines_of) l17 c17 k17
  have b17 := F17.binds (ps := ["days", "first", "behind"]) fun _ _ _ _ _ _ us hl => match us, hl with | [_, _, _], _ => rfl
  have F18 := fun_mk (st := s_loaf_price) l18 c18 k18
  have b18 := F18.binds (ps := ["good", "baked", "given"]) fun _ _ _ _ _ _ us hl => match us, hl with | [_, _, _], _ => rfl
  have F19 := fun_mk (st := s_price) l19 c19 k19
  have b19 := F19.binds (ps := ["bakery", "good", "baked", "given"]) fun _ _ _ _ _ _ us hl => match us, hl with | [_, _, _, _], _ => rfl
  have F20 := fun_mk (st := s_cell_at) l20 c20 k20
  have b20 := F20.binds (ps := ["_law_script", "_law_k"]) fun _ _ _ _ _ _ us hl => match us, hl with | [_, _], _ => rfl
  have F21 := fun_mk (st := s_numbers) l21 c21 k21
  have b21 := F21.binds (ps := ["_law_cell", "_law_salt", "_law_sizes"]) fun _ _ _ _ _ _ us hl => match us, hl with | [_, _, _], _ => rfl
  have F22 := fun_mk (st := s_day) l22 c22 k22
  have b22 := F22.binds (ps := ["_law_digits", "_law_late"]) fun _ _ _ _ _ _ us hl => match us, hl with | [_, _], _ => rfl
  have F23 := fun_mk (st := s_days) l23 c23 k23
  have b23 := F23.binds (ps := ["_law_script", "_law_first", "_law_upto", "_law_salt", "_law_late"]) fun _ _ _ _ _ _ us hl => match us, hl with | [_, _, _, _, _], _ => rfl
  have F24 := fun_mk (st := s_two) l24 c24 k24
  have b24 := F24.binds (ps := ["_law_script", "_law_upto", "_law_salt"]) fun _ _ _ _ _ _ us hl => match us, hl with | [_, _, _], _ => rfl
  have F25 := fun_mk (st := s_right) l25 c25 k25
  have b25 := F25.binds (ps := ["_law_bakery", "_law_number"]) fun _ _ _ _ _ _ us hl => match us, hl with | [_, _], _ => rfl
  have F26 := fun_mk (st := s_law) l26 c26 k26
  have b26 := F26.binds (ps := ["_law_script"]) fun _ _ _ _ _ _ us hl => match us, hl with | [_], _ => rfl
  have B : Bi mg := ⟨PySem.W.mg_none_of X G z_len, PySem.W.mg_none_of X G z_max, PySem.W.mg_none_of X G z_min, PySem.W.mg_none_of X G z_range, PySem.W.mg_none_of X G z_isinstance, PySem.W.mg_none_of X G z_int, PySem.W.mg_none_of X G z_bool, PySem.W.mg_none_of X G z_list, PySem.W.mg_none_of X G z_tuple, PySem.W.mg_none_of X G z_all, PySem.W.mg_none_of X G z_sum, PySem.W.mg_none_of X G z_repr, PySem.W.mg_none_of X G z_enumerate⟩
  have M_GREATEST := PySem.W.mg_of X G y_GREATEST
  have M_MOST_DAYS := PySem.W.mg_of X G y_MOST_DAYS
  have M_MOST_GOODS := PySem.W.mg_of X G y_MOST_GOODS
  have M_LONGEST_LIFE := PySem.W.mg_of X G y_LONGEST_LIFE
  refine ⟨PySem.W.fnOf "law" "law" (defArgs s_law) (defBody s_law) (defScope s_law) .none kV26 dc26 pm26 an26 cd26 ct26, fun s v => .of_eq rfl, fun base _ _ => ?_⟩
  have D1 : Def l.prog w K mg base "is_whole" 1 ["thing"] (spWhole K) := ⟨_, _, PySem.W.mg_of X G a1, k1, b1, ok_is_whole F1 B⟩
  have D2 : Def l.prog w K mg base "is_number" 2 ["thing"] (spNum K) := ⟨_, _, PySem.W.mg_of X G a2, k2, b2, ok_is_number (k := 0) F2 B M_GREATEST D1⟩
  have D3 : Def l.prog w K mg base "is_tuple_of" 1 ["thing", "many"] (spTupleOf K) := ⟨_, _, PySem.W.mg_of X G a3, k3, b3, ok_is_tuple_of F3 B⟩
  have D4 : Def l.prog w K mg base "is_list_of" 1 ["thing", "fewest", "most"] (spListOf K) := ⟨_, _, PySem.W.mg_of X G a4, k4, b4, ok_is_list_of F4 B⟩
  have D5 : Def l.prog w K mg base "are_lights" 3 ["thing"] (spPred K lightsB) := ⟨_, _, PySem.W.mg_of X G a5, k5, b5, ok_are_lights F5 B M_MOST_DAYS D4 D2⟩
  have D6 : Def l.prog w K mg base "is_bound" 3 ["thing"] (spPred K boundB) := ⟨_, _, PySem.W.mg_of X G a6, k6, b6, ok_is_bound F6 D2⟩
  have D7 : Def l.prog w K mg base "is_life" 3 ["thing"] (spPred K lifeB) := ⟨_, _, PySem.W.mg_of X G a7, k7, b7, ok_is_life F7 M_LONGEST_LIFE D1⟩
  have D8 : Def l.prog w K mg base "is_day" 3 ["thing"] (spPred K dayB) := ⟨_, _, PySem.W.mg_of X G a8, k8, b8, ok_is_day F8 B D3 D2⟩
  have D9 : Def l.prog w K mg base "has_bakery_form" 4 ["thing"] (spPred K bakFormB) := ⟨_, _, PySem.W.mg_of X G a9, k9, b9, ok_has_bakery_form F9 D3 D5 D6 D4 M_MOST_GOODS⟩
  have D10 : Def l.prog w K mg base "has_good_form" 4 ["thing", "many"] (spGoodForm K) := ⟨_, _, PySem.W.mg_of X G a10, k10, b10, ok_has_good_form F10 D3 D7 D4⟩
  have D11 : Def l.prog w K mg base "look_at_goods" 5 ["goods", "many"] (spLookGoods K) := ⟨_, _, PySem.W.mg_of X G a11, k11, b11, ok_look_at_goods F11 B D10 D8⟩
  have D12 : Def l.prog w K mg base "look_at_bakery" 6 ["thing"] (spLook K) := ⟨_, _, PySem.W.mg_of X G a12, k12, b12, ok_look_at_bakery F12 B D9 D11⟩
  have D13 : Def l.prog w K mg base "is_place" 2 ["thing", "many"] (spPlace K) := ⟨_, _, PySem.W.mg_of X G a13, k13, b13, ok_is_place F13 D1⟩
  have D14 : Def l.prog w K mg base "look_at_good_number" 3 ["bakery", "thing"] (spPlaceG K) := ⟨_, _, PySem.W.mg_of X G a14, k14, b14, ok_look_at_good_number F14 B D13⟩
  have D15 : Def l.prog w K mg base "look_at_day_number" 3 ["bakery", "thing"] (spPlaceD K) := ⟨_, _, PySem.W.mg_of X G a15, k15, b15, ok_look_at_day_number F15 B D13⟩
  have D16 : Def l.prog w K mg base "keeps_of" 1 ["days", "first", "behind"] (spKeeps K) := ⟨_, _, PySem.W.mg_of X G a16, k16, b16, ok_keeps_of F16 B⟩
  have D17 : Def l.prog w K mg base "fines_of" 1 ["days", "first", "behind"] (spFines K) := ⟨_, _, PySem.W.mg_of X G a17, k17, b17, ok_fines_of F17 B⟩
  have D18 : Def l.prog w K mg base "loaf_price" 2 ["good", "baked", "given"] (spLoafP K) := ⟨_, _, PySem.W.mg_of X G a18, k18, b18, ok_loaf_price F18 D17 D16⟩
  have D19 : Def l.prog w K mg base "price" 7 ["bakery", "good", "baked", "given"] (spPrice K) := ⟨_, _, PySem.W.mg_of X G a19, k19, b19, ok_price F19 D12 D14 D15 D18⟩
  have D20 : Def l.prog w K mg base "_law_cell_at" 1 ["_law_script", "_law_k"] (spCellAt K) := ⟨_, _, PySem.W.mg_of X G a20, k20, b20, ok_cell_at F20 B⟩
  have D21 : Def l.prog w K mg base "_law_numbers" 1 ["_law_cell", "_law_salt", "_law_sizes"] (spNumbers K) := ⟨_, _, PySem.W.mg_of X G a21, k21, b21, ok_numbers F21 B⟩
  have D22 : Def l.prog w K mg base "_law_day" 1 ["_law_digits", "_law_late"] (spDay K) := ⟨_, _, PySem.W.mg_of X G a22, k22, b22, ok_day F22⟩
  have D23 : Def l.prog w K mg base "_law_days" 2 ["_law_script", "_law_first", "_law_upto", "_law_salt", "_law_late"] (spDays K) := ⟨_, _, PySem.W.mg_of X G a23, k23, b23, ok_days F23 B D21 D20 D22⟩
  have D24 : Def l.prog w K mg base "_law_two" 3 ["_law_script", "_law_upto", "_law_salt"] (spTwo K) := ⟨_, _, PySem.W.mg_of X G a24, k24, b24, ok_two F24 D21 D20 D23⟩
  have D25 : Def l.prog w K mg base "_law_right" 8 ["_law_bakery", "_law_number"] (spRight K) := ⟨_, _, PySem.W.mg_of X G a25, k25, b25, ok_right F25 B D19⟩
  exact ok_law F26 B D24 D25
end Bk
open PySem PySem.W PyProof.Rows
set_option maxHeartbeats 0 in
theorem PySem.Challenge.cw_bakeahead_k08_whole_crossing_holds : PySem.Challenge.rw_bakeahead_k08_whole_crossing.Holds := by
  w_on; o_law; k_head; (case hw => w_witness2)
  k_fill
  refine L2.walk_of (l := PySem.Challenge.rw_bakeahead_k08_whole_crossing) (n := 63) (k := 9) (x := "_law_script") (CX := fun _ => L2.CX0) (sp := fun w => Bk.spLaw _) rfl (by decide) rfl ⟨rfl, by decide, by decide⟩ (fun w h Y => PySem.W.kIn_of Y) ?F (fun _ _ a ns hl _ hS => ⟨a, ns, rfl, hS, hl, fun _ => rfl⟩) (fun _ _ _ _ _ h => h)
  case F =>
    intro w mg fa h KX G hmg
    refine' Bk.all_mk KX G hmg ?a1 ?l1 ?c1 ?k1 ?a2 ?l2 ?c2 ?k2 ?a3 ?l3 ?c3 ?k3 ?a4 ?l4 ?c4 ?k4 ?a5 ?l5 ?c5 ?k5 ?a6 ?l6 ?c6 ?k6 ?a7 ?l7 ?c7 ?k7 ?a8 ?l8 ?c8 ?k8 ?a9 ?l9 ?c9 ?k9 ?a10 ?l10 ?c10 ?k10 ?a11 ?l11 ?c11 ?k11 ?a12 ?l12 ?c12 ?k12 ?a13 ?l13 ?c13 ?k13 ?a14 ?l14 ?c14 ?k14 ?a15 ?l15 ?c15 ?k15 ?a16 ?l16 ?c16 ?k16 ?a17 ?l17 ?c17 ?k17 ?a18 ?l18 ?c18 ?k18 ?a19 ?l19 ?c19 ?k19 ?a20 ?l20 ?c20 ?k20 ?a21 ?l21 ?c21 ?k21 ?a22 ?l22 ?c22 ?k22 ?a23 ?l23 ?c23 ?k23 ?a24 ?l24 ?c24 ?k24 ?a25 ?l25 ?c25 ?k25 ?a26 ?l26 ?c26 ?k26 ?z_len ?z_max ?z_min ?z_range ?z_isinstance ?z_int ?z_bool ?z_list ?z_tuple ?z_all ?z_sum ?z_repr ?z_enumerate ?y_GREATEST ?y_MOST_DAYS ?y_MOST_GOODS ?y_LONGEST_LIFE
    (case a1 => k_is); (case l1 => k_is); (case c1 => k_is); (case k1 => k_is); (case a2 => k_is); (case l2 => k_is); (case c2 => k_is); (case k2 => k_is); (case a3 => k_is); (case l3 => k_is); (case c3 => k_is); (case k3 => k_is); (case a4 => k_is); (case l4 => k_is); (case c4 => k_is); (case k4 => k_is); (case a5 => k_is); (case l5 => k_is); (case c5 => k_is); (case k5 => k_is); (case a6 => k_is); (case l6 => k_is); (case c6 => k_is); (case k6 => k_is); (case a7 => k_is); (case l7 => k_is); (case c7 => k_is); (case k7 => k_is); (case a8 => k_is); (case l8 => k_is); (case c8 => k_is); (case k8 => k_is); (case a9 => k_is); (case l9 => k_is); (case c9 => k_is); (case k9 => k_is); (case a10 => k_is); (case l10 => k_is); (case c10 => k_is); (case k10 => k_is); (case a11 => k_is); (case l11 => k_is); (case c11 => k_is); (case k11 => k_is); (case a12 => k_is); (case l12 => k_is); (case c12 => k_is); (case k12 => k_is); (case a13 => k_is); (case l13 => k_is); (case c13 => k_is); (case k13 => k_is); (case a14 => k_is); (case l14 => k_is); (case c14 => k_is); (case k14 => k_is); (case a15 => k_is); (case l15 => k_is); (case c15 => k_is); (case k15 => k_is); (case a16 => k_is); (case l16 => k_is); (case c16 => k_is); (case k16 => k_is); (case a17 => k_is); (case l17 => k_is); (case c17 => k_is); (case k17 => k_is); (case a18 => k_is); (case l18 => k_is); (case c18 => k_is); (case k18 => k_is); (case a19 => k_is); (case l19 => k_is); (case c19 => k_is); (case k19 => k_is); (case a20 => k_is); (case l20 => k_is); (case c20 => k_is); (case k20 => k_is); (case a21 => k_is); (case l21 => k_is); (case c21 => k_is); (case k21 => k_is); (case a22 => k_is); (case l22 => k_is); (case c22 => k_is); (case k22 => k_is); (case a23 => k_is); (case l23 => k_is); (case c23 => k_is); (case k23 => k_is); (case a24 => k_is); (case l24 => k_is); (case c24 => k_is); (case k24 => k_is); (case a25 => k_is); (case l25 => k_is); (case c25 => k_is); (case k25 => k_is); (case a26 => k_is); (case l26 => k_is); (case c26 => k_is); (case k26 => k_is); (case z_len => k_is); (case z_max => k_is); (case z_min => k_is); (case z_range => k_is); (case z_isinstance => k_is); (case z_int => k_is); (case z_bool => k_is); (case z_list => k_is); (case z_tuple => k_is); (case z_all => k_is); (case z_sum => k_is); (case z_repr => k_is); (case z_enumerate => k_is); (case y_GREATEST => k_is); (case y_MOST_DAYS => k_is); (case y_MOST_GOODS => k_is); (case y_LONGEST_LIFE => k_is)


