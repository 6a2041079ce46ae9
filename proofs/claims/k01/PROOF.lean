import PyProof.Rows.All
import Wide.All
import OpenK.AllK
import Wide.FinOn
import HandS.Base
import HandS.Call
import HandS.List
import HandS.Comp
import HandS.Ends
import HandS.Dict
import HandS.Iter
import HandS.Text
import HandS.Words
import HandS.WordsList
import HandS.Wide
import HandS.IsInst
import HandS.Walk
import PySem.Challenge.RW_bakeahead_k01_whole_numbers
set_option Elab.async false
set_option linter.all false
set_option maxRecDepth 100000
set_option maxHeartbeats 4000000
namespace Bk
open PySem PySem.Spec PyProof.Rows L2
/-! ### a def of the text with its promise -/
structure Def (P : Program) (w : World) (K : PySem.W.Frag) (mg : Str → Option Value) (base : Heap) (x : Str) (k : Nat) (ps : List Str) (sp : Sp) : Prop where
  ex : ∃ (f : Addr) (fd : FuncData), mg x = some (.ref f) ∧ PySem.W.keepIn K (.ref f) = true ∧ Binds K fd ps [] ∧ FnOk P w K mg base CX0 k f fd ps sp
theorem pe_callD {X : Cx} {x : Str} {k j : Nat} {ps : List Str} {sp : Sp} {e : Expr} {es : List Expr} {t : TA} {p pos : Pos} (D : Def X.prog X.w X.K X.mg X.base x k ps sp) (hr : Room j X.A) (hg : Gl X x) (ha : PA X (e :: es) t)
    (hkj : k ≤ j := by omega) (hdb : (x == ("__debug__" : Str)) = false := by decide) (he : starEach (e :: es) X.env = (false, eval e X.env) :: starEach es X.env := by rfl) (hpl : (backTo pos (starEach es X.env)).any (·.1) = false := by rfl) :
    PE X (.Call (.Name x p) (e :: es) [] pos) (tCall sp [] E0 t) := by
  obtain ⟨f, fd, hm, hk, hb, F⟩ := D.ex
  exact pe_call F (hr.mono hkj) hg hm hk hb .nil pass0 ha hdb he hpl
theorem same_upd {H : Hp} {p : Addr} {o : HO} (h : H p = none) : Same H (upd H p o) := fun b x e => by
  rw [upd_ne (ne_of_none e h)]
  exact e
/-- what H does not know may change -/
theorem same_mut {H H' : Hp} {p : Addr} {o : HO} (e : Same H H') (h : H p = none) : Same H (upd H' p o) := fun b x q => by
  rw [upd_ne (ne_of_none q h)]
  exact e b x q
theorem _root_.L2.SqL.upd_ {K : PySem.W.Frag} {H : Hp} {a p : Addr} {o : HO} {xs : List V} (h : SqL K H a xs) (hp : H p = none) : SqL K (upd H p o) a xs := (same_upd hp).seq h
theorem Same.tup {K : PySem.W.Frag} {H H' : Hp} {a : Addr} {xs : List V} (e : Same H H') (h : SqT K H a xs) : SqT K H' a xs := by
  rcases h with (h | ⟨o, h⟩) | h
  · exact .inl (.inl (e _ _ h))
  · exact .inl (.inr ⟨o, e _ _ h⟩)
  · exact .inr h
/-- the written part of a def's place -/
theorem cxK {CX : CXT} {P : Program} {w : World} {K : PySem.W.Frag} {mg : Str → Option Value} {base : Heap} {N : List Str} {qual : Str} {scope : Scope} {f : Addr} {cd : Value} {A : Around} {outer : List Env} {s : Shared} {H : Hp} {E : XK} :
    (cxOf CX P w K mg base N qual scope f cd A outer s H E).K = K := rfl
theorem rI_ii {C : Int → Int → Prop} {g : Int → Int → V} {i j : Int} {H : Hp} {Q : VK} : rI C g (.int i) (.int j) H Q = (C i j ∧ Q (g i j) H) := propext ⟨fun ⟨a, b, e1, e2, h⟩ => by cases e1; cases e2; exact h, fun h => ⟨i, j, rfl, rfl, h⟩⟩
theorem rI0_ii {g : Int → Int → V} {i j : Int} {H : Hp} {Q : VK} : rI0 g (.int i) (.int j) H Q = Q (g i j) H := propext ⟨fun ⟨a, b, e1, e2, h⟩ => by cases e1; cases e2; exact h, fun h => ⟨i, j, rfl, rfl, h⟩⟩
theorem rU_i {g : Int → V} {i : Int} {H : Hp} {Q : VK} : rU g (.int i) H Q = Q (g i) H := propext ⟨fun ⟨a, e1, h⟩ => by cases e1; exact h, fun h => ⟨i, rfl, h⟩⟩
theorem rIxL_r {K : PySem.W.Frag} {p : Addr} {i : Int} {H : Hp} {Q : VK} : rIxL K (.ref p) (.int i) H Q = ∃ xs v, SqL K H p xs ∧ atI xs i = some v ∧ Q v H := propext ⟨fun ⟨a, xs, b, v, e1, e2, h⟩ => by cases e1; cases e2; exact ⟨xs, v, h⟩, fun ⟨xs, v, h⟩ => ⟨p, xs, i, v, rfl, rfl, h⟩⟩
theorem rIxT_r {K : PySem.W.Frag} {p : Addr} {i : Int} {H : Hp} {Q : VK} : rIxT K (.ref p) (.int i) H Q = ∃ xs v, SqT K H p xs ∧ atI xs i = some v ∧ Q v H := propext ⟨fun ⟨a, xs, b, v, e1, e2, h⟩ => by cases e1; cases e2; exact ⟨xs, v, h⟩, fun ⟨xs, v, h⟩ => ⟨p, xs, i, v, rfl, rfl, h⟩⟩
theorem rAppend_r {l : Addr} {y : V} {H : Hp} {Q : VK} : rAppend (.ref l) [y] H Q = ∃ xs, H l = some (.lst xs) ∧ xs.length < sizeLine ∧ Q .non (upd H l (.lst (xs ++ [y]))) :=
  propext ⟨fun ⟨a, xs, b, e1, e2, h⟩ => by cases e1; cases e2; exact ⟨xs, h⟩, fun ⟨xs, h⟩ => ⟨l, xs, y, rfl, rfl, h⟩⟩
theorem tyL {K : PySem.W.Frag} {l : Addr} {H : Hp} {xs : List V} (h : SqL K H l xs) : tyV K "list" (.ref l) H := .inl ⟨rfl, xs, h⟩
theorem atI_of {α : Type} {xs : List α} {i : Int} {v : α} (h0 : 0 ≤ i) (h : xs[i.toNat]? = some v) : atI xs i = some v := by
  have e : i = ((i.toNat : Nat) : Int) := by omega
  rw [e]
  exact atI_nat h
theorem atI_map {α : Type} {f : α → V} {xs : List α} {i : Int} {v : α} (h0 : 0 ≤ i) (h : xs[i.toNat]? = some v) : atI (xs.map f) i = some (f v) := atI_of h0 (by rw [List.getElem?_map, h]; rfl)
theorem sz100 {n : Nat} (h : n ≤ 100000) : n ≤ sizeLine := Nat.le_trans h (by decide)
theorem sz100l {n : Nat} (h : n < 100000) : n < sizeLine := Nat.lt_of_lt_of_le h (by decide)
/-! ### calls of built-ins by named readings -/
def rMx : List V → Hp → VK → Prop := fun xs H Q => ∃ i j, xs = [.int i, .int j] ∧ Q (.int (if j > i then j else i)) H
def rMn : List V → Hp → VK → Prop := fun xs H Q => ∃ i j, xs = [.int i, .int j] ∧ Q (.int (if j < i then j else i)) H
theorem call_mx {X : Cx} (hc : X.calm = true) : CallR X (.builtin "max") rMx := call_max2 hc
theorem call_mn {X : Cx} (hc : X.calm = true) : CallR X (.builtin "min") rMn := call_min2 hc
theorem rMx_ii {i j : Int} {H : Hp} {Q : VK} : rMx [.int i, .int j] H Q = Q (.int (if j > i then j else i)) H := propext ⟨fun ⟨a, b, e, h⟩ => by cases e; exact h, fun h => ⟨i, j, rfl, h⟩⟩
theorem rMn_ii {i j : Int} {H : Hp} {Q : VK} : rMn [.int i, .int j] H Q = Q (.int (if j < i then j else i)) H := propext ⟨fun ⟨a, b, e, h⟩ => by cases e; exact h, fun h => ⟨i, j, rfl, h⟩⟩
/-- len of a list, of a tuple -/
def rLnL (K : PySem.W.Frag) : List V → Hp → VK → Prop := fun xs H Q => ∃ p ys, xs = [.ref p] ∧ SqL K H p ys ∧ Q (.int ys.length) H
def rLnT (K : PySem.W.Frag) : List V → Hp → VK → Prop := fun xs H Q => ∃ p ys, xs = [.ref p] ∧ SqT K H p ys ∧ Q (.int ys.length) H
theorem call_lnL {X : Cx} : CallR X (.builtin "len") (rLnL X.K) := fun pins s σ H xs us Q I r ⟨p, ys, e, h, q⟩ => call_len_seq pins s σ H xs us Q I r ⟨p, ys, e, .inl h, q⟩
theorem call_lnT {X : Cx} : CallR X (.builtin "len") (rLnT X.K) := fun pins s σ H xs us Q I r ⟨p, ys, e, h, q⟩ => call_len_seq pins s σ H xs us Q I r ⟨p, ys, e, .inr h, q⟩
theorem rLnL_r {K : PySem.W.Frag} {p : Addr} {H : Hp} {Q : VK} : rLnL K [.ref p] H Q = ∃ ys, SqL K H p ys ∧ Q (.int ys.length) H := propext ⟨fun ⟨a, ys, e, h⟩ => by cases e; exact ⟨ys, h⟩, fun ⟨ys, h⟩ => ⟨p, ys, rfl, h⟩⟩
theorem rLnT_r {K : PySem.W.Frag} {p : Addr} {H : Hp} {Q : VK} : rLnT K [.ref p] H Q = ∃ ys, SqT K H p ys ∧ Q (.int ys.length) H := propext ⟨fun ⟨a, ys, e, h⟩ => by cases e; exact ⟨ys, h⟩, fun ⟨ys, h⟩ => ⟨p, ys, rfl, h⟩⟩
/-- for k in range(n), range(a, b) -/
theorem q_range1 {ta : TA} {n : Int} {g : TG} {tb : TS} {D : Ends} {σ : L2.St} {H : Hp} (h : ta σ H fun vs H1 => vs = [.int n] ∧ H1 = H) (h1 : n < 2 ^ 62) (h0 : -(2 ^ 62) ≤ n) (Pv : Nat → L2.St → Hp → Prop)
    (hm : ∀ {P Q : List V → Hp → Prop}, ta σ H P → (∀ vs H', P vs H' → Q vs H') → ta σ H Q)
    (a : Pv 0 σ H) (hs : ∀ i σ H, i < n.toNat → Pv i σ H → g (.int (i : Int)) σ H fun σ2 H2 => tb { D with nx := Pv (i + 1), ct := Pv (i + 1), bk := D.nx } σ2 H2) (hd : ∀ σ H, Pv n.toNat σ H → D.nx σ H) : tFor (iRng1 ta) g tb D σ H := by
  refine hm h fun vs H1 e => ?_
  obtain ⟨rfl, rfl⟩ := e
  exact ⟨n, rfl, h0, h1, for_range (lo := 0) (n := n.toNat) Pv a (fun i σ H hi p => by rw [Int.zero_add]; exact hs i σ H hi p) hd⟩
/-! ### any thing, as data -/
mutual
inductive Th (K : PySem.W.Frag) (H : Hp) : V → PyData → Prop
  | non : Th K H .non .none
  | bl (b : Bool) : Th K H (.bl b) (.bool b)
  | int (i : Int) : Th K H (.int i) (.int i)
  | str (x : Str) : Th K H (.str x) (.str x)
  | lst {a : Addr} {xs : List V} {ds : List PyData} : SqL K H a xs → ThAll K H xs ds → Th K H (.ref a) (.list ds)
  | tup {a : Addr} {xs : List V} {ds : List PyData} : SqT K H a xs → ThAll K H xs ds → Th K H (.ref a) (.tuple ds)
  | dic {a : Addr} : H a = some (.dK []) → Th K H (.ref a) (.dict [])
inductive ThAll (K : PySem.W.Frag) (H : Hp) : List V → List PyData → Prop
  | nil : ThAll K H [] []
  | cons {v : V} {vs : List V} {d : PyData} {ds : List PyData} : Th K H v d → ThAll K H vs ds → ThAll K H (v :: vs) (d :: ds)
end
mutual
theorem Th.same {K : PySem.W.Frag} {H H' : Hp} (e : Same H H') : ∀ {v : V} {d : PyData}, Th K H v d → Th K H' v d
  | _, _, .non => .non
  | _, _, .bl b => .bl b
  | _, _, .int i => .int i
  | _, _, .str x => .str x
  | _, _, .lst h t => .lst (e.seq h) (ThAll.same e t)
  | _, _, .tup h t => .tup (Same.tup e h) (ThAll.same e t)
  | _, _, .dic h => .dic (e _ _ h)
theorem ThAll.same {K : PySem.W.Frag} {H H' : Hp} (e : Same H H') : ∀ {vs : List V} {ds : List PyData}, ThAll K H vs ds → ThAll K H' vs ds
  | _, _, .nil => .nil
  | _, _, .cons h t => .cons (Th.same e h) (ThAll.same e t)
end
theorem ThAll.length {K : PySem.W.Frag} {H : Hp} : ∀ {vs : List V} {ds : List PyData}, ThAll K H vs ds → vs.length = ds.length
  | _, _, .nil => rfl
  | _, _, .cons _ t => by rw [List.length_cons, List.length_cons, ThAll.length t]
theorem ThAll.get {K : PySem.W.Frag} {H : Hp} : ∀ {vs : List V} {ds : List PyData} {i : Nat} {v : V}, ThAll K H vs ds → vs[i]? = some v → ∃ d, ds[i]? = some d ∧ Th K H v d
  | _, _, _, _, .nil, e => by simp at e
  | _, _, 0, _, .cons h _, e => by
    rw [List.getElem?_cons_zero] at e
    cases e
    exact ⟨_, List.getElem?_cons_zero .., h⟩
  | _, _, i + 1, _, .cons _ t, e => by
    rw [List.getElem?_cons_succ] at e
    obtain ⟨d, h1, h2⟩ := ThAll.get t e
    exact ⟨d, by rw [List.getElem?_cons_succ]; exact h1, h2⟩
theorem ThAll.get' {K : PySem.W.Frag} {H : Hp} {vs : List V} {ds : List PyData} {i : Nat} {d : PyData} (t : ThAll K H vs ds) (e : ds[i]? = some d) : ∃ v, vs[i]? = some v ∧ Th K H v d := by
  have hi : i < vs.length := by
    rw [t.length]
    exact (List.getElem?_eq_some_iff.mp e).1
  obtain ⟨d', h1, h2⟩ := t.get (List.getElem?_eq_getElem hi)
  have e2 : d' = d := Option.some.inj (h1.symm.trans e)
  subst e2
  exact ⟨_, List.getElem?_eq_getElem hi, h2⟩
theorem ThAll.ints {K : PySem.W.Frag} {H : Hp} : ∀ ns : List Int, ThAll K H (ns.map V.int) (ns.map PyData.int)
  | [] => .nil
  | n :: r => .cons (.int n) (ThAll.ints r)
/-- the built-in classes that are asked for -/
inductive Cl | int | bool | list | tuple | str | dict
def Cl.name : Cl → String
  | .int => "int" | .bool => "bool" | .list => "list" | .tuple => "tuple" | .str => "str" | .dict => "dict"
def kindD : PyData → String
  | .none => "NoneType" | .bool _ => "bool" | .int _ => "int" | .str _ => "str" | .list _ => "list" | .tuple _ => "tuple" | .dict _ => "dict"
def isD : Cl → PyData → Bool
  | .int, .int _ => true
  | .int, .bool _ => true
  | .bool, .bool _ => true
  | .list, .list _ => true
  | .tuple, .tuple _ => true
  | .str, .str _ => true
  | .dict, .dict _ => true
  | _, _ => false
def isN (c : Cl) (n : String) : Bool := n == c.name || (n == "bool" && c.name == "int")
theorem isN_kit : ∀ (c : Cl), ∀ n ∈ ["NoneType", "bool", "int", "str", "list", "tuple", "dict"], kitB n c.name = some (isN c n) := by
  intro c
  cases c <;> decide +kernel
theorem kindD_mem (d : PyData) : kindD d ∈ ["NoneType", "bool", "int", "str", "list", "tuple", "dict"] := by cases d <;> simp [kindD]
theorem isN_tab : ∀ c : Cl, isN c "NoneType" = isD c .none ∧ isN c "bool" = isD c (.bool true) ∧ isN c "int" = isD c (.int 0) ∧ isN c "str" = isD c (.str "") ∧ isN c "list" = isD c (.list []) ∧ isN c "tuple" = isD c (.tuple []) ∧ isN c "dict" = isD c (.dict []) := by
  intro c
  cases c <;> decide +kernel
theorem isD_N (c : Cl) (d : PyData) : isN c (kindD d) = isD c d := by
  obtain ⟨h1, h2, h3, h4, h5, h6, h7⟩ := isN_tab c
  cases d with
  | none => exact h1
  | bool b => exact h2.trans (by cases c <;> rfl)
  | int i => exact h3.trans (by cases c <;> rfl)
  | str x => exact h4.trans (by cases c <;> rfl)
  | list x => exact h5.trans (by cases c <;> rfl)
  | tuple x => exact h6.trans (by cases c <;> rfl)
  | dict x => exact h7.trans (by cases c <;> rfl)
theorem isD_kit {K : PySem.W.Frag} (c : Cl) (d : PyData) : PySem.W.kitOne K (.type (kindD d)) (.type c.name) = some (isD c d) := by
  rw [← isD_N]
  exact kit_ty (isN_kit c _ (kindD_mem d))
theorem Th.ty {K : PySem.W.Frag} {H : Hp} {v : V} {d : PyData} (h : Th K H v d) : TyX K H v (.type (kindD d)) := by
  cases h with
  | non => exact .base .non
  | bl b => exact .base (.bl b)
  | int i => exact .base (.int i)
  | str x => exact .base (.str x)
  | lst h _ =>
    rcases h with (h | ⟨o, h⟩) | ⟨o, its, n, h, c, _⟩
    · exact .base (.lst h)
    · exact .base (.frz h)
    · exact .kList h c
  | tup h _ =>
    rcases h with (h | ⟨o, h⟩) | ⟨o, its, n, h, c, _⟩
    · exact .base (.tup h)
    · exact .fTuple h
    · exact .kTuple h c
  | dic h => exact .base (.dK h)
/-- isinstance(x, a built-in class) of any thing -/
def rIsD (K : PySem.W.Frag) (c : Cl) : List V → Hp → VK → Prop := fun xs H Q => ∃ x d, xs = [x, .ty c.name] ∧ Th K H x d ∧ Q (.bl (isD c d)) H
theorem call_isD {X : Cx} (c : Cl) : CallR X (.builtin "isinstance") (rIsD X.K c) := fun pins s σ H xs us Q I r ⟨x, d, e, h, q⟩ =>
  call_isi pins s σ H xs us Q I r ⟨x, .ty c.name, .type (kindD d), .type c.name, isD c d, e, .ty _, h.ty, isD_kit c d, q⟩
theorem rIsD_int {K : PySem.W.Frag} {x : V} {H : Hp} {Q : VK} : rIsD K .int [x, .ty "int"] H Q = ∃ d, Th K H x d ∧ Q (.bl (isD .int d)) H := propext ⟨fun ⟨y, d, e, h⟩ => by cases e; exact ⟨d, h⟩, fun ⟨d, h⟩ => ⟨x, d, rfl, h⟩⟩
theorem rIsD_bool {K : PySem.W.Frag} {x : V} {H : Hp} {Q : VK} : rIsD K .bool [x, .ty "bool"] H Q = ∃ d, Th K H x d ∧ Q (.bl (isD .bool d)) H := propext ⟨fun ⟨y, d, e, h⟩ => by cases e; exact ⟨d, h⟩, fun ⟨d, h⟩ => ⟨x, d, rfl, h⟩⟩
theorem rIsD_list {K : PySem.W.Frag} {x : V} {H : Hp} {Q : VK} : rIsD K .list [x, .ty "list"] H Q = ∃ d, Th K H x d ∧ Q (.bl (isD .list d)) H := propext ⟨fun ⟨y, d, e, h⟩ => by cases e; exact ⟨d, h⟩, fun ⟨d, h⟩ => ⟨x, d, rfl, h⟩⟩
theorem rIsD_tuple {K : PySem.W.Frag} {x : V} {H : Hp} {Q : VK} : rIsD K .tuple [x, .ty "tuple"] H Q = ∃ d, Th K H x d ∧ Q (.bl (isD .tuple d)) H := propext ⟨fun ⟨y, d, e, h⟩ => by cases e; exact ⟨d, h⟩, fun ⟨d, h⟩ => ⟨x, d, rfl, h⟩⟩
def wholeD : PyData → Bool
  | .int _ => true
  | _ => false
def numD : PyData → Bool
  | .int i => decide (0 ≤ i) && decide (i ≤ 1000000000)
  | _ => false
theorem wholeD_is (d : PyData) : (isD .int d && !isD .bool d) = wholeD d := by cases d <;> rfl
theorem pe_globI {X : Cx} {x : Str} {i : Int} {t : Tok} {pos : Pos} (hg : Gl X x) (hm : X.mg x = some (.int i t)) (hd : (x == ("__debug__" : Str)) = false := by decide) : PE X (.Name x pos) (tC (.int i)) := pe_glob hg hm ⟨_, rfl⟩ hd
/-- isinstance(x, int) and not isinstance(x, bool) -/
theorem e_whole {K : PySem.W.Frag} {i j : Nat} {σ : L2.St} {H : Hp} {x : V} {d : PyData} {Q : VK} (hx : Th K H x d) (hi : σ[i]? = some (some x)) (hj : σ[j]? = some (some x)) (q : Q (.bl (wholeD d)) H) :
    tAndV (tCB (rIsD K .int) (tCons (tVar i) (tCons (tC (.ty "int")) tNil))) (tNotV (tCB (rIsD K .bool) (tCons (tVar j) (tCons (tC (.ty "bool")) tNil)))) σ H Q := by
  refine ⟨x, hi, x, d, rfl, hx, isD .int d, rfl, ite2 (fun h => ⟨x, hj, x, d, rfl, hx, isD .bool d, rfl, ?_⟩) (fun h => ?_)⟩
  · rw [← wholeD_is, h] at q
    exact q
  · rw [← wholeD_is, Bool.eq_false_iff.mpr h] at q
    exact q
theorem cutV_mem {xs : List V} {lo hi : Option Int} {x : V} (h : x ∈ cutV xs lo hi) : x ∈ xs := List.mem_of_mem_drop (List.mem_of_mem_take h)
theorem cutV_length (xs : List V) (lo hi : Option Int) : (cutV xs lo hi).length ≤ xs.length := by
  unfold cutV
  rw [List.length_take, List.length_drop]
  omega
theorem gCons_c {t : TG} {u : TGs} {v : V} {r : List V} {σ : L2.St} {H : Hp} {Q : L2.St → Hp → Prop} : gCons t u (v :: r) σ H Q = t v σ H fun σ' H' => u r σ' H' Q := propext ⟨fun ⟨a, b, e, h⟩ => by cases e; exact h, fun h => ⟨v, r, rfl, h⟩⟩
theorem gNil_n {σ : L2.St} {H : Hp} {Q : L2.St → Hp → Prop} : gNil [] σ H Q = Q σ H := propext ⟨fun h => h.2, fun h => ⟨rfl, h⟩⟩
theorem five {α : Type} {l : List α} (h : l.length = 5) : ∃ a b c d e, l = [a, b, c, d, e] := by
  match l, h with
  | [a, b, c, d, e], _ => exact ⟨a, b, c, d, e, rfl⟩
/-! ### loops and comprehensions, kept shut -/
def LoopR (J : It) (g : TG) (tb : TS) (D : Ends) (σ : L2.St) (H : Hp) : Prop := ∃ W : Nat → Nat → L2.St → Hp → Prop, (∃ m, W 0 m σ H) ∧ ∀ i m σ H, W i m σ H →
  (J.stop i H ∧ D.nx σ H) ∨ (J.go i H ∧ ∃ N : L2.St → Hp → Prop, (∀ σ' H', N σ' H' → ∃ m', m' < m ∧ W (i + 1) m' σ' H') ∧ ∀ x H', J.yld i H x H' → g x σ H' fun σ2 H2 => tb { D with nx := N, ct := N, bk := D.nx } σ2 H2)
theorem tFor_eq {wi : TI} {g : TG} {tb : TS} {D : Ends} {σ : L2.St} {H : Hp} : tFor wi g tb D σ H = wi σ H fun J H1 => LoopR J g tb D σ H1 := rfl
theorem LoopR.by {J : It} {n : Nat} {G : Hp → Prop} {Y : Nat → Hp → V → Hp → Prop} (w : Walk J n G Y) {g : TG} {tb : TS} {D : Ends} {σ : L2.St} {H : Hp} (Pv : Nat → L2.St → Hp → Prop) (h0 : Pv 0 σ H) (hG : ∀ i σ H, i ≤ n → Pv i σ H → G H)
    (hs : ∀ i x σ H H', i < n → Pv i σ H → Y i H x H' → g x σ H' fun σ2 H2 => tb { D with nx := Pv (i + 1), ct := Pv (i + 1), bk := D.nx } σ2 H2) (hd : ∀ σ H, Pv n σ H → D.nx σ H) : LoopR J g tb D σ H := for_it w Pv h0 hG hs hd
def LcR (J : It) (g : TG) (tt : TT) (te : TE) (vs : List Nat) (σ : L2.St) (D : Addr) (H1 : Hp) (Qd : Hp → Prop) : Prop := ∃ W : Nat → Nat → Hp → Prop, (∃ m, W 0 m (upd H1 D (.lst []))) ∧ ∀ i m H, W i m H →
  (J.stop i H ∧ Qd H) ∨ (J.go i H ∧ ∃ Nx : Hp → Prop, (∀ H', Nx H' → ∃ m', m' < m ∧ W (i + 1) m' H') ∧ ∀ x H', J.yld i H x H' → g x (wipe σ vs) H' fun σ2 H2 => wipe σ2 vs = wipe σ vs ∧ tt σ2 H2 fun b H3 =>
    if b = true then te σ2 H3 fun y H4 => ∃ acc, H4 D = some (.lst acc) ∧ acc.length < sizeLine ∧ Nx (upd H4 D (.lst (acc ++ [y]))) else Nx H3)
theorem tLc_eq {wi : TI} {g : TG} {tt : TT} {te : TE} {vs : List Nat} {σ : L2.St} {H : Hp} {Q : VK} : tLc wi g tt te vs σ H Q = wi σ H fun J H1 => ∀ D, H1 D = none → LcR J g tt te vs σ D H1 (fun H => Q (.ref D) H) := rfl
theorem LcR.by {J : It} {n : Nat} {G : Hp → Prop} {Y : Nat → Hp → V → Hp → Prop} (w : Walk J n G Y) {g : TG} {tt : TT} {te : TE} {vs : List Nat} {σ : L2.St} {H1 : Hp} {D : Addr} {Qd : Hp → Prop} (Pv : Nat → Hp → Prop) (h0 : Pv 0 (upd H1 D (.lst []))) (hG : ∀ i H, i ≤ n → Pv i H → G H)
    (hs : ∀ i x H H', i < n → Pv i H → Y i H x H' → g x (wipe σ vs) H' fun σ2 H2 => wipe σ2 vs = wipe σ vs ∧ tt σ2 H2 fun b H3 =>
      if b = true then te σ2 H3 fun y H4 => ∃ acc, H4 D = some (.lst acc) ∧ acc.length < sizeLine ∧ Pv (i + 1) (upd H4 D (.lst (acc ++ [y]))) else Pv (i + 1) H3) (hd : ∀ H, Pv n H → Qd H) : LcR J g tt te vs σ D H1 Qd := lc_it w Pv h0 hG hs hd
theorem iList_r {K : PySem.W.Frag} {te : TE} {σ : L2.St} {H : Hp} {R : It → Hp → Prop} : iList K te σ H R = te σ H fun x H1 => ∃ a, x = .ref a ∧ (∃ xs, SqL K H1 a xs) ∧ R (Itl K a) H1 := rfl
end Bk

namespace Bk
open PySem PySem.Spec PyProof.Rows L2
local macro_rules | `(tactic| walk_at "wp") => `(tactic| simp only [tFor_eq, tLc_eq, iList, iTup, iRng1, iRng2, iEnum, iZip, tSl, tPart, tNoPart, gTup, tSeq, tNext, tAsg, tRet, tRetN, tIfS, tDrop, tCB, tCons, tNil, tVar, tOp, tUn, tC, rU_i, rI_ii, rI0_ii, rEq, rNe, tTest, tB, tAnd, tOr, tNot, tAndV, tOrV, tNotV, tIf, tChain, tLst, tTup, tBM, tBM0, rAppend_r, rIxL_r, rIxT_r, rMx_ii, rMn_ii, rLnL_r, rLnT_r, rIsD_int, rIsD_bool, rIsD_list, rIsD_tuple, tCall, gName, gNil_n, gCons_c, cxK, L2.start, List.map, List.replicate, List.length_cons, List.length_nil, List.cons_append, List.nil_append, List.append_nil, List.getElem?_cons_zero, List.getElem?_cons_succ, Option.some.injEq, exists_eq_left', exists_eq_left, V.int.injEq, V.bl.injEq, V.str.injEq, V.ref.injEq, List.cons.injEq, and_true, true_and, and_self, List.set, reduceIte, ite_true, ite_false, if_true, if_false, Bool.false_eq_true, Bool.not_true, Bool.not_false])
local macro_rules | `(tactic| walk_at "shaped") => `(tactic| (simp only [SeqAt.shaped, PyData.canLay0, PyData.canLayAll0, PyData.depth, PyData.depthAll]; rfl))
local macro_rules | `(tactic| walk_at "lay") => `(tactic| (simp only [PyData.canLay0, PyData.canLayAll0]; rfl))
def top (i : Nat) : Stmt := PySem.Challenge.pw_bakeahead_k01_whole_numbers.main.body.getD i (.Pass ⟨0, 0, 0, 0⟩)
/-- what stands at the built-ins' names -/
structure Bi (mg : Str → Option Value) : Prop where
  len : mg "len" = none
  max : mg "max" = none
  range : mg "range" = none
  isinstance : mg "isinstance" = none
  int : mg "int" = none
  bool : mg "bool" = none
  enumerate : mg "enumerate" = none
section
variable {P : Program} {w : World} {K : PySem.W.Frag} {mg : Str → Option Value} {base : Heap}
abbrev s_numbers : Stmt := top 6
theorem sc_numbers : FnScope ["_law_cell", "_law_salt", "_law_sizes", "_law_number", "_law_left", "_law_found", "_law_k", "_law_one"] ["_law_cell", "_law_salt", "_law_sizes"] (defScope s_numbers) := ⟨rfl, rfl, rfl, by decide +kernel, rfl, by decide +kernel, by decide +kernel⟩
/-- digits: one below each size -/
def Digs (zs fs : List Int) : Prop := fs.length = zs.length ∧ ∀ (i : Nat) (f z : Int), fs[i]? = some f → zs[i]? = some z → 0 ≤ f ∧ f < z
def spNumbers (K : PySem.W.Frag) : Sp := fun vs H Q _ => ∃ (c s : Int) (a : Addr) (zs : List Int), vs = [.int c, .int s, .ref a] ∧ SqL K H a (zs.map V.int) ∧ 0 ≤ s ∧ s ≤ 1000000 ∧ zs.length ≤ 1000 ∧ (∀ z ∈ zs, 0 < z ∧ z.natAbs < 2 ^ 200) ∧
  ∀ H' p fs, Same H H' → H p = none → Digs zs fs → H' p = some (.lst (fs.map V.int)) → Q (.ref p) H'
def NumI (H : Hp) (c s n : Int) (a p : Addr) (zs : List Int) (i : Nat) (σ : L2.St) (H' : Hp) : Prop := ∃ (l : Int) (fs : List Int) (y6 y7 : Option V), σ = [some (.int c), some (.int s), some (.ref a), some (.int n), some (.int l), some (.ref p), y6, y7] ∧ 0 ≤ l ∧ Same H H' ∧ H' p = some (.lst (fs.map V.int)) ∧ fs.length = i ∧
  ∀ (j : Nat) (f z : Int), fs[j]? = some f → zs[j]? = some z → 0 ≤ f ∧ f < z
theorem NumI.next {H H' : Hp} {c s n l x z : Int} {a p : Addr} {zs fs : List Int} {y6 y7 : Option V} (hp : H p = none) (hl : 0 ≤ l) (sm : Same H H') (hb : ∀ (j : Nat) (f z : Int), fs[j]? = some f → zs[j]? = some z → 0 ≤ f ∧ f < z) (g : zs[fs.length]? = some z) (h0 : 0 ≤ x) (h1 : x < z) :
    NumI H c s n a p zs (fs.length + 1) [some (.int c), some (.int s), some (.ref a), some (.int n), some (.int l), some (.ref p), y6, y7] (upd H' p (.lst (fs.map V.int ++ [.int x]))) := by
  refine ⟨l, fs ++ [x], y6, y7, rfl, hl, same_mut sm hp, by rw [upd_same, List.map_append]; rfl, by rw [List.length_append]; rfl, fun j f w e1 e2 => ?_⟩
  by_cases hj : j < fs.length
  · rw [List.getElem?_append_left hj] at e1
    exact hb j f w e1 e2
  · rw [List.getElem?_append_right (by omega)] at e1
    have ej : j - fs.length = 0 := by
      cases q : j - fs.length with
      | zero => rfl
      | succ m => rw [q] at e1; simp at e1
    have ej2 : j = fs.length := by omega
    subst ej2
    rw [ej] at e1
    have e3 : x = f := Option.some.inj e1
    have e4 : z = w := Option.some.inj (g.symm.trans e2)
    subst e3 e4
    exact ⟨h0, h1⟩
theorem ok_numbers {f : Addr} {fd : FuncData} {k : Nat} (F : Fun K "_law_numbers" "_law_numbers" s_numbers f fd) (B : Bi mg) : FnOk P w K mg base CX0 (k + 1) f fd ["_law_cell", "_law_salt", "_law_sizes"] (spNumbers K) := by
  refine F.ok sc_numbers (fun vs H Q E h => ?_) (fun cdv A outer s H vs Q E hr h => ?_)
  · obtain ⟨c, s, a, zs, rfl, _⟩ := h
    rfl
  · obtain ⟨c, s, a, zs, rfl, hS, hs0, hs1, hlen, hz, q⟩ := h
    refine ⟨_, (pss_cons (ps_set (i := 3) sc_numbers.nd rfl (Or.inl rfl) (pe_callB (call_mx rfl) (by rfl) B.max (by decide +kernel) (pa_cons (pv 0) (pa_cons (pe_op op_sub (pe_un un_neg pe_int) (pv 0)) pa_nil))))
 (pss_cons (ps_set (i := 4) sc_numbers.nd rfl (Or.inl rfl) (pv 3))
 (pss_cons (ps_set (i := 5) sc_numbers.nd rfl (Or.inl rfl) (pe_lst pa_nil))
 (pss_cons (ps_for PassesOwn.never rfl (pi_range1 (by rfl) B.range (pa_cons (pe_callB call_lnL (by rfl) B.len (by decide +kernel) (pa_cons (pv 2) pa_nil)) pa_nil)) (pg_name (i := 6) sc_numbers.nd rfl (Or.inl rfl)) (pss_one (ps_if (PW.pt (pw_and (pt_cmpR op_ge (pv 3) (pe_op op_pow pe_int pe_int) (nomark _)) (pw_and1 (pt_cmpR op_gt (pv 4) pe_int (nomark _))))) (pss_cons (ps_expr (pe_bm PySem.F.plainAttrs_list PySem.F.slot_list_append PySem.F.type_list_append mt_append (pv 5) (pa_cons (pe_op op_mod (pv 4) (pe_ix ix_list (pv 2) (pv 6) (fun _ _ => rfl))) pa_nil)))
 (pss_one (ps_set (i := 4) sc_numbers.nd rfl (Or.inl rfl) (pe_op op_fdivW (pv 4) (pe_ix ix_list (pv 2) (pv 6) (fun _ _ => rfl)))))) (pss_cons (ps_set (i := 7) sc_numbers.nd rfl (Or.inl rfl) (pe_op op_mod (pe_op op_pow (pe_op op_add (pe_op op_add (pe_op op_mod (pv 3) pe_int) (pe_op op_mul pe_int (pv 1))) pe_int) pe_int) pe_int))
 (pss_cons (ps_set (i := 7) sc_numbers.nd rfl (Or.inl rfl) (pe_op op_mod (pe_op op_mul (pe_op op_add (pv 7) (pe_op op_mul pe_int (pe_op op_add (pv 6) pe_int))) (pe_op op_add (pv 6) pe_int)) pe_int))
 (pss_cons (ps_set (i := 7) sc_numbers.nd rfl (Or.inl rfl) (pe_op op_mod (pe_op op_mul (pe_op op_mod (pe_op op_pow (pv 7) pe_int) pe_int) pe_int) pe_int))
 (pss_one (ps_expr (pe_bm PySem.F.plainAttrs_list PySem.F.slot_list_append PySem.F.type_list_append mt_append (pv 5) (pa_cons (pe_op op_mod (pe_op op_fdivW (pv 7) pe_int) (pe_ix ix_list (pv 2) (pv 6) (fun _ _ => rfl))) pa_nil))))))))))
 (pss_one (ps_ret (pv 5))))))), ?_⟩
    walk_at "wp"
    refine ⟨Nat.zero_le _, fun p hp => ?_⟩
    have hn0 : 0 ≤ (if -1 - c > c then -1 - c else c) := by split <;> omega
    generalize (if -1 - c > c then -1 - c else c) = n at hn0 ⊢
    refine ⟨_, hS.upd_ hp, by omega, by rw [List.length_map]; omega, ?_⟩
    rw [show (((zs.map V.int).length : Nat) : Int).toNat = zs.length by rw [List.length_map]; omega]
    refine LoopR.by walk_range (NumI H c s n a p zs) ⟨n, [], none, none, rfl, hn0, same_upd hp, upd_same, rfl, fun j f z e => by simp at e⟩ (fun _ _ _ _ _ => trivial) (fun i v σ H0 H' hi hI hY => ?_) (fun σ H' hI => ?_)
    · obtain ⟨l, fs, y6, y7, e, hl, sm, hf, hfl, hb⟩ := hI
      subst e
      obtain ⟨rfl, rfl⟩ := hY
      have g : zs[i]? = some zs[i] := List.getElem?_eq_getElem hi
      obtain ⟨hz0, hz1⟩ := hz _ (List.getElem_mem hi)
      generalize zs[i] = z at g hz0 hz1
      subst hfl
      have hA : SqL K H' a (zs.map V.int) := sm.seq hS
      have ga : atI (zs.map V.int) (0 + (fs.length : Int)) = some (.int z) := atI_map (by omega) (by rw [show (0 + (fs.length : Int)).toNat = fs.length by omega]; exact g)
      have sz : (fs.map V.int).length < sizeLine := sz100l (by rw [List.length_map]; omega)
      have hz9 : CDivW l z := wide_div hz0 hz1 (by decide) (by decide)
      walk_at "wp"
      refine ⟨⟨by decide, by decide, by decide⟩, ?_⟩
      have hB : ∀ o, SqL K (upd H' p o) a (zs.map V.int) := fun o => (same_mut sm hp).seq hS
      have p2 : NumI H c s n a p zs (fs.length + 1) [some (.int c), some (.int s), some (.ref a), some (.int n), some (.int (l / z)), some (.ref p), some (.int (0 + (fs.length : Int))), y7] (upd H' p (.lst (fs.map V.int ++ [.int (l % z)]))) :=
        NumI.next hp (Int.ediv_nonneg hl (by omega)) sm hb g (Int.emod_nonneg _ (by omega)) (Int.emod_lt_of_pos _ hz0)
      have p1 : ∀ (x : Int) (y7 : Option V), NumI H c s n a p zs (fs.length + 1) [some (.int c), some (.int s), some (.ref a), some (.int n), some (.int l), some (.ref p), some (.int (0 + (fs.length : Int))), y7] (upd H' p (.lst (fs.map V.int ++ [.int (x % z)]))) := fun x y7 =>
        NumI.next hp hl sm hb g (Int.emod_nonneg _ (by omega)) (Int.emod_lt_of_pos _ hz0)
      have m1 : 0 ≤ n % 2147483629 ∧ n % 2147483629 < 2147483629 := ⟨Int.emod_nonneg _ (by decide), Int.emod_lt_of_pos _ (by decide)⟩
      have m2 : ∀ x : Int, 0 ≤ x % 2147483629 ∧ x % 2147483629 < 2147483629 := fun x => ⟨Int.emod_nonneg _ (by decide), Int.emod_lt_of_pos _ (by decide)⟩
      have cp : ∀ x : Int, CPow (x % 2147483629) 5 := fun x => ⟨by decide, by decide, by have := m2 x; omega⟩
      have key : ∀ {R : Prop}, (∀ x : Int, ∃ xs v, SqL K H' a xs ∧ atI xs (0 + (fs.length : Int)) = some v ∧ R) → True := fun _ => trivial
      refine ite2 (fun _ => ite2 (fun _ => ?_) (fun _ => ?_)) (fun _ => ?_)
      · refine ⟨tyL (SqL.of hf), _, _, hA, ga, ?_⟩
        walk_at "wp"
        refine ⟨hz0, _, hf, sz, _, _, hB _, ga, ?_⟩
        walk_at "wp"
        exact ⟨hz9, p2⟩
      all_goals
        refine ⟨by decide, .inl ⟨by decide, by decide⟩, ⟨by decide, by decide, by omega⟩, by decide, .inl ⟨by decide, by decide⟩, .inr ⟨by omega, by omega⟩, by decide, cp _, by decide, .inr ⟨by decide, by decide⟩, by decide, tyL (SqL.of hf), wide_div (b := 10) (by decide) (by decide) (by decide) (by decide), _, _, hA, ga, ?_⟩
        walk_at "wp"
        exact ⟨hz0, _, hf, sz, p1 _ _⟩
    · obtain ⟨l, fs, y6, y7, e, hl, sm, hf, hfl, hb⟩ := hI
      subst e
      exact ⟨_, rfl, q H' p fs sm hp ⟨hfl, hb⟩ hf⟩
abbrev s_is_whole : Stmt := top 2
theorem sc_is_whole : FnScope ["thing"] ["thing"] (defScope s_is_whole) := ⟨rfl, rfl, rfl, by decide +kernel, rfl, by decide +kernel, by decide +kernel⟩
def spWhole (K : PySem.W.Frag) : Sp := fun vs H Q _ => ∃ x d, vs = [x] ∧ Th K H x d ∧ Q (.bl (wholeD d)) H
theorem ok_is_whole {f : Addr} {fd : FuncData} {k : Nat} (F : Fun K "is_whole" "is_whole" s_is_whole f fd) (B : Bi mg) : FnOk P w K mg base CX0 (k + 1) f fd ["thing"] (spWhole K) := by
  refine F.ok sc_is_whole (fun vs H Q E h => ?_) (fun cdv A outer s H vs Q E hr h => ?_)
  · obtain ⟨x, d, rfl, _⟩ := h
    rfl
  · obtain ⟨x, d, rfl, hx, q⟩ := h
    refine ⟨_, (pss_one (ps_ret (pe_and (pe_callB (call_isD .int) (by rfl) B.isinstance (by decide +kernel) (pa_cons (pv 0) (pa_cons (pe_bltn (v := .ty "int") (by rfl) B.int (by decide +kernel) rfl) pa_nil))) (pe_one (pe_not (pe_callB (call_isD .bool) (by rfl) B.isinstance (by decide +kernel) (pa_cons (pv 0) (pa_cons (pe_bltn (v := .ty "bool") (by rfl) B.bool (by decide +kernel) rfl) pa_nil)))))))), ?_⟩
    walk_at "wp"
    refine ⟨d, hx, ite2 (fun h => ⟨d, hx, ?_⟩) (fun h => ?_)⟩
    · rw [← wholeD_is, h] at q
      exact q
    · rw [← wholeD_is, Bool.eq_false_iff.mpr h] at q
      exact q
abbrev s_is_number : Stmt := top 3
theorem sc_is_number : FnScope ["thing"] ["thing"] (defScope s_is_number) := ⟨rfl, rfl, rfl, by decide +kernel, rfl, by decide +kernel, by decide +kernel⟩
structure Mo (mg : Str → Option Value) : Prop where
  GREATEST : ∃ t, mg "GREATEST" = some (.int 1000000000 t)
def spNum (K : PySem.W.Frag) : Sp := fun vs H Q _ => ∃ x d, vs = [x] ∧ Th K H x d ∧ Q (.bl (numD d)) H
theorem ok_is_number {f : Addr} {fd : FuncData} {k : Nat} (F : Fun K "is_number" "is_number" s_is_number f fd) (B : Bi mg) {t : Tok} (M_GREATEST : mg "GREATEST" = some (.int 1000000000 t)) (D_is_whole : Def P w K mg base "is_whole" (k + 1) ["thing"] (spWhole K)) :
    FnOk P w K mg base CX0 (k + 2) f fd ["thing"] (spNum K) := by
  refine F.ok sc_is_number (fun vs H Q E h => ?_) (fun cdv A outer s H vs Q E hr h => ?_)
  · obtain ⟨x, d, rfl, _⟩ := h
    rfl
  · obtain ⟨x, d, rfl, hx, q⟩ := h
    refine ⟨_, (pss_one (ps_ret (pe_and (pe_callD D_is_whole hr (by rfl) (pa_cons (pv 0) pa_nil)) (pe_one (pe_chain op_le op_le pe_int (pv 0) (pe_globI rfl M_GREATEST)))))), ?_⟩
    walk_at "wp"
    refine ⟨x, d, rfl, hx, ?_⟩
    walk_at "wp"
    cases hx with
    | int i =>
      simp only [wholeD]
      walk_at "wp"
      refine ite2 (fun h => ?_) (fun h => ?_)
      · show Q (.bl (decide (i ≤ 1000000000))) H
        simp only [numD, h, Bool.true_and] at q
        exact q
      · simp only [numD, Bool.eq_false_iff.mpr h, Bool.false_and] at q
        exact q
    | _ => exact q
abbrev s_odd : Stmt := top 7
theorem sc_odd : FnScope ["_law_digit", "_law_some"] ["_law_digit"] (defScope s_odd) := ⟨rfl, rfl, rfl, by decide +kernel, rfl, by decide +kernel, by decide +kernel⟩
def oddD : List PyData := [.none, .bool true, .bool false, .int (-1), .int 0, .int 1, .int 40, .int 41, .int 1000000000, .int 1000000001, .int 100000000000000000000000000000000000000000000000000000000000, .str "", .str "1", .list [], .list [.int 1], .tuple [], .tuple [.int 1], .dict []]
def spOdd (K : PySem.W.Frag) : Sp := fun vs H Q _ => ∃ i : Int, vs = [.int i] ∧ ∀ H' x d, Same H H' → d ∈ oddD → Th K H' x d → Q x H'
theorem ok_odd {f : Addr} {fd : FuncData} {k : Nat} (F : Fun K "_law_odd" "_law_odd" s_odd f fd) : FnOk P w K mg base CX0 (k + 1) f fd ["_law_digit"] (spOdd K) := by
  refine F.ok sc_odd (fun vs H Q E h => ?_) (fun cdv A outer s H vs Q E hr h => ?_)
  · obtain ⟨i, rfl, _⟩ := h
    rfl
  · obtain ⟨i, rfl, q⟩ := h
    refine ⟨_, (pss_cons (ps_set (i := 1) sc_odd.nd rfl (Or.inl rfl) (pe_lst (pa_cons pe_non (pa_cons pe_bl (pa_cons pe_bl (pa_cons (pe_un un_neg pe_int) (pa_cons pe_int (pa_cons pe_int (pa_cons pe_int (pa_cons pe_int (pa_cons (pe_op op_pow pe_int pe_int) (pa_cons (pe_op op_add (pe_op op_pow pe_int pe_int) pe_int) (pa_cons (pe_op op_pow pe_int pe_int) (pa_cons pe_str (pa_cons pe_str (pa_cons (pe_lst pa_nil) (pa_cons (pe_lst (pa_cons pe_int pa_nil)) (pa_cons (pe_tup pa_nil) (pa_cons (pe_tup (pa_cons pe_int pa_nil)) (pa_cons pe_dnewK pa_nil))))))))))))))))))))
 (pss_one (ps_ret (pe_ix ix_list (pv 1) (pe_op op_mod (pv 0) pe_int) (fun _ _ => rfl))))), ?_⟩
    walk_at "wp"
    refine ⟨⟨by decide, by decide, by decide⟩, ⟨by decide, by decide, by decide⟩, ⟨by decide, by decide, by decide⟩, Nat.zero_le _, fun p1 h1 => ⟨sz100 (by decide), fun p2 h2 => ⟨Nat.zero_le _, fun p3 h3 => ⟨sz100 (by decide), fun p4 h4 => fun p5 h5 => ⟨sz100 (by decide), fun p6 h6 => ⟨by decide, ?_⟩⟩⟩⟩⟩⟩
    have S6 := same_upd (o := .lst [V.non, V.bl true, V.bl false, V.int (-1), V.int 0, V.int 1, V.int 40, V.int 41, V.int (10 ^ Int.toNat 9), V.int (10 ^ Int.toNat 9 + 1), V.int (10 ^ Int.toNat 59), V.str (Str.ofString ""), V.str (Str.ofString "1"), V.ref p1, V.ref p2, V.ref p3, V.ref p4, V.ref p5]) h6
    have S5 := (same_upd (o := .dK []) h5).trans S6
    have S4 := (same_upd (o := .tup [V.int 1]) h4).trans S5
    have S3 := (same_upd (o := .tup []) h3).trans S4
    have S2 := (same_upd (o := .lst [V.int 1]) h2).trans S3
    have S1 := (same_upd (o := .lst []) h1).trans S2
    have T5 := S6 p5 _ upd_same
    have T4 := S5 p4 _ upd_same
    have T3 := S4 p3 _ upd_same
    have T2 := S3 p2 _ upd_same
    have T1 := S2 p1 _ upd_same
    generalize hW : (upd _ p6 _ : Hp) = W at S1 T1 T2 T3 T4 T5 ⊢
    have T6 := congrFun hW.symm p6
    rw [upd_same] at T6
    have hm : 0 ≤ i % 18 ∧ i % 18 < 18 := ⟨Int.emod_nonneg _ (by decide), Int.emod_lt_of_pos _ (by decide)⟩
    have TA : ThAll K W [V.non, V.bl true, V.bl false, V.int (-1), V.int 0, V.int 1, V.int 40, V.int 41, V.int (10 ^ Int.toNat 9), V.int (10 ^ Int.toNat 9 + 1), V.int (10 ^ Int.toNat 59), V.str (Str.ofString ""), V.str (Str.ofString "1"), V.ref p1, V.ref p2, V.ref p3, V.ref p4, V.ref p5] oddD :=
      .cons .non (.cons (.bl _) (.cons (.bl _) (.cons (.int _) (.cons (.int _) (.cons (.int _) (.cons (.int _) (.cons (.int _) (.cons (.int _) (.cons (.int _) (.cons (.int _) (.cons (.str _) (.cons (.str _) (.cons (.lst (SqL.of T1) .nil) (.cons (.lst (SqL.of T2) (.cons (.int _) .nil)) (.cons (.tup (SqT.of T3) .nil) (.cons (.tup (SqT.of T4) (.cons (.int _) .nil)) (.cons (.dic T5) .nil)))))))))))))))))
    have hi : (i % 18).toNat < oddD.length := by
      show (i % 18).toNat < 18
      omega
    obtain ⟨v, hv, hT⟩ := TA.get' (List.getElem?_eq_getElem hi)
    exact ⟨_, v, SqL.of T6, atI_of hm.1 hv, q W v _ S1 (List.getElem_mem hi) hT⟩
abbrev s_right : Stmt := top 8
theorem sc_right : FnScope ["_law_thing", "_law_whole", "_law_told"] ["_law_thing"] (defScope s_right) := ⟨rfl, rfl, rfl, by decide +kernel, rfl, by decide +kernel, by decide +kernel⟩
def spRight (K : PySem.W.Frag) : Sp := fun vs H Q _ => ∃ x d, vs = [x] ∧ Th K H x d ∧ ∀ H', Same H H' → Q (.bl true) H'
theorem ok_right {f : Addr} {fd : FuncData} (F : Fun K "_law_right" "_law_right" s_right f fd) (B : Bi mg) (D_is_whole : Def P w K mg base "is_whole" 1 ["thing"] (spWhole K)) (D_is_number : Def P w K mg base "is_number" 2 ["thing"] (spNum K)) :
    FnOk P w K mg base CX0 3 f fd ["_law_thing"] (spRight K) := by
  refine F.ok sc_right (fun vs H Q E h => ?_) (fun cdv A outer s H vs Q E hr h => ?_)
  · obtain ⟨x, d, rfl, _⟩ := h
    rfl
  · obtain ⟨x, d, rfl, hx, q⟩ := h
    refine ⟨_, (pss_cons (ps_set (i := 1) sc_right.nd rfl (Or.inl rfl) (pe_and (pe_callB (call_isD .int) (by rfl) B.isinstance (by decide +kernel) (pa_cons (pv 0) (pa_cons (pe_bltn (v := .ty "int") (by rfl) B.int (by decide +kernel) rfl) pa_nil))) (pe_one (pe_not (pe_callB (call_isD .bool) (by rfl) B.isinstance (by decide +kernel) (pa_cons (pv 0) (pa_cons (pe_bltn (v := .ty "bool") (by rfl) B.bool (by decide +kernel) rfl) pa_nil)))))))
 (pss_cons (ps_set (i := 2) sc_right.nd rfl (Or.inl rfl) (pe_lst (pa_cons (pe_callD D_is_whole hr (by rfl) (pa_cons (pv 0) pa_nil)) (pa_cons (pe_callD D_is_number hr (by rfl) (pa_cons (pv 0) pa_nil)) pa_nil))))
 (pss_cons (ps_if (PW.pt (pw_or (pt_not (pt_val (pe_callB (call_isD .bool) (by rfl) B.isinstance (by decide +kernel) (pa_cons (pe_ix ix_list (pv 2) pe_int (fun _ _ => rfl)) (pa_cons (pe_bltn (v := .ty "bool") (by rfl) B.bool (by decide +kernel) rfl) pa_nil))))) (pw_or1 (pt_not (pt_val (pe_callB (call_isD .bool) (by rfl) B.isinstance (by decide +kernel) (pa_cons (pe_ix ix_list (pv 2) pe_int (fun _ _ => rfl)) (pa_cons (pe_bltn (v := .ty "bool") (by rfl) B.bool (by decide +kernel) rfl) pa_nil)))))))) (pss_one (ps_ret pe_bl)) pss_nil)
 (pss_one (ps_ret (pe_cmpR (op_eqD hr.units) (pv 2) (pe_lst (pa_cons (pv 1) (pa_cons (pe_and (pv 1) (pe_and (pe_cmpR op_le pe_int (pv 0) (nomark _)) (pe_one (pe_cmpR op_le (pv 0) (pe_op op_pow pe_int pe_int) (nomark _))))) pa_nil))) (nomark _))))))), ?_⟩
    refine e_whole hx rfl rfl ?_
    walk_at "wp"
    refine ⟨x, d, rfl, hx, x, d, rfl, hx, sz100 (by decide), fun p hp => ?_⟩
    have Sp := same_upd (o := .lst [V.bl (wholeD d), V.bl (numD d)]) hp
    have hp2 : upd H p (.lst [V.bl (wholeD d), V.bl (numD d)]) p = some (.lst [V.bl (wholeD d), V.bl (numD d)]) := upd_same
    generalize (upd H p (.lst [V.bl (wholeD d), V.bl (numD d)])) = H1 at Sp hp2 ⊢
    have hL : SqL K H1 p [V.bl (wholeD d), V.bl (numD d)] := SqL.of hp2
    refine ⟨_, _, hL, atI_nat (j := 0) rfl, _, .bl _, ?_⟩
    simp only [isD]
    walk_at "wp"
    refine ⟨_, _, hL, atI_nat (j := 1) rfl, _, .bl _, ?_⟩
    simp only [isD]
    walk_at "wp"
    have fin : ∀ b, b = numD d → (0 + 1 + 1 ≤ sizeLine ∧ ∀ (p_1 : Addr), H1 p_1 = none → rEqD K (V.ref p) (V.ref p_1) (upd H1 p_1 (HO.lst [V.bl (wholeD d), V.bl b])) Q) := fun b e => by
      subst e
      refine ⟨sz100 (by decide), fun p1 h1 => ?_⟩
      refine ⟨.list [.bool (wholeD d), .bool (numD d)], .list [.bool (wholeD d), .bool (numD d)], .lst (hL.upd_ h1) (.cons (.bl _) (.cons (.bl _) .nil)), .lst (SqL.of upd_same) (.cons (.bl _) (.cons (.bl _) .nil)), by walk_at "shaped", by walk_at "shaped", ?_⟩
      rw [SeqAt.eqv_refl _ (by walk_at "lay")]
      exact q _ (Sp.trans (same_upd h1))
    cases hx with
    | int i =>
      simp only [wholeD, numD] at fin ⊢
      walk_at "wp"
      refine ite2 (fun h => ⟨⟨by decide, by decide, by decide⟩, ?_⟩) (fun h => ?_)
      · refine fin _ ?_
        rw [h, Bool.true_and]
        rfl
      · refine fin _ ?_
        rw [Bool.eq_false_iff.mpr h, Bool.false_and]
    | _ => exact fin _ rfl
abbrev s_law : Stmt := top 9
theorem sc_law : FnScope ["_law_script", "_law_at", "_law_cell", "_law_digits", "_law_far", "_law_thing"] ["_law_script"] (defScope s_law) := ⟨rfl, rfl, rfl, by decide +kernel, rfl, by decide +kernel, by decide +kernel⟩
def spLaw (K : PySem.W.Frag) : Sp := fun vs H Q _ => ∃ (a : Addr) (ns : List Int), vs = [.ref a] ∧ SqL K H a (ns.map V.int) ∧ ns.length ≤ 63 ∧ ∀ H', Q (.bl true) H'
def LawI (a : Addr) (H3 : Hp) (_ : Nat) (σ : L2.St) (H' : Hp) : Prop := (∃ y1 y2 y3 y4 y5, σ = [some (.ref a), y1, y2, y3, y4, y5]) ∧ Same H3 H'
theorem ok_law {f : Addr} {fd : FuncData} (F : Fun K "law" "law" s_law f fd) (B : Bi mg) (D_numbers : Def P w K mg base "_law_numbers" 1 ["_law_cell", "_law_salt", "_law_sizes"] (spNumbers K)) (D_odd : Def P w K mg base "_law_odd" 1 ["_law_digit"] (spOdd K)) (D_right : Def P w K mg base "_law_right" 3 ["_law_thing"] (spRight K)) :
    FnOk P w K mg base CX0 4 f fd ["_law_script"] (spLaw K) := by
  refine F.ok sc_law (fun vs H Q E h => ?_) (fun cdv A outer s H vs Q E hr h => ?_)
  · obtain ⟨a, ns, rfl, _⟩ := h
    rfl
  · obtain ⟨a, ns, rfl, hS, hlen, q⟩ := h
    refine ⟨_, (pss_cons (ps_for PassesOwn.never rfl (pi_enum (by rfl) B.enumerate (pa_cons (pe_op op_cat (pe_lst (pa_cons pe_int pa_nil)) (pe_slice sl_list (pv 0) po_none (po_some pe_int))) pa_nil)) (pg_tup rfl (pgs_cons (pg_name (i := 1) sc_law.nd rfl (Or.inl rfl)) (pgs_cons (pg_name (i := 2) sc_law.nd rfl (Or.inl rfl)) pgs_nil))) (pss_cons (ps_set (i := 3) sc_law.nd rfl (Or.inl rfl) (pe_callD D_numbers hr (by rfl) (pa_cons (pv 2) (pa_cons (pe_op op_add pe_int (pv 1)) (pa_cons (pe_lst (pa_cons (pe_op op_pow pe_int pe_int) (pa_cons pe_int (pa_cons pe_int (pa_cons pe_int (pa_cons (pe_op op_pow pe_int pe_int) pa_nil)))))) pa_nil)))))
 (pss_cons (ps_set (i := 4) sc_law.nd rfl (Or.inl rfl) (pe_op op_mul (pe_ix ix_list (pv 3) pe_int (fun _ _ => rfl)) (pe_ix ix_list (pe_lst (pa_cons pe_int (pa_cons (pe_un un_neg pe_int) pa_nil))) (pe_ix ix_list (pv 3) pe_int (fun _ _ => rfl)) (fun _ _ => rfl))))
 (pss_one (ps_for PassesOwn.never rfl (pi_list (pe_lst (pa_cons (pv 4) (pa_cons (pe_ix ix_list (pv 3) pe_int (fun _ _ => rfl)) (pa_cons (pe_op op_sub (pe_ix ix_list (pv 3) pe_int (fun _ _ => rfl)) pe_int) (pa_cons (pe_op op_sub (pe_op op_add (pe_op op_pow pe_int pe_int) (pe_ix ix_list (pv 3) pe_int (fun _ _ => rfl))) pe_int) (pa_cons (pe_callD D_odd hr (by rfl) (pa_cons (pe_ix ix_list (pv 3) pe_int (fun _ _ => rfl)) pa_nil)) pa_nil))))))) (pg_name (i := 5) sc_law.nd rfl (Or.inl rfl)) (pss_one (ps_if (pt_not (pt_val (pe_callD D_right hr (by rfl) (pa_cons (pv 5) pa_nil)))) (pss_one (ps_ret pe_bl)) pss_nil)))))))
 (pss_one (ps_ret pe_bl))), ?_⟩
    refine ⟨sz100 (by decide), fun p1 h1 => ⟨.ref a, rfl, 60, rfl, a, _, rfl, hS.upd_ h1, fun p2 h2 => ?_⟩⟩
    have T1 := same_upd (o := .lst (cutV (ns.map V.int) none (some 60))) h2 p1 _ upd_same
    have hcl : (cutV (ns.map V.int) none (some 60)).length ≤ 63 := Nat.le_trans (cutV_length _ _ _) (by rw [List.length_map]; exact hlen)
    refine ⟨p1, p2, _, _, rfl, rfl, T1, upd_same, sz100 (by show 1 + _ ≤ _; omega), fun p3 h3 => ?_⟩
    generalize hL : [V.int 0] ++ cutV (ns.map V.int) none (some 60) = L
    have hLi : ∀ x ∈ L, ∃ c, x = V.int c := by
      intro x hx
      rw [← hL] at hx
      rcases List.mem_cons.mp hx with e | e
      · exact ⟨0, e⟩
      · obtain ⟨c, _, e2⟩ := List.mem_map.mp (cutV_mem e)
        exact ⟨c, e2.symm⟩
    have hLl : L.length ≤ 64 := by
      rw [← hL, List.length_append]
      show 1 + _ ≤ _
      omega
    generalize hH3 : (upd _ p3 (.lst L) : Hp) = H3
    have T3 : H3 p3 = some (.lst L) := by rw [← hH3]; exact upd_same
    refine ⟨p3, L, rfl, SqL.of T3, for_it walk_enum (LawI a H3) ⟨⟨_, _, _, _, _, rfl⟩, Same.refl _⟩ (fun i σ H' _ hI => hI.2.seq (SqL.of T3)) (fun i v σ H4 H5 hi hI hY => ?_) (fun σ H' hI => q _)⟩
    obtain ⟨T, x, y, rfl, hT, rfl, e1, e2⟩ := hY
    obtain ⟨⟨y1, y2, y3, y4, y5, rfl⟩, S4⟩ := hI
    cases e1
    obtain ⟨c, rfl⟩ := hLi y (List.mem_of_getElem? e2)
    refine ⟨T, _, rfl, SqT.of upd_same, rfl, ?_⟩
    walk_at "wp"
    refine ⟨⟨by decide, by decide, by decide⟩, ⟨by decide, by decide, by decide⟩, sz100 (by decide), fun p4 h4 => ?_⟩
    have hi64 : (i : Int) < 64 := by omega
    have S5 : Same H3 (upd (upd H4 T (.tup [V.int (i : Int), V.int c])) p4 (.lst [V.int (10 ^ Int.toNat 60), V.int 2, V.int 9, V.int 18, V.int (10 ^ Int.toNat 10)])) := (S4.trans (same_upd hT)).trans (same_upd h4)
    refine ⟨c, 100 + (i : Int), p4, [10 ^ Int.toNat 60, 2, 9, 18, 10 ^ Int.toNat 10], rfl, SqL.of upd_same, by omega, by omega, by decide, by decide, fun H6 pd fs S6 hpd hD hfs => ?_⟩
    have S7 := S5.trans S6
    obtain ⟨f0, f1, f2, f3, f4, rfl⟩ := five hD.1
    obtain ⟨hl, hb⟩ := hD
    have b0 := hb 0 f0 _ rfl rfl
    have b1 := hb 1 f1 _ rfl rfl
    have b2 := hb 2 f2 _ rfl rfl
    have b3 := hb 3 f3 _ rfl rfl
    have b4 := hb 4 f4 _ rfl rfl
    have hF : SqL K H6 pd [V.int f0, V.int f1, V.int f2, V.int f3, V.int f4] := SqL.of hfs
    walk_at "wp"
    refine ⟨_, _, hF, atI_nat (j := 0) rfl, sz100 (by decide), fun p5 h5 => ?_⟩
    have hF5 := hF.upd_ (o := .lst [V.int 1, V.int (-1)]) h5
    refine ⟨_, _, hF5, atI_nat (j := 1) rfl, ?_⟩
    have hsg : ∃ s1 : Int, atI [V.int 1, V.int (-1)] f1 = some (V.int s1) ∧ (s1 = 1 ∨ s1 = -1) := by
      rcases (show f1 = 0 ∨ f1 = 1 by omega) with e | e
      · subst e
        exact ⟨1, rfl, .inl rfl⟩
      · subst e
        exact ⟨-1, rfl, .inr rfl⟩
    obtain ⟨s1, hs1, hs1b⟩ := hsg
    walk_at "wp"
    refine ⟨_, _, SqL.of upd_same, hs1, ?_⟩
    walk_at "wp"
    refine ⟨.inr ⟨by omega, by omega⟩, ?_⟩
    have S8 := S7.trans (same_upd (o := .lst [V.int 1, V.int (-1)]) h5)
    generalize hH8 : upd H6 p5 (.lst [V.int 1, V.int (-1)]) = H8 at hF5 S8 ⊢
    refine ⟨_, _, hF5, atI_nat (j := 4) rfl, _, _, hF5, atI_nat (j := 2) rfl, ?_⟩
    walk_at "wp"
    refine ⟨⟨by decide, by decide, by decide⟩, _, _, hF5, atI_nat (j := 2) rfl, ?_⟩
    walk_at "wp"
    refine ⟨_, _, hF5, atI_nat (j := 3) rfl, f3, rfl, fun H9 x d S9 _ hx => ⟨sz100 (by decide), fun p6 h6 => ⟨⟨_, SqL.of upd_same⟩, ?_⟩⟩⟩
    have S10 := same_upd (o := .lst [V.int (f0 * s1), V.int f4, V.int (f2 - 4), V.int (10 ^ Int.toNat 9 + f2 - 4), x]) h6
    have hx2 := hx.same S10
    have S11 := (S8.trans S9).trans S10
    generalize hA : (upd H9 p6 (.lst [V.int (f0 * s1), V.int f4, V.int (f2 - 4), V.int (10 ^ Int.toNat 9 + f2 - 4), x])) = HA at S11 hx2 ⊢
    have TA : HA p6 = some (.lst [V.int (f0 * s1), V.int f4, V.int (f2 - 4), V.int (10 ^ Int.toNat 9 + f2 - 4), x]) := by rw [← hA]; exact upd_same
    have hTh : ThAll K HA [V.int (f0 * s1), V.int f4, V.int (f2 - 4), V.int (10 ^ Int.toNat 9 + f2 - 4), x] [.int (f0 * s1), .int f4, .int (f2 - 4), .int (10 ^ Int.toNat 9 + f2 - 4), d] := .cons (.int _) (.cons (.int _) (.cons (.int _) (.cons (.int _) (.cons hx2 .nil))))
    refine LoopR.by (walk_list (xs := [V.int (f0 * s1), V.int f4, V.int (f2 - 4), V.int (10 ^ Int.toNat 9 + f2 - 4), x])) (LawI a HA) ⟨⟨_, _, _, _, _, rfl⟩, Same.refl _⟩ (fun i σ H' _ hI => hI.2.seq (SqL.of TA)) (fun i v σ H0 H' hi hI hY => ?_) (fun σ H' hI => ?_)
    · obtain ⟨⟨y1, y2, y3, y4, y5, rfl⟩, SA⟩ := hI
      obtain ⟨rfl, hv⟩ := hY
      obtain ⟨dv, _, hv2⟩ := hTh.get hv
      walk_at "wp"
      refine ⟨v, dv, rfl, hv2.same SA, fun HB SB => ?_⟩
      walk_at "wp"
      exact ⟨⟨_, _, _, _, _, rfl⟩, SA.trans SB⟩
    · obtain ⟨⟨y1, y2, y3, y4, y5, rfl⟩, SA⟩ := hI
      exact ⟨⟨_, _, _, _, _, rfl⟩, S11.trans SA⟩
end
theorem all_mk {l : PySem.W.OpenLaw} {w : World} {K : PySem.W.Frag} {h : Heap} {mg : Str → Option Value} {fa f1 f2 f3 f4 f5 f6 : Addr} (X : K.In h) (G : h.Ns mainGlobals mg) (hfa : mg "law" = some (.ref fa))
    {od1 an1 od2 an2 od3 an3 od4 an4 od5 an5 od6 an6 : Option Addr} {sl1 sl2 sl3 sl4 sl5 sl6 : Array (Option Value)} {oc1 kV1 dc1 pm1 cd1 ct1 oc2 kV2 dc2 pm2 cd2 ct2 oc3 kV3 dc3 pm3 cd3 ct3 oc4 kV4 dc4 pm4 cd4 ct4 oc5 kV5 dc5 pm5 cd5 ct5 oc6 kV6 dc6 pm6 cd6 ct6 : Value} {tk_GREATEST : Tok}
    (a1 : PySem.W.nsIn K mainGlobals "is_whole" = some (some (.ref f1))) (l1 : K.lookup f1 = some ⟨oc1, od1, .func (PySem.W.fnOf "is_whole" "is_whole" (defArgs s_is_whole) (defBody s_is_whole) (defScope s_is_whole) .none kV1 dc1 pm1 an1 cd1 ct1), sl1⟩) (c1 : PySem.W.codeIn K cd1 "is_whole" = true) (k1 : PySem.W.keepIn K (.ref f1) = true)
    (a2 : PySem.W.nsIn K mainGlobals "is_number" = some (some (.ref f2))) (l2 : K.lookup f2 = some ⟨oc2, od2, .func (PySem.W.fnOf "is_number" "is_number" (defArgs s_is_number) (defBody s_is_number) (defScope s_is_number) .none kV2 dc2 pm2 an2 cd2 ct2), sl2⟩) (c2 : PySem.W.codeIn K cd2 "is_number" = true) (k2 : PySem.W.keepIn K (.ref f2) = true)
    (a3 : PySem.W.nsIn K mainGlobals "_law_numbers" = some (some (.ref f3))) (l3 : K.lookup f3 = some ⟨oc3, od3, .func (PySem.W.fnOf "_law_numbers" "_law_numbers" (defArgs s_numbers) (defBody s_numbers) (defScope s_numbers) .none kV3 dc3 pm3 an3 cd3 ct3), sl3⟩) (c3 : PySem.W.codeIn K cd3 "_law_numbers" = true) (k3 : PySem.W.keepIn K (.ref f3) = true)
    (a4 : PySem.W.nsIn K mainGlobals "_law_odd" = some (some (.ref f4))) (l4 : K.lookup f4 = some ⟨oc4, od4, .func (PySem.W.fnOf "_law_odd" "_law_odd" (defArgs s_odd) (defBody s_odd) (defScope s_odd) .none kV4 dc4 pm4 an4 cd4 ct4), sl4⟩) (c4 : PySem.W.codeIn K cd4 "_law_odd" = true) (k4 : PySem.W.keepIn K (.ref f4) = true)
    (a5 : PySem.W.nsIn K mainGlobals "_law_right" = some (some (.ref f5))) (l5 : K.lookup f5 = some ⟨oc5, od5, .func (PySem.W.fnOf "_law_right" "_law_right" (defArgs s_right) (defBody s_right) (defScope s_right) .none kV5 dc5 pm5 an5 cd5 ct5), sl5⟩) (c5 : PySem.W.codeIn K cd5 "_law_right" = true) (k5 : PySem.W.keepIn K (.ref f5) = true)
    (a6 : PySem.W.nsIn K mainGlobals "law" = some (some (.ref f6))) (l6 : K.lookup f6 = some ⟨oc6, od6, .func (PySem.W.fnOf "law" "law" (defArgs s_law) (defBody s_law) (defScope s_law) .none kV6 dc6 pm6 an6 cd6 ct6), sl6⟩) (c6 : PySem.W.codeIn K cd6 "law" = true) (k6 : PySem.W.keepIn K (.ref f6) = true)
    (z_len : PySem.W.nsIn K mainGlobals "len" = some none) (z_max : PySem.W.nsIn K mainGlobals "max" = some none) (z_range : PySem.W.nsIn K mainGlobals "range" = some none) (z_isinstance : PySem.W.nsIn K mainGlobals "isinstance" = some none) (z_int : PySem.W.nsIn K mainGlobals "int" = some none) (z_bool : PySem.W.nsIn K mainGlobals "bool" = some none) (z_enumerate : PySem.W.nsIn K mainGlobals "enumerate" = some none) (y_GREATEST : PySem.W.nsIn K mainGlobals "GREATEST" = some (some (.int 1000000000 tk_GREATEST))) :
    ∃ fd : FuncData, (∀ (s : Shared) (v : Value), BindsTo s fd ⟨[v], []⟩ [("_law_script", v)]) ∧ ∀ base : Heap, K.In base → base.Ns mainGlobals mg → FnOk l.prog w K mg base CX0 4 fa fd ["_law_script"] (spLaw K) := by
  have e := hfa.symm.trans (PySem.W.mg_of X G a6)
  cases e
  have F1 := fun_mk (st := s_is_whole) l1 c1 k1
  have b1 := F1.binds (ps := ["thing"]) fun _ _ _ _ _ _ us hl => match us, hl with | [_], _ => rfl
  have F2 := fun_mk (st := s_is_number) l2 c2 k2
  have b2 := F2.binds (ps := ["thing"]) fun _ _ _ _ _ _ us hl => match us, hl with | [_], _ => rfl
  have F3 := fun_mk (st := s_numbers) l3 c3 k3
  have b3 := F3.binds (ps := ["_law_cell", "_law_salt", "_law_sizes"]) fun _ _ _ _ _ _ us hl => match us, hl with | [_, _, _], _ => rfl
  have F4 := fun_mk (st := s_odd) l4 c4 k4
  have b4 := F4.binds (ps := ["_law_digit"]) fun _ _ _ _ _ _ us hl => match us, hl with | [_], _ => rfl
  have F5 := fun_mk (st := s_right) l5 c5 k5
  have b5 := F5.binds (ps := ["_law_thing"]) fun _ _ _ _ _ _ us hl => match us, hl with | [_], _ => rfl
  have F6 := fun_mk (st := s_law) l6 c6 k6
  have b6 := F6.binds (ps := ["_law_script"]) fun _ _ _ _ _ _ us hl => match us, hl with | [_], _ => rfl
  have B : Bi mg := ⟨PySem.W.mg_none_of X G z_len, PySem.W.mg_none_of X G z_max, PySem.W.mg_none_of X G z_range, PySem.W.mg_none_of X G z_isinstance, PySem.W.mg_none_of X G z_int, PySem.W.mg_none_of X G z_bool, PySem.W.mg_none_of X G z_enumerate⟩
  have M_GREATEST := PySem.W.mg_of X G y_GREATEST
  refine ⟨PySem.W.fnOf "law" "law" (defArgs s_law) (defBody s_law) (defScope s_law) .none kV6 dc6 pm6 an6 cd6 ct6, fun s v => .of_eq rfl, fun base _ _ => ?_⟩
  have D1 : Def l.prog w K mg base "is_whole" 1 ["thing"] (spWhole K) := ⟨_, _, PySem.W.mg_of X G a1, k1, b1, ok_is_whole F1 B⟩
  have D2 : Def l.prog w K mg base "is_number" 2 ["thing"] (spNum K) := ⟨_, _, PySem.W.mg_of X G a2, k2, b2, ok_is_number (k := 0) F2 B M_GREATEST D1⟩
  have D3 : Def l.prog w K mg base "_law_numbers" 1 ["_law_cell", "_law_salt", "_law_sizes"] (spNumbers K) := ⟨_, _, PySem.W.mg_of X G a3, k3, b3, ok_numbers F3 B⟩
  have D4 : Def l.prog w K mg base "_law_odd" 1 ["_law_digit"] (spOdd K) := ⟨_, _, PySem.W.mg_of X G a4, k4, b4, ok_odd F4⟩
  have D5 : Def l.prog w K mg base "_law_right" 3 ["_law_thing"] (spRight K) := ⟨_, _, PySem.W.mg_of X G a5, k5, b5, ok_right F5 B D1 D2⟩
  exact ok_law F6 B D3 D4 D5
end Bk
open PySem PySem.W PyProof.Rows
set_option maxHeartbeats 0 in
theorem PySem.Challenge.cw_bakeahead_k01_whole_numbers_holds : PySem.Challenge.rw_bakeahead_k01_whole_numbers.Holds := by
  w_on; o_law; k_head; (case hw => w_witness2)
  k_fill
  refine L2.walk_of (l := PySem.Challenge.rw_bakeahead_k01_whole_numbers) (n := 63) (k := 4) (x := "_law_script") (CX := fun _ => L2.CX0) (sp := fun w => Bk.spLaw _) rfl (by decide) rfl ⟨rfl, by decide, by decide⟩ (fun w h Y => PySem.W.kIn_of Y) ?F (fun _ _ a ns hl _ hS => ⟨a, ns, rfl, hS, hl, fun _ => rfl⟩) (fun _ _ _ _ _ h => h)
  case F =>
    intro w mg fa h KX G hmg
    refine' Bk.all_mk KX G hmg ?a1 ?l1 ?c1 ?k1 ?a2 ?l2 ?c2 ?k2 ?a3 ?l3 ?c3 ?k3 ?a4 ?l4 ?c4 ?k4 ?a5 ?l5 ?c5 ?k5 ?a6 ?l6 ?c6 ?k6 ?z_len ?z_max ?z_range ?z_isinstance ?z_int ?z_bool ?z_enumerate ?y_GREATEST
    (case a1 => k_is); (case l1 => k_is); (case c1 => k_is); (case k1 => k_is); (case a2 => k_is); (case l2 => k_is); (case c2 => k_is); (case k2 => k_is); (case a3 => k_is); (case l3 => k_is); (case c3 => k_is); (case k3 => k_is); (case a4 => k_is); (case l4 => k_is); (case c4 => k_is); (case k4 => k_is); (case a5 => k_is); (case l5 => k_is); (case c5 => k_is); (case k5 => k_is); (case a6 => k_is); (case l6 => k_is); (case c6 => k_is); (case k6 => k_is); (case z_len => k_is); (case z_max => k_is); (case z_range => k_is); (case z_isinstance => k_is); (case z_int => k_is); (case z_bool => k_is); (case z_enumerate => k_is); (case y_GREATEST => k_is)


