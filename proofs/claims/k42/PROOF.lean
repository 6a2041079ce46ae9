import PyProof.Rows.All
import Wide.All
import OpenK.AllK
import Wide.FinOn
import HandS.Base
import HandS.Call
import HandS.List
import HandS.Comp
import HandS.Ends
import HandS.Dict
import HandS.Iter
import HandS.Text
import HandS.Words
import HandS.WordsList
import HandS.Wide
import HandS.IsInst
import HandS.Walk
import HandS.Style
import HandS.NoneIn
import HandS.EndBits
import PyProof.ReprRoads
import PyProof.ReprLen
import HandS.Sort
import HandS.Conv
import HandS.RevRange
import HandS.Exc
import HandS.ExcInit
import HandS.Nested
import KE.KExcSuper
import KE.KSuper
import HandS.WideBits
import HandS.More
import HandS.Small
import HandS.ForExc
import HandS.ExcOwn
import HandS.TryOnly
import HandS.FStr
import HandS.WordsExc
import PyProof.FString2
import PyProof.Rows.SeqMore
import PyProof.NeKinds
import HandS.TupAny
import HandS.SortKw
import HandS.SortInts
import PyProof.MinMaxWalk
import PyProof.WalkInts
import HandS.SetFor
import HandS.Strs
import HandS.TupSets
import KE.SortData
import KE.GoesSet
import KE.GoesMore
import HandS.ExcValue
import KE.KDictZip
import HandS.Codes
import HandS.Defaults
import HandS.Zip
import HandS.ExcIs
import KE.KExcIs
import HandS.OwnEq
import HandS.SlotsOwn
import KE.KCallOwn
import KE.KFmtOwn
import PyProof.InstNe
import HandS.CallSlots
import HandS.MakeKw
import HandS.ExcField
import HandS.RaiseMore
import PySem.Challenge.RW_bakeahead_k42_ledgers_alike
set_option Elab.async false
set_option linter.all false
set_option maxRecDepth 100000
set_option maxHeartbeats 4000000
namespace Bk
open PySem PySem.Spec PyProof.Rows L2
/-! ### a def of the text with its promise -/
structure Def (P : Program) (w : World) (K : PySem.W.Frag) (mg : Str → Option Value) (base : Heap) (x : Str) (k : Nat) (ps : List Str) (sp : Sp) : Prop where
  ex : ∃ (f : Addr) (fd : FuncData), mg x = some (.ref f) ∧ PySem.W.keepIn K (.ref f) = true ∧ Binds K fd ps [] ∧ FnOk P w K mg base CX0 k f fd ps sp
theorem pe_callD {X : Cx} {x : Str} {k j : Nat} {ps : List Str} {sp : Sp} {e : Expr} {es : List Expr} {t : TA} {p pos : Pos} (D : Def X.prog X.w X.K X.mg X.base x k ps sp) (hr : Room j X.A) (hg : Gl X x) (ha : PA X (e :: es) t)
    (hkj : k ≤ j := by omega) (hdb : (x == ("__debug__" : Str)) = false := by decide) (he : starEach (e :: es) X.env = (false, eval e X.env) :: starEach es X.env := by rfl) (hpl : (backTo pos (starEach es X.env)).any (·.1) = false := by rfl) :
    PE X (.Call (.Name x p) (e :: es) [] pos) (tCall sp [] E0 t) := by
  obtain ⟨f, fd, hm, hk, hb, F⟩ := D.ex
  exact pe_call F (hr.mono hkj) hg hm hk hb .nil pass0 ha hdb he hpl
theorem same_upd {H : Hp} {p : Addr} {o : HO} (h : H p = none) : Same H (upd H p o) := fun b x e => by
  rw [upd_ne (ne_of_none e h)]
  exact e
/-- what H does not know may change -/
theorem same_mut {H H' : Hp} {p : Addr} {o : HO} (e : Same H H') (h : H p = none) : Same H (upd H' p o) := fun b x q => by
  rw [upd_ne (ne_of_none q h)]
  exact e b x q
theorem _root_.L2.SqL.upd_ {K : PySem.W.Frag} {H : Hp} {a p : Addr} {o : HO} {xs : List V} (h : SqL K H a xs) (hp : H p = none) : SqL K (upd H p o) a xs := (same_upd hp).seq h
theorem Same.tup {K : PySem.W.Frag} {H H' : Hp} {a : Addr} {xs : List V} (e : Same H H') (h : SqT K H a xs) : SqT K H' a xs := by
  rcases h with (h | ⟨o, h⟩) | h
  · exact .inl (.inl (e _ _ h))
  · exact .inl (.inr ⟨o, e _ _ h⟩)
  · exact .inr h
/-- the written part of a def's place -/
theorem cxK {CX : CXT} {P : Program} {w : World} {K : PySem.W.Frag} {mg : Str → Option Value} {base : Heap} {N : List Str} {qual : Str} {scope : Scope} {f : Addr} {cd : Value} {A : Around} {outer : List Env} {s : Shared} {H : Hp} {E : XK} :
    (cxOf CX P w K mg base N qual scope f cd A outer s H E).K = K := rfl
theorem rI_ii {C : Int → Int → Prop} {g : Int → Int → V} {i j : Int} {H : Hp} {Q : VK} : rI C g (.int i) (.int j) H Q = (C i j ∧ Q (g i j) H) := propext ⟨fun ⟨a, b, e1, e2, h⟩ => by cases e1; cases e2; exact h, fun h => ⟨i, j, rfl, rfl, h⟩⟩
theorem rI0_ii {g : Int → Int → V} {i j : Int} {H : Hp} {Q : VK} : rI0 g (.int i) (.int j) H Q = Q (g i j) H := propext ⟨fun ⟨a, b, e1, e2, h⟩ => by cases e1; cases e2; exact h, fun h => ⟨i, j, rfl, rfl, h⟩⟩
theorem rU_i {g : Int → V} {i : Int} {H : Hp} {Q : VK} : rU g (.int i) H Q = Q (g i) H := propext ⟨fun ⟨a, e1, h⟩ => by cases e1; exact h, fun h => ⟨i, rfl, h⟩⟩
theorem rIxL_r {K : PySem.W.Frag} {p : Addr} {i : Int} {H : Hp} {Q : VK} : rIxL K (.ref p) (.int i) H Q = ∃ xs v, SqL K H p xs ∧ atI xs i = some v ∧ Q v H := propext ⟨fun ⟨a, xs, b, v, e1, e2, h⟩ => by cases e1; cases e2; exact ⟨xs, v, h⟩, fun ⟨xs, v, h⟩ => ⟨p, xs, i, v, rfl, rfl, h⟩⟩
theorem rIxT_r {K : PySem.W.Frag} {p : Addr} {i : Int} {H : Hp} {Q : VK} : rIxT K (.ref p) (.int i) H Q = ∃ xs v, SqT K H p xs ∧ atI xs i = some v ∧ Q v H := propext ⟨fun ⟨a, xs, b, v, e1, e2, h⟩ => by cases e1; cases e2; exact ⟨xs, v, h⟩, fun ⟨xs, v, h⟩ => ⟨p, xs, i, v, rfl, rfl, h⟩⟩
theorem rAppend_r {l : Addr} {y : V} {H : Hp} {Q : VK} : rAppend (.ref l) [y] H Q = ∃ xs, H l = some (.lst xs) ∧ xs.length < sizeLine ∧ Q .non (upd H l (.lst (xs ++ [y]))) :=
  propext ⟨fun ⟨a, xs, b, e1, e2, h⟩ => by cases e1; cases e2; exact ⟨xs, h⟩, fun ⟨xs, h⟩ => ⟨l, xs, y, rfl, rfl, h⟩⟩
theorem tyL {K : PySem.W.Frag} {l : Addr} {H : Hp} {xs : List V} (h : SqL K H l xs) : tyV K "list" (.ref l) H := .inl ⟨rfl, xs, h⟩
theorem atI_of {α : Type} {xs : List α} {i : Int} {v : α} (h0 : 0 ≤ i) (h : xs[i.toNat]? = some v) : atI xs i = some v := by
  have e : i = ((i.toNat : Nat) : Int) := by omega
  rw [e]
  exact atI_nat h
theorem atI_map {α : Type} {f : α → V} {xs : List α} {i : Int} {v : α} (h0 : 0 ≤ i) (h : xs[i.toNat]? = some v) : atI (xs.map f) i = some (f v) := atI_of h0 (by rw [List.getElem?_map, h]; rfl)
theorem sz100 {n : Nat} (h : n ≤ 100000) : n ≤ sizeLine := Nat.le_trans h (by decide)
theorem sz100l {n : Nat} (h : n < 100000) : n < sizeLine := Nat.lt_of_lt_of_le h (by decide)
/-! ### calls of built-ins by named readings -/
def rMx : List V → Hp → VK → Prop := fun xs H Q => ∃ i j, xs = [.int i, .int j] ∧ Q (.int (if j > i then j else i)) H
def rMn : List V → Hp → VK → Prop := fun xs H Q => ∃ i j, xs = [.int i, .int j] ∧ Q (.int (if j < i then j else i)) H
theorem call_mx {X : Cx} (hc : X.calm = true) : CallR X (.builtin "max") rMx := call_max2 hc
theorem call_mn {X : Cx} (hc : X.calm = true) : CallR X (.builtin "min") rMn := call_min2 hc
theorem rMx_ii {i j : Int} {H : Hp} {Q : VK} : rMx [.int i, .int j] H Q = Q (.int (if j > i then j else i)) H := propext ⟨fun ⟨a, b, e, h⟩ => by cases e; exact h, fun h => ⟨i, j, rfl, h⟩⟩
theorem rMn_ii {i j : Int} {H : Hp} {Q : VK} : rMn [.int i, .int j] H Q = Q (.int (if j < i then j else i)) H := propext ⟨fun ⟨a, b, e, h⟩ => by cases e; exact h, fun h => ⟨i, j, rfl, h⟩⟩
/-- len of a list, of a tuple -/
def rLnL (K : PySem.W.Frag) : List V → Hp → VK → Prop := fun xs H Q => ∃ p ys, xs = [.ref p] ∧ SqL K H p ys ∧ Q (.int ys.length) H
def rLnT (K : PySem.W.Frag) : List V → Hp → VK → Prop := fun xs H Q => ∃ p ys, xs = [.ref p] ∧ SqT K H p ys ∧ Q (.int ys.length) H
theorem call_lnL {X : Cx} : CallR X (.builtin "len") (rLnL X.K) := fun pins s σ H xs us Q I r ⟨p, ys, e, h, q⟩ => call_len_seq pins s σ H xs us Q I r ⟨p, ys, e, .inl h, q⟩
theorem call_lnT {X : Cx} : CallR X (.builtin "len") (rLnT X.K) := fun pins s σ H xs us Q I r ⟨p, ys, e, h, q⟩ => call_len_seq pins s σ H xs us Q I r ⟨p, ys, e, .inr h, q⟩
theorem rLnL_r {K : PySem.W.Frag} {p : Addr} {H : Hp} {Q : VK} : rLnL K [.ref p] H Q = ∃ ys, SqL K H p ys ∧ Q (.int ys.length) H := propext ⟨fun ⟨a, ys, e, h⟩ => by cases e; exact ⟨ys, h⟩, fun ⟨ys, h⟩ => ⟨p, ys, rfl, h⟩⟩
theorem rLnT_r {K : PySem.W.Frag} {p : Addr} {H : Hp} {Q : VK} : rLnT K [.ref p] H Q = ∃ ys, SqT K H p ys ∧ Q (.int ys.length) H := propext ⟨fun ⟨a, ys, e, h⟩ => by cases e; exact ⟨ys, h⟩, fun ⟨ys, h⟩ => ⟨p, ys, rfl, h⟩⟩
/-! ### any thing, as data -/
mutual
inductive Th (K : PySem.W.Frag) (H : Hp) : V → PyData → Prop
  | non : Th K H .non .none
  | bl (b : Bool) : Th K H (.bl b) (.bool b)
  | int (i : Int) : Th K H (.int i) (.int i)
  | str (x : Str) : Th K H (.str x) (.str x)
  | lst {a : Addr} {xs : List V} {ds : List PyData} : SqL K H a xs → ThAll K H xs ds → Th K H (.ref a) (.list ds)
  | tup {a : Addr} {xs : List V} {ds : List PyData} : SqT K H a xs → ThAll K H xs ds → Th K H (.ref a) (.tuple ds)
  | dic {a : Addr} : H a = some (.dK []) → Th K H (.ref a) (.dict [])
inductive ThAll (K : PySem.W.Frag) (H : Hp) : List V → List PyData → Prop
  | nil : ThAll K H [] []
  | cons {v : V} {vs : List V} {d : PyData} {ds : List PyData} : Th K H v d → ThAll K H vs ds → ThAll K H (v :: vs) (d :: ds)
end

mutual
theorem Th.same {K : PySem.W.Frag} {H H' : Hp} (e : Same H H') : ∀ {v : V} {d : PyData}, Th K H v d → Th K H' v d
  | _, _, .non => .non
  | _, _, .bl b => .bl b
  | _, _, .int i => .int i
  | _, _, .str x => .str x
  | _, _, .lst h t => .lst (e.seq h) (ThAll.same e t)
  | _, _, .tup h t => .tup (Same.tup e h) (ThAll.same e t)
  | _, _, .dic h => .dic (e _ _ h)
theorem ThAll.same {K : PySem.W.Frag} {H H' : Hp} (e : Same H H') : ∀ {vs : List V} {ds : List PyData}, ThAll K H vs ds → ThAll K H' vs ds
  | _, _, .nil => .nil
  | _, _, .cons h t => .cons (Th.same e h) (ThAll.same e t)
end
theorem ThAll.length {K : PySem.W.Frag} {H : Hp} : ∀ {vs : List V} {ds : List PyData}, ThAll K H vs ds → vs.length = ds.length
  | _, _, .nil => rfl
  | _, _, .cons _ t => by rw [List.length_cons, List.length_cons, ThAll.length t]
theorem ThAll.get {K : PySem.W.Frag} {H : Hp} : ∀ {vs : List V} {ds : List PyData} {i : Nat} {v : V}, ThAll K H vs ds → vs[i]? = some v → ∃ d, ds[i]? = some d ∧ Th K H v d
  | _, _, _, _, .nil, e => by simp at e
  | _, _, 0, _, .cons h _, e => by
    rw [List.getElem?_cons_zero] at e
    cases e
    exact ⟨_, List.getElem?_cons_zero .., h⟩
  | _, _, i + 1, _, .cons _ t, e => by
    rw [List.getElem?_cons_succ] at e
    obtain ⟨d, h1, h2⟩ := ThAll.get t e
    exact ⟨d, by rw [List.getElem?_cons_succ]; exact h1, h2⟩
theorem ThAll.get' {K : PySem.W.Frag} {H : Hp} {vs : List V} {ds : List PyData} {i : Nat} {d : PyData} (t : ThAll K H vs ds) (e : ds[i]? = some d) : ∃ v, vs[i]? = some v ∧ Th K H v d := by
  have hi : i < vs.length := by
    rw [t.length]
    exact (List.getElem?_eq_some_iff.mp e).1
  obtain ⟨d', h1, h2⟩ := t.get (List.getElem?_eq_getElem hi)
  have e2 : d' = d := Option.some.inj (h1.symm.trans e)
  subst e2
  exact ⟨_, List.getElem?_eq_getElem hi, h2⟩
theorem ThAll.ints {K : PySem.W.Frag} {H : Hp} : ∀ ns : List Int, ThAll K H (ns.map V.int) (ns.map PyData.int)
  | [] => .nil
  | n :: r => .cons (.int n) (ThAll.ints r)
/-- the built-in classes that are asked for -/
inductive Cl | int | bool | list | tuple | str | dict
def Cl.name : Cl → String
  | .int => "int" | .bool => "bool" | .list => "list" | .tuple => "tuple" | .str => "str" | .dict => "dict"
def kindD : PyData → String
  | .none => "NoneType" | .bool _ => "bool" | .int _ => "int" | .str _ => "str" | .list _ => "list" | .tuple _ => "tuple" | .dict _ => "dict"
def isD : Cl → PyData → Bool
  | .int, .int _ => true
  | .int, .bool _ => true
  | .bool, .bool _ => true
  | .list, .list _ => true
  | .tuple, .tuple _ => true
  | .str, .str _ => true
  | .dict, .dict _ => true
  | _, _ => false
def isN (c : Cl) (n : String) : Bool := n == c.name || (n == "bool" && c.name == "int")
theorem isN_kit : ∀ (c : Cl), ∀ n ∈ ["NoneType", "bool", "int", "str", "list", "tuple", "dict"], kitB n c.name = some (isN c n) := by
  intro c
  cases c <;> decide +kernel
theorem kindD_mem (d : PyData) : kindD d ∈ ["NoneType", "bool", "int", "str", "list", "tuple", "dict"] := by cases d <;> simp [kindD]
theorem isN_tab : ∀ c : Cl, isN c "NoneType" = isD c .none ∧ isN c "bool" = isD c (.bool true) ∧ isN c "int" = isD c (.int 0) ∧ isN c "str" = isD c (.str "") ∧ isN c "list" = isD c (.list []) ∧ isN c "tuple" = isD c (.tuple []) ∧ isN c "dict" = isD c (.dict []) := by
  intro c
  cases c <;> decide +kernel
theorem isD_N (c : Cl) (d : PyData) : isN c (kindD d) = isD c d := by
  obtain ⟨h1, h2, h3, h4, h5, h6, h7⟩ := isN_tab c
  cases d with
  | none => exact h1
  | bool b => exact h2.trans (by cases c <;> rfl)
  | int i => exact h3.trans (by cases c <;> rfl)
  | str x => exact h4.trans (by cases c <;> rfl)
  | list x => exact h5.trans (by cases c <;> rfl)
  | tuple x => exact h6.trans (by cases c <;> rfl)
  | dict x => exact h7.trans (by cases c <;> rfl)
theorem isD_kit {K : PySem.W.Frag} (c : Cl) (d : PyData) : PySem.W.kitOne K (.type (kindD d)) (.type c.name) = some (isD c d) := by
  rw [← isD_N]
  exact kit_ty (isN_kit c _ (kindD_mem d))
theorem Th.ty {K : PySem.W.Frag} {H : Hp} {v : V} {d : PyData} (h : Th K H v d) : TyX K H v (.type (kindD d)) := by
  cases h with
  | non => exact .base .non
  | bl b => exact .base (.bl b)
  | int i => exact .base (.int i)
  | str x => exact .base (.str x)
  | lst h _ =>
    rcases h with (h | ⟨o, h⟩) | ⟨o, its, n, h, c, _⟩
    · exact .base (.lst h)
    · exact .base (.frz h)
    · exact .kList h c
  | tup h _ =>
    rcases h with (h | ⟨o, h⟩) | ⟨o, its, n, h, c, _⟩
    · exact .base (.tup h)
    · exact .fTuple h
    · exact .kTuple h c
  | dic h => exact .base (.dK h)
/-- isinstance(x, a built-in class) of any thing -/
def rIsD (K : PySem.W.Frag) (c : Cl) : List V → Hp → VK → Prop := fun xs H Q => ∃ x d, xs = [x, .ty c.name] ∧ Th K H x d ∧ Q (.bl (isD c d)) H
theorem call_isD {X : Cx} (c : Cl) : CallR X (.builtin "isinstance") (rIsD X.K c) := fun pins s σ H xs us Q I r ⟨x, d, e, h, q⟩ =>
  call_isi pins s σ H xs us Q I r ⟨x, .ty c.name, .type (kindD d), .type c.name, isD c d, e, .ty _, h.ty, isD_kit c d, q⟩
theorem rIsD_int {K : PySem.W.Frag} {x : V} {H : Hp} {Q : VK} : rIsD K .int [x, .ty "int"] H Q = ∃ d, Th K H x d ∧ Q (.bl (isD .int d)) H := propext ⟨fun ⟨y, d, e, h⟩ => by cases e; exact ⟨d, h⟩, fun ⟨d, h⟩ => ⟨x, d, rfl, h⟩⟩
theorem rIsD_bool {K : PySem.W.Frag} {x : V} {H : Hp} {Q : VK} : rIsD K .bool [x, .ty "bool"] H Q = ∃ d, Th K H x d ∧ Q (.bl (isD .bool d)) H := propext ⟨fun ⟨y, d, e, h⟩ => by cases e; exact ⟨d, h⟩, fun ⟨d, h⟩ => ⟨x, d, rfl, h⟩⟩
theorem rIsD_list {K : PySem.W.Frag} {x : V} {H : Hp} {Q : VK} : rIsD K .list [x, .ty "list"] H Q = ∃ d, Th K H x d ∧ Q (.bl (isD .list d)) H := propext ⟨fun ⟨y, d, e, h⟩ => by cases e; exact ⟨d, h⟩, fun ⟨d, h⟩ => ⟨x, d, rfl, h⟩⟩
theorem rIsD_tuple {K : PySem.W.Frag} {x : V} {H : Hp} {Q : VK} : rIsD K .tuple [x, .ty "tuple"] H Q = ∃ d, Th K H x d ∧ Q (.bl (isD .tuple d)) H := propext ⟨fun ⟨y, d, e, h⟩ => by cases e; exact ⟨d, h⟩, fun ⟨d, h⟩ => ⟨x, d, rfl, h⟩⟩
def wholeD : PyData → Bool
  | .int _ => true
  | _ => false
def numD : PyData → Bool
  | .int i => decide (0 ≤ i) && decide (i ≤ 1000000000)
  | _ => false
theorem wholeD_is (d : PyData) : (isD .int d && !isD .bool d) = wholeD d := by cases d <;> rfl
theorem pe_globI {X : Cx} {x : Str} {i : Int} {t : Tok} {pos : Pos} (hg : Gl X x) (hm : X.mg x = some (.int i t)) (hd : (x == ("__debug__" : Str)) = false := by decide) : PE X (.Name x pos) (tC (.int i)) := pe_glob hg hm ⟨_, rfl⟩ hd
theorem gCons_c {t : TG} {u : TGs} {v : V} {r : List V} {σ : L2.St} {H : Hp} {Q : L2.St → Hp → Prop} : gCons t u (v :: r) σ H Q = t v σ H fun σ' H' => u r σ' H' Q := propext ⟨fun ⟨a, b, e, h⟩ => by cases e; exact h, fun h => ⟨v, r, rfl, h⟩⟩
theorem gNil_n {σ : L2.St} {H : Hp} {Q : L2.St → Hp → Prop} : gNil [] σ H Q = Q σ H := propext ⟨fun h => h.2, fun h => ⟨rfl, h⟩⟩
/-! ### loops and comprehensions, kept shut -/
def LoopR (J : It) (g : TG) (tb : TS) (D : Ends) (σ : L2.St) (H : Hp) : Prop := ∃ W : Nat → Nat → L2.St → Hp → Prop, (∃ m, W 0 m σ H) ∧ ∀ i m σ H, W i m σ H →
  (J.stop i H ∧ D.nx σ H) ∨ (J.go i H ∧ ∃ N : L2.St → Hp → Prop, (∀ σ' H', N σ' H' → ∃ m', m' < m ∧ W (i + 1) m' σ' H') ∧ ∀ x H', J.yld i H x H' → g x σ H' fun σ2 H2 => tb { D with nx := N, ct := N, bk := D.nx } σ2 H2)
theorem tFor_eq {wi : TI} {g : TG} {tb : TS} {D : Ends} {σ : L2.St} {H : Hp} : tFor wi g tb D σ H = wi σ H fun J H1 => LoopR J g tb D σ H1 := rfl
theorem LoopR.by {J : It} {n : Nat} {G : Hp → Prop} {Y : Nat → Hp → V → Hp → Prop} (w : Walk J n G Y) {g : TG} {tb : TS} {D : Ends} {σ : L2.St} {H : Hp} (Pv : Nat → L2.St → Hp → Prop) (h0 : Pv 0 σ H) (hG : ∀ i σ H, i ≤ n → Pv i σ H → G H)
    (hs : ∀ i x σ H H', i < n → Pv i σ H → Y i H x H' → g x σ H' fun σ2 H2 => tb { D with nx := Pv (i + 1), ct := Pv (i + 1), bk := D.nx } σ2 H2) (hd : ∀ σ H, Pv n σ H → D.nx σ H) : LoopR J g tb D σ H := for_it w Pv h0 hG hs hd
def LcR (J : It) (g : TG) (tt : TT) (te : TE) (vs : List Nat) (σ : L2.St) (D : Addr) (H1 : Hp) (Qd : Hp → Prop) : Prop := ∃ W : Nat → Nat → Hp → Prop, (∃ m, W 0 m (upd H1 D (.lst []))) ∧ ∀ i m H, W i m H →
  (J.stop i H ∧ Qd H) ∨ (J.go i H ∧ ∃ Nx : Hp → Prop, (∀ H', Nx H' → ∃ m', m' < m ∧ W (i + 1) m' H') ∧ ∀ x H', J.yld i H x H' → g x (wipe σ vs) H' fun σ2 H2 => wipe σ2 vs = wipe σ vs ∧ tt σ2 H2 fun b H3 =>
    if b = true then te σ2 H3 fun y H4 => ∃ acc, H4 D = some (.lst acc) ∧ acc.length < sizeLine ∧ Nx (upd H4 D (.lst (acc ++ [y]))) else Nx H3)
theorem tLc_eq {wi : TI} {g : TG} {tt : TT} {te : TE} {vs : List Nat} {σ : L2.St} {H : Hp} {Q : VK} : tLc wi g tt te vs σ H Q = wi σ H fun J H1 => ∀ D, H1 D = none → LcR J g tt te vs σ D H1 (fun H => Q (.ref D) H) := rfl
theorem LcR.by {J : It} {n : Nat} {G : Hp → Prop} {Y : Nat → Hp → V → Hp → Prop} (w : Walk J n G Y) {g : TG} {tt : TT} {te : TE} {vs : List Nat} {σ : L2.St} {H1 : Hp} {D : Addr} {Qd : Hp → Prop} (Pv : Nat → Hp → Prop) (h0 : Pv 0 (upd H1 D (.lst []))) (hG : ∀ i H, i ≤ n → Pv i H → G H)
    (hs : ∀ i x H H', i < n → Pv i H → Y i H x H' → g x (wipe σ vs) H' fun σ2 H2 => wipe σ2 vs = wipe σ vs ∧ tt σ2 H2 fun b H3 =>
      if b = true then te σ2 H3 fun y H4 => ∃ acc, H4 D = some (.lst acc) ∧ acc.length < sizeLine ∧ Pv (i + 1) (upd H4 D (.lst (acc ++ [y]))) else Pv (i + 1) H3) (hd : ∀ H, Pv n H → Qd H) : LcR J g tt te vs σ D H1 Qd := lc_it w Pv h0 hG hs hd
theorem gTup_r {K : PySem.W.Frag} {n : Nat} {t : TGs} {a : Addr} {σ : L2.St} {H : Hp} {Q : L2.St → Hp → Prop} : gTup K n t (.ref a) σ H Q = ∃ xs, SqT K H a xs ∧ xs.length = n ∧ t xs σ H Q := propext ⟨fun ⟨b, xs, e, h⟩ => by cases e; exact ⟨xs, h⟩, fun ⟨xs, h⟩ => ⟨a, xs, rfl, h⟩⟩
def rEnum (K : PySem.W.Frag) (vs : List V) (H1 : Hp) (R : It → Hp → Prop) : Prop := ∃ a xs, vs = [.ref a] ∧ SqL K H1 a xs ∧ R (Ite K a) H1
theorem iEnum_eq {K : PySem.W.Frag} {ta : TA} {σ : L2.St} {H : Hp} {R : It → Hp → Prop} : iEnum K ta σ H R = ta σ H fun vs H1 => rEnum K vs H1 R := rfl
theorem rEnum_r {K : PySem.W.Frag} {a : Addr} {H : Hp} {R : It → Hp → Prop} : rEnum K [.ref a] H R = ∃ xs, SqL K H a xs ∧ R (Ite K a) H := propext ⟨fun ⟨b, xs, e, h⟩ => by cases e; exact ⟨xs, h⟩, fun ⟨xs, h⟩ => ⟨a, xs, rfl, h⟩⟩
def rZip (K : PySem.W.Frag) (vs : List V) (H1 : Hp) (R : It → Hp → Prop) : Prop := ∃ a b xs ys, vs = [.ref a, .ref b] ∧ SqL K H1 a xs ∧ SqL K H1 b ys ∧ R (Itz K a b) H1
theorem iZip_eq {K : PySem.W.Frag} {ta : TA} {σ : L2.St} {H : Hp} {R : It → Hp → Prop} : iZip K ta σ H R = ta σ H fun vs H1 => rZip K vs H1 R := rfl
theorem rZip_r {K : PySem.W.Frag} {a b : Addr} {H : Hp} {R : It → Hp → Prop} : rZip K [.ref a, .ref b] H R = ∃ xs ys, SqL K H a xs ∧ SqL K H b ys ∧ R (Itz K a b) H := propext ⟨fun ⟨_, _, xs, ys, e, h⟩ => by cases e; exact ⟨xs, ys, h⟩, fun ⟨xs, ys, h⟩ => ⟨a, b, xs, ys, rfl, h⟩⟩
def rRng1 (vs : List V) (H1 : Hp) (R : It → Hp → Prop) : Prop := ∃ j : Int, vs = [.int j] ∧ -(2 ^ 62) ≤ j ∧ j < 2 ^ 62 ∧ R (Itr 0 j.toNat) H1
theorem iRng1_eq {ta : TA} {σ : L2.St} {H : Hp} {R : It → Hp → Prop} : iRng1 ta σ H R = ta σ H fun vs H1 => rRng1 vs H1 R := rfl
theorem rRng1_i {j : Int} {H : Hp} {R : It → Hp → Prop} : rRng1 [.int j] H R = (-(2 ^ 62) ≤ j ∧ j < 2 ^ 62 ∧ R (Itr 0 j.toNat) H) := propext ⟨fun ⟨_, e, h⟩ => by cases e; exact h, fun h => ⟨j, rfl, h⟩⟩
def rRng2 (vs : List V) (H1 : Hp) (R : It → Hp → Prop) : Prop := ∃ i j : Int, vs = [.int i, .int j] ∧ (-(2 ^ 62) ≤ i ∧ i < 2 ^ 62 ∧ -(2 ^ 62) ≤ j ∧ j < 2 ^ 62) ∧ R (Itr i (j - i).toNat) H1
theorem iRng2_eq {ta : TA} {σ : L2.St} {H : Hp} {R : It → Hp → Prop} : iRng2 ta σ H R = ta σ H fun vs H1 => rRng2 vs H1 R := rfl
theorem rRng2_i {i j : Int} {H : Hp} {R : It → Hp → Prop} : rRng2 [.int i, .int j] H R = ((-(2 ^ 62) ≤ i ∧ i < 2 ^ 62 ∧ -(2 ^ 62) ≤ j ∧ j < 2 ^ 62) ∧ R (Itr i (j - i).toNat) H) := propext ⟨fun ⟨_, _, e, h⟩ => by cases e; exact h, fun h => ⟨i, j, rfl, h⟩⟩
theorem rSlL_r {K : PySem.W.Frag} {a : Addr} {lo hi : Option Int} {H : Hp} {Q : VK} : rSlL K (.ref a) lo hi H Q = ∃ xs, SqL K H a xs ∧ ∀ p, H p = none → Q (.ref p) (upd H p (.lst (cutV xs lo hi))) := propext ⟨fun ⟨_, xs, e, h⟩ => by cases e; exact ⟨xs, h⟩, fun ⟨xs, h⟩ => ⟨a, xs, rfl, h⟩⟩
theorem rCat_r {l b : Addr} {H : Hp} {Q : VK} : rCat (.ref l) (.ref b) H Q = ∃ xs zs, H l = some (.lst xs) ∧ H b = some (.lst zs) ∧ xs.length + zs.length ≤ sizeLine ∧ ∀ p, H p = none → Q (.ref p) (upd H p (.lst (xs ++ zs))) := propext ⟨fun ⟨_, _, xs, zs, e1, e2, h⟩ => by cases e1; cases e2; exact ⟨xs, zs, h⟩, fun ⟨xs, zs, h⟩ => ⟨l, b, xs, zs, rfl, rfl, h⟩⟩
end Bk

namespace Bk
open PySem PySem.Spec PyProof.Rows L2
/-! ### a comprehension without tests, by what each turn gives -/
theorem LcR.map {J : It} {n : Nat} {G : Hp → Prop} {Y : Nat → Hp → V → Hp → Prop} (w : Walk J n G Y) {g : TG} {te : TE} {vs : List Nat} {σ : L2.St} {H1 : Hp} {D : Addr} {Qd : Hp → Prop} (ys : List V) (hD : H1 D = none) (hn : ys.length = n) (hz : n ≤ 100000)
    (hG : ∀ H, Same H1 H → G H) (hY : ∀ i H x H', Y i H x H' → Same H H')
    (hs : ∀ i x y H H', i < n → Same H1 H' → Y i H x H' → ys[i]? = some y → ∀ R : V → Hp → Prop, (∀ H4, Same H' H4 → R y H4) → g x (wipe σ vs) H' fun σ2 H2 => wipe σ2 vs = wipe σ vs ∧ te σ2 H2 R)
    (hd : ∀ H, Same H1 H → H D = some (.lst ys) → Qd H) : LcR J g tYes te vs σ D H1 Qd := by
  refine LcR.by w (fun i H => Same H1 H ∧ H D = some (.lst (ys.take i))) ⟨same_upd hD, by rw [upd_same]; rfl⟩ (fun i H _ h => hG H h.1) (fun i x H H' hi h y => ?_) (fun H h => hd H h.1 ?_)
  · have s := hY _ _ _ _ y
    have e : ys[i]? = some (ys[i]'(by omega)) := List.getElem?_eq_getElem (by omega)
    refine hs i x _ H H' hi (h.1.trans s) y e _ fun H4 s4 => ?_
    have e4 := s4 _ _ (s _ _ h.2)
    refine ⟨_, e4, ?_, same_mut ((h.1.trans s).trans s4) hD, ?_⟩
    · rw [List.length_take]
      exact sz100l (by omega)
    · rw [upd_same, List.take_add_one, e]
      rfl
  · rw [← hn, List.take_length] at h
    exact h.2
theorem yat_same {xs : List V} {i : Nat} {H H' : Hp} {x : V} (y : YAt xs i H x H') : Same H H' := by
  rw [y.1]
  exact Same.refl H
theorem yfn_same {f : Nat → V} {i : Nat} {H H' : Hp} {x : V} (y : YFn f i H x H') : Same H H' := by
  rw [y.1]
  exact Same.refl H
theorem ypair_same {xs ys : Nat → Option V} {i : Nat} {H H' : Hp} {x : V} (y : YPair xs ys i H x H') : Same H H' := by
  obtain ⟨T, a, b, _, hT, e, _⟩ := y
  rw [e]
  exact same_upd hT
theorem rAll_r {K : PySem.W.Frag} {p : Addr} {H : Hp} {Q : VK} : rAll K [.ref p] H Q = ∃ bs : List Bool, SqL K H p (bs.map V.bl) ∧ Q (.bl (bs.all id)) H := propext ⟨fun ⟨a, bs, e, h⟩ => by cases e; exact ⟨bs, h⟩, fun ⟨bs, h⟩ => ⟨p, bs, rfl, h⟩⟩
theorem rSum_r {K : PySem.W.Frag} {p : Addr} {H : Hp} {Q : VK} : rSum K [.ref p] H Q = ∃ ns : List Int, SqL K H p (ns.map V.int) ∧ Q (.int ns.sum) H := propext ⟨fun ⟨a, bs, e, h⟩ => by cases e; exact ⟨bs, h⟩, fun ⟨bs, h⟩ => ⟨p, bs, rfl, h⟩⟩
/-! ### what a bakery is, as data -/
structure Day where
  want : Int
  loaf : Int
  keep : Int
  fine : Option Int
structure Good where
  days : List Day
  life : Option Int
structure Bak where
  lights : List Int
  bound : Option Int
  goods : List Good
def optD : Option Int → PyData
  | none => .none
  | some i => .int i
def dayD (d : Day) : PyData := .tuple [.int d.want, .int d.loaf, .int d.keep, optD d.fine]
def goodD (g : Good) : PyData := .tuple [.list (g.days.map dayD), optD g.life]
def bakD (b : Bak) : PyData := .tuple [.list (b.lights.map PyData.int), optD b.bound, .list (b.goods.map goodD)]
def tupB (n : Nat) : PyData → Bool
  | .tuple ds => decide (ds.length = n)
  | _ => false
def listB (lo hi : Nat) : PyData → Bool
  | .list ds => decide (lo ≤ ds.length) && decide (ds.length ≤ hi)
  | _ => false
def lightsB : PyData → Bool
  | .list ds => listB 1 40 (.list ds) && ds.all numD
  | _ => false
def boundB : PyData → Bool
  | .none => true
  | .int i => numD (.int i) && decide (1 ≤ i)
  | _ => false
def lifeB : PyData → Bool
  | .none => true
  | .int i => decide (0 ≤ i) && decide (i ≤ 40)
  | _ => false
def noneB : PyData → Bool
  | .none => true
  | _ => false
def dayB : PyData → Bool
  | .tuple [a, b, c, f] => (numD a && numD b && numD c) && (noneB f || numD f)
  | _ => false
def goodFormB (n : Nat) : PyData → Bool
  | .tuple [ds, l] => listB n n ds && lifeB l
  | _ => false
def bakFormB : PyData → Bool
  | .tuple [l, b, g] => lightsB l && (boundB b && listB 1 2 g)
  | _ => false
/-- a good of n days -/
def goodB (n : Nat) : PyData → Bool
  | .tuple [.list ds, l] => decide (ds.length = n) && lifeB l && ds.all dayB
  | _ => false
def bakB : PyData → Bool
  | .tuple [.list ls, b, .list gs] => lightsB (.list ls) && boundB b && listB 1 2 (.list gs) && gs.all (goodB ls.length)
  | _ => false
theorem Th.isNon {K : PySem.W.Frag} {H : Hp} {x : V} {d : PyData} (h : Th K H x d) : decide (x = V.non) = noneB d := by cases h <;> rfl
theorem qb {Q : VK} {H : Hp} {a b : Bool} (e : a = b) (q : Q (.bl b) H) : Q (.bl a) H := by
  rw [e]
  exact q
theorem two {α : Type} {l : List α} (h : l.length = 2) : ∃ a b, l = [a, b] := by
  match l, h with
  | [a, b], _ => exact ⟨a, b, rfl⟩
theorem three {α : Type} {l : List α} (h : l.length = 3) : ∃ a b c, l = [a, b, c] := by
  match l, h with
  | [a, b, c], _ => exact ⟨a, b, c, rfl⟩
theorem four {α : Type} {l : List α} (h : l.length = 4) : ∃ a b c d, l = [a, b, c, d] := by
  match l, h with
  | [a, b, c, d], _ => exact ⟨a, b, c, d, rfl⟩
theorem goodB_inv {n : Nat} {d : PyData} (h : goodB n d = true) : ∃ ds l, d = .tuple [.list ds, l] ∧ ds.length = n ∧ lifeB l = true ∧ ds.all dayB = true := by
  unfold goodB at h
  split at h
  · rename_i ds l
    rw [Bool.and_eq_true, Bool.and_eq_true] at h
    exact ⟨ds, l, rfl, of_decide_eq_true h.1.1, h.1.2, h.2⟩
  · cases h
theorem bakB_inv {d : PyData} (h : bakB d = true) : ∃ ls b gs, d = .tuple [.list ls, b, .list gs] ∧ lightsB (.list ls) = true ∧ boundB b = true ∧ listB 1 2 (.list gs) = true ∧ gs.all (goodB ls.length) = true := by
  unfold bakB at h
  split at h
  · rename_i ls b gs
    rw [Bool.and_eq_true, Bool.and_eq_true, Bool.and_eq_true] at h
    exact ⟨ls, b, gs, rfl, h.1.1.1, h.1.1.2, h.1.2, h.2⟩
  · cases h
/-- a bakery, part by part -/
theorem Th.bak {K : PySem.W.Frag} {H : Hp} {x : V} {b : Bak} (h : Th K H x (bakD b)) : ∃ (a l : Addr) (v : V) (g : Addr) (xl xg : List V), x = .ref a ∧ SqT K H a [.ref l, v, .ref g] ∧ SqL K H l xl ∧ ThAll K H xl (b.lights.map PyData.int) ∧ Th K H v (optD b.bound) ∧ SqL K H g xg ∧ ThAll K H xg (b.goods.map goodD) := by
  cases h with
  | tup ht hta =>
  cases hta with
  | cons t1 hta => cases hta with
  | cons t2 hta => cases hta with
  | cons t3 hta =>
  cases hta
  cases t1 with
  | lst h1 h2 =>
  cases t3 with
  | lst h3 h4 =>
  exact ⟨_, _, _, _, _, _, rfl, ht, h1, h2, t2, h3, h4⟩
def optV : Option Int → V
  | none => .non
  | some i => .int i
theorem Th.opt {K : PySem.W.Frag} {H : Hp} {v : V} {o : Option Int} (h : Th K H v (optD o)) : v = optV o := by
  cases o with
  | none =>
    cases h
    rfl
  | some i =>
    cases h
    rfl
theorem Th.optV {K : PySem.W.Frag} {H : Hp} (o : Option Int) : Th K H (Bk.optV o) (optD o) := by
  cases o with
  | none => exact .non
  | some i => exact .int i
theorem Th.day {K : PySem.W.Frag} {H : Hp} {x : V} {d : Day} (h : Th K H x (dayD d)) : ∃ t, x = .ref t ∧ SqT K H t [.int d.want, .int d.loaf, .int d.keep, Bk.optV d.fine] := by
  cases h with
  | tup ht hta =>
  cases hta with
  | cons t1 hta => cases hta with
  | cons t2 hta => cases hta with
  | cons t3 hta => cases hta with
  | cons t4 hta =>
  cases hta
  cases t1
  cases t2
  cases t3
  rw [t4.opt] at ht
  exact ⟨_, rfl, ht⟩
theorem Th.good {K : PySem.W.Frag} {H : Hp} {x : V} {g : Good} (h : Th K H x (goodD g)) : ∃ t a xs, x = .ref t ∧ SqT K H t [.ref a, Bk.optV g.life] ∧ SqL K H a xs ∧ ThAll K H xs (g.days.map dayD) := by
  cases h with
  | tup ht hta =>
  cases hta with
  | cons t1 hta => cases hta with
  | cons t2 hta =>
  cases hta
  cases t1 with
  | lst h1 h2 =>
  rw [t2.opt] at ht
  exact ⟨_, _, _, rfl, ht, h1, h2⟩
theorem ThAll.drop {K : PySem.W.Frag} {H : Hp} : ∀ {vs : List V} {ds : List PyData} (n : Nat), ThAll K H vs ds → ThAll K H (vs.drop n) (ds.drop n)
  | _, _, 0, h => h
  | _, _, _ + 1, .nil => .nil
  | _, _, n + 1, .cons _ t => ThAll.drop n t
theorem ThAll.take {K : PySem.W.Frag} {H : Hp} : ∀ {vs : List V} {ds : List PyData} (n : Nat), ThAll K H vs ds → ThAll K H (vs.take n) (ds.take n)
  | _, _, 0, _ => .nil
  | _, _, _ + 1, .nil => .nil
  | _, _, n + 1, .cons h t => .cons h (ThAll.take n t)
theorem ThAll.append {K : PySem.W.Frag} {H : Hp} : ∀ {vs ws : List V} {ds es : List PyData}, ThAll K H vs ds → ThAll K H ws es → ThAll K H (vs ++ ws) (ds ++ es)
  | _, _, _, _, .nil, h => h
  | _, _, _, _, .cons h t, h2 => .cons h (ThAll.append t h2)
theorem cutV_nat (xs : List V) (i j : Nat) : cutV xs (some (i : Int)) (some (j : Int)) = (xs.drop i).take (j - i) := by
  unfold cutV
  rw [HT.sIx_nat, HT.sIx_nat]
  by_cases hi : i ≤ xs.length
  · rw [Nat.min_eq_left hi]
    by_cases hj : j ≤ xs.length
    · rw [Nat.min_eq_left hj]
    · rw [Nat.min_eq_right (by omega), List.take_of_length_le (by rw [List.length_drop]; omega), List.take_of_length_le (by rw [List.length_drop]; omega)]
  · rw [show min i xs.length = xs.length by omega, List.drop_of_length_le (Nat.le_refl _), List.drop_of_length_le (show xs.length ≤ i by omega), List.take_nil, List.take_nil]
/-! ### the price of a loaf -/
def sumO : List (Option Int) → Option Int
  | [] => some 0
  | none :: _ => none
  | some x :: r => (sumO r).map (x + ·)
def keepsL (ds : List Day) (i j : Nat) : Int := (((ds.drop i).take (j - i)).map Day.keep).sum
def finesL (ds : List Day) (i j : Nat) : Option Int := sumO (((ds.drop i).take (j - i)).map Day.fine)
/-- a loaf of a good, baked on day j, given for day k -/
def loafP (g : Good) (j k : Nat) : Option Int := match g.days[j]? with
  | none => none
  | some d => if k < j then (finesL g.days k j).map (d.loaf + ·) else match g.life with
    | none => some (d.loaf + keepsL g.days j k)
    | some l => if l < (k : Int) - (j : Int) then none else some (d.loaf + keepsL g.days j k)
theorem sumO_none : ∀ {l : List (Option Int)}, inV .non (l.map optV) = true → sumO l = none
  | [], h => by cases h
  | none :: _, _ => rfl
  | some x :: r, h => by
    have h2 : inV .non (r.map optV) = true := by
      have h1 : (eqV (.int x) .non || inV .non (r.map optV)) = true := h
      simpa [eqV] using h1
    show (sumO r).map (x + ·) = none
    rw [sumO_none h2]
    rfl
theorem sumO_some : ∀ {l : List (Option Int)}, inV .non (l.map optV) = false → ∃ ns : List Int, l.map optV = ns.map V.int ∧ sumO l = some ns.sum
  | [], _ => ⟨[], rfl, rfl⟩
  | none :: r, h => by
    have h1 : (eqV .non .non || inV .non (r.map optV)) = false := h
    simp [eqV] at h1
  | some x :: r, h => by
    have h2 : inV .non (r.map optV) = false := by
      have h1 : (eqV (.int x) .non || inV .non (r.map optV)) = false := h
      simpa [eqV] using h1
    obtain ⟨ns, e1, e2⟩ := sumO_some h2
    refine ⟨x :: ns, ?_, ?_⟩
    · show V.int x :: r.map optV = V.int x :: ns.map V.int
      rw [e1]
    · show (sumO r).map (x + ·) = some (x :: ns).sum
      rw [e2, List.sum_cons]
      rfl
theorem rIn_r {K : PySem.W.Frag} {x : V} {p : Addr} {H : Hp} {Q : VK} : rIn K false x (.ref p) H Q = ∃ xs, (SqL K H p xs ∨ SqT K H p xs) ∧ flatV x = true ∧ xs.all flatV = true ∧ Q (.bl (inV x xs)) H :=
  propext ⟨fun ⟨_, xs, e, h⟩ => by cases e; exact ⟨xs, h⟩, fun ⟨xs, h⟩ => ⟨p, xs, rfl, h⟩⟩
theorem flat_opts (l : List (Option Int)) : (l.map optV).all flatV = true := by
  rw [List.all_eq_true]
  intro x hx
  obtain ⟨o, _, rfl⟩ := List.mem_map.mp hx
  cases o <;> rfl
end Bk

namespace Bk
open PySem PySem.Spec PyProof.Rows L2
/-! ### xs[a:b:c] of a list: some of its items -/
theorem vals_pick {xs : List V} {us : List Value} (r : Vals xs us) : ∀ is : List Nat, Vals (is.filterMap (xs[·]?)) (is.filterMap (us[·]?))
  | [] => .nil
  | i :: is => by
    have ih := vals_pick r is
    cases e : xs[i]? with
    | none =>
      rw [List.filterMap_cons_none e, List.filterMap_cons_none (r.none_of e)]
      exact ih
    | some x =>
      obtain ⟨u, e2, r2⟩ := r.get e
      rw [List.filterMap_cons_some e, List.filterMap_cons_some e2]
      exact .cons r2 ih
/-- the items of xs[l:u:st] -/
def stepV (xs : List V) (l u st : Option Int) : List V := (sliceRange (sliceBounds l u st xs.length).1 (sliceBounds l u st xs.length).2.1 (sliceBounds l u st xs.length).2.2).filterMap (xs[·]?)
def tStep (K : PySem.W.Frag) (te : TE) (tl th ts : TO) : TE := fun σ H Q => te σ H fun x H1 => tl σ H1 fun l H2 => th σ H2 fun u H3 => ts σ H3 fun st H4 => ∃ a xs, x = .ref a ∧ SqL K H4 a xs ∧ st ≠ some 0 ∧
  ∀ p, H4 p = none → Q (.ref p) (upd H4 p (.lst (stepV xs l u st)))
theorem pe_step {X : Cx} {e : Expr} {lo hi st : Option Expr} {te : TE} {tl th ts : TO} {p3 pos : Pos} (he : PE X e te) (hl : PO X lo tl) (hu : PO X hi th) (hst : PO X st ts)
    (hsub : ∀ a i, subscripted (.Slice lo hi st p3) false a i = operate [a, i] (getItem a i) := by intro _ _; with_unfolding_all rfl) : PE X (.Subscript e (.Slice lo hi st p3) pos) (tStep X.K te tl th ts) := by
  refine ⟨fun pins s σ H Q I h => ?_⟩
  refine Subscript_ (thn (he.run pins s σ H _ I h) fun v s1 ⟨x, H1, I1, r1, q1⟩ => ?_)
  refine wpAny_Slice (thn (hl.run pins s1 σ H1 _ I1 q1) fun vl s2 ⟨l, H2, I2, pl, q2⟩ => ?_)
  refine thn (hu.run pins s2 σ H2 _ I2 q2) fun vu s3 ⟨u, H3, I3, pu, q3⟩ => ?_
  refine thn (hst.run pins s3 σ H3 _ I3 q3) fun vs s4 ⟨o, H4, I4, ps, q4⟩ => ?_
  obtain ⟨a, xs, ex, hx, h0, q⟩ := q4
  subst ex
  cases r1
  have I5 : Inv X pins σ H4 { s4 with heap := s4.heap.push { cls := .type "slice", data := .fields #[vl, vu, vs] } } := I4.kept (t' := s4.toks) fun b ob q => Heap.get?_push_of_some _ q
  obtain ⟨its, r, ht, hz⟩ := I5.list hx
  have hlen := r.length
  show wpAny (model X.prog X.w) X.A (subscriptTail e (.Slice lo hi st p3) (.ref a) (.ref s4.heap.objs.size)) (EP X pins σ Q) X.xe { s4 with heap := s4.heap.push { cls := .type "slice", data := .fields #[vl, vu, vs] } }
  refine tail_any (ops := [.ref a, .ref s4.heap.objs.size]) ht.isList.typeIs (PySem.slot_list_getitem.lookup) ?_ (hsub _ _)
  refine wpAny_getItem_list_slice ht.isList (Heap.IsSliceOf.new _ vl vu vs) pl pu ps h0 ?_ (by rw [List.size_toArray]; omega)
  have hpk : slicePick its.toArray l u o = ((sliceRange (sliceBounds l u o xs.length).1 (sliceBounds l u o xs.length).2.1 (sliceBounds l u o xs.length).2.2).filterMap (its[·]?)).toArray := by
    unfold slicePick
    rw [List.size_toArray, ← hlen]
    simp
  have rp : Vals (stepV xs l u o) _ := vals_pick r (sliceRange (sliceBounds l u o xs.length).1 (sliceBounds l u o xs.length).2.1 (sliceBounds l u o xs.length).2.2)
  have hle := slicePick_size_le its.toArray l u o
  rw [hpk] at hle ⊢
  rw [List.size_toArray, List.size_toArray] at hle
  have hl2 : (stepV xs l u o).length ≤ xs.length := by
    rw [rp.length]
    omega
  refine ⟨.ref _, _, I5.laid (t' := s4.toks) (o := .lst (stepV xs l u o)) (fun b ob q => Heap.get?_push_of_some _ q) (Nat.le_refl _) ?_, rfl, q _ (I5.hok.fresh (Nat.le_refl _))⟩
  exact ⟨by omega, _, 0, rp, Heap.get?_push_size _ rfl⟩
theorem tStep_r {K : PySem.W.Frag} {te : TE} {tl th ts : TO} {σ : L2.St} {H : Hp} {Q : VK} : tStep K te tl th ts σ H Q = te σ H fun x H1 => tl σ H1 fun l H2 => th σ H2 fun u H3 => ts σ H3 fun st H4 => ∃ a xs, x = .ref a ∧ SqL K H4 a xs ∧ st ≠ some 0 ∧
  ∀ p, H4 p = none → Q (.ref p) (upd H4 p (.lst (stepV xs l u st))) := rfl
/-! ### data in objects that are tracked as they are -/
mutual
inductive Tk (H : Hp) : V → PyData → Prop
  | non : Tk H .non .none
  | bl (b : Bool) : Tk H (.bl b) (.bool b)
  | int (i : Int) : Tk H (.int i) (.int i)
  | str (x : Str) : Tk H (.str x) (.str x)
  | lst {a : Addr} {xs : List V} {ds : List PyData} : H a = some (.lst xs) → TkAll H xs ds → Tk H (.ref a) (.list ds)
  | tup {a : Addr} {xs : List V} {ds : List PyData} : H a = some (.tup xs) → TkAll H xs ds → Tk H (.ref a) (.tuple ds)
  | dic {a : Addr} : H a = some (.dK []) → Tk H (.ref a) (.dict [])
inductive TkAll (H : Hp) : List V → List PyData → Prop
  | nil : TkAll H [] []
  | cons {v : V} {vs : List V} {d : PyData} {ds : List PyData} : Tk H v d → TkAll H vs ds → TkAll H (v :: vs) (d :: ds)
end

mutual
theorem Tk.th {K : PySem.W.Frag} {H : Hp} : ∀ {v : V} {d : PyData}, Tk H v d → Th K H v d
  | _, _, .non => .non
  | _, _, .bl b => .bl b
  | _, _, .int i => .int i
  | _, _, .str x => .str x
  | _, _, .lst h t => .lst (SqL.of h) (TkAll.th t)
  | _, _, .tup h t => .tup (SqT.of h) (TkAll.th t)
  | _, _, .dic h => .dic h
theorem TkAll.th {K : PySem.W.Frag} {H : Hp} : ∀ {vs : List V} {ds : List PyData}, TkAll H vs ds → ThAll K H vs ds
  | _, _, .nil => .nil
  | _, _, .cons h t => .cons (Tk.th h) (TkAll.th t)
end

mutual
theorem Tk.same {H H' : Hp} (e : Same H H') : ∀ {v : V} {d : PyData}, Tk H v d → Tk H' v d
  | _, _, .non => .non
  | _, _, .bl b => .bl b
  | _, _, .int i => .int i
  | _, _, .str x => .str x
  | _, _, .lst h t => .lst (e _ _ h) (TkAll.same e t)
  | _, _, .tup h t => .tup (e _ _ h) (TkAll.same e t)
  | _, _, .dic h => .dic (e _ _ h)
theorem TkAll.same {H H' : Hp} (e : Same H H') : ∀ {vs : List V} {ds : List PyData}, TkAll H vs ds → TkAll H' vs ds
  | _, _, .nil => .nil
  | _, _, .cons h t => .cons (Tk.same e h) (TkAll.same e t)
end
theorem TkAll.append {H : Hp} : ∀ {vs ws : List V} {ds es : List PyData}, TkAll H vs ds → TkAll H ws es → TkAll H (vs ++ ws) (ds ++ es)
  | _, _, _, _, .nil, h => h
  | _, _, _, _, .cons h t, h2 => .cons h (TkAll.append t h2)
theorem TkAll.take {H : Hp} : ∀ {vs : List V} {ds : List PyData} (n : Nat), TkAll H vs ds → TkAll H (vs.take n) (ds.take n)
  | _, _, 0, _ => .nil
  | _, _, _ + 1, .nil => .nil
  | _, _, n + 1, .cons h t => .cons h (TkAll.take n t)
theorem TkAll.length {H : Hp} : ∀ {vs : List V} {ds : List PyData}, TkAll H vs ds → vs.length = ds.length
  | _, _, .nil => rfl
  | _, _, .cons _ t => by rw [List.length_cons, List.length_cons, TkAll.length t]
theorem TkAll.get {H : Hp} : ∀ {vs : List V} {ds : List PyData} {i : Nat} {v : V}, TkAll H vs ds → vs[i]? = some v → ∃ d, ds[i]? = some d ∧ Tk H v d
  | _, _, _, _, .nil, e => by simp at e
  | _, _, 0, _, .cons h _, e => by
    rw [List.getElem?_cons_zero] at e
    cases e
    exact ⟨_, List.getElem?_cons_zero .., h⟩
  | _, _, i + 1, _, .cons _ t, e => by
    rw [List.getElem?_cons_succ] at e
    obtain ⟨d, h1, h2⟩ := TkAll.get t e
    exact ⟨d, by rw [List.getElem?_cons_succ]; exact h1, h2⟩
theorem TkAll.ints {H : Hp} : ∀ ns : List Int, TkAll H (ns.map V.int) (ns.map PyData.int)
  | [] => .nil
  | n :: r => .cons (.int n) (TkAll.ints r)
theorem Tk.optV {H : Hp} (o : Option Int) : Tk H (Bk.optV o) (optD o) := by
  cases o with
  | none => exact .non
  | some i => exact .int i
/-! ### what is new -/
/-- the part of H' that H doesn't know -/
def newOf (H H' : Hp) : Hp := fun b => if H b = none then H' b else none
theorem newOf_same (H H' : Hp) : Same (newOf H H') H' := fun b o e => by
  unfold newOf at e
  split at e
  · exact e
  · cases e
theorem newOf_at {H H' : Hp} {b : Addr} {o : HO} (h : H b = none) (e : H' b = some o) : newOf H H' b = some o := by
  unfold newOf
  rw [if_pos h]
  exact e
theorem newOf_mono {H H1 H2 : Hp} (s : Same H1 H2) : Same (newOf H H1) (newOf H H2) := fun b o e => by
  unfold newOf at e ⊢
  split at e
  · rename_i h
    rw [if_pos h]
    exact s b o e
  · cases e
theorem newOf_left {H H1 H2 : Hp} (s : Same H H1) : Same (newOf H1 H2) (newOf H H2) := fun b o e => by
  unfold newOf at e ⊢
  split at e
  · rename_i h
    rw [if_pos (s.free h)]
    exact e
  · cases e
/-- the new part, without two places -/
def newBut (H : Hp) (l m : Addr) (H' : Hp) : Hp := fun b => if b = l ∨ b = m then none else newOf H H' b
theorem newBut_mono {H H1 H2 : Hp} {l m : Addr} (s : ∀ b o, b ≠ l → b ≠ m → H1 b = some o → H2 b = some o) : Same (newBut H l m H1) (newBut H l m H2) := fun b o e => by
  unfold newBut at e ⊢
  split at e
  · cases e
  · rename_i h
    rw [if_neg h]
    have h2 := newOf_same _ _ b o e
    unfold newOf at e ⊢
    split at e
    · rename_i h3
      rw [if_pos h3]
      exact s b o (fun z => h (.inl z)) (fun z => h (.inr z)) h2
    · cases e
theorem newBut_same (H : Hp) (l m : Addr) (H' : Hp) : Same (newBut H l m H') (newOf H H') := fun b o e => by
  unfold newBut at e
  split at e
  · cases e
  · exact e
theorem newBut_at {H H' : Hp} {l m b : Addr} {o : HO} (h : H b = none) (h1 : b ≠ l) (h2 : b ≠ m) (e : H' b = some o) : newBut H l m H' b = some o := by
  unfold newBut
  rw [if_neg (fun z => z.elim h1 h2)]
  exact newOf_at h e
theorem gUnl_r {K : PySem.W.Frag} {n : Nat} {t : TGs} {a : Addr} {σ : L2.St} {H : Hp} {Q : L2.St → Hp → Prop} : gUnl K n t (.ref a) σ H Q = ∃ xs, SqL K H a xs ∧ xs.length = n ∧ t xs σ H Q := propext ⟨fun ⟨b, xs, e, h⟩ => by cases e; exact ⟨xs, h⟩, fun ⟨xs, h⟩ => ⟨a, xs, rfl, h⟩⟩
def rInt1 : List V → Hp → VK → Prop := fun xs H Q => (∃ i, xs = [.int i] ∧ Q (.int i) H) ∨ ∃ k, xs = [.bl k] ∧ Q (.int (if k then 1 else 0)) H
theorem call_in1 {X : Cx} : CallR X (.type "int") rInt1 := call_int1
theorem rInt1_b {k : Bool} {H : Hp} {Q : VK} : rInt1 [.bl k] H Q = Q (.int (if k then 1 else 0)) H := by
  refine propext ⟨fun h => ?_, fun h => .inr ⟨k, rfl, h⟩⟩
  rcases h with ⟨i, e, _⟩ | ⟨j, e, q⟩
  · cases e
  · cases e
    exact q
theorem rInt1_i {i : Int} {H : Hp} {Q : VK} : rInt1 [.int i] H Q = Q (.int i) H := by
  refine propext ⟨fun h => ?_, fun h => .inl ⟨i, rfl, h⟩⟩
  rcases h with ⟨j, e, q⟩ | ⟨j, e, _⟩
  · cases e
    exact q
  · cases e
theorem rRep_r {l : Addr} {k : Int} {H : Hp} {Q : VK} : rRep (.ref l) (.int k) H Q = ∃ xs, H l = some (.lst xs) ∧ -(2 ^ 63) ≤ k ∧ k < 2 ^ 63 ∧ xs.length * k.toNat ≤ sizeLine ∧ ∀ p, H p = none → Q (.ref p) (upd H p (.lst (List.replicate k.toNat xs).flatten)) :=
  propext ⟨fun ⟨_, _, xs, e1, e2, h⟩ => by cases e1; cases e2; exact ⟨xs, h⟩, fun ⟨xs, h⟩ => ⟨l, k, xs, rfl, rfl, h⟩⟩
theorem seven {α : Type} {l : List α} (h : l.length = 7) : ∃ a b c d e f g, l = [a, b, c, d, e, f, g] := by
  match l, h with
  | [a, b, c, d, e, f, g], _ => exact ⟨a, b, c, d, e, f, g, rfl⟩
def nDays (u m : Nat) : Nat := max 2 (min u m) - 1
theorem bakB_mk {b : Bak} (h1 : 1 ≤ b.lights.length) (h2 : b.lights.length ≤ 40) (h3 : ∀ z ∈ b.lights, numD (.int z) = true) (h4 : boundB (optD b.bound) = true) (h5 : 1 ≤ b.goods.length) (h6 : b.goods.length ≤ 2)
    (h7 : ∀ g ∈ b.goods, g.days.length = b.lights.length ∧ lifeB (optD g.life) = true ∧ ∀ d ∈ g.days, dayB (dayD d) = true) : bakB (bakD b) = true := by
  have e1 : (b.lights.map PyData.int).all numD = true := by
    rw [List.all_eq_true]
    intro x hx
    obtain ⟨z, hz, rfl⟩ := List.mem_map.mp hx
    exact h3 z hz
  have e2 : (b.goods.map goodD).all (goodB (b.lights.map PyData.int).length) = true := by
    rw [List.all_eq_true]
    intro x hx
    obtain ⟨g, hg, rfl⟩ := List.mem_map.mp hx
    obtain ⟨g1, g2, g3⟩ := h7 g hg
    have e3 : (g.days.map dayD).all dayB = true := by
      rw [List.all_eq_true]
      intro y hy
      obtain ⟨d, hd, rfl⟩ := List.mem_map.mp hy
      exact g3 d hd
    simp only [goodD, goodB, e3, g2, List.length_map, g1, decide_true, Bool.and_self]
  rw [List.length_map] at e2
  simp only [bakD, bakB, lightsB, listB, e1, e2, h4, List.length_map, h1, h2, h5, h6, decide_true, Bool.and_self]
theorem cutV_upto (xs : List V) (n : Nat) : cutV xs none (some (n : Int)) = xs.take n := by
  unfold cutV
  rw [HT.sIx_nat, HT.sIx_none, List.drop_zero, Nat.sub_zero]
  by_cases h : n ≤ xs.length
  · rw [Nat.min_eq_left h]
  · rw [Nat.min_eq_right (by omega), List.take_of_length_le (Nat.le_refl _), List.take_of_length_le (by omega)]
theorem Tk.opt {H : Hp} {v : V} {o : Option Int} (h : Tk H v (optD o)) : v = Bk.optV o := (h.th (K := [])).opt
/-- a bakery in tracked objects, part by part -/
theorem Tk.bak {H : Hp} {x : V} {b : Bak} (h : Tk H x (bakD b)) : ∃ (a l g : Addr) (xl xg : List V), x = .ref a ∧ H a = some (.tup [.ref l, Bk.optV b.bound, .ref g]) ∧ H l = some (.lst xl) ∧ TkAll H xl (b.lights.map PyData.int) ∧ H g = some (.lst xg) ∧ TkAll H xg (b.goods.map goodD) := by
  cases h with
  | tup ht hta =>
  cases hta with
  | cons t1 hta => cases hta with
  | cons t2 hta => cases hta with
  | cons t3 hta =>
  cases hta
  cases t1 with
  | lst h1 h2 =>
  cases t3 with
  | lst h3 h4 =>
  rw [t2.opt] at ht
  exact ⟨_, _, _, _, _, rfl, ht, h1, h2, h3, h4⟩
theorem Tk.good {H : Hp} {x : V} {g : Good} (h : Tk H x (goodD g)) : ∃ t a xs, x = .ref t ∧ H t = some (.tup [.ref a, Bk.optV g.life]) ∧ H a = some (.lst xs) ∧ TkAll H xs (g.days.map dayD) := by
  cases h with
  | tup ht hta =>
  cases hta with
  | cons t1 hta => cases hta with
  | cons t2 hta =>
  cases hta
  cases t1 with
  | lst h1 h2 =>
  rw [t2.opt] at ht
  exact ⟨_, _, _, rfl, ht, h1, h2⟩
/-! ### a comprehension whose items are new things -/
/-! ### while, by the number of its turns -/
def WI (n : Nat) (Pv : Nat → L2.St → Hp → Prop) (m : Nat) (σ : L2.St) (H : Hp) : Prop := ∃ i, m = n - i ∧ i ≤ n ∧ Pv i σ H
def WStep (n : Nat) (Pv : Nat → L2.St → Hp → Prop) (i : Nat) (tb : TS) (D : Ends) (σ : L2.St) (H1 : Hp) : Prop := ∃ N : L2.St → Hp → Prop, (∀ σ' H', N σ' H' → ∃ m', m' < n - i ∧ WI n Pv m' σ' H') ∧ tb { D with nx := N, ct := N, bk := D.nx } σ H1
end Bk

namespace Bk
open PySem PySem.Spec PyProof.Rows L2
/-! ### defs that are called where no text of a container is being written: repr may be asked there -/
/-- as a def's promise, but only around calls whose guards are none -/
def RunG (P : Program) (w : World) (K : PySem.W.Frag) (mg : Str → Option Value) (base : Heap) (k : Nat) (f : Addr) (fd : FuncData) (ps : List Str) (sp : Sp) : Prop :=
  (∀ vs H Q E, sp vs H Q E → vs.length = ps.length) ∧
  ∀ (A : Around) (outer : List Env) (s : Shared) (H : Hp) (args : Args) (us : List Value) (vs : List V) (Q : VK) (E : XK), A.guards = some [] → Room k A → Env0 P w K mg base A outer s H → BindsTo s fd args (ps.zip us) → Vals vs us → sp vs H Q E →
    codeAny (model P w) A (.call (.ref f) args) (CR CX0 outer P w H s Q E) s
theorem runG_of {P : Program} {w : World} {K : PySem.W.Frag} {mg : Str → Option Value} {base : Heap} {x qual : Str} {st : Stmt} {f : Addr} {fd : FuncData} {N ps : List Str} {k : Nat} {sp : Sp} (F : Fun K x qual st f fd) (S : FnScope N ps (defScope st))
    (len : ∀ vs H Q E, sp vs H Q E → vs.length = ps.length)
    (body : ∀ (cdv : Value) (A : Around) (outer : List Env) (s : Shared) (H : Hp) (vs : List V) (Q : VK) (E : XK), A.guards = some [] → Room k (A.deeper (envOfC qual (defScope st) s.heap.objs.size f cdv)) → sp vs H Q E →
      ∃ t, PSs (cxOf CX0 P w K mg base N qual (defScope st) f cdv A outer s H E).nox (defBody st) t ∧ t { nx := fun _ H' => Q .non H', rt := Q } (L2.start N vs) H) : RunG P w K mg base (k + 1) f fd ps sp := by
  obtain ⟨oc, od, kV, doc, pm, an, cdv, ct, osl, rfl, lk, hcd⟩ := F.ex
  refine ⟨len, fun A outer s H args us vs Q E hA hr e0 hb r hs => ?_⟩
  have up : ∀ b o, base.get? b = some o → s.heap.get? b = some o := fun b o e => (e0.bs b o e).1
  have kin : K.In s.heap := e0.mod.kin.keeps up
  have places : ∀ y ∈ ps.zip us, (defScope st).names.lookup y.1 = some .local ∨ ((defScope st).names.lookup y.1 = some .cell ∧ ((cellsFrom (s.heap.objs.size + 1) (defScope st).names []).lookup y.1).isSome = true) := by
    rintro ⟨n, v⟩ hy
    exact (S.par n (List.of_mem_zip hy).1).elim .inl fun q => .inr ⟨q, PySem.W.cellsFrom_some _ _ _ (.inl q)⟩
  refine codeAny_call_function hr.depth (kin _ _ lk) rfl S.co S.gen rfl (PySem.W.codeRec_of kin hcd) (hb _ _ _ _ (wpAny_newFunctionEnv_cells S.kind places fun env he s1 z => ?_))
  subst he
  refine ⟨(e0.mod.nolimit.keeps up).keeps z.toInCall.keep, codeAny_func ?_⟩
  obtain ⟨t, ht, ht2⟩ := body cdv A outer s H vs Q E hA (hr.deeper _) hs
  have J := inv_start (CX := CX0) (E := E) S hr.hd e0 (len _ _ _ _ hs) r z
  refine wpAny_mono (ht.nox.run [] s1 _ H _ J ht2) (fun fl s' g => ?_) fun _ _ g => g
  cases fl with
  | next =>
    obtain ⟨_, H', J', q⟩ := g
    exact ⟨.non, H', J'.os, J'.bare, J'.base, J'.hok, rfl, q⟩
  | ret u =>
    obtain ⟨v, _, H', J', rv, q⟩ := g
    exact ⟨v, H', J'.os, J'.bare, J'.base, J'.hok, rv, q⟩
  | brk =>
    obtain ⟨_, _, _, q⟩ := g
    exact q.elim
  | cont =>
    obtain ⟨_, _, _, q⟩ := g
    exact q.elim
/-- the law's own call: nothing but the script is tracked -/
theorem law_runG {P : Program} {w : World} {K : PySem.W.Frag} {mg mb : Str → Option Value} {k : Nat} {fa a : Addr} {fd : FuncData} {x : Str} {sp : Sp} {t : Shared} {us : List Value} {ns : List Int} (kin : K.In t.heap) (glob : t.heap.Ns mainGlobals mg) (blt : t.heap.Ns builtinsNs mb)
    (boot : ∀ y : Str, y ≠ "__name__" → mb y = bootBuiltins y) (lim : t.heap.NoLimit) (none_g : t.gens = #[]) (at_a : t.heap.get? a = some { cls := .type "list", data := .seq us.toArray }) (its0 : IntsAre us ns) (few : ns.length ≤ sizeLine) (room : Room k callerA)
    (F : ∀ base : Heap, K.In base → base.Ns mainGlobals mg → RunG P w K mg base k fa fd [x] sp) (binds : ∀ (s : Shared) (u : Value), BindsTo s fd ⟨[u], []⟩ [(x, u)])
    (law : ∀ H : Hp, SqL K H a (ns.map V.int) → sp [.ref a] H (fun v _ => v = .bl true) fun _ _ _ => False) :
    codeAny (model P w) callerA (.call (.ref fa) ⟨[.ref a], []⟩) (fun r s' => r = .ok (.ret (.bool true)) ∧ OldK t.heap s'.heap ∧ s'.os = t.os ∧ AllBare s'.gens) t := by
  have rel0 := vals_ints its0
  have go : ∀ H : Hp, (∀ b o, H b = some o → b = a ∧ K.lookup a = none ∧ ∃ ob ys, o = .frz ob (.lst ys)) → SqL K H a (ns.map V.int) → HOk P w H t.heap →
      codeAny (model P w) callerA (.call (.ref fa) ⟨[.ref a], []⟩) (fun r s' => r = .ok (.ret (.bool true)) ∧ OldK t.heap s'.heap ∧ s'.os = t.os ∧ AllBare s'.gens) t := by
    intro H only seq hok
    have free : ∀ {b : Addr} {o : Obj} {es : Array DictEntry} {n : Nat}, t.heap.get? b = some o → o.data = .dict es n → H b = none := by
      intro b o es n e d
      cases q : H b with
      | none => rfl
      | some z =>
        obtain ⟨rfl, _⟩ := only b z q
        rw [at_a] at e
        cases e
        cases d
    have names : ∀ {b : Addr} {m : Str → Option Value}, t.heap.Ns b m → (hidT t.heap H).Ns b m := by
      rintro b m ⟨o, es, n, e, d, r⟩
      exact ⟨o, es, n, hidT_get e (free e d), d, r⟩
    have kin2 : K.In (hidT t.heap H) := by
      intro b o e
      refine hidT_get (kin b o e) ?_
      cases q : H b with
      | none => rfl
      | some z =>
        obtain ⟨rfl, n, _⟩ := only b z q
        rw [n] at e
        cases e
    obtain ⟨mc, l1, l2⟩ := lim
    have env : Env0 P w K mg (hidT t.heap H) callerA [] t H := by
      refine ⟨rfl, ⟨kin2, names glob, ⟨mb, names blt, boot⟩, ⟨mc, names l1, l2⟩⟩, fun b o e => of_hidT e, Nat.le_of_eq (hidT_size _ _), trivial, fun b hb => ?_, hok, .of_eq none_g⟩
      cases hb
    refine codeAny_mono ((F _ kin2 (names glob)).2 callerA [] t H ⟨[.ref a], []⟩ [.ref a] [.ref a] _ _ rfl room env (binds t (.ref a)) (.cons rfl .nil) (law H seq)) ?_
    intro r s' h
    match r, h with
    | .ok (.ret u), ⟨v, H', os, bare, un, hok', rl, q⟩ =>
      have q : v = .bl true := q
      subst q
      have rl : u = Value.bool true := rl
      subst rl
      refine ⟨rfl, OldK.of_keep fun b o e => ?_, os, bare⟩
      cases z : H b with
      | none => exact un.keep b o e z (fun m => nomatch m) (fun m => nomatch m)
      | some y =>
        obtain ⟨_, _, ob, ys, rfl⟩ := only b y z
        have k1 := (hok b _ z).1
        have k2 := (hok' b _ (un.frzs b ob _ z)).1
        rw [e] at k1
        cases k1
        exact k2
  cases hk : K.lookup a with
  | none =>
    refine go (fun b => if b = a then some (.frz { cls := .type "list", data := .seq us.toArray } (.lst (ns.map V.int))) else none) (fun b o e => ?_) (.inl (.inr ⟨_, if_pos rfl⟩)) (fun b o e => ?_)
    · try dsimp only at e
      split at e
      · rename_i hb
        exact ⟨hb, hk, _, _, (Option.some.inj e).symm⟩
      · cases e
    · try dsimp only at e
      split at e
      · rename_i hb
        subst hb
        cases e
        exact ⟨at_a, by rw [List.length_map]; exact few, us, _, rel0, at_a⟩
      · cases e
  | some o =>
    have e := kin a o hk
    rw [at_a] at e
    cases e
    refine go (fun _ => none) (fun b o e => by cases e) (.inr ⟨_, us.toArray, _, hk, rfl, rfl, rfl, ?_, by simpa using rel0⟩) (fun b o e => by cases e)
    rw [List.size_toArray, its0.length]
    exact few
theorem walk_G {l : PySem.W.OpenLaw} {n k : Nat} {q : Program} {loose : List Str} {XP : (Str → Option Value) → Heap → Prop} {YP : World → Heap → Prop} {d : DefRec} {K : Params → PySem.W.Frag} {sp : World → Sp} {x : Str}
    (most : l.most = some n) (line : n ≤ sizeLine) (nodef : d.params.defaults = []) (room : Room k callerA) (parts : ∀ (w : World) (h : Heap), YP w h → (K w.params).In h)
    (F : ∀ (w : World) (mg : Str → Option Value) (fa : Addr) (h : Heap), (K w.params).In h → h.Ns mainGlobals mg → mg d.name = some (.ref fa) → ∃ fd : FuncData, (∀ (s : Shared) (u : Value), BindsTo s fd ⟨[u], []⟩ [(x, u)]) ∧
        ∀ base : Heap, (K w.params).In base → base.Ns mainGlobals mg → RunG l.prog w (K w.params) mg base k fa fd [x] (sp w))
    (law : ∀ (w : World) (H : Hp) (a : Addr) (ns : List Int), ns.length ≤ n → SqL (K w.params) H a (ns.map V.int) → sp w [.ref a] H (fun v _ => v = .bl true) fun _ _ _ => False) :
    PySem.W.WalkO q loose XP YP l.row.toRowW d [] (fun f vs => PySem.call f vs) := by
  refine Att.attach_call most nodef fun w s0 s1 mg mb fa o pm cd doc a us ns G Y _ _ _ named obj its0 len gens => ?_
  obtain ⟨fd, hb, hF⟩ := F w mg fa _ (parts w _ Y) G.T.g named
  exact law_runG (parts w _ Y) G.T.g G.T.b G.T.builtins G.T.nolimit gens obj its0 (Nat.le_trans len line) room hF hb fun H => law w H a ns len
/-! ### repr of data without dicts -/
mutual
theorem Th.dp {K : PySem.W.Frag} {H : Hp} : ∀ {v : V} {d : PyData}, Th K H v d → d.hasDict = false → Dp K H v d
  | _, _, .non, _ => .non
  | _, _, .bl b, _ => .bl b
  | _, _, .int i, _ => .int i
  | _, _, .str x, _ => .str x
  | _, _, .lst h t, n => .lst h (ThAll.dp t (by simpa only [PyData.hasDict] using n))
  | _, _, .tup h t, n => .tup h (ThAll.dp t (by simpa only [PyData.hasDict] using n))
  | _, _, .dic _, n => by simp only [PyData.hasDict] at n; cases n
theorem ThAll.dp {K : PySem.W.Frag} {H : Hp} : ∀ {vs : List V} {ds : List PyData}, ThAll K H vs ds → PyData.hasDictAll ds = false → DpAll K H vs ds
  | _, _, .nil, _ => .nil
  | _, _, .cons h t, n => by
    simp only [PyData.hasDictAll, Bool.or_eq_false_iff] at n
    exact .cons (Th.dp h n.1) (ThAll.dp t n.2)
end
/-- what may be shown: ints of few figures, not too deep, not too long -/
structure Shows (d : PyData) : Prop where
  nodict : d.hasDict = false
  able : d.showable = true
  deep : d.depth ≤ 60
  short : d.shown.length ≤ sizeLine
def rRepr (K : PySem.W.Frag) : List V → Hp → VK → Prop := fun xs H Q => ∃ x d, xs = [x] ∧ Th K H x d ∧ Shows d ∧ Q (.str d.shown) H
theorem rRepr_r {K : PySem.W.Frag} {x : V} {H : Hp} {Q : VK} : rRepr K [x] H Q = ∃ d, Th K H x d ∧ Shows d ∧ Q (.str d.shown) H := propext ⟨fun ⟨y, d, e, h⟩ => by cases e; exact ⟨d, h⟩, fun ⟨d, h⟩ => ⟨x, d, rfl, h⟩⟩
/-! ### data of small numbers -/
mutual
/-- no dict, no text, ints below 10 ** 12 -/
def smB : PyData → Bool
  | .none | .bool _ => true
  | .int i => decide (i.natAbs < 10 ^ 12)
  | .str _ | .dict _ => false
  | .list xs | .tuple xs => smAll xs
def smAll : List PyData → Bool
  | [] => true
  | x :: xs => smB x && smAll xs
end
theorem log12 {n : Nat} (h : n < 10 ^ 12) : n.log2 < 40 := by
  by_cases h0 : n = 0
  · subst h0
    decide
  · exact (Nat.log2_lt h0).mpr (Nat.lt_of_lt_of_le h (by decide))
mutual
theorem sm_facts : ∀ d : PyData, smB d = true → d.hasDict = false ∧ d.showable = true ∧ d.leavesShort 13 = true
  | .none, _ => by simp only [PyData.hasDict, PyData.showable, PyData.leavesShort, and_self]
  | .bool _, _ => by simp only [PyData.hasDict, PyData.showable, PyData.leavesShort, and_self]
  | .int i, h => by
    have h : i.natAbs < 10 ^ 12 := by simpa only [smB, decide_eq_true_eq] using h
    have h1 := log12 h
    have h2 := PyData.shown_int_le h
    simp only [PyData.hasDict, PyData.showable, PyData.leavesShort, decide_eq_true_eq, true_and]
    exact ⟨by omega, h2⟩
  | .str _, h => by simp only [smB] at h; cases h
  | .dict _, h => by simp only [smB] at h; cases h
  | .list xs, h => by
    have h1 := smAll_facts xs (by simpa only [smB] using h)
    simpa only [PyData.hasDict, PyData.showable, PyData.leavesShort] using h1
  | .tuple xs, h => by
    have h1 := smAll_facts xs (by simpa only [smB] using h)
    simpa only [PyData.hasDict, PyData.showable, PyData.leavesShort] using h1
theorem smAll_facts : ∀ ds : List PyData, smAll ds = true → PyData.hasDictAll ds = false ∧ PyData.showableAll ds = true ∧ PyData.leavesShortAll 13 ds = true
  | [], _ => by simp only [PyData.hasDictAll, PyData.showableAll, PyData.leavesShortAll, and_self]
  | x :: xs, h => by
    have h : smB x = true ∧ smAll xs = true := by simpa only [smAll, Bool.and_eq_true] using h
    obtain ⟨a1, a2, a3⟩ := sm_facts x h.1
    obtain ⟨b1, b2, b3⟩ := smAll_facts xs h.2
    simp only [PyData.hasDictAll, PyData.showableAll, PyData.leavesShortAll, a1, a2, a3, b1, b2, b3, Bool.or_self, Bool.and_self, and_self]
end
theorem bak_parts {b : Bak} (h : bakB (bakD b) = true) : (1 ≤ b.lights.length ∧ b.lights.length ≤ 40) ∧ (∀ z ∈ b.lights, numD (.int z) = true) ∧ boundB (optD b.bound) = true ∧ (1 ≤ b.goods.length ∧ b.goods.length ≤ 2) ∧
    ∀ g ∈ b.goods, g.days.length = b.lights.length ∧ lifeB (optD g.life) = true ∧ ∀ d ∈ g.days, dayB (dayD d) = true := by
  obtain ⟨ls, bo, gs, e, h1, h2, h3, h4⟩ := bakB_inv h
  unfold bakD at e
  injection e with e
  injection e with e1 e
  injection e with e2 e
  injection e with e3 e
  injection e1 with e1
  injection e3 with e3
  subst e1 e2 e3
  have l1 := Bool.and_eq_true_iff.mp h1
  have l2 := Bool.and_eq_true_iff.mp l1.1
  have l3 := Bool.and_eq_true_iff.mp h3
  have a1 := of_decide_eq_true l2.1
  have a2 := of_decide_eq_true l2.2
  have a3 := of_decide_eq_true l3.1
  have a4 := of_decide_eq_true l3.2
  rw [List.length_map] at a1 a2 a3 a4
  refine ⟨⟨a1, a2⟩, fun z hz => List.all_eq_true.mp l1.2 _ (List.mem_map.mpr ⟨z, hz, rfl⟩), h2, ⟨a3, a4⟩, fun g hg => ?_⟩
  have h5 := List.all_eq_true.mp h4 (goodD g) (List.mem_map.mpr ⟨g, hg, rfl⟩)
  obtain ⟨ds, l, e4, e5, e6, e7⟩ := goodB_inv h5
  unfold goodD at e4
  injection e4 with e4
  injection e4 with e4 e8
  injection e8 with e8 _
  injection e4 with e4
  subst e4 e8
  rw [List.length_map, List.length_map] at e5
  exact ⟨e5, e6, fun d hd => List.all_eq_true.mp e7 _ (List.mem_map.mpr ⟨d, hd, rfl⟩)⟩
end Bk

namespace Bk
open PySem PySem.Spec PyProof.Rows L2
/-! ### prices of loaves that cross -/
theorem sumO_append : ∀ {l m : List (Option Int)} {z : Int}, sumO (l ++ m) = some z → ∃ x y, sumO l = some x ∧ sumO m = some y ∧ x + y = z
  | [], m, z, h => ⟨0, z, rfl, h, Int.zero_add z⟩
  | none :: l, m, z, h => by cases h
  | some a :: l, m, z, h => by
    have h : (sumO (l ++ m)).map (a + ·) = some z := h
    cases e : sumO (l ++ m) with
    | none => rw [e] at h; cases h
    | some b =>
      rw [e] at h
      have h : a + b = z := Option.some.inj h
      obtain ⟨x, y, h1, h2, h3⟩ := sumO_append e
      refine ⟨a + x, y, ?_, h2, by omega⟩
      show (sumO l).map (a + ·) = some (a + x)
      rw [h1]
      rfl
theorem sumO_nonneg : ∀ {l : List (Option Int)} {z : Int}, (∀ o ∈ l, ∀ i, o = some i → 0 ≤ i) → sumO l = some z → 0 ≤ z
  | [], z, _, h => by
    have h : (0 : Int) = z := Option.some.inj h
    omega
  | none :: l, z, _, h => by cases h
  | some a :: l, z, hn, h => by
    have h : (sumO l).map (a + ·) = some z := h
    cases e : sumO l with
    | none => rw [e] at h; cases h
    | some b =>
      rw [e] at h
      have h : a + b = z := Option.some.inj h
      have h1 := sumO_nonneg (fun o ho => hn o (List.mem_cons_of_mem _ ho)) e
      have h2 := hn _ List.mem_cons_self a rfl
      omega
theorem seg_split {α : Type} (l : List α) {i j k : Nat} (h1 : i ≤ j) (h2 : j ≤ k) : (l.drop i).take (k - i) = (l.drop i).take (j - i) ++ (l.drop j).take (k - j) := by
  have e : k - i = (j - i) + (k - j) := by omega
  rw [e, List.take_add, List.drop_drop]
  congr 3
  omega
theorem sum_nonneg' : ∀ {l : List Int}, (∀ x ∈ l, 0 ≤ x) → 0 ≤ l.sum
  | [], _ => by decide
  | a :: r, h => by
    rw [List.sum_cons]
    have h1 := h a List.mem_cons_self
    have h2 := sum_nonneg' fun x hx => h x (List.mem_cons_of_mem _ hx)
    omega
theorem sum_append' : ∀ (l m : List Int), (l ++ m).sum = l.sum + m.sum
  | [], m => by rw [List.nil_append, List.sum_nil]; omega
  | a :: r, m => by rw [List.cons_append, List.sum_cons, List.sum_cons, sum_append' r m]; omega
theorem keepsL_split (ds : List Day) {i j k : Nat} (h1 : i ≤ j) (h2 : j ≤ k) : keepsL ds i k = keepsL ds i j + keepsL ds j k := by
  unfold keepsL
  rw [seg_split ds h1 h2, List.map_append, sum_append']
theorem finesL_split {ds : List Day} {i j k : Nat} {z : Int} (h1 : i ≤ j) (h2 : j ≤ k) (h : finesL ds i k = some z) : ∃ x y, finesL ds i j = some x ∧ finesL ds j k = some y ∧ x + y = z := by
  unfold finesL at h
  rw [seg_split ds h1 h2, List.map_append] at h
  exact sumO_append h
/-- keeps and fines are no less than 0 -/
structure NonNeg (ds : List Day) : Prop where
  keep : ∀ d ∈ ds, 0 ≤ d.keep
  fine : ∀ d ∈ ds, ∀ i, d.fine = some i → 0 ≤ i
theorem seg_mem {α : Type} {l : List α} {i n : Nat} {x : α} (h : x ∈ (l.drop i).take n) : x ∈ l := List.mem_of_mem_drop (List.mem_of_mem_take h)
theorem keepsL_nonneg {ds : List Day} (N : NonNeg ds) (i j : Nat) : 0 ≤ keepsL ds i j := sum_nonneg' fun x hx => by
  obtain ⟨d, hd, rfl⟩ := List.mem_map.mp hx
  exact N.keep d (seg_mem hd)
theorem finesL_nonneg {ds : List Day} (N : NonNeg ds) {i j : Nat} {z : Int} (h : finesL ds i j = some z) : 0 ≤ z := sumO_nonneg (fun o ho i e => by
  obtain ⟨d, hd, rfl⟩ := List.mem_map.mp ho
  exact N.fine d (seg_mem hd) i e) h
/-- what comes to the loaf price -/
def extP (g : Good) (j k : Nat) : Option Int := if k < j then finesL g.days k j else match g.life with
  | none => some (keepsL g.days j k)
  | some l => if l < (k : Int) - (j : Int) then none else some (keepsL g.days j k)
theorem loafP_ext {g : Good} {j k : Nat} {d : Day} (hd : g.days[j]? = some d) : loafP g j k = (extP g j k).map (d.loaf + ·) := by
  unfold loafP extP
  rw [hd]
  dsimp only
  by_cases h : k < j
  · rw [if_pos h, if_pos h]
  · rw [if_neg h, if_neg h]
    cases g.life with
    | none => rfl
    | some l =>
      dsimp only
      by_cases h2 : l < (k : Int) - (j : Int)
      · rw [if_pos h2, if_pos h2]
        rfl
      · rw [if_neg h2, if_neg h2]
        rfl
theorem ext_keep {g : Good} {j k : Nat} (h : j ≤ k) {z : Int} : extP g j k = some z ↔ (∀ l, g.life = some l → (k : Int) - (j : Int) ≤ l) ∧ keepsL g.days j k = z := by
  unfold extP
  rw [if_neg (by omega)]
  cases hl : g.life with
  | none => exact ⟨fun e => ⟨fun l h => (by cases h), Option.some.inj e⟩, fun e => by rw [e.2]⟩
  | some l =>
    dsimp only
    by_cases h2 : l < (k : Int) - (j : Int)
    · rw [if_pos h2]
      exact ⟨fun e => (by cases e), fun e => by have := e.1 l rfl; omega⟩
    · rw [if_neg h2]
      exact ⟨fun e => ⟨fun l' h' => (by cases h'; omega), Option.some.inj e⟩, fun e => by rw [e.2]⟩
theorem ext_fine {g : Good} {j k : Nat} (h : k < j) {z : Int} : extP g j k = some z ↔ finesL g.days k j = some z := by
  unfold extP
  rw [if_pos h]
theorem ext_cross {g : Good} (N : NonNeg g.days) {a c e l : Nat} (hac : a < c) (hel : e < l) {x y : Int} (h1 : extP g a l = some x) (h2 : extP g c e = some y) : ∃ z t, extP g a e = some z ∧ extP g c l = some t ∧ z + t ≤ x + y := by
  by_cases hal : a ≤ l
  · obtain ⟨hlf, hk1⟩ := (ext_keep hal).mp h1
    by_cases hce : c ≤ e
    · -- all ahead
      obtain ⟨_, hk2⟩ := (ext_keep hce).mp h2
      refine ⟨_, _, (ext_keep (by omega)).mpr ⟨fun m hm => by have := hlf m hm; omega, rfl⟩, (ext_keep (by omega)).mpr ⟨fun m hm => by have := hlf m hm; omega, rfl⟩, ?_⟩
      have e1 := keepsL_split g.days (show a ≤ c by omega) hce
      have e2 := keepsL_split g.days (show a ≤ c by omega) (show c ≤ l by omega)
      omega
    · have hf := (ext_fine (show e < c by omega)).mp h2
      by_cases hae : a ≤ e
      · by_cases hcl : c ≤ l
        · refine ⟨_, _, (ext_keep hae).mpr ⟨fun m hm => by have := hlf m hm; omega, rfl⟩, (ext_keep hcl).mpr ⟨fun m hm => by have := hlf m hm; omega, rfl⟩, ?_⟩
          have e1 := keepsL_split g.days hae (show e ≤ l by omega)
          have e2 := keepsL_split g.days (show e ≤ c by omega) hcl
          have n1 := keepsL_nonneg N e c
          have n2 := finesL_nonneg N hf
          omega
        · obtain ⟨u, v, f1, f2, f3⟩ := finesL_split (show e ≤ l by omega) (show l ≤ c by omega) hf
          refine ⟨_, _, (ext_keep hae).mpr ⟨fun m hm => by have := hlf m hm; omega, rfl⟩, (ext_fine (by omega)).mpr f2, ?_⟩
          have e1 := keepsL_split g.days hae (show e ≤ l by omega)
          have n1 := keepsL_nonneg N e l
          have n2 := finesL_nonneg N f1
          omega
      · obtain ⟨u, v, f1, f2, f3⟩ := finesL_split (show e ≤ a by omega) (show a ≤ c by omega) hf
        by_cases hcl : c ≤ l
        · refine ⟨_, _, (ext_fine (by omega)).mpr f1, (ext_keep hcl).mpr ⟨fun m hm => by have := hlf m hm; omega, rfl⟩, ?_⟩
          have e1 := keepsL_split g.days (show a ≤ c by omega) hcl
          have n1 := keepsL_nonneg N a c
          have n2 := finesL_nonneg N f2
          omega
        · obtain ⟨u2, v2, k1, k2, k3⟩ := finesL_split (show e ≤ l by omega) (show l ≤ c by omega) hf
          obtain ⟨u3, v3, m1, m2, m3⟩ := finesL_split (show e ≤ a by omega) hal k1
          have e3 : u = u3 := Option.some.inj (f1.symm.trans m1)
          refine ⟨_, _, (ext_fine (by omega)).mpr f1, (ext_fine (by omega)).mpr k2, ?_⟩
          have n1 := keepsL_nonneg N a l
          have n2 := finesL_nonneg N m2
          omega
  · have hf1 := (ext_fine (show l < a by omega)).mp h1
    have hf2 := (ext_fine (show e < c by omega)).mp h2
    obtain ⟨u, v, f1, f2, f3⟩ := finesL_split (show e ≤ a by omega) (show a ≤ c by omega) hf2
    obtain ⟨u2, v2, k1, k2, k3⟩ := finesL_split (show e ≤ l by omega) (show l ≤ c by omega) hf2
    obtain ⟨u3, v3, m1, m2, m3⟩ := finesL_split (show e ≤ l by omega) (show l ≤ a by omega) f1
    refine ⟨_, _, (ext_fine (by omega)).mpr f1, (ext_fine (by omega)).mpr k2, ?_⟩
    have e1 : u2 = u3 := Option.some.inj (k1.symm.trans m1)
    have e2 : v3 = x := Option.some.inj (m2.symm.trans hf1)
    omega
theorem loaf_cross {g : Good} (N : NonNeg g.days) {a c e l : Nat} (hac : a < c) (hel : e < l) (hc : c < g.days.length) {x y : Int} (h1 : loafP g a l = some x) (h2 : loafP g c e = some y) : ∃ z t, loafP g a e = some z ∧ loafP g c l = some t ∧ z + t ≤ x + y := by
  have da : g.days[a]? = some (g.days[a]'(by omega)) := List.getElem?_eq_getElem (by omega)
  have dc : g.days[c]? = some g.days[c] := List.getElem?_eq_getElem hc
  rw [loafP_ext da] at h1
  rw [loafP_ext dc] at h2
  cases e1 : extP g a l with
  | none => rw [e1] at h1; cases h1
  | some x' =>
    cases e2 : extP g c e with
    | none => rw [e2] at h2; cases h2
    | some y' =>
      rw [e1] at h1
      rw [e2] at h2
      have h1 := Option.some.inj h1
      have h2 := Option.some.inj h2
      obtain ⟨z, t, q1, q2, q3⟩ := ext_cross N hac hel e1 e2
      refine ⟨_, _, by rw [loafP_ext da, q1]; rfl, by rw [loafP_ext dc, q2]; rfl, ?_⟩
      dsimp only at h1 h2 ⊢
      omega
theorem rNin_r {K : PySem.W.Frag} {x : V} {p : Addr} {H : Hp} {Q : VK} : rIn K true x (.ref p) H Q = ∃ xs, (SqL K H p xs ∨ SqT K H p xs) ∧ flatV x = true ∧ xs.all flatV = true ∧ Q (.bl (!inV x xs)) H :=
  propext ⟨fun ⟨_, xs, e, h⟩ => by cases e; exact ⟨xs, h⟩, fun ⟨xs, h⟩ => ⟨p, xs, rfl, h⟩⟩
end Bk

namespace Bk
open PySem PySem.Spec PyProof.Rows L2
/-! ### ranges as values -/
def rRg1 : List V → Hp → VK → Prop := fun vs H Q => ∃ j, vs = [V.int j] ∧ ∀ p, H p = none → Q (.ref p) (upd H p (.rng 0 j))
def rRg2 : List V → Hp → VK → Prop := fun vs H Q => ∃ i j, vs = [V.int i, V.int j] ∧ ∀ p, H p = none → Q (.ref p) (upd H p (.rng i j))
theorem rRg1_i {j : Int} {H : Hp} {Q : VK} : rRg1 [.int j] H Q = ∀ p, H p = none → Q (.ref p) (upd H p (.rng 0 j)) := propext ⟨fun ⟨_, e, h⟩ => by cases e; exact h, fun h => ⟨j, rfl, h⟩⟩
theorem rRg2_i {i j : Int} {H : Hp} {Q : VK} : rRg2 [.int i, .int j] H Q = ∀ p, H p = none → Q (.ref p) (upd H p (.rng i j)) := propext ⟨fun ⟨_, _, e, h⟩ => by cases e; exact h, fun h => ⟨i, j, rfl, h⟩⟩
def rInr : R2 := fun x y H Q => ∃ i a lo hi, x = V.int i ∧ y = V.ref a ∧ H a = some (.rng lo hi) ∧ Q (.bl (decide (lo ≤ i ∧ i < hi))) H
theorem rInr_r {i : Int} {a : Addr} {H : Hp} {Q : VK} : rInr (.int i) (.ref a) H Q = ∃ lo hi, H a = some (.rng lo hi) ∧ Q (.bl (decide (lo ≤ i ∧ i < hi))) H := propext ⟨fun ⟨_, _, lo, hi, e1, e2, h⟩ => by cases e1; cases e2; exact ⟨lo, hi, h⟩, fun ⟨lo, hi, h⟩ => ⟨i, a, lo, hi, rfl, rfl, h⟩⟩
theorem ipI_ii {f : Int → Int → Int} {i j : Int} {H : Hp} {Q : VK} : ipI f (.int i) (.int j) H Q = Q (.int (f i j)) H := propext ⟨fun ⟨_, _, e1, e2, h⟩ => by cases e1; cases e2; exact h, fun h => ⟨i, j, rfl, rfl, h⟩⟩
theorem lay_ints : ∀ ns : List Int, PyData.canLayAll0 (ns.map PyData.int) = true
  | [] => by simp only [List.map, PyData.canLayAll0]
  | n :: r => by simp only [List.map, PyData.canLayAll0, PyData.canLay0, lay_ints r, Bool.and_self]
theorem depth_ints : ∀ ns : List Int, PyData.depthAll (ns.map PyData.int) = 0
  | [] => by simp only [List.map, PyData.depthAll]
  | n :: r => by simp only [List.map, PyData.depthAll, PyData.depth, depth_ints r]; decide
theorem shaped_ints (ns : List Int) : SeqAt.shaped (.list (ns.map PyData.int)) = true := by
  simp only [SeqAt.shaped, PyData.canLay0, lay_ints, PyData.depth, depth_ints, Bool.true_and]
  decide
theorem dp_ints {K : PySem.W.Frag} {H : Hp} : ∀ ns : List Int, DpAll K H (ns.map V.int) (ns.map PyData.int)
  | [] => .nil
  | n :: r => .cons (.int n) (dp_ints r)
/-! ### prices of stretches, and reaches -/
def wantP (g : Good) (j k : Nat) : Option Int := match g.days[k]? with
  | none => none
  | some d => if d.want = 0 then some 0 else (loafP g j k).map (d.want * ·)
def stretchP (g : Good) (j f n : Nat) : Option Int := sumO ((List.range n).map fun i => wantP g j (f + i))
theorem sumO_snoc (l : List (Option Int)) (o : Option Int) : sumO (l ++ [o]) = match sumO l, o with
    | some x, some y => some (x + y)
    | _, _ => none := by
  induction l with
  | nil =>
    cases o with
    | none => rfl
    | some y =>
      show some (y + 0) = some (0 + y)
      rw [Int.add_zero, Int.zero_add]
  | cons a r ih =>
    cases a with
    | none => rfl
    | some a =>
      show (sumO (r ++ [o])).map (a + ·) = _
      rw [ih]
      show _ = match (sumO r).map (a + ·), o with
        | some x, some y => some (x + y)
        | _, _ => none
      cases sumO r with
      | none => rfl
      | some x =>
        cases o with
        | none => rfl
        | some y =>
          show some (a + (x + y)) = some (a + x + y)
          rw [Int.add_assoc]
def reachF (g : Good) (k : Nat) : Int := match g.life with
  | none => 0
  | some l => if (k : Int) - l > 0 then (k : Int) - l else 0
/-- last is the last day of the reach -/
structure ReachL (g : Good) (k last : Nat) : Prop where
  le : k ≤ last
  lt : last < g.days.length
  fine : ∃ z, finesL g.days k last = some z
  stop : last + 1 < g.days.length → ∃ d, g.days[last]? = some d ∧ d.fine = none
theorem sumO_join' : ∀ {l m : List (Option Int)} {x y : Int}, sumO l = some x → sumO m = some y → sumO (l ++ m) = some (x + y)
  | [], m, x, y, h1, h2 => by
    have h1 : (0 : Int) = x := Option.some.inj h1
    rw [← h1, Int.zero_add]
    exact h2
  | none :: l, m, x, y, h1, h2 => by cases h1
  | some a :: l, m, x, y, h1, h2 => by
    have h1 : (sumO l).map (a + ·) = some x := h1
    cases e : sumO l with
    | none => rw [e] at h1; cases h1
    | some b =>
      rw [e] at h1
      have h1 : a + b = x := Option.some.inj h1
      show (sumO (l ++ m)).map (a + ·) = some (x + y)
      rw [sumO_join' e h2]
      show some (a + (b + y)) = some (x + y)
      rw [← h1, Int.add_assoc]
end Bk

namespace Bk
open PySem PySem.Spec PyProof.Rows L2
/-! ### the row of least costs: what it is -/
/-- from the m first days' end back: the least of row f + cost + the prices from f to m -/
def lbo (row : Nat → Int) (w : Nat → Option Int) : Nat → Int → Option Int → Option Int
  | 0, _, least => least
  | m + 1, cost, least => match w m with
    | none => least
    | some p => lbo row w m (cost + p) (some (match least with
      | none => row m + (cost + p)
      | some l => if row m + (cost + p) < l then row m + (cost + p) else l))
def segP (w : Nat → Option Int) (f n : Nat) : Option Int := sumO ((List.range n).map fun i => w (f + i))
theorem segP_zero (w : Nat → Option Int) (f : Nat) : segP w f 0 = some 0 := rfl
theorem segP_succ {w : Nat → Option Int} {f n : Nat} {s : Int} (h : segP w f (n + 1) = some s) : ∃ x y, segP w f n = some x ∧ w (f + n) = some y ∧ s = x + y := by
  unfold segP at h
  rw [List.range_succ, List.map_append] at h
  have h := (sumO_snoc _ _).symm.trans h
  cases e1 : sumO ((List.range n).map fun i => w (f + i)) with
  | none =>
    rw [e1] at h
    cases h
  | some x =>
    rw [e1] at h
    have h : (match some x, w (f + n) with
      | some x, some y => some (x + y)
      | _, _ => none) = some s := h
    cases e2 : w (f + n) with
    | none =>
      rw [e2] at h
      cases h
    | some y =>
      rw [e2] at h
      exact ⟨x, y, e1, rfl, (Option.some.inj h).symm⟩
theorem segP_add {w : Nat → Option Int} {f n : Nat} {x y : Int} (h1 : segP w f n = some x) (h2 : w (f + n) = some y) : segP w f (n + 1) = some (x + y) := by
  unfold segP at h1 ⊢
  rw [List.range_succ, List.map_append]
  refine (sumO_snoc _ _).trans ?_
  rw [h1]
  show (match some x, w (f + n) with
      | some x, some y => some (x + y)
      | _, _ => none) = _
  rw [h2]
theorem lbo_from {row : Nat → Int} {w : Nat → Option Int} : ∀ (m : Nat) (cost : Int) (least : Option Int) (v : Int), lbo row w m cost least = some v → least = some v ∨ ∃ f s, f < m ∧ segP w f (m - f) = some s ∧ v = row f + cost + s
  | 0, cost, least, v, h => .inl h
  | m + 1, cost, least, v, h => by
    unfold lbo at h
    cases hw : w m with
    | none =>
      rw [hw] at h
      exact .inl h
    | some p =>
      rw [hw] at h
      have base : segP w m (m + 1 - m) = some p := by
        rw [show m + 1 - m = 0 + 1 by omega]
        have := segP_add (segP_zero w m) (show w (m + 0) = some p from hw)
        rw [this, Int.zero_add]
      rcases lbo_from m (cost + p) _ v h with e | ⟨f, s, hf, hs, e⟩
      · have e := Option.some.inj e
        cases least with
        | none => exact .inr ⟨m, p, by omega, base, by dsimp only at e; omega⟩
        | some l =>
          dsimp only at e
          split at e
          · exact .inr ⟨m, p, by omega, base, by omega⟩
          · exact .inl (congrArg some e)
      · refine .inr ⟨f, s + p, by omega, ?_, by omega⟩
        rw [show m + 1 - f = (m - f) + 1 by omega]
        exact segP_add hs (by rw [show f + (m - f) = m by omega]; exact hw)
theorem lbo_keep {row : Nat → Int} {w : Nat → Option Int} : ∀ (m : Nat) (cost : Int) (l : Int), ∃ v, lbo row w m cost (some l) = some v ∧ v ≤ l
  | 0, cost, l => ⟨l, rfl, Int.le_refl _⟩
  | m + 1, cost, l => by
    unfold lbo
    cases hw : w m with
    | none => exact ⟨l, rfl, Int.le_refl _⟩
    | some p =>
      obtain ⟨v, h1, h2⟩ := lbo_keep (row := row) (w := w) m (cost + p) (if row m + (cost + p) < l then row m + (cost + p) else l)
      refine ⟨v, h1, ?_⟩
      split at h2 <;> omega
theorem lbo_least {row : Nat → Int} {w : Nat → Option Int} : ∀ (m : Nat) (cost : Int) (least : Option Int) (f : Nat) (s : Int), f < m → segP w f (m - f) = some s → ∃ v, lbo row w m cost least = some v ∧ v ≤ row f + cost + s
  | 0, _, _, f, _, hf, _ => by omega
  | m + 1, cost, least, f, s, hf, hs => by
    rw [show m + 1 - f = (m - f) + 1 by omega] at hs
    obtain ⟨x, y, h1, h2, h3⟩ := segP_succ hs
    rw [show f + (m - f) = m by omega] at h2
    unfold lbo
    rw [h2]
    dsimp only
    by_cases hfm : f < m
    · obtain ⟨v, e1, e2⟩ := lbo_least m (cost + y) (some (match least with
        | none => row m + (cost + y)
        | some l => if row m + (cost + y) < l then row m + (cost + y) else l)) f x hfm h1
      exact ⟨v, e1, by omega⟩
    · have hfm : f = m := by omega
      subst hfm
      rw [Nat.sub_self] at h1
      have h1 : (0 : Int) = x := Option.some.inj h1
      obtain ⟨v, e1, e2⟩ := lbo_keep (row := row) (w := w) f (cost + y) (match least with
        | none => row f + (cost + y)
        | some l => if row f + (cost + y) < l then row f + (cost + y) else l)
      refine ⟨v, e1, ?_⟩
      cases least with
      | none =>
        dsimp only at e2
        omega
      | some l =>
        dsimp only at e2
        split at e2 <;> omega
/-- v is the cost of a choice for the m + 1 first days: a stretch from f on, baked on b, behind the f first days; or nothing wanted on day m -/
def Choice (g : Good) (lights row : Nat → Int) (m : Nat) (v : Int) : Prop := (∃ b f s, b ≤ m ∧ f ≤ m ∧ segP (wantP g b) f (m + 1 - f) = some s ∧ v = row f + lights b + s) ∨ ((∃ d, g.days[m]? = some d ∧ d.want = 0) ∧ v = row m)
structure IsRow (g : Good) (lights row : Nat → Int) (n : Nat) : Prop where
  zero : row 0 = 0
  some : ∀ m, m < n → Choice g lights row m (row (m + 1))
  least : ∀ m, m < n → ∀ v, Choice g lights row m v → row (m + 1) ≤ v
theorem IsRow.ext {g : Good} {lights row row' : Nat → Int} {n : Nat} (h : IsRow g lights row n) (h' : IsRow g lights row' n) : ∀ m, m ≤ n → row m = row' m := by
  intro m
  induction m using Nat.strongRecOn with
  | ind m ih =>
    intro hm
    cases m with
    | zero => rw [h.zero, h'.zero]
    | succ m =>
      have tr : ∀ v, Choice g lights row m v ↔ Choice g lights row' m v := by
        intro v
        have e : ∀ f, f ≤ m → row f = row' f := fun f hf => ih f (by omega) (by omega)
        constructor
        · rintro (⟨b, f, s, h1, h2, h3, h4⟩ | ⟨h1, h2⟩)
          · exact .inl ⟨b, f, s, h1, h2, h3, by rw [← e f h2]; exact h4⟩
          · exact .inr ⟨h1, by rw [← e m (by omega)]; exact h2⟩
        · rintro (⟨b, f, s, h1, h2, h3, h4⟩ | ⟨h1, h2⟩)
          · exact .inl ⟨b, f, s, h1, h2, h3, by rw [e f h2]; exact h4⟩
          · exact .inr ⟨h1, by rw [e m (by omega)]; exact h2⟩
      have a := h.least m (by omega) _ ((tr _).mpr (h'.some m (by omega)))
      have b := h'.least m (by omega) _ ((tr _).mp (h.some m (by omega)))
      omega
/-! ### days added -/
theorem seg_take {α : Type} (l : List α) {i k j : Nat} (h : k ≤ j) : ((l.take j).drop i).take (k - i) = (l.drop i).take (k - i) := by
  rw [List.drop_take, List.take_take]
  congr 1
  omega
theorem loafP_take {g : Good} {j b k : Nat} (hb : b < j) (hk : k < j) : loafP ⟨g.days.take j, g.life⟩ b k = loafP g b k := by
  unfold loafP
  rw [List.getElem?_take_of_lt hb]
  cases g.days[b]? with
  | none => rfl
  | some d =>
    dsimp only
    have e1 : finesL (g.days.take j) k b = finesL g.days k b := by
      unfold finesL
      rw [seg_take g.days (show b ≤ j by omega)]
    have e2 : keepsL (g.days.take j) b k = keepsL g.days b k := by
      unfold keepsL
      rw [seg_take g.days (show k ≤ j by omega)]
    rw [e1, e2]
theorem wantP_take {g : Good} {j b k : Nat} (hb : b < j) (hk : k < j) : wantP ⟨g.days.take j, g.life⟩ b k = wantP g b k := by
  unfold wantP
  rw [loafP_take hb hk]
  dsimp only
  rw [List.getElem?_take_of_lt hk]
theorem segP_take {g : Good} {j b f n : Nat} (hb : b < j) (hn : f + n ≤ j) : segP (wantP ⟨g.days.take j, g.life⟩ b) f n = segP (wantP g b) f n := by
  unfold segP
  congr 1
  apply List.map_congr_left
  intro i hi
  have := List.mem_range.mp hi
  exact wantP_take hb (by omega)
theorem Choice.take {g : Good} {lights row : Nat → Int} {j m : Nat} (hm : m < j) {v : Int} : Choice ⟨g.days.take j, g.life⟩ lights row m v ↔ Choice g lights row m v := by
  have e : ∀ b f, b ≤ m → f ≤ m → segP (wantP ⟨g.days.take j, g.life⟩ b) f (m + 1 - f) = segP (wantP g b) f (m + 1 - f) := fun b f h1 h2 => segP_take (by omega) (by omega)
  have ed : (g.days.take j)[m]? = g.days[m]? := List.getElem?_take_of_lt hm
  constructor
  · rintro (⟨b, f, s, h1, h2, h3, h4⟩ | ⟨⟨d, h1, h1'⟩, h2⟩)
    · exact .inl ⟨b, f, s, h1, h2, by rw [← e b f h1 h2]; exact h3, h4⟩
    · exact .inr ⟨⟨d, by rw [← ed]; exact h1, h1'⟩, h2⟩
  · rintro (⟨b, f, s, h1, h2, h3, h4⟩ | ⟨⟨d, h1, h1'⟩, h2⟩)
    · exact .inl ⟨b, f, s, h1, h2, by rw [e b f h1 h2]; exact h3, h4⟩
    · exact .inr ⟨⟨d, by show (g.days.take j)[m]? = _; rw [ed]; exact h1, h1'⟩, h2⟩
theorem IsRow.take {g : Good} {lights row : Nat → Int} {n j : Nat} (h : IsRow g lights row n) (hj : j ≤ n) : IsRow ⟨g.days.take j, g.life⟩ lights row j :=
  ⟨h.zero, fun m hm => (Choice.take hm).mpr (h.some m (by omega)), fun m hm v hv => h.least m (by omega) v ((Choice.take hm).mp hv)⟩
theorem wantP_own {g : Good} {m : Nat} {d : Day} (hd : g.days[m]? = some d) (hl : ∀ l, g.life = some l → 0 ≤ l) : wantP g m m = some (d.want * d.loaf) := by
  unfold wantP
  rw [hd]
  dsimp only
  by_cases hw : d.want = 0
  · rw [if_pos hw, hw, Int.zero_mul]
  · rw [if_neg hw, loafP_ext hd, (ext_keep (Nat.le_refl m)).mpr ⟨fun l e => by have := hl l e; omega, rfl⟩]
    show some (d.want * (d.loaf + keepsL g.days m m)) = _
    have e : keepsL g.days m m = 0 := by unfold keepsL; rw [Nat.sub_self]; rfl
    rw [e, Int.add_zero]
theorem Choice.congr {g : Good} {lights row row' : Nat → Int} {m : Nat} {v : Int} (e : ∀ f, f ≤ m → row f = row' f) (h : Choice g lights row m v) : Choice g lights row' m v := by
  rcases h with ⟨b, f, s, h1, h2, h3, h4⟩ | ⟨h1, h2⟩
  · exact .inl ⟨b, f, s, h1, h2, h3, by rw [← e f h2]; exact h4⟩
  · exact .inr ⟨h1, by rw [← e m (Nat.le_refl m)]; exact h2⟩
def rowF (rs : List Int) (i : Nat) : Int := rs.getD i 0
theorem rowF_snoc {rs : List Int} {v : Int} {f : Nat} (h : f < rs.length) : rowF (rs ++ [v]) f = rowF rs f := by
  unfold rowF
  rw [List.getD_eq_getElem?_getD, List.getD_eq_getElem?_getD, List.getElem?_append_left h]
theorem rowF_last {rs : List Int} {v : Int} {n : Nat} (h : rs.length = n) : rowF (rs ++ [v]) n = v := by
  unfold rowF
  rw [List.getD_eq_getElem?_getD, List.getElem?_append_right (by omega), h, Nat.sub_self]
  rfl
theorem rowF_get {rs : List Int} {f : Nat} (h : f < rs.length) : (rs.map V.int)[f]? = some (.int (rowF rs f)) := by
  unfold rowF
  rw [List.getElem?_map, List.getD_eq_getElem?_getD, List.getElem?_eq_getElem h]
  rfl
theorem IsRow.snoc {g : Good} {lights : Nat → Int} {rs : List Int} {n : Nat} {v : Int} (h : IsRow g lights (rowF rs) n) (hl : rs.length = n + 1) (hc : Choice g lights (rowF rs) n v) (hm : ∀ u, Choice g lights (rowF rs) n u → v ≤ u) : IsRow g lights (rowF (rs ++ [v])) (n + 1) := by
  have e : ∀ f, f ≤ n → rowF rs f = rowF (rs ++ [v]) f := fun f hf => (rowF_snoc (by omega)).symm
  have e' : ∀ f, f ≤ n → rowF (rs ++ [v]) f = rowF rs f := fun f hf => rowF_snoc (by omega)
  refine ⟨by rw [e' 0 (by omega)]; exact h.zero, fun m hmn => ?_, fun m hmn u hu => ?_⟩
  · by_cases hlt : m < n
    · rw [e' (m + 1) (by omega)]
      exact (h.some m hlt).congr fun f hf => e f (by omega)
    · have : m = n := by omega
      subst this
      rw [rowF_last hl]
      exact hc.congr e
  · by_cases hlt : m < n
    · rw [e' (m + 1) (by omega)]
      exact h.least m hlt u (hu.congr fun f hf => e' f (by omega))
    · have : m = n := by omega
      subst this
      rw [rowF_last hl]
      exact hm u (hu.congr e')
theorem IsRow.init (g : Good) (lights : Nat → Int) : IsRow g lights (rowF [0]) 0 := ⟨rfl, fun m h => by omega, fun m h => by omega⟩
/-! ### the least of the costs of each day of baking -/
def lbos (row lights : Nat → Int) (w : Nat → Nat → Option Int) (m c : Nat) : List (Option Int) := (List.range c).map fun b => lbo row (w b) (m + 1) (lights b) none
/-- a last stretch of the first m + 1 days, baked on one of the first c days -/
def ChC (row lights : Nat → Int) (w : Nat → Nat → Option Int) (c m : Nat) (v : Int) : Prop := ∃ b f s, b < c ∧ f ≤ m ∧ segP (w b) f (m + 1 - f) = some s ∧ v = row f + lights b + s
theorem lbos_mem {row lights : Nat → Int} {w : Nat → Nat → Option Int} {m c : Nat} {v : Int} (h : v ∈ (lbos row lights w m c).filterMap id) : ChC row lights w c m v := by
  obtain ⟨o, ho, e⟩ := List.mem_filterMap.mp h
  have e : o = some v := e
  subst e
  obtain ⟨b, hb, e⟩ := List.mem_map.mp ho
  have hb := List.mem_range.mp hb
  rcases lbo_from _ _ _ _ e with z | ⟨f, s, hf, hs, hv⟩
  · cases z
  · exact ⟨b, f, s, by omega, by omega, hs, hv⟩
theorem lbos_least {row lights : Nat → Int} {w : Nat → Nat → Option Int} {m c : Nat} {u : Int} (h : ChC row lights w c m u) : ∃ v, v ∈ (lbos row lights w m c).filterMap id ∧ v ≤ u := by
  obtain ⟨b, f, s, hb, hf, hs, hu⟩ := h
  obtain ⟨v, h1, h2⟩ := lbo_least (row := row) (w := w b) (m + 1) (lights b) none f s (by omega) hs
  exact ⟨v, List.mem_filterMap.mpr ⟨some v, List.mem_map.mpr ⟨b, List.mem_range.mpr (by omega), h1⟩, rfl⟩, by omega⟩
theorem own_chC {g : Good} {lights row : Nat → Int} {c m : Nat} {d : Day} (hc : m < c) (hd : g.days[m]? = some d) (hl : ∀ l, g.life = some l → 0 ≤ l) : ChC row lights (wantP g) c m (row m + lights m + d.want * d.loaf) := by
  refine ⟨m, m, _, hc, Nat.le_refl _, ?_, rfl⟩
  rw [show m + 1 - m = 0 + 1 by omega]
  have := segP_add (segP_zero (wantP g m) m) (show wantP g m (m + 0) = some (d.want * d.loaf) from wantP_own hd hl)
  rw [this, Int.zero_add]
theorem chC_choice {g : Good} {lights row : Nat → Int} {m : Nat} {v : Int} (h : ChC row lights (wantP g) (m + 1) m v) : Choice g lights row m v := by
  obtain ⟨b, f, s, hb, hf, hs, hv⟩ := h
  exact .inl ⟨b, f, s, by omega, hf, hs, hv⟩
theorem choice_chC {g : Good} {lights row : Nat → Int} {m : Nat} {v : Int} (h : Choice g lights row m v) : ChC row lights (wantP g) (m + 1) m v ∨ v = row m := by
  rcases h with ⟨b, f, s, hb, hf, hs, hv⟩ | ⟨_, h⟩
  · exact .inl ⟨b, f, s, by omega, hf, hs, hv⟩
  · exact .inr h
theorem choice_not {g : Good} {lights row : Nat → Int} {m : Nat} {d : Day} (hd : g.days[m]? = some d) (hw : d.want ≠ 0) {v : Int} (h : Choice g lights row m v) : ChC row lights (wantP g) (m + 1) m v := by
  rcases h with ⟨b, f, s, hb, hf, hs, hv⟩ | ⟨⟨d', h1, h2⟩, _⟩
  · exact ⟨b, f, s, by omega, hf, hs, hv⟩
  · rw [hd] at h1
    cases h1
    exact absurd h2 hw
end Bk

namespace Bk
open PySem PySem.Spec PyProof.Rows L2
theorem rMin_r {K : PySem.W.Frag} {p : Addr} {H : Hp} {Q : VK} : rMin K [.ref p] H Q = ∃ ns : List Int, SqL K H p (ns.map V.int) ∧ 0 < ns.length ∧ ∀ m, m ∈ ns → (∀ y, y ∈ ns → m ≤ y) → Q (.int m) H := propext ⟨fun ⟨a, bs, e, h⟩ => by cases e; exact ⟨bs, h⟩, fun ⟨bs, h⟩ => ⟨p, bs, rfl, h⟩⟩
def lcScope (d : Scope) (l : List Stmt) (i : Nat) : Scope := match l[i]? with
  | some (.Assign _ (.ListComp _ _ sc _) _) => sc
  | _ => d
/-- a comprehension that leaves the Nones out -/
theorem LcR.opts {K : PySem.W.Frag} {a : Addr} {te : TE} {tt : TT} {g : TG} {vs : List Nat} {σ : L2.St} {H1 : Hp} {D : Addr} {Qd : Hp → Prop} (os : List (Option Int)) (hD : H1 D = none) (hl : SqL K H1 a (os.map optV)) (hz : os.length ≤ 1000)
    (hs : ∀ (o : Option Int) (H : Hp) (R : Bool → Hp → (V → Hp → Prop) → Prop), True → ∀ (N : Hp → Prop) (M : V → Hp → Prop), (o = none → N H) → (∀ z, o = some z → M (.int z) H) → g (optV o) (wipe σ vs) H fun σ2 H2 => wipe σ2 vs = wipe σ vs ∧ tt σ2 H2 fun b H3 => if b = true then te σ2 H3 M else N H3)
    (hd : ∀ H, Same H1 H → H D = some (.lst ((os.filterMap id).map V.int)) → Qd H) : LcR (Itl K a) g tt te vs σ D H1 Qd := by
  have e0 : (os.map optV).length = os.length := List.length_map ..
  refine LcR.by (walk_list (xs := os.map optV)) (fun i H => Same H1 H ∧ H D = some (.lst (((os.take i).filterMap id).map V.int))) ⟨same_upd hD, by rw [upd_same]; rfl⟩ (fun i H _ h => h.1.seq hl) (fun i x H H' hi h y => ?_) (fun H h => hd H h.1 ?_)
  · obtain ⟨rfl, hx⟩ := y
    rw [List.getElem?_map] at hx
    obtain ⟨s, e⟩ := h
    cases ho : os[i]? with
    | none => rw [ho] at hx; cases hx
    | some o =>
      rw [ho] at hx
      cases hx
      refine hs o _ (fun _ _ _ => True) trivial _ _ (fun hn => ⟨s, ?_⟩) (fun z hz' => ⟨_, e, ?_, same_mut s hD, ?_⟩)
      · rw [e, List.take_add_one, ho, hn]
        simp
      · have h1 : ((os.take i).filterMap id).length ≤ (os.take i).length := List.length_filterMap_le ..
        rw [List.length_take] at h1
        rw [List.length_map]
        exact sz100l (by omega)
      · rw [upd_same, List.take_add_one, ho, hz']
        simp
  · rw [e0, List.take_length] at h
    exact h.2
theorem ThAll.intsV {K : PySem.W.Frag} {H : Hp} : ∀ {xs : List V} {ns : List Int}, ThAll K H xs (ns.map PyData.int) → xs = ns.map V.int
  | _, [], .nil => rfl
  | _, n :: r, .cons (.int _) t => by rw [ThAll.intsV t]; rfl
theorem life_ok {g : Good} (h : lifeB (optD g.life) = true) : ∀ l, g.life = some l → 0 ≤ l := by
  intro l e
  rw [e] at h
  simp only [optD, lifeB, Bool.and_eq_true, decide_eq_true_eq] at h
  exact h.1
theorem rgV_zero (m : Nat) : rgV 0 (m : Int) = (List.range m).map fun j : Nat => V.int (j : Int) := by
  unfold rgV
  rw [show ((m : Int) - 0).toNat = m by omega]
  apply List.map_congr_left
  intro i _
  rw [Int.zero_add]
end Bk

/-! an own error class over ValueError whose __init__ begins with super().__init__(..) -/
namespace Bk
open PySem PySem.Spec PyProof.Rows L2
/-- what the written part says, besides OexC, of such a class at C and of its __init__, with the cell cc and the code cda -/
structure SupC (P : Program) (K : PySem.W.Frag) (C cc cda : Addr) : Prop where
  code : ∃ ccl cdd vs ccs file tf, K.lookup cda = some ⟨ccl, cdd, .fields vs, ccs⟩ ∧ vs[2]? = some (.str file tf) ∧ ((P.main.file : Str) == file) = true
  cell : ∃ cl cld csl, K.lookup cc = some ⟨cl, cld, .cell (some (.ref C)), csl⟩
  sup : PySem.W.ks_superIn K C C "__init__" = some (some (.builtin "ValueError.__init__"))
  mro : PySem.W.mroIn K C (.ref C) = some true
  sub : PySem.W.subIn K (.ref C) (.type "ValueError") = some true
  super : PySem.W.nsIn K mainGlobals "super" = some none
  opq : PySem.W.nsIn K cStatics "thirdparty.any" = some none
  top : (P.main.scope.names.lookup ("super" : Str)).isSome = false
section
open NdefX
variable {CX : CXT} {P : Program} {w : World} {K : PySem.W.Frag} {mg : Str → Option Value} {base : Heap} {N pr : List Str} {f C cc cda : Addr} {k : Nat} {sp : Sp}
  {qual : Str} {params : Arguments} {scope : Scope} {dV kV doc pm ct oc : Value} {an od : Option Addr} {osl : Array (Option Value)} {e : Expr} {es : List Expr} {rest : List Stmt} {p0 p1 p2 pos posE pa : Pos} {ann : Option Expr} {more : List Arg}
end
end Bk

namespace Bk
open PySem PySem.Spec PyProof.Rows L2
/-! ### rows rise where nothing may wait -/
structure NonNegW (ds : List Day) : Prop where
  nn : NonNeg ds
  want : ∀ d ∈ ds, 0 ≤ d.want
  loaf : ∀ d ∈ ds, 0 ≤ d.loaf
theorem loafP_nonneg {g : Good} (N : NonNegW g.days) {b k : Nat} {z : Int} (h : loafP g b k = some z) : 0 ≤ z := by
  cases hd : g.days[b]? with
  | none =>
    unfold loafP at h
    rw [hd] at h
    cases h
  | some d =>
    rw [loafP_ext hd] at h
    have h0 := N.loaf d (List.mem_of_getElem? hd)
    cases he : extP g b k with
    | none => rw [he] at h; cases h
    | some e =>
      rw [he] at h
      have h : d.loaf + e = z := Option.some.inj h
      have : 0 ≤ e := by
        by_cases hkb : k < b
        · exact finesL_nonneg N.nn ((ext_fine hkb).mp he)
        · rw [← ((ext_keep (by omega)).mp he).2]
          exact keepsL_nonneg N.nn _ _
      omega
theorem wantP_nonneg {g : Good} (N : NonNegW g.days) {b k : Nat} {z : Int} (h : wantP g b k = some z) : 0 ≤ z := by
  unfold wantP at h
  cases hd : g.days[k]? with
  | none => rw [hd] at h; cases h
  | some d =>
    rw [hd] at h
    dsimp only at h
    split at h
    · have h : (0 : Int) = z := Option.some.inj h
      omega
    · cases hp : loafP g b k with
      | none => rw [hp] at h; cases h
      | some y =>
        rw [hp] at h
        have h : d.want * y = z := Option.some.inj h
        rw [← h]
        exact Int.mul_nonneg (N.want d (List.mem_of_getElem? hd)) (loafP_nonneg N hp)
theorem wantP_late {g : Good} (nf : ∀ d ∈ g.days, d.fine = none) {b k : Nat} (hk : k < b) {z : Int} (h : wantP g b k = some z) : ∃ d, g.days[k]? = some d ∧ d.want = 0 := by
  unfold wantP at h
  cases hd : g.days[k]? with
  | none => rw [hd] at h; cases h
  | some d =>
    rw [hd] at h
    dsimp only at h
    split at h
    · exact ⟨d, rfl, by assumption⟩
    · exfalso
      cases hp : loafP g b k with
      | none => rw [hp] at h; cases h
      | some y =>
        cases hb : g.days[b]? with
        | none =>
          unfold loafP at hp
          rw [hb] at hp
          cases hp
        | some d' =>
          rw [loafP_ext hb] at hp
          cases he : extP g b k with
          | none => rw [he] at hp; cases hp
          | some e =>
            have hf := (ext_fine hk).mp he
            unfold finesL at hf
            obtain ⟨hlt, e1⟩ := List.getElem?_eq_some_iff.mp hd
            rw [List.drop_eq_getElem_cons hlt, e1, show b - k = (b - k - 1) + 1 by omega] at hf
            have hf : sumO (d.fine :: ((g.days.drop (k + 1)).take (b - k - 1)).map Day.fine) = some e := hf
            rw [nf d (List.mem_of_getElem? hd)] at hf
            cases hf
theorem segP_all {w : Nat → Option Int} {f : Nat} : ∀ {n : Nat} {s : Int}, segP w f n = some s → ∀ i, i < n → ∃ z, w (f + i) = some z
  | 0, _, _, i, hi => by omega
  | n + 1, s, h, i, hi => by
    obtain ⟨x, y, h1, h2, _⟩ := segP_succ h
    by_cases e : i < n
    · exact segP_all h1 i e
    · have : i = n := by omega
      subst this
      exact ⟨y, h2⟩
theorem segP_nonneg {w : Nat → Option Int} {f : Nat} (nn : ∀ k z, w k = some z → 0 ≤ z) : ∀ {n : Nat} {s : Int}, segP w f n = some s → 0 ≤ s
  | 0, s, h => by
    have : (0 : Int) = s := Option.some.inj h
    omega
  | n + 1, s, h => by
    obtain ⟨x, y, h1, h2, h3⟩ := segP_succ h
    have := segP_nonneg nn h1
    have := nn _ _ h2
    omega
theorem row_flat {g : Good} {lights row : Nat → Int} {n : Nat} (h : IsRow g lights row n) {f : Nat} : ∀ m, f ≤ m → m ≤ n → (∀ k, f ≤ k → k < m → ∃ d, g.days[k]? = some d ∧ d.want = 0) → row m ≤ row f
  | 0, h1, _, _ => by rw [show f = 0 by omega]; exact Int.le_refl _
  | m + 1, h1, h2, hz => by
    by_cases e : f = m + 1
    · rw [e]; exact Int.le_refl _
    · have a := row_flat h m (by omega) (by omega) fun k k1 k2 => hz k k1 (by omega)
      have b := h.least m (by omega) _ (.inr ⟨hz m (by omega) (by omega), rfl⟩)
      omega
theorem row_up {g : Good} {lights row : Nat → Int} {n : Nat} (h : IsRow g lights row n) (hl : ∀ b, 0 ≤ lights b) (N : NonNegW g.days) (nf : ∀ d ∈ g.days, d.fine = none) {m : Nat} (hm : m < n) : row m ≤ row (m + 1) := by
  rcases h.some m hm with ⟨b, f, s, hb, hf, hs, hv⟩ | ⟨_, hv⟩
  · have lb := hl b
    have sn : 0 ≤ s := segP_nonneg (fun k z e => wantP_nonneg N e) hs
    by_cases e : f = m
    · subst e
      omega
    · rw [show m + 1 - f = (m - f) + 1 by omega] at hs
      obtain ⟨x, y, h1, h2, h3⟩ := segP_succ hs
      have yn := wantP_nonneg N h2
      by_cases eb : b < m
      · have := h.least (m - 1) (by omega) (row f + lights b + x) (.inl ⟨b, f, x, by omega, by omega, by rw [show m - 1 + 1 - f = m - f by omega]; exact h1, rfl⟩)
        rw [show m - 1 + 1 = m by omega] at this
        omega
      · have eb : b = m := by omega
        subst eb
        have := row_flat h b (f := f) (by omega) (by omega) fun k k1 k2 => by
          obtain ⟨z, hz⟩ := segP_all h1 (k - f) (by omega)
          rw [show f + (k - f) = k by omega] at hz
          exact wantP_late nf k2 hz
        omega
  · omega
/-! ### lists of days, compared -/
theorem lay_day (d : Day) : PyData.canLay0 (dayD d) = true ∧ (dayD d).depth ≤ 1 ∧ (dayD d).hasDict = false := by
  unfold dayD
  cases d.fine <;> simp [optD, PyData.canLay0, PyData.canLayAll0, PyData.depth, PyData.depthAll, PyData.hasDict, PyData.hasDictAll]
theorem lay_days : ∀ ds : List Day, PyData.canLayAll0 (ds.map dayD) = true ∧ PyData.hasDictAll (ds.map dayD) = false
  | [] => by simp [PyData.canLayAll0, PyData.hasDictAll]
  | d :: r => by
    obtain ⟨h1, _, h3⟩ := lay_day d
    obtain ⟨k1, k2⟩ := lay_days r
    simp only [List.map, PyData.canLayAll0, PyData.hasDictAll, h1, h3, k1, k2, Bool.and_self, Bool.or_self, and_self]
theorem Choice.lights {g : Good} {lights lights' row : Nat → Int} {m : Nat} {v : Int} (e : ∀ b, b ≤ m → lights b = lights' b) (h : Choice g lights row m v) : Choice g lights' row m v := by
  rcases h with ⟨b, f, s, h1, h2, h3, h4⟩ | h
  · exact .inl ⟨b, f, s, h1, h2, h3, by rw [← e b h1]; exact h4⟩
  · exact .inr h
theorem row_lights {g : Good} {lights lights' row : Nat → Int} {n : Nat} (e : ∀ b, b < n → lights b = lights' b) (h : IsRow g lights row n) : IsRow g lights' row n :=
  ⟨h.zero, fun m hm => (h.some m hm).lights fun b hb => e b (by omega), fun m hm v hv => h.least m hm v (hv.lights fun b hb => (e b (by omega)).symm)⟩
theorem rowF_take {ls : List Int} {m b : Nat} (h : b < m) : rowF (ls.take m) b = rowF ls b := by
  unfold rowF
  rw [List.getD_eq_getElem?_getD, List.getD_eq_getElem?_getD, List.getElem?_take_of_lt h]
end Bk

namespace Bk
open PySem PySem.Spec PyProof.Rows L2
/-! ### sums -/
def sumN (f : Nat → Int) : Nat → Int
  | 0 => 0
  | n + 1 => sumN f n + f n
theorem sumN_le {f f' : Nat → Int} : ∀ n, (∀ k, k < n → f k ≤ f' k) → sumN f n ≤ sumN f' n
  | 0, _ => Int.le_refl 0
  | n + 1, h => by
    have a := sumN_le n fun k hk => h k (by omega)
    have b := h n (by omega)
    show sumN f n + f n ≤ sumN f' n + f' n
    omega
theorem sumN_congr {f f' : Nat → Int} (n : Nat) (h : ∀ k, k < n → f k = f' k) : sumN f n = sumN f' n := by
  have a := sumN_le n fun k hk => Int.le_of_eq (h k hk)
  have b := sumN_le n fun k hk => Int.le_of_eq (h k hk).symm
  omega
theorem sumN_add (f f' : Nat → Int) : ∀ n, sumN (fun k => f k + f' k) n = sumN f n + sumN f' n
  | 0 => rfl
  | n + 1 => by
    show sumN (fun k => f k + f' k) n + (f n + f' n) = (sumN f n + f n) + (sumN f' n + f' n)
    rw [sumN_add f f' n]
    omega
theorem sumN_zero {f : Nat → Int} (n : Nat) (h : ∀ k, k < n → f k = 0) : sumN f n = 0 := by
  rw [sumN_congr (f' := fun _ => 0) n h]
  induction n with
  | zero => rfl
  | succ n ih =>
    show sumN (fun _ => 0) n + 0 = 0
    rw [ih fun k hk => h k (by omega)]
    rfl
theorem sumN_nonneg {f : Nat → Int} (n : Nat) (h : ∀ k, k < n → 0 ≤ f k) : 0 ≤ sumN f n := by
  have := sumN_le (f := fun _ => 0) n h
  rw [sumN_zero n fun _ _ => rfl] at this
  exact this
theorem sumN_split (f : Nat → Int) (m : Nat) : ∀ n, sumN f (m + n) = sumN f m + sumN (fun i => f (m + i)) n
  | 0 => by
    show sumN f m = sumN f m + 0
    omega
  | n + 1 => by
    show sumN f (m + n) + f (m + n) = sumN f m + (sumN (fun i => f (m + i)) n + f (m + n))
    rw [sumN_split f m n]
    omega
theorem sumN_grow {f : Nat → Int} {m n : Nat} (hmn : m ≤ n) (h : ∀ k, k < n → 0 ≤ f k) : sumN f m ≤ sumN f n := by
  have e := sumN_split f m (n - m)
  rw [show m + (n - m) = n by omega] at e
  have := sumN_nonneg (f := fun i => f (m + i)) (n - m) fun k hk => h _ (by omega)
  omega
theorem sumN_one {L : Nat → Int} {b : Nat} : ∀ n, b < n → sumN (fun x => if x = b then L x else 0) n = L b
  | 0, h => by omega
  | n + 1, h => by
    show sumN (fun x => if x = b then L x else 0) n + (if n = b then L n else 0) = L b
    by_cases e : n = b
    · subst e
      rw [if_pos rfl, sumN_zero n fun k hk => if_neg (by omega)]
      omega
    · rw [if_neg e, sumN_one n (by omega)]
      omega
theorem segP_of {w : Nat → Option Int} {q : Nat → Int} {f : Nat} : ∀ n, (∀ i, i < n → w (f + i) = some (q (f + i))) → segP w f n = some (sumN (fun i => q (f + i)) n)
  | 0, _ => rfl
  | n + 1, h => segP_add (segP_of n fun i hi => h i (by omega)) (h n (by omega))
theorem exists_least {P : Nat → Prop} (h : ∃ n, P n) : ∃ n, P n ∧ ∀ m, m < n → ¬ P m := by
  obtain ⟨n, hn⟩ := h
  induction n using Nat.strongRecOn with
  | ind n ih =>
    by_cases h : ∃ m, m < n ∧ P m
    · obtain ⟨m, hm, pm⟩ := h
      exact ih m hm pm
    · exact ⟨n, hn, fun m hm pm => h ⟨m, hm, pm⟩⟩
theorem exists_last {P : Nat → Prop} {n : Nat} (h : ∃ k, k < n ∧ P k) : ∃ k, k < n ∧ P k ∧ ∀ m, k < m → m < n → ¬ P m := by
  induction n with
  | zero =>
    obtain ⟨k, hk, _⟩ := h
    omega
  | succ n ih =>
    by_cases hn : P n
    · exact ⟨n, by omega, hn, fun m h1 h2 => by omega⟩
    · obtain ⟨k, hk, pk⟩ := h
      have : k < n := by
        by_cases e : k = n
        · subst e; exact absurd pk hn
        · omega
      obtain ⟨k', h1, h2, h3⟩ := ih ⟨k, this, pk⟩
      refine ⟨k', by omega, h2, fun m m1 m2 => ?_⟩
      by_cases e : m = n
      · subst e; exact hn
      · exact h3 m m1 (by omega)
/-! ### what a set of lit days costs -/
def wantN (g : Good) (k : Nat) : Int := match g.days[k]? with
  | none => 0
  | some d => d.want
structure MinP (g : Good) (S : Nat → Prop) (n k : Nat) (z : Int) : Prop where
  ex : ∃ b, b < n ∧ S b ∧ loafP g b k = some z
  le : ∀ b, b < n → S b → ∀ y, loafP g b k = some y → z ≤ y
open Classical in
noncomputable def litSum (lights : Nat → Int) (S : Nat → Prop) (n : Nat) : Int := sumN (fun b => if S b then lights b else 0) n
structure SetC (g : Good) (lights : Nat → Int) (S : Nat → Prop) (n : Nat) (p : Nat → Int) (c : Int) : Prop where
  min : ∀ k, k < n → wantN g k ≠ 0 → MinP g S n k (p k)
  cost : c = litSum lights S n + sumN (fun k => wantN g k * p k) n
theorem wantP_of {g : Good} {b k : Nat} {z : Int} (hk : k < g.days.length) (h : wantN g k ≠ 0 → loafP g b k = some z) : wantP g b k = some (wantN g k * z) := by
  have hd : g.days[k]? = some g.days[k] := List.getElem?_eq_getElem hk
  unfold wantN at h ⊢
  unfold wantP
  rw [hd] at h ⊢
  dsimp only at h ⊢
  by_cases e : g.days[k].want = 0
  · rw [if_pos e, e, Int.zero_mul]
  · rw [if_neg e, h e]
    rfl
theorem wantN_nonneg {g : Good} (N : NonNegW g.days) (k : Nat) : 0 ≤ wantN g k := by
  unfold wantN
  cases hd : g.days[k]? with
  | none => exact Int.le_refl 0
  | some d => exact N.want d (List.mem_of_getElem? hd)
theorem wantN_zero {g : Good} {k : Nat} (hk : k < g.days.length) (h : wantN g k = 0) : ∃ d, g.days[k]? = some d ∧ d.want = 0 := by
  have hd : g.days[k]? = some g.days[k] := List.getElem?_eq_getElem hk
  refine ⟨_, hd, ?_⟩
  unfold wantN at h
  rw [hd] at h
  exact h
/-- the first day of the set on which day k's loaves cost p -/
structure Sm (g : Good) (S : Nat → Prop) (n : Nat) (p : Nat → Int) (k b : Nat) : Prop where
  lt : b < n
  mem : S b
  at_ : loafP g b k = some (p k)
  first : ∀ b', b' < b → S b' → loafP g b' k ≠ some (p k)
theorem sm_ex {g : Good} {S : Nat → Prop} {n : Nat} {p : Nat → Int} {k : Nat} (h : MinP g S n k (p k)) : ∃ b, Sm g S n p k b := by
  obtain ⟨b, ⟨h1, h2, h3⟩, h4⟩ := exists_least h.ex
  exact ⟨b, h1, h2, h3, fun b' hb' hs e => h4 b' hb' ⟨by omega, hs, e⟩⟩
theorem sm_uniq {g : Good} {S : Nat → Prop} {n : Nat} {p : Nat → Int} {k b b' : Nat} (h : Sm g S n p k b) (h' : Sm g S n p k b') : b = b' := by
  by_cases e : b < b'
  · exact absurd h.at_ (h'.first b e h.mem)
  · by_cases e' : b' < b
    · exact absurd h'.at_ (h.first b' e' h'.mem)
    · omega
theorem sm_mono {g : Good} (N : NonNeg g.days) {S : Nat → Prop} {n : Nat} {p : Nat → Int} (hn : n ≤ g.days.length) {k k' b b' : Nat} (hk : k < k') (mk : MinP g S n k (p k)) (mk' : MinP g S n k' (p k')) (h : Sm g S n p k b) (h' : Sm g S n p k' b') : b ≤ b' := by
  by_cases e : b ≤ b'
  · exact e
  · exfalso
    have hb := h.lt
    obtain ⟨z, t, h1, h2, h3⟩ := loaf_cross N (show b' < b by omega) hk (by omega) h'.at_ h.at_
    have a1 := mk'.le b h.lt h.mem t h2
    have a2 := mk.le b' h'.lt h'.mem z h1
    exact h.first b' (by omega) h'.mem (by rw [h1, show z = p k by omega])
theorem finesL_join {ds : List Day} {i j k : Nat} {x y : Int} (h1 : i ≤ j) (h2 : j ≤ k) (a : finesL ds i j = some x) (b : finesL ds j k = some y) : finesL ds i k = some (x + y) := by
  unfold finesL at a b ⊢
  rw [seg_split ds h1 h2, List.map_append]
  exact sumO_join' a b
theorem loafP_ext' {g : Good} {j k : Nat} {d : Day} {z : Int} (hd : g.days[j]? = some d) (h : loafP g j k = some z) : ∃ e, extP g j k = some e ∧ d.loaf + e = z := by
  rw [loafP_ext hd] at h
  cases he : extP g j k with
  | none => rw [he] at h; cases h
  | some e =>
    rw [he] at h
    exact ⟨e, rfl, Option.some.inj h⟩
/-- who waits for a day takes all wants up to that day along -/
theorem sm_wait {g : Good} (N : NonNeg g.days) (hl : ∀ l, g.life = some l → 0 ≤ l) {S : Nat → Prop} {n : Nat} {p : Nat → Int} (hn : n ≤ g.days.length) {k k' b b' : Nat} (hk : k < k') (hb : k' ≤ b) (mk : MinP g S n k (p k)) (mk' : MinP g S n k' (p k')) (h : Sm g S n p k b) (h' : Sm g S n p k' b') : b' = b := by
  have hle := sm_mono N hn hk mk mk' h h'
  by_cases e : b' = b
  · exact e
  · exfalso
    have hlt : b < b' := by omega
    have l1 := h.lt
    have l2 := h'.lt
    have db : g.days[b]? = some (g.days[b]'(by omega)) := List.getElem?_eq_getElem (by omega)
    have db' : g.days[b']? = some (g.days[b']'(by omega)) := List.getElem?_eq_getElem (by omega)
    generalize g.days[b]'(by omega) = d at db
    generalize g.days[b']'(by omega) = d' at db'
    obtain ⟨x, hx, ex⟩ := loafP_ext' db h.at_
    obtain ⟨y, hy, ey⟩ := loafP_ext' db' h'.at_
    have fx := (ext_fine (show k < b by omega)).mp hx
    have fy := (ext_fine (show k' < b' by omega)).mp hy
    obtain ⟨y1, y2, f1, f2, e12⟩ := finesL_split hb (show b ≤ b' by omega) fy
    have fj := finesL_join (show k ≤ b by omega) (show b ≤ b' by omega) fx f2
    have pj : loafP g b' k = some (d'.loaf + (x + y2)) := by
      rw [loafP_ext db', (ext_fine (show k < b' by omega)).mpr fj]
      rfl
    have a1 := mk.le b' h'.lt h'.mem _ pj
    have pk : loafP g b k' = some (d.loaf + y1) := by
      by_cases ekb : k' < b
      · rw [loafP_ext db, (ext_fine ekb).mpr f1]
        rfl
      · have ekb : k' = b := by omega
        subst ekb
        have z1 : y1 = 0 := by
          unfold finesL at f1
          rw [Nat.sub_self] at f1
          exact (Option.some.inj f1).symm
        have z2 : keepsL g.days k' k' = 0 := by
          unfold keepsL
          rw [Nat.sub_self]
          rfl
        rw [loafP_ext db, (ext_keep (Nat.le_refl k')).mpr ⟨fun l el => by have := hl l el; omega, z2⟩, z1]
        rfl
    have a2 := mk'.le b h.lt h.mem _ pk
    exact h'.first b hlt h.mem (by rw [pk]; congr 1; omega)
open Classical in
/-- no set of lit days costs less than the row tells -/
theorem row_le_set {g : Good} {lights row : Nat → Int} {M : Nat} (h : IsRow g lights row M) (hM : M ≤ g.days.length) (hl : ∀ b, 0 ≤ lights b) (N : NonNegW g.days) (hlf : ∀ l, g.life = some l → 0 ≤ l) : ∀ n, n ≤ M → ∀ (S : Nat → Prop) (p : Nat → Int) (c : Int), SetC g lights S n p c → row n ≤ c := by
  intro n
  induction n using Nat.strongRecOn with
  | ind n ih =>
    intro hn S p c hc
    have ls0 : ∀ (S : Nat → Prop) m, 0 ≤ litSum lights S m := fun S m => sumN_nonneg m fun k _ => by
      show 0 ≤ (if S k then lights k else 0)
      split
      · exact hl k
      · exact Int.le_refl 0
    by_cases hw : ∃ k, k < n ∧ wantN g k ≠ 0
    · obtain ⟨kl, hkl, wkl, lastk⟩ := exists_last hw
      obtain ⟨bs, hbs⟩ := sm_ex (hc.min kl hkl wkl)
      obtain ⟨f, ⟨hf1, hf2, hf3⟩, hf4⟩ := exists_least (P := fun k => k < n ∧ wantN g k ≠ 0 ∧ Sm g S n p k bs) ⟨kl, hkl, wkl, hbs⟩
      have hfk : f ≤ kl := by
        by_cases e : f ≤ kl
        · exact e
        · exact absurd ⟨hkl, wkl, hbs⟩ (hf4 kl (by omega))
      have hbn := hbs.lt
      have lo : ∀ k, k < f → wantN g k ≠ 0 → ∃ b, Sm g S n p k b ∧ b < f ∧ b < bs := by
        intro k hk wk
        obtain ⟨b, hb⟩ := sm_ex (hc.min k (by omega) wk)
        have h1 := sm_mono N.nn (by omega) hk (hc.min k (by omega) wk) (hc.min f hf1 hf2) hb hf3
        have h2 : b ≠ bs := fun e => hf4 k hk ⟨by omega, wk, e ▸ hb⟩
        refine ⟨b, hb, ?_, by omega⟩
        by_cases e : b < f
        · exact e
        · exact absurd (sm_wait N.nn hlf (by omega) hk (by omega) (hc.min k (by omega) wk) (hc.min f hf1 hf2) hb hf3).symm h2
      have hi : ∀ k, f ≤ k → k < n → wantN g k ≠ 0 → loafP g bs k = some (p k) := by
        intro k hk hkn wk
        have hkkl : k ≤ kl := by
          by_cases e : k ≤ kl
          · exact e
          · exact absurd wk (lastk k (by omega) hkn)
        obtain ⟨b, hb⟩ := sm_ex (hc.min k hkn wk)
        have h1 : bs ≤ b := by
          by_cases e : f = k
          · subst e
            exact Nat.le_of_eq (sm_uniq hf3 hb)
          · exact sm_mono N.nn (by omega) (show f < k by omega) (hc.min f hf1 hf2) (hc.min k hkn wk) hf3 hb
        have h2 : b ≤ bs := by
          by_cases e : k = kl
          · subst e
            exact Nat.le_of_eq (sm_uniq hb hbs)
          · exact sm_mono N.nn (by omega) (show k < kl by omega) (hc.min k hkn wk) (hc.min kl hkl wkl) hb hbs
        have : b = bs := by omega
        subst this
        exact hb.at_
      -- the days ahead of the stretch
      have low : row f ≤ litSum lights (fun b => S b ∧ b < f ∧ b < bs) f + sumN (fun k => wantN g k * p k) f := by
        refine ih f hf1 (by omega) (fun b => S b ∧ b < f ∧ b < bs) p _ ⟨fun k hk wk => ?_, rfl⟩
        obtain ⟨b, hb, h1, h2⟩ := lo k hk wk
        exact ⟨⟨b, h1, ⟨hb.mem, h1, h2⟩, hb.at_⟩, fun b' hb' hs y hy => (hc.min k (by omega) wk).le b' (by omega) hs.1 y hy⟩
      -- the stretch
      have seg : segP (wantP g bs) f (n - f) = some (sumN (fun i => wantN g (f + i) * p (f + i)) (n - f)) := segP_of (q := fun k => wantN g k * p k) (n - f) fun i hi' => wantP_of (by omega) fun wk => hi (f + i) (by omega) (by omega) wk
      have least := h.least (n - 1) (by omega) _ (.inl ⟨bs, f, _, by omega, by omega, by rw [show n - 1 + 1 - f = n - f by omega]; exact seg, rfl⟩)
      rw [show n - 1 + 1 = n by omega] at least
      have spl := sumN_split (fun k => wantN g k * p k) f (n - f)
      rw [show f + (n - f) = n by omega] at spl
      -- the lights
      have lit : litSum lights (fun b => S b ∧ b < f ∧ b < bs) f + lights bs ≤ litSum lights S n := by
        have g1 : litSum lights (fun b => S b ∧ b < f ∧ b < bs) f ≤ litSum lights (fun b => S b ∧ b < f ∧ b < bs) n := sumN_grow (by omega) fun k _ => by
          dsimp only
          split
          · exact hl k
          · exact Int.le_refl 0
        have g2 := sumN_one (L := lights) n hbn
        have g3 : litSum lights (fun b => S b ∧ b < f ∧ b < bs) n + sumN (fun x => if x = bs then lights x else 0) n ≤ litSum lights S n := by
          unfold litSum
          rw [← sumN_add]
          refine sumN_le n fun k hk => ?_
          have lk := hl k
          by_cases e : k = bs
          · subst e
            rw [if_neg (fun z => by omega), if_pos rfl, if_pos hbs.mem]
            omega
          · rw [if_neg e]
            by_cases e2 : S k ∧ k < f ∧ k < bs
            · rw [if_pos e2, if_pos e2.1]
              omega
            · rw [if_neg e2]
              split <;> omega
        omega
      have cc := hc.cost
      omega
    · have z : ∀ k, k < n → wantN g k = 0 := fun k hk => Decidable.not_not.mp fun e => hw ⟨k, hk, e⟩
      have a := row_flat h (f := 0) n (by omega) hn fun k _ hk => wantN_zero (by omega) (z k hk)
      rw [h.zero] at a
      have b := hc.cost
      rw [sumN_zero n fun k hk => by rw [z k hk, Int.zero_mul]] at b
      have := ls0 S n
      omega
open Classical in
theorem exists_min {g : Good} {S : Nat → Prop} {k : Nat} : ∀ n, (∃ b z, b < n ∧ S b ∧ loafP g b k = some z) → ∃ z, MinP g S n k z
  | 0, h => by
    obtain ⟨b, z, hb, _⟩ := h
    omega
  | n + 1, h => by
    by_cases h0 : ∃ b z, b < n ∧ S b ∧ loafP g b k = some z
    · obtain ⟨z, ⟨b, hb, hs, hz⟩, hle⟩ := exists_min n h0
      by_cases hn : S n ∧ ∃ y, loafP g n k = some y ∧ y < z
      · obtain ⟨sn, y, hy, hyz⟩ := hn
        refine ⟨y, ⟨n, by omega, sn, hy⟩, fun b' hb' hs' y' hy' => ?_⟩
        by_cases e : b' = n
        · subst e
          rw [hy] at hy'
          have := Option.some.inj hy'
          omega
        · have := hle b' (by omega) hs' y' hy'
          omega
      · refine ⟨z, ⟨b, by omega, hs, hz⟩, fun b' hb' hs' y' hy' => ?_⟩
        by_cases e : b' = n
        · subst e
          by_cases hh : z ≤ y'
          · exact hh
          · exact absurd ⟨hs', y', hy', by omega⟩ hn
        · exact hle b' (by omega) hs' y' hy'
    · obtain ⟨b, z, hb, hs, hz⟩ := h
      have e : b = n := by
        by_cases e : b = n
        · exact e
        · exact absurd ⟨b, z, by omega, hs, hz⟩ h0
      subst e
      refine ⟨z, ⟨b, by omega, hs, hz⟩, fun b' hb' hs' y' hy' => ?_⟩
      by_cases e : b' = b
      · subst e
        rw [hz] at hy'
        have := Option.some.inj hy'
        omega
      · exact absurd ⟨b', y', by omega, hs', hy'⟩ h0
theorem wantP_inv {g : Good} {b k : Nat} {z : Int} (h : wantP g b k = some z) : (wantN g k = 0 ∧ z = 0) ∨ ∃ y, loafP g b k = some y ∧ z = wantN g k * y := by
  unfold wantP at h
  unfold wantN
  cases hd : g.days[k]? with
  | none => rw [hd] at h; cases h
  | some d =>
    rw [hd] at h
    dsimp only at h ⊢
    split at h
    · exact .inl ⟨by assumption, (Option.some.inj h).symm⟩
    · cases hp : loafP g b k with
      | none => rw [hp] at h; cases h
      | some y =>
        rw [hp] at h
        exact .inr ⟨y, rfl, (Option.some.inj h).symm⟩
theorem segP_sum {w : Nat → Option Int} {f : Nat} : ∀ {n : Nat} {s : Int}, segP w f n = some s → ∃ q : Nat → Int, (∀ i, i < n → w (f + i) = some (q (f + i))) ∧ s = sumN (fun i => q (f + i)) n
  | 0, s, h => ⟨fun _ => 0, fun i hi => by omega, (Option.some.inj h).symm⟩
  | n + 1, s, h => by
    obtain ⟨x, y, h1, h2, h3⟩ := segP_succ h
    obtain ⟨q, q1, q2⟩ := segP_sum h1
    refine ⟨fun k => if k = f + n then y else q k, fun i hi => ?_, ?_⟩
    · dsimp only
      by_cases e : i = n
      · subst e
        rw [if_pos rfl]
        exact h2
      · rw [if_neg (by omega)]
        exact q1 i (by omega)
    · show s = sumN (fun i => if f + i = f + n then y else q (f + i)) n + (if f + n = f + n then y else q (f + n))
      rw [if_pos rfl, sumN_congr (f' := fun i => q (f + i)) n fun i hi => if_neg (by omega), ← q2]
      exact h3
open Classical in
/-- some set of lit days costs no more than the row tells -/
theorem set_of_row {g : Good} {lights row : Nat → Int} {M : Nat} (h : IsRow g lights row M) (hM : M ≤ g.days.length) (hl : ∀ b, 0 ≤ lights b) (N : NonNegW g.days) : ∀ n, n ≤ M → ∃ (S : Nat → Prop) (p : Nat → Int) (c : Int), SetC g lights S n p c ∧ c ≤ row n := by
  intro n
  induction n using Nat.strongRecOn with
  | ind n ih =>
    intro hn
    cases n with
    | zero => exact ⟨fun _ => False, fun _ => 0, 0, ⟨fun k hk => by omega, rfl⟩, by rw [h.zero]; exact Int.le_refl 0⟩
    | succ m =>
      rcases h.some m (by omega) with ⟨b, f, s, hb, hf, hs, hv⟩ | ⟨⟨d, hd, hw⟩, hv⟩
      · obtain ⟨S, p, c, hc, hle⟩ := ih f (by omega) (by omega)
        obtain ⟨q, q1, q2⟩ := segP_sum hs
        let S' : Nat → Prop := fun x => (x < f ∧ S x) ∨ x = b
        have ex : ∀ k, ∃ z, k < m + 1 → wantN g k ≠ 0 → MinP g S' (m + 1) k z := by
          intro k
          by_cases hk : k < m + 1 ∧ wantN g k ≠ 0
          · have : ∃ z, MinP g S' (m + 1) k z := exists_min (m + 1) (by
              by_cases hkf : k < f
              · obtain ⟨b', h1, h2, h3⟩ := (hc.min k hkf hk.2).ex
                exact ⟨b', _, by omega, .inl ⟨h1, h2⟩, h3⟩
              · have e := q1 (k - f) (by omega)
                rw [show f + (k - f) = k by omega] at e
                rcases wantP_inv e with ⟨e1, _⟩ | ⟨y, e1, _⟩
                · exact absurd e1 hk.2
                · exact ⟨b, y, by omega, .inr rfl, e1⟩)
            obtain ⟨z, hz⟩ := this
            exact ⟨z, fun _ _ => hz⟩
          · exact ⟨0, fun h1 h2 => absurd ⟨h1, h2⟩ hk⟩
        let p' : Nat → Int := fun k => choose (ex k)
        have hp' : ∀ k, k < m + 1 → wantN g k ≠ 0 → MinP g S' (m + 1) k (p' k) := fun k => choose_spec (ex k)
        refine ⟨S', p', _, ⟨hp', rfl⟩, ?_⟩
        have spl := sumN_split (fun k => wantN g k * p' k) f (m + 1 - f)
        rw [show f + (m + 1 - f) = m + 1 by omega] at spl
        have w1 : sumN (fun k => wantN g k * p' k) f ≤ sumN (fun k => wantN g k * p k) f := sumN_le f fun k hk => by
          by_cases e : wantN g k = 0
          · rw [e, Int.zero_mul, Int.zero_mul]
            exact Int.le_refl 0
          · obtain ⟨b', h1, h2, h3⟩ := (hc.min k hk e).ex
            exact Int.mul_le_mul_of_nonneg_left ((hp' k (by omega) e).le b' (by omega) (.inl ⟨h1, h2⟩) _ h3) (wantN_nonneg N k)
        have w2 : sumN (fun i => wantN g (f + i) * p' (f + i)) (m + 1 - f) ≤ s := by
          rw [q2]
          refine sumN_le _ fun i hi => ?_
          have e := q1 i hi
          by_cases ew : wantN g (f + i) = 0
          · have := wantP_nonneg N e
            rw [ew, Int.zero_mul]
            exact this
          · rcases wantP_inv e with ⟨e1, _⟩ | ⟨y, e1, e2⟩
            · exact absurd e1 ew
            · rw [e2]
              exact Int.mul_le_mul_of_nonneg_left ((hp' (f + i) (by omega) ew).le b (by omega) (.inr rfl) _ e1) (wantN_nonneg N _)
        have l1 : litSum lights S' (m + 1) ≤ litSum lights S f + lights b := by
          have e1 : litSum lights S f = litSum lights (fun x => x < f ∧ S x) (m + 1) := by
            have e := sumN_split (fun x => if x < f ∧ S x then lights x else 0) f (m + 1 - f)
            rw [show f + (m + 1 - f) = m + 1 by omega, sumN_zero (f := fun i => if f + i < f ∧ S (f + i) then lights (f + i) else 0) _ fun i _ => if_neg fun z => by omega] at e
            unfold litSum
            rw [sumN_congr (f' := fun x => if x < f ∧ S x then lights x else 0) f fun k hk => by
              by_cases e : S k
              · rw [if_pos e, if_pos ⟨hk, e⟩]
              · rw [if_neg e, if_neg fun z => e z.2]]
            have e2 : ∀ A : Int, A + 0 = A := Int.add_zero
            rw [e2] at e
            rw [← e]
            refine sumN_congr _ fun k _ => ?_
            by_cases e : k < f ∧ S k
            · rw [if_pos e, if_pos e]
            · rw [if_neg e, if_neg e]
          have e2 := sumN_one (L := lights) (m + 1) (show b < m + 1 by omega)
          rw [e1, ← e2]
          unfold litSum
          rw [← sumN_add]
          refine sumN_le _ fun k hk => ?_
          have lk := hl k
          dsimp only
          by_cases e3 : k = b
          · rw [if_pos (show S' k from .inr e3), if_pos e3]
            split <;> omega
          · by_cases e4 : k < f ∧ S k
            · rw [if_pos (show S' k from .inl e4), if_pos e4, if_neg e3]
              omega
            · rw [if_neg (show ¬ S' k from fun z => z.elim e4 e3), if_neg e4, if_neg e3]
              omega
        have cc := hc.cost
        omega
      · obtain ⟨S, p, c, hc, hle⟩ := ih m (by omega) (by omega)
        have ew : wantN g m = 0 := by
          unfold wantN
          rw [hd]
          exact hw
        refine ⟨fun x => x < m ∧ S x, p, c, ⟨fun k hk wk => ?_, ?_⟩, by rw [hv]; exact hle⟩
        · have hkm : k < m := by
            by_cases e : k = m
            · subst e; exact absurd ew wk
            · omega
          have mk := hc.min k hkm wk
          obtain ⟨b, h1, h2, h3⟩ := mk.ex
          exact ⟨⟨b, by omega, ⟨h1, h2⟩, h3⟩, fun b' hb' hs y hy => mk.le b' hs.1 hs.2 y hy⟩
        · have e1 : litSum lights (fun x => x < m ∧ S x) (m + 1) = litSum lights S m := by
            have e0 : litSum lights (fun x => x < m ∧ S x) (m + 1) = litSum lights (fun x => x < m ∧ S x) m + 0 := by
              refine congrArg (litSum lights (fun x => x < m ∧ S x) m + ·) ?_
              exact if_neg fun z => absurd z.1 (by omega)
            rw [e0, Int.add_zero]
            refine sumN_congr _ fun k hk => ?_
            dsimp only
            by_cases e : S k
            · rw [if_pos e, if_pos ⟨hk, e⟩]
            · rw [if_neg e, if_neg fun z => e z.2]
          rw [e1, hc.cost]
          show _ = litSum lights S m + (sumN (fun k => wantN g k * p k) m + wantN g m * p m)
          rw [ew, Int.zero_mul, Int.add_zero]
end Bk

namespace Bk
open PySem PySem.Spec PyProof.Rows L2
def rShr : R2 := fun x y H Q => ∃ (i : Int) (k : Nat), x = .int i ∧ y = .int (k : Int) ∧ Q (.int (i / 2 ^ k)) H
def rOdd : R2 := fun x y H Q => ∃ n : Nat, x = .int (n : Int) ∧ y = .int 1 ∧ Q (.int ((n % 2 : Nat) : Int)) H
theorem rShr_i {i j : Int} {H : Hp} {Q : VK} : rShr (.int i) (.int j) H Q = ∃ k : Nat, j = (k : Int) ∧ Q (.int (i / 2 ^ k)) H := propext ⟨fun ⟨_, k, e1, e2, h⟩ => by cases e1; cases e2; exact ⟨k, rfl, h⟩, fun ⟨k, e, h⟩ => ⟨i, k, rfl, by rw [e], h⟩⟩
theorem rOdd_i {i : Int} {H : Hp} {Q : VK} : rOdd (.int i) (.int 1) H Q = ∃ n : Nat, i = (n : Int) ∧ Q (.int ((n % 2 : Nat) : Int)) H := propext ⟨fun ⟨n, e1, e2, h⟩ => by cases e1; exact ⟨n, rfl, h⟩, fun ⟨n, e, h⟩ => ⟨n, by rw [e], rfl, h⟩⟩
def litL (S : Nat → Bool) (n : Nat) : List Nat := (List.range n).filter S
def inS (S : Nat → Bool) (b : Nat) : Prop := S b = true
def bitS (num b : Nat) : Bool := decide (num / 2 ^ b % 2 = 1)
theorem bits_ex : ∀ (n : Nat) (S : Nat → Prop), ∃ num, num < 2 ^ n ∧ ∀ b, b < n → (inS (bitS num) b ↔ S b)
  | 0, S => ⟨0, by decide, fun b hb => by omega⟩
  | n + 1, S => by
    obtain ⟨num, h1, h2⟩ := bits_ex n fun b => S (b + 1)
    have key : ∀ e : Nat, e < 2 → ∀ b, inS (bitS (e + 2 * num)) b ↔ (b = 0 ∧ e = 1) ∨ (0 < b ∧ inS (bitS num) (b - 1)) := by
      intro e he b
      unfold inS bitS
      simp only [decide_eq_true_eq]
      cases b with
      | zero =>
        rw [Nat.pow_zero, Nat.div_one]
        omega
      | succ b =>
        rw [show 2 ^ (b + 1) = 2 * 2 ^ b by rw [Nat.pow_succ, Nat.mul_comm], ← Nat.div_div_eq_div_mul, show (e + 2 * num) / 2 = num by omega, Nat.add_sub_cancel]
        constructor
        · intro h
          exact .inr ⟨Nat.succ_pos _, h⟩
        · rintro (⟨h, _⟩ | ⟨_, h⟩)
          · exact absurd h (Nat.succ_ne_zero _)
          · exact h
    by_cases h0 : S 0
    · refine ⟨1 + 2 * num, by rw [Nat.pow_succ]; omega, fun b hb => ?_⟩
      rw [key 1 (by decide)]
      cases b with
      | zero => exact ⟨fun _ => h0, fun _ => .inl ⟨rfl, rfl⟩⟩
      | succ b =>
        rw [Nat.add_sub_cancel, ← h2 b (by omega)]
        constructor
        · rintro (⟨h, _⟩ | ⟨_, h⟩)
          · exact absurd h (Nat.succ_ne_zero _)
          · exact h
        · intro h
          exact .inr ⟨Nat.succ_pos _, h⟩
    · refine ⟨0 + 2 * num, by rw [Nat.pow_succ]; omega, fun b hb => ?_⟩
      rw [key 0 (by decide)]
      cases b with
      | zero =>
        constructor
        · rintro (⟨_, h⟩ | ⟨h, _⟩)
          · exact absurd h (by decide)
          · exact absurd h (by decide)
        · intro h
          exact absurd h h0
      | succ b =>
        rw [Nat.add_sub_cancel, ← h2 b (by omega)]
        constructor
        · rintro (⟨h, _⟩ | ⟨_, h⟩)
          · exact absurd h (Nat.succ_ne_zero _)
          · exact h
        · intro h
          exact .inr ⟨Nat.succ_pos _, h⟩
theorem setC_congr {g : Good} {lights : Nat → Int} {S S' : Nat → Prop} {n : Nat} {p : Nat → Int} {c : Int} (e : ∀ b, b < n → (S b ↔ S' b)) (h : SetC g lights S n p c) : SetC g lights S' n p c := by
  refine ⟨fun k hk wk => ?_, ?_⟩
  · have m := h.min k hk wk
    obtain ⟨b, h1, h2, h3⟩ := m.ex
    exact ⟨⟨b, h1, (e b h1).mp h2, h3⟩, fun b' hb' hs y hy => m.le b' hb' ((e b' hb').mpr hs) y hy⟩
  · rw [h.cost]
    congr 1
    unfold litSum
    refine sumN_congr n fun b hb => ?_
    by_cases h1 : S b
    · rw [if_pos h1, if_pos ((e b hb).mp h1)]
    · rw [if_neg h1, if_neg fun z => h1 ((e b hb).mpr z)]
/-- what the best of the first so many sets is -/
structure Best (g : Good) (lights : Nat → Int) (n i : Nat) (o : Option Int) : Prop where
  from_ : ∀ c, o = some c → ∃ S p, SetC g lights S n p c
  upto : ∀ num, num < i → num < 2 ^ n → ∀ p c, SetC g lights (inS (bitS num)) n p c → ∃ c0, o = some c0 ∧ c0 ≤ c
theorem Best.done {g : Good} {lights row : Nat → Int} {n i M : Nat} {o : Option Int} (h : Best g lights n i o) (hi : 2 ^ n ≤ i) (hR : IsRow g lights row M) (hn : n ≤ M) (hM : M ≤ g.days.length) (hl : ∀ b, 0 ≤ lights b) (N : NonNegW g.days) (hlf : ∀ l, g.life = some l → 0 ≤ l) : o = some (row n) := by
  obtain ⟨S, p, c, hc, hle⟩ := set_of_row hR hM hl N n hn
  obtain ⟨num, h1, h2⟩ := bits_ex n S
  obtain ⟨c0, rfl, hc0⟩ := h.upto num (by omega) h1 p c (setC_congr (fun b hb => (h2 b hb).symm) hc)
  obtain ⟨S', p', h'⟩ := h.from_ c0 rfl
  have := row_le_set hR hM hl N hlf n hn S' p' c0 h'
  congr 1
  omega
theorem rSetL_r {p : Addr} {k : Int} {v : V} {H : Hp} {Q : Hp → Prop} : rSetL (.ref p) (.int k) v H Q = ∃ xs j, H p = some (.lst xs) ∧ ixN xs.length k = some j ∧ Q (upd H p (.lst (xs.set j v))) := propext ⟨fun ⟨_, xs, _, j, e1, e2, h⟩ => by cases e1; cases e2; exact ⟨xs, j, h⟩, fun ⟨xs, j, h⟩ => ⟨p, xs, k, j, rfl, rfl, h⟩⟩
end Bk

namespace Bk
open PySem PySem.Spec PyProof.Rows L2
/-! ### the row of least costs where wants may be baked on any of all days, and its steps as prices -/
structure IsAny (g : Good) (lights ar : Nat → Int) (c n : Nat) : Prop where
  zero : ar 0 = 0
  unw : ∀ m, m < n → wantN g m = 0 → ar (m + 1) = ar m
  some : ∀ m, m < n → wantN g m ≠ 0 → ChC ar lights (wantP g) c m (ar (m + 1))
  least : ∀ m, m < n → wantN g m ≠ 0 → ∀ v, ChC ar lights (wantP g) c m v → ar (m + 1) ≤ v
theorem wantN_at {g : Good} {k : Nat} {d : Day} (h : g.days[k]? = some d) : wantN g k = d.want := by
  unfold wantN
  rw [h]
theorem wantP_unw {g : Good} {b k : Nat} (hk : k < g.days.length) (h : wantN g k = 0) : wantP g b k = some 0 := by
  have e := wantP_of (g := g) (b := b) (k := k) (z := 0) hk fun z => absurd h z
  rw [e, h, Int.zero_mul]
/-- lit days and prices of loaves by which the first m days' wants cost no more than v -/
structure Cov (g : Good) (lights : Nat → Int) (c m : Nat) (S : Nat → Prop) (p : Nat → Int) (v : Int) : Prop where
  ex : ∀ k, k < m → wantN g k ≠ 0 → ∃ b, b < c ∧ S b ∧ loafP g b k = some (p k)
  le : litSum lights S c + sumN (fun k => wantN g k * p k) m ≤ v
/-! ### prices that are let by -/
/-- by the document's words: whatever day of baking, whatever stretch -/
def Lets (g : Good) (lights pr : Nat → Int) (n : Nat) : Prop := ∀ b f m s, b < n → f + m ≤ n → segP (wantP g b) f m = some s → sumN (fun i => pr (f + i)) m ≤ lights b + s
end Bk

namespace Bk
open PySem PySem.Spec PyProof.Rows L2
/-! ### lists of larger ints, shown -/
/-! ### the row anywhere, number by number -/
theorem ChC.congr {row row' lights : Nat → Int} {w : Nat → Nat → Option Int} {c m : Nat} {v : Int} (e : ∀ f, f ≤ m → row f = row' f) (h : ChC row lights w c m v) : ChC row' lights w c m v := by
  obtain ⟨b, f, s, hb, hf, hs, hv⟩ := h
  exact ⟨b, f, s, hb, hf, hs, by rw [← e f hf]; exact hv⟩
theorem IsAny.init (g : Good) (lights : Nat → Int) (c : Nat) : IsAny g lights (rowF [0]) c 0 := ⟨rfl, fun m h => by omega, fun m h => by omega, fun m h => by omega⟩
theorem IsAny.snoc {g : Good} {lights : Nat → Int} {rs : List Int} {c n : Nat} {v : Int} (h : IsAny g lights (rowF rs) c n) (hl : rs.length = n + 1) (h0 : wantN g n = 0 → v = rowF rs n) (h1 : wantN g n ≠ 0 → ChC (rowF rs) lights (wantP g) c n v ∧ ∀ u, ChC (rowF rs) lights (wantP g) c n u → v ≤ u) :
    IsAny g lights (rowF (rs ++ [v])) c (n + 1) := by
  have e : ∀ f, f ≤ n → rowF rs f = rowF (rs ++ [v]) f := fun f hf => (rowF_snoc (by omega)).symm
  have e' : ∀ f, f ≤ n → rowF (rs ++ [v]) f = rowF rs f := fun f hf => rowF_snoc (by omega)
  have el : rowF (rs ++ [v]) (n + 1) = v := rowF_last hl
  refine ⟨by rw [e' 0 (by omega)]; exact h.zero, fun m hm hw => ?_, fun m hm hw => ?_, fun m hm hw u hu => ?_⟩
  · by_cases hlt : m < n
    · rw [e' (m + 1) (by omega), e' m (by omega)]
      exact h.unw m hlt hw
    · have : m = n := by omega
      subst this
      rw [el, e' m (by omega)]
      exact h0 hw
  · by_cases hlt : m < n
    · rw [e' (m + 1) (by omega)]
      exact (h.some m hlt hw).congr fun f hf => e f (by omega)
    · have : m = n := by omega
      subst this
      rw [el]
      exact (h1 hw).1.congr e
  · by_cases hlt : m < n
    · rw [e' (m + 1) (by omega)]
      exact h.least m hlt hw u (hu.congr fun f hf => e' f (by omega))
    · have : m = n := by omega
      subst this
      rw [el]
      exact (h1 hw).2 u (hu.congr e')
theorem IsAny.ext {g : Good} {lights ar ar' : Nat → Int} {c n : Nat} (h : IsAny g lights ar c n) (h' : IsAny g lights ar' c n) : ∀ m, m ≤ n → ar m = ar' m := by
  intro m
  induction m using Nat.strongRecOn with
  | ind m ih =>
    intro hm
    cases m with
    | zero => rw [h.zero, h'.zero]
    | succ m =>
      by_cases hw : wantN g m = 0
      · rw [h.unw m (by omega) hw, h'.unw m (by omega) hw]
        exact ih m (by omega) (by omega)
      · have e : ∀ f, f ≤ m → ar f = ar' f := fun f hf => ih f (by omega) (by omega)
        have a := h.least m (by omega) hw _ ((h'.some m (by omega) hw).congr fun f hf => (e f hf).symm)
        have b := h'.least m (by omega) hw _ ((h.some m (by omega) hw).congr e)
        omega
/-- the steps of the row anywhere, as told prices -/
structure IsPrices (g : Good) (lights : Nat → Int) (ps : List Int) (n : Nat) : Prop where
  len : ps.length = n
  row : ∃ ar, IsAny g lights ar n n ∧ ∀ k, k < n → rowF ps k = ar (k + 1) - ar k
theorem IsPrices.ext {g : Good} {lights : Nat → Int} {ps ps' : List Int} {n : Nat} (h : IsPrices g lights ps n) (h' : IsPrices g lights ps' n) : ps = ps' := by
  obtain ⟨ar, h1, h2⟩ := h.row
  obtain ⟨ar', h3, h4⟩ := h'.row
  have e := h1.ext h3
  apply List.ext_getElem
  · rw [h.len, h'.len]
  · intro i hi hi'
    have a := h2 i (by rw [← h.len]; exact hi)
    have b := h4 i (by rw [← h.len]; exact hi)
    rw [e (i + 1) (by have := h.len; omega), e i (by have := h.len; omega)] at a
    unfold rowF at a b
    rw [List.getD_eq_getElem?_getD, List.getElem?_eq_getElem hi] at a
    rw [List.getD_eq_getElem?_getD, List.getElem?_eq_getElem hi'] at b
    simp only [Option.getD_some] at a b
    omega
theorem cutV_from (xs : List V) (i : Nat) : cutV xs (some (i : Int)) none = xs.drop i := by
  unfold cutV
  rw [HT.sIx_nat]
  show (xs.drop (min i xs.length)).take (xs.length - min i xs.length) = xs.drop i
  by_cases hi : i ≤ xs.length
  · rw [Nat.min_eq_left hi, List.take_of_length_le (by rw [List.length_drop]; omega)]
  · rw [Nat.min_eq_right (by omega), List.drop_of_length_le (Nat.le_refl _), List.drop_of_length_le (show xs.length ≤ i by omega), List.take_nil]
end Bk

namespace Bk
open PySem PySem.Spec PyProof.Rows L2
/-! ### by how much the prices of stretches that end with a day are more than they cost -/
def kad (w : Nat → Option Int) (pr : Nat → Int) : Nat → Int
  | 0 => 0
  | k + 1 => match w k with
    | none => 0
    | some c => if kad w pr k + pr k - c > 0 then kad w pr k + pr k - c else 0
/-- prices of a good's first n days -/
def IsPr (g : Good) (n : Nat) (d : PyData) (ns : List Int) : Prop := d = .list (ns.map PyData.int) ∧ ns.length = n ∧ ∀ k, k < n → wantN g k = 0 → rowF ns k = 0
/-- the days without a want, and whether the prices there are 0 -/
def zeros (g : Good) (ns : List Int) (i : Nat) : List Bool := (List.range i).filterMap fun k => if wantN g k = 0 then some (decide (rowF ns k = 0)) else none
end Bk

namespace Bk
open PySem PySem.Spec PyProof.Rows L2
/-! ### a block cut in two: what holds between the parts -/
section
variable {A1 A2 A3 A4 A5 A6 B : TS} {D : Ends} {σ : L2.St} {H : Hp} (Pm : L2.St → Hp → Prop)
theorem seq1 (hB : ∀ σ' H', Pm σ' H' → B D σ' H') (hA : ∀ N : L2.St → Hp → Prop, (∀ σ' H', Pm σ' H' → N σ' H') → A1 { D with nx := N } σ H) : tSeq A1 B D σ H := hA _ hB
theorem seq2 (hB : ∀ σ' H', Pm σ' H' → B D σ' H') (hA : ∀ N : L2.St → Hp → Prop, (∀ σ' H', Pm σ' H' → N σ' H') → tSeq A1 A2 { D with nx := N } σ H) : tSeq A1 (tSeq A2 B) D σ H := hA _ hB
theorem seq6 (hB : ∀ σ' H', Pm σ' H' → B D σ' H') (hA : ∀ N : L2.St → Hp → Prop, (∀ σ' H', Pm σ' H' → N σ' H') → tSeq A1 (tSeq A2 (tSeq A3 (tSeq A4 (tSeq A5 A6)))) { D with nx := N } σ H) : tSeq A1 (tSeq A2 (tSeq A3 (tSeq A4 (tSeq A5 (tSeq A6 B))))) D σ H := hA _ hB
end
theorem ixN_nat {n j : Nat} (h : j < n) : ixN n (j : Int) = some j := by
  unfold ixN
  rw [if_pos (by omega), if_pos (by omega)]
  rfl
end Bk

namespace Bk
open PySem PySem.Spec PyProof.Rows L2
/-! ### 1 << k -/
def rOne : R2 := fun x y H Q => ∃ k : Nat, x = .int 1 ∧ y = .int (k : Int) ∧ k ≤ 134217727 ∧ Q (.int (2 ^ k)) H
theorem rOne_i {j : Int} {H : Hp} {Q : VK} : rOne (.int 1) (.int j) H Q = ∃ k : Nat, j = (k : Int) ∧ k ≤ 134217727 ∧ Q (.int (2 ^ k)) H := propext ⟨fun ⟨k, _, e2, h⟩ => by cases e2; exact ⟨k, rfl, h⟩, fun ⟨k, e, h⟩ => ⟨k, rfl, by rw [e], h⟩⟩
theorem rIsB_b {a b : Bool} {H : Hp} {Q : VK} : rIsB (.bl a) (.bl b) H Q = Q (.bl (decide (a = b))) H := propext ⟨fun ⟨_, _, e1, e2, h⟩ => by cases e1; cases e2; exact h, fun h => ⟨a, b, rfl, rfl, h⟩⟩
theorem rNotB_b {a b : Bool} {H : Hp} {Q : VK} : rNotB (.bl a) (.bl b) H Q = Q (.bl (!decide (a = b))) H := propext ⟨fun ⟨_, _, e1, e2, h⟩ => by cases e1; cases e2; exact h, fun h => ⟨a, b, rfl, rfl, h⟩⟩
/-! ### dicts whose keys are days -/
def keyN (ns : List Nat) : List Key := ns.map fun n => Sum.inl ((n : Nat) : Int)
def addN (ns : List Nat) (n : Nat) : List Nat := if n ∈ ns then ns else ns ++ [n]
def rSorD : List V → Hp → VK → Prop := fun xs H Q => ∃ (a : Addr) (kvs : List (Key × V)) (ks : List Int), xs = [.ref a] ∧ Rd H a (.dK kvs) ∧ kvs.map (·.1) = ks.map Sum.inl ∧ ks.length < 64 ∧ ∀ (ys : List Int) (p : Addr), ys.Perm ks → ys.Pairwise (· ≤ ·) → H p = none → Q (.ref p) (upd H p (.lst (ys.map V.int)))
theorem rSorD_r {p : Addr} {H : Hp} {Q : VK} : rSorD [.ref p] H Q = ∃ (kvs : List (Key × V)) (ks : List Int), Rd H p (.dK kvs) ∧ kvs.map (·.1) = ks.map Sum.inl ∧ ks.length < 64 ∧ ∀ (ys : List Int) (q : Addr), ys.Perm ks → ys.Pairwise (· ≤ ·) → H q = none → Q (.ref q) (upd H q (.lst (ys.map V.int))) :=
  propext ⟨fun ⟨_, kvs, ks, e, h⟩ => by cases e; exact ⟨kvs, ks, h⟩, fun ⟨kvs, ks, h⟩ => ⟨p, kvs, ks, rfl, h⟩⟩
end Bk

namespace Bk
open PySem PySem.Spec PyProof.Rows L2
/-! ### a def of the text that may let an exception out -/
structure DefX (P : Program) (w : World) (K : PySem.W.Frag) (mg : Str → Option Value) (base : Heap) (x : Str) (k : Nat) (ps : List Str) (sp : Sp) : Prop where
  ex : ∃ (f : Addr) (fd : FuncData), mg x = some (.ref f) ∧ PySem.W.keepIn K (.ref f) = true ∧ Binds K fd ps [] ∧ FnOk P w K mg base (L2.CX P w) k f fd ps sp
/-! ### {x} of a number or None -/
def smV : V → Prop
  | .non => True
  | .int i => i.natAbs < 10 ^ 60
  | _ => False
def tFmtO (te : TE) : TE := fun σ H Q => te σ H fun x H1 => smV x ∧ ∀ y : Str, y.length ≤ 70 → Q (.str y) H1
theorem log60 {n : Nat} (h : n < 10 ^ 60) : n.log2 < 1920 := by
  by_cases h0 : n = 0
  · subst h0
    decide
  · have : n.log2 < 200 := (Nat.log2_lt h0).mpr (Nat.lt_of_lt_of_le h (by decide))
    omega
/-! ### the __init__ of an error with two fields -/
def spInit2 (K : PySem.W.Frag) (C : Addr) (f1 f2 : Str) : Sp := fun vs H Q _ => ∃ (a : Addr) (u v : V), vs = [.ref a, u, v] ∧ smV u ∧ smV v ∧ H a = some (exo a C none) ∧ ∀ dx, H dx = none → dx ≠ a → Q .non (upd (upd (upd H dx (exd dx [(f1, u)])) a (exo a C (some dx))) dx (exd dx [(f2, v), (f1, u)]))
end Bk

namespace Bk
open PySem PySem.Spec PyProof.Rows L2
/-! ### what is wrong with what is no bakery: the first thing -/
def fbD : Nat → List PyData → Option Nat
  | _, [] => none
  | i, d :: r => if dayB d = true then fbD (i + 1) r else some i
def badG (n : Nat) (d : PyData) : Option (Option Nat) := if goodFormB n d = true then (match d with
    | .tuple [.list ds, _] => (fbD 0 ds).map some
    | _ => some none) else some none
def wgD (n : Nat) : Nat → List PyData → Option (Nat × Option Nat)
  | _, [] => none
  | i, g :: r => match badG n g with
    | none => wgD n (i + 1) r
    | some o => some (i, o)
def wrongD (d : PyData) : Option (Option Nat × Option Nat) := if bakFormB d = true then (match d with
    | .tuple [.list ls, _, .list gs] => (wgD ls.length 0 gs).map fun p => (some p.1, p.2)
    | _ => some (none, none)) else some (none, none)
/-! ### raising -/
def clsBody : Stmt → List Stmt
  | .ClassDef (body := b) .. => b
  | _ => []
def clsM (st : Stmt) (j : Nat) : Stmt := (clsBody st).getD j (.Pass ⟨0, 0, 0, 0⟩)
/-- an error class with two fields, as the top has written it -/
structure Err2 (P : Program) (w : World) (K : PySem.W.Frag) (mg : Str → Option Value) (base : Heap) (x : Str) (C : Addr) (f1 f2 : Str) : Prop where
  g : mg x = some (.ref C)
  T : OexC K C
  init : ∃ (fI : Addr) (fd : FuncData), PySem.W.findIn K (.ref C) "__init__" = some (some (.ref fI)) ∧ PySem.W.typeIn K (.ref fI) = some (.type "function") ∧ Binds K fd ["self", f1, f2] [] ∧ FnOk P w K mg base CX0 1 fI fd ["self", f1, f2] (spInit2 K C f1 f2)
def rRaise2 (K : PySem.W.Frag) (C : Addr) (f1 f2 : Str) (W : WX) (σ : L2.St) (vs : List V) (H1 : Hp) : Prop := vs.length ≤ 1000 ∧ ∀ a, H1 a = none → spInit2 K C f1 f2 (.ref a :: (vs ++ [])) (upd H1 a (exo a C none))
  (fun v H2 => v = .non ∧ ∃ (d : Addr) (fs : List (Str × V)), H2 a = some (exo a C (some d)) ∧ H2 d = some (exd d fs) ∧ H1 d = none ∧ W (.ref C) (some d) σ (upd (del H2 a) d (.xd fs))) (fun _ _ _ => False)
def tRaise2 (K : PySem.W.Frag) (C : Addr) (f1 f2 : Str) (W : WX) (ta : TA) : TS := fun _ σ H => ta σ H fun vs H1 => rRaise2 K C f1 f2 W σ vs H1
end Bk

namespace Bk
open PySem PySem.Spec PyProof.Rows L2
/-! ### + of any two lists that can be read -/
def rCatL (K : PySem.W.Frag) : R2 := fun x y H Q => ∃ (l b : Addr) (xs zs : List V), x = .ref l ∧ y = .ref b ∧ SqL K H l xs ∧ SqL K H b zs ∧ xs.length + zs.length ≤ sizeLine ∧ ∀ p, H p = none → Q (.ref p) (upd H p (.lst (xs ++ zs)))
theorem op_catL {X : Cx} : OpR X (binaryOp .Add) (rCatL X.K) := by
  intro pins s σ H x y v u Q I rx ry h
  obtain ⟨l, b, xs, zs, rfl, rfl, hl, hb, hz, q⟩ := h
  cases rx
  cases ry
  obtain ⟨i1, r1, p1, z1⟩ := I.list hl
  obtain ⟨i2, r2, p2, z2⟩ := I.list hb
  have e1 := r1.length
  have e2 := r2.length
  obtain ⟨⟨k1, d1, t1, s1⟩, n1, g1, c1, f1, w1⟩ := p1
  obtain ⟨⟨k2, d2, t2, s2⟩, n2, g2, c2, f2, w2⟩ := p2
  simp only at c1 f1 w1 c2 f2 w2
  subst c1 f1 w1 c2 f2 w2
  refine concat_meets ⟨_, g1, rfl⟩ ⟨_, g2, rfl⟩ noFill_list_add seq_list_add PySem.F.slot_list_add PySem.F.entry_list_add (PySem.F.args_list_add_2 _ _) (list_addW l b i1.toArray i2.toArray n1 n2 none none s1 s2 (by rw [List.size_toArray, List.size_toArray]; omega)) ⟨g1, g2, ?_⟩
  rw [show i1.toArray ++ i2.toArray = (i1 ++ i2).toArray by simp]
  exact ⟨.ref _, _, I.lnew (t' := s.toks) (r1.append r2) (by rw [List.length_append]; omega), rfl, q _ I.fresh⟩
theorem rCatL_r {K : PySem.W.Frag} {l b : Addr} {H : Hp} {Q : VK} : rCatL K (.ref l) (.ref b) H Q = ∃ xs zs, SqL K H l xs ∧ SqL K H b zs ∧ xs.length + zs.length ≤ sizeLine ∧ ∀ p, H p = none → Q (.ref p) (upd H p (.lst (xs ++ zs))) := propext ⟨fun ⟨_, _, xs, zs, e1, e2, h⟩ => by cases e1; cases e2; exact ⟨xs, zs, h⟩, fun ⟨xs, zs, h⟩ => ⟨l, b, xs, zs, rfl, rfl, h⟩⟩
theorem rSlT_r {K : PySem.W.Frag} {a : Addr} {lo hi : Option Int} {H : Hp} {Q : VK} : rSlT K (.ref a) lo hi H Q = ∃ xs, SqT K H a xs ∧ ¬ (HT.sIx xs.length 0 lo = 0 ∧ HT.sIx xs.length xs.length hi = xs.length) ∧ ∀ p, H p = none → Q (.ref p) (upd H p (.tup (cutV xs lo hi))) := propext ⟨fun ⟨_, xs, e, h⟩ => by cases e; exact ⟨xs, h⟩, fun ⟨xs, h⟩ => ⟨a, xs, rfl, h⟩⟩
def rListOf (K : PySem.W.Frag) : List V → Hp → VK → Prop := fun xs H Q => ∃ p ys, xs = [.ref p] ∧ (SqL K H p ys ∨ SqT K H p ys) ∧ ∀ l, H l = none → Q (.ref l) (upd H l (.lst ys))
theorem call_listOf {X : Cx} : CallR X (.type "list") (rListOf X.K) := call_list_of
theorem rListOf_r {K : PySem.W.Frag} {p : Addr} {H : Hp} {Q : VK} : rListOf K [.ref p] H Q = ∃ ys, (SqL K H p ys ∨ SqT K H p ys) ∧ ∀ l, H l = none → Q (.ref l) (upd H l (.lst ys)) := propext ⟨fun ⟨_, ys, e, h⟩ => by cases e; exact ⟨ys, h⟩, fun ⟨ys, h⟩ => ⟨p, ys, rfl, h⟩⟩
end Bk

namespace Bk
open PySem PySem.Spec PyProof.Rows L2
/-! ### steady bakeries -/
structure Steady (g : Good) : Prop where
  nofine : ∀ d ∈ g.days, d.fine = none
  never : ∀ k d e, g.days[k]? = some d → g.days[k + 1]? = some e → e.loaf ≤ d.loaf + d.keep
theorem keepsL_head {ds : List Day} {b k : Nat} {d : Day} (hb : ds[b]? = some d) (hk : b < k) : keepsL ds b k = d.keep + keepsL ds (b + 1) k := by
  unfold keepsL
  obtain ⟨hi, e⟩ := List.getElem?_eq_some_iff.mp hb
  rw [List.drop_eq_getElem_cons hi, e, show k - b = (k - (b + 1)) + 1 by omega, List.take_succ_cons, List.map_cons, List.sum_cons]
/-- a loaf baked later, for a day behind both, costs no more -/
theorem loaf_later {g : Good} (S : Steady g) {k : Nat} (hk : k < g.days.length) : ∀ (n b : Nat), b + n ≤ k → ∀ z, loafP g b k = some z → ∃ y, loafP g (b + n) k = some y ∧ y ≤ z
  | 0, b, _, z, h => ⟨z, h, Int.le_refl z⟩
  | n + 1, b, hn, z, h => by
    have hd : g.days[b]? = some g.days[b] := List.getElem?_eq_getElem (by omega)
    have he : g.days[b + 1]? = some g.days[b + 1] := List.getElem?_eq_getElem (by omega)
    have st := S.never b _ _ hd he
    generalize g.days[b] = d at hd st
    generalize g.days[b + 1] = e at he st
    have step : ∃ y, loafP g (b + 1) k = some y ∧ y ≤ z := by
      obtain ⟨x, hx, hxz⟩ := loafP_ext' hd h
      obtain ⟨hl, hkp⟩ := (ext_keep (show b ≤ k by omega)).mp hx
      have e2 : extP g (b + 1) k = some (keepsL g.days (b + 1) k) := (ext_keep (show b + 1 ≤ k by omega)).mpr ⟨fun l hl' => by have := hl l hl'; omega, rfl⟩
      refine ⟨e.loaf + keepsL g.days (b + 1) k, by rw [loafP_ext he, e2]; rfl, ?_⟩
      have := keepsL_head hd (show b < k by omega)
      omega
    obtain ⟨y, hy, hyz⟩ := step
    obtain ⟨y2, hy2, h2⟩ := loaf_later S hk n (b + 1) (by omega) y hy
    exact ⟨y2, by rw [show b + (n + 1) = b + 1 + n by omega]; exact hy2, by omega⟩
theorem want_later {g : Good} (S : Steady g) (N : NonNegW g.days) {b c k : Nat} (hk : k < g.days.length) (hbc : b ≤ c) (hck : c ≤ k) {z : Int} (h : wantP g b k = some z) : ∃ y, wantP g c k = some y ∧ y ≤ z := by
  by_cases hw : wantN g k = 0
  · rw [wantP_unw hk hw] at h ⊢
    exact ⟨_, h, Int.le_refl _⟩
  · rcases wantP_inv h with ⟨e, _⟩ | ⟨y, e1, e2⟩
    · exact absurd e hw
    · obtain ⟨y2, h1, h2⟩ := loaf_later S hk (c - b) b (by omega) y e1
      rw [show b + (c - b) = c by omega] at h1
      refine ⟨wantN g k * y2, wantP_of hk fun _ => h1, ?_⟩
      rw [e2]
      exact Int.mul_le_mul_of_nonneg_left h2 (wantN_nonneg N k)
theorem seg_later {g : Good} (S : Steady g) (N : NonNegW g.days) {b c f : Nat} (hbc : b ≤ c) (hcf : c ≤ f) : ∀ (m : Nat) (s : Int), f + m ≤ g.days.length → segP (wantP g b) f m = some s → ∃ t, segP (wantP g c) f m = some t ∧ t ≤ s
  | 0, s, _, h => by
    rw [segP_zero] at h
    exact ⟨0, segP_zero _ _, by have := Option.some.inj h; omega⟩
  | m + 1, s, hm, h => by
    obtain ⟨x, y, h1, h2, h3⟩ := segP_succ h
    obtain ⟨t, h4, h5⟩ := seg_later S N hbc hcf m x (by omega) h1
    obtain ⟨u, h6, h7⟩ := want_later S N (show f + m < g.days.length by omega) hbc (by omega) h2
    exact ⟨t + u, segP_add h4 h6, by omega⟩
theorem segP_split {w : Nat → Option Int} {f : Nat} : ∀ (n m : Nat) {s : Int}, segP w f (m + n) = some s → ∃ x y, segP w f m = some x ∧ segP w (f + m) n = some y ∧ s = x + y
  | 0, m, s, h => ⟨s, 0, h, segP_zero _ _, by omega⟩
  | n + 1, m, s, h => by
    obtain ⟨x, y, h1, h2, h3⟩ := segP_succ (show segP w f (m + n + 1) = some s from h)
    obtain ⟨u, v, h4, h5, h6⟩ := segP_split n m h1
    exact ⟨u, v + y, h4, segP_add h5 (by rw [show f + m + n = f + (m + n) by omega]; exact h2), by omega⟩
theorem segP_join {w : Nat → Option Int} {f : Nat} : ∀ (n m : Nat) {x y : Int}, segP w f m = some x → segP w (f + m) n = some y → segP w f (m + n) = some (x + y)
  | 0, m, x, y, h1, h2 => by
    rw [segP_zero] at h2
    have := Option.some.inj h2
    rw [Nat.add_zero, h1]
    congr 1
    omega
  | n + 1, m, x, y, h1, h2 => by
    obtain ⟨u, v, h3, h4, h5⟩ := segP_succ h2
    have := segP_add (segP_join n m h1 h3) (show w (f + (m + n)) = some v by rw [show f + (m + n) = f + m + n by omega]; exact h4)
    rw [show m + (n + 1) = m + n + 1 by omega, this]
    congr 1
    omega
/-- any last stretch may as well begin with the day it is baked on -/
theorem diag {g : Good} {lights row : Nat → Int} {n : Nat} (h : IsRow g lights row n) (hn : n ≤ g.days.length) (hl : ∀ b, 0 ≤ lights b) (N : NonNegW g.days) (S : Steady g) {m : Nat} (hm : m < n) : ∀ (f b : Nat) (s : Int), b ≤ m → f ≤ m → segP (wantP g b) f (m + 1 - f) = some s →
    ∃ d t, d ≤ m ∧ segP (wantP g d) d (m + 1 - d) = some t ∧ row d + lights d + t ≤ row f + lights b + s := by
  intro f
  induction f using Nat.strongRecOn with
  | ind f ih =>
    intro b s hb hf hs
    by_cases hbf : b = f
    · subst hbf
      exact ⟨b, s, hb, hs, Int.le_refl _⟩
    · by_cases hlt : f < b
      · -- what would wait is not wanted
        have e : m + 1 - f = (b - f) + (m + 1 - b) := by omega
        rw [e] at hs
        obtain ⟨x, y, h1, h2, h3⟩ := segP_split _ _ hs
        rw [show f + (b - f) = b by omega] at h2
        have fl := row_flat h (f := f) b (by omega) (by omega) fun k hk1 hk2 => by
          obtain ⟨z, hz⟩ := segP_all h1 (k - f) (by omega)
          rw [show f + (k - f) = k by omega] at hz
          exact wantP_late S.nofine hk2 hz
        have nx := segP_nonneg (fun k z e => wantP_nonneg N e) h1
        exact ⟨b, y, hb, h2, by omega⟩
      · have hbf : b < f := by omega
        obtain ⟨f1, rfl⟩ : ∃ f1, f = f1 + 1 := ⟨f - 1, by omega⟩
        rcases h.some f1 (by omega) with ⟨b', f', s', hb', hf', hs', hv⟩ | ⟨⟨d, hd, hw⟩, hv⟩
        · by_cases hbb : b ≤ b'
          · obtain ⟨t, h1, h2⟩ := seg_later S N (f := f1 + 1) hbb (by omega) (m + 1 - (f1 + 1)) s (by omega) hs
            have e : m + 1 - f' = (f1 + 1 - f') + (m + 1 - (f1 + 1)) := by omega
            have j := segP_join (w := wantP g b') (f := f') (m + 1 - (f1 + 1)) (f1 + 1 - f') hs' (by rw [show f' + (f1 + 1 - f') = f1 + 1 by omega]; exact h1)
            rw [← e] at j
            obtain ⟨d, t', h3, h4, h5⟩ := ih f' (by omega) b' _ (by omega) (by omega) j
            have := hl b
            exact ⟨d, t', h3, h4, by omega⟩
          · by_cases hfb : b ≤ f'
            · obtain ⟨t, h1, h2⟩ := seg_later S N (b := b') (c := b) (f := f') (by omega) hfb (f1 + 1 - f') s' (by omega) hs'
              have e : m + 1 - f' = (f1 + 1 - f') + (m + 1 - (f1 + 1)) := by omega
              have j := segP_join (w := wantP g b) (f := f') (m + 1 - (f1 + 1)) (f1 + 1 - f') h1 (by rw [show f' + (f1 + 1 - f') = f1 + 1 by omega]; exact hs)
              rw [← e] at j
              obtain ⟨d, t', h3, h4, h5⟩ := ih f' (by omega) b _ (by omega) (by omega) j
              have := hl b'
              exact ⟨d, t', h3, h4, by omega⟩
            · -- the days from b on are baked on b
              have e1 : f1 + 1 - f' = (b - f') + (f1 + 1 - b) := by omega
              rw [e1] at hs'
              obtain ⟨x, y, h1, h2, h3⟩ := segP_split _ _ hs'
              rw [show f' + (b - f') = b by omega] at h2
              have hrb : row b ≤ row f' + lights b' + x := by
                have := h.least (b - 1) (by omega) (row f' + lights b' + x) (.inl ⟨b', f', x, by omega, by omega, by rw [show b - 1 + 1 - f' = b - f' by omega]; exact h1, rfl⟩)
                rw [show b - 1 + 1 = b by omega] at this
                exact this
              obtain ⟨t, h4, h5⟩ := seg_later S N (b := b') (c := b) (f := b) (by omega) (Nat.le_refl b) (f1 + 1 - b) y (by omega) h2
              have e : m + 1 - b = (f1 + 1 - b) + (m + 1 - (f1 + 1)) := by omega
              have j := segP_join (w := wantP g b) (f := b) (m + 1 - (f1 + 1)) (f1 + 1 - b) h4 (by rw [show b + (f1 + 1 - b) = f1 + 1 by omega]; exact hs)
              rw [← e] at j
              exact ⟨b, _, hb, j, by omega⟩
        · have hw0 : wantN g f1 = 0 := (wantN_at hd).trans hw
          have j := segP_join (w := wantP g b) (f := f1) (m + 1 - (f1 + 1)) 1 (x := 0) (by
            have := segP_add (segP_zero (wantP g b) f1) (show wantP g b (f1 + 0) = some 0 from wantP_unw (by omega) hw0)
            exact this) hs
          rw [show 1 + (m + 1 - (f1 + 1)) = m + 1 - f1 by omega] at j
          obtain ⟨d, t', h3, h4, h5⟩ := ih f1 (by omega) b _ (by omega) (by omega) j
          exact ⟨d, t', h3, h4, by omega⟩
/-! ### the last lit day -/
/-- a cheapest plan for the first j days bakes all from d on, something, on d -/
def EndsAt (g : Good) (lights row : Nat → Int) (j d : Nat) : Prop := d < j ∧ 0 < sumN (fun i => wantN g (d + i)) (j - d) ∧ ∃ s, segP (wantP g d) d (j - d) = some s ∧ row d + lights d + s = row j
def IsLast (g : Good) (lights row : Nat → Int) (j : Nat) : Option Nat → Prop
  | none => ∀ d, ¬ EndsAt g lights row j d
  | some d => EndsAt g lights row j d ∧ ∀ e, d < e → ¬ EndsAt g lights row j e
theorem IsLast.uniq {g : Good} {lights row : Nat → Int} {j : Nat} {o o' : Option Nat} (h : IsLast g lights row j o) (h' : IsLast g lights row j o') : o = o' := by
  cases o with
  | none =>
    cases o' with
    | none => rfl
    | some d => exact absurd h'.1 (h d)
  | some d =>
    cases o' with
    | none => exact absurd h.1 (h' d)
    | some e =>
      congr 1
      by_cases h1 : d < e
      · exact absurd h'.1 (h.2 e h1)
      · by_cases h2 : e < d
        · exact absurd h.1 (h'.2 d h2)
        · omega
theorem wsum_zero {g : Good} {d : Nat} (N : NonNegW g.days) : ∀ m, sumN (fun i => wantN g (d + i)) m = 0 → ∀ i, i < m → wantN g (d + i) = 0
  | 0, _, i, hi => by omega
  | m + 1, h, i, hi => by
    have h : sumN (fun i => wantN g (d + i)) m + wantN g (d + m) = 0 := h
    have a := sumN_nonneg (f := fun i => wantN g (d + i)) m fun k _ => wantN_nonneg N _
    have b := wantN_nonneg N (d + m)
    by_cases e : i = m
    · subst e
      omega
    · exact wsum_zero N m (by omega) i (by omega)
theorem wsum_pos {g : Good} {d m i : Nat} (N : NonNegW g.days) (hi : i < m) (h : 0 < wantN g (d + i)) : 0 < sumN (fun i => wantN g (d + i)) m := by
  have a := sumN_nonneg (f := fun i => wantN g (d + i)) m fun k _ => wantN_nonneg N _
  by_cases e : sumN (fun i => wantN g (d + i)) m = 0
  · have := wsum_zero N m e i hi
    omega
  · omega
section
variable {g : Good} {lights row : Nat → Int} {n : Nat}
/-- of a day without a want nothing changes -/
theorem last_unw (h : IsRow g lights row n) (hn : n ≤ g.days.length) (hl : ∀ b, 0 ≤ lights b) (N : NonNegW g.days) (S : Steady g) {m : Nat} (hm : m < n) (hw : wantN g m = 0) (d : Nat) : EndsAt g lights row (m + 1) d ↔ EndsAt g lights row m d := by
  have er : row (m + 1) = row m := by
    have a := row_up h hl N S.nofine hm
    have b := row_flat h (f := m) (m + 1) (by omega) (by omega) fun k h1 h2 => by
      rw [show k = m by omega]
      exact wantN_zero (by omega) hw
    omega
  constructor
  · rintro ⟨h1, h2, s, h3, h4⟩
    have hdm : d < m := by
      by_cases e : d = m
      · subst e
        rw [show d + 1 - d = 1 by omega] at h2
        have h2 : 0 < 0 + wantN g (d + 0) := h2
        rw [Nat.add_zero, hw] at h2
        omega
      · omega
    rw [show m + 1 - d = (m - d) + 1 by omega] at h2 h3
    obtain ⟨x, y, a1, a2, a3⟩ := segP_succ h3
    rw [show d + (m - d) = m by omega, wantP_unw (by omega) hw] at a2
    have a2 := Option.some.inj a2
    have h2 : 0 < sumN (fun i => wantN g (d + i)) (m - d) + wantN g (d + (m - d)) := h2
    rw [show d + (m - d) = m by omega, hw] at h2
    exact ⟨hdm, by omega, x, a1, by omega⟩
  · rintro ⟨h1, h2, s, h3, h4⟩
    refine ⟨by omega, ?_, s, ?_, by omega⟩
    · rw [show m + 1 - d = (m - d) + 1 by omega]
      show 0 < sumN (fun i => wantN g (d + i)) (m - d) + wantN g (d + (m - d))
      rw [show d + (m - d) = m by omega, hw]
      omega
    · rw [show m + 1 - d = (m - d) + 1 by omega]
      have := segP_add h3 (show wantP g d (d + (m - d)) = some 0 by rw [show d + (m - d) = m by omega]; exact wantP_unw (by omega) hw)
      rw [this, Int.add_zero]
theorem last_wanted (h : IsRow g lights row n) (hn : n ≤ g.days.length) (hl : ∀ b, 0 ≤ lights b) (N : NonNegW g.days) (S : Steady g) {m : Nat} (hm : m < n) (hw : wantN g m ≠ 0) : ∃ d, EndsAt g lights row (m + 1) d := by
  have hp : 0 < wantN g m := by have := wantN_nonneg N m; omega
  rcases h.some m hm with ⟨b, f, s, hb, hf, hs, hv⟩ | ⟨⟨d, hd, hw'⟩, _⟩
  · obtain ⟨d, t, h1, h2, h3⟩ := diag h hn hl N S hm f b s hb hf hs
    have h4 := h.least m hm _ (.inl ⟨d, d, t, h1, h1, h2, rfl⟩)
    refine ⟨d, by omega, wsum_pos N (i := m - d) (by omega) (by rw [show d + (m - d) = m by omega]; exact hp), t, h2, by omega⟩
  · exact absurd ((wantN_at hd).trans hw') hw
/-- it never goes back -/
theorem last_up (h : IsRow g lights row n) (hn : n ≤ g.days.length) (hl : ∀ b, 0 ≤ lights b) (N : NonNegW g.days) (S : Steady g) {m d e : Nat} (hm : m < n) (hw : wantN g m ≠ 0) (hd : EndsAt g lights row m d) (he : IsLast g lights row (m + 1) (some e)) : d ≤ e := by
  by_cases hlt : e < d
  · exfalso
    obtain ⟨d1, d2, s, d3, d4⟩ := hd
    obtain ⟨⟨e1, e2, t, e3, e4⟩, e5⟩ := he
    rw [show m + 1 - e = (m - e) + 1 by omega] at e3
    obtain ⟨x, y, a1, a2, a3⟩ := segP_succ e3
    rw [show e + (m - e) = m by omega] at a2
    obtain ⟨y', b1, b2⟩ := want_later S N (show m < g.days.length by omega) (show e ≤ d by omega) (by omega) a2
    have le : row m ≤ row e + lights e + x := by
      have := h.least (m - 1) (by omega) (row e + lights e + x) (.inl ⟨e, e, x, by omega, by omega, by rw [show m - 1 + 1 - e = m - e by omega]; exact a1, rfl⟩)
      rw [show m - 1 + 1 = m by omega] at this
      exact this
    have sg : segP (wantP g d) d (m + 1 - d) = some (s + y') := by
      rw [show m + 1 - d = (m - d) + 1 by omega]
      exact segP_add d3 (by rw [show d + (m - d) = m by omega]; exact b1)
    have ge := h.least m hm _ (.inl ⟨d, d, _, by omega, by omega, sg, rfl⟩)
    have hp : 0 < wantN g m := by have := wantN_nonneg N m; omega
    exact e5 d hlt ⟨by omega, wsum_pos N (i := m - d) (by omega) (by rw [show d + (m - d) = m by omega]; exact hp), _, sg, by omega⟩
  · omega
end
end Bk

namespace Bk
open PySem PySem.Spec PyProof.Rows L2
def natO (o : Option Nat) : Option Int := o.map fun d => (d : Int)
def natV (o : Option Nat) : V := optV (natO o)
/-- the last lit days of a bakery's first days -/
structure Lasts (g : Good) (ls : List Int) (os : List (Option Nat)) : Prop where
  len : os.length = ls.length + 1
  row : ∃ row, IsRow g (rowF ls) row ls.length ∧ ∀ j o, os[j]? = some o → IsLast g (rowF ls) row j o
theorem EndsAt.congr {g : Good} {lights lights' row row' : Nat → Int} {j d : Nat} (e : ∀ k, k ≤ j → row k = row' k) (el : ∀ k, k < j → lights k = lights' k) (h : EndsAt g lights row j d) : EndsAt g lights' row' j d := by
  obtain ⟨h1, h2, s, h3, h4⟩ := h
  exact ⟨h1, h2, s, h3, by rw [← e d (by omega), ← e j (Nat.le_refl j), ← el d h1]; exact h4⟩
theorem IsLast.of_iff {g g' : Good} {lights lights' row row' : Nat → Int} {j j' : Nat} {o : Option Nat} (e : ∀ d, EndsAt g lights row j d ↔ EndsAt g' lights' row' j' d) (h : IsLast g lights row j o) : IsLast g' lights' row' j' o := by
  cases o with
  | none => exact fun d z => h d ((e d).mpr z)
  | some d => exact ⟨(e d).mp h.1, fun x hx z => h.2 x hx ((e x).mpr z)⟩
theorem Lasts.at_ {g : Good} {ls : List Int} {os : List (Option Nat)} (h : Lasts g ls os) {row : Nat → Int} (hR : IsRow g (rowF ls) row ls.length) {j : Nat} {o : Option Nat} (ho : os[j]? = some o) : IsLast g (rowF ls) row j o := by
  obtain ⟨row', h1, h2⟩ := h.row
  have hj : j < os.length := (List.getElem?_eq_some_iff.mp ho).1
  have hl := h.len
  have e := h1.ext hR
  exact (h2 j o ho).of_iff fun d => ⟨fun z => z.congr (fun k hk => e k (by omega)) fun _ _ => rfl, fun z => z.congr (fun k hk => (e k (by omega)).symm) fun _ _ => rfl⟩
theorem Lasts.uniq {g : Good} {ls : List Int} {os os' : List (Option Nat)} (h : Lasts g ls os) (h' : Lasts g ls os') : os = os' := by
  obtain ⟨row, h1, h2⟩ := h.row
  apply List.ext_getElem?
  intro j
  by_cases hj : j < ls.length + 1
  · have e := List.getElem?_eq_getElem (show j < os.length by rw [h.len]; exact hj)
    have e' := List.getElem?_eq_getElem (show j < os'.length by rw [h'.len]; exact hj)
    rw [e, e', (h2 j _ e).uniq (h'.at_ h1 e')]
  · rw [List.getElem?_eq_none (by rw [h.len]; omega), List.getElem?_eq_none (by rw [h'.len]; omega)]
theorem wantN_take {g : Good} {m k : Nat} (hk : k < m) : wantN ⟨g.days.take m, g.life⟩ k = wantN g k := by
  unfold wantN
  dsimp only
  rw [List.getElem?_take_of_lt hk]
theorem ends_take {g : Good} {lights lights' row : Nat → Int} {m j d : Nat} (hj : j ≤ m) (el : ∀ k, k < m → lights' k = lights k) : EndsAt g lights row j d ↔ EndsAt ⟨g.days.take m, g.life⟩ lights' row j d := by
  have key : d < j → sumN (fun i => wantN ⟨g.days.take m, g.life⟩ (d + i)) (j - d) = sumN (fun i => wantN g (d + i)) (j - d) := fun hd => sumN_congr _ fun i hi => wantN_take (by omega)
  constructor
  · rintro ⟨h1, h2, s, h3, h4⟩
    exact ⟨h1, by rw [key h1]; exact h2, s, by rw [segP_take (by omega) (by omega)]; exact h3, by rw [el d (by omega)]; exact h4⟩
  · rintro ⟨h1, h2, s, h3, h4⟩
    exact ⟨h1, by rw [← key h1]; exact h2, s, by rw [← segP_take (j := m) (by omega) (by omega)]; exact h3, by rw [← el d (by omega)]; exact h4⟩
theorem Lasts.take {g : Good} {ls : List Int} {os : List (Option Nat)} (h : Lasts g ls os) {m : Nat} (hm : m ≤ ls.length) : Lasts ⟨g.days.take m, g.life⟩ (ls.take m) (os.take (m + 1)) := by
  obtain ⟨row, h1, h2⟩ := h.row
  have el : (ls.take m).length = m := by rw [List.length_take]; omega
  refine ⟨by rw [List.length_take, h.len, el]; omega, row, ?_, fun j o ho => ?_⟩
  · rw [el]
    exact row_lights (fun b hb => (rowF_take hb).symm) (h1.take hm)
  · have hj : j < m + 1 := by
      have := (List.getElem?_eq_some_iff.mp ho).1
      rw [List.length_take] at this
      omega
    rw [List.getElem?_take_of_lt hj] at ho
    exact (h2 j o ho).of_iff fun d => ends_take (by omega) fun k hk => rowF_take hk
theorem Steady.take {g : Good} (h : Steady g) (m : Nat) : Steady ⟨g.days.take m, g.life⟩ := by
  refine ⟨fun d hd => h.nofine d (List.mem_of_mem_take hd), fun k d e hd he => ?_⟩
  have hk : k + 1 < m := by
    have := (List.getElem?_eq_some_iff.mp he).1
    rw [List.length_take] at this
    omega
  have hd : (g.days.take m)[k]? = some d := hd
  have he : (g.days.take m)[k + 1]? = some e := he
  rw [List.getElem?_take_of_lt (by omega)] at hd
  rw [List.getElem?_take_of_lt hk] at he
  exact h.never k d e hd he
/-! ### lists of days or None, compared -/
theorem atI_last {α : Type} {xs : List α} {m : Nat} {v : α} (h : xs.length = m + 1) (e : xs[m]? = some v) : atI xs (-1) = some v := by
  have k : ixN xs.length (-1) = some m := by
    rw [h]
    unfold ixN
    rw [if_neg (by decide), if_pos (by omega)]
    congr 1
    omega
  unfold atI
  rw [k]
  exact e
end Bk

namespace Bk
open PySem PySem.Spec PyProof.Rows L2
/-! ### list != []: whatever the list holds -/
def rNeN (K : PySem.W.Frag) : R2 := fun x y H Q => ∃ (l b : Addr) (xs : List V), x = .ref l ∧ y = .ref b ∧ SqL K H l xs ∧ SqL K H b [] ∧ Q (.bl (!decide (xs.length = 0))) H
theorem rNeN_r {K : PySem.W.Frag} {l b : Addr} {H : Hp} {Q : VK} : rNeN K (.ref l) (.ref b) H Q = ∃ xs, SqL K H l xs ∧ SqL K H b [] ∧ Q (.bl (!decide (xs.length = 0))) H := propext ⟨fun ⟨_, _, xs, e1, e2, h⟩ => by cases e1; cases e2; exact ⟨xs, h⟩, fun ⟨xs, h⟩ => ⟨l, b, xs, rfl, rfl, h⟩⟩
end Bk

namespace Bk
open PySem PySem.Spec PyProof.Rows L2
/-! ### i not in range(lo, hi) -/
def rNinr : R2 := fun x y H Q => ∃ (i : Int) (p : Addr) (m n : Int), x = .int i ∧ y = .ref p ∧ H p = some (.rng m n) ∧ Q (.bl (!decide (m ≤ i ∧ i < n))) H
theorem rNinr_r {i : Int} {a : Addr} {H : Hp} {Q : VK} : rNinr (.int i) (.ref a) H Q = ∃ lo hi, H a = some (.rng lo hi) ∧ Q (.bl (!decide (lo ≤ i ∧ i < hi))) H := propext ⟨fun ⟨_, _, lo, hi, e1, e2, h⟩ => by cases e1; cases e2; exact ⟨lo, hi, h⟩, fun ⟨lo, hi, h⟩ => ⟨i, a, lo, hi, rfl, rfl, h⟩⟩
end Bk

namespace Bk
open PySem PySem.Spec PyProof.Rows L2
/-! ### what is a bakery by the looks has its shape -/
/-! ### t[::-1] of a tuple -/
def backV {α : Type} (xs : List α) : List α := ((List.range xs.length).map fun (k : Nat) => ((xs.length : Int) - 1 + (k : Int) * -1).toNat).filterMap (xs[·]?)
section
variable {prog : Program} {w : World} {A : Around} {E : Value → Shared → Prop} {s : Shared}
end
def tBackT (K : PySem.W.Frag) (te : TE) (tl th ts : TO) : TE := fun σ H Q => te σ H fun x H1 => tl σ H1 fun l H2 => th σ H2 fun u H3 => ts σ H3 fun st H4 => ∃ a xs, x = .ref a ∧ SqT K H4 a xs ∧ l = none ∧ u = none ∧ st = some (-1) ∧
  ∀ p, H4 p = none → Q (.ref p) (upd H4 p (.tup (backV xs)))
/-! ### expressions that tell some data, whatever they are -/
def Grow (R : Hp → V → Prop) : Prop := ∀ H H' y, Same H H' → R H y → R H' y
def Ye (R : Hp → V → Prop) (te : TE) (σ : L2.St) (H : Hp) : Prop := ∀ H1, Same H H1 → ∀ Q : VK, (∀ H2 y, Same H1 H2 → R H2 y → Q y H2) → te σ H1 Q
def Ya (R : Hp → List V → Prop) (ta : TA) (σ : L2.St) (H : Hp) : Prop := ∀ H1, Same H H1 → ∀ Q : List V → Hp → Prop, (∀ H2 ys, Same H1 H2 → R H2 ys → Q ys H2) → ta σ H1 Q
def Yo (to : TO) (σ : L2.St) (H : Hp) : Prop := ∀ H1, Same H H1 → ∀ Q : Option Int → Hp → Prop, (∀ H2 o, Same H1 H2 → Q o H2) → to σ H1 Q
def Yt (tt : TT) (σ : L2.St) (H : Hp) : Prop := ∀ H1, Same H H1 → ∀ Q : Bool → Hp → Prop, (∀ H2 b, Same H1 H2 → Q b H2) → tt σ H1 Q
def AnyD (K : PySem.W.Frag) : Hp → V → Prop := fun H y => ∃ d, Th K H y d
def TupD (K : PySem.W.Frag) (n : Nat) : Hp → V → Prop := fun H y => ∃ ds, ds.length ≤ n ∧ Th K H y (.tuple ds)
def LstD (K : PySem.W.Frag) (n : Nat) : Hp → V → Prop := fun H y => ∃ ds, ds.length ≤ n ∧ Th K H y (.list ds)
def LstE (K : PySem.W.Frag) (n : Nat) : Hp → V → Prop := fun H y => ∃ ds, ds.length = n ∧ Th K H y (.list ds)
def AllD (K : PySem.W.Frag) (n : Nat) : Hp → List V → Prop := fun H ys => ∃ ds, ds.length = n ∧ ThAll K H ys ds
def IntD (P : Int → Prop) : Hp → V → Prop := fun _ y => ∃ i, y = .int i ∧ P i
section
variable {K : PySem.W.Frag} {σ : L2.St} {H : Hp} {te ta tb : TE} {R R' : Hp → V → Prop}
theorem Ye.at (h : Ye R te σ H) {H1 : Hp} (S : Same H H1) {Q : VK} (q : ∀ H2 y, Same H1 H2 → R H2 y → Q y H2) : te σ H1 Q := h H1 S Q q
theorem Ye.same (h : Ye R te σ H) {H1 : Hp} (S : Same H H1) : Ye R te σ H1 := fun H2 S2 => h H2 (S.trans S2)
theorem Ye.weak (h : Ye R te σ H) (w : ∀ H y, R H y → R' H y) : Ye R' te σ H := fun H1 S Q q => h H1 S Q fun H2 y S2 r => q H2 y S2 (w _ _ r)
theorem Ye.tup {n : Nat} (h : Ye (TupD K n) te σ H) : Ye (AnyD K) te σ H := h.weak fun _ _ ⟨ds, _, t⟩ => ⟨_, t⟩
theorem Ye.lst {n : Nat} (h : Ye (LstD K n) te σ H) : Ye (AnyD K) te σ H := h.weak fun _ _ ⟨ds, _, t⟩ => ⟨_, t⟩
theorem Ye.exact {n : Nat} (h : Ye (LstE K n) te σ H) : Ye (LstD K n) te σ H := h.weak fun _ _ ⟨ds, e, t⟩ => ⟨_, Nat.le_of_eq e, t⟩
theorem Ye.int {P : Int → Prop} (h : Ye (IntD P) te σ H) : Ye (AnyD K) te σ H := h.weak fun _ _ ⟨i, e, _⟩ => ⟨.int i, by rw [e]; exact .int i⟩
def rTupOf (K : PySem.W.Frag) : List V → Hp → VK → Prop := fun xs H Q => ∃ p ys, xs = [.ref p] ∧ ((SqL K H p ys ∧ ∀ l, H l = none → Q (.ref l) (upd H l (.tup ys))) ∨ (SqT K H p ys ∧ Q (.ref p) H))
theorem call_tupOf {X : Cx} : CallR X (.type "tuple") (rTupOf X.K) := call_tuple_of
def LstT (K : PySem.W.Frag) (n : Nat) : Hp → V → Prop := fun H y => ∃ a xs ds, y = .ref a ∧ H a = some (.lst xs) ∧ ThAll K H xs ds ∧ ds.length ≤ n
/-! ### rows of a block, one by one -/
section
variable {A B C : TS} {D : Ends} {tt : TT}
end
end
end Bk

namespace Bk
open PySem PySem.Spec PyProof.Rows L2
/-! ### max(xs, default=d) of a list of ints -/
section
variable {prog : Program} {w : World} {A : Around} {E : Value → Shared → Prop} {s : Shared}
variable {R : Result → Shared → Prop} {J : Addr} {fp wr : List Addr} {n : Nat} {P : Nat → Value → Prop} {St : Nat → Heap → Prop} {kw : List (Str × Value)}
end
def rMaxD (K : PySem.W.Frag) : List V → List V → Hp → VK → Prop := fun vs zs H Q => ∃ (a : Addr) (ns : List Int) (d : Int), vs = [V.ref a] ∧ zs = [V.int d] ∧ SqL K H a (ns.map V.int) ∧ (ns = [] → Q (.int d) H) ∧ ∀ m, m ∈ ns → (∀ y, y ∈ ns → y ≤ m) → Q (.int m) H
end Bk

namespace Bk
open PySem PySem.Spec PyProof.Rows L2
/-! ### chains of last lit days -/
def Down (os : List (Option Nat)) : Prop := ∀ (j d : Nat), os[j]? = some (some d) → d < j
def chainN (os : List (Option Nat)) : Nat → Nat → List Nat
  | 0, j => [j]
  | f + 1, j => j :: (match os[j]? with | some (some d) => chainN os f d | _ => [])
def chain (os : List (Option Nat)) (j : Nat) : List Nat := chainN os j j
section
variable {os : List (Option Nat)}
/-- in the chains of all numbers from the last lit day on -/
def SharedM (os : List (Option Nat)) (n m : Nat) : Prop := ∃ l, os[n]? = some (some l) ∧ ∀ k, l ≤ k → k < n → m ∈ chain os k
structure IsMany (os : List (Option Nat)) (n m : Nat) : Prop where
  most : ∀ m', SharedM os n m' → m' ≤ m
  at_ : m = 0 ∨ SharedM os n m
theorem IsMany.uniq {n m m' : Nat} (h : IsMany os n m) (h' : IsMany os n m') : m = m' := by
  rcases h.at_ with e | e <;> rcases h'.at_ with e' | e'
  · omega
  · have := h.most m' e'
    omega
  · have := h'.most m e
    omega
  · have := h.most m' e'
    have := h'.most m e
    omega
def litOf (os : List (Option Nat)) (m : Nat) : List Nat := (chain os m).tail.reverse
end
def natI (n : Nat) : V := .int (n : Int)
end Bk

namespace Bk
open PySem PySem.Spec PyProof.Rows L2
/-! ### dict(pairs), walks over a dict that is locked -/
def rDictP (K : PySem.W.Frag) : List V → Hp → VK → Prop := fun xs H Q => ∃ (a : Addr) (ps : List Addr) (kvs : List (Key × V)), xs = [.ref a] ∧ SqL K H a (ps.map V.ref) ∧ Paired (fun p kv => SqT K H p [kV kv.1, kv.2]) ps kvs ∧ ∀ p, H p = none → Q (.ref p) (upd H p (.dK (mergeK [] kvs)))
/-- a dict whose keys are just these days -/
structure DictN (H : Hp) (p : Addr) (ns : List Nat) : Prop where
  ex : ∃ kvs : List (Key × V), H p = some (.dK kvs) ∧ kvs.map (·.1) = keyN ns
theorem DictN.same {H H' : Hp} {p : Addr} {ns : List Nat} (h : DictN H p ns) (s : Same H H') : DictN H' p ns := by
  obtain ⟨kvs, e, k⟩ := h.ex
  exact ⟨kvs, s _ _ e, k⟩
end Bk

namespace Bk
open PySem PySem.Spec PyProof.Rows L2
/-! ### d == {}, and dicts of days with whole numbers -/
def rEqDE : R2 := fun x y H Q => ∃ a b ks, x = .ref a ∧ y = .ref b ∧ H a = some (.dK ks) ∧ H b = some (.dK []) ∧ Q (.bl (decide (ks.length = 0))) H
def mkE (es : List (Nat × Int)) : List (Key × V) := es.map fun e => (Sum.inl ((e.1 : Nat) : Int), V.int e.2)
def putE (es : List (Nat × Int)) (d : Nat) (v : Int) : List (Nat × Int) := if (es.any fun e => decide (e.1 = d)) = true then es.map (fun e => if e.1 = d then (d, v) else e) else es ++ [(d, v)]
def lookE (es : List (Nat × Int)) (d : Nat) : Option Int := (es.find? fun e => decide (e.1 = d)).map (·.2)
end Bk

namespace Bk
open PySem PySem.Spec PyProof.Rows L2
/-! ### set(xs) of a list of ints -/
abbrev emp0 (w : World) : Obj := { cls := .type "set", dict := none, data := .set #[] 0 (.fresh 0 0 (!w.params.followText "set-order")) }
section
variable {P : Program} {w : World} {A : Around} {E : Value → Shared → Prop} {s : Shared}
set_option maxHeartbeats 3200000 in
theorem set_ofList {l : Addr} {its : Array Value} (zs : List Int) {Q : Value → Shared → Prop} (ah : A.handled = none) (il : s.heap.IsList l its) (ia : IntsAre its.toList zs) (few : zs.length + 1 < scanBound)
    (go : ∀ (h' : Heap) (tk c : Nat), SetR w h' s.heap.objs.size (fun j => decide (j ∈ zs)) c → c ≤ zs.length → (∀ b o, s.heap.get? b = some o → h'.get? b = some o) → Q (.ref s.heap.objs.size) { s with heap := h', toks := tk }) : wpAny (model P w) A (call (.type "set") [.ref l]) Q E s := by
  have isz : its.size = zs.length := by have z := IntsAre.length ia; rw [Array.length_toList] at z; exact z
  obtain ⟨c, tl, m1⟩ := F.called_set.mro
  have m2 := F.called_set.made
  have m3 := F.called_set.sub
  refine wpAny_call (codeAny_of_tree ?_); show wpAny _ _ (callAny (.type "set") _) _ _ _
  refine wpAny_pure ⟨Code.quiet_builtin _ (by decide +kernel), codeAny_builtin F.entry_type_call ?_⟩; rw [Around.under_plain (weight_type_call_type "set" [.ref l] []) rfl]
  have m4 := F.called_set.notType
  have m5 := F.called_set.canCreate
  have m6 := F.typeCall_set_1 (.ref l)
  repeat (any_goals (first | assumption | wp_step))
  refine codeAny_mono (code_set_led1 (.ref l) (E := E) (Q₁ := fun u t => u = .ref s.heap.objs.size ∧ t = { s with heap := s.heap.push (emp0 w) }) ⟨rfl, rfl⟩) fun r t hr => ?_
  cases r with
  | error e => exact hr
  | ok fl =>
    cases fl with
    | ret u =>
      obtain ⟨rfl, rfl⟩ := hr
      have eS : (s.heap.push (emp0 w)).get? s.heap.objs.size = some (emp0 w) := Heap.get?_push_size _ rfl
      have eT : Shared.TypeIs { s with heap := s.heap.push (emp0 w) } (.ref s.heap.objs.size) "set" := ⟨_, eS, rfl⟩
      have m7 := F.called_set.init.lookup
      have m8 := F.called_set.init.bind (.ref s.heap.objs.size)
      repeat (any_goals (first | assumption | wp_step))
      refine codeAny_mono (codeAny_call_builtin (R := wants (fun r t2 => r = .none ∧ ∃ h' tk c, t2 = { s with heap := h', toks := tk } ∧ SetR w h' s.heap.objs.size (fun j => decide (j ∈ zs)) c ∧ c ≤ zs.length ∧ (∀ b o, s.heap.get? b = some o → h'.get? b = some o)) E) F.called_set.init.plain F.entry_set_init (check_set_init_1 eT ?_)) fun r2 t2 hr2 => ?_
      · obtain ⟨ob, eb, ec, nl, ed⟩ := il
        obtain ⟨b1, b2, b3, b4⟩ := ob
        simp only at ec ed
        subst ec
        subst ed
        have eb' : (s.heap.push (emp0 w)).get? l = some { cls := .type "list", dict := b2, data := .seq its nl, slots := b4 } := Heap.get?_push_of_some _ eb
        have m9 := F.sub_list_set
        have ma := F.sub_list_frozenset
        have mb : (Value.type "list" == Value.type "dict") = false := by decide
        have il1 : (s.heap.push (emp0 w)).IsList l its := ⟨_, eb', rfl, nl, rfl⟩
        unfold Builtin.«set.__init__» noKeywords Builtin.Frozenset.updateFrom
        generalize hI : pyIter = PI
        wp_walk
        subst hI
        refine wpAny_pyIter_list il1 ?_
        refine wpAny_bind (wpAny_runValue ?_)
        have ll : l < s.heap.objs.size := Heap.lt_size eb
        have ah3 : A.in1.in1.in1.handled = none := by simp [ah]
        have nI : l ≠ (s.heap.push (emp0 w)).objs.size := by rw [Heap.size_push]; exact Nat.ne_of_lt (Nat.lt_succ_of_lt ll)
        have nS : s.heap.objs.size ∉ [(s.heap.push (emp0 w)).objs.size, l] := by
          rw [Heap.size_push]; simp only [List.mem_cons, List.mem_singleton, List.not_mem_nil, or_false, not_or]; exact ⟨Nat.ne_of_lt (Nat.lt_succ_self _), Nat.ne_of_gt ll⟩
        have at_ : ∀ (i : Nat) (v : Value), its[i]? = some v → ∃ k t, zs[i]? = some k ∧ v = .int k t := fun i v hv => by
          have hi : i < zs.length := by rw [← isz]; exact (Array.getElem?_eq_some_iff.mp hv).1
          obtain ⟨t, e⟩ := PyProof.Rows.IntsAre.int_at ia i v (by rw [Array.getElem?_toList]; exact hv)
          refine ⟨zs[i], t, List.getElem?_eq_getElem hi, ?_⟩; rw [e, List.getD_eq_getElem?_getD, List.getElem?_eq_getElem hi] <;> rfl
        refine set_update_ints ((Walks.list ah3 _ l nI its).toS) s.heap.objs.size nS zs isz few at_ (its.size - 0) 0 _ (by omega) (Nat.zero_le _) ⟨⟨_, Heap.get?_push_size _ rfl, rfl, rfl⟩, (il1.push _)⟩ ?z0 ?z1
        case z0 => exact ⟨0, Nat.le_refl 0, setR_new_at (Heap.get?_push_of_some _ eS)⟩
        case z1 =>
          intro t3 c3 mv lc hS'
          obtain ⟨h', g2, d', tk', os'⟩ := t3
          have z1 : g2 = s.gens := mv.gens
          have z2 : d' = s.drawn := mv.drawn
          have z3 : os' = s.os := mv.os
          subst z1
          subst z2
          subst z3
          show wpAny _ _ _ _ _ _; refine wpAny_pure ?_
          show wpAny _ _ (ret Value.none) _ _ _; rw [isz] at lc
          refine wpAny_pure ⟨rfl, h', tk', c3, rfl, hS', lc, fun b o e => ?_⟩
          have y0 : b < s.heap.objs.size := Heap.lt_size e
          have y2 : b ≠ (s.heap.push (emp0 w)).objs.size := by rw [Heap.size_push]; exact Nat.ne_of_lt (Nat.lt_succ_of_lt y0)
          exact mv.heap b o (by simp only [List.mem_cons, List.mem_singleton, List.not_mem_nil, or_false, not_or]; exact ⟨Nat.ne_of_lt y0, y2⟩) (Heap.get?_push_of_some _ (Heap.get?_push_of_some _ e))
      · cases r2 with
        | error e => exact hr2
        | ok fl2 =>
          cases fl2 with
          | ret r =>
            obtain ⟨rfl, h', tk, c', rfl, hS', lc, hk'⟩ := hr2
            repeat (any_goals (first | assumption | wp_step))
            exact go _ _ _ hS' lc hk'
          | _ => exact hr2.elim
    | _ => exact hr.elim
end
def rSetOf (K : PySem.W.Frag) (w : World) : List V → Hp → VK → Prop := fun xs H Q => ∃ (l : Addr) (ns : List Int), xs = [.ref l] ∧ SqL K H l (ns.map V.int) ∧ ns.length < 60 ∧ ∀ p c, H p = none → c ≤ ns.length → Q (.ref p) (upd H p (SetO w p (fun j => decide (j ∈ ns)) c))
theorem rSetOf_r {K : PySem.W.Frag} {w : World} {l : Addr} {H : Hp} {Q : VK} : rSetOf K w [.ref l] H Q = ∃ ns : List Int, SqL K H l (ns.map V.int) ∧ ns.length < 60 ∧ ∀ p c, H p = none → c ≤ ns.length → Q (.ref p) (upd H p (SetO w p (fun j => decide (j ∈ ns)) c)) := propext ⟨fun ⟨_, ns, e, h⟩ => by cases e; exact ⟨ns, h⟩, fun ⟨ns, h⟩ => ⟨l, ns, rfl, h⟩⟩
theorem rSortedSet_r {w : World} {a : Addr} {H : Hp} {Q : VK} : rSortedSet w [.ref a] H Q = ∃ (S : Int → Bool) (n : Nat), H a = some (SetO w a S n) ∧ n < 64 ∧ ∀ (ns : List Int) (p : Addr), ns.Pairwise (· < ·) → (∀ k : Int, k ∈ ns ↔ S k = true) → ns.length = n → H p = none → Q (.ref p) (upd H p (.lst (ns.map V.int))) := propext ⟨fun ⟨_, S, n, e, h⟩ => by cases e; exact ⟨S, n, h⟩, fun ⟨S, n, h⟩ => ⟨a, S, n, rfl, h⟩⟩
end Bk

namespace Bk
open PySem PySem.Spec PyProof.Rows L2
/-! ### where a last stretch begins -/
def fbo (row : Nat → Int) (w : Nat → Option Int) (T : Int) : Nat → Int → Option Nat
  | 0, _ => none
  | m + 1, cost => match w m with
    | none => none
    | some p => if row m + (cost + p) = T then some m else fbo row w T m (cost + p)
/-- rows of a plan: day of baking, day given -/
structure PlanOk (g : Good) (lights : Nat → Int) (n m : Nat) (es : List (Nat × Nat)) : Prop where
  days : (es.map Prod.snd).Perm ((List.range n).filter fun k => decide (m ≤ k ∧ wantN g k ≠ 0))
  price : ∀ e ∈ es, e.1 < n ∧ ∃ p, loafP g e.1 e.2 = some p
/-- what the loaves of a plan cost -/
def loavesE (g : Good) (es : List (Nat × Nat)) : Int := (es.map fun e => wantN g e.2 * (loafP g e.1 e.2).getD 0).sum
structure CheapI (g : Good) (lights row : Nat → Int) (n m : Nat) (es : List (Nat × Nat)) : Prop extends PlanOk g lights n m es where
  cost : litSum lights (fun d => ∃ e ∈ es, e.1 = d) n + loavesE g es + row m ≤ row n
/-- the rows of a stretch -/
def strE (g : Good) (b f m : Nat) : List (Nat × Nat) := (((List.range (m - f)).map fun i => f + i).filter fun k => decide (wantN g k ≠ 0)).map fun k => (b, k)
theorem rExtend_r {l b : Addr} {H : Hp} {Q : VK} : rExtend (.ref l) [.ref b] H Q = ∃ xs zs, H l = some (.lst xs) ∧ H b = some (.lst zs) ∧ xs.length + zs.length ≤ sizeLine ∧ Q .non (upd H l (.lst (xs ++ zs))) := propext ⟨fun ⟨_, _, xs, zs, e1, e2, h⟩ => by cases e1; cases e2; exact ⟨xs, zs, h⟩, fun ⟨xs, zs, h⟩ => ⟨l, b, xs, zs, rfl, rfl, h⟩⟩
theorem rSortU_r {K : PySem.W.Frag} {d : Nat} {B : Int} {a : Addr} {H : Hp} {Q : VK} : rSortU K d B [.ref a] H Q = ∃ xs : List V, SqL K H a xs ∧ xs.length < 64 ∧ (∀ x ∈ xs, ∃ ns, TupI K H x ns ∧ ns.length = d ∧ TS.Bd B ns) ∧ ∀ (ys : List V) (p : Addr), ys.Perm xs → ys.Pairwise (fun x y => ∀ n m, TupI K H x n → TupI K H y m → TS.code B n ≤ TS.code B m) → H p = none → Q (.ref p) (upd H p (.lst ys)) := propext ⟨fun ⟨_, xs, e, h⟩ => by cases e; exact ⟨xs, h⟩, fun ⟨xs, h⟩ => ⟨a, xs, rfl, h⟩⟩
end Bk

namespace Bk
open PySem PySem.Spec PyProof.Rows L2
/-! ### sorted(..) of tuples of whole numbers, of any number: a dict's keys, a list's items -/
def encT (b : Addr × List Int) : PyData := .tuple (b.2.map PyData.int)
def rSorDT : List V → Hp → VK → Prop := fun xs H Q => ∃ (a : Addr) (kvs : List (List Key × V)) (ks : List (List Int)), xs = [.ref a] ∧ H a = some (.dT kvs) ∧ kvs.map (·.1) = ks.map (fun k => k.map Sum.inl) ∧ (∀ k ∈ ks, k ≠ []) ∧
  ∀ (L : List (Addr × List Int)) (p : Addr), (L.map (·.2)).Perm ks → L.Pairwise (fun p q => p.2 ≤ q.2) → (∀ q ∈ L, H q.1 = some (.tup (q.2.map V.int))) → H p = none → Q (.ref p) (upd H p (.lst (L.map fun q => V.ref q.1)))
end Bk

namespace Bk
open PySem PySem.Spec PyProof.Rows L2
/-! ### {a for a, b, c, d in xs}: the first parts of a list's tuples, whole numbers, as a set -/
theorem ns_at2 {h h' : Heap} {C : Addr} {m : Str → Option Value} (n : h.Ns C m) (k : ∀ o, h.get? C = some o → h'.get? C = some o) : h'.Ns C m := by
  obtain ⟨o, es, ep, ho, r⟩ := n
  exact ⟨o, es, ep, k o ho, r⟩
section
variable {X : Cx}
/-- what stands while the block runs -/
structure Runs2 (X : Cx) (s1 : Shared) (D C : Addr) (zs : List (Addr × Int)) (i : Nat) (t : Shared) : Prop where
  only : ∃ h tk, t = { s1 with heap := h, toks := tk }
  old : ∀ b o, s1.heap.get? b = some o → t.heap.get? b = some o
  set : ∃ ds : List Int, ds.Nodup ∧ (∀ d ∈ ds, d ∈ (zs.take i).map (·.2)) ∧ SetR X.w t.heap D (fun j => decide (j ∈ (zs.take i).map (·.2))) ds.length
  names : ∃ m, t.heap.Ns C m
theorem Runs2.other {s1 t : Shared} {D C It : Addr} {zs : List (Addr × Int)} {i : Nat} (g : Runs2 X s1 D C zs i t) (hI : s1.heap.objs.size ≤ It) (hD : D ≠ It) (hC : C ≠ It) {h' : Heap} {tk : Nat} (k : ∀ b o, b ≠ It → t.heap.get? b = some o → h'.get? b = some o) : Runs2 X s1 D C zs i { t with heap := h', toks := tk } := by
  obtain ⟨h, tk0, e⟩ := g.only
  obtain ⟨n, hn1, hn, hs⟩ := g.set
  obtain ⟨m, hm⟩ := g.names
  subst e
  refine ⟨⟨h', tk, rfl⟩, fun b o q => k b o (fun z => ?_) (g.old b o q), ⟨n, hn1, hn, hs.at fun o q => k D o hD q⟩, ⟨m, ns_at2 hm fun o q => k C o hC q⟩⟩
  exact Nat.lt_irrefl _ (Nat.lt_of_lt_of_le (z ▸ Heap.lt_size q) hI)
def tScT2 (K : PySem.W.Frag) (w : World) (at2 : Bool) (te : TE) : TE := fun σ H Q => te σ H fun x H1 => ∃ (p : Addr) (zs : List (Addr × Int)) (N : Nat), x = .ref p ∧ SqL K H1 p (zs.map fun z => V.ref z.1) ∧ (∀ z ∈ zs, ∃ a b c d, SqT K H1 z.1 [a, b, c, d] ∧ (if at2 = true then b else a) = .int z.2) ∧ (∀ z ∈ zs, 0 ≤ z.2 ∧ z.2 < N) ∧ N < 60 ∧ ∀ D n, H1 D = none → n ≤ N → Q (.ref D) (upd H1 D (SetO w D (fun j => decide (j ∈ zs.map (·.2))) n))
end
end Bk

namespace Bk
open PySem PySem.Spec PyProof.Rows L2
/-! ### a def that asks repr, called where no text of a container is being written -/
structure DefG (P : Program) (w : World) (K : PySem.W.Frag) (mg : Str → Option Value) (base : Heap) (x : Str) (k : Nat) (ps : List Str) (sp : Sp) : Prop where
  ex : ∃ (f : Addr) (fd : FuncData), mg x = some (.ref f) ∧ PySem.W.keepIn K (.ref f) = true ∧ Binds K fd ps [] ∧ RunG P w K mg base k f fd ps sp
end Bk

namespace Bk
open PySem PySem.Spec PyProof.Rows L2
/-! ### rows of four whole numbers, and lists of them -/
abbrev K3 := Nat × Nat × Nat
structure Row4 where
  a : Nat
  b : Nat
  c : Nat
  m : Int
def Row4.k (r : Row4) : K3 := (r.a, r.b, r.c)
def rowD (r : Row4) : PyData := .tuple [.int (r.a : Int), .int (r.b : Int), .int (r.c : Int), .int r.m]
def planD (L : List Row4) : PyData := .list (L.map rowD)
theorem Th.row {K : PySem.W.Frag} {H : Hp} {x : V} {r : Row4} (h : Th K H x (rowD r)) : ∃ t, x = .ref t ∧ SqT K H t [.int (r.a : Int), .int (r.b : Int), .int (r.c : Int), .int r.m] := by
  cases h with
  | tup ht hta =>
  cases hta with
  | cons t1 hta => cases hta with
  | cons t2 hta => cases hta with
  | cons t3 hta => cases hta with
  | cons t4 hta =>
  cases hta
  cases t1; cases t2; cases t3; cases t4
  exact ⟨_, rfl, ht⟩
theorem rows_of {K : PySem.W.Frag} {H : Hp} : ∀ {xs : List V} {L : List Row4}, ThAll K H xs (L.map rowD) → ∃ zs : List (Addr × Row4), xs = zs.map (fun z => V.ref z.1) ∧ zs.map (·.2) = L ∧ ∀ z ∈ zs, SqT K H z.1 [.int (z.2.a : Int), .int (z.2.b : Int), .int (z.2.c : Int), .int z.2.m]
  | xs, [], h => by
    have h : ThAll K H xs [] := h
    cases h
    exact ⟨[], rfl, rfl, fun z hz => by cases hz⟩
  | xs, r :: L, h => by
    have h : ThAll K H xs (rowD r :: L.map rowD) := h
    cases h with
    | cons h1 h2 =>
      obtain ⟨zs, e1, e2, e3⟩ := rows_of h2
      obtain ⟨t, rfl, ht⟩ := h1.row
      refine ⟨(t, r) :: zs, by rw [e1]; rfl, by rw [List.map_cons, e2], fun z hz => ?_⟩
      rcases List.mem_cons.mp hz with rfl | hz
      · exact ht
      · exact e3 z hz
theorem Th.plan {K : PySem.W.Frag} {H : Hp} {x : V} {L : List Row4} (h : Th K H x (planD L)) : ∃ (p : Addr) (zs : List (Addr × Row4)), x = .ref p ∧ SqL K H p (zs.map fun z => V.ref z.1) ∧ zs.map (·.2) = L ∧ ∀ z ∈ zs, SqT K H z.1 [.int (z.2.a : Int), .int (z.2.b : Int), .int (z.2.c : Int), .int z.2.m] := by
  cases h with
  | lst hl ht =>
    obtain ⟨zs, e1, e2, e3⟩ := rows_of ht
    subst e1
    exact ⟨_, zs, rfl, hl, e2, e3⟩
def SmallR (L : List Row4) : Prop := L.length ≤ 500 ∧ ∀ r ∈ L, r.a < 1000 ∧ r.b < 1000 ∧ r.c < 1000 ∧ r.m.natAbs < 10 ^ 12
/-! ### dicts whose keys are three numbers -/
def key3 (k : K3) : List Key := [Sum.inl (k.1 : Int), Sum.inl (k.2.1 : Int), Sum.inl (k.2.2 : Int)]
def keyI3 (k : K3) : List Int := [(k.1 : Int), (k.2.1 : Int), (k.2.2 : Int)]
abbrev E3 := List (K3 × Int)
def mk3 (es : E3) : List (List Key × V) := es.map fun e => (key3 e.1, V.int e.2)
def look3 (es : E3) (k : K3) : Option Int := (es.find? fun e => decide (e.1 = k)).map (·.2)
def put3 (es : E3) (k : K3) (v : Int) : E3 := if (es.any fun e => decide (e.1 = k)) = true then es.map (fun e => if e.1 = k then (e.1, v) else e) else es ++ [(k, v)]
def add3 (es : E3) (k : K3) (m : Int) : E3 := put3 es k ((look3 es k).getD 0 + m)
/-- what all entries come to -/
def sum3 (f : K3 → Int) (es : E3) : Int := (es.map fun e => e.2 * f e.1).sum
theorem sum3_cons (f : K3 → Int) (e : K3 × Int) (es : E3) : sum3 f (e :: es) = e.2 * f e.1 + sum3 f es := by
  unfold sum3
  rw [List.map_cons, List.sum_cons]
theorem any3 {es : E3} {k : K3} : (es.any fun e => decide (e.1 = k)) = true ↔ k ∈ es.map (·.1) := by
  rw [List.any_eq_true, List.mem_map]
  constructor
  · rintro ⟨e, h1, h2⟩
    exact ⟨e, h1, of_decide_eq_true h2⟩
  · rintro ⟨e, h1, h2⟩
    exact ⟨e, h1, decide_eq_true h2⟩
theorem add3_keys (es : E3) (k : K3) (m : Int) : (add3 es k m).map (·.1) = if k ∈ es.map (·.1) then es.map (·.1) else es.map (·.1) ++ [k] := by
  unfold add3 put3
  by_cases h : k ∈ es.map (·.1)
  · rw [if_pos (any3.mpr h), if_pos h, List.map_map]
    congr 1
    funext x
    show (if x.1 = k then (x.1, _) else x).1 = x.1
    split <;> rfl
  · rw [if_neg fun z => h (any3.mp z), if_neg h, List.map_append]
    rfl
theorem add3_nodup {es : E3} {k : K3} {m : Int} (h : (es.map (·.1)).Nodup) : ((add3 es k m).map (·.1)).Nodup := by
  rw [add3_keys]
  split
  · exact h
  · rename_i hn
    rw [List.nodup_append]
    refine ⟨h, by simp, fun a ha b hb e => ?_⟩
    rw [List.mem_singleton.mp hb] at e
    rw [e] at ha
    exact hn ha
theorem add3_key {es : E3} {k j : K3} {m : Int} : j ∈ (add3 es k m).map (·.1) ↔ j ∈ es.map (·.1) ∨ j = k := by
  rw [add3_keys]
  split
  · rename_i h
    exact ⟨.inl, fun z => z.elim id fun e => by rw [e]; exact h⟩
  · rw [List.mem_append, List.mem_singleton]
theorem add3_len (es : E3) (k : K3) (m : Int) : (add3 es k m).length ≤ es.length + 1 := by
  have := congrArg List.length (add3_keys es k m)
  rw [List.length_map] at this
  rw [this]
  split
  · rw [List.length_map]; omega
  · rw [List.length_append, List.length_map, List.length_singleton]
    omega
theorem map_put {es : E3} {k : K3} {v : Int} {f : K3 → Int} (h : k ∉ es.map (·.1)) : (es.map fun e => if e.1 = k then (e.1, v) else e) = es := by
  induction es with
  | nil => rfl
  | cons e r ih =>
    rw [List.map_cons, List.mem_cons, not_or] at h
    rw [List.map_cons, if_neg (fun z => h.1 z.symm), ih h.2]
theorem add3_sum {es : E3} {k : K3} {m : Int} (f : K3 → Int) (h : (es.map (·.1)).Nodup) : sum3 f (add3 es k m) = sum3 f es + m * f k := by
  unfold add3 put3
  by_cases hk : k ∈ es.map (·.1)
  · rw [if_pos (any3.mpr hk)]
    induction es with
    | nil => cases hk
    | cons e r ih =>
      rw [List.map_cons, List.nodup_cons] at h
      by_cases he : e.1 = k
      · have hl : look3 (e :: r) k = some e.2 := by
          unfold look3
          rw [List.find?_cons_of_pos (p := fun e : K3 × Int => decide (e.1 = k)) (decide_eq_true he)]
          rfl
        rw [hl, List.map_cons, if_pos he, sum3_cons, sum3_cons, map_put (f := f) (by rw [← he]; exact h.1), he]
        simp only [Option.getD_some]
        rw [Int.add_mul]
        omega
      · have hl : look3 (e :: r) k = look3 r k := by
          unfold look3
          rw [List.find?_cons_of_neg (p := fun e : K3 × Int => decide (e.1 = k)) (fun z => he (of_decide_eq_true z))]
        have hk2 : k ∈ r.map (·.1) := by
          rcases List.mem_cons.mp hk with z | z
          · exact absurd z.symm he
          · exact z
        rw [hl, List.map_cons, if_neg he, sum3_cons, sum3_cons, ih h.2 hk2]
        omega
  · rw [if_neg fun z => hk (any3.mp z)]
    have hl : look3 es k = none := by
      unfold look3
      rw [Option.map_eq_none_iff, List.find?_eq_none]
      intro e he z
      exact hk (List.mem_map.mpr ⟨e, he, of_decide_eq_true z⟩)
    rw [hl]
    unfold sum3
    rw [List.map_append, List.sum_append]
    simp
theorem look3_val {es : E3} {k : K3} {v : Int} (h : look3 es k = some v) : (k, v) ∈ es := by
  unfold look3 at h
  obtain ⟨e, he, ev⟩ := Option.map_eq_some_iff.mp h
  have h0 := List.find?_some he
  have h1 : e.1 = k := of_decide_eq_true h0
  rw [← h1, ← ev]
  exact List.mem_of_find?_eq_some he
theorem add3_mem {es : E3} {k j : K3} {m v : Int} (h : (j, v) ∈ add3 es k m) : (j, v) ∈ es ∨ (j = k ∧ v = (look3 es k).getD 0 + m) := by
  unfold add3 put3 at h
  split at h
  · obtain ⟨e, he, z⟩ := List.mem_map.mp h
    split at z
    · rename_i hk
      cases z
      exact .inr ⟨hk, rfl⟩
    · rw [z] at he
      exact .inl he
  · rcases List.mem_append.mp h with h | h
    · exact .inl h
    · cases List.mem_singleton.mp h
      exact .inr ⟨rfl, rfl⟩
/-- the entries' values, all from 0 to c -/
def Vals3 (es : E3) (c : Int) : Prop := ∀ e ∈ es, 0 ≤ e.2 ∧ e.2 ≤ c
theorem Vals3.add {es : E3} {k : K3} {m c d : Int} (h : Vals3 es c) (h0 : 0 ≤ m) (h1 : m ≤ d) (hd : 0 ≤ c) : Vals3 (add3 es k m) (c + d) := by
  rintro ⟨j, v⟩ hv
  show 0 ≤ v ∧ v ≤ c + d
  rcases add3_mem hv with hv | ⟨_, rfl⟩
  · have : 0 ≤ v ∧ v ≤ c := h _ hv
    omega
  · cases hl : look3 es k with
    | none => show 0 ≤ 0 + m ∧ 0 + m ≤ c + d; omega
    | some u =>
      have : 0 ≤ u ∧ u ≤ c := h _ (look3_val hl)
      show 0 ≤ u + m ∧ u + m ≤ c + d
      omega
/-- rows of entries -/
def rowE (e : K3 × Int) : Row4 := ⟨e.1.1, e.1.2.1, e.1.2.2, e.2⟩
def sumR (f : K3 → Int) (L : List Row4) : Int := (L.map fun r => r.m * f r.k).sum
theorem sum_permI {l m : List Int} (h : l.Perm m) : l.sum = m.sum := by
  induction h with
  | nil => rfl
  | cons x _ ih => rw [List.sum_cons, List.sum_cons, ih]
  | swap x y l => rw [List.sum_cons, List.sum_cons, List.sum_cons, List.sum_cons]; omega
  | trans _ _ h1 h2 => exact h1.trans h2
theorem sum3_perm {f : K3 → Int} {es fs : E3} (h : es.Perm fs) : sum3 f es = sum3 f fs := sum_permI (h.map _)
/-- lights of the days that a part of the rows names -/
noncomputable def litR (L : Nat → Int) (n : Nat) (ds : List Nat) : Int := litSum L (fun d => d ∈ ds) n
theorem rSorDT_r {a : Addr} {H : Hp} {Q : VK} : rSorDT [.ref a] H Q = ∃ (kvs : List (List Key × V)) (ks : List (List Int)), H a = some (.dT kvs) ∧ kvs.map (·.1) = ks.map (fun k => k.map Sum.inl) ∧ (∀ k ∈ ks, k ≠ []) ∧
  ∀ (L : List (Addr × List Int)) (p : Addr), (L.map (·.2)).Perm ks → L.Pairwise (fun p q => p.2 ≤ q.2) → (∀ q ∈ L, H q.1 = some (.tup (q.2.map V.int))) → H p = none → Q (.ref p) (upd H p (.lst (L.map fun q => V.ref q.1))) := propext ⟨fun ⟨_, kvs, ks, e, h⟩ => by cases e; exact ⟨kvs, ks, h⟩, fun ⟨kvs, ks, h⟩ => ⟨a, kvs, ks, rfl, h⟩⟩
/-- the price of a row's loaf -/
def priceB (b : Bak) (k : K3) : Int := match b.goods[k.2.1]? with
  | some g => (loafP g k.1 k.2.2).getD 0
  | none => 0
structure FitR (b : Bak) (n : Nat) (r : Row4) : Prop where
  a : r.a < n
  c : r.c < n
  m : 0 ≤ r.m ∧ r.m ≤ 1000000000000
  p : ∃ g, b.goods[r.b]? = some g ∧ ∃ p, loafP g r.a r.c = some p
noncomputable def costB (b : Bak) (L : List Row4) : Int := litR (rowF b.lights) b.lights.length (L.map Row4.a) + sumR (priceB b) L
end Bk

namespace Bk
open PySem PySem.Spec PyProof.Rows L2
/-! ### set(xs) of up to sixty whole numbers -/
def rSetOf2 (K : PySem.W.Frag) (w : World) : List V → Hp → VK → Prop := fun xs H Q => ∃ (l : Addr) (ns : List Int), xs = [.ref l] ∧ SqL K H l (ns.map V.int) ∧ ns.length ≤ 60 ∧ ∀ p c, H p = none → c ≤ ns.length → Q (.ref p) (upd H p (SetO w p (fun j => decide (j ∈ ns)) c))
theorem rSetOf2_r {K : PySem.W.Frag} {w : World} {l : Addr} {H : Hp} {Q : VK} : rSetOf2 K w [.ref l] H Q = ∃ ns : List Int, SqL K H l (ns.map V.int) ∧ ns.length ≤ 60 ∧ ∀ p c, H p = none → c ≤ ns.length → Q (.ref p) (upd H p (SetO w p (fun j => decide (j ∈ ns)) c)) := propext ⟨fun ⟨_, ns, e, h⟩ => by cases e; exact ⟨ns, h⟩, fun ⟨ns, h⟩ => ⟨l, ns, rfl, h⟩⟩
/-! ### doughs -/
structure Dgh where
  mix : Int
  dough : Int
  hold : Int
def dghD (d : Dgh) : PyData := .tuple [.int d.mix, .int d.dough, .int d.hold]
def doughsD (ds : List Dgh) : PyData := .list (ds.map dghD)
def dghB : PyData → Bool
  | .tuple [a, b, c] => numD a && numD b && numD c
  | _ => false
def dghAt (ds : List Dgh) (i : Nat) : Dgh := ds.getD i ⟨0, 0, 0⟩
def holdS (ds : List Dgh) (r k : Nat) : Int := (((ds.drop r).take k).map Dgh.hold).sum
def doughP (ds : List Dgh) (r s : Nat) : Int := (dghAt ds r).dough + holdS ds r (s - r)
theorem Th.doughs {K : PySem.W.Frag} {H : Hp} {x : V} {ds : List Dgh} (h : Th K H x (doughsD ds)) : ∃ p xs, x = .ref p ∧ SqL K H p xs ∧ ThAll K H xs (ds.map dghD) := by
  cases h with
  | lst hl ht => exact ⟨_, _, rfl, hl, ht⟩
/-! ### what entries come to, all nonnegative -/
def Tot3 (es : E3) (T : Int) : Prop := (∀ e ∈ es, 0 ≤ e.2) ∧ sum3 (fun _ => 1) es ≤ T
theorem Tot3.le {es : E3} {T : Int} (h : Tot3 es T) : ∀ e ∈ es, 0 ≤ e.2 ∧ e.2 ≤ T := by
  intro e he
  refine ⟨h.1 e he, Int.le_trans ?_ h.2⟩
  have h1 := h.1
  clear h
  induction es with
  | nil => cases he
  | cons x r ih =>
    rw [sum3_cons, Int.mul_one]
    have hr : 0 ≤ sum3 (fun _ => 1) r := by
      unfold sum3
      have : ∀ z ∈ (r.map fun e : K3 × Int => e.2 * 1), 0 ≤ z := fun z hz => by
        obtain ⟨y, hy, rfl⟩ := List.mem_map.mp hz
        have := h1 y (List.mem_cons_of_mem _ hy)
        omega
      generalize (r.map fun e : K3 × Int => e.2 * 1) = l at this
      induction l with
      | nil => exact Int.le_refl 0
      | cons a b ih2 =>
        rw [List.sum_cons]
        have := this a List.mem_cons_self
        have := ih2 fun z hz => by rename_i t; exact t z (List.mem_cons_of_mem _ hz)
        omega
    rcases List.mem_cons.mp he with rfl | he
    · omega
    · have := ih he fun y hy => h1 y (List.mem_cons_of_mem _ hy)
      have := h1 x List.mem_cons_self
      omega
theorem Tot3.nil : Tot3 [] 0 := ⟨(fun e he => by cases he), Int.le_refl 0⟩
theorem Tot3.add {es : E3} {k : K3} {m T : Int} (hn : (es.map (·.1)).Nodup) (h : Tot3 es T) (h0 : 0 ≤ m) : Tot3 (add3 es k m) (T + m) := by
  refine ⟨?_, ?_⟩
  · rintro ⟨j, v⟩ hv
    rcases add3_mem hv with hv | ⟨_, rfl⟩
    · exact h.1 _ hv
    · cases hl : look3 es k with
      | none => show 0 ≤ 0 + m; omega
      | some u =>
        have : 0 ≤ u := h.1 _ (look3_val hl)
        show 0 ≤ u + m
        omega
  · rw [add3_sum _ hn]
    have := h.2
    omega
theorem Tot3.mono {es : E3} {T U : Int} (h : Tot3 es T) (hu : T ≤ U) : Tot3 es U := ⟨h.1, Int.le_trans h.2 hu⟩
end Bk

namespace Bk
open PySem PySem.Spec PyProof.Rows L2
/-! ### plans with doughs, and what they cost -/
def mixF (ds : List Dgh) (d : Nat) : Int := (dghAt ds d).mix
def priceD (ds : List Dgh) (g : Good) (k : K3) : Int := doughP ds k.1 k.2.1 + (loafP g k.2.1 k.2.2).getD 0
structure KeyD (g : Good) (n : Nat) (k : K3) : Prop where
  ab : k.1 ≤ k.2.1
  b : k.2.1 < n
  c : k.2.2 < n
  p : ∃ p, loafP g k.2.1 k.2.2 = some p
def sumM (L : List Row4) : Int := (L.map Row4.m).sum
/-- what is known of a plan that is handed in -/
structure PlanF (g : Good) (n : Nat) (L : List Row4) : Prop where
  keys : ∀ r ∈ L, KeyD g n r.k
  pos : ∀ r ∈ L, 0 < r.m
  tot : sumM L ≤ 100000000000
  len : L.length ≤ 60
noncomputable def costD (ds : List Dgh) (ls : List Int) (g : Good) (n : Nat) (L : List Row4) : Int := litR (mixF ds) n (L.map Row4.a) + litR (rowF ls) n (L.map Row4.b) + sumR (priceD ds g) L
theorem sumM_cons (r : Row4) (L : List Row4) : sumM (r :: L) = r.m + sumM L := by
  unfold sumM
  rw [List.map_cons, List.sum_cons]
theorem sumM_nonneg {L : List Row4} (h : ∀ r ∈ L, 0 < r.m) : 0 ≤ sumM L := by
  induction L with
  | nil => exact Int.le_refl 0
  | cons r L ih =>
    rw [sumM_cons]
    have := h r List.mem_cons_self
    have := ih fun x hx => h x (List.mem_cons_of_mem _ hx)
    omega
theorem sumM_le {L : List Row4} (h : ∀ r ∈ L, 0 < r.m) : ∀ r ∈ L, r.m ≤ sumM L := by
  induction L with
  | nil => intro r hr; cases hr
  | cons x L ih =>
    intro r hr
    rw [sumM_cons]
    have h2 : ∀ r ∈ L, 0 < r.m := fun y hy => h y (List.mem_cons_of_mem _ hy)
    have := sumM_nonneg h2
    have := h x List.mem_cons_self
    rcases List.mem_cons.mp hr with rfl | hr
    · omega
    · have := ih h2 r hr
      omega
theorem PlanF.m {g : Good} {n : Nat} {L : List Row4} (h : PlanF g n L) : ∀ r ∈ L, 0 < r.m ∧ r.m ≤ 100000000000 := fun r hr => ⟨h.pos r hr, Int.le_trans (sumM_le h.pos r hr) h.tot⟩
theorem PlanF.small {g : Good} {n : Nat} {L : List Row4} (h : PlanF g n L) (hn : n ≤ 40) : SmallR L := by
  have := h.len
  refine ⟨by omega, fun r hr => ?_⟩
  have hk := h.keys r hr
  have h1 : r.a ≤ r.b := hk.ab
  have h2 : r.b < n := hk.b
  have h3 : r.c < n := hk.c
  have := h.m r hr
  exact ⟨by omega, by omega, by omega, Nat.lt_of_le_of_lt (show r.m.natAbs ≤ 100000000000 by omega) (by decide)⟩
/-! ### keys put out of order -/
/-! ### without the mixing -/
def unm (r : Row4) : K3 := (r.b, 0, r.c)
def sumU (f : K3 → Int) (L : List Row4) : Int := (L.map fun r => r.m * f (unm r)).sum
structure UnOf (L : List Row4) (es : E3) : Prop where
  nd : (es.map (·.1)).Nodup
  keys : ∀ k, k ∈ es.map (·.1) ↔ ∃ r ∈ L, unm r = k
  sum : ∀ f, sum3 f es = sumU f L
  pos : ∀ e ∈ es, 0 < e.2
  len : es.length ≤ L.length
theorem UnOf.nil : UnOf [] [] := ⟨List.nodup_nil, (fun k => ⟨(fun h => by cases h), fun ⟨r, h, _⟩ => by cases h⟩), (fun f => rfl), (fun e h => by cases h), Nat.le_refl _⟩
theorem UnOf.add {L : List Row4} {es : E3} {r : Row4} (h : UnOf L es) (hp : 0 < r.m) : UnOf (L ++ [r]) (add3 es (unm r) r.m) := by
  refine ⟨add3_nodup h.nd, fun k => ?_, fun f => ?_, fun e he => ?_, ?_⟩
  · rw [add3_key, h.keys k]
    constructor
    · rintro (⟨x, hx, e⟩ | e)
      · exact ⟨x, List.mem_append_left _ hx, e⟩
      · exact ⟨r, by simp, e.symm⟩
    · rintro ⟨x, hx, e⟩
      rcases List.mem_append.mp hx with hx | hx
      · exact .inl ⟨x, hx, e⟩
      · rw [List.mem_singleton.mp hx] at e
        exact .inr e.symm
  · rw [add3_sum f h.nd, h.sum f]
    unfold sumU
    rw [List.map_append, List.sum_append]
    simp
  · obtain ⟨k, v⟩ := e
    show 0 < v
    rcases add3_mem he with he | ⟨_, rfl⟩
    · exact h.pos _ he
    · cases hl : look3 es (unm r) with
      | none => show 0 < 0 + r.m; omega
      | some u =>
        have := h.pos _ (look3_val hl)
        dsimp only at this
        show 0 < u + r.m
        omega
  · have := add3_len es (unm r) r.m
    have := h.len
    rw [List.length_append, List.length_singleton]
    omega
theorem sum3_one (es : E3) : sum3 (fun _ => 1) es = sumM (es.map rowE) := by
  unfold sum3 sumM
  rw [List.map_map]
  congr 1
  exact List.map_congr_left fun e _ => Int.mul_one _
theorem sumU_one (L : List Row4) : sumU (fun _ => 1) L = sumM L := by
  unfold sumU sumM
  congr 1
  exact List.map_congr_left fun e _ => Int.mul_one _
theorem UnOf.tot {L : List Row4} {es : E3} (h : UnOf L es) : sumM (es.map rowE) = sumM L := by rw [← sum3_one, h.sum, sumU_one]
theorem UnOf.days {L : List Row4} {es : E3} (h : UnOf L es) (d : Nat) : d ∈ (es.map rowE).map Row4.a ↔ d ∈ L.map Row4.b := by
  rw [List.map_map]
  constructor
  · intro z
    obtain ⟨e, he, rfl⟩ := List.mem_map.mp z
    obtain ⟨r, hr, e2⟩ := (h.keys e.1).mp (List.mem_map.mpr ⟨e, he, rfl⟩)
    exact List.mem_map.mpr ⟨r, hr, by show r.b = e.1.1; rw [← e2]; rfl⟩
  · intro z
    obtain ⟨r, hr, rfl⟩ := List.mem_map.mp z
    obtain ⟨e, he, e2⟩ := List.mem_map.mp ((h.keys (unm r)).mpr ⟨r, hr, rfl⟩)
    exact List.mem_map.mpr ⟨e, he, by show e.1.1 = r.b; rw [e2]; rfl⟩
theorem UnOf.fresh {g : Good} {n : Nat} {L : List Row4} {es : E3} (h : UnOf L es) (hF : PlanF g n L) : PlanF g n ((es.map rowE).map fun r => ⟨r.a, r.a, r.c, r.m⟩) := by
  have et : sumM ((es.map rowE).map fun r => (⟨r.a, r.a, r.c, r.m⟩ : Row4)) = sumM (es.map rowE) := by
    unfold sumM
    rw [List.map_map]
    rfl
  refine ⟨fun r hr => ?_, fun r hr => ?_, by rw [et, h.tot]; exact hF.tot, by rw [List.length_map, List.length_map]; exact Nat.le_trans h.len hF.len⟩
  · obtain ⟨y, hy, rfl⟩ := List.mem_map.mp hr
    obtain ⟨e, he, rfl⟩ := List.mem_map.mp hy
    obtain ⟨x, hx, e2⟩ := (h.keys e.1).mp (List.mem_map.mpr ⟨e, he, rfl⟩)
    have hk := hF.keys x hx
    have ea : (rowE e).a = x.b := by show e.1.1 = x.b; rw [← e2]; rfl
    have ec : (rowE e).c = x.c := by show e.1.2.2 = x.c; rw [← e2]; rfl
    refine ⟨Nat.le_refl _, ?_, ?_, ?_⟩
    · show (rowE e).a < n
      rw [ea]
      exact hk.b
    · show (rowE e).c < n
      rw [ec]
      exact hk.c
    · show ∃ p, loafP g (rowE e).a (rowE e).c = some p
      rw [ea, ec]
      exact hk.p
  · obtain ⟨y, hy, rfl⟩ := List.mem_map.mp hr
    obtain ⟨e, he, rfl⟩ := List.mem_map.mp hy
    exact h.pos e he
end Bk

namespace Bk
open PySem PySem.Spec PyProof.Rows L2
/-! ### a drawn plan with doughs: its entries, while it is made -/
def ind3 (k : Nat) (key : K3) : Int := if key.2.2 = k then 1 else 0
structure BatJ (g : Good) (n i : Nat) (c : Int) (j : Nat) (es : E3) : Prop where
  nd : (es.map (·.1)).Nodup
  keys : ∀ k ∈ es.map (·.1), KeyD g n k
  pos : ∀ e ∈ es, 0 < e.2
  met : ∀ k, sum3 (ind3 k) es = if k < i then wantN g k else if k = i then c else 0
  tot : sum3 (fun _ => 1) es ≤ (i : Int) * 1000000000 + c
  len : es.length ≤ 2 * i + j
theorem BatJ.nil (g : Good) (n : Nat) : BatJ g n 0 0 0 [] := by
  refine ⟨List.nodup_nil, (fun k h => by cases h), (fun e h => by cases h), fun k => ?_, by show (0 : Int) ≤ _; omega, by simp⟩
  show (0 : Int) = _
  split
  · omega
  · split <;> rfl
theorem BatJ.add {g : Good} {n i j : Nat} {c m : Int} {es : E3} {key : K3} (h : BatJ g n i c j es) (hk : KeyD g n key) (hi : key.2.2 = i) (hm : 0 < m) : BatJ g n i (c + m) (j + 1) (add3 es key m) := by
  refine ⟨add3_nodup h.nd, fun k hk2 => ?_, fun e he => ?_, fun k => ?_, ?_, ?_⟩
  · rcases add3_key.mp hk2 with z | z
    · exact h.keys k z
    · rw [z]
      exact hk
  · obtain ⟨k, v⟩ := e
    show 0 < v
    rcases add3_mem he with he | ⟨_, rfl⟩
    · exact h.pos _ he
    · cases hl : look3 es key with
      | none => show 0 < 0 + m; omega
      | some u =>
        have := h.pos _ (look3_val hl)
        dsimp only at this
        show 0 < u + m
        omega
  · rw [add3_sum _ h.nd, h.met k]
    unfold ind3
    rw [hi]
    by_cases h1 : k < i
    · rw [if_pos h1, if_pos h1, if_neg (by omega)]
      omega
    · rw [if_neg h1, if_neg h1]
      by_cases h2 : k = i
      · rw [if_pos h2, if_pos h2, if_pos h2.symm]
        omega
      · rw [if_neg h2, if_neg h2, if_neg (fun z => h2 z.symm)]
        omega
  · rw [add3_sum _ h.nd]
    have := h.tot
    omega
  · have := add3_len es key m
    have := h.len
    omega
theorem BatJ.next {g : Good} {n i : Nat} {es : E3} (h : BatJ g n i (wantN g i) 2 es) (hw : wantN g i ≤ 1000000000) : BatJ g n (i + 1) 0 0 es := by
  refine ⟨h.nd, h.keys, h.pos, fun k => ?_, ?_, by have := h.len; omega⟩
  · rw [h.met k]
    by_cases h1 : k < i
    · rw [if_pos h1, if_pos (by omega)]
    · rw [if_neg h1]
      by_cases h2 : k = i
      · rw [if_pos h2, if_pos (by omega), h2]
      · rw [if_neg h2, if_neg (by omega)]
        split <;> rfl
  · have := h.tot
    omega
/-- a drawn plan with doughs -/
structure Batch (g : Good) (n : Nat) (es : E3) : Prop where
  nd : (es.map (·.1)).Nodup
  keys : ∀ k ∈ es.map (·.1), KeyD g n k
  pos : ∀ e ∈ es, 0 < e.2
  met : ∀ k, k < n → sum3 (ind3 k) es = wantN g k
  tot : sum3 (fun _ => 1) es ≤ (n : Int) * 1000000000
  len : es.length ≤ 2 * n
theorem BatJ.done {g : Good} {n : Nat} {es fs : E3} (h : BatJ g n n 0 0 es) (p : fs.Perm es) : Batch g n fs := by
  refine ⟨(p.map _).nodup_iff.mpr h.nd, fun k hk => h.keys k ((p.map _).mem_iff.mp hk), fun e he => h.pos e (p.mem_iff.mp he), fun k hk => ?_, ?_, by rw [p.length_eq]; have := h.len; omega⟩
  · rw [sum3_perm p, h.met k, if_pos hk]
  · rw [sum3_perm p]
    have := h.tot
    omega
theorem Batch.plan {g : Good} {n : Nat} {es : E3} (h : Batch g n es) (hn : n ≤ 30) : PlanF g n (es.map rowE) := by
  refine ⟨fun r hr => ?_, fun r hr => ?_, ?_, ?_⟩
  · obtain ⟨e, he, rfl⟩ := List.mem_map.mp hr
    exact h.keys _ (List.mem_map.mpr ⟨e, he, rfl⟩)
  · obtain ⟨e, he, rfl⟩ := List.mem_map.mp hr
    exact h.pos e he
  · rw [← sum3_one]
    have := h.tot
    omega
  · rw [List.length_map]
    have := h.len
    omega
end Bk

namespace Bk
open PySem PySem.Spec PyProof.Rows L2
/-! ### the days on which loaves for a day can be baked -/
def thereG (g : Good) (k n : Nat) : List Int := ((List.range n).filter fun j => (loafP g j k).isSome).map fun j => ((j : Nat) : Int)
/-- a heap without one place -/
def without (D : Addr) (H : Hp) : Hp := fun b => if b = D then none else H b
theorem nums_of_day {d : Day} (h : dayB (dayD d) = true) : (0 ≤ d.want ∧ d.want ≤ 1000000000) ∧ (0 ≤ d.loaf ∧ d.loaf ≤ 1000000000) ∧ (0 ≤ d.keep ∧ d.keep ≤ 1000000000) ∧ ∀ z, d.fine = some z → 0 ≤ z ∧ z ≤ 1000000000 := by
  simp only [dayD, dayB, Bool.and_eq_true] at h
  obtain ⟨⟨⟨n1, n2⟩, n3⟩, n4⟩ := h
  simp only [numD, Bool.and_eq_true, decide_eq_true_eq] at n1 n2 n3
  refine ⟨n1, n2, n3, fun z e => ?_⟩
  rw [e] at n4
  simp only [optD, noneB, Bool.false_or, numD, Bool.and_eq_true, decide_eq_true_eq] at n4
  exact n4
end Bk

namespace Bk
open PySem PySem.Spec PyProof.Rows L2
/-! ### a bakery whose lists are the law's own, to be changed in place -/
/-- the tuples alone -/
def tupsOf (H : Hp) : Hp := fun b => match H b with
  | some (.tup xs) => some (.tup xs)
  | _ => none
theorem tupsOf_at {H : Hp} {b : Addr} {xs : List V} (h : H b = some (.tup xs)) : tupsOf H b = some (.tup xs) := by
  unfold tupsOf
  rw [h]
theorem tupsOf_is {H : Hp} {b : Addr} {o : HO} (h : tupsOf H b = some o) : H b = some o ∧ ∃ xs, o = .tup xs := by
  unfold tupsOf at h
  split at h
  · rename_i xs e
    cases h
    exact ⟨e, xs, rfl⟩
  · cases h
theorem tupsOf_same (H : Hp) : Same (tupsOf H) H := fun b o e => (tupsOf_is e).1
theorem tupsOf_mono {H H' : Hp} (s : Same H H') : Same (tupsOf H) (tupsOf H') := fun b o e => by
  obtain ⟨e1, xs, rfl⟩ := tupsOf_is e
  exact tupsOf_at (s _ _ e1)
/-- a change of what is no tuple leaves them -/
theorem tupsOf_upd {H : Hp} {a : Addr} {ys : List V} {o : HO} (h : H a = some (.lst ys)) : Same (tupsOf H) (tupsOf (upd H a o)) := fun b p e => by
  obtain ⟨e1, xs, rfl⟩ := tupsOf_is e
  refine tupsOf_at ?_
  rw [upd_ne]
  · exact e1
  · intro z
    rw [z, h] at e1
    cases e1
/-- a good that is made of an own tuple, an own list of days, and tuples -/
structure OwnG (H : Hp) (p : Addr × Addr) (g : Good) : Prop where
  tup : H p.1 = some (.tup [.ref p.2, optV g.life])
  lst : ∃ xs, H p.2 = some (.lst xs) ∧ TkAll (tupsOf H) xs (g.days.map dayD)
theorem OwnG.tk {H : Hp} {p : Addr × Addr} {g : Good} (h : OwnG H p g) : Tk H (.ref p.1) (goodD g) := by
  obtain ⟨xs, h1, h2⟩ := h.lst
  exact .tup h.tup (.cons (.lst h1 (h2.same (tupsOf_same _))) (.cons (Tk.optV _) .nil))
theorem OwnG.same {H H' : Hp} {p : Addr × Addr} {g : Good} (s : Same H H') (h : OwnG H p g) : OwnG H' p g := by
  obtain ⟨xs, h1, h2⟩ := h.lst
  exact ⟨s _ _ h.tup, xs, s _ _ h1, h2.same (tupsOf_mono s)⟩
inductive OwnGs (H : Hp) : List (Addr × Addr) → List Good → Prop
  | nil : OwnGs H [] []
  | cons {p : Addr × Addr} {g : Good} {ps : List (Addr × Addr)} {gs : List Good} : OwnG H p g → OwnGs H ps gs → OwnGs H (p :: ps) (g :: gs)
theorem OwnGs.same {H H' : Hp} (s : Same H H') : ∀ {ps : List (Addr × Addr)} {gs : List Good}, OwnGs H ps gs → OwnGs H' ps gs
  | _, _, .nil => .nil
  | _, _, .cons h t => .cons (h.same s) (OwnGs.same s t)
theorem OwnGs.tk {H : Hp} : ∀ {ps : List (Addr × Addr)} {gs : List Good}, OwnGs H ps gs → TkAll H (ps.map fun p => V.ref p.1) (gs.map goodD)
  | _, _, .nil => .nil
  | _, _, .cons h t => .cons h.tk (OwnGs.tk t)
theorem OwnGs.length {H : Hp} : ∀ {ps : List (Addr × Addr)} {gs : List Good}, OwnGs H ps gs → ps.length = gs.length
  | _, _, .nil => rfl
  | _, _, .cons _ t => by rw [List.length_cons, List.length_cons, OwnGs.length t]
theorem OwnGs.get {H : Hp} : ∀ {ps : List (Addr × Addr)} {gs : List Good} {i : Nat} {g : Good}, OwnGs H ps gs → gs[i]? = some g → ∃ p, ps[i]? = some p ∧ OwnG H p g
  | _, _, _, _, .nil, e => by simp at e
  | _, _, 0, _, .cons h _, e => by
    rw [List.getElem?_cons_zero] at e
    cases e
    exact ⟨_, List.getElem?_cons_zero .., h⟩
  | _, _, i + 1, _, .cons _ t, e => by
    rw [List.getElem?_cons_succ] at e
    obtain ⟨p, h1, h2⟩ := OwnGs.get t e
    exact ⟨p, by rw [List.getElem?_cons_succ]; exact h1, h2⟩
/-- lights, and one or two goods, whose lists are apart -/
structure OwnB (H : Hp) (L G : Addr) (ps : List (Addr × Addr)) (ls : List Int) (gs : List Good) : Prop where
  lights : H L = some (.lst (ls.map V.int))
  list : H G = some (.lst (ps.map fun p => V.ref p.1))
  goods : OwnGs H ps gs
  apart : (ps.map (·.2)).Nodup
theorem OwnB.same {H H' : Hp} {L G : Addr} {ps : List (Addr × Addr)} {ls : List Int} {gs : List Good} (s : Same H H') (h : OwnB H L G ps ls gs) : OwnB H' L G ps ls gs :=
  ⟨s _ _ h.lights, s _ _ h.list, h.goods.same s, h.apart⟩
theorem OwnB.bak {K : PySem.W.Frag} {H : Hp} {L G t : Addr} {ps : List (Addr × Addr)} {ls : List Int} {gs : List Good} {b : Option Int} (h : OwnB H L G ps ls gs) (e : H t = some (.tup [.ref L, optV b, .ref G])) : Th K H (.ref t) (bakD ⟨ls, b, gs⟩) :=
  (Tk.tup e (.cons (.lst h.lights (TkAll.ints ls)) (.cons (Tk.optV b) (.cons (.lst h.list h.goods.tk) .nil)))).th
def livesG : List (Option Int) := [none, none, some 0, some 1, some 2, some 3, some 4, some 5, some 7, some 11, some 23, some 40]
/-- what all goods keep -/
def GoodsOk (n : Nat) (gs : List Good) : Prop := ∀ g ∈ gs, g.days.length = n ∧ lifeB (optD g.life) = true ∧ ∀ d ∈ g.days, dayB (dayD d) = true
end Bk

namespace Bk
open PySem PySem.Spec PyProof.Rows L2
/-! ### a drawn plan of one or two goods: its entries, while it is made -/
def wantG (gs : List Good) (a k : Nat) : Int := match gs[a]? with
  | some g => wantN g k
  | none => 0
def indL (a k : Nat) (key : K3) : Int := if key.2.1 = a ∧ key.2.2 = k then 1 else 0
structure KeyL (gs : List Good) (n : Nat) (k : K3) : Prop where
  a : k.1 < n
  c : k.2.2 < n
  p : ∃ g, gs[k.2.1]? = some g ∧ ∃ p, loafP g k.1 k.2.2 = some p
structure LotJ (gs : List Good) (n a i : Nat) (c : Int) (j : Nat) (es : E3) : Prop where
  nd : (es.map (·.1)).Nodup
  keys : ∀ k ∈ es.map (·.1), KeyL gs n k
  pos : ∀ e ∈ es, 0 < e.2
  met : ∀ b k, sum3 (indL b k) es = if b < a then wantG gs b k else if b = a then (if k < i then wantG gs a k else if k = i then c else 0) else 0
  tot : sum3 (fun _ => 1) es ≤ ((a * n + i : Nat) : Int) * 1000000000 + c
  len : es.length ≤ 2 * (a * n + i) + j
theorem LotJ.nil (gs : List Good) (n : Nat) : LotJ gs n 0 0 0 0 [] := by
  refine ⟨List.nodup_nil, (fun k h => by cases h), (fun e h => by cases h), fun b k => ?_, by show (0 : Int) ≤ _; omega, by simp⟩
  show (0 : Int) = _
  split
  · omega
  · split
    · split
      · omega
      · split <;> rfl
    · rfl
theorem LotJ.add {gs : List Good} {n a i j : Nat} {c m : Int} {es : E3} {key : K3} (h : LotJ gs n a i c j es) (hk : KeyL gs n key) (ha : key.2.1 = a) (hi : key.2.2 = i) (hm : 0 < m) : LotJ gs n a i (c + m) (j + 1) (add3 es key m) := by
  refine ⟨add3_nodup h.nd, fun k hk2 => ?_, fun e he => ?_, fun b k => ?_, ?_, ?_⟩
  · rcases add3_key.mp hk2 with z | z
    · exact h.keys k z
    · rw [z]
      exact hk
  · obtain ⟨k, v⟩ := e
    show 0 < v
    rcases add3_mem he with he | ⟨_, rfl⟩
    · exact h.pos _ he
    · cases hl : look3 es key with
      | none => show 0 < 0 + m; omega
      | some u =>
        have := h.pos _ (look3_val hl)
        dsimp only at this
        show 0 < u + m
        omega
  · rw [add3_sum _ h.nd, h.met b k]
    unfold indL
    rw [ha, hi]
    by_cases h1 : b < a
    · rw [if_pos h1, if_pos h1, if_neg (by omega)]
      omega
    · rw [if_neg h1, if_neg h1]
      by_cases h2 : b = a
      · rw [if_pos h2, if_pos h2]
        by_cases h3 : k < i
        · rw [if_pos h3, if_pos h3, if_neg (by omega)]
          omega
        · rw [if_neg h3, if_neg h3]
          by_cases h4 : k = i
          · rw [if_pos h4, if_pos h4, if_pos ⟨h2.symm, h4.symm⟩]
            omega
          · rw [if_neg h4, if_neg h4, if_neg (by omega)]
            omega
      · rw [if_neg h2, if_neg h2, if_neg (by omega)]
        omega
  · rw [add3_sum _ h.nd]
    have := h.tot
    omega
  · have := add3_len es key m
    have := h.len
    omega
theorem LotJ.next {gs : List Good} {n a i : Nat} {es : E3} (h : LotJ gs n a i (wantG gs a i) 2 es) (hw : wantG gs a i ≤ 1000000000) : LotJ gs n a (i + 1) 0 0 es := by
  refine ⟨h.nd, h.keys, h.pos, fun b k => ?_, ?_, by have := h.len; omega⟩
  · rw [h.met b k]
    by_cases h1 : b < a
    · rw [if_pos h1, if_pos h1]
    · rw [if_neg h1, if_neg h1]
      by_cases h2 : b = a
      · rw [if_pos h2, if_pos h2]
        by_cases h3 : k < i
        · rw [if_pos h3, if_pos (by omega)]
        · rw [if_neg h3]
          by_cases h4 : k = i
          · rw [if_pos h4, if_pos (by omega), h4]
          · rw [if_neg h4, if_neg (by omega)]
            split <;> rfl
      · rw [if_neg h2, if_neg h2]
  · have := h.tot
    have e : ((a * n + (i + 1) : Nat) : Int) = ((a * n + i : Nat) : Int) + 1 := by omega
    rw [e]
    generalize ((a * n + i : Nat) : Int) = z at this ⊢
    omega
theorem LotJ.good {gs : List Good} {n a : Nat} {es : E3} (h : LotJ gs n a n 0 0 es) (hn : ∀ k, n ≤ k → wantG gs a k = 0) : LotJ gs n (a + 1) 0 0 0 es := by
  refine ⟨h.nd, h.keys, h.pos, fun b k => ?_, ?_, ?_⟩
  · rw [h.met b k]
    by_cases h1 : b < a
    · rw [if_pos h1, if_pos (by omega)]
    · rw [if_neg h1]
      by_cases h2 : b = a
      · subst h2
        rw [if_pos rfl, if_pos (show b < b + 1 by omega)]
        by_cases h3 : k < n
        · rw [if_pos h3]
        · rw [if_neg h3, hn k (by omega)]
          split <;> rfl
      · rw [if_neg h2, if_neg (by omega)]
        split
        · split
          · omega
          · split <;> rfl
        · rfl
  · have := h.tot
    rw [Nat.add_mul, Nat.one_mul, Nat.add_zero]
    exact this
  · have := h.len
    rw [Nat.add_mul, Nat.one_mul, Nat.add_zero]
    omega
/-- a drawn plan of one or two goods -/
structure Lots (gs : List Good) (n : Nat) (es : E3) : Prop where
  nd : (es.map (·.1)).Nodup
  keys : ∀ k ∈ es.map (·.1), KeyL gs n k
  pos : ∀ e ∈ es, 0 < e.2
  met : ∀ b k, sum3 (indL b k) es = wantG gs b k
  tot : sum3 (fun _ => 1) es ≤ ((gs.length * n : Nat) : Int) * 1000000000
  len : es.length ≤ 2 * (gs.length * n)
theorem LotJ.done {gs : List Good} {n : Nat} {es fs : E3} (h : LotJ gs n gs.length 0 0 0 es) (p : fs.Perm es) : Lots gs n fs := by
  refine ⟨(p.map _).nodup_iff.mpr h.nd, fun k hk => h.keys k ((p.map _).mem_iff.mp hk), fun e he => h.pos e (p.mem_iff.mp he), fun b k => ?_, ?_, by rw [p.length_eq]; have := h.len; omega⟩
  · rw [sum3_perm p, h.met b k]
    by_cases h1 : b < gs.length
    · rw [if_pos h1]
    · rw [if_neg h1]
      have e : wantG gs b k = 0 := by
        unfold wantG
        rw [List.getElem?_eq_none (by omega)]
      rw [e]
      split
      · split
        · omega
        · split <;> rfl
      · rfl
  · rw [sum3_perm p]
    have := h.tot
    omega
end Bk

namespace Bk
open PySem PySem.Spec PyProof.Rows L2
def dayAt (h : Row4 → Nat) (zs : List (Addr × Row4)) (i j : Nat) : Bool := match zs[j]? with | some z => decide (h z.2 = i) | none => false
/-- the lit days of a plan, below n -/
def litDs (L : List Row4) (n : Nat) : List Int := ((List.range n).filter fun d => decide (d ∈ L.map Row4.a)).map fun d => ((d : Nat) : Int)
/-- how many loaves are baked on a day -/
def loadR (L : List Row4) (d : Nat) : Int := (L.map fun r => if r.a = d then r.m else 0).sum
end Bk

namespace Bk
open PySem PySem.Spec PyProof.Rows L2
theorem without_mono {D : Addr} {H H' : Hp} (s : Same H H') : Same (without D H) (without D H') := fun b o e => by
  unfold without at e ⊢
  split at e
  · cases e
  · rename_i h
    rw [if_neg h]
    exact s _ _ e
theorem without_upd {D : Addr} {H : Hp} {o : HO} : without D (upd H D o) = without D H := by
  funext b
  unfold without
  by_cases h : b = D
  · rw [if_pos h, if_pos h]
  · rw [if_neg h, if_neg h, upd_ne h]
theorem without_sub {D : Addr} {H : Hp} : Same (without D H) H := fun b o e => by
  unfold without at e
  split at e
  · cases e
  · exact e
theorem ThAll.set {K : PySem.W.Frag} {H : Hp} {x : V} {e : PyData} : ∀ {vs : List V} {ds : List PyData} {i : Nat}, ThAll K H vs ds → Th K H x e → ThAll K H (vs.set i x) (ds.set i e)
  | _, _, _, .nil, _ => .nil
  | _, _, 0, .cons _ t, h => .cons h t
  | _, _, i + 1, .cons h t, h2 => .cons h (ThAll.set t h2)
/-! ### a want less, a price put otherwise -/
def lessD (m : Int) (d : Day) : Day := ⟨d.want - m, d.loaf, d.keep, d.fine⟩
def lessG (g : Good) (k : Nat) (m : Int) : Good := match g.days[k]? with
  | some d => ⟨g.days.set k (lessD m d), g.life⟩
  | none => g
def lessB (b : Bak) (r : Row4) : Bak := match b.goods[r.b]? with
  | some g => ⟨b.lights, b.bound, b.goods.set r.b (lessG g r.c r.m)⟩
  | none => b
/-- a loaf has a price by lives and fines alone -/
theorem loafP_there {g g' : Good} (hl : g'.life = g.life) (hf : g'.days.map Day.fine = g.days.map Day.fine) {j k : Nat} (h : ∃ p, loafP g j k = some p) : ∃ p, loafP g' j k = some p := by
  obtain ⟨p, h⟩ := h
  have hlen : g'.days.length = g.days.length := by
    have := congrArg List.length hf
    rw [List.length_map, List.length_map] at this
    exact this
  have hfi : ∀ a b, finesL g'.days a b = finesL g.days a b := fun a b => by
    unfold finesL
    rw [List.map_take, List.map_drop, List.map_take, List.map_drop, hf]
  unfold loafP at h ⊢
  cases hd : g.days[j]? with
  | none => rw [hd] at h; cases h
  | some d =>
    rw [hd] at h
    have hj : j < g'.days.length := by
      rw [hlen]
      exact (List.getElem?_eq_some_iff.mp hd).1
    rw [List.getElem?_eq_getElem hj]
    dsimp only at h ⊢
    rw [hl, hfi]
    by_cases hk : k < j
    · rw [if_pos hk] at h ⊢
      obtain ⟨z, hz, _⟩ := Option.map_eq_some_iff.mp h
      rw [hz]
      exact ⟨_, rfl⟩
    · rw [if_neg hk] at h ⊢
      cases hg : g.life with
      | none => exact ⟨_, rfl⟩
      | some l =>
        rw [hg] at h
        dsimp only at h ⊢
        split at h
        · cases h
        · rename_i hz
          rw [if_neg hz]
          exact ⟨_, rfl⟩
theorem FitR.turn {b c : Bak} {n : Nat} {q : Row4} (h : FitR b n q) (k : ∀ (i : Nat) (g : Good), b.goods[i]? = some g → ∃ g' : Good, c.goods[i]? = some g' ∧ g'.life = g.life ∧ g'.days.map Day.fine = g.days.map Day.fine) : FitR c n q := by
  obtain ⟨g, hg, hp⟩ := h.p
  obtain ⟨g', h1, h2, h3⟩ := k _ g hg
  exact ⟨h.a, h.c, h.m, g', h1, loafP_there h2 h3 hp⟩
end Bk

namespace Bk
open PySem PySem.Spec PyProof.Rows L2
theorem sum3_ge {f : K3 → Int} {es : E3} (h : ∀ e ∈ es, 0 ≤ e.2 * f e.1) : 0 ≤ sum3 f es := by
  induction es with
  | nil => exact Int.le_refl 0
  | cons x r ih =>
    rw [sum3_cons]
    have := h x List.mem_cons_self
    have := ih fun e he => h e (List.mem_cons_of_mem _ he)
    omega
theorem sum3_each {f : K3 → Int} {es : E3} (h : ∀ e ∈ es, 0 ≤ e.2 * f e.1) : ∀ e ∈ es, e.2 * f e.1 ≤ sum3 f es := by
  induction es with
  | nil => intro e he; cases he
  | cons x r ih =>
    intro e he
    rw [sum3_cons]
    have hr : ∀ e ∈ r, 0 ≤ e.2 * f e.1 := fun e he => h e (List.mem_cons_of_mem _ he)
    have h0 := sum3_ge hr
    have h1 := h x List.mem_cons_self
    rcases List.mem_cons.mp he with rfl | he
    · omega
    · have := ih hr e he
      omega
theorem Lots.le_tot {gs : List Good} {n : Nat} {es : E3} (h : Lots gs n es) : ∀ e ∈ es, 0 < e.2 ∧ e.2 ≤ ((gs.length * n : Nat) : Int) * 1000000000 := fun e he => by
  refine ⟨h.pos e he, ?_⟩
  have := sum3_each (f := fun _ => 1) (fun x hx => by have := h.pos x hx; omega) e he
  have := h.tot
  omega
theorem lots_bound {a n : Nat} (ha : a ≤ 2) (hn : n ≤ 40) : ((a * n : Nat) : Int) * 1000000000 ≤ 80000000000 := by
  have : a * n ≤ 2 * 40 := Nat.mul_le_mul ha hn
  omega
theorem Lots.small {gs : List Good} {n : Nat} {es : E3} (h : Lots gs n es) (hg : gs.length ≤ 2) (hn : n ≤ 40) : SmallR (es.map rowE) := by
  have hl := h.len
  have : gs.length * n ≤ 2 * 40 := Nat.mul_le_mul hg hn
  refine ⟨by rw [List.length_map]; omega, fun r hr => ?_⟩
  obtain ⟨e, he, rfl⟩ := List.mem_map.mp hr
  have hk := h.keys _ (List.mem_map.mpr ⟨e, he, rfl⟩)
  have h1 := h.le_tot e he
  have h2 := lots_bound hg hn
  obtain ⟨g, hg1, hp⟩ := hk.p
  have hb : e.1.2.1 < gs.length := (List.getElem?_eq_some_iff.mp hg1).1
  have ha := hk.a
  have hc := hk.c
  refine ⟨by show e.1.1 < 1000; omega, by show e.1.2.1 < 1000; omega, by show e.1.2.2 < 1000; omega, ?_⟩
  show e.2.natAbs < 10 ^ 12
  exact Nat.lt_of_le_of_lt (show e.2.natAbs ≤ 80000000000 by omega) (by decide)
theorem TkAll.setAt {H : Hp} {x : V} {e : PyData} : ∀ {vs : List V} {ds : List PyData} {i : Nat}, TkAll H vs ds → Tk H x e → TkAll H (vs.set i x) (ds.set i e)
  | _, _, _, .nil, _ => .nil
  | _, _, 0, .cons _ t, h => .cons h t
  | _, _, i + 1, .cons h t, h2 => .cons h (TkAll.setAt t h2)
/-- the last day's loaf put otherwise, the first light too -/
def turnD (d : Day) : Day := ⟨d.want, 1000000000 - d.loaf, d.keep, d.fine⟩
def turnG (g : Good) : Good := match g.days[g.days.length - 1]? with
  | some d => ⟨g.days.set (g.days.length - 1) (turnD d), g.life⟩
  | none => g
end Bk

namespace Bk
open PySem PySem.Spec PyProof.Rows L2
theorem OwnG.upd {H : Hp} {q : Addr × Addr} {g : Good} {A : Addr} {ys : List V} {o : HO} (h : OwnG H q g) (hA : H A = some (.lst ys)) (ne : q.2 ≠ A) : OwnG (upd H A o) q g := by
  obtain ⟨xs, h1, h2⟩ := h.lst
  refine ⟨?_, xs, by rw [upd_ne ne]; exact h1, h2.same (tupsOf_upd hA)⟩
  rw [upd_ne fun z => by have := h.tup; rw [z, hA] at this; cases this]
  exact h.tup
theorem OwnGs.upd {H : Hp} {A : Addr} {ys : List V} {o : HO} (hA : H A = some (.lst ys)) : ∀ {ps : List (Addr × Addr)} {gs : List Good}, OwnGs H ps gs → (∀ q ∈ ps, q.2 ≠ A) → OwnGs (upd H A o) ps gs
  | _, _, .nil, _ => .nil
  | _, _, .cons h t, ne => .cons (h.upd hA (ne _ List.mem_cons_self)) (OwnGs.upd hA t fun q hq => ne q (List.mem_cons_of_mem _ hq))
theorem OwnGs.mem {H : Hp} : ∀ {ps : List (Addr × Addr)} {gs : List Good}, OwnGs H ps gs → ∀ q ∈ ps, ∃ g ∈ gs, OwnG H q g
  | _, _, .nil, q, hq => by cases hq
  | _, _, .cons h t, q, hq => by
    rcases List.mem_cons.mp hq with rfl | hq
    · exact ⟨_, List.mem_cons_self, h⟩
    · obtain ⟨g, hg, hq2⟩ := OwnGs.mem t q hq
      exact ⟨g, List.mem_cons_of_mem _ hg, hq2⟩
/-- a list of days holds no numbers, and no goods -/
theorem OwnG.head {H : Hp} {q : Addr × Addr} {g : Good} (h : OwnG H q g) (hn : 1 ≤ g.days.length) : ∃ (t : Addr) (d : Day) (xs : List V), H q.2 = some (.lst (.ref t :: xs)) ∧ H t = some (.tup [.int d.want, .int d.loaf, .int d.keep, optV d.fine]) := by
  obtain ⟨xs, h1, h2⟩ := h.lst
  cases hd : g.days with
  | nil => rw [hd] at hn; simp at hn
  | cons d r =>
    rw [hd] at h2
    have h2 : TkAll (tupsOf H) xs (dayD d :: r.map dayD) := h2
    cases h2 with
    | cons h3 h4 =>
      have h3 : Tk (tupsOf H) _ (.tuple [.int d.want, .int d.loaf, .int d.keep, optD d.fine]) := h3
      cases h3 with
      | tup ht hta =>
        cases hta with
        | cons t1 hta => cases hta with
        | cons t2 hta => cases hta with
        | cons t3 hta => cases hta with
        | cons t4 hta =>
        cases hta
        cases t1; cases t2; cases t3
        have e := t4.opt
        subst e
        exact ⟨_, d, _, h1, (tupsOf_is ht).1⟩
structure Apart (H : Hp) (L G : Addr) (ps : List (Addr × Addr)) : Prop where
  lg : L ≠ G
  ql : ∀ q ∈ ps, q.2 ≠ L
  qg : ∀ q ∈ ps, q.2 ≠ G
theorem OwnB.parts {H : Hp} {L G : Addr} {ps : List (Addr × Addr)} {ls : List Int} {gs : List Good} (h : OwnB H L G ps ls gs) (h1 : 1 ≤ ls.length) (h2 : 1 ≤ gs.length) (h3 : ∀ g ∈ gs, 1 ≤ g.days.length) : Apart H L G ps := by
  obtain ⟨l0, lr, rfl⟩ : ∃ l0 lr, ls = l0 :: lr := by
    cases ls with
    | nil => simp at h1
    | cons a b => exact ⟨a, b, rfl⟩
  have hps := h.goods.length
  obtain ⟨q0, qr, rfl⟩ : ∃ q0 qr, ps = q0 :: qr := by
    cases ps with
    | nil => simp at hps; omega
    | cons a b => exact ⟨a, b, rfl⟩
  have hL := h.lights
  have hG := h.list
  refine ⟨fun z => ?_, fun q hq z => ?_, fun q hq z => ?_⟩
  · rw [z, hG] at hL
    cases hL
  · obtain ⟨g, hg, ho⟩ := h.goods.mem q hq
    obtain ⟨t, d, xs, e1, e2⟩ := ho.head (h3 g hg)
    rw [z, hL] at e1
    cases e1
  · obtain ⟨g, hg, ho⟩ := h.goods.mem q hq
    obtain ⟨t, d, xs, e1, e2⟩ := ho.head (h3 g hg)
    rw [z, hG] at e1
    cases e1
    obtain ⟨g0, hg0, ho0⟩ := h.goods.mem q0 List.mem_cons_self
    have := ho0.tup
    rw [e2] at this
    cases this
theorem OwnB.light {H : Hp} {L G : Addr} {ps : List (Addr × Addr)} {ls ms : List Int} {gs : List Good} (h : OwnB H L G ps ls gs) (a : Apart H L G ps) : OwnB (upd H L (.lst (ms.map V.int))) L G ps ms gs :=
  ⟨upd_same, by rw [upd_ne a.lg.symm]; exact h.list, h.goods.upd h.lights a.ql, h.apart⟩
theorem OwnB.day {H : Hp} {L G : Addr} {q : Addr × Addr} {ps : List (Addr × Addr)} {ls : List Int} {g g' : Good} {gs : List Good} {m : Nat} {t : Addr} {d : Day} {xs : List V} (h : OwnB H L G (q :: ps) ls (g :: gs)) (a : Apart H L G (q :: ps)) (hx : H q.2 = some (.lst xs)) (ht : H t = some (.tup [.int d.want, .int d.loaf, .int d.keep, optV d.fine])) (h1 : g'.life = g.life) (h2 : g'.days = g.days.set m d) : OwnB (upd H q.2 (.lst (xs.set m (.ref t)))) L G (q :: ps) ls (g' :: gs) := by
  have hnd := h.apart
  rw [List.map_cons, List.nodup_cons] at hnd
  have hg := h.goods
  cases hg with
  | cons ho hr =>
  obtain ⟨ys, e1, e2⟩ := ho.lst
  rw [hx] at e1
  cases e1
  have su := tupsOf_upd (o := .lst (xs.set m (.ref t))) hx
  refine ⟨by rw [upd_ne (a.ql q List.mem_cons_self).symm]; exact h.lights, by rw [upd_ne (a.qg q List.mem_cons_self).symm]; exact h.list, .cons ⟨?_, _, upd_same, ?_⟩ (hr.upd hx fun p hp z => hnd.1 (List.mem_map.mpr ⟨p, hp, z⟩)), h.apart⟩
  · rw [upd_ne (fun z => by have := ho.tup; rw [z, hx] at this; cases this), h1]
    exact ho.tup
  · rw [h2, List.map_set]
    refine TkAll.setAt (e2.same su) (.tup (su _ _ (tupsOf_at ht)) (.cons (.int _) (.cons (.int _) (.cons (.int _) (.cons (Tk.optV _) .nil)))))
end Bk

namespace Bk
open PySem PySem.Spec PyProof.Rows L2
/-! ### enumerate over zip: zip's own pair may be held by what enumerate hands out, be gone, or not be there yet -/
abbrev zObj (f0 : Value) (f : Bool) (TI TO : Addr) : Obj := { cls := .type "zip", dict := none, data := .fields #[f0, .bool f, .bool false, .ref TI, .ref TO], slots := #[] }
section
variable {prog : Program} {w : World} {A : Around} {E : Value → Shared → Prop} {s : Shared}
theorem load_if {a : Addr} {Q : Option Obj → Shared → Prop} (h : Q (s.heap.get? a) s) : wpAny (model prog w) A (loadIfAlive a) Q E s := fun _ _ _ => h
/-- zip's pair may be written again: it is not there yet, or gone -/
def MayWrite (h : Heap) (f0 : Value) : Prop := f0 = .none ∨ ∃ T : Addr, f0 = rawInt T ∧ h.get? T = none
theorem zip_may {z TI TO : Addr} {f0 : Value} {f : Bool} {Q : Bool → Shared → Prop} (hz : s.heap.get? z = some (zObj f0 f TI TO)) (hm : MayWrite s.heap f0) (h : Q true s) :
    wpAny (model prog w) A (Builtin.SmallTypes.ownedTupleIsFree (.ref z)) Q E s := by
  unfold Builtin.SmallTypes.ownedTupleIsFree
  rcases hm with rfl | ⟨T, rfl, hT⟩
  · exact wpAny_bind (wpAny_field hz rfl (x := .none) rfl (wpAny_pure h))
  · refine wpAny_bind (wpAny_field hz rfl (x := rawInt T) rfl ?_)
    show wpAny _ _ (loadIfAlive ((T : Int).toNat) >>= _) _ _ _
    rw [Int.toNat_natCast]
    refine wpAny_bind (load_if ?_)
    rw [hT]
    exact wpAny_pure h
theorem zip_item_may {z TI TO i1 i2 l1 l2 : Addr} {f0 : Value} {f : Bool} {k : Nat} {xs ys : Array Value} {x y a b : Value} {Q : Value → Shared → Prop} (D : ZipApart z TI TO i1 i2 l1 l2)
    (hz : s.heap.get? z = some (zObj f0 f TI TO)) (hm : MayWrite s.heap f0) (hTI : IsPair s.heap TI (.ref i1) (.ref i2)) (hTO : IsPair s.heap TO a b)
    (h1 : s.heap.IsListIter i1 l1 k) (h2 : s.heap.IsListIter i2 l2 k) (hl1 : s.heap.IsList l1 xs) (hl2 : s.heap.IsList l2 ys) (hx : xs[k]? = some x) (hy : ys[k]? = some y)
    (hQ : ∀ h', h'.get? z = some (zObj (rawInt s.heap.objs.size) false TI TO) → IsPair h' TO x y → h'.IsListIter i1 l1 (k + 1) → h'.IsListIter i2 l2 (k + 1) → IsPair h' s.heap.objs.size x y → h'.objs.size = s.heap.objs.size + 1 →
      (∀ c o, c ≠ z → c ≠ TO → c ≠ i1 → c ≠ i2 → s.heap.get? c = some o → h'.get? c = some o) → Q (.ref s.heap.objs.size) { s with heap := h' }) :
    wpAny (model prog w) A (Builtin.«zip.__next__» ⟨[.ref z], []⟩) (fun fin s' => ∃ v, fin = .done (.ret v) ∧ Q v s') E s := by
  show wpAny _ _ (field (.ref z) 2 >>= _) _ _ _
  refine wpAny_bind (wpAny_field hz rfl (x := .bool false) rfl ?_)
  show wpAny _ _ (field (.ref z) 3 >>= _) _ _ _
  refine wpAny_bind (wpAny_field hz rfl (x := .ref TI) rfl (wpAny_bind (wpAny_seqItems hTI rfl ?_)))
  show wpAny _ _ (Builtin.SmallTypes.ownedTupleIsFree (.ref z) >>= _) _ _ _
  refine wpAny_bind (zip_may hz hm ?_)
  simp only [if_true]
  refine wpAny_bind (wpAny_rule (wpAny_bind (wpAny_field hz rfl (x := .ref TO) rfl (wpAny_bind (wpAny_setField_rec hz (by simp) fun g1 z1 s1 => ?_)))))
  replace z1 : g1.get? z = some (zObj .ellipsis f TI TO) := z1
  refine wpAny_bind ?_
  simp only [List.zipIdx_cons, List.zipIdx_nil, List.forIn_cons, List.forIn_nil]
  refine wpAny_bind (wpAny_bind (wpAny_onRaise ?_))
  show wpAny _ _ (Builtin.SmallTypes.nextOf (.ref i1) >>= _) _ _ _
  refine wpAny_bind (wpAny_nextOf_list_item (h1.extBut s1.extBut D.i1z) (hl1.extBut s1.extBut D.l1z) hx fun g2 e1 s2 => wpAny_pure ?_)
  have o2 : IsPair g2 TO a b := s2.extBut _ _ D.TOi1 (s1.extBut _ _ D.TOz hTO)
  refine wpAny_bind (wpAny_seqItems o2 rfl (wpAny_bind (wpAny_updateSeq_pair o2 fun g3 o3 s3 => ?_)))
  replace o3 : IsPair g3 TO x b := o3
  refine wpAny_bind (wpAny_letGo (wpAny_pure (wpAny_bind (wpAny_bind (wpAny_onRaise ?_)))))
  show wpAny _ _ (Builtin.SmallTypes.nextOf (.ref i2) >>= _) _ _ _
  refine wpAny_bind (wpAny_nextOf_list_item (((h2.extBut s1.extBut D.i2z).extBut s2.extBut D.i12.symm).extBut s3.extBut D.TOi2.symm)
    (((hl2.extBut s1.extBut D.l2z).extBut s2.extBut D.l2i1).extBut s3.extBut D.l2TO) hy fun g4 e2 s4 => wpAny_pure ?_)
  have o4 : IsPair g4 TO x b := s4.extBut _ _ D.TOi2 o3
  refine wpAny_bind (wpAny_seqItems o4 rfl (wpAny_bind (wpAny_updateSeq_pair o4 fun g5 o5 s5 => ?_)))
  replace o5 : IsPair g5 TO x y := o5
  refine wpAny_bind (wpAny_letGo (wpAny_pure (wpAny_pure (wpAny_bind (wpAny_seqItems o5 rfl (wpAny_bind (wpAny_newTuple ?_)))))))
  have hsz : g5.objs.size = s.heap.objs.size := by rw [s5.1, s4.1, s3.1, s2.1, s1.1]
  have z5 : g5.get? z = some (zObj .ellipsis f TI TO) := s5.extBut _ _ D.TOz.symm (s4.extBut _ _ D.i2z.symm (s3.extBut _ _ D.TOz.symm (s2.extBut _ _ D.i1z.symm z1)))
  have k5 : ∀ c o, c ≠ z → c ≠ TO → c ≠ i1 → c ≠ i2 → s.heap.get? c = some o → g5.get? c = some o := fun c o c1 c2 c3 c4 e =>
    s5.extBut _ _ c2 (s4.extBut _ _ c4 (s3.extBut _ _ c2 (s2.extBut _ _ c3 (s1.extBut _ _ c1 e))))
  have e15 : g5.IsListIter i1 l1 (k + 1) := ((e1.extBut s3.extBut D.TOi1.symm).extBut s4.extBut D.i12).extBut s5.extBut D.TOi1.symm
  have e25 : g5.IsListIter i2 l2 (k + 1) := e2.extBut s5.extBut D.TOi2.symm
  have zlt : z < g5.objs.size := Heap.lt_size z5
  show wpAny _ _ (Builtin.SmallTypes.ownedTupleHandOut (.ref z) (.ref g5.objs.size) >>= _) _ _ _
  refine wpAny_bind ?_
  unfold Builtin.SmallTypes.ownedTupleHandOut
  have z6 : (g5.push { cls := .type "tuple", data := .seq #[x, y] }).get? z = some (zObj .ellipsis f TI TO) := Heap.get?_push_of_some _ z5
  refine wpAny_bind (wpAny_setField_rec z6 (by simp) fun g7 z7 s7 => ?_)
  replace z7 : g7.get? z = some (zObj (rawInt g5.objs.size) f TI TO) := z7
  refine wpAny_setField_rec z7 (by simp) fun g8 z8 s8 => ?_
  replace z8 : g8.get? z = some (zObj (rawInt g5.objs.size) false TI TO) := z8
  have up : ∀ c o, c ≠ z → g5.get? c = some o → g8.get? c = some o := fun c o c1 e => s8.extBut _ _ c1 (s7.extBut _ _ c1 (Heap.get?_push_of_some _ e))
  have t8 : IsPair g8 g5.objs.size x y := s8.extBut _ _ (Nat.ne_of_gt zlt) (s7.extBut _ _ (Nat.ne_of_gt zlt) (Heap.get?_push_size _ rfl))
  have n8 : g8.objs.size = g5.objs.size + 1 := by rw [s8.1, s7.1, Heap.size_push]
  rw [hsz] at z8 t8 n8
  refine wpAny_pure ⟨_, rfl, ?_⟩
  show Q (.ref g5.objs.size) _
  rw [hsz]
  exact hQ g8 z8 (up _ _ D.TOz o5) (e15.at fun o e => up _ o D.i1z e) (e25.at fun o e => up _ o D.i2z e) t8 n8 fun c o c1 c2 c3 c4 e => up c o c1 (k5 c o c1 c2 c3 c4 e)
theorem zip_end_may {z TI TO i1 i2 l1 l2 : Addr} {f0 : Value} {f : Bool} {k : Nat} {xs ys : Array Value} {a b : Value} {Q : Fin → Shared → Prop} (hh : A.handled = none) (D : ZipApart z TI TO i1 i2 l1 l2)
    (hz : s.heap.get? z = some (zObj f0 f TI TO)) (hm : MayWrite s.heap f0) (hTI : IsPair s.heap TI (.ref i1) (.ref i2)) (hTO : IsPair s.heap TO a b)
    (h1 : s.heap.IsListIter i1 l1 k) (h2 : s.heap.IsListIter i2 l2 k) (hl1 : s.heap.IsList l1 xs) (hl2 : s.heap.IsList l2 ys) (hend : xs[k]? = none ∨ ys[k]? = none)
    (hE : ∀ h' e, (∀ c o, c ≠ z → c ≠ TO → c ≠ i1 → c ≠ i2 → s.heap.get? c = some o → h'.get? c = some o) → (∃ o, h'.get? e = some o ∧ o.cls = .type "StopIteration") → E (.ref e) { s with heap := h' }) :
    wpAny (model prog w) A (Builtin.«zip.__next__» ⟨[.ref z], []⟩) Q E s := by
  show wpAny _ _ (field (.ref z) 2 >>= _) _ _ _
  refine wpAny_bind (wpAny_field hz rfl (x := .bool false) rfl ?_)
  show wpAny _ _ (field (.ref z) 3 >>= _) _ _ _
  refine wpAny_bind (wpAny_field hz rfl (x := .ref TI) rfl (wpAny_bind (wpAny_seqItems hTI rfl ?_)))
  show wpAny _ _ (Builtin.SmallTypes.ownedTupleIsFree (.ref z) >>= _) _ _ _
  refine wpAny_bind (zip_may hz hm ?_)
  simp only [if_true]
  refine wpAny_bind (wpAny_rule (wpAny_bind (wpAny_field hz rfl (x := .ref TO) rfl (wpAny_bind (wpAny_setField_rec hz (by simp) fun g1 z1 s1 => ?_)))))
  replace z1 : g1.get? z = some (zObj .ellipsis f TI TO) := z1
  refine wpAny_bind ?_
  simp only [List.zipIdx_cons, List.zipIdx_nil, List.forIn_cons, List.forIn_nil]
  refine wpAny_bind (wpAny_bind (wpAny_onRaise ?_))
  show wpAny _ _ (Builtin.SmallTypes.nextOf (.ref i1) >>= _) _ _ _
  have fin : ∀ (g : Heap) (e : Addr), g.get? z = some (zObj .ellipsis f TI TO) → (∃ o, g.get? e = some o ∧ o.cls = .type "StopIteration") → (∀ c o, c ≠ z → c ≠ TO → c ≠ i1 → c ≠ i2 → s.heap.get? c = some o → g.get? c = some o) →
      wpAny (model prog w) A (setField (.ref z) 0 .none) (fun _ => E (.ref e)) E { s with heap := g } := fun g e zg ⟨oe, he, hc⟩ hk => by
    have hez : e ≠ z := fun q => by subst q; rw [zg] at he; cases he; simp at hc
    exact wpAny_setField_rec zg (by simp) fun g' _ sg => hE g' e (fun c o c1 c2 c3 c4 q => sg.extBut _ _ c1 (hk c o c1 c2 c3 c4 q)) ⟨oe, sg.extBut _ _ hez he, hc⟩
  cases hx : xs[k]? with
  | none =>
    refine wpAny_bind (wpAny_nextOf_list_end hh (h1.extBut s1.extBut D.i1z) (hl1.extBut s1.extBut D.l1z) hx fun g2 e s2 he => ?_)
    exact fin g2 e (s2 _ _ D.i1z.symm z1) he fun c o c1 _ c3 _ q => s2 _ _ c3 (s1.extBut _ _ c1 q)
  | some x =>
    have hy : ys[k]? = none := by rcases hend with h | h; rw [hx] at h; cases h; exact h
    refine wpAny_bind (wpAny_nextOf_list_item (h1.extBut s1.extBut D.i1z) (hl1.extBut s1.extBut D.l1z) hx fun g2 e1 s2 => wpAny_pure ?_)
    have o2 : IsPair g2 TO a b := s2.extBut _ _ D.TOi1 (s1.extBut _ _ D.TOz hTO)
    refine wpAny_bind (wpAny_seqItems o2 rfl (wpAny_bind (wpAny_updateSeq_pair o2 fun g3 o3 s3 => ?_)))
    refine wpAny_bind (wpAny_letGo (wpAny_pure (wpAny_bind (wpAny_bind (wpAny_onRaise ?_)))))
    show wpAny _ _ (Builtin.SmallTypes.nextOf (.ref i2) >>= _) _ _ _
    refine wpAny_bind (wpAny_nextOf_list_end hh (((h2.extBut s1.extBut D.i2z).extBut s2.extBut D.i12.symm).extBut s3.extBut D.TOi2.symm)
      (((hl2.extBut s1.extBut D.l2z).extBut s2.extBut D.l2i1).extBut s3.extBut D.l2TO) hy fun g4 e s4 he => ?_)
    exact fin g4 e (s4 _ _ D.i2z.symm (s3.extBut _ _ D.TOz.symm (s2.extBut _ _ D.i1z.symm z1))) he fun c o c1 c2 c3 c4 q => s4 _ _ c4 (s3.extBut _ _ c2 (s2.extBut _ _ c3 (s1.extBut _ _ c1 q)))
/-- zip over two lists, k pairs told, whatever became of them -/
structure ZSt (z TI TO i1 i2 l1 l2 : Addr) (k : Nat) (h : Heap) : Prop where
  obj : ∃ (f0 : Value) (f : Bool), h.get? z = some (zObj f0 f TI TO) ∧ (f0 = .none ∨ ∃ T : Addr, f0 = rawInt T)
  ti : IsPair h TI (.ref i1) (.ref i2)
  to : ∃ a b, IsPair h TO a b
  i1 : h.IsListIter i1 l1 k
  i2 : h.IsListIter i2 l2 k
theorem ZSt.next {z TI TO i1 i2 l1 l2 : Addr} {k : Nat} {xs ys : Array Value} {x y : Value} {Q : Value → Shared → Prop} (D : ZipApart z TI TO i1 i2 l1 l2) (Z : ZSt z TI TO i1 i2 l1 l2 k s.heap)
    (hl1 : s.heap.IsList l1 xs) (hl2 : s.heap.IsList l2 ys) (hx : xs[k]? = some x) (hy : ys[k]? = some y)
    (hQ : ∀ h', ZSt z TI TO i1 i2 l1 l2 (k + 1) h' → IsPair h' s.heap.objs.size x y → h'.objs.size = s.heap.objs.size + 1 →
      (∀ c o, c ≠ z → c ≠ TO → c ≠ i1 → c ≠ i2 → s.heap.get? c = some o → h'.get? c = some o) → Q (.ref s.heap.objs.size) { s with heap := h' }) :
    wpAny (model prog w) A (Builtin.SmallTypes.nextOf (.ref z)) Q E s := by
  obtain ⟨⟨f0, f, hz, hf⟩, hTI, ⟨a, b, hTO⟩, h1, h2⟩ := Z
  have hTy : s.TypeIs (.ref z) "zip" := ⟨_, hz, rfl⟩
  unfold Builtin.SmallTypes.nextOf
  refine wpAny_bind (wpAny_callSpecial?_slot (name := Str.ofString "__next__") hTy F.slot_zip_next
    (wpAny_call_entry F.slot_zip_next hTy F.entry_zip_next ?_ (F.args_zip_next_1 _)))
  rcases hf with rfl | ⟨T, rfl⟩
  · exact zip_item_may D hz (.inl rfl) hTI hTO h1 h2 hl1 hl2 hx hy fun h' a1 a2 a3 a4 a5 a6 a7 => wpAny_pure (hQ h' ⟨⟨_, _, a1, .inr ⟨_, rfl⟩⟩, a7 _ _ D.TIz D.TITO D.TIi1 D.TIi2 hTI, ⟨_, _, a2⟩, a3, a4⟩ a5 a6 a7)
  · cases hT : s.heap.get? T with
    | none => exact zip_item_may D hz (.inr ⟨T, rfl, hT⟩) hTI hTO h1 h2 hl1 hl2 hx hy fun h' a1 a2 a3 a4 a5 a6 a7 => wpAny_pure (hQ h' ⟨⟨_, _, a1, .inr ⟨_, rfl⟩⟩, a7 _ _ D.TIz D.TITO D.TIi1 D.TIi2 hTI, ⟨_, _, a2⟩, a3, a4⟩ a5 a6 a7)
    | some oT =>
      exact zip_next_item_held D hz hT hTI h1 h2 hl1 hl2 hx hy fun h' a1 a3 a4 a5 a6 a7 =>
        wpAny_pure (hQ h' ⟨⟨_, _, a1, .inr ⟨_, rfl⟩⟩, a7 _ _ D.TIz D.TIi1 D.TIi2 hTI, ⟨_, _, a7 _ _ D.TOz D.TOi1 D.TOi2 hTO⟩, a3, a4⟩ a5 a6 fun c o c1 _ c3 c4 => a7 c o c1 c3 c4)
theorem ZSt.stop {z TI TO i1 i2 l1 l2 : Addr} {k : Nat} {xs ys : Array Value} {Q : Value → Shared → Prop} (hh : A.handled = none) (D : ZipApart z TI TO i1 i2 l1 l2) (Z : ZSt z TI TO i1 i2 l1 l2 k s.heap)
    (hl1 : s.heap.IsList l1 xs) (hl2 : s.heap.IsList l2 ys) (hend : xs[k]? = none ∨ ys[k]? = none)
    (hE : ∀ h' e, (∀ c o, c ≠ z → c ≠ TO → c ≠ i1 → c ≠ i2 → s.heap.get? c = some o → h'.get? c = some o) → (∃ o, h'.get? e = some o ∧ o.cls = .type "StopIteration") → E (.ref e) { s with heap := h' }) :
    wpAny (model prog w) A (Builtin.SmallTypes.nextOf (.ref z)) Q E s := by
  obtain ⟨⟨f0, f, hz, hf⟩, hTI, ⟨a, b, hTO⟩, h1, h2⟩ := Z
  have hTy : s.TypeIs (.ref z) "zip" := ⟨_, hz, rfl⟩
  unfold Builtin.SmallTypes.nextOf
  refine wpAny_bind (wpAny_callSpecial?_slot (name := Str.ofString "__next__") hTy F.slot_zip_next
    (wpAny_call_entry F.slot_zip_next hTy F.entry_zip_next ?_ (F.args_zip_next_1 _)))
  rcases hf with rfl | ⟨T, rfl⟩
  · exact zip_end_may hh D hz (.inl rfl) hTI hTO h1 h2 hl1 hl2 hend hE
  · cases hT : s.heap.get? T with
    | none => exact zip_end_may hh D hz (.inr ⟨T, rfl, hT⟩) hTI hTO h1 h2 hl1 hl2 hend hE
    | some oT => exact zip_next_end_held hh D hz hT hTI h1 h2 hl1 hl2 hend fun h' e hk => hE h' e fun c o c1 _ c3 c4 => hk c o c1 c3 c4
/-- one turn of enumerate over zip: first zip tells its pair (heap h1), then enumerate puts the count beside it (heap h2) -/
theorem enumzip_item {e z TI TO i1 i2 l1 l2 : Addr} {c : Int} {k : Nat} {xs ys : Array Value} {x y old : Value} {Q : Value → Shared → Prop} (D : ZipApart z TI TO i1 i2 l1 l2)
    (he : IsEnum s.heap e z c old) (hez : e ≠ z) (heO : e ≠ TO) (he1 : e ≠ i1) (he2 : e ≠ i2) (Z : ZSt z TI TO i1 i2 l1 l2 k s.heap)
    (hl1 : s.heap.IsList l1 xs) (hl2 : s.heap.IsList l2 ys) (hx : xs[k]? = some x) (hy : ys[k]? = some y)
    (hQ : ∀ h1 h2, ZSt z TI TO i1 i2 l1 l2 (k + 1) h1 → IsPair h1 s.heap.objs.size x y → h1.objs.size = s.heap.objs.size + 1 →
      (∀ b o, b ≠ z → b ≠ TO → b ≠ i1 → b ≠ i2 → s.heap.get? b = some o → h1.get? b = some o) →
      IsEnumOut h2 e z (c + 1) (.ref s.heap.objs.size) (s.heap.objs.size + 1) → IsPair h2 (s.heap.objs.size + 1) (.int c s.toks) (.ref s.heap.objs.size) → h2.objs.size = s.heap.objs.size + 2 →
      (∀ b o, b ≠ e → h1.get? b = some o → h2.get? b = some o) → Q (.ref (s.heap.objs.size + 1)) { s with heap := h2, toks := s.toks + 1 }) :
    wpAny (model prog w) A (Builtin.«enumerate.__next__» ⟨[.ref e], []⟩) (fun fin s' => ∃ v, fin = .done (.ret v) ∧ Q v s') E s := by
  obtain ⟨hp, g, d, tk, os⟩ := s
  show wpAny _ _ (field (.ref e) 2 >>= _) _ _ _
  refine wpAny_bind (wpAny_field he rfl (x := .ref z) rfl ?_)
  refine wpAny_bind (Z.next D hl1 hl2 hx hy fun g1 Z1 P1 n1 k1 => ?_)
  have hel : e < hp.objs.size := Heap.lt_size he
  have he1 : IsEnum g1 e z c old := k1 _ _ hez heO he1 he2 he
  show wpAny _ _ (field (.ref e) 3 >>= _) _ _ ⟨g1, g, d, tk, os⟩
  refine wpAny_bind (wpAny_field he1 rfl (x := rawInt c) rfl ?_)
  show wpAny _ _ (field (.ref e) 4 >>= _) _ _ ⟨g1, g, d, tk, os⟩
  refine wpAny_bind (wpAny_field he1 rfl (x := .none) rfl ?_)
  show wpAny _ _ (mkInt c >>= _) _ _ ⟨g1, g, d, tk, os⟩
  refine wpAny_bind (wpAny_mkInt ?_)
  show wpAny _ _ (setField (.ref e) 3 (rawInt (c + 1)) >>= _) _ _ ⟨g1, g, d, tk + 1, os⟩
  refine wpAny_bind (wpAny_setField_rec he1 (by simp) fun g2 e2 s2 => ?_)
  replace s2 : Heap.SameBut e g1 g2 := s2
  replace e2 : IsEnum g2 e z (c + 1) old := e2
  show wpAny _ _ (setField (.ref e) 4 .none >>= _) _ _ ⟨g2, g, d, tk + 1, os⟩
  refine wpAny_bind (wpAny_setField_rec e2 (by simp) fun g3 e3 s3 => ?_)
  replace s3 : Heap.SameBut e g2 g3 := s3
  replace e3 : IsEnum g3 e z (c + 1) old := e3
  show wpAny _ _ (newTuple [.int c tk, .ref hp.objs.size] >>= _) _ _ ⟨g3, g, d, tk + 1, os⟩
  refine wpAny_bind (wpAny_newTuple ?_)
  have e4 : IsEnum (g3.push { cls := .type "tuple", data := .seq #[.int c tk, .ref hp.objs.size] }) e z (c + 1) old := Heap.get?_push_of_some _ e3
  have n3 : g3.objs.size = hp.objs.size + 1 := by rw [s3.1, s2.1, n1]
  have t4 : (g3.push { cls := .type "tuple", data := .seq #[.int c tk, .ref hp.objs.size] }).get? (hp.objs.size + 1) = some { cls := .type "tuple", data := .seq #[.int c tk, .ref hp.objs.size] } := by rw [← n3]; exact Heap.get?_push_size _ rfl
  have n4 : (g3.push { cls := .type "tuple", data := .seq #[.int c tk, .ref hp.objs.size] }).objs.size = hp.objs.size + 2 := by rw [Heap.size_push, n3]
  have k4 : ∀ b o, b ≠ e → g1.get? b = some o → (g3.push { cls := .type "tuple", data := .seq #[.int c tk, .ref hp.objs.size] }).get? b = some o := fun b o hb q => Heap.get?_push_of_some _ (s3.extBut b o hb (s2.extBut b o hb q))
  generalize g3.push { cls := .type "tuple", data := .seq #[.int c tk, .ref hp.objs.size] } = g4 at e4 t4 n4 k4
  show wpAny _ _ (Builtin.SmallTypes.ownedTupleIsFree (.ref e) >>= _) _ _ ⟨g4, g, d, tk + 1, os⟩
  rw [n3]
  have hne : hp.objs.size + 1 ≠ e := Nat.ne_of_gt (Nat.lt_succ_of_lt hel)
  refine wpAny_bind ?_
  unfold Builtin.SmallTypes.ownedTupleIsFree
  refine wpAny_bind (wpAny_field e4 rfl (x := .none) rfl (wpAny_pure ?_))
  simp only [if_true]
  refine wpAny_bind (wpAny_rule (wpAny_bind (wpAny_field e4 rfl (x := old) rfl (wpAny_bind (wpAny_setField_rec e4 (by simp) fun g5 e5 s5 => ?_)))))
  replace s5 : Heap.SameBut e g4 g5 := s5
  replace e5 : IsEnum g5 e z (c + 1) (.ref hp.objs.size) := e5
  show wpAny _ _ (Builtin.SmallTypes.ownedTupleHandOut (.ref e) (.ref (hp.objs.size + 1)) >>= _) _ _ ⟨g5, g, d, tk + 1, os⟩
  refine wpAny_bind ?_
  unfold Builtin.SmallTypes.ownedTupleHandOut
  refine wpAny_bind (wpAny_setField_rec e5 (by simp) fun g6 e6 s6 => ?_)
  replace s6 : Heap.SameBut e g5 g6 := s6
  replace e6 : IsEnumOut g6 e z (c + 1) (.ref hp.objs.size) (hp.objs.size + 1) := e6
  refine wpAny_setField_rec e6 (by simp) fun g7 e7 s7 => ?_
  replace s7 : Heap.SameBut e g6 g7 := s7
  replace e7 : IsEnumOut g7 e z (c + 1) (.ref hp.objs.size) (hp.objs.size + 1) := e7
  have k7 : ∀ b o, b ≠ e → g4.get? b = some o → g7.get? b = some o := fun b o hb q => s7.extBut b o hb (s6.extBut b o hb (s5.extBut b o hb q))
  exact wpAny_bind (wpAny_letGo (wpAny_pure ⟨_, rfl, hQ g1 g7 Z1 P1 n1 k1 e7 (k7 _ _ hne t4) (by rw [s7.1, s6.1, s5.1, n4]) fun b o hb q => k7 b o hb (k4 b o hb q)⟩))
theorem enumzip_end {e z TI TO i1 i2 l1 l2 : Addr} {c : Int} {k : Nat} {xs ys : Array Value} {old : Value} {Q : Fin → Shared → Prop} (hh : A.handled = none) (D : ZipApart z TI TO i1 i2 l1 l2)
    (he : IsEnum s.heap e z c old) (Z : ZSt z TI TO i1 i2 l1 l2 k s.heap) (hl1 : s.heap.IsList l1 xs) (hl2 : s.heap.IsList l2 ys) (hend : xs[k]? = none ∨ ys[k]? = none)
    (hE : ∀ h' e, (∀ c o, c ≠ z → c ≠ TO → c ≠ i1 → c ≠ i2 → s.heap.get? c = some o → h'.get? c = some o) → (∃ o, h'.get? e = some o ∧ o.cls = .type "StopIteration") → E (.ref e) { s with heap := h' }) :
    wpAny (model prog w) A (Builtin.«enumerate.__next__» ⟨[.ref e], []⟩) Q E s := by
  show wpAny _ _ (field (.ref e) 2 >>= _) _ _ _
  refine wpAny_bind (wpAny_field he rfl (x := .ref z) rfl ?_)
  exact wpAny_bind (Z.stop hh D hl1 hl2 hend hE)
theorem next_enumzip {e z TI TO i1 i2 l1 l2 : Addr} {c : Int} {k : Nat} {xs ys : Array Value} {x y old : Value} {Q : Option Value → Shared → Prop} (D : ZipApart z TI TO i1 i2 l1 l2)
    (he : IsEnum s.heap e z c old) (hez : e ≠ z) (heO : e ≠ TO) (he1 : e ≠ i1) (he2 : e ≠ i2) (Z : ZSt z TI TO i1 i2 l1 l2 k s.heap)
    (hl1 : s.heap.IsList l1 xs) (hl2 : s.heap.IsList l2 ys) (hx : xs[k]? = some x) (hy : ys[k]? = some y)
    (hQ : ∀ h1 h2, ZSt z TI TO i1 i2 l1 l2 (k + 1) h1 → IsPair h1 s.heap.objs.size x y → h1.objs.size = s.heap.objs.size + 1 →
      (∀ b o, b ≠ z → b ≠ TO → b ≠ i1 → b ≠ i2 → s.heap.get? b = some o → h1.get? b = some o) →
      IsEnumOut h2 e z (c + 1) (.ref s.heap.objs.size) (s.heap.objs.size + 1) → IsPair h2 (s.heap.objs.size + 1) (.int c s.toks) (.ref s.heap.objs.size) → h2.objs.size = s.heap.objs.size + 2 →
      (∀ b o, b ≠ e → h1.get? b = some o → h2.get? b = some o) → Q (some (.ref (s.heap.objs.size + 1))) { s with heap := h2, toks := s.toks + 1 }) :
    wpAny (model prog w) A (pyNext (.ref e)) Q E s := by
  have hT : s.TypeIs (.ref e) "enumerate" := ⟨_, he, rfl⟩
  unfold pyNext
  exact wpAny_bind (wpAny_attempt (wpAny_callSpecial?_slot (name := Str.ofString "__next__") hT F.slot_enumerate_next
    (wpAny_call_entry F.slot_enumerate_next hT F.entry_enumerate_next
      (enumzip_item D he hez heO he1 he2 Z hl1 hl2 hx hy fun h1 h2 a b c d e f g h => wpAny_pure (hQ h1 h2 a b c d e f g h)) (F.args_enumerate_next_1 _))))
theorem end_enumzip {e z TI TO i1 i2 l1 l2 : Addr} {c : Int} {k : Nat} {xs ys : Array Value} {old : Value} {Q : Option Value → Shared → Prop} (hh : A.handled = none) (D : ZipApart z TI TO i1 i2 l1 l2)
    (he : IsEnum s.heap e z c old) (Z : ZSt z TI TO i1 i2 l1 l2 k s.heap) (hl1 : s.heap.IsList l1 xs) (hl2 : s.heap.IsList l2 ys) (hend : xs[k]? = none ∨ ys[k]? = none)
    (hQ : ∀ h', (∀ c o, c ≠ z → c ≠ TO → c ≠ i1 → c ≠ i2 → s.heap.get? c = some o → h'.get? c = some o) → Q none { s with heap := h' }) : wpAny (model prog w) A (pyNext (.ref e)) Q E s := by
  have hT : s.TypeIs (.ref e) "enumerate" := ⟨_, he, rfl⟩
  unfold pyNext
  refine wpAny_bind (wpAny_attempt (wpAny_callSpecial?_slot (name := Str.ofString "__next__") hT F.slot_enumerate_next
    (wpAny_call_entry F.slot_enumerate_next hT F.entry_enumerate_next (enumzip_end hh D he Z hl1 hl2 hend fun h' e hk he => ?_) (F.args_enumerate_next_1 _))))
  obtain ⟨o, ho, hc⟩ := he
  refine wpAny_bind (wpAny_isInstance (T := "StopIteration") (b := true) ⟨o, ho, hc⟩ isSubtype_stop ?_)
  exact wpAny_pure (hQ _ hk)
end
/-- the lists at a and b as they stand at each turn: the count, and beside it a new pair of the two items -/
def Itez (K : PySem.W.Frag) (a b : Addr) : It :=
  ⟨fun i H => ∃ (xs ys : List V) (x y : V), SqL K H a xs ∧ SqL K H b ys ∧ xs[i]? = some x ∧ ys[i]? = some y,
    fun i H v H' => ∃ T U x y, v = .ref U ∧ H T = none ∧ upd H T (.tup [x, y]) U = none ∧ H' = upd (upd H T (.tup [x, y])) U (.tup [.int (i : Nat), .ref T]) ∧ (∀ xs, SqL K H a xs → xs[i]? = some x) ∧ ∀ ys, SqL K H b ys → ys[i]? = some y,
    fun i H => ∃ xs ys : List V, SqL K H a xs ∧ SqL K H b ys ∧ (xs.length ≤ i ∨ ys.length ≤ i)⟩
theorem turn_enumzip {P : Program} {w : World} {K : PySem.W.Frag} {elts : List Expr} {kk : Nat} {tpos : Pos} {a b e z TI TO i1 i2 : Addr} (D : ZipApart z TI TO i1 i2 a b) (hez : e ≠ z) (heI : e ≠ TI) (heO : e ≠ TO) (he1 : e ≠ i1) (he2 : e ≠ i2) :
    Turn P w K (.Tuple elts kk tpos) (Itez K a b) [e, z, TI, TO, i1, i2] e (fun i h => (∃ old, IsEnum h e z ((i : Nat) : Int) old) ∧ ZSt z TI TO i1 i2 a b i h) where
  mem := by simp
  obj := fun i h st c hc => by
    obtain ⟨⟨old, he⟩, ⟨⟨f0, f, hz, _⟩, hTI, ⟨x, y, hTO⟩, ⟨o1, e1, _, d1⟩, ⟨o2, e2, _, d2⟩⟩⟩ := st
    have e' : c = e ∨ c = z ∨ c = TI ∨ c = TO ∨ c = i1 ∨ c = i2 := by simpa using hc
    rcases e' with q | q | q | q | q | q
    · rw [q]; exact ⟨_, he, fun v q => nomatch q⟩
    · rw [q]; exact ⟨_, hz, fun v q => nomatch q⟩
    · rw [q]; exact ⟨_, hTI, fun v q => nomatch q⟩
    · rw [q]; exact ⟨_, hTO, fun v q => nomatch q⟩
    · rw [q]; exact ⟨o1, e1, fun v q => by rw [d1] at q; cases q⟩
    · rw [q]; exact ⟨o2, e2, fun v q => by rw [d2] at q; cases q⟩
  keep := fun i h h' st k => by
    obtain ⟨⟨old, he⟩, ⟨⟨f0, f, hz, hf⟩, hTI, ⟨x, y, hTO⟩, h1, h2⟩⟩ := st
    exact ⟨⟨old, k e (by simp) _ he⟩, ⟨⟨f0, f, k z (by simp) _ hz, hf⟩, k TI (by simp) _ hTI, ⟨x, y, k TO (by simp) _ hTO⟩, h1.at fun o q => k i1 (by simp) o q, h2.at fun o q => k i2 (by simp) o q⟩⟩
  item := by
    intro X hP hw hK hc i pins s σ H E I hf st hg
    subst hP hw hK
    obtain ⟨⟨old, he⟩, Z⟩ := st
    obtain ⟨xs, ys, x, y, hqx, hqy, hx, hy⟩ := hg
    obtain ⟨its, rv, p, _⟩ := I.list hqx
    obtain ⟨its2, rv2, p2, _⟩ := I.list hqy
    obtain ⟨u, hu, ru⟩ := rv.get hx
    obtain ⟨u2, hu2, ru2⟩ := rv2.get hy
    have lt : ∀ c ∈ [e, z, TI, TO, i1, i2], c < s.heap.objs.size := fun c hc => by
      obtain ⟨⟨f0, f, hz, _⟩, hTI, ⟨x, y, hTO⟩, ⟨o1, e1, _, d1⟩, ⟨o2, e2, _, d2⟩⟩ := Z
      have e' : c = e ∨ c = z ∨ c = TI ∨ c = TO ∨ c = i1 ∨ c = i2 := by simpa using hc
      rcases e' with q | q | q | q | q | q <;> rw [q]
      · exact Heap.lt_size he
      · exact Heap.lt_size hz
      · exact Heap.lt_size hTI
      · exact Heap.lt_size hTO
      · exact Heap.lt_size e1
      · exact Heap.lt_size e2
    have hel := lt e (by simp)
    refine next_enumzip D he hez heO he1 he2 Z p.isList p2.isList (x := u) (y := u2) (by simpa using hu) (by simpa using hu2) fun g1 g2 Z1 P1 n1 k1 eo t2 n2 k2 => ?_
    refine ⟨_, rfl, wpAny_letOwnedTupleGo_enum (s := { s with heap := g2, toks := s.toks + 1 }) eo fun g3 e3 sb => ?_⟩
    have k3 : ∀ b o, b ≠ e → g1.get? b = some o → g3.get? b = some o := fun b o hb q => (sb.2 b hb).trans (k2 b o hb q)
    have new1 : ObjOk X.prog X.w (upd H s.heap.objs.size (.tup [x, y])) g1 s.heap.objs.size (.tup [x, y]) :=
      ⟨by show 2 ≤ sizeLine; decide, [u, u2], .cons ru (.cons ru2 .nil), ⟨_, P1, rfl, _, rfl⟩⟩
    have I1 : Inv X pins σ (upd H s.heap.objs.size (.tup [x, y])) { s with heap := g1 } :=
      I.turnedNew (t' := s.toks) (ch := [e, z, TI, TO, i1, i2]) (fun c o hb q => k1 c o (fun z => hb (by simp [z])) (fun z => hb (by simp [z])) (fun z => hb (by simp [z])) (fun z => hb (by simp [z])) q) hf (Nat.le_refl _) new1
    have hf1 : ∀ b ∈ [e, z, TI, TO, i1, i2], FpOk X pins (upd H s.heap.objs.size (.tup [x, y])) b := fun b hb => by
      obtain ⟨q1, q2⟩ := hf b hb
      exact ⟨by rw [upd_ne (Nat.ne_of_lt (lt b hb))]; exact q1, q2⟩
    have t3 : g3.get? (s.heap.objs.size + 1) = some { cls := .type "tuple", data := .seq #[.int ((i : Nat) : Int) s.toks, .ref s.heap.objs.size] } := (sb.2 _ (Nat.ne_of_gt (Nat.lt_succ_of_lt hel))).trans t2
    have new2 : ObjOk X.prog X.w (upd (upd H s.heap.objs.size (.tup [x, y])) (s.heap.objs.size + 1) (.tup [.int (i : Nat), .ref s.heap.objs.size])) g3 (s.heap.objs.size + 1) (.tup [.int (i : Nat), .ref s.heap.objs.size]) :=
      ⟨by show 2 ≤ sizeLine; decide, [.int i s.toks, .ref s.heap.objs.size], .cons ⟨_, rfl⟩ (.cons rfl .nil), ⟨_, t3, rfl, _, rfl⟩⟩
    have I2 : Inv X pins σ (upd (upd H s.heap.objs.size (.tup [x, y])) (s.heap.objs.size + 1) (.tup [.int (i : Nat), .ref s.heap.objs.size])) { s with heap := g3, toks := s.toks + 1 } :=
      I1.turnedNew (t' := s.toks + 1) (ch := [e, z, TI, TO, i1, i2]) (fun c o hb q => k3 c o (fun z => hb (by simp [z])) q) hf1 (by show g1.objs.size ≤ _; rw [n1]; exact Nat.le_refl _) new2
    refine ⟨.ref (s.heap.objs.size + 1), _, I2, rfl, ⟨s.heap.objs.size, s.heap.objs.size + 1, x, y, rfl, I.hok.fresh (Nat.le_refl _), ?_, rfl, fun l hl => by rw [I.list_inj hl hqx]; exact hx, fun l hl => by rw [I.list_inj hl hqy]; exact hy⟩, ⟨⟨.ref s.heap.objs.size, ?_⟩, ?_⟩, fun b hb => ?_⟩
    · rw [upd_ne (Nat.succ_ne_self _)]
      exact I.hok.fresh (Nat.le_succ _)
    · rw [show ((i + 1 : Nat) : Int) = (i : Int) + 1 by omega]
      exact e3
    · obtain ⟨⟨f0, f, hz, hf⟩, hTI, ⟨x0, y0, hTO⟩, h1, h2⟩ := Z1
      exact ⟨⟨f0, f, k3 _ _ hez.symm hz, hf⟩, k3 _ _ heI.symm hTI, ⟨x0, y0, k3 _ _ heO.symm hTO⟩, h1.at fun o q => k3 _ o he1.symm q, h2.at fun o q => k3 _ o he2.symm q⟩
    · rw [upd_ne (Nat.ne_of_lt (Nat.lt_succ_of_lt (lt b hb)))]
      exact (hf1 b hb).1
  done := by
    intro X hP hw hK hc i pins s σ H E I hf st hg
    subst hP hw hK
    obtain ⟨⟨old, he⟩, Z⟩ := st
    obtain ⟨xs, ys, hqx, hqy, hend⟩ := hg
    obtain ⟨its, rv, p, _⟩ := I.list hqx
    obtain ⟨its2, rv2, p2, _⟩ := I.list hqy
    have l1 := rv.length
    have l2 := rv2.length
    have he' : its.toArray[i]? = none ∨ its2.toArray[i]? = none := by
      rcases hend with q | q
      · exact .inl (by simp; omega)
      · exact .inr (by simp; omega)
    exact end_enumzip (I.ok.hd hc) D he Z p.isList p2.isList he' fun h' hk => ⟨rfl, I.turnedL (t' := s.toks) (ch := [e, z, TI, TO, i1, i2]) (fun c o hb q =>
      hk c o (fun q' => hb (by simp [q'])) (fun q' => hb (by simp [q'])) (fun q' => hb (by simp [q'])) (fun q' => hb (by simp [q'])) q) hf⟩
  self := fun A i s Q E st h => let ⟨⟨_, he⟩, _⟩ := st; wpAny_pyIter_enum he h
section
open AutoSeq1 (wpAny_loadPart')
theorem meets_enumerate_newZ (z TI TO : Addr) :
    Meets (Builtin.«enumerate.__new__» ⟨[.type "enumerate", .ref z], []⟩) (fun _ R s => s.heap.get? z = some (zObj .none false TI TO) ∧
      R (.ok (.ret (.ref s.heap.objs.size))) { s with heap := s.heap.push { cls := .type "enumerate", data := .fields #[.none, .bool false, .ref z, rawInt 0, .none, .none] } }) :=
  .of_wp fun prog w A R s h => by
    obtain ⟨hp, g, d, tk, os⟩ := s; obtain ⟨hl, h⟩ := h
    have hsub := sub_enumerate
    have hL : IsZip (Shared.heap ⟨hp, g, d, tk, os⟩) z TI TO .none := hl
    wp_walk using wpAny_loadPart' hl
    refine wpAny_stack_any fun st => wpAny_pure ?_
    split
    · rename_i c _ _ _ _ _
      cases (c == Value.type "enumerate")
      · wp_walk using wpAny_loadPart' hl, wpAny_pyIter_zip hL
        exact ⟨_, rfl, h⟩
      · wp_walk using wpAny_loadPart' hl, wpAny_pyIter_zip hL
        exact ⟨_, rfl, h⟩
    · wp_walk using wpAny_loadPart' hl, wpAny_pyIter_zip hL
      exact ⟨_, rfl, h⟩
end
section
variable {prog : Program} {w : World} {A : Around} {E : Value → Shared → Prop} {s : Shared}
theorem call_enumerate_zip {z TI TO : Addr} {Q : Value → Shared → Prop} (hz : IsZip s.heap z TI TO .none)
    (h : ∀ h', IsEnum h' s.heap.objs.size z 0 .none → h'.objs.size = s.heap.objs.size + 1 → (∀ b o, s.heap.get? b = some o → h'.get? b = some o) → Q (.ref s.heap.objs.size) { s with heap := h' }) :
    wpAny (model prog w) A (call (.type "enumerate") [.ref z]) Q E s := by
  refine callType_new F.called_enumerate (by decide) (F.typeCall_enumerate_1 _) (F.newCall_enumerate_1 _) (fun obj => F.args_object_init_2 obj _) F.entry_enumerate_new
    (meets_enumerate_newZ z TI TO) ⟨hz, ?_⟩
  have he : IsEnum (s.heap.push { cls := .type "enumerate", data := .fields #[.none, .bool false, .ref z, rawInt 0, .none, .none] }) s.heap.objs.size z 0 .none := Heap.get?_push_size _ rfl
  exact ⟨⟨_, he, rfl⟩, h _ he (Heap.size_push ..) fun b o x => Heap.get?_push_of_some _ x⟩
end
def iEnumZip (K : PySem.W.Frag) (ta : TA) : TI := fun σ H R => ta σ H fun vs H1 => ∃ a b xs ys, vs = [.ref a, .ref b] ∧ SqL K H1 a xs ∧ SqL K H1 b ys ∧ R (Itez K a b) H1
theorem pi_enumzip {X : Cx} {e e2 : Expr} {ta : TA} {p pz pos posz tpos : Pos} {elts : List Expr} {kk : Nat} (hg : Gl X "enumerate") (hm : X.mg "enumerate" = none) (hgz : Gl X "zip") (hmz : X.mg "zip" = none) (ha : PA X [e, e2] ta)
    (hs : starEach [e, e2] X.env = (false, eval e X.env) :: starEach [e2] X.env := by rfl) (hpl : (backTo posz (starEach [e2] X.env)).any (·.1) = false := by rfl)
    (hs1 : starEach [Expr.Call (.Name "zip" pz) [e, e2] [] posz] X.env = [(false, eval (.Call (.Name "zip" pz) [e, e2] [] posz) X.env)] := by rfl) :
    PI X (.Tuple elts kk tpos) (.Call (.Name "enumerate" p) [.Call (.Name "zip" pz) [e, e2] [] posz] [] pos) (iEnumZip X.K ta) := by
  refine ⟨fun pins s σ H R I h => ?_⟩
  refine Call_ (ld_blt I hg hm boot_enumerate (PyProof.Rows.callWith_type1 ?_ hs1 rfl))
  rw [hs1]
  show wpAny _ _ (spliced ((false, eval (.Call (.Name "zip" pz) [e, e2] [] posz) X.env) :: [])) _ _ s
  refine Calls.spliced_cons (Call_ (ld_blt I hgz hmz PyProof.Rows.boot_zip (PyProof.Rows.callWith_type1 (thn (ha.run posz pins s σ H _ I h) fun us s1 ⟨vs, H1, I1, r1, q1⟩ => ?_) hs hpl)))
  obtain ⟨a, b, xs, ys, ex, hqx, hqy, q⟩ := q1
  subst ex
  cases r1 with
  | cons r rr =>
  cases rr with
  | cons r' rr =>
  cases rr
  cases r
  cases r'
  obtain ⟨its, rv, p1, _⟩ := I1.list hqx
  obtain ⟨its2, rv2, p2, _⟩ := I1.list hqy
  have la : a < s1.heap.objs.size := p1.lt
  have lb : b < s1.heap.objs.size := p2.lt
  refine call_zip_2 p1.isList p2.isList fun h' hz hTI hTO h1 h2 hsz hk => Calls.spliced_nil ?_
  refine call_enumerate_zip hz fun h2' he hsz2 hk2 => wpAny_pyIter_enum he ?_
  have D := PySem.W.ktu_apart s1.heap.objs.size a b la lb
  have I2 : Inv X pins σ H1 { s1 with heap := h2' } := I1.kept (t' := s1.toks) fun b o q => hk2 b o (hk b o q)
  have hsz : h'.objs.size = s1.heap.objs.size + 5 := hsz
  have N : ∀ {j : Nat}, j < 5 → h'.objs.size ≠ s1.heap.objs.size + j := fun hj => by rw [hsz]; exact Nat.ne_of_gt (Nat.add_lt_add_left hj _)
  refine ⟨h'.objs.size, [h'.objs.size, s1.heap.objs.size + 4, s1.heap.objs.size + 2, s1.heap.objs.size + 3, s1.heap.objs.size, s1.heap.objs.size + 1], _, _, H1, rfl, I2,
    turn_enumzip D (N (j := 4) (by decide)) (N (j := 2) (by decide)) (N (j := 3) (by decide)) (N (j := 0) (by decide)) (N (j := 1) (by decide)), ⟨⟨.none, he⟩, ⟨⟨.none, false, hk2 _ _ hz, .inl rfl⟩, hk2 _ _ hTI, ⟨_, _, hk2 _ _ hTO⟩, h1.at fun o q => hk2 _ o q, h2.at fun o q => hk2 _ o q⟩⟩, fun c hcm => ?_, q⟩
  have e' : c = h'.objs.size ∨ c = s1.heap.objs.size + 4 ∨ c = s1.heap.objs.size + 2 ∨ c = s1.heap.objs.size + 3 ∨ c = s1.heap.objs.size ∨ c = s1.heap.objs.size + 1 := by simpa using hcm
  have hle : s1.heap.objs.size ≤ c := by
    rcases e' with z | z | z | z | z | z <;> rw [z]
    · rw [hsz]; exact Nat.le_add_right _ _
    · exact Nat.le_add_right _ _
    · exact Nat.le_add_right _ _
    · exact Nat.le_add_right _ _
    · exact Nat.le_refl _
    · exact Nat.le_add_right _ _
  exact I1.fpOk hle (I1.hok.fresh hle)
/-- the count and a new pair of the i-th of both -/
def YEz (xs ys : Nat → Option V) : Nat → Hp → V → Hp → Prop := fun i H v H' => ∃ T U x y, v = .ref U ∧ H T = none ∧ upd H T (.tup [x, y]) U = none ∧ H' = upd (upd H T (.tup [x, y])) U (.tup [.int (i : Nat), .ref T]) ∧ xs i = some x ∧ ys i = some y
theorem walk_enumzip {K : PySem.W.Frag} {a b : Addr} {xs ys : List V} {n : Nat} (hn : n = min xs.length ys.length) : Walk (Itez K a b) n (fun H => SqL K H a xs ∧ SqL K H b ys) (YEz (fun i => xs[i]?) (fun i => ys[i]?)) := by
  subst hn
  refine ⟨fun i _ hi q => ?_, fun _ q => ⟨xs, ys, q.1, q.2, by omega⟩, fun i H v H' _ q y => ?_⟩
  · have h1 : i < xs.length := by omega
    have h2 : i < ys.length := by omega
    exact ⟨xs, ys, xs[i], ys[i], q.1, q.2, by simp [h1], by simp [h2]⟩
  · obtain ⟨T, U, x, y, h1, h2, h3, h4, h5, h6⟩ := y
    exact ⟨T, U, x, y, h1, h2, h3, h4, h5 xs q.1, h6 ys q.2⟩
def rEnumZip (K : PySem.W.Frag) (vs : List V) (H : Hp) (R : It → Hp → Prop) : Prop := ∃ a b xs ys, vs = [.ref a, .ref b] ∧ SqL K H a xs ∧ SqL K H b ys ∧ R (Itez K a b) H
theorem iEnumZip_eq {K : PySem.W.Frag} {ta : TA} {σ : L2.St} {H : Hp} {R : It → Hp → Prop} : iEnumZip K ta σ H R = ta σ H fun vs H1 => rEnumZip K vs H1 R := rfl
theorem rEnumZip_r {K : PySem.W.Frag} {a b : Addr} {H : Hp} {R : It → Hp → Prop} : rEnumZip K [.ref a, .ref b] H R = ∃ xs ys, SqL K H a xs ∧ SqL K H b ys ∧ R (Itez K a b) H := propext ⟨fun ⟨_, _, xs, ys, e, h⟩ => by cases e; exact ⟨xs, ys, h⟩, fun ⟨xs, ys, h⟩ => ⟨a, b, xs, ys, rfl, h⟩⟩
end Bk

namespace Bk
open PySem PySem.Spec PyProof.Rows L2
open C8 (Met pe_mt pe_mt0)
/-! ### a ledger: what stands beside its own three lists -/
def but (S : List Addr) (H : Hp) : Hp := fun b => if b ∈ S then none else H b
theorem but_at {S : List Addr} {H : Hp} {b : Addr} {o : HO} (h : b ∉ S) (e : H b = some o) : but S H b = some o := by
  unfold but
  rw [if_neg h]
  exact e
theorem but_is {S : List Addr} {H : Hp} {b : Addr} {o : HO} (e : but S H b = some o) : b ∉ S ∧ H b = some o := by
  unfold but at e
  split at e
  · cases e
  · rename_i h
    exact ⟨h, e⟩
theorem but_same (S : List Addr) (H : Hp) : Same (but S H) H := fun b o e => (but_is e).2
theorem but_mono {S : List Addr} {H H' : Hp} (s : Same H H') : Same (but S H) (but S H') := fun b o e => but_at (but_is e).1 (s _ _ (but_is e).2)
theorem but_upd {S : List Addr} {H : Hp} {a : Addr} {o : HO} (h : a ∈ S) : but S (upd H a o) = but S H := by
  funext b
  unfold but
  by_cases hb : b ∈ S
  · rw [if_pos hb, if_pos hb]
  · rw [if_neg hb, if_neg hb, upd_ne (fun z => hb (by rw [z]; exact h))]
/-! ### the fields -/
def lf (L D E : Addr) (life : V) : List (Str × V) := [("lights", .ref L), ("days", .ref D), ("life", life), ("deeds", .ref E)]
theorem sne1 : (("days" : Str) == "lights") = false := by decide +kernel
theorem sne2 : (("life" : Str) == "lights") = false := by decide +kernel
theorem sne3 : (("life" : Str) == "days") = false := by decide +kernel
theorem sne4 : (("deeds" : Str) == "lights") = false := by decide +kernel
theorem sne5 : (("deeds" : Str) == "days") = false := by decide +kernel
theorem sne6 : (("deeds" : Str) == "life") = false := by decide +kernel
theorem lf_lights {L D E : Addr} {l : V} : (lf L D E l).lookup ("lights" : Str) = some (.ref L) := by
  unfold lf; simp only [List.lookup, beq_self_eq_true]
theorem lf_days {L D E : Addr} {l : V} : (lf L D E l).lookup ("days" : Str) = some (.ref D) := by
  unfold lf; simp only [List.lookup, sne1, beq_self_eq_true]
theorem lf_life {L D E : Addr} {l : V} : (lf L D E l).lookup ("life" : Str) = some l := by
  unfold lf; simp only [List.lookup, sne2, sne3, beq_self_eq_true]
theorem lf_deeds {L D E : Addr} {l : V} : (lf L D E l).lookup ("deeds" : Str) = some (.ref E) := by
  unfold lf; simp only [List.lookup, sne4, sne5, sne6, beq_self_eq_true]
theorem lf_no {L D E : Addr} {l : V} {m : Str} (h1 : (m == "lights") = false) (h2 : (m == "days") = false) (h3 : (m == "life") = false) (h4 : (m == "deeds") = false) : (lf L D E l).lookup m = none := by
  unfold lf; simp only [List.lookup, h1, h2, h3, h4]
/-! ### deeds -/
abbrev Deed := Option (Nat × Str × Option Int)
def Dd (H : Hp) (v : V) : Deed → Prop
  | none => v = .non
  | some (a, s, o) => ∃ t, v = .ref t ∧ H t = some (.tup [.int (a : Int), .str s, optV o])
theorem Dd.same {H H' : Hp} {v : V} {d : Deed} (s : Same (tupsOf H) (tupsOf H')) (h : Dd H v d) : Dd H' v d := by
  match d, h with
  | none, h => exact h
  | some (a, z, o), ⟨t, e, h⟩ => exact ⟨t, e, (tupsOf_is (s _ _ (tupsOf_at h))).1⟩
inductive Dds (H : Hp) : List V → List Deed → Prop
  | nil : Dds H [] []
  | cons {v : V} {d : Deed} {vs : List V} {ds : List Deed} : Dd H v d → Dds H vs ds → Dds H (v :: vs) (d :: ds)
theorem Dds.same {H H' : Hp} (s : Same (tupsOf H) (tupsOf H')) : ∀ {vs : List V} {ds : List Deed}, Dds H vs ds → Dds H' vs ds
  | _, _, .nil => .nil
  | _, _, .cons h t => .cons (h.same s) (Dds.same s t)
theorem Dds.length {H : Hp} : ∀ {vs : List V} {ds : List Deed}, Dds H vs ds → vs.length = ds.length
  | _, _, .nil => rfl
  | _, _, .cons _ t => by rw [List.length_cons, List.length_cons, Dds.length t]
theorem Dds.snoc {H : Hp} {v : V} {d : Deed} : ∀ {vs : List V} {ds : List Deed}, Dds H vs ds → Dd H v d → Dds H (vs ++ [v]) (ds ++ [d])
  | _, _, .nil, h => .cons h .nil
  | _, _, .cons g t, h => .cons g (Dds.snoc t h)
/-- the last deed, and those ahead of it -/
theorem Dds.last {H : Hp} : ∀ {vs : List V} {ds : List Deed} {d : Deed}, Dds H vs (ds ++ [d]) → ∃ us v, vs = us ++ [v] ∧ Dds H us ds ∧ Dd H v d
  | vs, [], d, h0 => by
    have h : Dds H vs ([d] : List Deed) := h0
    cases h with
    | cons hd t => cases t; exact ⟨[], _, rfl, .nil, hd⟩
  | vs, e :: ds, d, h0 => by
    have h : Dds H vs (e :: (ds ++ [d])) := h0
    cases h with
    | cons hd t =>
      obtain ⟨us, v, rfl, h1, h2⟩ := Dds.last t
      exact ⟨_ :: us, v, rfl, .cons hd h1, h2⟩
structure Led (C : Addr) (H : Hp) (p L D E : Addr) (ls : List Int) (g : Good) (ds : List Deed) : Prop where
  obj : ∃ dx, H p = some (.ins C dx (lf L D E (optV g.life)))
  li : H L = some (.lst (ls.map V.int))
  da : ∃ xs, H D = some (.lst xs) ∧ TkAll (tupsOf H) xs (g.days.map dayD)
  de : ∃ ws, H E = some (.lst ws) ∧ Dds H ws ds
  ok : bakB (bakD ⟨ls, none, [g]⟩) = true
  ld : L ≠ D
  le : L ≠ E
  dE : D ≠ E
theorem Led.same {C p L D E : Addr} {H H' : Hp} {ls : List Int} {g : Good} {ds : List Deed} (h : Led C H p L D E ls g ds) (s : Same H H') : Led C H' p L D E ls g ds := by
  obtain ⟨⟨dx, ho⟩, hl, ⟨xs, hd, ht⟩, ⟨ws, he, hw⟩, ok, a, b, c⟩ := h
  exact ⟨⟨dx, s _ _ ho⟩, s _ _ hl, ⟨xs, s _ _ hd, ht.same (tupsOf_mono s)⟩, ⟨ws, s _ _ he, hw.same (tupsOf_mono s)⟩, ok, a, b, c⟩
section
variable {C p L D E : Addr} {H : Hp} {ls : List Int} {g : Good} {ds : List Deed}
theorem Led.not_new (h : Led C H p L D E ls g ds) {q : Addr} (hq : H q = none) : q ∉ [L, D, E] := fun hm => by
  obtain ⟨_, hl, ⟨xs, hd, _⟩, ⟨ws, he, _⟩, _⟩ := h
  simp only [List.mem_cons, List.not_mem_nil, or_false] at hm
  rcases hm with rfl | rfl | rfl
  · rw [hl] at hq; cases hq
  · rw [hd] at hq; cases hq
  · rw [he] at hq; cases hq
theorem Led.not_tup (h : Led C H p L D E ls g ds) {q : Addr} {xs : List V} (hq : H q = some (.tup xs)) : q ∉ [L, D, E] := fun hm => by
  obtain ⟨_, hl, ⟨xs, hd, _⟩, ⟨ws, he, _⟩, _⟩ := h
  simp only [List.mem_cons, List.not_mem_nil, or_false] at hm
  rcases hm with rfl | rfl | rfl
  · rw [hl] at hq; cases hq
  · rw [hd] at hq; cases hq
  · rw [he] at hq; cases hq
theorem Led.light (h : Led C H p L D E ls g ds) {i : Nat} {z : Int} (hz : numD (.int z) = true) : Led C (upd H L (.lst ((ls.set i z).map V.int))) p L D E (ls.set i z) g ds := by
  obtain ⟨⟨dx, ho⟩, hl, ⟨xs, hd, ht⟩, ⟨ws, he, hw⟩, ok, a, b, c⟩ := h
  have st := tupsOf_upd (o := .lst ((ls.set i z).map V.int)) hl
  refine ⟨⟨dx, by rw [upd_ne (fun q => by rw [q, hl] at ho; cases ho)]; exact ho⟩, upd_same, ⟨xs, by rw [upd_ne a.symm]; exact hd, ht.same st⟩, ⟨ws, by rw [upd_ne b.symm]; exact he, hw.same st⟩, ?_, a, b, c⟩
  obtain ⟨⟨c1, c2⟩, c3, c4, ⟨c5, c6⟩, c7⟩ := bak_parts ok
  refine bakB_mk (by rw [List.length_set]; exact c1) (by rw [List.length_set]; exact c2) (fun y hy => ?_) c4 c5 c6 (fun g' hg' => ?_)
  · rcases List.mem_or_eq_of_mem_set hy with hy | rfl
    · exact c3 y hy
    · exact hz
  · rw [List.length_set]
    exact c7 g' hg'
def setG (g : Good) (i : Nat) (d : Day) : Good := ⟨g.days.set i d, g.life⟩
theorem Led.day (h : Led C H p L D E ls g ds) {i : Nat} {t : Addr} {d : Day} {xs : List V} (hx : H D = some (.lst xs)) (ht : H t = some (.tup [.int d.want, .int d.loaf, .int d.keep, optV d.fine])) (hz : dayB (dayD d) = true) : Led C (upd H D (.lst (xs.set i (.ref t)))) p L D E ls (setG g i d) ds := by
  obtain ⟨⟨dx, ho⟩, hl, ⟨xs', hd, htk⟩, ⟨ws, he, hw⟩, ok, a, b, c⟩ := h
  rw [hd] at hx
  cases hx
  have st := tupsOf_upd (o := .lst (xs.set i (.ref t))) hd
  have hday : Tk (tupsOf H) (.ref t) (dayD d) := .tup (tupsOf_at ht) (.cons (.int _) (.cons (.int _) (.cons (.int _) (.cons (Tk.optV _) .nil))))
  refine ⟨⟨dx, by rw [upd_ne (fun q => by rw [q, hd] at ho; cases ho)]; exact ho⟩, by rw [upd_ne a]; exact hl, ⟨_, upd_same, ?_⟩, ⟨ws, by rw [upd_ne c.symm]; exact he, hw.same st⟩, ?_, a, b, c⟩
  · have := (TkAll.setAt (i := i) htk hday).same st
    show TkAll _ _ ((g.days.set i d).map dayD)
    rw [List.map_set]
    exact this
  · obtain ⟨⟨c1, c2⟩, c3, c4, ⟨c5, c6⟩, c7⟩ := bak_parts ok
    refine bakB_mk c1 c2 c3 c4 (Nat.le_refl _) (by show 1 ≤ 2; decide) (fun g' hg' => ?_)
    rw [List.mem_singleton.mp hg']
    obtain ⟨k1, k2, k3⟩ := c7 g List.mem_cons_self
    refine ⟨by show (g.days.set i d).length = _; rw [List.length_set]; exact k1, k2, fun y hy => ?_⟩
    have hy : y ∈ g.days.set i d := hy
    rcases List.mem_or_eq_of_mem_set hy with hy | rfl
    · exact k3 y hy
    · exact hz
theorem Led.push (h : Led C H p L D E ls g ds) {w : V} {d : Deed} {ws : List V} (hx : H E = some (.lst ws)) (hw : Dd H w d) : Led C (upd H E (.lst (ws ++ [w]))) p L D E ls g (ds ++ [d]) := by
  obtain ⟨⟨dx, ho⟩, hl, ⟨xs, hd, ht⟩, ⟨ws', he, hws⟩, ok, a, b, c⟩ := h
  rw [he] at hx
  cases hx
  have st := tupsOf_upd (o := .lst (ws ++ [w])) he
  exact ⟨⟨dx, by rw [upd_ne (fun q => by rw [q, he] at ho; cases ho)]; exact ho⟩, by rw [upd_ne b]; exact hl, ⟨xs, by rw [upd_ne c]; exact hd, ht.same st⟩, ⟨_, upd_same, (hws.snoc hw).same st⟩, ok, a, b, c⟩
theorem Led.pop (h : Led C H p L D E ls g (ds ++ [d])) : ∃ us v, H E = some (.lst (us ++ [v])) ∧ Dd H v d ∧ Led C (upd H E (.lst us)) p L D E ls g ds := by
  obtain ⟨⟨dx, ho⟩, hl, ⟨xs, hd, ht⟩, ⟨ws', he, hws⟩, ok, a, b, c⟩ := h
  obtain ⟨us, v, rfl, h1, h2⟩ := hws.last
  have st := tupsOf_upd (o := .lst us) he
  exact ⟨us, v, he, h2, ⟨dx, by rw [upd_ne (fun q => by rw [q, he] at ho; cases ho)]; exact ho⟩, by rw [upd_ne b]; exact hl, ⟨xs, by rw [upd_ne c]; exact hd, ht.same st⟩, ⟨_, upd_same, h1.same st⟩, ok, a, b, c⟩
end
/-! ### reading its fields, calling its methods -/
structure LTxt (K : PySem.W.Frag) (C : Addr) : Prop where
  cl : Cls K C
  nL : NoAttr K C "lights"
  nD : NoAttr K C "days"
  nF : NoAttr K C "life"
  nE : NoAttr K C "deeds"
def rFld (K : PySem.W.Frag) (f : Str) (x : V) (H : Hp) (Q : VK) : Prop := ∃ a C dx fs v, x = .ref a ∧ H a = some (.ins C dx fs) ∧ Cls K C ∧ NoAttr K C f ∧ fs.lookup f = some v ∧ Q v H
theorem tFld_eq {K : PySem.W.Frag} {ta : TE} {f : Str} {σ : L2.St} {H : Hp} {Q : VK} : tFld K ta f σ H Q = ta σ H fun x H1 => rFld K f x H1 Q := rfl
def IsObj (C : Addr) (m : Str) (x : V) (H : Hp) : Prop := ∃ a dx fs, x = .ref a ∧ H a = some (.ins C dx fs) ∧ fs.lookup m = none
theorem tMeth_eq {C : Addr} {m : Str} {sp : Sp} {dvs : List V} {E : XK} {ta : TE} {t : TA} {σ : L2.St} {H : Hp} {Q : VK} : tMeth C m sp dvs E ta t σ H Q = ta σ H fun x H1 => IsObj C m x H1 ∧ t σ H1 fun vs H2 => sp (x :: (vs ++ dvs)) H2 Q E := by
  unfold tMeth IsObj
  congr 1
  funext x H1
  exact propext ⟨fun ⟨a, dx, fs, h1, h2, h3, h4⟩ => ⟨⟨a, dx, fs, h1, h2, h3⟩, h4⟩, fun ⟨⟨a, dx, fs, h1, h2, h3⟩, h4⟩ => ⟨a, dx, fs, h1, h2, h3, h4⟩⟩
section
variable {K : PySem.W.Frag} {C p L D E : Addr} {H : Hp} {ls : List Int} {g : Good} {ds : List Deed} {Q : VK}
theorem Led.fLights (h : Led C H p L D E ls g ds) (T : LTxt K C) (q : Q (.ref L) H) : rFld K "lights" (.ref p) H Q := let ⟨dx, ho⟩ := h.obj; ⟨_, _, dx, _, _, rfl, ho, T.cl, T.nL, lf_lights, q⟩
theorem Led.fDays (h : Led C H p L D E ls g ds) (T : LTxt K C) (q : Q (.ref D) H) : rFld K "days" (.ref p) H Q := let ⟨dx, ho⟩ := h.obj; ⟨_, _, dx, _, _, rfl, ho, T.cl, T.nD, lf_days, q⟩
theorem Led.fLife (h : Led C H p L D E ls g ds) (T : LTxt K C) (q : Q (optV g.life) H) : rFld K "life" (.ref p) H Q := let ⟨dx, ho⟩ := h.obj; ⟨_, _, dx, _, _, rfl, ho, T.cl, T.nF, lf_life, q⟩
theorem Led.fDeeds (h : Led C H p L D E ls g ds) (T : LTxt K C) (q : Q (.ref E) H) : rFld K "deeds" (.ref p) H Q := let ⟨dx, ho⟩ := h.obj; ⟨_, _, dx, _, _, rfl, ho, T.cl, T.nE, lf_deeds, q⟩
theorem Led.isObj (h : Led C H p L D E ls g ds) {m : Str} (h1 : (m == "lights") = false := by decide +kernel) (h2 : (m == "days") = false := by decide +kernel) (h3 : (m == "life") = false := by decide +kernel) (h4 : (m == "deeds") = false := by decide +kernel) : IsObj C m (.ref p) H :=
  let ⟨dx, ho⟩ := h.obj; ⟨p, dx, _, rfl, ho, lf_no h1 h2 h3 h4⟩
end
/-- how a class is called -/
structure Maker (P : Program) (w : World) (K : PySem.W.Frag) (mg : Str → Option Value) (base : Heap) (x : Str) (k : Nat) (C : Addr) (sp : Sp) : Prop where
  ex : ∃ (f : Addr) (fd : FuncData) (ps : List Str), Mk K C f ∧ mg x = some (.ref C) ∧ FnOk P w K mg base CX0 k f fd ps sp ∧ Binds K fd ps []
theorem pe_mkD {X : Cx} {x : Str} {k j : Nat} {C : Addr} {sp : Sp} {e : Expr} {es : List Expr} {t : TA} {p pos : Pos} (D : Maker X.prog X.w X.K X.mg X.base x k C sp) (hr : Room j X.A) (hg : Gl X x) (ha : PA X (e :: es) t)
    (hkj : k + 1 ≤ j := by omega) (hdb : (x == ("__debug__" : Str)) = false := by decide) (he : starEach (e :: es) X.env = (false, eval e X.env) :: starEach es X.env := by rfl) (hpl : (backTo pos (starEach es X.env)).any (·.1) = false := by rfl) :
    PE X (.Call (.Name x p) (e :: es) [] pos) (tMake C sp [] E0 t) := by
  obtain ⟨f, fd, ps, hm, hx, F, hb⟩ := D.ex
  exact pe_make hm F (hr.mono hkj) hg hx hb .nil pass0 ha hdb he hpl
/-- tuple.index of a text -/
def rTIx (K : PySem.W.Frag) (x : V) (xs : List V) (H : Hp) (Q : VK) : Prop := ∃ p, ∃ ys : List Str, ∃ z j, x = .ref p ∧ xs = [.str z] ∧ SqT K H p (ys.map V.str) ∧ ys[j]? = some z ∧ (∀ m, m < j → ys[m]? ≠ some z) ∧ Q (.int (j : Nat)) H
theorem mt_tix {X : Cx} : MtR X "tuple.index" (rTIx X.K) := mt_tup_index
theorem rTIx_r {K : PySem.W.Frag} {p : Addr} {z : Str} {H : Hp} {Q : VK} : rTIx K (.ref p) [.str z] H Q = ∃ (ys : List Str) (j : Nat), SqT K H p (ys.map V.str) ∧ ys[j]? = some z ∧ (∀ m, m < j → ys[m]? ≠ some z) ∧ Q (.int (j : Nat)) H :=
  propext ⟨fun ⟨_, ys, z', j, e1, e2, h⟩ => by cases e1; cases e2; exact ⟨ys, j, h⟩, fun ⟨ys, j, h⟩ => ⟨p, ys, z, j, rfl, rfl, h⟩⟩
/-- the truth of any value -/
def tTru (K : PySem.W.Frag) (ta : TE) : TT := fun σ H Q => ta σ H fun x H' => ∃ k, TruV K x H' k ∧ Q k H'
theorem pt_tru {X : Cx} {a : Expr} {ta : TE} (ha : PE X a ta) (he : ∀ whole, isTrue a X.env whole = (do let v ← whole; standAt a.pos; holding [v] (truthy v)) := by intro _; rfl) : PT X a (tTru X.K ta) := pt_truth ha he
/-- a def with defaults, by its body -/
theorem okD {P : Program} {w : World} {K : PySem.W.Frag} {mg : Str → Option Value} {base : Heap} {x qual : Str} {params : Arguments} {body : List Stmt} {scope : Scope} {dvs : List V} {kws : List (Str × V)} {f : Addr} {fd : FuncData} {N ps : List Str} {k : Nat} {sp : Sp}
    (F : FunD K x qual params body scope dvs kws f fd) (S : FnScope N ps scope) (len : ∀ vs H Q E, sp vs H Q E → vs.length = ps.length)
    (hbody : ∀ (cdv : Value) (A : Around) (outer : List Env) (s : Shared) (H : Hp) (vs : List V) (Q : VK) (E : XK), Room k (A.deeper (envOfC qual scope s.heap.objs.size f cdv)) → sp vs H Q E →
      ∃ t, PSs (cxOf L2.CX0 P w K mg base N qual scope f cdv A outer s H E).nox body t ∧ t { nx := fun _ H' => Q .non H', rt := Q } (L2.start N vs) H) : FnOk P w K mg base L2.CX0 (k + 1) f fd ps sp :=
  F.ok S len fun cdv A outer s H vs Q E hr h => let ⟨t, a, b⟩ := hbody cdv A outer s H vs Q E hr h; ⟨t, a.nox, b⟩
/-- every argument is given, one default stands by -/
theorem binds_one {K : PySem.W.Frag} {x qual : Str} {params : Arguments} {body : List Stmt} {scope : Scope} {v : V} {f : Addr} {fd : FuncData} {ps : List Str} (F : FunD K x qual params body scope [v] [] f fd)
    (h : ∀ (T : Addr) (kV doc pm : Value) (an : Option Addr) (cdv ct : Value) (us its : List Value), us.length = ps.length → its.length = 1 →
      ∃ k, bindArgs (PySem.W.fnOf x qual params body scope (.ref T) kV doc pm an cdv ct) ⟨us, []⟩ = seqItems? (.ref T) >>= k ∧ k (some its.toArray) = pure (ps.zip (us ++ its.drop 1))) : Binds K fd ps [] := by
  obtain ⟨ds, h1, h2⟩ := F.binds1 ps.length 1 (List.cons_ne_nil _ _) rfl h
  cases h1
  exact h2
end Bk

namespace Bk
open PySem PySem.Spec PyProof.Rows L2 RZ
/-! ### len and zip of lists or tuples -/
def rLnS (K : PySem.W.Frag) : List V → Hp → VK → Prop := fun xs H Q => ∃ p ys, xs = [.ref p] ∧ (SqL K H p ys ∨ SqT K H p ys) ∧ Q (.int ys.length) H
def rZipA (K : PySem.W.Frag) (vs : List V) (H1 : Hp) (R : It → Hp → Prop) : Prop := ∃ a b xs ys, vs = [.ref a, .ref b] ∧ ((SqL K H1 a xs ∧ SqL K H1 b ys ∧ R (Itz K a b) H1) ∨ (SqT K H1 a xs ∧ SqT K H1 b ys ∧ R (ItzT K a b) H1))
theorem iZipA_eq {K : PySem.W.Frag} {ta : TA} {σ : L2.St} {H : Hp} {R : It → Hp → Prop} : iZipA K ta σ H R = ta σ H fun vs H1 => rZipA K vs H1 R := rfl
theorem rZipA_r {K : PySem.W.Frag} {a b : Addr} {H : Hp} {R : It → Hp → Prop} : rZipA K [.ref a, .ref b] H R = ∃ xs ys, (SqL K H a xs ∧ SqL K H b ys ∧ R (Itz K a b) H) ∨ (SqT K H a xs ∧ SqT K H b ys ∧ R (ItzT K a b) H) := propext ⟨fun ⟨_, _, xs, ys, e, h⟩ => by cases e; exact ⟨xs, ys, h⟩, fun ⟨xs, ys, h⟩ => ⟨a, b, xs, ys, rfl, h⟩⟩
theorem walk_zipT {K : PySem.W.Frag} {a b : Addr} {xs ys : List V} {n : Nat} (hn : n = min xs.length ys.length) : Walk (ItzT K a b) n (fun H => SqT K H a xs ∧ SqT K H b ys) (YPair (fun i => xs[i]?) (fun i => ys[i]?)) := by
  subst hn
  refine ⟨fun i _ hi q => ?_, fun _ q => ⟨xs, ys, q.1, q.2, by omega⟩, fun i H v H' _ q y => ?_⟩
  · have g1 : i < xs.length := by omega
    have g2 : i < ys.length := by omega
    exact ⟨xs, ys, xs[i], ys[i], q.1, q.2, by simp [g1], by simp [g2]⟩
  · obtain ⟨T, x, z, g1, g2, g3, g4, g5⟩ := y
    exact ⟨T, x, z, g1, g2, g3, g4 xs q.1, g5 ys q.2⟩
/-! ### data that is alike: so deep, no dicts -/
def sameOk : Nat → PyData → Bool
  | _, .none => true
  | _, .bool _ => true
  | _, .int _ => true
  | _, .str _ => true
  | 0, .list _ => false
  | 0, .tuple _ => false
  | k + 1, .list ds => decide (ds.length ≤ 1000) && ds.all (sameOk k)
  | k + 1, .tuple ds => decide (ds.length ≤ 1000) && ds.all (sameOk k)
  | _, .dict _ => false
end Bk

namespace Bk
open PySem PySem.Spec PyProof.Rows L2
theorem cxW {CX : CXT} {P : Program} {w : World} {K : PySem.W.Frag} {mg : Str → Option Value} {base : Heap} {N : List Str} {qual : Str} {scope : Scope} {f : Addr} {cd : Value} {A : Around} {outer : List Env} {s : Shared} {H : Hp} {E : XK} :
    (cxOf CX P w K mg base N qual scope f cd A outer s H E).w = w := rfl
/-! ### days alike, nights for nothing -/
def flatG (ws : List Int) : Good := ⟨ws.map fun w => ⟨w, 5, 0, some 0⟩, none⟩
end Bk

namespace Bk
open PySem PySem.Spec PyProof.Rows L2
/-! ### a bakery's text -/
theorem pe_globS {X : Cx} {x y : Str} {t : Tok} {pos : Pos} (hg : Gl X x) (hm : X.mg x = some (.str y t)) (hd : (x == ("__debug__" : Str)) = false := by decide) : PE X (.Name x pos) (tC (.str y)) := pe_glob hg hm ⟨_, rfl⟩ hd
/-- a list, or a tuple: walked either way -/
def iLT (K : PySem.W.Frag) (te : TE) : TI := fun σ H R => iList K te σ H R ∨ iTup K te σ H R
theorem pi_LT {X : Cx} {tg l : Expr} {tl : TE} (hl : PE X l tl) : PI X tg l (iLT X.K tl) := ⟨fun pins s σ H R I h => h.elim (fun h => (pi_list hl).run pins s σ H R I h) (fun h => (pi_tup hl).run pins s σ H R I h)⟩
def rJoin (K : PySem.W.Frag) : V → List V → Hp → VK → Prop := fun x xs H Q => ∃ a p, ∃ ys : List Str, x = .str a ∧ xs = [.ref p] ∧ (SqL K H p (ys.map V.str) ∨ SqT K H p (ys.map V.str)) ∧ (ys.map (·.length)).sum + ys.length * a.length ≤ 16777216 ∧ Q (.str (Txt.join a ys)) H
def wordO : Option Int → Str
  | none => "-"
  | some i => toString i
def dayO (d : Day) : List (Option Int) := [some d.want, some d.loaf, some d.keep, d.fine]
def rowO (l : List (Option Int)) : Str := Txt.join " " (l.map wordO)
def goodRows (g : Good) : List Str := ("good " ++ wordO g.life) :: g.days.map fun d => rowO (dayO d)
def bakRows (b : Bak) : List Str := ("oven " ++ wordO b.bound) :: ("lights " ++ rowO (b.lights.map some)) :: (b.goods.map goodRows).flatten
def bakText (b : Bak) : Str := Txt.join "\n" (bakRows b)
def SmO (o : Option Int) : Prop := ∀ i, o = some i → i.natAbs < 10 ^ 12
theorem word_len {o : Option Int} (h : SmO o) : (wordO o).length ≤ 13 := by
  cases o with
  | none => decide
  | some i =>
    show (Str.ofString (toString i)).length ≤ 13
    rw [PySem.ofString_length]
    exact int_text_length_le10 (k := 12) (by decide) (h i rfl)
theorem join_len (a : Str) (ys : List Str) : (Txt.join a ys).length ≤ (ys.map (·.length)).sum + ys.length * a.length := by
  rw [show Txt.join a ys = Str.join a ys from TL.join_eq a ys]
  exact StrLaws.join_length_le a ys
theorem sum_le_len {l : List Nat} {c : Nat} (h : ∀ x ∈ l, x ≤ c) : l.sum ≤ l.length * c := by
  induction l with
  | nil => simp
  | cons a r ih =>
    rw [List.sum_cons, List.length_cons, Nat.add_mul, Nat.one_mul]
    have := h a List.mem_cons_self
    have := ih fun x hx => h x (List.mem_cons_of_mem _ hx)
    omega
theorem words_sum {l : List (Option Int)} (h : ∀ o ∈ l, SmO o) : ((l.map wordO).map (·.length)).sum ≤ l.length * 13 := by
  have := sum_le_len (l := (l.map wordO).map (·.length)) (c := 13) fun x hx => by
    obtain ⟨y, hy, rfl⟩ := List.mem_map.mp hx
    obtain ⟨o, ho, rfl⟩ := List.mem_map.mp hy
    exact word_len (h o ho)
  rw [List.length_map, List.length_map] at this
  exact this
theorem row_len {l : List (Option Int)} (h : ∀ o ∈ l, SmO o) : (rowO l).length ≤ l.length * 14 := by
  have h1 := join_len " " (l.map wordO)
  have h2 := words_sum h
  rw [List.length_map, show (" " : Str).length = 1 by decide] at h1
  unfold rowO
  omega
theorem smO_life {o : Option Int} (h : lifeB (optD o) = true) : SmO o := fun i e => by
  subst e
  simp only [optD, lifeB, Bool.and_eq_true, decide_eq_true_eq] at h
  exact Nat.lt_of_le_of_lt (show i.natAbs ≤ 40 by omega) (by decide)
theorem smO_num {i : Int} (h : 0 ≤ i ∧ i ≤ 1000000000) : SmO (some i) := fun j e => by
  cases e
  exact Nat.lt_of_le_of_lt (show i.natAbs ≤ 1000000000 by omega) (by decide)
theorem smO_day {d : Day} (h : dayB (dayD d) = true) : ∀ o ∈ dayO d, SmO o := by
  obtain ⟨h1, h2, h3, h4⟩ := nums_of_day h
  intro o ho
  simp only [dayO, List.mem_cons, List.not_mem_nil, or_false] at ho
  rcases ho with rfl | rfl | rfl | rfl
  · exact smO_num h1
  · exact smO_num h2
  · exact smO_num h3
  · intro i e
    exact smO_num (h4 i e) i rfl
theorem smO_bound {o : Option Int} (c4 : boundB (optD o) = true) : SmO o := fun i e => by
  rw [e] at c4
  simp only [optD, boundB, numD, Bool.and_eq_true, decide_eq_true_eq] at c4
  exact Nat.lt_of_le_of_lt (show i.natAbs ≤ 1000000000 by omega) (by decide)
theorem smO_lights {ls : List Int} (c3 : ∀ z ∈ ls, numD (.int z) = true) : ∀ o ∈ ls.map some, SmO o := fun o ho => by
  obtain ⟨z, hz, rfl⟩ := List.mem_map.mp ho
  have := c3 z hz
  simp only [numD, Bool.and_eq_true, decide_eq_true_eq] at this
  exact smO_num this
theorem goodRows_len (g : Good) : (goodRows g).length = g.days.length + 1 := by
  unfold goodRows
  rw [List.length_cons, List.length_map]
theorem flat_len {gs : List Good} (h1 : ∀ g ∈ gs, g.days.length ≤ 40) : ((gs.map goodRows).flatten).length ≤ gs.length * 41 := by
  induction gs with
  | nil => simp
  | cons g r ih =>
    rw [List.map_cons, List.flatten_cons, List.length_append, goodRows_len, List.length_cons]
    have := h1 g List.mem_cons_self
    have := ih fun x hx => h1 x (List.mem_cons_of_mem _ hx)
    omega
theorem bakRows_small {b : Bak} (hb : bakB (bakD b) = true) : (bakRows b).length ≤ 84 ∧ ∀ r ∈ bakRows b, r.length ≤ 1000 := by
  obtain ⟨⟨c1, c2⟩, c3, c4, ⟨c5, c6⟩, c7⟩ := bak_parts hb
  refine ⟨?_, fun r hr => ?_⟩
  · have := flat_len (gs := b.goods) fun g hg => by rw [(c7 g hg).1]; exact c2
    unfold bakRows
    rw [List.length_cons, List.length_cons]
    omega
  · unfold bakRows at hr
    rcases List.mem_cons.mp hr with rfl | hr
    · have := word_len (smO_bound c4)
      rw [Str.length_append, show ("oven " : Str).length = 5 by decide]
      omega
    rcases List.mem_cons.mp hr with rfl | hr
    · have := row_len (smO_lights c3)
      rw [List.length_map] at this
      rw [Str.length_append, show ("lights " : Str).length = 7 by decide]
      omega
    obtain ⟨rs, hrs, hr⟩ := List.mem_flatten.mp hr
    obtain ⟨g, hg, rfl⟩ := List.mem_map.mp hrs
    obtain ⟨k1, k2, k3⟩ := c7 g hg
    unfold goodRows at hr
    rcases List.mem_cons.mp hr with rfl | hr
    · have := word_len (smO_life k2)
      rw [Str.length_append, show ("good " : Str).length = 5 by decide]
      omega
    · obtain ⟨d, hd, rfl⟩ := List.mem_map.mp hr
      have := row_len (smO_day (k3 d hd))
      have e : (dayO d).length = 4 := rfl
      omega
theorem rows_sum {l : List Str} (h1 : l.length ≤ 84) (h2 : ∀ r ∈ l, r.length ≤ 1000) : (l.map (·.length)).sum + l.length * 1 ≤ 16777216 := by
  have := sum_le_len (l := l.map (·.length)) (c := 1000) fun x hx => by
    obtain ⟨y, hy, rfl⟩ := List.mem_map.mp hx
    exact h2 y hy
  rw [List.length_map] at this
  omega
end Bk

namespace Bk
open PySem PySem.Spec PyProof.Rows L2
/-! ### an error that was caught, and is kept behind the suite -/
def ExK (cls : Value) (d : Option Addr) (a : Addr) : HO := .ext fun h => ∃ (oe : Obj) (vs : Array Value), h.get? a = some oe ∧ Zc cls d oe ∧ oe.data = .fields vs
section
variable {X : Cx} {pins : List (Addr × Obj)} {σ : L2.St} {H : Hp} {s : Shared}
/-- what is wished for at a try whose suite keeps the error -/
def wKeep (K : PySem.W.Frag) (c : Value) (i : Nat) (ts : Addr → Value → Option Addr → TS) (Wout : WX) (D : Ends) : WX := fun cls d σ H =>
  ∃ b, PySem.W.exmOne K cls c = some b ∧ (b = false → Wout cls d σ H) ∧ (b = true → ∀ a, H a = none →
    ts a cls d { nx := fun σ' H' => D.nx (σ'.set i none) (upd H' a (ExK cls d a)), rt := fun _ _ => False, bk := fun _ _ => False, ct := fun _ _ => False } (σ.set i (some (.ref a))) H)
end
/-! ### isinstance of a kept error -/
/-- the dict of an error, where it has one, is tracked -/
def DictIn (H : Hp) : Option Addr → Prop
  | none => True
  | some dx => ∃ fs, H dx = some (.xd fs)
theorem DictIn.same {H H' : Hp} {d : Option Addr} (h : DictIn H d) (s : Same H H') : DictIn H' d := by
  cases d with
  | none => trivial
  | some dx =>
    obtain ⟨fs, e⟩ := h
    exact ⟨fs, s _ _ e⟩
def rIsX (K : PySem.W.Frag) : List V → Hp → VK → Prop := fun xs H Q => ∃ (a C : Addr) (d : Option Addr) (c : V) (cv : Value) (b : Bool), xs = [.ref a, c] ∧ H a = some (ExK (.ref C) d a) ∧ DictIn H d ∧ ExcC K C ∧ RelV c cv ∧ (∀ u, RelV c u → u = cv) ∧ PySem.W.kitOne K (.ref C) cv = some b ∧ Q (.bl b) H
/-! ### errors made of a text -/
structure Err1 (K : PySem.W.Frag) (mg : Str → Option Value) (x : Str) (C : Addr) : Prop where
  g : mg x = some (.ref C)
  q : PySem.W.excIn K C [.type "ValueError", .type "Exception", .type "BaseException", .type "object"] "ValueError.__new__" = true
  k : PySem.W.keepIn K (.ref C) = true
  s : PySem.W.subIn K (.ref C) (.type "BaseException") = some true
  t : PySem.W.typeIn K (.ref C) = some (.type "type")
/-! ### promises joined -/
theorem fnDrop {P : Program} {w : World} {K : PySem.W.Frag} {mg : Str → Option Value} {base : Heap} {k : Nat} {f : Addr} {fd : FuncData} {ps : List Str} {sp sp' : Sp} (F : FnOk P w K mg base (L2.CX P w) k f fd ps sp) (h : ∀ vs H Q E, sp' vs H Q E → sp vs H Q E0) : FnOk P w K mg base CX0 k f fd ps sp' :=
  ⟨fun vs H Q E q => F.len vs H Q E0 (h vs H Q E q), fun A outer s H args us vs Q E hr he hb hv q => codeAny_mono (F.run A outer s H args us vs Q E0 hr he hb hv (h vs H Q E q)) fun r s' hq => by
    cases r with
    | error e =>
      obtain ⟨_, _, _, _, _, _, _, _, _, _, _, _, z⟩ := hq
      exact z
    | ok fl => cases fl <;> exact hq⟩
theorem DefX.drop {P : Program} {w : World} {K : PySem.W.Frag} {mg : Str → Option Value} {base : Heap} {x : Str} {k : Nat} {ps : List Str} {sp sp' : Sp} (D : DefX P w K mg base x k ps sp) (h : ∀ vs H Q E, sp' vs H Q E → sp vs H Q E0) : Def P w K mg base x k ps sp' := by
  obtain ⟨f, fd, h1, h2, h3, h4⟩ := D.ex
  exact ⟨f, fd, h1, h2, h3, fnDrop h4 h⟩
theorem pe_globR {X : Cx} {x : Str} {C : Addr} {pos : Pos} (hg : Gl X x) (hm : X.mg x = some (.ref C)) (hd : (x == ("__debug__" : Str)) = false := by decide) : PE X (.Name x pos) (tC (.ref C)) := pe_glob (v := .ref C) hg hm rfl hd
/-! ### what an error is called -/
/-- isinstance's answers for the errors of a class -/
structure Kinds (K : PySem.W.Frag) (C : Addr) (cs : List Addr) (ks : List Bool) : Prop where
  T : ExcC K C
  each : ∀ (i : Nat) (c : Addr), cs[i]? = some c → ∃ b, ks[i]? = some b ∧ PySem.W.kitOne K (.ref C) (.ref c) = some b
  base : PySem.W.kitOne K (.ref C) (.type "ValueError") = some true
def named : List Str → List Bool → List Str
  | n :: ns, k :: ks => if k = true then n :: named ns ks else named ns ks
  | _, _ => []
end Bk

namespace Bk
open PySem PySem.Spec PyProof.Rows L2
/-! ### a ledger: a day added, a day taken back -/
theorem TkAll.snoc {H : Hp} {v : V} {d : PyData} : ∀ {xs : List V} {es : List PyData}, TkAll H xs es → Tk H v d → TkAll H (xs ++ [v]) (es ++ [d])
  | _, _, .nil, h => .cons h .nil
  | _, _, .cons g t, h => .cons g (TkAll.snoc t h)
theorem TkAll.unsnoc {H : Hp} : ∀ {xs : List V} {es : List PyData}, TkAll H xs es → TkAll H xs.dropLast es.dropLast
  | _, _, .nil => .nil
  | _, _, .cons g .nil => .nil
  | _, _, .cons g (.cons h t) => .cons g (TkAll.unsnoc (.cons h t))
theorem mem_of_drop {α : Type} {l : List α} {x : α} (h : x ∈ l.dropLast) : x ∈ l := by
  rw [List.dropLast_eq_take] at h
  exact List.mem_of_mem_take h
def addG (g : Good) (d : Day) : Good := ⟨g.days ++ [d], g.life⟩
def dropG (g : Good) : Good := ⟨g.days.dropLast, g.life⟩
section
variable {C p L D E : Addr} {H : Hp} {ls : List Int} {g : Good} {ds : List Deed}
theorem Led.add (h : Led C H p L D E ls g ds) {z : Int} {t : Addr} {d : Day} {xs ws : List V} (hx : H D = some (.lst xs)) (hw : H E = some (.lst ws)) (ht : H t = some (.tup [.int d.want, .int d.loaf, .int d.keep, optV d.fine])) (hz : numD (.int z) = true) (hd : dayB (dayD d) = true) (hn : ls.length < 40) :
    Led C (upd (upd (upd H L (.lst ((ls ++ [z]).map V.int))) D (.lst (xs ++ [.ref t]))) E (.lst (ws ++ [.non]))) p L D E (ls ++ [z]) (addG g d) (ds ++ [none]) := by
  obtain ⟨⟨dx, ho⟩, hl, ⟨xs', hd', htk⟩, ⟨ws', he, hws⟩, ok, a, b, c⟩ := h
  rw [hd'] at hx
  cases hx
  rw [he] at hw
  cases hw
  have npL : p ≠ L := fun q => by rw [q, hl] at ho; cases ho
  have npD : p ≠ D := fun q => by rw [q, hd'] at ho; cases ho
  have npE : p ≠ E := fun q => by rw [q, he] at ho; cases ho
  have s1 := tupsOf_upd (o := .lst ((ls ++ [z]).map V.int)) hl
  have e2 : upd H L (.lst ((ls ++ [z]).map V.int)) D = some (.lst xs) := by rw [upd_ne a.symm]; exact hd'
  have s2 := tupsOf_upd (o := .lst (xs ++ [.ref t])) e2
  have e3 : upd (upd H L (.lst ((ls ++ [z]).map V.int))) D (.lst (xs ++ [.ref t])) E = some (.lst ws) := by rw [upd_ne c.symm, upd_ne b.symm]; exact he
  have s3 := tupsOf_upd (o := .lst (ws ++ [.non])) e3
  have st := s1.trans (s2.trans s3)
  have hday : Tk (tupsOf H) (.ref t) (dayD d) := .tup (tupsOf_at ht) (.cons (.int _) (.cons (.int _) (.cons (.int _) (.cons (Tk.optV _) .nil))))
  refine ⟨⟨dx, by rw [upd_ne npE, upd_ne npD, upd_ne npL]; exact ho⟩, by rw [upd_ne b, upd_ne a, upd_same], ⟨_, by rw [upd_ne c, upd_same], ?_⟩, ⟨_, upd_same, (hws.snoc (d := none) rfl).same st⟩, ?_, a, b, c⟩
  · show TkAll _ _ ((g.days ++ [d]).map dayD)
    rw [show (g.days ++ [d]).map dayD = g.days.map dayD ++ [dayD d] from List.map_append]
    exact (htk.snoc hday).same st
  · obtain ⟨⟨c1, c2⟩, c3, c4, ⟨c5, c6⟩, c7⟩ := bak_parts ok
    dsimp only at c1 c2 c3 c4
    obtain ⟨k1, k2, k3⟩ := c7 g List.mem_cons_self
    dsimp only at k1
    refine bakB_mk (by rw [List.length_append]; exact Nat.le_add_left 1 _) (by rw [List.length_append]; exact hn) (fun y hy => ?_) c4 (Nat.le_refl _) (by show 1 ≤ 2; decide) (fun g' hg' => ?_)
    · rcases List.mem_append.mp hy with hy | hy
      · exact c3 y hy
      · rw [List.mem_singleton.mp hy]; exact hz
    · rw [List.mem_singleton.mp hg']
      refine ⟨by show (g.days ++ [d]).length = (ls ++ [z]).length; rw [List.length_append, List.length_append, k1]; rfl, k2, fun y hy => ?_⟩
      rcases List.mem_append.mp (show y ∈ g.days ++ [d] from hy) with hy | hy
      · exact k3 y hy
      · rw [List.mem_singleton.mp hy]; exact hd
theorem Led.unadd (h : Led C H p L D E ls g (ds ++ [none])) (hn : 2 ≤ ls.length) : ∃ us xs, H E = some (.lst (us ++ [.non])) ∧ H D = some (.lst xs) ∧ xs ≠ [] ∧
    Led C (upd (upd (upd H E (.lst us)) L (.lst (ls.dropLast.map V.int))) D (.lst xs.dropLast)) p L D E ls.dropLast (dropG g) ds := by
  obtain ⟨⟨dx, ho⟩, hl, ⟨xs, hd', htk⟩, ⟨ws', he, hws⟩, ok, a, b, c⟩ := h
  obtain ⟨us, v, rfl, h1, h2⟩ := hws.last
  have h2 : v = .non := h2
  subst h2
  have npL : p ≠ L := fun q => by rw [q, hl] at ho; cases ho
  have npD : p ≠ D := fun q => by rw [q, hd'] at ho; cases ho
  have npE : p ≠ E := fun q => by rw [q, he] at ho; cases ho
  have s1 := tupsOf_upd (o := .lst us) he
  have e2 : upd H E (.lst us) L = some (.lst (ls.map V.int)) := by rw [upd_ne b]; exact hl
  have s2 := tupsOf_upd (o := .lst (ls.dropLast.map V.int)) e2
  have e3 : upd (upd H E (.lst us)) L (.lst (ls.dropLast.map V.int)) D = some (.lst xs) := by rw [upd_ne a.symm, upd_ne c]; exact hd'
  have s3 := tupsOf_upd (o := .lst xs.dropLast) e3
  have st := s1.trans (s2.trans s3)
  obtain ⟨⟨c1, c2⟩, c3, c4, ⟨c5, c6⟩, c7⟩ := bak_parts ok
  dsimp only at c1 c2 c3 c4
  obtain ⟨k1, k2, k3⟩ := c7 g List.mem_cons_self
  dsimp only at k1
  have hxl := htk.length
  rw [List.length_map] at hxl
  refine ⟨us, xs, he, hd', fun e => by rw [e] at hxl; simp at hxl; omega, ⟨dx, by rw [upd_ne npD, upd_ne npL, upd_ne npE]; exact ho⟩, by rw [upd_ne a, upd_same], ⟨_, upd_same, ?_⟩, ⟨_, by rw [upd_ne c.symm, upd_ne b.symm, upd_same], h1.same st⟩, ?_, a, b, c⟩
  · show TkAll _ _ (g.days.dropLast.map dayD)
    have e : g.days.dropLast.map dayD = (g.days.map dayD).dropLast := by rw [List.dropLast_eq_take, List.dropLast_eq_take, List.map_take, List.length_map]
    rw [e]
    exact htk.unsnoc.same st
  · refine bakB_mk (by show 1 ≤ ls.dropLast.length; rw [List.length_dropLast]; omega) (by show ls.dropLast.length ≤ 40; rw [List.length_dropLast]; omega) (fun y hy => c3 y (mem_of_drop hy)) c4 (Nat.le_refl _) (by show 1 ≤ 2; decide) (fun g' hg' => ?_)
    rw [List.mem_singleton.mp hg']
    refine ⟨by show g.days.dropLast.length = ls.dropLast.length; rw [List.length_dropLast, List.length_dropLast, k1], k2, fun y hy => k3 y (mem_of_drop hy)⟩
end
end Bk

namespace Bk
open PySem PySem.Spec PyProof.Rows L2
/-! ### == of plain bakeries, by their parts -/
theorem ndE_all {α : Type} {f : α → PyData} (h : ∀ a, (f a).hasDict = false) : ∀ l : List α, PyData.hasDictAll (l.map f) = false
  | [] => by simp only [List.map_nil, PyData.hasDictAll]
  | a :: l => by simp only [List.map_cons, PyData.hasDictAll, h a, ndE_all h l, Bool.or_self]
theorem ndE_opt (o : Option Int) : (optD o).hasDict = false := by cases o <;> simp only [optD, PyData.hasDict]
theorem ndE_ints (ls : List Int) : (PyData.list (ls.map PyData.int)).hasDict = false := by
  simp only [PyData.hasDict]
  exact ndE_all (fun i => by simp only [PyData.hasDict]) ls
theorem ndE_days (ds : List Day) : (PyData.list (ds.map dayD)).hasDict = false := by
  simp only [PyData.hasDict]
  exact (lay_days ds).2
theorem optD_none : optD none = PyData.none := rfl
theorem ndE_bak (ls : List Int) (g : Good) : (bakD ⟨ls, none, [g]⟩).hasDict = false := by
  have h1 := ndE_ints ls
  have h2 := ndE_days g.days
  have h3 := ndE_opt g.life
  simp only [bakD, goodD, optD_none, List.map_cons, List.map_nil, PyData.hasDict, PyData.hasDictAll] at h1 h2 ⊢
  simp only [h1, h2, h3, Bool.or_self]
theorem depth_opt (o : Option Int) : (optD o).depth = 0 := by cases o <;> simp only [optD, PyData.depth]
theorem lay_opt (o : Option Int) : PyData.canLay0 (optD o) = true := by cases o <;> simp only [optD, PyData.canLay0]
theorem depth_days : ∀ ds : List Day, PyData.depthAll (ds.map dayD) ≤ 1
  | [] => by simp only [List.map_nil, PyData.depthAll]; decide
  | d :: r => by
    have h1 := (lay_day d).2.1
    have h2 := depth_days r
    simp only [List.map_cons, PyData.depthAll]
    omega
theorem shaped_daysL (ds : List Day) : SeqAt.shaped (.list (ds.map dayD)) = true := by
  have := depth_days ds
  simp only [SeqAt.shaped, PyData.canLay0, (lay_days ds).1, PyData.depth, Bool.true_and]
  exact decide_eq_true (by omega)
theorem shaped_bakL (ls : List Int) (g : Good) : SeqAt.shaped (bakD ⟨ls, none, [g]⟩) = true := by
  have h1 := depth_days g.days
  have h2 := depth_ints ls
  have h3 := depth_opt g.life
  simp only [SeqAt.shaped, bakD, goodD, List.map_cons, List.map_nil, optD_none, PyData.canLay0, PyData.canLayAll0, lay_ints, (lay_days g.days).1, lay_opt, Bool.and_self, PyData.depth, PyData.depthAll, h2, h3, Bool.true_and]
  exact decide_eq_true (by omega)
/-- whether == tells that two plain bakeries are alike -/
def sameB (ls : List Int) (g : Good) (ls2 : List Int) (g2 : Good) : Bool := PyData.eqv (bakD ⟨ls, none, [g]⟩) (bakD ⟨ls2, none, [g2]⟩)
theorem sameB_refl (ls : List Int) (g : Good) : sameB ls g ls g = true := SeqAt.eqv_refl _ (SeqAt.canLay_of_shaped (shaped_bakL ls g))
theorem eqv_opt (a b : Option Int) : PyData.eqv (optD a) (optD b) = decide (optV a = optV b) := by
  cases a with
  | none =>
    cases b with
    | none => simp only [optD, optV, PyData.eqv]; decide
    | some j => simp only [optD, optV, PyData.eqv]; simp
  | some i =>
    cases b with
    | none => simp only [optD, optV, PyData.eqv]; simp
    | some j => simp only [optD, optV, PyData.eqv]; simp; exact Bool.eq_iff_iff.mpr (by simp)
theorem sameB_eq (ls : List Int) (g : Good) (ls2 : List Int) (g2 : Good) : sameB ls g ls2 g2 = (PyData.eqv (.list (ls.map PyData.int)) (.list (ls2.map PyData.int)) && (PyData.eqv (.list (g.days.map dayD)) (.list (g2.days.map dayD)) && decide (optV g.life = optV g2.life))) := by
  unfold sameB
  rw [← eqv_opt]
  simp only [bakD, goodD, List.map_cons, List.map_nil, optD_none, PyData.eqv, PyData.eqvAll, Bool.and_true, Bool.true_and, Bool.and_assoc]
section
variable {K : PySem.W.Frag} {H : Hp} {Q : VK}
theorem eqD_ints {a b : Addr} {ls ls2 : List Int} (h1 : H a = some (.lst (ls.map V.int))) (h2 : H b = some (.lst (ls2.map V.int))) (q : Q (.bl (PyData.eqv (.list (ls.map PyData.int)) (.list (ls2.map PyData.int)))) H) : rEqD K (.ref a) (.ref b) H Q :=
  ⟨_, _, .lst (SqL.of h1) (dp_ints ls), .lst (SqL.of h2) (dp_ints ls2), shaped_ints ls, shaped_ints ls2, q⟩
theorem eqD_days {a b : Addr} {xs ys : List V} {ds ds2 : List Day} (h1 : H a = some (.lst xs)) (t1 : ThAll K H xs (ds.map dayD)) (h2 : H b = some (.lst ys)) (t2 : ThAll K H ys (ds2.map dayD)) (q : Q (.bl (PyData.eqv (.list (ds.map dayD)) (.list (ds2.map dayD)))) H) : rEqD K (.ref a) (.ref b) H Q :=
  ⟨_, _, (Th.lst (SqL.of h1) t1).dp (ndE_days ds), (Th.lst (SqL.of h2) t2).dp (ndE_days ds2), shaped_daysL ds, shaped_daysL ds2, q⟩
theorem eqD_bak {x y : V} {ls ls2 : List Int} {g g2 : Good} (h1 : Th K H x (bakD ⟨ls, none, [g]⟩)) (h2 : Th K H y (bakD ⟨ls2, none, [g2]⟩)) (q : Q (.bl (sameB ls g ls2 g2)) H) : rEqD K x y H Q :=
  ⟨_, _, h1.dp (ndE_bak ls g), h2.dp (ndE_bak ls2 g2), shaped_bakL ls g, shaped_bakL ls2 g2, q⟩
end
end Bk

namespace Bk
open PySem PySem.Spec PyProof.Rows L2
/-! ### ledgers beside each other -/
section
variable {C p L D E : Addr} {H H' : Hp} {ls : List Int} {g : Good} {ds : List Deed} {S : List Addr}
/-- all of these places hold lists -/
def Lsts (H : Hp) (S : List Addr) : Prop := ∀ q ∈ S, ∃ xs, H q = some (.lst xs)
theorem Led.lists (h : Led C H p L D E ls g ds) : Lsts H [L, D, E] := fun q hq => by
  obtain ⟨_, hl, ⟨xs, hd, _⟩, ⟨ws, he, _⟩, _⟩ := h
  simp only [List.mem_cons, List.not_mem_nil, or_false] at hq
  rcases hq with rfl | rfl | rfl
  · exact ⟨_, hl⟩
  · exact ⟨_, hd⟩
  · exact ⟨_, he⟩
theorem tups_but (hS : Lsts H S) : Same (tupsOf H) (tupsOf (but S H)) := fun b o e => by
  obtain ⟨e', ys, rfl⟩ := tupsOf_is e
  refine tupsOf_at (but_at (fun hm => ?_) e')
  obtain ⟨xs, hx⟩ := hS b hm
  rw [hx] at e'
  cases e'
theorem Led.but1 (h : Led C H p L D E ls g ds) (hS : Lsts H S) (hL : L ∉ S) (hD : D ∉ S) (hE : E ∉ S) : Led C (but S H) p L D E ls g ds := by
  obtain ⟨⟨dx, ho⟩, hl, ⟨xs, hd, ht⟩, ⟨ws, he, hw⟩, ok, a, b, c⟩ := h
  have st := tups_but hS
  refine ⟨⟨dx, but_at (fun hm => ?_) ho⟩, but_at hL hl, ⟨xs, but_at hD hd, ht.same st⟩, ⟨ws, but_at hE he, hw.same st⟩, ok, a, b, c⟩
  obtain ⟨xs, hx⟩ := hS p hm
  rw [hx] at ho
  cases ho
/-- three places that are none of these -/
def Ap (L D E : Addr) (S : List Addr) : Prop := L ∉ S ∧ D ∉ S ∧ E ∉ S
theorem Ap.symm {L' D' E' : Addr} (h : Ap L D E [L', D', E']) : Ap L' D' E' [L, D, E] := by
  obtain ⟨h1, h2, h3⟩ := h
  simp only [List.mem_cons, List.not_mem_nil, or_false, not_or] at h1 h2 h3
  obtain ⟨a1, a2, a3⟩ := h1
  obtain ⟨b1, b2, b3⟩ := h2
  obtain ⟨c1, c2, c3⟩ := h3
  refine ⟨?_, ?_, ?_⟩ <;> simp only [List.mem_cons, List.not_mem_nil, or_false, not_or]
  · exact ⟨Ne.symm a1, Ne.symm b1, Ne.symm c1⟩
  · exact ⟨Ne.symm a2, Ne.symm b2, Ne.symm c2⟩
  · exact ⟨Ne.symm a3, Ne.symm b3, Ne.symm c3⟩
/-- a ledger stays while another one's lists are changed -/
theorem Led.keep (h : Led C H p L D E ls g ds) (hS : Lsts H S) (ha : Ap L D E S) (s : Same (but S H) (but S H')) : Led C H' p L D E ls g ds :=
  ((h.but1 hS ha.1 ha.2.1 ha.2.2).same s).same (but_same _ _)
theorem Led.apart {L' D' E' : Addr} (h : Led C H p L D E ls g ds) (h1 : H L' = none) (h2 : H D' = none) (h3 : H E' = none) : Ap L' D' E' [L, D, E] := ⟨h.not_new h1, h.not_new h2, h.not_new h3⟩
end
end Bk

namespace Bk
open PySem PySem.Spec PyProof.Rows L2
/-! ### a method that may refuse, called where its refusal is caught -/
structure MetX (P : Program) (w : World) (K : PySem.W.Frag) (mg : Str → Option Value) (base : Heap) (k : Nat) (C : Addr) (m : Str) (sp : Sp) : Prop where
  ex : ∃ (f : Addr) (fd : FuncData) (ps : List Str), Cls K C ∧ Meth K C m f ∧ FnOk P w K mg base (L2.CX P w) k f fd ps sp ∧ Binds K fd ps []
/-- what its caller has to know: the object, the arguments, the promise at the caller's own slots -/
def tMethW (C : Addr) (m : Str) (sp : Sp) (E : L2.St → XK) (ta : TE) (t : TA) : TE := fun σ H Q => ta σ H fun x H1 => IsObj C m x H1 ∧ t σ H1 fun vs H2 => sp (x :: vs) H2 Q (E σ)
section
variable {X : Cx} {k j : Nat} {C : Addr} {m : Str} {sp : Sp} {W : WX} {pos apos : Pos} {e o : Expr} {es : List Expr} {ta : TE} {t : TA}
end
end Bk

namespace Bk
open PySem PySem.Spec PyProof.Rows L2
/-! ### objects with defs of their own for ==, len, str; != and `in` by these -/
section
variable {X : Cx} {k j : Nat} {C : Addr} {sp : Sp}
/-- a def of the text, called somewhere below the running body -/
theorem run_below {pins : List (Addr × Obj)} {σ : L2.St} {H : Hp} {s : Shared} {Q : VK} {f : Addr} {fd : FuncData} {ps : List Str} {us : List Value} {vs : List V} {A : Around} (F : FnOk X.prog X.w X.K X.mg X.base CX0 k f fd ps sp) (hb : Binds X.K fd ps []) (hr : Room k A) (e0 : Env0 X.prog X.w X.K X.mg X.base A X.stack s H)
    (I : Inv X pins σ H s) (r : Vals vs us) (h : sp vs H Q E0) : wpAny (model X.prog X.w) A (call (.ref f) us) (EP X pins σ Q) X.xe s := by
  have hl : us.length = ps.length := by rw [← r.length]; exact F.len _ _ _ _ h
  have b := hb s us I.kIn (by rw [List.append_nil]; exact hl)
  rw [List.append_nil] at b
  refine wpAny_call (codeAny_mono (F.run A X.stack s H ⟨us, []⟩ us vs Q E0 hr e0 b r h) fun q s' hq => ?_)
  cases q with
  | error e => exact hq.elim
  | ok fl =>
    cases fl with
    | ret u => exact I.after hq
    | next => exact False.elim hq
    | brk => exact False.elim hq
    | cont => exact False.elim hq
/-- x an object of the class at C, y any value whose type is known and no class below C -/
def rOwnEq (K : PySem.W.Frag) (C : Addr) (sp : Sp) : R2 := fun x y H Q => ∃ a dx fs t, x = .ref a ∧ H a = some (.ins C dx fs) ∧ TyX K H y t ∧ PySem.W.notFirst K C t = true ∧ sp [x, y] H Q E0
theorem op_ownEq (c : C8.Met X.prog X.w X.K X.mg X.base k C "__eq__" sp []) (hr : Room j X.A) (hk : k ≤ j) : OpR X (compareOp .Eq) (rOwnEq X.K C sp) := by
  intro pins s σ H x y v u Q I rx ry h
  obtain ⟨a, dx, fs, t, rfl, ha, ty, hn, q⟩ := h
  obtain ⟨f, fd, ps, ds, hc, hm, F, hb, hd⟩ := c.ex
  cases hd
  cases (show v = Value.ref a from rx)
  obtain ⟨mA, O, _⟩ := ins_get I.hok ha
  obtain ⟨od, J, _⟩ := O.look
  obtain ⟨m, hF⟩ := I.fr
  obtain ⟨P, Z, p, _⟩ := kit_of I ry ty
  show wpAny (model X.prog X.w) X.A (richCompare .Eq (.ref a) u) (EP X pins σ Q) X.xe s
  refine PySem.W.cmp_K (op := .Eq) (tb := t) hr.units0 hF I.ok.mod.kin J (Z.ty _ _ I.kIn p) hn hm.at_ hm.fn ?_
  refine wpAny_mono (run_below (us := [.ref a, u]) (vs := [.ref a, y]) F hb (hr.mono hk) I.env0 I (.cons rfl (.cons ry .nil)) q) (fun z s' hz => ?_) fun _ _ e => e
  obtain ⟨z', H', I', rz, qz⟩ := hz
  exact SlX.cmpback rz ⟨z', H', I', rz, qz⟩
end
/-! ### != of such an object: object's own, which asks == -/
section
variable {M : Model} {A : Around} {E : Value → Shared → Prop} {s : Shared} {K : PySem.W.Frag} {x C f : Addr} {ox : Obj} {od : Option Obj} {prog : Program} {w : World}
theorem ifBound_B {name : Str} {id : String} {args : List Value} {Q : Option Value → Shared → Prop} (X : K.In s.heap) (I : PySem.W.InstAt s.heap x ox C od) (hs : PySem.W.findIn K (.ref C) name = some (some (.builtin id)))
    (hb : ∀ self, bindSpecial (.builtin id) self = pure (.builtin id, [self])) (h : wpAny M A (call (.builtin id) (.ref x :: args)) (fun v => Q (some v)) E s) : wpAny M A (callSpecialIfBound? (.ref x) name args) Q E s := by
  simp only [callSpecialIfBound?, bindSpecialIfBound?]
  refine wpAny_holding (wpAny_bind (wpAny_bind (wpAny_bind (I.type.here ((PySem.W.looks_findIn X hs).here ?_)))))
  refine wpAny_bind (wpAny_askSetting (wpAny_ite ?_))
  have fin : wpAny M A (call (.builtin id) ([.ref x] ++ args) >>= fun v => pure (some v)) Q E s := wpAny_bind (wpAny_mono h (fun v s' h' => wpAny_pure h') fun _ _ h' => h')
  split
  · exact wpAny_bind ((PySem.W.Looks.of_pure (hb _)).here (wpAny_pure (by exact fin)))
  · exact wpAny_tryCatch (wpAny_bind ((PySem.W.Looks.of_pure (hb _)).here (wpAny_pure (by exact fin))))
theorem obj_ne {b : Value} {Q : Value → Shared → Prop} (hu : A.in1.units < cLine) (X : K.In s.heap) (I : PySem.W.InstAt s.heap x ox C od) (hm : PySem.W.mroIn K C (.type "object") = some true)
    (hs : PySem.W.findIn K (.ref C) "__eq__" = some (some (.ref f))) (hf : PySem.W.isFn K (.ref f) = true)
    (h : wpAny (model prog w) A.in1 (call (.ref f) [.ref x, b]) (fun v s' => ∃ c, v = .bool c ∧ Q (.bool (!c)) s') E s) : wpAny (model prog w) A (call (.builtin "object.__ne__") [.ref x, b]) Q E s := by
  refine wpAny_call (codeAny_call_builtin PySem.F.slot_object_ne.plain PySem.F.entry_object_ne (PySem.W.check_slot (i := "object.__ne__") (owner := "object") (n := "__ne__") (by decide +kernel) (by decide +kernel) (I.type.andThen (PySem.W.looks_mroIn X hm)) (PySem.F.args_object_ne_2 _ _) ?_))
  unfold Builtin.«object.__ne__»
  refine wpAny_bind (m := slotArgs "__ne__" 1 _) (wpAny_pure ?_)
  refine wpAny_bind (m := cRoomFor _ _) (wpAny_cRoomFor hu ?_)
  refine wpAny_bind (m := callSpecialIfBound? (.ref x) (Str.ofString "__eq__") _) (PySem.W.ifBound_K X I hs hf (wpAny_mono h (fun r s' hq => ?_) fun _ _ y => y))
  obtain ⟨c, rfl, q⟩ := hq
  exact wpAny_bind (m := truthy (.bool c)) (wpAny_truthy_bool (wpAny_pure q))
theorem ne_K {h₀ : Heap} {L : Addr} {m : Str → Option Value} {b tb : Value} {Q : Value → Shared → Prop} (hu : A.units < cLine) (hu1 : A.in1.units < cLine) (F : Fr h₀ L s.heap m) (X₀ : K.In h₀) (I : PySem.W.InstAt s.heap x ox C od) (hb : PySem.W.Looks (model prog w) s.heap (typeOf b) tb) (hn : PySem.W.notFirst K C tb = true)
    (hne : PySem.W.findIn K (.ref C) "__ne__" = some (some (.builtin "object.__ne__"))) (hm : PySem.W.mroIn K C (.type "object") = some true) (hs : PySem.W.findIn K (.ref C) "__eq__" = some (some (.ref f))) (hf : PySem.W.isFn K (.ref f) = true)
    (h : wpAny (model prog w) A.in1 (call (.ref f) [.ref x, b]) (fun v s' => ∃ c, v = .bool c ∧ Q (.bool (!c)) s') E s) : wpAny (model prog w) A (richCompare .NotEq (.ref x) b) Q E s := by
  have X := X₀.keeps F.keep
  have one : wpAny (model prog w) A (tryCompare (.ref x) (cmpInfo .NotEq).2.1 b) (fun r s' => ∃ v, r = some v ∧ Q v s') E s := by
    unfold tryCompare
    refine wpAny_bind (ifBound_B X I hne (fun self => by kernel_rfl) (obj_ne hu1 X I hm hs hf (wpAny_mono h (fun v s' hv => ?_) fun _ _ e => e)))
    obtain ⟨c, rfl, q⟩ := hv
    exact ⟨c, rfl, wpAny_pure ⟨_, rfl, q⟩⟩
  unfold richCompare
  simp only [oneThing_ref]
  refine wpAny_holding (wpAny_bind (wpAny_cRoomFor hu ?_))
  refine wpAny_bind (I.type.here (wpAny_bind (hb.here ?_)))
  split
  · rename_i q
    have e : PySem.W.subIn K tb (.ref C) = some false := by
      rcases Bool.or_eq_true_iff.mp hn with e | e
      · rw [beq_iff_eq.mp e] at q; simp at q
      · exact beq_iff_eq.mp e
    refine wpAny_bind ((PySem.W.looks_subIn X e).here ?_)
    simp only [Bool.false_eq_true, if_false]
    refine wpAny_bind (wpAny_mono one (fun r s' z => ?_) fun _ _ e => e)
    obtain ⟨v, rfl, hq⟩ := z
    exact wpAny_pure hq
  · refine wpAny_bind (wpAny_pure ?_)
    simp only [Bool.false_eq_true, if_false]
    refine wpAny_bind (wpAny_mono one (fun r s' z => ?_) fun _ _ e => e)
    obtain ⟨v, rfl, hq⟩ := z
    exact wpAny_pure hq
end
section
variable {X : Cx} {k j : Nat} {C : Addr} {sp : Sp}
/-- what != asks of the class -/
structure NeOk (K : PySem.W.Frag) (C : Addr) : Prop where
  ne : PySem.W.findIn K (.ref C) "__ne__" = some (some (.builtin "object.__ne__"))
  mro : PySem.W.mroIn K C (.type "object") = some true
def rOwnNe (K : PySem.W.Frag) (C : Addr) (sp : Sp) : R2 := fun x y H Q => ∃ a dx fs t, x = .ref a ∧ H a = some (.ins C dx fs) ∧ TyX K H y t ∧ PySem.W.notFirst K C t = true ∧ sp [x, y] H (fun z H' => ∃ c, z = .bl c ∧ Q (.bl (!c)) H') E0
theorem op_ownNe (c : C8.Met X.prog X.w X.K X.mg X.base k C "__eq__" sp []) (N : NeOk X.K C) (hr : Room j X.A) (hk : k + 1 ≤ j) : OpR X (compareOp .NotEq) (rOwnNe X.K C sp) := by
  intro pins s σ H x y v u Q I rx ry h
  obtain ⟨a, dx, fs, t, rfl, ha, ty, hn, q⟩ := h
  obtain ⟨f, fd, ps, ds, hc, hm, F, hb, hd⟩ := c.ex
  cases hd
  cases (show v = Value.ref a from rx)
  obtain ⟨mA, O, _⟩ := ins_get I.hok ha
  obtain ⟨od, J, _⟩ := O.look
  obtain ⟨m, hF⟩ := I.fr
  obtain ⟨P, Z, p, _⟩ := kit_of I ry ty
  have hr1 : Room (k + 1) X.A := hr.mono hk
  show wpAny (model X.prog X.w) X.A (richCompare .NotEq (.ref a) u) (EP X pins σ Q) X.xe s
  refine ne_K (tb := t) hr.units0 hr1.in1.units0 hF I.ok.mod.kin J (Z.ty _ _ I.kIn p) hn N.ne N.mro hm.at_ hm.fn ?_
  refine wpAny_mono (run_below (us := [.ref a, u]) (vs := [.ref a, y]) F hb hr1.in1 I.env0.in1 I (.cons rfl (.cons ry .nil)) q) (fun z s' hz => ?_) fun _ _ e => e
  obtain ⟨z', H', I', rz, c, rfl, qz⟩ := hz
  cases (show z = Value.bool c from rz)
  exact ⟨c, rfl, .bl (!c), H', I', rfl, qz⟩
/-- len(x) -/
def rOwnLen (C : Addr) (sp : Sp) : List V → Hp → VK → Prop := fun xs H Q => ∃ a dx fs, xs = [.ref a] ∧ H a = some (.ins C dx fs) ∧ sp [.ref a] H (fun z H' => ∃ n : Nat, z = .int (n : Int) ∧ n < 2 ^ 62 ∧ Q (.int (n : Int)) H') E0
theorem call_ownLen (c : C8.Met X.prog X.w X.K X.mg X.base k C "__len__" sp []) (hr : Room j X.A) (hk : k + 1 ≤ j) : CallR X (.builtin "len") (rOwnLen C sp) := by
  intro pins s σ H xs us Q I r h
  obtain ⟨a, dx, fs, rfl, ha, q⟩ := h
  obtain ⟨f, fd, ps, ds, hc, hm, F, hb, hd⟩ := c.ex
  cases hd
  obtain ⟨u, rfl, ru⟩ := r.one
  cases (show u = Value.ref a from ru)
  obtain ⟨mA, O, _⟩ := ins_get I.hok ha
  obtain ⟨od, J, _⟩ := O.look
  obtain ⟨m, hF⟩ := I.fr
  have hr1 : Room (k + 1) X.A := hr.mono hk
  refine PySem.W.len_K hF I.ok.mod.kin J hm.at_ hm.fn ?_
  refine wpAny_mono (run_below (us := [.ref a]) (vs := [.ref a]) F hb hr1.in1 I.env0.in1 I (.cons rfl .nil) q) (fun z s' hz => ?_) fun _ _ e => e
  obtain ⟨z', H', I', rz, n, rfl, hn, qz⟩ := hz
  obtain ⟨t, e⟩ := (show ∃ t, z = Value.int n t from rz)
  cases e
  exact ⟨⟨by omega, by have : ((n : Nat) : Int) < 2 ^ 62 := by exact_mod_cast hn
                       omega⟩, .int n, H', I'.tok _, ⟨_, rfl⟩, qz⟩
/-- str(x) -/
def rOwnStr (C : Addr) (sp : Sp) : List V → Hp → VK → Prop := fun xs H Q => ∃ a dx fs, xs = [.ref a] ∧ H a = some (.ins C dx fs) ∧ sp [.ref a] H (fun z H' => ∃ y, z = .str y ∧ Q (.str y) H') E0
theorem call_ownStr (c : C8.Met X.prog X.w X.K X.mg X.base k C "__str__" sp []) (hr : Room j X.A) (hk : k + 2 ≤ j) : CallR X (.type "str") (rOwnStr C sp) := by
  intro pins s σ H xs us Q I r h
  obtain ⟨a, dx, fs, rfl, ha, q⟩ := h
  obtain ⟨f, fd, ps, ds, hc, hm, F, hb, hd⟩ := c.ex
  cases hd
  obtain ⟨u, rfl, ru⟩ := r.one
  cases (show u = Value.ref a from ru)
  obtain ⟨mA, O, _⟩ := ins_get I.hok ha
  obtain ⟨od, J, _⟩ := O.look
  have hr2 : Room (k + 2) X.A := hr.mono hk
  have hr0 : Room k X.A.in1.in1 := (show Room (k + 1) X.A.in1 from Room.in1 hr2).in1
  refine PySem.W.kso_call hr0.units0 I.kIn J hm.at_ hm.fn ?_
  refine wpAny_mono (run_below (us := [.ref a]) (vs := [.ref a]) F hb hr0 I.env0.in1.in1 I (.cons rfl .nil) q) (fun z s' hz => ?_) fun _ _ e => e
  obtain ⟨z', H', I', rz, y, rfl, qz⟩ := hz
  obtain ⟨t, e⟩ := (show ∃ t, z = Value.str y t from rz)
  cases e
  exact ⟨.str y, H', I', ⟨_, rfl⟩, qz⟩
end
end Bk

namespace Bk
open PySem PySem.Spec PyProof.Rows L2
open PySem.SeqAt AutoSeq1 MeetsSeq MeetsSeq2 MeetsSeq3 SeqRoads2
/-! ### `x in xs`, the items asked by their own == -/
section
variable {prog : Program} {w : World} {A : Around} {R : Result → Shared → Prop}
/-- the list stands as it is at each turn, and asking an item tells e -/
structure InI (prog : Program) (w : World) (A : Around) (R : Result → Shared → Prop) (l : Addr) (x : Value) (N : Nat) (e : Nat → Bool) (I : Shared → Prop) : Prop where
  at_ : ∀ s, I s → ∃ (items : Array Value) (n : Nat) (dd : Option Addr) (sl : Array (Option Value)), s.heap.get? l = some { cls := .type "list", dict := dd, data := .seq items n, slots := sl } ∧ items.size = N ∧
    ∀ i (h : i < items.size), wpAny (model prog w) A.in1 (eqBool items[i] x) (fun r s' => r = e i ∧ I s') (fun er s' => R (.error er) s') s
theorem in_loop (l : Addr) (x : Value) (N : Nat) (e : Nat → Bool) (I : Shared → Prop) (hl : InI prog w A R l x N e I) (fin : ∀ s, I s → R (.ok (.ret (.bool ((List.range N).any e)))) s) (k : Nat) :
    ∀ i : Nat, N - i = k → i ≤ N → (∀ j, j < i → e j = false) → ∀ s, I s →
      wpAny (model prog w) A.in1 (Builtin.«list.__contains__.loop» ⟨[.ref l, x, rawInt i], []⟩) (GQ.FinOf prog w A R) (fun er s' => R (.error er) s') s := by
  induction k with
  | zero =>
    intro i hk hi hf s h
    obtain ⟨items, n, dd, sl, hl1, hs1, _⟩ := hl.at_ _ h
    have hi' : i = N := by omega
    have hR := fin s h
    have he : (List.range N).any e = false := by
      rw [List.any_eq_false]
      intro j hj
      rw [hf j (by have := List.mem_range.mp hj; omega)]
      decide
    rw [he] at hR
    obtain ⟨hp, g, d, tk, os⟩ := s
    wp_walk using wpAny_loadPart' hl1
    have hi1 : items[((i : Nat) : Int).toNat]? = none := by simp; omega
    rw [hi1]
    wp_walk
    exact hR
  | succ k ih =>
    intro i hk hi hf s h
    obtain ⟨items, n, dd, sl, hl1, hs1, turn⟩ := hl.at_ _ h
    have hlt : i < items.size := by omega
    have ht := turn i hlt
    obtain ⟨hp, g, d, tk, os⟩ := s
    wp_walk using wpAny_loadPart' hl1
    have hi1 : items[((i : Nat) : Int).toNat]? = some items[i] := by simp [hlt]
    have hc : ((i : Int) + 1) = ((i + 1 : Nat) : Int) := by omega
    rw [hi1]
    refine wpAny_bind (wpAny_mono ht (fun r s2 h2 => ?_) fun _ _ x => x)
    obtain ⟨hr, h2⟩ := h2
    subst hr
    cases hb : e i with
    | true =>
      have hR := fin s2 h2
      rw [show (List.range N).any e = true from List.any_eq_true.mpr ⟨i, List.mem_range.mpr (by omega), hb⟩] at hR
      obtain ⟨hp2, g2, d2, tk2, os2⟩ := s2
      wp_walk
      exact hR
    | false =>
      have hrec := ih (i + 1) (by omega) (by omega) (fun j hj => by
        rcases Nat.lt_or_ge j i with h' | h'
        · exact hf j h'
        · rw [show j = i by omega]; exact hb) s2 h2
      obtain ⟨hp2, g2, d2, tk2, os2⟩ := s2
      wp_walk
      rw [hc]
      exact ⟨plainId_quiet plain_contains_loop _, codeAny_builtin entry_contains_loop (by
        rw [Around.under_plainId plain_contains_loop _]
        exact hrec)⟩
theorem in_call (l : Addr) (x : Value) (N : Nat) (e : Nat → Bool) (I : Shared → Prop) (hl : InI prog w A R l x N e I) (fin : ∀ s, I s → R (.ok (.ret (.bool ((List.range N).any e)))) s) {s : Shared} (h : I s) :
    wpAny (model prog w) A.in1 (Builtin.«list.__contains__» ⟨[.ref l, x], []⟩) (GQ.FinOf prog w A R) (fun er s' => R (.error er) s') s := by
  obtain ⟨items, n, dd, sl, hl1, hs1, _⟩ := hl.at_ _ h
  have hrec := in_loop (A := A) (R := R) l x N e I hl fin _ 0 rfl (Nat.zero_le _) (fun j hj => absurd hj (Nat.not_lt_zero _)) s h
  obtain ⟨hp, g, d, tk, os⟩ := s
  wp_walk using wpAny_loadPart' hl1
  exact ⟨plainId_quiet plain_contains_loop _, codeAny_builtin entry_contains_loop (by
    rw [Around.under_plainId plain_contains_loop _]
    exact hrec)⟩
end
theorem in_own {prog : Program} {w : World} {A : Around} {E : Value → Shared → Prop} {s : Shared} {l : Addr} {x : Value} {Q : Value → Shared → Prop} (N : Nat) (e : Nat → Bool) (I : Shared → Prop)
    (hl : InI prog w A (wants (fun v s' => ∃ b, v = .bool b ∧ Q (.bool b) s') E) l x N e I) (fin : ∀ s, I s → Q (.bool ((List.range N).any e)) s) (h : I s) : wpAny (model prog w) A (compareOp .In x (.ref l)) Q E s := by
  obtain ⟨items, n, dd, sl, hl1, hs1, _⟩ := hl.at_ _ h
  show wpAny _ A (do return .bool (← contains (.ref l) x)) Q E s
  refine wpAny_bind (wpAny_contains_slot ⟨_, hl1, rfl⟩ F.slot_list_contains (wpAny_mono (GQ.call_here F.slot_list_contains ⟨_, hl1, rfl⟩ F.entry_list_contains (F.args_list_contains_2 _ _) (in_call l x N e I hl (fun s' q => ⟨_, rfl, fin s' q⟩) h)) (fun v s' hv => ?_) fun _ _ e => e))
  obtain ⟨b, rfl, hq⟩ := hv
  exact wpAny_truthy_bool (wpAny_pure hq)
section
variable {X : Cx} {k j : Nat} {C : Addr} {sp : Sp}
/-- x, an object of the class at C, in a list of such; asking makes nothing -/
def rInOwn (K : PySem.W.Frag) (C : Addr) (sp : Sp) : R2 := fun x y H Q => ∃ (a b : Addr) (dx : Addr) (fs : List (Str × V)) (xs : List V) (e : Nat → Bool), x = .ref a ∧ y = .ref b ∧ H a = some (.ins C dx fs) ∧ SqL K H b xs ∧
  (∀ i v, xs[i]? = some v → ∃ c dy gs, v = .ref c ∧ H c = some (.ins C dy gs) ∧ (c = a → e i = true) ∧ ∀ QQ : VK, QQ (.bl (e i)) H → sp [.ref c, .ref a] H QQ E0) ∧ Q (.bl ((List.range xs.length).any e)) H
theorem op_inOwn (c : C8.Met X.prog X.w X.K X.mg X.base k C "__eq__" sp []) (hn : PySem.W.notFirst X.K C (.ref C) = true) (hr : Room j X.A) (hk : k + 2 ≤ j) : OpR X (compareOp .In) (rInOwn X.K C sp) := by
  intro pins s σ H x y v u Q I rx ry h
  obtain ⟨a, b, dx, fs, xs, e, rfl, rfl, ha, hs, hall, q⟩ := h
  obtain ⟨f, fd, ps, ds, hc, hm, F, hb, hd⟩ := c.ex
  cases hd
  cases (show v = Value.ref a from rx)
  cases (show u = Value.ref b from ry)
  have hr2 : Room (k + 2) X.A := hr.mono hk
  have hr1 : Room (k + 1) X.A.in1 := Room.in1 hr2
  refine in_own xs.length e (fun s' => Inv X pins σ H s') ⟨fun s' I' => ?_⟩ (fun s' I' => ⟨.bl _, H, I', rfl, q⟩) I
  obtain ⟨its, r, ⟨o, n, eo, c1, c2, c3⟩, z⟩ := I'.list hs
  obtain ⟨oc, od, odt, osl⟩ := o
  simp only at c1 c3
  subst c1 c3
  have hsz : its.toArray.size = xs.length := by rw [List.size_toArray, r.length]
  refine ⟨its.toArray, n, _, _, eo, hsz, fun i hi => ?_⟩
  have k1 : i < xs.length := by omega
  obtain ⟨cc, dy, gs, hx, hcc, hsame, hsp⟩ := hall i _ (List.getElem?_eq_getElem k1)
  obtain ⟨u, hu, ru⟩ := r.get (List.getElem?_eq_getElem k1)
  have g1 : its[i]? = some its.toArray[i] := by
    have h1' : i < its.length := by simpa using hi
    rw [List.getElem?_eq_getElem h1'] <;> simp
  rw [g1] at hu
  rw [Option.some.inj hu]
  rw [hx] at ru
  cases (show u = Value.ref cc from ru)
  by_cases hab : cc = a
  · subst hab
    rw [hsame rfl]
    exact SeqAt.EqAt.same (A := X.A.in1) (s := s') (.ref cc) X.prog X.w _ (fun r s2 => r = true ∧ Inv X pins σ H s2) ⟨rfl, I'⟩
  · refine GQ.eqBool_refG hab ?_
    obtain ⟨mA, O, _⟩ := ins_get I'.hok hcc
    obtain ⟨od1, J, _⟩ := O.look
    obtain ⟨mB, O2, _⟩ := ins_get I'.hok ha
    obtain ⟨od2, J2, _⟩ := O2.look
    obtain ⟨m, hF⟩ := I'.fr
    refine PySem.W.cmp_K (op := .Eq) (tb := .ref C) hr1.units0 hF I'.ok.mod.kin J J2.type hn hm.at_ hm.fn ?_
    refine wpAny_mono (run_below (us := [.ref cc, .ref a]) (vs := [.ref cc, .ref a]) F hb (hr1.mono (Nat.le_succ k)) I'.env0.in1 I' (.cons rfl (.cons rfl .nil)) (hsp (fun y H1 => y = .bl (e i) ∧ H1 = H) ⟨rfl, rfl⟩)) (fun z s2 hz => ?_) fun _ _ e => e
    obtain ⟨z', H', I2, rz, rfl, rfl⟩ := hz
    cases (show z = Value.bool (e i) from rz)
    exact ⟨e i, rfl, rfl, I2⟩
end
end Bk

namespace Bk
open PySem PySem.Spec PyProof.Rows L2
/-! ### an object whose making is refused, where the refusal is caught -/
structure MakeR (P : Program) (w : World) (K : PySem.W.Frag) (mg : Str → Option Value) (base : Heap) (x : Str) (k : Nat) (C : Addr) (sp : Sp) : Prop where
  ex : ∃ (f : Addr) (fd : FuncData) (ps : List Str), Mk K C f ∧ mg x = some (.ref C) ∧ FnOk P w K mg base (L2.CX P w) k f fd ps sp ∧ Binds K fd ps []
/-- the caller knows: made of these it is refused -/
def tMakeR (C : Addr) (sp : Sp) (E : L2.St → XK) (t : TA) : TE := fun σ H _ => t σ H fun vs H1 => ∀ x dx, H1 x = none → H1 dx = none → dx ≠ x →
  sp (.ref x :: vs) (upd (upd H1 dx (.own x)) x (.ins C dx [])) (fun _ _ => False) (E σ)
section
variable {X : Cx} {k j : Nat} {C : Addr} {x : Str} {sp : Sp} {W : WX} {p pos : Pos} {e : Expr} {es : List Expr} {t : TA}
end
/-! ### a method with one argument left to its default, refused where this is caught -/
structure MetXD (P : Program) (w : World) (K : PySem.W.Frag) (mg : Str → Option Value) (base : Heap) (k : Nat) (C : Addr) (m : Str) (sp : Sp) (dvs : List V) : Prop where
  ex : ∃ (f : Addr) (fd : FuncData) (ps : List Str) (ds : List Value), Cls K C ∧ Meth K C m f ∧ FnOk P w K mg base (L2.CX P w) k f fd ps sp ∧ Binds K fd ps ds ∧ Vals dvs ds
def tMethWD (C : Addr) (m : Str) (sp : Sp) (dvs : List V) (E : L2.St → XK) (ta : TE) (t : TA) : TE := fun σ H Q => ta σ H fun x H1 => IsObj C m x H1 ∧ t σ H1 fun vs H2 => sp (x :: vs ++ dvs) H2 Q (E σ)
section
variable {X : Cx} {k j : Nat} {C : Addr} {m : Str} {sp : Sp} {dvs : List V} {W : WX} {pos apos : Pos} {e o : Expr} {es : List Expr} {ta : TE} {t : TA}
end
/-- one argument fewer is given: the default stands in -/
theorem binds_def {K : PySem.W.Frag} {x qual : Str} {params : Arguments} {body : List Stmt} {scope : Scope} {v : V} {f : Addr} {fd : FuncData} {ps : List Str} {n : Nat} (F : FunD K x qual params body scope [v] [] f fd) (hn : n + 1 = ps.length)
    (h : ∀ (T : Addr) (kV doc pm : Value) (an : Option Addr) (cdv ct : Value) (us its : List Value), us.length = n → its.length = 1 →
      ∃ k, bindArgs (PySem.W.fnOf x qual params body scope (.ref T) kV doc pm an cdv ct) ⟨us, []⟩ = seqItems? (.ref T) >>= k ∧ k (some its.toArray) = pure (ps.zip (us ++ its.drop 0))) : ∃ ds, Vals [v] ds ∧ Binds K fd ps ds := F.binds1 n 0 (List.cons_ne_nil _ _) hn h
end Bk

namespace Bk
open PySem PySem.Spec PyProof.Rows L2
/-! ### a method called by keywords alone -/
structure MetK (P : Program) (w : World) (K : PySem.W.Frag) (mg : Str → Option Value) (base : Heap) (k : Nat) (C : Addr) (m : Str) (sp : Sp) (ks : List Str) (gV : List V → List V → List V) : Prop where
  ex : ∃ (f : Addr) (fd : FuncData) (ps : List Str) (g : List Value → List Value → List Value), Cls K C ∧ Meth K C m f ∧ FnOk P w K mg base CX0 k f fd ps sp ∧ KBn K fd ps 1 ks g gV ∧ (∀ us ws, us.length = 1 → ws.length = ks.length → (g us ws).length = ps.length)
def tMethK (C : Addr) (m : Str) (sp : Sp) (n : Nat) (gV : List V → List V → List V) (ta : TE) (tk : TA) : TE := fun σ H Q => ta σ H fun x H1 => IsObj C m x H1 ∧ tk σ H1 fun zs H2 => zs.length = n ∧ sp (gV [x] zs) H2 Q E0
section
variable {X : Cx} {k j : Nat} {C : Addr} {m : Str} {sp : Sp} {ks : List Str} {gV : List V → List V → List V} {pos apos : Pos} {o : Expr} {kws : List Keyword} {ta : TE} {tk : TA}
theorem pe_mtK {pl : Sem Bool} (c : MetK X.prog X.w X.K X.mg X.base k C m sp ks gV) (hr : Room j X.A) (hk : k ≤ j) (he : PE X o ta) (hkw : PK X kws tk)
    (hall : (backToKw pos (keywordEach kws X.env)).all (·.1.isSome) = true := by rfl) (hks : (backToKw pos (keywordEach kws X.env)).filterMap (·.1) = ks := by rfl)
    (hpl : ((backTo pos (starEach [] X.env)).any (·.1) || (backToKw pos (keywordEach kws X.env)).any (·.1.isNone)) = false := by rfl)
    (look : eval (.Call (.Attribute o m apos) [] kws pos) X.env = (eval o X.env >>= fun ov => standAt apos.atName >>= fun _ => holding [ov] (getMethod ov m pl) >>= fun z => callWith pos z.1 z.2 (backTo pos (starEach [] X.env)) (backToKw pos (keywordEach kws X.env))) := by rfl) :
    PE X (.Call (.Attribute o m apos) [] kws pos) (tMethK C m sp ks.length gV ta tk) := by
  obtain ⟨f, fd, ps, g, hc, hm, F, hb, hgl⟩ := c.ex
  constructor
  intro pins s σ H Q I h
  apply PySem.W.methodCall_KW (pl := pl) _ look
  apply thn (he.run pins s σ H _ I h)
  rintro u s1 ⟨x, H1, I1, rx, ⟨a, dx, fs, rfl, ea, l⟩, q⟩
  cases rx
  apply getmeth_ok I1 ea hc hm l
  refine PySem.W.callWith_KW0 (first := [.ref a]) (h₀ := X.base) I.ok.mod.kin hm.kp hall ?_ hpl
  refine thn (hkw.run pos pins s1 σ H1 _ I1 q) fun ws s2 ⟨zs, H2, I2, rz, l1, q2⟩ => ⟨I2.kIn, ?_⟩
  rw [hks]
  have e2 : ws.length = ks.length := rz.length.symm.trans l1
  have r2 := hb.rel (vs := [.ref a]) (us := [Value.ref a]) (.cons rfl .nil) rz
  refine wpAny_call (codeAny_mono (F.run X.A X.stack s2 H2 ⟨[.ref a], ks.zip ws⟩ (g [.ref a] ws) _ Q E0 (hr.mono hk) I2.env0 (hb.to s2 [.ref a] ws I2.kIn rfl e2) r2 q2) fun r s' hq => ?_)
  cases r with
  | error e => exact hq.elim
  | ok fl =>
    cases fl with
    | ret u => exact I2.after hq
    | next => exact False.elim hq
    | brk => exact False.elim hq
    | cont => exact False.elim hq
end
/-- no default stands by: each parameter is written by its name -/
theorem kbn_none {K : PySem.W.Frag} {x qual : Str} {st : Stmt} {f : Addr} {fd : FuncData} {ps : List Str} (F : Fun K x qual st f fd) (n : Nat) (ks : List Str) (g : {α : Type} → List α → List α → List α)
    (hrel : ∀ {vs zs : List V} {us ws : List Value}, Vals vs us → Vals zs ws → Vals (g vs zs) (g us ws))
    (h : ∀ (kV doc pm : Value) (an : Option Addr) (cdv ct : Value) (us ws : List Value), us.length = n → ws.length = ks.length → bindArgs (PySem.W.fnOf x qual (defArgs st) (defBody st) (defScope st) .none kV doc pm an cdv ct) ⟨us, ks.zip ws⟩ = pure (ps.zip (g us ws))) : KBn K fd ps n ks g g := by
  obtain ⟨oc, od, kV, doc, pm, an, cdv, ct, osl, rfl, lk, hcd⟩ := F.ex
  refine ⟨fun s us ws X l1 l2 => ?_, fun r1 r2 => hrel r1 r2⟩
  exact .of_eq (h kV doc pm an cdv ct us ws l1 l2)
/-- the self, and two by name in the other order; the self, and three by name: the last one first -/
def swap2 {α : Type} : List α → List α → List α
  | [x], [a, b] => [x, b, a]
  | us, ws => us ++ ws
def turn3 {α : Type} : List α → List α → List α
  | [x], [a, b, c] => [x, b, c, a]
  | us, ws => us ++ ws
theorem swap2_vals {vs zs : List V} {us ws : List Value} (h : Vals vs us) (h2 : Vals zs ws) : Vals (swap2 vs zs) (swap2 us ws) := by
  have gen : Vals (vs ++ zs) (us ++ ws) := h.append h2
  match h, h2 with
  | .cons a .nil, .cons b (.cons c .nil) => exact .cons a (.cons c (.cons b .nil))
  | .nil, _ => exact gen
  | .cons _ (.cons _ _), _ => exact gen
  | .cons _ .nil, .nil => exact gen
  | .cons _ .nil, .cons _ .nil => exact gen
  | .cons _ .nil, .cons _ (.cons _ (.cons _ _)) => exact gen
theorem turn3_vals {vs zs : List V} {us ws : List Value} (h : Vals vs us) (h2 : Vals zs ws) : Vals (turn3 vs zs) (turn3 us ws) := by
  have gen : Vals (vs ++ zs) (us ++ ws) := h.append h2
  match h, h2 with
  | .cons a .nil, .cons b (.cons c (.cons d .nil)) => exact .cons a (.cons c (.cons d (.cons b .nil)))
  | .nil, _ => exact gen
  | .cons _ (.cons _ _), _ => exact gen
  | .cons _ .nil, .nil => exact gen
  | .cons _ .nil, .cons _ .nil => exact gen
  | .cons _ .nil, .cons _ (.cons _ .nil) => exact gen
  | .cons _ .nil, .cons _ (.cons _ (.cons _ (.cons _ _))) => exact gen
end Bk

namespace Bk
open PySem PySem.Spec PyProof.Rows L2
/-! ### xs[::-1] of a list -/
theorem pick_map {xs : List V} : ∀ {is : List Nat}, (∀ i ∈ is, i < xs.length) → is.filterMap (xs[·]?) = is.map fun i => xs.getD i .non
  | [], _ => rfl
  | i :: is, h => by
    have hi := h i List.mem_cons_self
    rw [List.filterMap_cons_some (List.getElem?_eq_getElem hi), List.map_cons, pick_map fun j hj => h j (List.mem_cons_of_mem _ hj)]
    congr 1
    rw [List.getD_eq_getElem?_getD, List.getElem?_eq_getElem hi]
    rfl
theorem stepV_rev (xs : List V) : stepV xs none none (some (-1)) = xs.reverse := by
  have er : (sliceRange ((xs.length : Int) - 1) (-1) (-1)) = (List.range xs.length).map fun (k : Nat) => ((xs.length : Int) - 1 + -1 * (k : Int)).toNat := by
    unfold sliceRange
    simp only [show ¬ ((-1 : Int) > 0) by decide, if_false]
    congr 2
    by_cases h2 : (xs.length : Int) - 1 > -1
    · rw [if_pos h2, show (- -1 : Int) = 1 by decide, Int.ediv_one]
      omega
    · rw [if_neg h2]
      omega
  unfold stepV
  rw [show sliceBounds none none (some (-1)) xs.length = ((xs.length : Int) - 1, -1, -1) from rfl]
  simp only
  rw [er, pick_map]
  · rw [List.map_map]
    apply List.ext_getElem
    · rw [List.length_map, List.length_range, List.length_reverse]
    · intro i h1 h2
      rw [List.length_map, List.length_range] at h1
      rw [List.getElem_map, List.getElem_range, List.getElem_reverse]
      show xs.getD ((xs.length : Int) - 1 + -1 * (i : Int)).toNat V.non = _
      rw [List.getD_eq_getElem?_getD, show ((xs.length : Int) - 1 + -1 * (i : Int)).toNat = xs.length - 1 - i by omega, List.getElem?_eq_getElem (by omega)]
      rfl
  · intro i hi
    obtain ⟨k, hk, rfl⟩ := List.mem_map.mp hi
    have := List.mem_range.mp hk
    omega
def rRng3 (vs : List V) (H1 : Hp) (R : It → Hp → Prop) : Prop := ∃ (i j c : Int) (n : Nat), vs = [.int i, .int j, .int c] ∧ RgC i j c n ∧ R (Itc i c n) H1
theorem iRng3_eq {ta : TA} {σ : L2.St} {H : Hp} {R : It → Hp → Prop} : iRng3 ta σ H R = ta σ H fun vs H1 => rRng3 vs H1 R := rfl
theorem rRng3_i {i j c : Int} {H : Hp} {R : It → Hp → Prop} : rRng3 [.int i, .int j, .int c] H R = ∃ n, RgC i j c n ∧ R (Itc i c n) H := propext ⟨fun ⟨_, _, _, n, e, h⟩ => by cases e; exact ⟨n, h⟩, fun ⟨n, h⟩ => ⟨i, j, c, n, rfl, h⟩⟩
/-- the last lit days never go back -/
theorem Lasts.mono {g : Good} {ls : List Int} {os : List (Option Nat)} (h : Lasts g ls os) (hg : g.days.length = ls.length) (hl : ∀ b, 0 ≤ rowF ls b) (N : NonNegW g.days) (S : Steady g) {n l : Nat} (hn : n < ls.length) (e : os[n]? = some (some l)) : ∃ l', os[n + 1]? = some (some l') ∧ l ≤ l' := by
  obtain ⟨row, hR, hat⟩ := h.row
  have hol := h.len
  have e' : os[n + 1]? = some os[n + 1] := List.getElem?_eq_getElem (by omega)
  generalize os[n + 1] = o at e'
  have h1 := hat n _ e
  have h2 := hat (n + 1) _ e'
  by_cases hw : wantN g n = 0
  · have hi := h1.of_iff (g' := g) (lights' := rowF ls) (row' := row) (j' := n + 1) fun d => (last_unw hR (by omega) hl N S hn hw d).symm
    have := h2.uniq hi
    subst this
    exact ⟨l, e', Nat.le_refl _⟩
  · obtain ⟨d, hd⟩ := last_wanted hR (by omega) hl N S hn hw
    cases o with
    | none => exact absurd hd (h2 d)
    | some l' => exact ⟨l', e', last_up hR (by omega) hl N S hn hw h1.1 h2⟩
end Bk

namespace Bk
open PySem PySem.Spec PyProof.Rows L2
/-! ### one price for all loaves: known costs -/
theorem IsRow.cut {g : Good} {lights row : Nat → Int} {n m : Nat} (h : IsRow g lights row n) (hm : m ≤ n) : IsRow g lights row m := ⟨h.zero, fun k hk => h.some k (by omega), fun k hk => h.least k (by omega)⟩
/-- the light of a wanted day, else nothing -/
def litW (g : Good) (L : Nat → Int) (k : Nat) : Int := if wantN g k = 0 then 0 else L k
/-! ### the told plan -/
/-! ### the three families -/
def famG (ws : List Int) (c : Int) (f l : Option Int) : Good := ⟨ws.map fun w => ⟨w, c, 0, f⟩, l⟩
/-- which days may bake for which, by the way -/
def May (way : Nat) (b k : Nat) : Prop := way = 0 ∨ way = 1 ∧ b ≤ k ∨ way = 2 ∧ b = k
def famF (way : Nat) : Option Int := if way = 0 then some 0 else none
def famL (way : Nat) : Option Int := if way = 2 then some 0 else none
/-- what the law's own row holds at m -/
structure KRow (way : Nat) (ws ls : List Int) (c : Int) (m : Nat) (v : Int) : Prop where
  none : way < 2 → (∀ k, k < m → rowF ws k = 0) → v = 0
  some : way < 2 → ∀ k0, k0 < m → rowF ws k0 ≠ 0 → (∀ k, k < k0 → rowF ws k = 0) → ∃ b, b < m ∧ (way = 1 → b ≤ k0) ∧ (∀ b', b' < m → (way = 1 → b' ≤ k0) → rowF ls b ≤ rowF ls b') ∧ v = c * sumN (rowF ws) m + rowF ls b
  each : way = 2 → v = c * sumN (rowF ws) m + sumN (fun k => if rowF ws k = 0 then 0 else rowF ls k) m
/-- the wanted days among the first ones -/
def wantK (ws : List Int) (i : Nat) : List Nat := (List.range i).filter fun k => decide (0 < rowF ws k)
def natK (n : Nat) : V := .int (n : Int)
end Bk

namespace Bk
open PySem PySem.Spec PyProof.Rows L2
/-! ### isinstance of the error that its suite holds, whatever its class -/
def rIsS (K : PySem.W.Frag) (cls : Value) (d : Option Addr) (a : Addr) : List V → Hp → VK → Prop := fun xs H Q => ∃ (D : Addr) (c : V) (cv : Value) (b : Bool), cls = .ref D ∧ d = none ∧ ExcC K D ∧ xs = [.ref a, c] ∧ (∀ u, RelV c u → u = cv) ∧ PySem.W.kitOne K (.ref D) cv = some b ∧ Q (.bl b) H
end Bk

namespace Bk
open PySem PySem.Spec PyProof.Rows L2
/-! ### isinstance of a kept error, many classes; its fields -/
def rIsXT (K : PySem.W.Frag) : List V → Hp → VK → Prop := fun xs H Q => ∃ (a C tp : Addr) (d : Option Addr) (cs : List V) (us : List Value) (b : Bool), xs = [.ref a, .ref tp] ∧ H a = some (ExK (.ref C) d a) ∧ DictIn H d ∧ ExcC K C ∧ H tp = some (.tup cs) ∧ Paired ClsV cs us ∧ PySem.W.kitAny K (.ref C) us = some b ∧ Q (.bl b) H
/-- a field of a kept error -/
def tXk (K : PySem.W.Frag) (n : Str) (te : TE) : TE := fun σ H Q => te σ H fun x H1 => ∃ (a C dd : Addr) (fs : List (Str × V)) (v : V), x = .ref a ∧ H1 a = some (ExK (.ref C) (some dd) a) ∧ XfC K C ∧ PySem.W.findIn K (.ref C) n = some none ∧ H1 dd = some (.xd fs) ∧ fs.lookup n = some v ∧ Q v H1
end Bk

namespace Bk
open PySem PySem.Spec PyProof.Rows L2
/-! ### errors made as values -/
def tMade (t : L2.St → Hp → XK → Prop) : TE := fun σ H Q => t σ H fun cls d H1 => ∀ a, H1 a = none → Q (.ref a) (upd H1 a (ExK cls d a))
/-- C(e), a class without own init -/
def tMk1 (C : Addr) (te : TE) : TE := fun σ H Q => te σ H fun _ H1 => ∀ a, H1 a = none → Q (.ref a) (upd H1 a (ExK (.ref C) none a))
/-- C(u, v), a class whose init keeps both -/
def tMk2 (K : PySem.W.Frag) (C : Addr) (f1 f2 : Str) (ta : TA) : TE := fun σ H Q => ta σ H fun vs H1 => rRaise2 K C f1 f2 (fun cls d _ H2 => ∀ a, H2 a = none → Q (.ref a) (upd H2 a (ExK cls d a))) σ vs H1
/-! ### the init of an error with one field -/
def spInit1 (K : PySem.W.Frag) (C : Addr) (f1 : Str) : Sp := fun vs H Q _ => ∃ (a : Addr) (u : V), vs = [.ref a, u] ∧ smV u ∧ H a = some (exo a C none) ∧ ∀ dx, H dx = none → dx ≠ a → Q .non (upd (upd H dx (exd dx [(f1, u)])) a (exo a C (some dx)))
structure Err1f (P : Program) (w : World) (K : PySem.W.Frag) (mg : Str → Option Value) (base : Heap) (x : Str) (C : Addr) (f1 : Str) : Prop where
  g : mg x = some (.ref C)
  T : OexC K C
  init : ∃ (fI : Addr) (fd : FuncData), PySem.W.findIn K (.ref C) "__init__" = some (some (.ref fI)) ∧ PySem.W.typeIn K (.ref fI) = some (.type "function") ∧ Binds K fd ["self", f1] [] ∧ FnOk P w K mg base CX0 1 fI fd ["self", f1] (spInit1 K C f1)
def rMk1f (K : PySem.W.Frag) (C : Addr) (f1 : Str) (Q : XK) (vs : List V) (H1 : Hp) : Prop := vs.length ≤ 1000 ∧ ∀ a, H1 a = none → spInit1 K C f1 (.ref a :: (vs ++ [])) (upd H1 a (exo a C none))
  (fun v H2 => v = .non ∧ ∃ (d : Addr) (fs : List (Str × V)), H2 a = some (exo a C (some d)) ∧ H2 d = some (exd d fs) ∧ H1 d = none ∧ Q (.ref C) (some d) (upd (del H2 a) d (.xd fs))) (fun _ _ _ => False)
def tMk1f (K : PySem.W.Frag) (C : Addr) (f1 : Str) (ta : TA) : TE := fun σ H Q => ta σ H fun vs H1 => rMk1f K C f1 (fun cls d H2 => ∀ a, H2 a = none → Q (.ref a) (upd H2 a (ExK cls d a))) vs H1
end Bk

namespace Bk
open PySem PySem.Spec PyProof.Rows L2
/-! ### an error of one field, raised -/
def rRaise1f (K : PySem.W.Frag) (C : Addr) (f1 : Str) (W : WX) (σ : L2.St) (vs : List V) (H1 : Hp) : Prop := vs.length ≤ 1000 ∧ ∀ a, H1 a = none → spInit1 K C f1 (.ref a :: (vs ++ [])) (upd H1 a (exo a C none))
  (fun v H2 => v = .non ∧ ∃ (d : Addr) (fs : List (Str × V)), H2 a = some (exo a C (some d)) ∧ H2 d = some (exd d fs) ∧ H1 d = none ∧ W (.ref C) (some d) σ (upd (del H2 a) d (.xd fs))) (fun _ _ _ => False)
def tRaise1f (K : PySem.W.Frag) (C : Addr) (f1 : Str) (W : WX) (ta : TA) : TS := fun _ σ H => ta σ H fun vs H1 => rRaise1f K C f1 W σ vs H1
end Bk

namespace Bk
open PySem PySem.Spec PyProof.Rows L2
/-! ### rows that are never come to -/
end Bk

namespace Bk
open PySem PySem.Spec PyProof.Rows L2
/-! ### texts taken apart -/
/-- a number that a word can tell, or None -/
def WO (o : Option Int) : Prop := ∀ i, o = some i → 0 ≤ i ∧ i < 10000000000
theorem tl_dash : TL.tl ("-" : Str) = [45] := by decide
def tlW : Option Int → List Nat
  | none => [45]
  | some i => TL.numL i.toNat
theorem tl_some {i : Int} (h : 0 ≤ i) : TL.tl (toString i : Str) = TL.numL i.toNat := by
  obtain ⟨n, rfl⟩ : ∃ n : Nat, i = (n : Int) := ⟨i.toNat, by omega⟩
  exact TL.tl_num n
theorem tl_word {o : Option Int} (h : WO o) : TL.tl (wordO o) = tlW o := by
  cases o with
  | none => exact tl_dash
  | some i => exact tl_some (h i rfl).1
theorem word_free {o : Option Int} (h : WO o) {s : Nat} (hs : s < 45) : s ∉ TL.tl (wordO o) := by
  rw [tl_word h]
  cases o with
  | none =>
    intro z
    have : s = 45 := List.mem_singleton.mp z
    omega
  | some i => exact TL.numL_free (.inl (by omega))
theorem split_sp {parts : List Str} (hne : parts ≠ []) (hp : ∀ p ∈ parts, 32 ∉ TL.tl p) : Txt.split (Txt.join " " parts) " " = parts :=
  TL.split_join (y := " ") (s := 32) (S := []) (by decide) (by decide +kernel) hne hp
theorem split_nl {parts : List Str} (hne : parts ≠ []) (hp : ∀ p ∈ parts, 10 ∉ TL.tl p) : Txt.split (Txt.join "\n" parts) "\n" = parts :=
  TL.split_join (y := "\n") (s := 10) (S := []) (by decide) (by decide +kernel) hne hp
theorem split_row {l : List (Option Int)} (hne : l ≠ []) (h : ∀ o ∈ l, WO o) : Txt.split (rowO l) " " = l.map wordO := by
  unfold rowO
  refine split_sp (fun z => hne (List.map_eq_nil_iff.mp z)) fun p hp => ?_
  obtain ⟨o, ho, rfl⟩ := List.mem_map.mp hp
  exact word_free (h o ho) (by decide)
theorem join_cons {sep a : Str} {r : List Str} (h : r ≠ []) : Txt.join sep (a :: r) = a ++ sep ++ Txt.join sep r := by
  rw [TL.join_eq, TL.join_eq]
  cases r with
  | nil => exact absurd rfl h
  | cons b s => rfl
theorem head_row {w : Str} (hw : 32 ∉ TL.tl w) {l : List (Option Int)} (hne : l ≠ []) (h : ∀ o ∈ l, WO o) : Txt.split (w ++ " " ++ rowO l) " " = w :: l.map wordO := by
  unfold rowO
  rw [← join_cons (fun z => hne (List.map_eq_nil_iff.mp z))]
  refine split_sp (List.cons_ne_nil _ _) fun p hp => ?_
  rcases List.mem_cons.mp hp with rfl | hp
  · exact hw
  · obtain ⟨o, ho, rfl⟩ := List.mem_map.mp hp
    exact word_free (h o ho) (by decide)
theorem rowO_one (o : Option Int) : rowO [o] = wordO o := by
  unfold rowO
  rw [TL.join_eq]
  rfl
theorem app_word {a b : Str} {c : Str} (h : a = b ++ " ") : a ++ c = b ++ " " ++ c := by rw [h]
theorem split_oven (o : Option Int) (h : WO o) : Txt.split ("oven " ++ wordO o) " " = [("oven" : Str), wordO o] := by
  have := head_row (w := "oven") (by decide) (l := [o]) (List.cons_ne_nil _ _) (fun x hx => by rw [List.mem_singleton.mp hx]; exact h)
  rw [rowO_one] at this
  rw [app_word (a := "oven ") (b := "oven") (by decide)]
  exact this
theorem split_good (o : Option Int) (h : WO o) : Txt.split ("good " ++ wordO o) " " = [("good" : Str), wordO o] := by
  have := head_row (w := "good") (by decide) (l := [o]) (List.cons_ne_nil _ _) (fun x hx => by rw [List.mem_singleton.mp hx]; exact h)
  rw [rowO_one] at this
  rw [app_word (a := "good ") (b := "good") (by decide)]
  exact this
theorem split_lights {l : List (Option Int)} (hne : l ≠ []) (h : ∀ o ∈ l, WO o) : Txt.split ("lights " ++ rowO l) " " = ("lights" : Str) :: l.map wordO := by
  rw [app_word (a := "lights ") (b := "lights") (by decide)]
  exact head_row (by decide) hne h
/-- rows hold no end of a row -/
theorem joinL_mem {S : List Nat} {x : Nat} : ∀ {ps : List (List Nat)}, x ∈ TL.joinL S ps → x ∈ S ∨ ∃ p ∈ ps, x ∈ p
  | [], h => nomatch h
  | [p], h => .inr ⟨p, List.mem_cons_self, h⟩
  | p :: q :: r, h => by
    have h : x ∈ p ++ (S ++ TL.joinL S (q :: r)) := h
    rcases List.mem_append.mp h with h | h
    · exact .inr ⟨p, List.mem_cons_self, h⟩
    rcases List.mem_append.mp h with h | h
    · exact .inl h
    · rcases joinL_mem (ps := q :: r) h with h | ⟨y, hy, h⟩
      · exact .inl h
      · exact .inr ⟨y, List.mem_cons_of_mem _ hy, h⟩
theorem row_free {l : List (Option Int)} (h : ∀ o ∈ l, WO o) : 10 ∉ TL.tl (rowO l) := by
  unfold rowO
  rw [TL.join_eq, TL.tl_join]
  intro z
  rcases joinL_mem z with z | ⟨p, hp, z⟩
  · revert z
    decide
  · obtain ⟨q, hq, rfl⟩ := List.mem_map.mp hp
    obtain ⟨o, ho, rfl⟩ := List.mem_map.mp hq
    exact word_free (h o ho) (by decide) z
theorem app_free {a b : Str} (h1 : 10 ∉ TL.tl a) (h2 : 10 ∉ TL.tl b) : 10 ∉ TL.tl (a ++ b) := by
  rw [TL.tl_append]
  intro z
  rcases List.mem_append.mp z with z | z
  · exact h1 z
  · exact h2 z
def rIntS : List V → Hp → VK → Prop := fun xs H Q => ∃ a n, xs = [.str a] ∧ PySem.intText? a = some n ∧ a.length ≤ 640 ∧ Q (.int n) H
theorem call_intS {X : Cx} : CallR X (.type "int") rIntS := call_int_str
theorem rIntS_r {a : Str} {H : Hp} {Q : VK} : rIntS [.str a] H Q = ∃ n, PySem.intText? a = some n ∧ a.length ≤ 640 ∧ Q (.int n) H := propext ⟨fun ⟨_, n, e, h⟩ => by cases e; exact ⟨n, h⟩, fun ⟨n, h⟩ => ⟨a, n, rfl, h⟩⟩
def rLenS : List V → Hp → VK → Prop := fun xs H Q => ∃ z, xs = [.str z] ∧ z.length ≤ sizeLine ∧ Q (.int z.length) H
theorem call_lenS {X : Cx} : CallR X (.builtin "len") rLenS := call_len_str
theorem rLenS_r {z : Str} {H : Hp} {Q : VK} : rLenS [.str z] H Q = (z.length ≤ sizeLine ∧ Q (.int z.length) H) := propext ⟨fun ⟨_, e, h⟩ => by cases e; exact h, fun h => ⟨z, rfl, h⟩⟩
theorem rIxS_r {z : Str} {i : Int} {H : Hp} {Q : VK} : rIxS (.str z) (.int i) H Q = ∃ c, z.length ≤ sizeLine ∧ atI z.cps.toList i = some c ∧ Q (.str ⟨#[c]⟩) H := propext ⟨fun ⟨_, _, c, e1, e2, h⟩ => by cases e1; cases e2; exact ⟨c, h⟩, fun ⟨c, h⟩ => ⟨z, i, c, rfl, rfl, h⟩⟩
def rInS : R2 := fun x y H Q => ∃ (c : Nat) (z : Str), x = .str ⟨#[c]⟩ ∧ y = .str z ∧ Q (.bl (decide (c ∈ z.cps.toList))) H
theorem op_inS {X : Cx} : OpR X (compareOp .In) rInS := op_in_sign
theorem rInS_r {c : Nat} {z : Str} {H : Hp} {Q : VK} : rInS (.str ⟨#[c]⟩) (.str z) H Q = Q (.bl (decide (c ∈ z.cps.toList))) H := propext ⟨fun ⟨_, _, e1, e2, h⟩ => by cases e1; cases e2; exact h, fun h => ⟨c, z, rfl, rfl, h⟩⟩
def rSplit : V → List V → Hp → VK → Prop := fun x xs H Q => ∃ a b, x = .str a ∧ xs = [.str b] ∧ (b.length == 0) = false ∧ a.length + 2 ≤ sizeLine ∧ rNewStrs (Txt.split a b) H Q
theorem rSplit_r {a b : Str} {H : Hp} {Q : VK} : rSplit (.str a) [.str b] H Q = ((b.length == 0) = false ∧ a.length + 2 ≤ sizeLine ∧ rNewStrs (Txt.split a b) H Q) := propext ⟨fun ⟨_, _, e1, e2, h⟩ => by cases e1; cases e2; exact h, fun h => ⟨a, b, rfl, rfl, h⟩⟩
theorem pe_splitS {X : Cx} {o e : Expr} {to te : TE} {apos pos : Pos} (ho : PE X o to) (he : PE X e te) (hs : starEach [e] X.env = [(false, eval e X.env)] := by rfl) (hbase : attributeBase o "split" X.env (eval o X.env) = eval o X.env := by rfl) (hline : (apos.endLine == pos.line) = true := by rfl) : PE X (.Call (.Attribute o "split" apos) [e] [] pos) (tM1 rSplit to te) := pe_split ho he hs hbase hline
theorem iStr_eq {te : TE} {σ : L2.St} {H : Hp} {R : It → Hp → Prop} : iStr te σ H R = te σ H fun v H1 => ∃ x, v = .str x ∧ R (Its x) H1 := rfl
structure WB (b : Bak) : Prop where
  bd : WO b.bound
  li : ∀ z ∈ b.lights, WO (some z)
  go : ∀ g ∈ b.goods, WO g.life ∧ ∀ d ∈ g.days, ∀ o ∈ dayO d, WO o
theorem WB.rows {b : Bak} (h : WB b) : ∀ p ∈ bakRows b, 10 ∉ TL.tl p := by
  intro p hp
  unfold bakRows at hp
  rcases List.mem_cons.mp hp with rfl | hp
  · exact app_free (by decide) (word_free h.bd (by decide))
  rcases List.mem_cons.mp hp with rfl | hp
  · exact app_free (by decide) (row_free fun o ho => by
      obtain ⟨z, hz, rfl⟩ := List.mem_map.mp ho
      exact h.li z hz)
  obtain ⟨rs, hrs, hp⟩ := List.mem_flatten.mp hp
  obtain ⟨g, hg, rfl⟩ := List.mem_map.mp hrs
  obtain ⟨k1, k2⟩ := h.go g hg
  unfold goodRows at hp
  rcases List.mem_cons.mp hp with rfl | hp
  · exact app_free (by decide) (word_free k1 (by decide))
  · obtain ⟨d, hd, rfl⟩ := List.mem_map.mp hp
    exact row_free (k2 d hd)
theorem WB.split {b : Bak} (h : WB b) : Txt.split (bakText b) "\n" = bakRows b := split_nl (List.cons_ne_nil _ _) h.rows
theorem WB.of {b : Bak} (hb : bakB (bakD b) = true) : WB b := by
  obtain ⟨_, h1, h2, _, h3⟩ := bak_parts hb
  refine ⟨fun i e => ?_, fun z hz i e => ?_, fun g hg => ⟨fun i e => ?_, fun d hd o ho i e => ?_⟩⟩
  · rw [e] at h2
    simp only [optD, boundB, numD, Bool.and_eq_true, decide_eq_true_eq] at h2
    omega
  · have e : z = i := Option.some.inj e
    have := h1 z hz
    simp only [numD, Bool.and_eq_true, decide_eq_true_eq] at this
    omega
  · have := (h3 g hg).2.1
    rw [e] at this
    simp only [optD, lifeB, Bool.and_eq_true, decide_eq_true_eq] at this
    omega
  · obtain ⟨n1, n2, n3, n4⟩ := nums_of_day ((h3 g hg).2.2 d hd)
    subst e
    simp only [dayO, List.mem_cons, List.not_mem_nil, or_false, Option.some.injEq] at ho
    rcases ho with rfl | rfl | rfl | ho
    · omega
    · omega
    · omega
    · have := n4 _ ho.symm
      omega
/-! ### words that are written -/
theorem len_word {o : Option Int} (h : WO o) : 1 ≤ (wordO o).length ∧ (wordO o).length ≤ 10 := by
  rw [TL.len_tl, tl_word h]
  cases o with
  | none => decide
  | some i =>
    have h1 := h i rfl
    have h2 := TL.numL_len (n := i.toNat) (k := 10) (by decide) (by show i.toNat < 10000000000; omega)
    have h3 := TL.numL_ne i.toNat
    have : (TL.numL i.toNat).length ≠ 0 := fun z => h3 (List.length_eq_zero_iff.mp z)
    show 1 ≤ (TL.numL i.toNat).length ∧ (TL.numL i.toNat).length ≤ 10
    omega
theorem head_num : ∀ n : Nat, 0 < n → ∃ c r, TL.numL n = c :: r ∧ c ≠ 48 := by
  intro n
  induction n using Nat.strongRecOn with
  | _ n ih =>
    intro hn
    by_cases h : n < 10
    · exact ⟨48 + n, [], TL.numL_lt h, by omega⟩
    · obtain ⟨c, r, e, hc⟩ := ih (n / 10) (by omega) (by omega)
      exact ⟨c, r ++ [48 + n % 10], by rw [TL.numL_step (by omega), e]; rfl, hc⟩
theorem word_dash {o : Option Int} (h : WO o) : wordO o = ("-" : Str) ↔ o = none := by
  constructor
  · intro e
    cases o with
    | none => rfl
    | some i =>
      have h1 := tl_word h
      rw [e, tl_dash] at h1
      have h2 : 45 ∈ TL.numL i.toNat := by
        show 45 ∈ tlW (some i)
        rw [← h1]
        exact List.mem_singleton.mpr rfl
      exact absurd h2 (TL.numL_free (.inl (by decide)))
  · rintro rfl
    rfl
theorem word_zero {i : Int} (h : WO (some i)) (hi : i ≠ 0) : wordO (some i) ≠ ("0" : Str) ∧ ∃ c r, TL.tl (wordO (some i)) = c :: r ∧ c ≠ 48 := by
  have h0 := (h i rfl).1
  obtain ⟨c, r, e, hc⟩ := head_num i.toNat (by omega)
  have h1 : TL.tl (wordO (some i)) = c :: r := by
    rw [tl_word h]
    exact e
  refine ⟨fun z => ?_, c, r, h1, hc⟩
  rw [z] at h1
  have h2 : TL.tl ("0" : Str) = [48] := by decide
  rw [h2] at h1
  have := List.cons.inj h1
  exact hc this.1.symm
theorem figs (d : Nat) (h : 48 ≤ d ∧ d ≤ 57) : d ∈ ("0123456789" : Str).cps.toList := by
  have h2 : ("0123456789" : Str).cps.toList = [48, 49, 50, 51, 52, 53, 54, 55, 56, 57] := by decide
  rw [h2]
  have : d = 48 ∨ d = 49 ∨ d = 50 ∨ d = 51 ∨ d = 52 ∨ d = 53 ∨ d = 54 ∨ d = 55 ∨ d = 56 ∨ d = 57 := by omega
  simp only [List.mem_cons, List.not_mem_nil, or_false]
  omega
theorem word_digits {i : Int} (h : WO (some i)) : ∀ c ∈ TL.tl (wordO (some i)), 48 ≤ c ∧ c ≤ 57 := by
  rw [tl_word h]
  exact TL.numL_digits i.toNat
theorem word_int {i : Int} (h : WO (some i)) : PySem.intText? (wordO (some i)) = some i := by
  have h1 := h i rfl
  have h2 := TL.numL_len (n := i.toNat) (k := 10) (by decide) (by show i.toNat < 10000000000; omega)
  have h3 := TL.int_num (n := i.toNat) (by omega)
  have e : i = ((i.toNat : Nat) : Int) := by omega
  rw [← e] at h3
  exact h3
/-! ### the rows of a bakery by their places -/
theorem flat_at {n : Nat} : ∀ {gs : List Good}, (∀ g ∈ gs, g.days.length = n) → ∀ (j r : Nat) (hj : j < gs.length), r < n + 1 → ((gs.map goodRows).flatten)[j * (n + 1) + r]? = (goodRows gs[j])[r]?
  | [], _, j, _, hj, _ => absurd hj (Nat.not_lt_zero j)
  | g :: gs, h, j, r, hj, hr => by
    have hg : (goodRows g).length = n + 1 := by rw [goodRows_len, h g List.mem_cons_self]
    rw [List.map_cons, List.flatten_cons]
    cases j with
    | zero =>
      rw [Nat.zero_mul, Nat.zero_add, List.getElem?_append_left (by omega)]
      rfl
    | succ j =>
      have e : (j + 1) * (n + 1) + r = (n + 1) + (j * (n + 1) + r) := by rw [Nat.succ_mul]; omega
      rw [e, List.getElem?_append_right (by omega), hg, Nat.add_sub_cancel_left]
      rw [flat_at (fun x hx => h x (List.mem_cons_of_mem _ hx)) j r (by simpa using hj) hr]
      rfl
theorem flat_size {n : Nat} : ∀ {gs : List Good}, (∀ g ∈ gs, g.days.length = n) → ((gs.map goodRows).flatten).length = gs.length * (n + 1)
  | [], _ => by simp
  | g :: gs, h => by
    rw [List.map_cons, List.flatten_cons, List.length_append, goodRows_len, h g List.mem_cons_self, flat_size fun x hx => h x (List.mem_cons_of_mem _ hx), List.length_cons, Nat.succ_mul]
    omega
theorem bakRows_size {b : Bak} {n : Nat} (h : ∀ g ∈ b.goods, g.days.length = n) : (bakRows b).length = 2 + b.goods.length * (n + 1) := by
  unfold bakRows
  rw [List.length_cons, List.length_cons, flat_size h]
  omega
theorem bakRows_good {b : Bak} {n : Nat} (h : ∀ g ∈ b.goods, g.days.length = n) {j r : Nat} (hj : j < b.goods.length) (hr : r < n + 1) : (bakRows b)[2 + (j * (n + 1) + r)]? = (goodRows b.goods[j])[r]? := by
  unfold bakRows
  rw [show 2 + (j * (n + 1) + r) = (j * (n + 1) + r) + 1 + 1 by omega, List.getElem?_cons_succ, List.getElem?_cons_succ, flat_at h j r hj hr]
theorem WO.sm {o : Option Int} (h : WO o) : SmO o := fun i e => by
  have := h i e
  exact Nat.lt_trans (show i.natAbs < 10000000000 by omega) (by decide)
theorem split_none : Txt.split ("" : Str) " " = [("" : Str)] := by
  have := split_sp (parts := [("" : Str)]) (List.cons_ne_nil _ _) (by decide)
  exact this
theorem call_tupOfK {X : Cx} {K : PySem.W.Frag} (hK : X.K = K) : CallR X (.type "tuple") (rTupOf K) := by
  subst hK
  exact call_tupOf
theorem sum_le_all {l : List Str} {c : Nat} (h : ∀ x ∈ l, x.length ≤ c) : (l.map (·.length)).sum ≤ l.length * c := by
  have := sum_le_len (l := l.map (·.length)) (c := c) fun x hx => by
    obtain ⟨y, hy, rfl⟩ := List.mem_map.mp hx
    exact h y hy
  rw [List.length_map] at this
  exact this
end Bk

namespace Bk
open PySem PySem.Spec PyProof.Rows L2
local macro_rules | `(tactic| walk_at "wp") => `(tactic| try simp only [tNever, tFor_eq, tLc_eq, iList, iTup, iRng1_eq, rRng1_i, iRng2_eq, rRng2_i, iEnum_eq, rEnum_r, iZip_eq, rZip_r, tSl, tPart, tNoPart, rSlL_r, rCat_r, rIn_r, gTup_r, gUnl_r, rInt1_b, rInt1_i, rRep_r, tStep_r, scal, tSeq, tNext, tAsg, tRet, tRetN, tIfS, tDrop, tCB, tCons, tNil, tVar, tOp, tUn, tC, rU_i, rI_ii, rI0_ii, rEq, rNe, tTest, tB, tAnd, tOr, tNot, tAndV, tOrV, tNotV, tIf, tChain, tLst, tTup, tBM, tBM0, rAppend_r, rIxL_r, rIxT_r, rMx_ii, rMn_ii, rLnL_r, rLnT_r, rIsD_int, rIsD_bool, rIsD_list, rIsD_tuple, tCall, gName, gNil_n, gCons_c, cxK, L2.start, List.map, List.replicate, List.length_cons, List.length_nil, List.cons_append, List.nil_append, List.append_nil, List.getElem?_cons_zero, List.getElem?_cons_succ, Option.some.injEq, exists_eq_left', exists_eq_left, V.int.injEq, V.bl.injEq, V.str.injEq, V.ref.injEq, List.cons.injEq, and_true, true_and, and_self, List.set, wipe, rAll_r, rSum_r, reduceCtorEq, decide_true, decide_false, reduceIte, ite_true, ite_false, if_true, if_false, Bool.false_eq_true, Bool.not_true, Bool.not_false])
local macro_rules | `(tactic| walk_at "shaped") => `(tactic| (simp only [SeqAt.shaped, PyData.canLay0, PyData.canLayAll0, PyData.depth, PyData.depthAll]; rfl))
local macro_rules | `(tactic| walk_at "lay") => `(tactic| (simp only [PyData.canLay0, PyData.canLayAll0]; rfl))
def top (i : Nat) : Stmt := PySem.Challenge.pw_bakeahead_k42_ledgers_alike.main.body.getD i (.Pass ⟨0, 0, 0, 0⟩)
structure Bi (mg : Str → Option Value) : Prop where
  len : mg "len" = none
  max : mg "max" = none
  min : mg "min" = none
  range : mg "range" = none
  isinstance : mg "isinstance" = none
  int : mg "int" = none
  bool : mg "bool" = none
  list : mg "list" = none
  tuple : mg "tuple" = none
  all : mg "all" = none
  sum : mg "sum" = none
  repr : mg "repr" = none
  enumerate : mg "enumerate" = none
section
variable {P : Program} {w : World} {K : PySem.W.Frag} {mg : Str → Option Value} {base : Heap}
abbrev s_is_whole : Stmt := top 13
theorem sc_is_whole : FnScope ["thing"] ["thing"] (defScope s_is_whole) := ⟨rfl, rfl, rfl, by decide +kernel, rfl, by decide +kernel, by decide +kernel⟩
def spWhole (K : PySem.W.Frag) : Sp := fun vs H Q _ => ∃ x d, vs = [x] ∧ Th K H x d ∧ Q (.bl (wholeD d)) H
theorem ok_is_whole {f : Addr} {fd : FuncData} {k : Nat} (F : Fun K "is_whole" "is_whole" s_is_whole f fd) (B : Bi mg) : FnOk P w K mg base CX0 (k + 1) f fd ["thing"] (spWhole K) := by
  refine F.ok sc_is_whole (fun vs H Q E h => ?_) (fun cdv A outer s H vs Q E hr h => ?_)
  · obtain ⟨x, d, rfl, _⟩ := h
    rfl
  · obtain ⟨x, d, rfl, hx, q⟩ := h
    refine ⟨_, (pss_one (ps_ret (pe_and (pe_callB (call_isD .int) (by rfl) B.isinstance (by decide +kernel) (pa_cons (pv 0) (pa_cons (pe_bltn (v := .ty "int") (by rfl) B.int (by decide +kernel) rfl) pa_nil))) (pe_one (pe_not (pe_callB (call_isD .bool) (by rfl) B.isinstance (by decide +kernel) (pa_cons (pv 0) (pa_cons (pe_bltn (v := .ty "bool") (by rfl) B.bool (by decide +kernel) rfl) pa_nil)))))))), ?_⟩
    walk_at "wp"
    refine ⟨d, hx, ite2 (fun h => ⟨d, hx, ?_⟩) (fun h => ?_)⟩
    · rw [← wholeD_is, h] at q
      exact q
    · rw [← wholeD_is, Bool.eq_false_iff.mpr h] at q
      exact q
abbrev s_is_number : Stmt := top 14
theorem sc_is_number : FnScope ["thing"] ["thing"] (defScope s_is_number) := ⟨rfl, rfl, rfl, by decide +kernel, rfl, by decide +kernel, by decide +kernel⟩
def spNum (K : PySem.W.Frag) : Sp := fun vs H Q _ => ∃ x d, vs = [x] ∧ Th K H x d ∧ Q (.bl (numD d)) H
theorem ok_is_number {f : Addr} {fd : FuncData} {k : Nat} (F : Fun K "is_number" "is_number" s_is_number f fd) (B : Bi mg) {t : Tok} (M_GREATEST : mg "GREATEST" = some (.int 1000000000 t)) (D_is_whole : Def P w K mg base "is_whole" (k + 1) ["thing"] (spWhole K)) :
    FnOk P w K mg base CX0 (k + 2) f fd ["thing"] (spNum K) := by
  refine F.ok sc_is_number (fun vs H Q E h => ?_) (fun cdv A outer s H vs Q E hr h => ?_)
  · obtain ⟨x, d, rfl, _⟩ := h
    rfl
  · obtain ⟨x, d, rfl, hx, q⟩ := h
    refine ⟨_, (pss_one (ps_ret (pe_and (pe_callD D_is_whole hr (by rfl) (pa_cons (pv 0) pa_nil)) (pe_one (pe_chain op_le op_le pe_int (pv 0) (pe_globI rfl M_GREATEST)))))), ?_⟩
    walk_at "wp"
    refine ⟨x, d, rfl, hx, ?_⟩
    walk_at "wp"
    cases hx with
    | int i =>
      simp only [wholeD]
      walk_at "wp"
      refine ite2 (fun h => ?_) (fun h => ?_)
      · show Q (.bl (decide (i ≤ 1000000000))) H
        simp only [numD, h, Bool.true_and] at q
        exact q
      · simp only [numD, Bool.eq_false_iff.mpr h, Bool.false_and] at q
        exact q
    | _ => exact q

abbrev s_is_tuple_of : Stmt := top 19
theorem sc_is_tuple_of : FnScope ["thing", "many"] ["thing", "many"] (defScope s_is_tuple_of) := ⟨rfl, rfl, rfl, by decide +kernel, rfl, by decide +kernel, by decide +kernel⟩
def spTupleOf (K : PySem.W.Frag) : Sp := fun vs H Q _ => ∃ x d, ∃ n : Nat, vs = [x, .int (n : Int)] ∧ Th K H x d ∧ Q (.bl (tupB n d)) H
theorem ok_is_tuple_of {f : Addr} {fd : FuncData} (F : Fun K "is_tuple_of" "is_tuple_of" s_is_tuple_of f fd) (B : Bi mg) : FnOk P w K mg base CX0 1 f fd ["thing", "many"] (spTupleOf K) := by
  refine F.ok sc_is_tuple_of (fun vs H Q E h => ?_) (fun cdv A outer s H vs Q E hr h => ?_)
  · obtain ⟨x, d, n, rfl, _⟩ := h
    rfl
  · obtain ⟨x, d, n, rfl, hx, q⟩ := h
    refine ⟨_, (pss_one (ps_ret (pe_and (pe_callB (call_isD .tuple) (by rfl) B.isinstance (by decide +kernel) (pa_cons (pv 0) (pa_cons (pe_bltn (v := .ty "tuple") (by rfl) B.tuple (by decide +kernel) rfl) pa_nil))) (pe_one (pe_cmpR op_eq (pe_callB call_lnT (by rfl) B.len (by decide +kernel) (pa_cons (pv 0) pa_nil)) (pv 1) (nomark _)))))), ?_⟩
    walk_at "wp"
    refine ⟨d, hx, ?_⟩
    cases hx with
    | tup ht ha =>
      simp only [isD]
      walk_at "wp"
      refine ⟨_, ht, qb ?_ q⟩
      rw [ha.length]
      exact decide_eq_decide.mpr (by omega)
    | _ => exact q
abbrev s_is_list_of : Stmt := top 20
theorem sc_is_list_of : FnScope ["thing", "fewest", "most"] ["thing", "fewest", "most"] (defScope s_is_list_of) := ⟨rfl, rfl, rfl, by decide +kernel, rfl, by decide +kernel, by decide +kernel⟩
def spListOf (K : PySem.W.Frag) : Sp := fun vs H Q _ => ∃ x d, ∃ n m : Nat, vs = [x, .int (n : Int), .int (m : Int)] ∧ Th K H x d ∧ Q (.bl (listB n m d)) H
theorem ok_is_list_of {f : Addr} {fd : FuncData} (F : Fun K "is_list_of" "is_list_of" s_is_list_of f fd) (B : Bi mg) : FnOk P w K mg base CX0 1 f fd ["thing", "fewest", "most"] (spListOf K) := by
  refine F.ok sc_is_list_of (fun vs H Q E h => ?_) (fun cdv A outer s H vs Q E hr h => ?_)
  · obtain ⟨x, d, n, m, rfl, _⟩ := h
    rfl
  · obtain ⟨x, d, n, m, rfl, hx, q⟩ := h
    refine ⟨_, (pss_one (ps_ret (pe_and (pe_callB (call_isD .list) (by rfl) B.isinstance (by decide +kernel) (pa_cons (pv 0) (pa_cons (pe_bltn (v := .ty "list") (by rfl) B.list (by decide +kernel) rfl) pa_nil))) (pe_one (pe_chain op_le op_le (pv 1) (pe_callB call_lnL (by rfl) B.len (by decide +kernel) (pa_cons (pv 0) pa_nil)) (pv 2)))))), ?_⟩
    walk_at "wp"
    refine ⟨d, hx, ?_⟩
    cases hx with
    | lst ht ha =>
      simp only [isD]
      walk_at "wp"
      refine ⟨_, ht, ?_⟩
      have e1 : ∀ a b : Nat, decide ((a : Int) ≤ (b : Int)) = decide (a ≤ b) := fun a b => decide_eq_decide.mpr (by omega)
      rw [ha.length, e1, e1]
      refine ite2 (fun h => qb ?_ q) (fun h => qb ?_ q)
      · simp only [listB, h, Bool.true_and]
      · simp only [listB, Bool.eq_false_iff.mpr h, Bool.false_and]
    | _ => exact q
abbrev s_are_lights : Stmt := top 21
theorem sc_are_lights : FnScope ["thing", "light"] ["thing"] (defScope s_are_lights) := ⟨rfl, rfl, rfl, by decide +kernel, rfl, by decide +kernel, by decide +kernel⟩
def spPred (K : PySem.W.Frag) (p : PyData → Bool) : Sp := fun vs H Q _ => ∃ x d, vs = [x] ∧ Th K H x d ∧ ∀ H', Same H H' → Q (.bl (p d)) H'
theorem ok_are_lights {f : Addr} {fd : FuncData} (F : Fun K "are_lights" "are_lights" s_are_lights f fd) (B : Bi mg) {t : Tok} (M_MOST_DAYS : mg "MOST_DAYS" = some (.int 40 t)) (D_is_list_of : Def P w K mg base "is_list_of" 1 ["thing", "fewest", "most"] (spListOf K)) (D_is_number : Def P w K mg base "is_number" 2 ["thing"] (spNum K)) :
    FnOk P w K mg base CX0 3 f fd ["thing"] (spPred K lightsB) := by
  refine F.ok sc_are_lights (fun vs H Q E h => ?_) (fun cdv A outer s H vs Q E hr h => ?_)
  · obtain ⟨x, d, rfl, _⟩ := h
    rfl
  · obtain ⟨x, d, rfl, hx, q⟩ := h
    refine ⟨_, (pss_one (ps_ret (pe_and (pe_callD D_is_list_of hr (by rfl) (pa_cons (pv 0) (pa_cons pe_int (pa_cons (pe_globI rfl M_MOST_DAYS) pa_nil)))) (pe_one (pe_callB (cr_all rfl) (by rfl) B.all (by decide +kernel) (pa_cons (pe_lc (own := [("light", 1)]) (g := (gName 1)) rfl sc_are_lights.nd (pi_list (pv 0)) (blkOk_by (own := [("light", 1)]) (N := ["thing", "light"]) (sc := defScope s_are_lights) (by decide +kernel)) (fun _ _ _ _ _ => (pg_name (i := 1) sc_are_lights.nd rfl (Or.inl rfl))) (fun _ _ _ _ _ => pts_nil) (fun _ _ _ _ _ => (pe_callD D_is_number hr (by rfl) (pa_cons (pv 1) pa_nil)))) pa_nil)))))), ?_⟩
    walk_at "wp"
    refine ⟨x, d, 1, 40, rfl, hx, ?_⟩
    walk_at "wp"
    cases hx with
    | lst hs ha =>
      refine ite2 (fun h => ?_) (fun h => ?_)
      · have hl := ha.length
        have h40 : _ ≤ 40 := of_decide_eq_true (Bool.and_eq_true_iff.mp h).2
        walk_at "wp"
        refine ⟨⟨_, hs⟩, fun D hD => ?_⟩
        rename_i ds
        refine LcR.map (walk_list (xs := _)) ((ds.map numD).map V.bl) hD (by rw [List.length_map, List.length_map, hl]) (by omega) (fun H s => s.seq hs) (fun _ _ _ _ y => yat_same y) (fun i x y H0 H1 hi s1 yy hy R hR => ?_) (fun H1 s1 hH => ?_)
        · obtain ⟨rfl, hx⟩ := yy
          obtain ⟨d, hd, hxd⟩ := ha.get hx
          walk_at "wp"
          refine ⟨x, d, rfl, hxd.same s1, ?_⟩
          rw [List.getElem?_map, List.getElem?_map, hd] at hy
          cases hy
          exact hR _ (Same.refl _)
        · refine ⟨ds.map numD, SqL.of hH, qb ?_ (q _ s1)⟩
          simp only [lightsB, h, Bool.true_and, List.all_map]
          rfl
      · exact qb (by simp only [lightsB, Bool.eq_false_iff.mpr h, Bool.false_and]) (q H (Same.refl _))
    | _ => exact q H (Same.refl _)
abbrev s_is_bound : Stmt := top 22
theorem sc_is_bound : FnScope ["thing"] ["thing"] (defScope s_is_bound) := ⟨rfl, rfl, rfl, by decide +kernel, rfl, by decide +kernel, by decide +kernel⟩
theorem ok_is_bound {f : Addr} {fd : FuncData} (F : Fun K "is_bound" "is_bound" s_is_bound f fd) (D_is_number : Def P w K mg base "is_number" 2 ["thing"] (spNum K)) :
    FnOk P w K mg base CX0 3 f fd ["thing"] (spPred K boundB) := by
  refine F.ok sc_is_bound (fun vs H Q E h => ?_) (fun cdv A outer s H vs Q E hr h => ?_)
  · obtain ⟨x, d, rfl, _⟩ := h
    rfl
  · obtain ⟨x, d, rfl, hx, q⟩ := h
    refine ⟨_, (pss_one (ps_ret (pe_or (pe_cmpR op_isN (pv 0) pe_non (nomark _)) (pe_one (pe_and (pe_callD D_is_number hr (by rfl) (pa_cons (pv 0) pa_nil)) (pe_one (pe_cmpR op_ge (pv 0) pe_int (nomark _)))))))), ?_⟩
    have hy := hx
    have q0 := q H (Same.refl _)
    cases hx with
    | non =>
      walk_at "wp"
      exact q0
    | int i =>
      walk_at "wp"
      refine ⟨_, _, rfl, hy, ?_⟩
      walk_at "wp"
      refine ite2 (fun h => qb ?_ q0) (fun h => qb ?_ q0)
      · simp only [boundB, h, Bool.true_and]
      · simp only [boundB, Bool.eq_false_iff.mpr h, Bool.false_and]
    | _ =>
      walk_at "wp"
      refine ⟨_, _, rfl, hy, ?_⟩
      exact ⟨_, rfl, iteF q0⟩
abbrev s_is_life : Stmt := top 23
theorem sc_is_life : FnScope ["thing"] ["thing"] (defScope s_is_life) := ⟨rfl, rfl, rfl, by decide +kernel, rfl, by decide +kernel, by decide +kernel⟩
theorem ok_is_life {f : Addr} {fd : FuncData} (F : Fun K "is_life" "is_life" s_is_life f fd) {t : Tok} (M_LONGEST_LIFE : mg "LONGEST_LIFE" = some (.int 40 t)) (D_is_whole : Def P w K mg base "is_whole" 1 ["thing"] (spWhole K)) :
    FnOk P w K mg base CX0 3 f fd ["thing"] (spPred K lifeB) := by
  refine F.ok sc_is_life (fun vs H Q E h => ?_) (fun cdv A outer s H vs Q E hr h => ?_)
  · obtain ⟨x, d, rfl, _⟩ := h
    rfl
  · obtain ⟨x, d, rfl, hx, q⟩ := h
    refine ⟨_, (pss_one (ps_ret (pe_or (pe_cmpR op_isN (pv 0) pe_non (nomark _)) (pe_one (pe_and (pe_callD D_is_whole hr (by rfl) (pa_cons (pv 0) pa_nil)) (pe_one (pe_chain op_le op_le pe_int (pv 0) (pe_globI rfl M_LONGEST_LIFE)))))))), ?_⟩
    have hy := hx
    have q0 := q H (Same.refl _)
    cases hx with
    | non =>
      walk_at "wp"
      exact q0
    | int i =>
      walk_at "wp"
      refine ⟨_, _, rfl, hy, ?_⟩
      simp only [wholeD]
      walk_at "wp"
      refine ite2 (fun h => qb ?_ q0) (fun h => qb ?_ q0)
      · simp only [lifeB, h, Bool.true_and]
      · simp only [lifeB, Bool.eq_false_iff.mpr h, Bool.false_and]
    | _ =>
      walk_at "wp"
      refine ⟨_, _, rfl, hy, ?_⟩
      exact ⟨_, rfl, iteF q0⟩
abbrev s_is_day : Stmt := top 24
theorem sc_is_day : FnScope ["thing", "want", "loaf", "keep", "fine", "part"] ["thing"] (defScope s_is_day) := ⟨rfl, rfl, rfl, by decide +kernel, rfl, by decide +kernel, by decide +kernel⟩
theorem ok_is_day {f : Addr} {fd : FuncData} (F : Fun K "is_day" "is_day" s_is_day f fd) (B : Bi mg) (D_is_tuple_of : Def P w K mg base "is_tuple_of" 1 ["thing", "many"] (spTupleOf K)) (D_is_number : Def P w K mg base "is_number" 2 ["thing"] (spNum K)) :
    FnOk P w K mg base CX0 3 f fd ["thing"] (spPred K dayB) := by
  refine F.ok sc_is_day (fun vs H Q E h => ?_) (fun cdv A outer s H vs Q E hr h => ?_)
  · obtain ⟨x, d, rfl, _⟩ := h
    rfl
  · obtain ⟨x, d, rfl, hx, q⟩ := h
    refine ⟨_, (pss_cons (ps_if (pt_not (pt_val (pe_callD D_is_tuple_of hr (by rfl) (pa_cons (pv 0) (pa_cons pe_int pa_nil))))) (pss_one (ps_ret pe_bl)) pss_nil)
 (pss_cons (ps_asg (pv 0) (pg_tup rfl (pgs_cons (pg_name (i := 1) sc_is_day.nd rfl (Or.inl rfl)) (pgs_cons (pg_name (i := 2) sc_is_day.nd rfl (Or.inl rfl)) (pgs_cons (pg_name (i := 3) sc_is_day.nd rfl (Or.inl rfl)) (pgs_cons (pg_name (i := 4) sc_is_day.nd rfl (Or.inl rfl)) pgs_nil))))))
 (pss_one (ps_ret (pe_and (pe_callB (cr_all rfl) (by rfl) B.all (by decide +kernel) (pa_cons (pe_lc (own := [("part", 5)]) (g := (gName 5)) rfl sc_is_day.nd (pi_tup (pe_tup (pa_cons (pv 1) (pa_cons (pv 2) (pa_cons (pv 3) pa_nil))))) (blkOk_by (own := [("part", 5)]) (N := ["thing", "want", "loaf", "keep", "fine", "part"]) (sc := defScope s_is_day) (by decide +kernel)) (fun _ _ _ _ _ => (pg_name (i := 5) sc_is_day.nd rfl (Or.inl rfl))) (fun _ _ _ _ _ => pts_nil) (fun _ _ _ _ _ => (pe_callD D_is_number hr (by rfl) (pa_cons (pv 5) pa_nil)))) pa_nil)) (pe_one (pe_or (pe_cmpR op_isN (pv 4) pe_non (nomark _)) (pe_one (pe_callD D_is_number hr (by rfl) (pa_cons (pv 4) pa_nil)))))))))), ?_⟩
    walk_at "wp"
    refine ⟨x, d, 4, rfl, hx, ?_⟩
    walk_at "wp"
    cases hx with
    | tup hs ha =>
      rename_i a xs ds
      refine ite2 (fun h => ?_) (fun h => ?_)
      · refine qb ?_ (q H (Same.refl _))
        have h4 : ¬ ds.length = 4 := of_decide_eq_false (Bool.eq_false_iff.mpr fun z => by rw [show tupB 4 (.tuple ds) = true from z] at h; cases h)
        symm
        match ds, h4 with
        | [], _ => rfl
        | [_], _ => rfl
        | [_, _], _ => rfl
        | [_, _, _], _ => rfl
        | [_, _, _, _], h4 => exact absurd rfl h4
        | _ :: _ :: _ :: _ :: _ :: _, _ => rfl
      · have h4 : ds.length = 4 := of_decide_eq_true (show tupB 4 (.tuple ds) = true by cases e : tupB 4 (.tuple ds) with | true => rfl | false => rw [e] at h; exact absurd rfl h)
        obtain ⟨d1, d2, d3, d4, rfl⟩ := four h4
        cases ha with
        | cons t1 ha => cases ha with
        | cons t2 ha => cases ha with
        | cons t3 ha => cases ha with
        | cons t4 ha =>
        cases ha
        rename_i v1 v2 v3 v4
        walk_at "wp"
        refine ⟨_, hs, rfl, ?_⟩
        walk_at "wp"
        refine ⟨sz100 (by decide), fun p hp => ⟨⟨_, SqT.of upd_same⟩, fun D hD => ?_⟩⟩
        have sp : Same H (upd H p (.tup [v1, v2, v3])) := same_upd hp
        have hT : SqT K (upd H p (.tup [v1, v2, v3])) p [v1, v2, v3] := SqT.of upd_same
        generalize upd H p (.tup [v1, v2, v3]) = Hb at sp hT hD ⊢
        have ta : ThAll K Hb [v1, v2, v3] [d1, d2, d3] := .cons (t1.same sp) (.cons (t2.same sp) (.cons (t3.same sp) .nil))
        refine LcR.map (walk_tup (xs := [v1, v2, v3])) (([d1, d2, d3].map numD).map V.bl) hD rfl (by show 3 ≤ 100000; decide) (fun H s => Same.tup s hT) (fun _ _ _ _ y => yat_same y) (fun i x y H0 H1 hi s1 yy hy R hR => ?_) (fun H1 s1 hH => ?_)
        · obtain ⟨rfl, hx⟩ := yy
          obtain ⟨d, hd, hxd⟩ := ta.get hx
          walk_at "wp"
          refine ⟨x, d, rfl, hxd.same s1, ?_⟩
          rw [List.getElem?_map, List.getElem?_map, hd] at hy
          cases hy
          exact hR _ (Same.refl _)
        · have q1 := q _ (sp.trans s1)
          refine ⟨[d1, d2, d3].map numD, SqL.of hH, ?_⟩
          have e3 : ([d1, d2, d3].map numD).all id = (numD d1 && numD d2 && numD d3) := by
            simp only [List.map, List.all_cons, List.all_nil, id, Bool.and_true, Bool.and_assoc]
          rw [e3]
          refine ite2 (fun h => ?_) (fun h => qb ?_ q1)
          · have t4' := t4.same (sp.trans s1)
            rw [t4'.isNon]
            refine ite2 (fun hn => qb ?_ q1) (fun hn => ⟨_, _, rfl, t4', qb ?_ q1⟩)
            · simp only [dayB, h, hn, Bool.true_or, Bool.true_and]
            · simp only [dayB, h, Bool.eq_false_iff.mpr hn, Bool.false_or, Bool.true_and]
          · simp only [dayB, Bool.eq_false_iff.mpr h, Bool.false_and]
    | _ => exact q H (Same.refl _)
abbrev s_has_bakery_form : Stmt := top 25
theorem sc_has_bakery_form : FnScope ["thing", "lights", "bound", "goods"] ["thing"] (defScope s_has_bakery_form) := ⟨rfl, rfl, rfl, by decide +kernel, rfl, by decide +kernel, by decide +kernel⟩
theorem ok_has_bakery_form {f : Addr} {fd : FuncData} (F : Fun K "has_bakery_form" "has_bakery_form" s_has_bakery_form f fd) (D_is_tuple_of : Def P w K mg base "is_tuple_of" 1 ["thing", "many"] (spTupleOf K)) (D_are_lights : Def P w K mg base "are_lights" 3 ["thing"] (spPred K lightsB))
    (D_is_bound : Def P w K mg base "is_bound" 3 ["thing"] (spPred K boundB)) (D_is_list_of : Def P w K mg base "is_list_of" 1 ["thing", "fewest", "most"] (spListOf K)) {t : Tok} (M_MOST_GOODS : mg "MOST_GOODS" = some (.int 2 t)) :
    FnOk P w K mg base CX0 4 f fd ["thing"] (spPred K bakFormB) := by
  refine F.ok sc_has_bakery_form (fun vs H Q E h => ?_) (fun cdv A outer s H vs Q E hr h => ?_)
  · obtain ⟨x, d, rfl, _⟩ := h
    rfl
  · obtain ⟨x, d, rfl, hx, q⟩ := h
    refine ⟨_, (pss_cons (ps_if (pt_not (pt_val (pe_callD D_is_tuple_of hr (by rfl) (pa_cons (pv 0) (pa_cons pe_int pa_nil))))) (pss_one (ps_ret pe_bl)) pss_nil)
 (pss_cons (ps_asg (pv 0) (pg_tup rfl (pgs_cons (pg_name (i := 1) sc_has_bakery_form.nd rfl (Or.inl rfl)) (pgs_cons (pg_name (i := 2) sc_has_bakery_form.nd rfl (Or.inl rfl)) (pgs_cons (pg_name (i := 3) sc_has_bakery_form.nd rfl (Or.inl rfl)) pgs_nil)))))
 (pss_one (ps_ret (pe_and (pe_callD D_are_lights hr (by rfl) (pa_cons (pv 1) pa_nil)) (pe_and (pe_callD D_is_bound hr (by rfl) (pa_cons (pv 2) pa_nil)) (pe_one (pe_callD D_is_list_of hr (by rfl) (pa_cons (pv 3) (pa_cons pe_int (pa_cons (pe_globI rfl M_MOST_GOODS) pa_nil))))))))))), ?_⟩
    walk_at "wp"
    refine ⟨x, d, 3, rfl, hx, ?_⟩
    walk_at "wp"
    cases hx with
    | tup hs ha =>
      rename_i a xs ds
      refine ite2 (fun h => ?_) (fun h => ?_)
      · refine qb ?_ (q H (Same.refl _))
        have h4 : ¬ ds.length = 3 := of_decide_eq_false (Bool.eq_false_iff.mpr fun z => by rw [show tupB 3 (.tuple ds) = true from z] at h; cases h)
        symm
        match ds, h4 with
        | [], _ => rfl
        | [_], _ => rfl
        | [_, _], _ => rfl
        | [_, _, _], h4 => exact absurd rfl h4
        | _ :: _ :: _ :: _ :: _, _ => rfl
      · have h4 : ds.length = 3 := of_decide_eq_true (show tupB 3 (.tuple ds) = true by cases e : tupB 3 (.tuple ds) with | true => rfl | false => rw [e] at h; exact absurd rfl h)
        obtain ⟨d1, d2, d3, rfl⟩ := three h4
        cases ha with
        | cons t1 ha => cases ha with
        | cons t2 ha => cases ha with
        | cons t3 ha =>
        cases ha
        rename_i v1 v2 v3
        walk_at "wp"
        refine ⟨_, hs, rfl, ?_⟩
        walk_at "wp"
        refine ⟨_, _, rfl, t1, fun H1 s1 => ?_⟩
        walk_at "wp"
        refine ite2 (fun h1 => ⟨_, _, rfl, t2.same s1, fun H2 s2 => ?_⟩) (fun h1 => qb ?_ (q H1 s1))
        · walk_at "wp"
          refine ite2 (fun h2 => ⟨_, _, 1, 2, rfl, t3.same (s1.trans s2), qb ?_ (q H2 (s1.trans s2))⟩) (fun h2 => qb ?_ (q H2 (s1.trans s2)))
          · simp only [bakFormB, h1, h2, Bool.true_and]
          · simp only [bakFormB, h1, Bool.eq_false_iff.mpr h2, Bool.true_and, Bool.false_and]
        · simp only [bakFormB, Bool.eq_false_iff.mpr h1, Bool.false_and]
    | _ => exact q H (Same.refl _)
abbrev s_has_good_form : Stmt := top 26
theorem sc_has_good_form : FnScope ["thing", "many", "days", "life"] ["thing", "many"] (defScope s_has_good_form) := ⟨rfl, rfl, rfl, by decide +kernel, rfl, by decide +kernel, by decide +kernel⟩
def spGoodForm (K : PySem.W.Frag) : Sp := fun vs H Q _ => ∃ x d, ∃ n : Nat, vs = [x, .int (n : Int)] ∧ Th K H x d ∧ ∀ H', Same H H' → Q (.bl (goodFormB n d)) H'
theorem ok_has_good_form {f : Addr} {fd : FuncData} (F : Fun K "has_good_form" "has_good_form" s_has_good_form f fd) (D_is_tuple_of : Def P w K mg base "is_tuple_of" 1 ["thing", "many"] (spTupleOf K)) (D_is_life : Def P w K mg base "is_life" 3 ["thing"] (spPred K lifeB))
    (D_is_list_of : Def P w K mg base "is_list_of" 1 ["thing", "fewest", "most"] (spListOf K)) :
    FnOk P w K mg base CX0 4 f fd ["thing", "many"] (spGoodForm K) := by
  refine F.ok sc_has_good_form (fun vs H Q E h => ?_) (fun cdv A outer s H vs Q E hr h => ?_)
  · obtain ⟨x, d, n, rfl, _⟩ := h
    rfl
  · obtain ⟨x, d, n, rfl, hx, q⟩ := h
    refine ⟨_, (pss_cons (ps_if (pt_not (pt_val (pe_callD D_is_tuple_of hr (by rfl) (pa_cons (pv 0) (pa_cons pe_int pa_nil))))) (pss_one (ps_ret pe_bl)) pss_nil)
 (pss_cons (ps_asg (pv 0) (pg_tup rfl (pgs_cons (pg_name (i := 2) sc_has_good_form.nd rfl (Or.inl rfl)) (pgs_cons (pg_name (i := 3) sc_has_good_form.nd rfl (Or.inl rfl)) pgs_nil))))
 (pss_one (ps_ret (pe_and (pe_callD D_is_list_of hr (by rfl) (pa_cons (pv 2) (pa_cons (pv 1) (pa_cons (pv 1) pa_nil)))) (pe_one (pe_callD D_is_life hr (by rfl) (pa_cons (pv 3) pa_nil)))))))), ?_⟩
    walk_at "wp"
    refine ⟨x, d, 2, rfl, hx, ?_⟩
    walk_at "wp"
    cases hx with
    | tup hs ha =>
      rename_i a xs ds
      refine ite2 (fun h => ?_) (fun h => ?_)
      · refine qb ?_ (q H (Same.refl _))
        have h4 : ¬ ds.length = 2 := of_decide_eq_false (Bool.eq_false_iff.mpr fun z => by rw [show tupB 2 (.tuple ds) = true from z] at h; cases h)
        symm
        match ds, h4 with
        | [], _ => rfl
        | [_], _ => rfl
        | [_, _], h4 => exact absurd rfl h4
        | _ :: _ :: _ :: _, _ => rfl
      · have h4 : ds.length = 2 := of_decide_eq_true (show tupB 2 (.tuple ds) = true by cases e : tupB 2 (.tuple ds) with | true => rfl | false => rw [e] at h; exact absurd rfl h)
        obtain ⟨d1, d2, rfl⟩ := two h4
        cases ha with
        | cons t1 ha => cases ha with
        | cons t2 ha =>
        cases ha
        rename_i v1 v2
        walk_at "wp"
        refine ⟨_, hs, rfl, ?_⟩
        walk_at "wp"
        refine ⟨_, _, n, n, rfl, t1, ?_⟩
        walk_at "wp"
        refine ite2 (fun h1 => ⟨_, _, rfl, t2, fun H2 s2 => qb ?_ (q H2 s2)⟩) (fun h1 => qb ?_ (q H (Same.refl _)))
        · simp only [goodFormB, h1, Bool.true_and]
        · simp only [goodFormB, Bool.eq_false_iff.mpr h1, Bool.false_and]
    | _ => exact q H (Same.refl _)
abbrev s_look_at_goods : Stmt := top 27
theorem sc_look_at_goods : FnScope ["goods", "many", "number", "good", "days", "life", "at", "day"] ["goods", "many"] (defScope s_look_at_goods) := ⟨rfl, rfl, rfl, by decide +kernel, rfl, by decide +kernel, by decide +kernel⟩
def spLookGoods (K : PySem.W.Frag) : Sp := fun vs H Q _ => ∃ x, ∃ n : Nat, ∃ gs, vs = [x, .int (n : Int)] ∧ Th K H x (.list gs) ∧ gs.all (goodB n) = true ∧ ∀ H', Same H H' → Q .non H'
def LgI (x : V) (n : Nat) (H : Hp) (_ : Nat) (σ : L2.St) (H' : Hp) : Prop := (∃ y2 y3 y4 y5 y6 y7, σ = [some x, some (.int (n : Int)), y2, y3, y4, y5, y6, y7]) ∧ Same H H'
def LgJ (x : V) (n : Nat) (v2 v3 v4 v5 : V) (H : Hp) (_ : Nat) (σ : L2.St) (H' : Hp) : Prop := (∃ y6 y7, σ = [some x, some (.int (n : Int)), some v2, some v3, some v4, some v5, y6, y7]) ∧ Same H H'
theorem ok_look_at_goods {f : Addr} {fd : FuncData} (F : Fun K "look_at_goods" "look_at_goods" s_look_at_goods f fd) (B : Bi mg) (D_has_good_form : Def P w K mg base "has_good_form" 4 ["thing", "many"] (spGoodForm K)) (D_is_day : Def P w K mg base "is_day" 3 ["thing"] (spPred K dayB)) :
    FnOk P w K mg base CX0 5 f fd ["goods", "many"] (spLookGoods K) := by
  refine F.ok sc_look_at_goods (fun vs H Q E h => ?_) (fun cdv A outer s H vs Q E hr h => ?_)
  · obtain ⟨x, n, gs, rfl, _⟩ := h
    rfl
  · obtain ⟨x, n, gs, rfl, hx, hg, q⟩ := h
    refine ⟨_, (pss_one (ps_for PassesOwn.never rfl (pi_enum (by rfl) B.enumerate (pa_cons (pv 0) pa_nil)) (pg_tup rfl (pgs_cons (pg_name (i := 2) sc_look_at_goods.nd rfl (Or.inl rfl)) (pgs_cons (pg_name (i := 3) sc_look_at_goods.nd rfl (Or.inl rfl)) pgs_nil))) (pss_cons (ps_if (pt_not (pt_val (pe_callD D_has_good_form hr (by rfl) (pa_cons (pv 3) (pa_cons (pv 1) pa_nil))))) (pss_one ps_never) pss_nil)
 (pss_cons (ps_asg (pv 3) (pg_tup rfl (pgs_cons (pg_name (i := 4) sc_look_at_goods.nd rfl (Or.inl rfl)) (pgs_cons (pg_name (i := 5) sc_look_at_goods.nd rfl (Or.inl rfl)) pgs_nil))))
 (pss_one (ps_for PassesOwn.never rfl (pi_enum (by rfl) B.enumerate (pa_cons (pv 4) pa_nil)) (pg_tup rfl (pgs_cons (pg_name (i := 6) sc_look_at_goods.nd rfl (Or.inl rfl)) (pgs_cons (pg_name (i := 7) sc_look_at_goods.nd rfl (Or.inl rfl)) pgs_nil))) (pss_one (ps_if (pt_not (pt_val (pe_callD D_is_day hr (by rfl) (pa_cons (pv 7) pa_nil)))) (pss_one ps_never) pss_nil)))))))), ?_⟩
    cases hx with
    | lst hs ha =>
    rename_i a xs
    walk_at "wp"
    refine ⟨_, hs, LoopR.by walk_enum (LgI (.ref a) n H) ⟨⟨_, _, _, _, _, _, rfl⟩, Same.refl _⟩ (fun i σ H' _ hI => hI.2.seq hs) (fun i v σ H0 H1 hi hI hY => ?_) (fun σ H' hI => q _ hI.2)⟩
    obtain ⟨⟨y2, y3, y4, y5, y6, y7, rfl⟩, S0⟩ := hI
    have S1 := S0.trans (ypair_same hY)
    obtain ⟨T, z1, z2, rfl, hT, rfl, e1, e2⟩ := hY
    cases e1
    have e2 : xs[i]? = some z2 := e2
    obtain ⟨d, hd, hz⟩ := ha.get e2
    have hdg : goodB n d = true := List.all_eq_true.mp hg d (List.mem_of_getElem? hd)
    obtain ⟨ds, l, rfl, hdl, hlf, hda⟩ := goodB_inv hdg
    walk_at "wp"
    refine ⟨_, SqT.of upd_same, rfl, ?_⟩
    walk_at "wp"
    refine ⟨_, _, n, rfl, hz.same S1, fun H2 S2 => ?_⟩
    rw [show goodFormB n (.tuple [.list ds, l]) = true by simp only [goodFormB, listB, hdl, hlf]; simp]
    walk_at "wp"
    have S3 := S1.trans S2
    have hz3 := hz.same S3
    cases hz3 with
    | tup ht hta =>
    rename_i b ys
    cases hta with
    | cons t1 hta => cases hta with
    | cons t2 hta =>
    cases hta
    rename_i v1 v2
    cases t1 with
    | lst hl1 hl2 =>
    rename_i c zs
    walk_at "wp"
    refine ⟨_, ht, rfl, ?_⟩
    walk_at "wp"
    refine ⟨_, hl1, LoopR.by walk_enum (LgJ (.ref a) n _ _ _ _ H2) ⟨⟨_, _, rfl⟩, Same.refl _⟩ (fun i σ H' _ hI => hI.2.seq hl1) (fun j v σ H4 H5 hj hI hY => ?_) (fun σ H' hI => ?_)⟩
    · obtain ⟨⟨y6, y7, rfl⟩, S4⟩ := hI
      have S5 := S4.trans (ypair_same hY)
      obtain ⟨T2, z3, z4, rfl, hT2, rfl, e3, e4⟩ := hY
      cases e3
      have e4 : zs[j]? = some z4 := e4
      obtain ⟨d2, hd2, hz2⟩ := hl2.get e4
      have hdd : dayB d2 = true := List.all_eq_true.mp hda d2 (List.mem_of_getElem? hd2)
      walk_at "wp"
      refine ⟨_, SqT.of upd_same, rfl, ?_⟩
      walk_at "wp"
      refine ⟨_, _, rfl, hz2.same S5, fun H6 S6 => ?_⟩
      rw [hdd]
      walk_at "wp"
      exact ⟨⟨_, _, rfl⟩, S5.trans S6⟩
    · obtain ⟨⟨y6, y7, rfl⟩, S4⟩ := hI
      exact ⟨⟨_, _, _, _, _, _, rfl⟩, S3.trans S4⟩
abbrev s_look_at_bakery : Stmt := top 28
theorem sc_look_at_bakery : FnScope ["thing", "lights", "bound", "goods"] ["thing"] (defScope s_look_at_bakery) := ⟨rfl, rfl, rfl, by decide +kernel, rfl, by decide +kernel, by decide +kernel⟩
def spLook (K : PySem.W.Frag) : Sp := fun vs H Q _ => ∃ x d, vs = [x] ∧ Th K H x d ∧ bakB d = true ∧ ∀ H', Same H H' → Q .non H'
theorem ok_look_at_bakery {f : Addr} {fd : FuncData} (F : Fun K "look_at_bakery" "look_at_bakery" s_look_at_bakery f fd) (B : Bi mg) (D_has_bakery_form : Def P w K mg base "has_bakery_form" 4 ["thing"] (spPred K bakFormB)) (D_look_at_goods : Def P w K mg base "look_at_goods" 5 ["goods", "many"] (spLookGoods K)) :
    FnOk P w K mg base CX0 6 f fd ["thing"] (spLook K) := by
  refine F.ok sc_look_at_bakery (fun vs H Q E h => ?_) (fun cdv A outer s H vs Q E hr h => ?_)
  · obtain ⟨x, d, rfl, _⟩ := h
    rfl
  · obtain ⟨x, d, rfl, hx, hb, q⟩ := h
    refine ⟨_, (pss_cons (ps_if (pt_not (pt_val (pe_callD D_has_bakery_form hr (by rfl) (pa_cons (pv 0) pa_nil)))) (pss_one ps_never) pss_nil)
 (pss_cons (ps_asg (pv 0) (pg_tup rfl (pgs_cons (pg_name (i := 1) sc_look_at_bakery.nd rfl (Or.inl rfl)) (pgs_cons (pg_name (i := 2) sc_look_at_bakery.nd rfl (Or.inl rfl)) (pgs_cons (pg_name (i := 3) sc_look_at_bakery.nd rfl (Or.inl rfl)) pgs_nil)))))
 (pss_one (ps_expr (pe_callD D_look_at_goods hr (by rfl) (pa_cons (pv 3) (pa_cons (pe_callB call_lnL (by rfl) B.len (by decide +kernel) (pa_cons (pv 1) pa_nil)) pa_nil))))))), ?_⟩
    walk_at "wp"
    refine ⟨_, _, rfl, hx, fun H1 S1 => ?_⟩
    obtain ⟨ls, b, gs, rfl, h1, h2, h3, h4⟩ := bakB_inv hb
    rw [show bakFormB (.tuple [.list ls, b, .list gs]) = true by simp only [bakFormB, h1, h2, h3, Bool.and_self]]
    walk_at "wp"
    have hx1 := hx.same S1
    cases hx1 with
    | tup ht hta =>
    cases hta with
    | cons t1 hta => cases hta with
    | cons t2 hta => cases hta with
    | cons t3 hta =>
    cases hta
    cases t1 with
    | lst hl1 hl2 =>
    walk_at "wp"
    refine ⟨_, ht, rfl, ?_⟩
    walk_at "wp"
    refine ⟨_, hl1, _, ls.length, gs, by rw [hl2.length], t3, h4, fun H2 S2 => q _ (S1.trans S2)⟩
abbrev s_is_place : Stmt := top 31
theorem sc_is_place : FnScope ["thing", "many"] ["thing", "many"] (defScope s_is_place) := ⟨rfl, rfl, rfl, by decide +kernel, rfl, by decide +kernel, by decide +kernel⟩
def spPlace (K : PySem.W.Frag) : Sp := fun vs H Q _ => ∃ i : Int, ∃ n : Nat, vs = [.int i, .int (n : Int)] ∧ Q (.bl (decide (0 ≤ i) && decide (i < (n : Int)))) H
theorem ok_is_place {f : Addr} {fd : FuncData} (F : Fun K "is_place" "is_place" s_is_place f fd) (D_is_whole : Def P w K mg base "is_whole" 1 ["thing"] (spWhole K)) : FnOk P w K mg base CX0 2 f fd ["thing", "many"] (spPlace K) := by
  refine F.ok sc_is_place (fun vs H Q E h => ?_) (fun cdv A outer s H vs Q E hr h => ?_)
  · obtain ⟨i, n, rfl, _⟩ := h
    rfl
  · obtain ⟨i, n, rfl, q⟩ := h
    refine ⟨_, (pss_one (ps_ret (pe_and (pe_callD D_is_whole hr (by rfl) (pa_cons (pv 0) pa_nil)) (pe_one (pe_chain op_le op_lt pe_int (pv 0) (pv 1)))))), ?_⟩
    walk_at "wp"
    refine ⟨_, _, rfl, .int i, ?_⟩
    simp only [wholeD]
    walk_at "wp"
    refine ite2 (fun h => qb ?_ q) (fun h => qb ?_ q)
    · rw [h, Bool.true_and]
    · rw [Bool.eq_false_iff.mpr h, Bool.false_and]
abbrev s_keeps_of : Stmt := top 33
theorem sc_keeps_of : FnScope ["days", "first", "behind", "want", "loaf", "keep", "fine"] ["days", "first", "behind"] (defScope s_keeps_of) := ⟨rfl, rfl, rfl, by decide +kernel, rfl, by decide +kernel, by decide +kernel⟩
def spKeeps (K : PySem.W.Frag) : Sp := fun vs H Q _ => ∃ x ds, ∃ i j : Nat, vs = [x, .int (i : Int), .int (j : Int)] ∧ Th K H x (.list (ds.map dayD)) ∧ ds.length ≤ 1000 ∧ ∀ H', Same H H' → Q (.int (keepsL ds i j)) H'
theorem ok_keeps_of {f : Addr} {fd : FuncData} (F : Fun K "keeps_of" "keeps_of" s_keeps_of f fd) (B : Bi mg) : FnOk P w K mg base CX0 1 f fd ["days", "first", "behind"] (spKeeps K) := by
  refine F.ok sc_keeps_of (fun vs H Q E h => ?_) (fun cdv A outer s H vs Q E hr h => ?_)
  · obtain ⟨x, ds, i, j, rfl, _⟩ := h
    rfl
  · obtain ⟨x, ds, i, j, rfl, hx, hl, q⟩ := h
    refine ⟨_, (pss_one (ps_ret (pe_callB (cr_sum rfl) (by rfl) B.sum (by decide +kernel) (pa_cons (pe_lc (own := [("want", 3), ("loaf", 4), ("keep", 5), ("fine", 6)]) (g := (gTup K 4 (gCons (gName 3) (gCons (gName 4) (gCons (gName 5) (gCons (gName 6) gNil)))))) rfl sc_keeps_of.nd (pi_list (pe_slice sl_list (pv 0) (po_some (pv 1)) (po_some (pv 2)))) (blkOk_by (own := [("want", 3), ("loaf", 4), ("keep", 5), ("fine", 6)]) (N := ["days", "first", "behind", "want", "loaf", "keep", "fine"]) (sc := defScope s_keeps_of) (by decide +kernel)) (fun _ _ _ _ _ => (pg_tup rfl (pgs_cons (pg_name (i := 3) sc_keeps_of.nd rfl (Or.inl rfl)) (pgs_cons (pg_name (i := 4) sc_keeps_of.nd rfl (Or.inl rfl)) (pgs_cons (pg_name (i := 5) sc_keeps_of.nd rfl (Or.inl rfl)) (pgs_cons (pg_name (i := 6) sc_keeps_of.nd rfl (Or.inl rfl)) pgs_nil)))))) (fun _ _ _ _ _ => pts_nil) (fun _ _ _ _ _ => (pv 5))) pa_nil)))), ?_⟩
    cases hx with
    | lst hs ha =>
    rename_i a xs
    walk_at "wp"
    refine ⟨_, hs, fun p hp => ⟨⟨_, SqL.of upd_same⟩, fun D hD => ?_⟩⟩
    rw [cutV_nat] at hD ⊢
    have sp : Same H (upd H p (.lst ((xs.drop i).take (j - i)))) := same_upd hp
    have hL : SqL K (upd H p (.lst ((xs.drop i).take (j - i)))) p ((xs.drop i).take (j - i)) := SqL.of upd_same
    have hb := ((ha.same sp).drop i).take (j - i)
    rw [← List.map_drop, ← List.map_take] at hb
    generalize upd H p (.lst ((xs.drop i).take (j - i))) = Hb at sp hL hD hb ⊢
    generalize hcut : (ds.drop i).take (j - i) = cs at hb
    have hcl : cs.length ≤ 1000 := by
      rw [← hcut, List.length_take, List.length_drop]
      omega
    have hbl := hb.length
    rw [List.length_map] at hbl
    refine LcR.map walk_list (cs.map fun d => V.int d.keep) hD (by rw [List.length_map, hbl]) (by omega) (fun H s => s.seq hL) (fun _ _ _ _ y => yat_same y) (fun i x y H0 H1 hi s1 yy hy R hR => ?_) (fun H1 s1 hH => ?_)
    · obtain ⟨rfl, hx⟩ := yy
      obtain ⟨d, hd, hxd⟩ := hb.get hx
      rw [List.getElem?_map] at hd hy
      cases hc : cs[i]? with
      | none => rw [hc] at hd; cases hd
      | some c =>
        rw [hc] at hd hy
        cases hd
        cases hy
        obtain ⟨t, rfl, ht⟩ := (hxd.same s1).day
        walk_at "wp"
        refine ⟨_, ht, rfl, ?_⟩
        walk_at "wp"
        exact hR _ (Same.refl _)
    · refine ⟨cs.map Day.keep, SqL.of (by rw [List.map_map]; exact hH), ?_⟩
      have q1 := q _ (sp.trans s1)
      unfold keepsL at q1
      rw [hcut] at q1
      exact q1
abbrev s_fines_of : Stmt := top 34
theorem sc_fines_of : FnScope ["days", "first", "behind", "fines", "want", "loaf", "keep", "fine"] ["days", "first", "behind"] (defScope s_fines_of) := ⟨rfl, rfl, rfl, by decide +kernel, rfl, by decide +kernel, by decide +kernel⟩
def spFines (K : PySem.W.Frag) : Sp := fun vs H Q _ => ∃ x ds, ∃ i j : Nat, vs = [x, .int (i : Int), .int (j : Int)] ∧ Th K H x (.list (ds.map dayD)) ∧ ds.length ≤ 1000 ∧ ∀ H', Same H H' → Q (optV (finesL ds i j)) H'
theorem ok_fines_of {f : Addr} {fd : FuncData} (F : Fun K "fines_of" "fines_of" s_fines_of f fd) (B : Bi mg) : FnOk P w K mg base CX0 1 f fd ["days", "first", "behind"] (spFines K) := by
  refine F.ok sc_fines_of (fun vs H Q E h => ?_) (fun cdv A outer s H vs Q E hr h => ?_)
  · obtain ⟨x, ds, i, j, rfl, _⟩ := h
    rfl
  · obtain ⟨x, ds, i, j, rfl, hx, hl, q⟩ := h
    refine ⟨_, (pss_cons (ps_setLc (i := 3) (own := [("want", 4), ("loaf", 5), ("keep", 6), ("fine", 7)]) (g := (gTup K 4 (gCons (gName 4) (gCons (gName 5) (gCons (gName 6) (gCons (gName 7) gNil)))))) rfl sc_fines_of.nd rfl rfl (sw_true rfl rfl rfl (by decide +kernel)) (pi_list (pe_slice sl_list (pv 0) (po_some (pv 1)) (po_some (pv 2)))) (blkOk_by (own := [("want", 4), ("loaf", 5), ("keep", 6), ("fine", 7)]) (N := ["days", "first", "behind", "fines", "want", "loaf", "keep", "fine"]) (sc := defScope s_fines_of) (by decide +kernel)) (fun _ _ _ _ _ => (pg_tup rfl (pgs_cons (pg_name (i := 4) sc_fines_of.nd rfl (Or.inl rfl)) (pgs_cons (pg_name (i := 5) sc_fines_of.nd rfl (Or.inl rfl)) (pgs_cons (pg_name (i := 6) sc_fines_of.nd rfl (Or.inl rfl)) (pgs_cons (pg_name (i := 7) sc_fines_of.nd rfl (Or.inl rfl)) pgs_nil)))))) (fun _ _ _ _ _ => pts_nil) (fun _ _ _ _ _ => (pv 7)))
 (pss_one (ps_ret (pe_ifExp (pt_cmpR op_in_seq pe_non (pv 3) (by rfl)) pe_non (pe_callB (cr_sum rfl) (by rfl) B.sum (by decide +kernel) (pa_cons (pv 3) pa_nil)))))), ?_⟩
    cases hx with
    | lst hs ha =>
    rename_i a xs
    walk_at "wp"
    refine ⟨_, hs, fun p hp => ⟨⟨_, SqL.of upd_same⟩, fun D hD => ?_⟩⟩
    rw [cutV_nat] at hD ⊢
    have sp : Same H (upd H p (.lst ((xs.drop i).take (j - i)))) := same_upd hp
    have hL : SqL K (upd H p (.lst ((xs.drop i).take (j - i)))) p ((xs.drop i).take (j - i)) := SqL.of upd_same
    have hb := ((ha.same sp).drop i).take (j - i)
    rw [← List.map_drop, ← List.map_take] at hb
    generalize upd H p (.lst ((xs.drop i).take (j - i))) = Hb at sp hL hD hb ⊢
    generalize hcut : (ds.drop i).take (j - i) = cs at hb
    have hcl : cs.length ≤ 1000 := by
      rw [← hcut, List.length_take, List.length_drop]
      omega
    have hbl := hb.length
    rw [List.length_map] at hbl
    refine LcR.map walk_list ((cs.map Day.fine).map optV) hD (by rw [List.length_map, List.length_map, hbl]) (by omega) (fun H s => s.seq hL) (fun _ _ _ _ y => yat_same y) (fun i x y H0 H1 hi s1 yy hy R hR => ?_) (fun H1 s1 hH => ?_)
    · obtain ⟨rfl, hx⟩ := yy
      obtain ⟨d, hd, hxd⟩ := hb.get hx
      rw [List.getElem?_map] at hd hy
      rw [List.getElem?_map] at hy
      cases hc : cs[i]? with
      | none => rw [hc] at hd; cases hd
      | some c =>
        rw [hc] at hd hy
        cases hd
        cases hy
        obtain ⟨t, rfl, ht⟩ := (hxd.same s1).day
        walk_at "wp"
        refine ⟨_, ht, rfl, ?_⟩
        walk_at "wp"
        exact hR _ (Same.refl _)
    · have q1 := q _ (sp.trans s1)
      unfold finesL at q1
      rw [hcut] at q1
      refine ⟨_, .inl (SqL.of hH), rfl, flat_opts _, ite2 (fun h => ?_) (fun h => ?_)⟩
      · rw [sumO_none h] at q1
        exact q1
      · obtain ⟨ns, e1, e2⟩ := sumO_some (Bool.eq_false_iff.mpr h)
        rw [e2] at q1
        rw [e1] at hH
        exact ⟨ns, SqL.of hH, q1⟩
abbrev s_loaf_price : Stmt := top 35
theorem sc_loaf_price : FnScope ["good", "baked", "given", "days", "life", "want", "loaf", "keep", "fine", "fines"] ["good", "baked", "given"] (defScope s_loaf_price) := ⟨rfl, rfl, rfl, by decide +kernel, rfl, by decide +kernel, by decide +kernel⟩
def spLoafP (K : PySem.W.Frag) : Sp := fun vs H Q _ => ∃ x g, ∃ j k : Nat, vs = [x, .int (j : Int), .int (k : Int)] ∧ Th K H x (goodD g) ∧ g.days.length ≤ 1000 ∧ j < g.days.length ∧ ∀ H', Same H H' → Q (optV (loafP g j k)) H'
theorem ok_loaf_price {f : Addr} {fd : FuncData} (F : Fun K "loaf_price" "loaf_price" s_loaf_price f fd) (D_fines_of : Def P w K mg base "fines_of" 1 ["days", "first", "behind"] (spFines K)) (D_keeps_of : Def P w K mg base "keeps_of" 1 ["days", "first", "behind"] (spKeeps K)) : FnOk P w K mg base CX0 2 f fd ["good", "baked", "given"] (spLoafP K) := by
  refine F.ok sc_loaf_price (fun vs H Q E h => ?_) (fun cdv A outer s H vs Q E hr h => ?_)
  · obtain ⟨x, g, j, k, rfl, _⟩ := h
    rfl
  · obtain ⟨x, g, j, k, rfl, hx, hl, hj, q⟩ := h
    refine ⟨_, (pss_cons (ps_asg (pv 0) (pg_tup rfl (pgs_cons (pg_name (i := 3) sc_loaf_price.nd rfl (Or.inl rfl)) (pgs_cons (pg_name (i := 4) sc_loaf_price.nd rfl (Or.inl rfl)) pgs_nil))))
 (pss_cons (ps_asg (pe_ix ix_list (pv 3) (pv 1) (fun _ _ => rfl)) (pg_tup rfl (pgs_cons (pg_name (i := 5) sc_loaf_price.nd rfl (Or.inl rfl)) (pgs_cons (pg_name (i := 6) sc_loaf_price.nd rfl (Or.inl rfl)) (pgs_cons (pg_name (i := 7) sc_loaf_price.nd rfl (Or.inl rfl)) (pgs_cons (pg_name (i := 8) sc_loaf_price.nd rfl (Or.inl rfl)) pgs_nil))))))
 (pss_cons (ps_if (pt_cmpR op_gt (pv 1) (pv 2) (nomark _)) (pss_cons (ps_set (i := 9) sc_loaf_price.nd rfl (Or.inl rfl) (pe_callD D_fines_of hr (by rfl) (pa_cons (pv 3) (pa_cons (pv 2) (pa_cons (pv 1) pa_nil)))))
 (pss_one (ps_ret (pe_ifExp (pt_cmpR op_isN (pv 9) pe_non (nomark _)) pe_non (pe_op op_add (pv 6) (pv 9)))))) pss_nil)
 (pss_cons (ps_if (PW.pt (pw_and (pt_cmpR op_notN (pv 4) pe_non (nomark _)) (pw_and1 (pt_cmpR op_gt (pe_op op_sub (pv 2) (pv 1)) (pv 4) (nomark _))))) (pss_one (ps_ret pe_non)) pss_nil)
 (pss_one (ps_ret (pe_op op_add (pv 6) (pe_callD D_keeps_of hr (by rfl) (pa_cons (pv 3) (pa_cons (pv 1) (pa_cons (pv 2) pa_nil))))))))))), ?_⟩
    obtain ⟨t, a, xs, rfl, ht, hs, ha⟩ := hx.good
    have hd : g.days[j]? = some g.days[j] := List.getElem?_eq_getElem hj
    generalize g.days[j] = d at hd
    obtain ⟨v, hv, hvd⟩ := ha.get' (i := j) (d := dayD d) (by rw [List.getElem?_map, hd]; rfl)
    obtain ⟨t2, rfl, ht2⟩ := hvd.day
    walk_at "wp"
    refine ⟨_, ht, rfl, ?_⟩
    walk_at "wp"
    refine ⟨_, _, hs, atI_nat hv, ?_⟩
    walk_at "wp"
    refine ⟨_, ht2, rfl, ?_⟩
    walk_at "wp"
    refine ite2 (fun h => ?_) (fun h => ?_)
    · have hkj : k < j := by have := of_decide_eq_true h; omega
      refine ⟨_, g.days, k, j, rfl, .lst hs ha, hl, fun H1 s1 => ?_⟩
      have q1 := q H1 s1
      simp only [loafP, hd, hkj, if_true] at q1
      cases hf : finesL g.days k j with
      | none =>
        rw [hf] at q1
        simp only [optV]
        walk_at "wp"
        exact q1
      | some z =>
        rw [hf] at q1
        simp only [optV]
        walk_at "wp"
        exact q1
    · have hkj : ¬ k < j := by intro z; exact h (decide_eq_true (by omega))
      have q1 := fun H1 s1 => q H1 s1
      simp only [loafP, hd, hkj, if_false] at q1
      have hkeep : ∀ R : VK, (∀ H1, Same H H1 → R (.int (d.loaf + keepsL g.days j k)) H1) → spKeeps K [V.ref a, V.int (j : Int), V.int (k : Int)] H (fun y H2 => rI0 (fun i j => V.int (i + j)) (V.int d.loaf) y H2 R) E0 := fun R hR =>
        ⟨_, g.days, j, k, rfl, .lst hs ha, hl, fun H1 s1 => ⟨_, _, rfl, rfl, hR H1 s1⟩⟩
      cases hlf : g.life with
      | none =>
        simp only [hlf] at q1
        simp only [optV]
        walk_at "wp"
        exact hkeep Q q1
      | some l =>
        simp only [hlf] at q1
        simp only [optV]
        walk_at "wp"
        refine ite2 (fun h2 => ?_) (fun h2 => ?_)
        · have := q1 H (Same.refl _)
          rw [if_pos (of_decide_eq_true h2)] at this
          exact this
        · refine hkeep Q fun H1 s1 => ?_
          have := q1 H1 s1
          rw [if_neg (fun z => h2 (decide_eq_true z))] at this
          exact this
end
end Bk

namespace Bk
open PySem PySem.Spec PyProof.Rows L2
local macro_rules | `(tactic| walk_at "wp") => `(tactic| try simp only [tNever, tFor_eq, tLc_eq, iList, iTup, iRng1_eq, rRng1_i, iRng2_eq, rRng2_i, iEnum_eq, rEnum_r, iZip_eq, rZip_r, tSl, tPart, tNoPart, rSlL_r, rCat_r, rIn_r, gTup_r, gUnl_r, rInt1_b, rInt1_i, rRep_r, tStep_r, scal, tSeq, tNext, tAsg, tRet, tRetN, tIfS, tDrop, tCB, tCons, tNil, tVar, tOp, tUn, tC, rU_i, rI_ii, rI0_ii, rEq, rNe, tTest, tB, tAnd, tOr, tNot, tAndV, tOrV, tNotV, tIf, tChain, tLst, tTup, tBM, tBM0, rAppend_r, rIxL_r, rIxT_r, rMx_ii, rMn_ii, rLnL_r, rLnT_r, rIsD_int, rIsD_bool, rIsD_list, rIsD_tuple, tCall, gName, gNil_n, gCons_c, cxK, L2.start, List.map, List.replicate, List.length_cons, List.length_nil, List.cons_append, List.nil_append, List.append_nil, List.getElem?_cons_zero, List.getElem?_cons_succ, Option.some.injEq, exists_eq_left', exists_eq_left, V.int.injEq, V.bl.injEq, V.str.injEq, V.ref.injEq, List.cons.injEq, and_true, true_and, and_self, List.set, wipe, rAll_r, rSum_r, reduceCtorEq, decide_true, decide_false, reduceIte, ite_true, ite_false, if_true, if_false, Bool.false_eq_true, Bool.not_true, Bool.not_false])
local macro_rules | `(tactic| walk_at "shaped") => `(tactic| (simp only [SeqAt.shaped, PyData.canLay0, PyData.canLayAll0, PyData.depth, PyData.depthAll]; rfl))
local macro_rules | `(tactic| walk_at "lay") => `(tactic| (simp only [PyData.canLay0, PyData.canLayAll0]; rfl))
section
variable {P : Program} {w : World} {K : PySem.W.Frag} {mg : Str → Option Value} {base : Heap}
abbrev s_numbers : Stmt := top 87
theorem sc_numbers : FnScope ["_law_cell", "_law_salt", "_law_sizes", "_law_amount", "_law_left", "_law_found", "_law_k", "_law_one"] ["_law_cell", "_law_salt", "_law_sizes"] (defScope s_numbers) := ⟨rfl, rfl, rfl, by decide +kernel, rfl, by decide +kernel, by decide +kernel⟩
/-- digits: one below each size -/
def Digs (zs fs : List Int) : Prop := fs.length = zs.length ∧ ∀ (i : Nat) (f z : Int), fs[i]? = some f → zs[i]? = some z → 0 ≤ f ∧ f < z
def spNumbers (K : PySem.W.Frag) : Sp := fun vs H Q _ => ∃ (c s : Int) (a : Addr) (zs : List Int), vs = [.int c, .int s, .ref a] ∧ SqL K H a (zs.map V.int) ∧ 0 ≤ s ∧ s ≤ 1000000 ∧ zs.length ≤ 1000 ∧ (∀ z ∈ zs, 0 < z ∧ z.natAbs < 2 ^ 200) ∧
  ∀ H' p fs, Same H H' → H p = none → Digs zs fs → H' p = some (.lst (fs.map V.int)) → Q (.ref p) H'
def NumI (H : Hp) (c s n : Int) (a p : Addr) (zs : List Int) (i : Nat) (σ : L2.St) (H' : Hp) : Prop := ∃ (l : Int) (fs : List Int) (y6 y7 : Option V), σ = [some (.int c), some (.int s), some (.ref a), some (.int n), some (.int l), some (.ref p), y6, y7] ∧ 0 ≤ l ∧ Same H H' ∧ H' p = some (.lst (fs.map V.int)) ∧ fs.length = i ∧
  ∀ (j : Nat) (f z : Int), fs[j]? = some f → zs[j]? = some z → 0 ≤ f ∧ f < z
theorem NumI.next {H H' : Hp} {c s n l x z : Int} {a p : Addr} {zs fs : List Int} {y6 y7 : Option V} (hp : H p = none) (hl : 0 ≤ l) (sm : Same H H') (hb : ∀ (j : Nat) (f z : Int), fs[j]? = some f → zs[j]? = some z → 0 ≤ f ∧ f < z) (g : zs[fs.length]? = some z) (h0 : 0 ≤ x) (h1 : x < z) :
    NumI H c s n a p zs (fs.length + 1) [some (.int c), some (.int s), some (.ref a), some (.int n), some (.int l), some (.ref p), y6, y7] (upd H' p (.lst (fs.map V.int ++ [.int x]))) := by
  refine ⟨l, fs ++ [x], y6, y7, rfl, hl, same_mut sm hp, by rw [upd_same, List.map_append]; rfl, by rw [List.length_append]; rfl, fun j f w e1 e2 => ?_⟩
  by_cases hj : j < fs.length
  · rw [List.getElem?_append_left hj] at e1
    exact hb j f w e1 e2
  · rw [List.getElem?_append_right (by omega)] at e1
    have ej : j - fs.length = 0 := by
      cases q : j - fs.length with
      | zero => rfl
      | succ m => rw [q] at e1; simp at e1
    have ej2 : j = fs.length := by omega
    subst ej2
    rw [ej] at e1
    have e3 : x = f := Option.some.inj e1
    have e4 : z = w := Option.some.inj (g.symm.trans e2)
    subst e3 e4
    exact ⟨h0, h1⟩
theorem ok_numbers {f : Addr} {fd : FuncData} {k : Nat} (F : Fun K "_law_numbers" "_law_numbers" s_numbers f fd) (B : Bi mg) : FnOk P w K mg base CX0 (k + 1) f fd ["_law_cell", "_law_salt", "_law_sizes"] (spNumbers K) := by
  refine F.ok sc_numbers (fun vs H Q E h => ?_) (fun cdv A outer s H vs Q E hr h => ?_)
  · obtain ⟨c, s, a, zs, rfl, _⟩ := h
    rfl
  · obtain ⟨c, s, a, zs, rfl, hS, hs0, hs1, hlen, hz, q⟩ := h
    refine ⟨_, (pss_cons (ps_set (i := 3) sc_numbers.nd rfl (Or.inl rfl) (pe_callB (call_mx rfl) (by rfl) B.max (by decide +kernel) (pa_cons (pv 0) (pa_cons (pe_op op_sub (pe_un un_neg pe_int) (pv 0)) pa_nil))))
 (pss_cons (ps_set (i := 4) sc_numbers.nd rfl (Or.inl rfl) (pv 3))
 (pss_cons (ps_set (i := 5) sc_numbers.nd rfl (Or.inl rfl) (pe_lst pa_nil))
 (pss_cons (ps_for PassesOwn.never rfl (pi_range1 (by rfl) B.range (pa_cons (pe_callB call_lnL (by rfl) B.len (by decide +kernel) (pa_cons (pv 2) pa_nil)) pa_nil)) (pg_name (i := 6) sc_numbers.nd rfl (Or.inl rfl)) (pss_one (ps_if (PW.pt (pw_and (pt_cmpR op_ge (pv 3) (pe_op op_pow pe_int pe_int) (nomark _)) (pw_and1 (pt_cmpR op_gt (pv 4) pe_int (nomark _))))) (pss_cons (ps_expr (pe_bm PySem.F.plainAttrs_list PySem.F.slot_list_append PySem.F.type_list_append mt_append (pv 5) (pa_cons (pe_op op_mod (pv 4) (pe_ix ix_list (pv 2) (pv 6) (fun _ _ => rfl))) pa_nil)))
 (pss_one (ps_set (i := 4) sc_numbers.nd rfl (Or.inl rfl) (pe_op op_fdivW (pv 4) (pe_ix ix_list (pv 2) (pv 6) (fun _ _ => rfl)))))) (pss_cons (ps_set (i := 7) sc_numbers.nd rfl (Or.inl rfl) (pe_op op_mod (pe_op op_pow (pe_op op_add (pe_op op_add (pe_op op_mod (pv 3) pe_int) (pe_op op_mul pe_int (pv 1))) pe_int) pe_int) pe_int))
 (pss_cons (ps_set (i := 7) sc_numbers.nd rfl (Or.inl rfl) (pe_op op_mod (pe_op op_mul (pe_op op_add (pv 7) (pe_op op_mul pe_int (pe_op op_add (pv 6) pe_int))) (pe_op op_add (pv 6) pe_int)) pe_int))
 (pss_cons (ps_set (i := 7) sc_numbers.nd rfl (Or.inl rfl) (pe_op op_mod (pe_op op_mul (pe_op op_mod (pe_op op_pow (pv 7) pe_int) pe_int) pe_int) pe_int))
 (pss_one (ps_expr (pe_bm PySem.F.plainAttrs_list PySem.F.slot_list_append PySem.F.type_list_append mt_append (pv 5) (pa_cons (pe_op op_mod (pe_op op_fdivW (pv 7) pe_int) (pe_ix ix_list (pv 2) (pv 6) (fun _ _ => rfl))) pa_nil))))))))))
 (pss_one (ps_ret (pv 5))))))), ?_⟩
    walk_at "wp"
    refine ⟨Nat.zero_le _, fun p hp => ?_⟩
    have hn0 : 0 ≤ (if -1 - c > c then -1 - c else c) := by split <;> omega
    generalize (if -1 - c > c then -1 - c else c) = n at hn0 ⊢
    refine ⟨_, hS.upd_ hp, by omega, by rw [List.length_map]; omega, ?_⟩
    rw [show (((zs.map V.int).length : Nat) : Int).toNat = zs.length by rw [List.length_map]; omega]
    refine LoopR.by walk_range (NumI H c s n a p zs) ⟨n, [], none, none, rfl, hn0, same_upd hp, upd_same, rfl, fun j f z e => by simp at e⟩ (fun _ _ _ _ _ => trivial) (fun i v σ H0 H' hi hI hY => ?_) (fun σ H' hI => ?_)
    · obtain ⟨l, fs, y6, y7, e, hl, sm, hf, hfl, hb⟩ := hI
      subst e
      obtain ⟨rfl, rfl⟩ := hY
      have g : zs[i]? = some zs[i] := List.getElem?_eq_getElem hi
      obtain ⟨hz0, hz1⟩ := hz _ (List.getElem_mem hi)
      generalize zs[i] = z at g hz0 hz1
      subst hfl
      have hA : SqL K H' a (zs.map V.int) := sm.seq hS
      have ga : atI (zs.map V.int) (0 + (fs.length : Int)) = some (.int z) := atI_map (by omega) (by rw [show (0 + (fs.length : Int)).toNat = fs.length by omega]; exact g)
      have sz : (fs.map V.int).length < sizeLine := sz100l (by rw [List.length_map]; omega)
      have hz9 : CDivW l z := wide_div hz0 hz1 (by decide) (by decide)
      walk_at "wp"
      refine ⟨⟨by decide, by decide, by decide⟩, ?_⟩
      have hB : ∀ o, SqL K (upd H' p o) a (zs.map V.int) := fun o => (same_mut sm hp).seq hS
      have p2 : NumI H c s n a p zs (fs.length + 1) [some (.int c), some (.int s), some (.ref a), some (.int n), some (.int (l / z)), some (.ref p), some (.int (0 + (fs.length : Int))), y7] (upd H' p (.lst (fs.map V.int ++ [.int (l % z)]))) :=
        NumI.next hp (Int.ediv_nonneg hl (by omega)) sm hb g (Int.emod_nonneg _ (by omega)) (Int.emod_lt_of_pos _ hz0)
      have p1 : ∀ (x : Int) (y7 : Option V), NumI H c s n a p zs (fs.length + 1) [some (.int c), some (.int s), some (.ref a), some (.int n), some (.int l), some (.ref p), some (.int (0 + (fs.length : Int))), y7] (upd H' p (.lst (fs.map V.int ++ [.int (x % z)]))) := fun x y7 =>
        NumI.next hp hl sm hb g (Int.emod_nonneg _ (by omega)) (Int.emod_lt_of_pos _ hz0)
      have m1 : 0 ≤ n % 2147483629 ∧ n % 2147483629 < 2147483629 := ⟨Int.emod_nonneg _ (by decide), Int.emod_lt_of_pos _ (by decide)⟩
      have m2 : ∀ x : Int, 0 ≤ x % 2147483629 ∧ x % 2147483629 < 2147483629 := fun x => ⟨Int.emod_nonneg _ (by decide), Int.emod_lt_of_pos _ (by decide)⟩
      have cp : ∀ x : Int, CPow (x % 2147483629) 5 := fun x => ⟨by decide, by decide, by have := m2 x; omega⟩
      have key : ∀ {R : Prop}, (∀ x : Int, ∃ xs v, SqL K H' a xs ∧ atI xs (0 + (fs.length : Int)) = some v ∧ R) → True := fun _ => trivial
      refine ite2 (fun _ => ite2 (fun _ => ?_) (fun _ => ?_)) (fun _ => ?_)
      · refine ⟨tyL (SqL.of hf), _, _, hA, ga, ?_⟩
        walk_at "wp"
        refine ⟨hz0, _, hf, sz, _, _, hB _, ga, ?_⟩
        walk_at "wp"
        exact ⟨hz9, p2⟩
      all_goals
        refine ⟨by decide, .inl ⟨by decide, by decide⟩, ⟨by decide, by decide, by omega⟩, by decide, .inl ⟨by decide, by decide⟩, .inr ⟨by omega, by omega⟩, by decide, cp _, by decide, .inr ⟨by decide, by decide⟩, by decide, tyL (SqL.of hf), wide_div (b := 10) (by decide) (by decide) (by decide) (by decide), _, _, hA, ga, ?_⟩
        walk_at "wp"
        exact ⟨hz0, _, hf, sz, p1 _ _⟩
    · obtain ⟨l, fs, y6, y7, e, hl, sm, hf, hfl, hb⟩ := hI
      subst e
      exact ⟨_, rfl, q H' p fs sm hp ⟨hfl, hb⟩ hf⟩
abbrev s_cell_at : Stmt := top 86
theorem sc_cell_at : FnScope ["_law_script", "_law_k"] ["_law_script", "_law_k"] (defScope s_cell_at) := ⟨rfl, rfl, rfl, by decide +kernel, rfl, by decide +kernel, by decide +kernel⟩
def spCellAt (K : PySem.W.Frag) : Sp := fun vs H Q _ => ∃ (a : Addr) (ns : List Int) (i : Nat), vs = [.ref a, .int (i : Int)] ∧ SqL K H a (ns.map V.int) ∧ ∀ c : Int, Q (.int c) H
theorem ok_cell_at {f : Addr} {fd : FuncData} (F : Fun K "_law_cell_at" "_law_cell_at" s_cell_at f fd) (B : Bi mg) : FnOk P w K mg base CX0 1 f fd ["_law_script", "_law_k"] (spCellAt K) := by
  refine F.ok sc_cell_at (fun vs H Q E h => ?_) (fun cdv A outer s H vs Q E hr h => ?_)
  · obtain ⟨a, ns, i, rfl, _⟩ := h
    rfl
  · obtain ⟨a, ns, i, rfl, hS, q⟩ := h
    refine ⟨_, (pss_cons (ps_if (pt_cmpR op_lt (pv 1) (pe_callB call_lnL (by rfl) B.len (by decide +kernel) (pa_cons (pv 0) pa_nil)) (nomark _)) (pss_one (ps_ret (pe_ix ix_list (pv 0) (pv 1) (fun _ _ => rfl)))) pss_nil)
 (pss_one (ps_ret pe_int))), ?_⟩
    walk_at "wp"
    refine ⟨_, hS, ite2 (fun h => ?_) (fun h => q _)⟩
    have hi : i < ns.length := by have := of_decide_eq_true h; rw [List.length_map] at this; omega
    exact ⟨_, _, hS, atI_map (by omega) (by rw [Int.toNat_natCast]; exact List.getElem?_eq_getElem hi), q _⟩
abbrev s_day : Stmt := top 88
theorem sc_day : FnScope ["_law_digits", "_law_late", "_law_want", "_law_lamp", "_law_loaf", "_law_keep", "_law_fine", "_law_none", "_law_far"] ["_law_digits", "_law_late"] (defScope s_day) := ⟨rfl, rfl, rfl, by decide +kernel, rfl, by decide +kernel, by decide +kernel⟩
def spDay (K : PySem.W.Frag) : Sp := fun vs H Q _ => ∃ (a : Addr) (fs zs : List Int) (late : Bool), vs = [.ref a, .bl late] ∧ SqL K H a (fs.map V.int) ∧ fs.length = 7 ∧ (∀ f ∈ fs, 0 ≤ f ∧ f ≤ 1000000000) ∧
  ∀ H' p t (d : Day) (l : Int), Same H H' → H p = none → H t = none → H' p = some (.tup [.int l, .ref t]) → H' t = some (.tup [.int d.want, .int d.loaf, .int d.keep, optV d.fine]) → numD (.int l) = true → dayB (dayD d) = true → Q (.ref p) H'
theorem numD_of {i : Int} (h : 0 ≤ i ∧ i ≤ 1000000000) : numD (.int i) = true := by
  simp only [numD, Bool.and_eq_true, decide_eq_true_eq]
  exact h
theorem ok_day {f : Addr} {fd : FuncData} (F : Fun K "_law_day" "_law_day" s_day f fd) (B : Bi mg) : FnOk P w K mg base CX0 1 f fd ["_law_digits", "_law_late"] (spDay K) := by
  refine F.ok sc_day (fun vs H Q E h => ?_) (fun cdv A outer s H vs Q E hr h => ?_)
  · obtain ⟨a, fs, zs, late, rfl, _⟩ := h
    rfl
  · obtain ⟨a, fs, zs, late, rfl, hS, h7, hb, q⟩ := h
    refine ⟨_, (pss_cons (ps_asg (pv 0) (pg_unl rfl (pgs_cons (pg_name (i := 2) sc_day.nd rfl (Or.inl rfl)) (pgs_cons (pg_name (i := 3) sc_day.nd rfl (Or.inl rfl)) (pgs_cons (pg_name (i := 4) sc_day.nd rfl (Or.inl rfl)) (pgs_cons (pg_name (i := 5) sc_day.nd rfl (Or.inl rfl)) (pgs_cons (pg_name (i := 6) sc_day.nd rfl (Or.inl rfl)) (pgs_cons (pg_name (i := 7) sc_day.nd rfl (Or.inl rfl)) (pgs_cons (pg_name (i := 8) sc_day.nd rfl (Or.inl rfl)) pgs_nil)))))))))
 (pss_cons (ps_if (pt_cmpR op_eq (pv 7) pe_int (nomark _)) (pss_one (ps_set (i := 2) sc_day.nd rfl (Or.inl rfl) pe_int)) pss_nil)
 (pss_cons (ps_if (PW.pt (pw_or (pt_cmpR op_lt (pv 8) pe_int (nomark _)) (pw_or1 (pt_not (pt_val (pv 1)))))) (pss_one (ps_set (i := 6) sc_day.nd rfl (Or.inl rfl) pe_non)) pss_nil)
 (pss_one (ps_ret (pe_tup (pa_cons (pv 3) (pa_cons (pe_tup (pa_cons (pv 2) (pa_cons (pv 4) (pa_cons (pv 5) (pa_cons (pv 6) pa_nil))))) pa_nil)))))))), ?_⟩
    obtain ⟨w1, l1, f1, k1, n1, o1, r1, rfl⟩ := seven h7
    have b1 := hb w1 (by simp)
    have b2 := hb l1 (by simp)
    have b3 := hb f1 (by simp)
    have b4 := hb k1 (by simp)
    have b5 := hb n1 (by simp)
    have fin : ∀ (w2 : Int) (o : Option Int), (w2 = w1 ∨ w2 = 0) → (o = some n1 ∨ o = none) → 0 + 1 + 1 + 1 + 1 ≤ sizeLine ∧ ∀ p, H p = none → 0 + 1 + 1 ≤ sizeLine ∧ ∀ p2, upd H p (.tup [.int w2, .int f1, .int k1, optV o]) p2 = none → Q (.ref p2) (upd (upd H p (.tup [.int w2, .int f1, .int k1, optV o])) p2 (.tup [.int l1, .ref p])) := by
      intro w2 o hw ho
      refine ⟨sz100 (by decide), fun p hp => ⟨sz100 (by decide), fun p2 hp2 => ?_⟩⟩
      have s2 := same_upd (o := .tup [.int l1, .ref p]) hp2
      refine q _ p2 p ⟨w2, f1, k1, o⟩ l1 ((same_upd hp).trans s2) ((same_upd hp).free hp2) hp upd_same (s2 _ _ upd_same) (numD_of b2) ?_
      have e1 : numD (.int w2) = true := by
        rcases hw with e | e
        · rw [e]
          exact numD_of b1
        · rw [e]
          rfl
      have e2 : (noneB (optD o) || numD (optD o)) = true := by
        rcases ho with e | e
        · rw [e]
          show (false || numD (.int n1)) = true
          rw [numD_of b5]
          rfl
        · rw [e]
          rfl
      simp only [dayD, dayB, e1, e2, numD_of b3, numD_of b4, Bool.and_self]
    walk_at "wp"
    refine ⟨_, hS, rfl, ?_⟩
    walk_at "wp"
    have l0 : ∀ (w2 : Int), (w2 = w1 ∨ w2 = 0) → _ := fun w2 hw => fin w2 none hw (.inr rfl)
    have l1' : ∀ (w2 : Int), (w2 = w1 ∨ w2 = 0) → _ := fun w2 hw => fin w2 (some n1) hw (.inl rfl)
    exact ite2 (fun _ => ite2 (fun _ => l0 0 (.inr rfl)) (fun _ => ite2 (fun _ => l0 0 (.inr rfl)) (fun _ => l1' 0 (.inr rfl)))) (fun _ => ite2 (fun _ => l0 w1 (.inl rfl)) (fun _ => ite2 (fun _ => l0 w1 (.inl rfl)) (fun _ => l1' w1 (.inl rfl))))
end
end Bk

namespace Bk
open PySem PySem.Spec PyProof.Rows L2
local macro_rules | `(tactic| walk_at "wp") => `(tactic| try simp only [tNever, tFor_eq, tLc_eq, iList, iTup, iRng1_eq, rRng1_i, iRng2_eq, rRng2_i, iEnum_eq, rEnum_r, iZip_eq, rZip_r, tSl, tPart, tNoPart, rSlL_r, rCat_r, rIn_r, gTup_r, gUnl_r, rInt1_b, rInt1_i, rRep_r, tStep_r, scal, tSeq, tNext, tAsg, tRet, tRetN, tIfS, tDrop, tCB, tCons, tNil, tVar, tOp, tUn, tC, rU_i, rI_ii, rI0_ii, rEq, rNe, tTest, tB, tAnd, tOr, tNot, tAndV, tOrV, tNotV, tIf, tChain, tLst, tTup, tBM, tBM0, rAppend_r, rIxL_r, rIxT_r, rMx_ii, rMn_ii, rLnL_r, rLnT_r, rIsD_int, rIsD_bool, rIsD_list, rIsD_tuple, tCall, gName, gNil_n, gCons_c, cxK, L2.start, List.map, List.replicate, List.length_cons, List.length_nil, List.cons_append, List.nil_append, List.append_nil, List.getElem?_cons_zero, List.getElem?_cons_succ, Option.some.injEq, exists_eq_left', exists_eq_left, V.int.injEq, V.bl.injEq, V.str.injEq, V.ref.injEq, List.cons.injEq, and_true, true_and, and_self, List.set, wipe, rAll_r, rSum_r, reduceCtorEq, decide_true, decide_false, reduceIte, ite_true, ite_false, if_true, if_false, Bool.false_eq_true, Bool.not_true, Bool.not_false])
local macro_rules | `(tactic| walk_at "shaped") => `(tactic| (simp only [SeqAt.shaped, PyData.canLay0, PyData.canLayAll0, PyData.depth, PyData.depthAll]; rfl))
local macro_rules | `(tactic| walk_at "lay") => `(tactic| (simp only [PyData.canLay0, PyData.canLayAll0]; rfl))
section
variable {P : Program} {w : World} {K : PySem.W.Frag} {mg : Str → Option Value} {base : Heap}
abbrev s_days : Stmt := top 89
theorem sc_days : FnScope ["_law_script", "_law_first", "_law_upto", "_law_salt", "_law_late", "_law_wide", "_law_sizes", "_law_lights", "_law_days_here", "_law_k", "_law_lamp", "_law_place"] ["_law_script", "_law_first", "_law_upto", "_law_salt", "_law_late"] (defScope s_days) := ⟨rfl, rfl, rfl, by decide +kernel, rfl, by decide +kernel, by decide +kernel⟩
def spDays42 (K : PySem.W.Frag) : Sp := fun vs H Q _ => ∃ (a : Addr) (ns : List Int) (u : Nat) (s : Int) (late : Bool), vs = [.ref a, .int 1, .int (u : Int), .int s, .bl late] ∧ SqL K H a (ns.map V.int) ∧ ns.length ≤ 63 ∧ u ≤ 41 ∧ 0 ≤ s ∧ s ≤ 10000 ∧
  ∀ (H' : Hp) (p L D : Addr) (ls : List Int) (ds : List Day) (xs : List V), Same H H' → H' p = some (.tup [.ref L, .ref D]) → H L = none → H D = none → H' L = some (.lst (ls.map V.int)) → H' D = some (.lst xs) → TkAll (newOf H H') xs (ds.map dayD) → ls.length = nDays u ns.length → ds.length = ls.length → (∀ z ∈ ls, numD (.int z) = true) → (∀ z ∈ ds, dayB (dayD z) = true) → Q (.ref p) H'
structure DaysI (K : PySem.W.Frag) (H H0 : Hp) (a sz L D : Addr) (u : Nat) (s : Int) (late wide : Bool) (i : Nat) (σ : L2.St) (H' : Hp) : Prop where
  ex : ∃ (ls : List Int) (ds : List Day) (xs : List V) (y9 y10 y11 : Option V), σ = [some (.ref a), some (.int 1), some (.int (u : Int)), some (.int s), some (.bl late), some (.bl wide), some (.ref sz), some (.ref L), some (.ref D), y9, y10, y11] ∧
    Same H0 H' ∧ H' L = some (.lst (ls.map V.int)) ∧ H' D = some (.lst xs) ∧ TkAll (newBut H L D H') xs (ds.map dayD) ∧ ls.length = i ∧ ds.length = i ∧ (∀ z ∈ ls, numD (.int z) = true) ∧ (∀ z ∈ ds, dayB (dayD z) = true)
theorem ok_days {f : Addr} {fd : FuncData} (F : Fun K "_law_days" "_law_days" s_days f fd) (B : Bi mg) (D_numbers : Def P w K mg base "_law_numbers" 1 ["_law_cell", "_law_salt", "_law_sizes"] (spNumbers K)) (D_cell_at : Def P w K mg base "_law_cell_at" 1 ["_law_script", "_law_k"] (spCellAt K)) (D_day : Def P w K mg base "_law_day" 1 ["_law_digits", "_law_late"] (spDay K)) :
    FnOk P w K mg base CX0 2 f fd ["_law_script", "_law_first", "_law_upto", "_law_salt", "_law_late"] (spDays42 K) := by
  refine F.ok sc_days (fun vs H Q E h => ?_) (fun cdv A outer s H vs Q E hr h => ?_)
  · obtain ⟨a, ns, u, s, late, rfl, _⟩ := h
    rfl
  · obtain ⟨a, ns, u, s, late, rfl, hS, hn, hu, hs0, hs1, q⟩ := h
    refine ⟨_, (pss_cons (ps_set (i := 5) sc_days.nd rfl (Or.inl rfl) (pe_cmpR op_eq (pe_ix ix_list (pe_callD D_numbers hr (by rfl) (pa_cons (pe_callD D_cell_at hr (by rfl) (pa_cons (pv 0) (pa_cons pe_int pa_nil))) (pa_cons (pv 3) (pa_cons (pe_lst (pa_cons pe_int pa_nil)) pa_nil)))) pe_int (fun _ _ => rfl)) pe_int (nomark _)))
 (pss_cons (ps_set (i := 6) sc_days.nd rfl (Or.inl rfl) (pe_op op_cat (pe_ix ix_list (pe_lst (pa_cons (pe_lst (pa_cons pe_int (pa_cons pe_int (pa_cons pe_int (pa_cons pe_int (pa_cons pe_int pa_nil)))))) (pa_cons (pe_op op_rep (pe_lst (pa_cons (pe_op op_add (pe_op op_pow pe_int pe_int) pe_int) pa_nil)) pe_int) pa_nil))) (pe_callTy call_in1 (by rfl) B.int (by decide +kernel) (pa_cons (pv 5) pa_nil)) (fun _ _ => rfl)) (pe_lst (pa_cons pe_int (pa_cons pe_int pa_nil)))))
 (pss_cons (ps_set (i := 7) sc_days.nd rfl (Or.inl rfl) (pe_lst pa_nil))
 (pss_cons (ps_set (i := 8) sc_days.nd rfl (Or.inl rfl) (pe_lst pa_nil))
 (pss_cons (ps_for PassesOwn.never rfl (pi_range2 (by rfl) B.range (pa_cons (pv 1) (pa_cons (pe_callB (call_mx rfl) (by rfl) B.max (by decide +kernel) (pa_cons (pe_op op_add (pv 1) pe_int) (pa_cons (pe_callB (call_mn rfl) (by rfl) B.min (by decide +kernel) (pa_cons (pv 2) (pa_cons (pe_callB call_lnL (by rfl) B.len (by decide +kernel) (pa_cons (pv 0) pa_nil)) pa_nil))) pa_nil))) pa_nil))) (pg_name (i := 9) sc_days.nd rfl (Or.inl rfl)) (pss_cons (ps_asg (pe_callD D_day hr (by rfl) (pa_cons (pe_callD D_numbers hr (by rfl) (pa_cons (pe_callD D_cell_at hr (by rfl) (pa_cons (pv 0) (pa_cons (pv 9) pa_nil))) (pa_cons (pe_op op_add (pv 3) (pv 9)) (pa_cons (pv 6) pa_nil)))) (pa_cons (pv 4) pa_nil))) (pg_tup rfl (pgs_cons (pg_name (i := 10) sc_days.nd rfl (Or.inl rfl)) (pgs_cons (pg_name (i := 11) sc_days.nd rfl (Or.inl rfl)) pgs_nil))))
 (pss_cons (ps_expr (pe_bm PySem.F.plainAttrs_list PySem.F.slot_list_append PySem.F.type_list_append mt_append (pv 7) (pa_cons (pv 10) pa_nil)))
 (pss_one (ps_expr (pe_bm PySem.F.plainAttrs_list PySem.F.slot_list_append PySem.F.type_list_append mt_append (pv 8) (pa_cons (pv 11) pa_nil)))))))
 (pss_one (ps_ret (pe_tup (pa_cons (pv 7) (pa_cons (pv 8) pa_nil)))))))))), ?_⟩
    walk_at "wp"
    refine ⟨a, ns, 0, rfl, hS, fun c => ⟨sz100 (by decide), fun p1 h1 => ?_⟩⟩
    refine ⟨c, s, p1, [3], rfl, SqL.of upd_same, hs0, by omega, by decide, by decide, fun H1 pd fs S1 hpd hD hfs => ?_⟩
    have S1 := (same_upd h1).trans S1
    obtain ⟨f0, rfl⟩ : ∃ f0, fs = [f0] := by
      have hl := hD.1
      match fs, hl with
      | [y], _ => exact ⟨y, rfl⟩
    clear hD h1 hpd
    walk_at "wp"
    refine ⟨_, _, SqL.of hfs, atI_nat (j := 0) rfl, ?_⟩
    walk_at "wp"
    obtain ⟨wide, hwide⟩ : ∃ wide, decide (f0 = 0) = wide := ⟨_, rfl⟩
    rw [hwide]
    clear hfs
    refine ⟨sz100 (by decide), fun p2 h2 => ⟨⟨by decide, by decide, by decide⟩, sz100 (by decide), fun p3 h3 => ?_⟩⟩
    have S2 := same_upd (o := .lst [V.int 5, V.int 13, V.int 6, V.int 4, V.int 4]) h2
    have E2 : upd H1 p2 (.lst [V.int 5, V.int 13, V.int 6, V.int 4, V.int 4]) p2 = some (.lst ([5, 13, 6, 4, 4].map V.int)) := upd_same
    generalize upd H1 p2 (.lst [V.int 5, V.int 13, V.int 6, V.int 4, V.int 4]) = H2 at S2 E2 h3 ⊢
    have S3 := same_upd (o := .lst [V.int (10 ^ Int.toNat 9 + 1)]) h3
    have E3 : upd H2 p3 (.lst [V.int (10 ^ Int.toNat 9 + 1)]) p3 = some (.lst [V.int (10 ^ Int.toNat 9 + 1)]) := upd_same
    generalize upd H2 p3 (.lst [V.int (10 ^ Int.toNat 9 + 1)]) = H3 at S3 E3 ⊢
    refine ⟨_, E3, by decide, by decide, sz100 (by show 1 * 5 ≤ 100000; decide), fun p4 h4 => ⟨sz100 (by decide), fun p5 h5 => ?_⟩⟩
    have S4 := same_upd (o := .lst (List.replicate (Int.toNat 5) [V.int (10 ^ Int.toNat 9 + 1)]).flatten) h4
    have E4 : upd H3 p4 (.lst (List.replicate (Int.toNat 5) [V.int (10 ^ Int.toNat 9 + 1)]).flatten) p4 = some (.lst ([1000000001, 1000000001, 1000000001, 1000000001, 1000000001].map V.int)) := upd_same
    generalize upd H3 p4 (.lst (List.replicate (Int.toNat 5) [V.int (10 ^ Int.toNat 9 + 1)]).flatten) = H4 at S4 E4 h5 ⊢
    have S5 := same_upd (o := .lst [V.ref p2, V.ref p4]) h5
    have E5 : upd H4 p5 (.lst [V.ref p2, V.ref p4]) p5 = some (.lst [V.ref p2, V.ref p4]) := upd_same
    generalize upd H4 p5 (.lst [V.ref p2, V.ref p4]) = H5 at S5 E5 ⊢
    have hpick : ∃ (pz : Addr) (z5 : List Int), atI [V.ref p2, V.ref p4] (if wide = true then 1 else 0) = some (V.ref pz) ∧ H5 pz = some (.lst (z5.map V.int)) ∧ z5.length = 5 ∧ ∀ z ∈ z5, 0 < z ∧ z ≤ 1000000001 := by
      cases wide with
      | false => exact ⟨p2, _, rfl, (S3.trans (S4.trans S5)) _ _ E2, rfl, by decide⟩
      | true => exact ⟨p4, _, rfl, S5 _ _ E4, rfl, by decide⟩
    obtain ⟨pz, z5, hz1, hz2, hz3, hz4⟩ := hpick
    refine ⟨_, _, SqL.of E5, hz1, sz100 (by decide), fun p6 h6 => ?_⟩
    have S6 := same_upd (o := .lst [V.int 4, V.int 5]) h6
    have E6 : upd H5 p6 (.lst [V.int 4, V.int 5]) p6 = some (.lst [V.int 4, V.int 5]) := upd_same
    generalize upd H5 p6 (.lst [V.int 4, V.int 5]) = H6 at S6 E6 ⊢
    walk_at "wp"
    refine ⟨_, _, S6 _ _ hz2, E6, sz100 (by rw [List.length_map, hz3]; decide), fun p7 h7 => ?_⟩
    have S7 := same_upd (o := .lst (z5.map V.int ++ [V.int 4, V.int 5])) h7
    have E7 : upd H6 p7 (.lst (z5.map V.int ++ [V.int 4, V.int 5])) p7 = some (.lst ((z5 ++ [4, 5]).map V.int)) := by rw [upd_same, List.map_append]; rfl
    generalize upd H6 p7 (.lst (z5.map V.int ++ [V.int 4, V.int 5])) = H7 at S7 E7 ⊢
    have hz5 : ∀ z ∈ z5 ++ [4, 5], 0 < z ∧ z ≤ 1000000001 := by
      intro z hz
      rcases List.mem_append.mp hz with h | h
      · exact hz4 z h
      · have : z = 4 ∨ z = 5 := by simpa using h
        omega
    have hz6 : (z5 ++ [4, 5]).length = 7 := by rw [List.length_append, hz3]; rfl
    generalize z5 ++ [4, 5] = szs at E7 hz5 hz6
    have SA : Same H H7 := S1.trans (S2.trans (S3.trans (S4.trans (S5.trans (S6.trans S7)))))
    have SF : Same H1 H7 := S2.trans (S3.trans (S4.trans (S5.trans (S6.trans S7))))
    clear S2 S3 S4 S5 S6 S7 E2 E3 E4 E5 E6 hz1 hz2 hz3 hz4 h2 h3 h4 h5 h6 h7
    refine ⟨Nat.zero_le _, fun L hL => ⟨Nat.zero_le _, fun D hD => ?_⟩⟩
    have hLD : L ≠ D := fun z => by rw [z, upd_same] at hD; cases hD
    have hD0 : H7 D = none := (same_upd hL).free hD
    have SB : Same H7 (upd (upd H7 L (.lst [])) D (.lst [])) := (same_upd hL).trans (same_upd hD)
    have EL : upd (upd H7 L (.lst [])) D (.lst []) L = some (.lst []) := by rw [upd_ne hLD, upd_same]
    have ED : upd (upd H7 L (.lst [])) D (.lst []) D = some (.lst []) := upd_same
    generalize upd (upd H7 L (.lst [])) D (.lst []) = H8 at SB EL ED ⊢
    refine ⟨_, (SA.trans SB).seq hS, ⟨by decide, by decide, by omega, ?_⟩, ?_⟩
    · rw [List.length_map]
      split <;> split <;> omega
    · rw [List.length_map, show ((if (if (ns.length : Int) < (u : Int) then (ns.length : Int) else (u : Int)) > 1 + 1 then (if (ns.length : Int) < (u : Int) then (ns.length : Int) else (u : Int)) else 1 + 1) - 1).toNat = nDays u ns.length by unfold nDays; split <;> split <;> omega]
      refine LoopR.by walk_range (DaysI K H H7 a p7 L D u s late wide) ⟨⟨[], [], [], none, none, none, rfl, SB, EL, ED, .nil, rfl, rfl, (by intro _ h; cases h), (by intro _ h; cases h)⟩⟩ (fun _ _ _ _ _ => trivial) (fun i v σ H0 H' hi hI hY => ?_) (fun σ H' hI => ?_)
      · obtain ⟨rfl, rfl⟩ := hY
        obtain ⟨ls, ds, xs, y9, y10, y11, rfl, S9, E9, E10, hT, hll, hdl, hlb, hdb⟩ := hI.ex
        have hi40 : (i : Int) < 41 := by unfold nDays at hi; omega
        walk_at "wp"
        refine ⟨a, ns, 1 + i, congrArg (fun z => [V.ref a, V.int z]) (by omega), (SA.trans S9).seq hS, fun c => ?_⟩
        refine ⟨c, s + (1 + (i : Int)), p7, szs, rfl, S9.seq (SqL.of E7), by omega, by omega, by omega, fun z hz => ⟨(hz5 z hz).1, ?_⟩, fun H9 pe fs T1 hpe hDg hfs => ?_⟩
        · have := hz5 z hz
          exact Nat.lt_of_le_of_lt (show z.natAbs ≤ 1000000001 by omega) (by decide)
        walk_at "wp"
        refine ⟨pe, fs, [], late, rfl, SqL.of hfs, hDg.1.trans hz6, fun f hf => ?_, fun HA p t d l T2 hp ht Ep Et hl hd => ?_⟩
        · obtain ⟨j, hj, e⟩ := List.getElem_of_mem hf
          have h1 : j < szs.length := by rw [← hDg.1]; exact hj
          have h2 := hDg.2 j f szs[j] (by rw [List.getElem?_eq_getElem hj, e]) (List.getElem?_eq_getElem h1)
          have h3 := hz5 _ (List.getElem_mem h1)
          omega
        have T3 := T1.trans T2
        have EL2 := T3 _ _ E9
        have ED2 := T3 _ _ E10
        walk_at "wp"
        refine ⟨_, SqT.of Ep, rfl, ?_⟩
        walk_at "wp"
        have ED3 : upd HA L (.lst (ls.map V.int ++ [V.int l])) D = some (.lst xs) := by rw [upd_ne hLD.symm]; exact ED2
        have szl : (ls.map V.int).length < sizeLine := sz100l (by rw [List.length_map, hll]; omega)
        have szd : xs.length < sizeLine := sz100l (by rw [hT.length, List.length_map, hdl]; omega)
        refine ⟨tyL (SqL.of EL2), _, EL2, szl, tyL (SqL.of ED3), _, ED3, szd, ⟨ls ++ [l], ds ++ [d], _, _, _, _, rfl, ?_, ?_, upd_same, ?_, ?_, ?_, ?_, ?_⟩⟩
        · exact same_mut (same_mut (S9.trans T3) hL) hD0
        · rw [upd_ne hLD, upd_same, List.map_append]
          rfl
        · have htL : t ≠ L := ne_of Et EL2 (by intro z; cases z)
          have htD : t ≠ D := ne_of Et ED2 (by intro z; cases z)
          have hnt : H t = none := ((SA.trans S9).trans T1).free ht
          rw [List.map_append]
          refine (hT.same (newBut_mono fun b o h1 h2 e => ?_)).append (.cons ?_ .nil)
          · rw [upd_ne h2, upd_ne h1]
            exact T3 _ _ e
          · have e : newBut H L D (upd (upd HA L (.lst (ls.map V.int ++ [V.int l]))) D (.lst (xs ++ [V.ref t]))) t = some (.tup [.int d.want, .int d.loaf, .int d.keep, optV d.fine]) := newBut_at hnt htL htD (by rw [upd_ne htD, upd_ne htL]; exact Et)
            exact .tup e (.cons (.int _) (.cons (.int _) (.cons (.int _) (.cons (Tk.optV _) .nil))))
        · rw [List.length_append, hll]
          rfl
        · rw [List.length_append, hdl]
          rfl
        · intro z hz
          rcases List.mem_append.mp hz with h | h
          · exact hlb z h
          · rw [List.mem_singleton.mp h]
            exact hl
        · intro z hz
          rcases List.mem_append.mp hz with h | h
          · exact hdb z h
          · rw [List.mem_singleton.mp h]
            exact hd
      · obtain ⟨ls, ds, xs, y9, y10, y11, rfl, S9, E9, E10, hT, hll, hdl, hlb, hdb⟩ := hI.ex
        walk_at "wp"
        refine ⟨sz100 (by decide), fun p3 h3 => ?_⟩
        have S3 := same_upd (o := .tup [V.ref L, V.ref D]) h3
        refine q _ p3 L D ls ds xs (SA.trans (S9.trans S3)) upd_same (SA.free hL) (SA.free hD0) (S3 _ _ E9) (S3 _ _ E10) (hT.same ((newBut_same _ _ _ _).trans (newOf_mono S3))) hll (by omega) hlb hdb
abbrev s_bakery : Stmt := top 90
theorem sc_bakery : FnScope ["_law_script", "_law_upto", "_law_salt", "_law_head", "_law_lights", "_law_days_here"] ["_law_script", "_law_upto", "_law_salt"] (defScope s_bakery) := ⟨rfl, rfl, rfl, by decide +kernel, rfl, by decide +kernel, by decide +kernel⟩
def spBakery (K : PySem.W.Frag) : Sp := fun vs H Q _ => ∃ (a : Addr) (ns : List Int) (u : Nat) (s : Int), vs = [.ref a, .int (u : Int), .int s] ∧ SqL K H a (ns.map V.int) ∧ ns.length ≤ 63 ∧ u ≤ 41 ∧ 0 ≤ s ∧ s ≤ 10000 ∧
  ∀ (H' : Hp) (x : V) (ls : List Int) (g : Good), Same H H' → Tk (newOf H H') x (bakD ⟨ls, none, [g]⟩) → bakB (bakD ⟨ls, none, [g]⟩) = true → ls.length = nDays u ns.length → Q x H'
def livesO : List (Option Int) := [none, none, some 0, some 1, some 2, some 3, some 40]
theorem lives_at {i : Int} (h0 : 0 ≤ i) (h1 : i < 7) : ∃ o, atI (livesO.map optV) i = some (optV o) ∧ lifeB (optD o) = true := by
  have hi : i.toNat < livesO.length := by
    show i.toNat < 7
    omega
  refine ⟨livesO[i.toNat], atI_of h0 (by rw [List.getElem?_map, List.getElem?_eq_getElem hi]; rfl), ?_⟩
  have : ∀ o ∈ livesO, lifeB (optD o) = true := by decide
  exact this _ (List.getElem_mem hi)
theorem ok_bakery {f : Addr} {fd : FuncData} (F : Fun K "_law_bakery" "_law_bakery" s_bakery f fd) (B : Bi mg) (D_numbers : Def P w K mg base "_law_numbers" 1 ["_law_cell", "_law_salt", "_law_sizes"] (spNumbers K)) (D_cell_at : Def P w K mg base "_law_cell_at" 1 ["_law_script", "_law_k"] (spCellAt K)) (D_days : Def P w K mg base "_law_days" 2 ["_law_script", "_law_first", "_law_upto", "_law_salt", "_law_late"] (spDays42 K)) :
    FnOk P w K mg base CX0 3 f fd ["_law_script", "_law_upto", "_law_salt"] (spBakery K) := by
  refine F.ok sc_bakery (fun vs H Q E h => ?_) (fun cdv A outer s H vs Q E hr h => ?_)
  · obtain ⟨a, ns, u, s, rfl, _⟩ := h
    rfl
  · obtain ⟨a, ns, u, s, rfl, hS, hn, hu, hs0, hs1, q⟩ := h
    refine ⟨_, (pss_cons (ps_set (i := 3) sc_bakery.nd rfl (Or.inl rfl) (pe_callD D_numbers hr (by rfl) (pa_cons (pe_callD D_cell_at hr (by rfl) (pa_cons (pv 0) (pa_cons pe_int pa_nil))) (pa_cons (pv 2) (pa_cons (pe_lst (pa_cons pe_int (pa_cons pe_int (pa_cons pe_int pa_nil)))) pa_nil)))))
 (pss_cons (ps_asg (pe_callD D_days hr (by rfl) (pa_cons (pv 0) (pa_cons pe_int (pa_cons (pv 1) (pa_cons (pv 2) (pa_cons (pe_cmpR op_eq (pe_ix ix_list (pv 3) pe_int (fun _ _ => rfl)) pe_int (nomark _)) pa_nil)))))) (pg_tup rfl (pgs_cons (pg_name (i := 4) sc_bakery.nd rfl (Or.inl rfl)) (pgs_cons (pg_name (i := 5) sc_bakery.nd rfl (Or.inl rfl)) pgs_nil))))
 (pss_one (ps_ret (pe_tup (pa_cons (pv 4) (pa_cons pe_non (pa_cons (pe_lst (pa_cons (pe_tup (pa_cons (pv 5) (pa_cons (pe_ix ix_list (pe_lst (pa_cons pe_non (pa_cons pe_non (pa_cons pe_int (pa_cons pe_int (pa_cons pe_int (pa_cons pe_int (pa_cons pe_int pa_nil)))))))) (pe_ix ix_list (pv 3) pe_int (fun _ _ => rfl)) (fun _ _ => rfl)) pa_nil))) pa_nil)) pa_nil)))))))), ?_⟩
    walk_at "wp"
    refine ⟨a, ns, 0, rfl, hS, fun c => ⟨sz100 (by decide), fun p1 h1 => ?_⟩⟩
    refine ⟨c, s, p1, [3, 7, 2], rfl, SqL.of upd_same, hs0, by omega, by decide, by decide, fun H1 pd fs S1 hpd hD hfs => ?_⟩
    have S1 := (same_upd h1).trans S1
    obtain ⟨f0, f1, f2, rfl⟩ := three hD.1
    have b1 := hD.2 1 f1 _ rfl rfl
    have hF : SqL K H1 pd [V.int f0, V.int f1, V.int f2] := SqL.of hfs
    clear hD h1 hpd hfs
    walk_at "wp"
    refine ⟨_, _, hF, atI_nat (j := 2) rfl, ?_⟩
    walk_at "wp"
    refine ⟨a, ns, u, s, decide (f2 = 1), rfl, S1.seq hS, hn, hu, hs0, hs1, fun H2 p L D ls ds xs S2 ep hL0 hD0 eL eD hT hll hdl hlb hdb => ?_⟩
    walk_at "wp"
    refine ⟨_, SqT.of ep, rfl, ?_⟩
    walk_at "wp"
    refine ⟨sz100 (by decide), fun p3 h3 => ?_⟩
    have S3 := same_upd (o := .lst (livesO.map optV)) h3
    have E3 : upd H2 p3 (.lst (livesO.map optV)) p3 = some (.lst (livesO.map optV)) := upd_same
    change ∃ xs v, SqL K (upd H2 p3 (.lst (livesO.map optV))) pd xs ∧ atI xs 1 = some v ∧ rIxL K (V.ref p3) v (upd H2 p3 (.lst (livesO.map optV))) _
    generalize upd H2 p3 (.lst (livesO.map optV)) = H3 at S3 E3 ⊢
    refine ⟨_, _, (S2.trans S3).seq hF, atI_nat (j := 1) rfl, ?_⟩
    obtain ⟨o1, ho1, hob1⟩ := lives_at b1.1 b1.2
    refine ⟨p3, _, f1, _, rfl, rfl, SqL.of E3, ho1, sz100 (by decide), fun t1 ht1 => ⟨sz100 (by decide), fun g hg => ?_⟩⟩
    have S4 := same_upd (o := .tup [V.ref D, optV o1]) ht1
    have E4 : upd H3 t1 (.tup [V.ref D, optV o1]) t1 = some (.tup [V.ref D, optV o1]) := upd_same
    generalize upd H3 t1 (.tup [V.ref D, optV o1]) = H4 at S4 E4 hg ⊢
    have S5 := same_upd (o := .lst [V.ref t1]) hg
    have E5 : upd H4 g (.lst [V.ref t1]) g = some (.lst [V.ref t1]) := upd_same
    generalize upd H4 g (.lst [V.ref t1]) = H5 at S5 E5 ⊢
    refine ⟨sz100 (by decide), fun pf hpf => ?_⟩
    have S6 := same_upd (o := .tup [V.ref L, V.non, V.ref g]) hpf
    have E6 : upd H5 pf (.tup [V.ref L, V.non, V.ref g]) pf = some (.tup [V.ref L, V.non, V.ref g]) := upd_same
    generalize upd H5 pf (.tup [V.ref L, V.non, V.ref g]) = H6 at S6 E6 ⊢
    have S26 := S3.trans (S4.trans (S5.trans S6))
    have S02 := S1.trans S2
    have S06 := S02.trans S26
    have hL0 : H L = none := S1.free hL0
    have hDn : H D = none := S1.free hD0
    have hg0 : H g = none := (S02.trans (S3.trans S4)).free hg
    have ht0 : H t1 = none := (S02.trans S3).free ht1
    have hf0 : H pf = none := (S02.trans (S3.trans (S4.trans S5))).free hpf
    have hd6 : Tk (newOf H H6) (.ref D) (.list (ds.map dayD)) := .lst (newOf_at hDn (S26 _ _ eD)) (hT.same ((newOf_left S1).trans (newOf_mono S26)))
    have hl6 : Tk (newOf H H6) (.ref L) (.list (ls.map PyData.int)) := .lst (newOf_at hL0 (S26 _ _ eL)) (TkAll.ints ls)
    have hnd : 1 ≤ nDays u ns.length ∧ nDays u ns.length ≤ 40 := by unfold nDays; omega
    refine q _ _ ls ⟨ds, o1⟩ S06 ?_ ?_ hll
    · exact .tup (newOf_at hf0 E6) (.cons hl6 (.cons .non (.cons (.lst (newOf_at hg0 (S6 _ _ E5)) (.cons (.tup (newOf_at ht0 (S6 _ _ (S5 _ _ E4))) (.cons hd6 (.cons (Tk.optV o1) .nil))) .nil)) .nil)))
    · refine bakB_mk (by show 1 ≤ ls.length; omega) (by show ls.length ≤ 40; omega) hlb rfl (by show 1 ≤ 1; decide) (by show 1 ≤ 2; decide) (fun g' hg' => ?_)
      rw [List.mem_singleton.mp hg']
      exact ⟨by show ds.length = ls.length; omega, hob1, hdb⟩
end
end Bk

namespace Bk
open PySem PySem.Spec PyProof.Rows L2
local macro_rules | `(tactic| walk_at "wp") => `(tactic| try simp only [Int.zero_add, tNever, tFor_eq, tLc_eq, iList, iTup, iRng1_eq, rRng1_i, iRng2_eq, rRng2_i, iEnum_eq, rEnum_r, iZip_eq, rZip_r, tSl, tPart, tNoPart, rSlL_r, rCat_r, rIn_r, rNin_r, rRepr_r, rRg1_i, rRg2_i, rInr_r, tAug, ipI_ii, tLstRg, tRg1, tRg2, gTup_r, gUnl_r, rInt1_b, rInt1_i, rRep_r, tStep_r, scal, tSeq, tNext, tAsg, tRet, tRetN, tIfS, tDrop, tCB, tCons, tNil, tVar, tOp, tUn, tC, rU_i, rI_ii, rI0_ii, rEq, rNe, tTest, tB, tAnd, tOr, tNot, tAndV, tOrV, tNotV, tIf, tChain, tLst, tTup, tBM, tBM0, rAppend_r, rIxL_r, rIxT_r, rMx_ii, rMn_ii, rLnL_r, rLnT_r, rIsD_int, rIsD_bool, rIsD_list, rIsD_tuple, tCall, gName, gNil_n, gCons_c, cxK, L2.start, List.map, List.replicate, List.length_cons, List.length_nil, List.cons_append, List.nil_append, List.append_nil, List.getElem?_cons_zero, List.getElem?_cons_succ, Option.some.injEq, exists_eq_left', exists_eq_left, V.int.injEq, V.bl.injEq, V.str.injEq, V.ref.injEq, List.cons.injEq, and_true, true_and, and_self, List.set, wipe, rAll_r, rSum_r, reduceCtorEq, decide_true, decide_false, reduceIte, ite_true, ite_false, if_true, if_false, Bool.false_eq_true, Bool.not_true, Bool.not_false])
local macro_rules | `(tactic| walk_at "shaped") => `(tactic| (simp only [SeqAt.shaped, PyData.canLay0, PyData.canLayAll0, PyData.depth, PyData.depthAll]; rfl))
local macro_rules | `(tactic| walk_at "lay") => `(tactic| (simp only [PyData.canLay0, PyData.canLayAll0]; rfl))
section
variable {P : Program} {w : World} {K : PySem.W.Frag} {mg : Str → Option Value} {base : Heap}
abbrev s_wanted_price : Stmt := top 36
theorem sc_wanted_price : FnScope ["good", "baked", "given", "days", "life", "want", "each"] ["good", "baked", "given"] (defScope s_wanted_price) := ⟨rfl, rfl, rfl, by decide +kernel, rfl, by decide +kernel, by decide +kernel⟩
def okDays (g : Good) : Prop := ∀ d ∈ g.days, dayB (dayD d) = true
theorem want_ok {g : Good} (h : okDays g) {d : Day} (hd : d ∈ g.days) : 0 ≤ d.want ∧ d.want ≤ 1000000000 := by
  have k := h d hd
  simp only [dayD, dayB, Bool.and_eq_true] at k
  have k := k.1.1.1
  simp only [numD, Bool.and_eq_true, decide_eq_true_eq] at k
  exact k
def spWanted (K : PySem.W.Frag) : Sp := fun vs H Q _ => ∃ x g, ∃ j k : Nat, vs = [x, .int (j : Int), .int (k : Int)] ∧ Th K H x (goodD g) ∧ okDays g ∧ g.days.length ≤ 1000 ∧ j < g.days.length ∧ k < g.days.length ∧ ∀ H', Same H H' → Q (optV (wantP g j k)) H'
theorem ok_wanted_price {f : Addr} {fd : FuncData} (F : Fun K "wanted_price" "wanted_price" s_wanted_price f fd) (D_loaf_price : Def P w K mg base "loaf_price" 2 ["good", "baked", "given"] (spLoafP K)) : FnOk P w K mg base CX0 3 f fd ["good", "baked", "given"] (spWanted K) := by
  refine F.ok sc_wanted_price (fun vs H Q E h => ?_) (fun cdv A outer s H vs Q E hr h => ?_)
  · obtain ⟨x, g, j, k, rfl, _⟩ := h
    rfl
  · obtain ⟨x, g, j, k, rfl, hx, hok, hl, hj, hk, q⟩ := h
    refine ⟨_, (pss_cons (ps_asg (pv 0) (pg_tup rfl (pgs_cons (pg_name (i := 3) sc_wanted_price.nd rfl (Or.inl rfl)) (pgs_cons (pg_name (i := 4) sc_wanted_price.nd rfl (Or.inl rfl)) pgs_nil))))
 (pss_cons (ps_set (i := 5) sc_wanted_price.nd rfl (Or.inl rfl) (pe_ix ix_tup (pe_ix ix_list (pv 3) (pv 2) (fun _ _ => rfl)) pe_int (fun _ _ => rfl)))
 (pss_cons (ps_if (pt_cmpR op_eq (pv 5) pe_int (nomark _)) (pss_one (ps_ret pe_int)) pss_nil)
 (pss_cons (ps_set (i := 6) sc_wanted_price.nd rfl (Or.inl rfl) (pe_callD D_loaf_price hr (by rfl) (pa_cons (pv 0) (pa_cons (pv 1) (pa_cons (pv 2) pa_nil)))))
 (pss_one (ps_ret (pe_ifExp (pt_cmpR op_isN (pv 6) pe_non (nomark _)) pe_non (pe_op op_mul (pv 5) (pv 6))))))))), ?_⟩
    obtain ⟨t, a, xs, rfl, ht, hs, ha⟩ := hx.good
    have hd : g.days[k]? = some g.days[k] := List.getElem?_eq_getElem hk
    have hw := want_ok hok (List.getElem_mem hk)
    generalize g.days[k] = d at hd hw
    obtain ⟨v, hv, hvd⟩ := ha.get' (i := k) (d := dayD d) (by rw [List.getElem?_map, hd]; rfl)
    obtain ⟨t2, rfl, ht2⟩ := hvd.day
    walk_at "wp"
    refine ⟨_, ht, rfl, ?_⟩
    walk_at "wp"
    refine ⟨_, _, hs, atI_nat hv, ?_⟩
    walk_at "wp"
    refine ⟨_, _, ht2, atI_nat (j := 0) rfl, ?_⟩
    have q1 := fun H1 s1 => q H1 s1
    simp only [wantP, hd] at q1
    walk_at "wp"
    refine ite2 (fun h => ?_) (fun h => ?_)
    · have e : d.want = 0 := of_decide_eq_true h
      have := q1 H (Same.refl _)
      rw [if_pos e] at this
      exact this
    · have e : ¬ d.want = 0 := fun z => h (decide_eq_true z)
      refine ⟨_, g, j, k, rfl, hx, hl, hj, fun H1 s1 => ?_⟩
      have q2 := q1 H1 s1
      rw [if_neg e] at q2
      cases hp : loafP g j k with
      | none =>
        rw [hp] at q2
        simp only [optV]
        walk_at "wp"
        exact q2
      | some z =>
        rw [hp] at q2
        simp only [optV]
        walk_at "wp"
        exact ⟨.inl ⟨by omega, by omega⟩, q2⟩
end
end Bk

namespace Bk
open PySem PySem.Spec PyProof.Rows L2
local macro_rules | `(tactic| walk_at "wp") => `(tactic| try simp only [Int.zero_add, tNever, tFor_eq, tLc_eq, iList, iTup, iRng1_eq, rRng1_i, iRng2_eq, rRng2_i, iEnum_eq, rEnum_r, iZip_eq, rZip_r, tSl, tPart, tNoPart, rSlL_r, rCat_r, rIn_r, rNin_r, rRepr_r, iRevR, rMin_r, rRg1_i, rRg2_i, rInr_r, tAug, ipI_ii, tLstRg, tRg1, tRg2, gTup_r, gUnl_r, rInt1_b, rInt1_i, rRep_r, tStep_r, scal, tSeq, tNext, tAsg, tRet, tRetN, tIfS, tDrop, tCB, tCons, tNil, tVar, tOp, tUn, tC, rU_i, rI_ii, rI0_ii, rEq, rNe, tTest, tB, tAnd, tOr, tNot, tAndV, tOrV, tNotV, tIf, tChain, tLst, tTup, tBM, tBM0, rAppend_r, rIxL_r, rIxT_r, rMx_ii, rMn_ii, rLnL_r, rLnT_r, rIsD_int, rIsD_bool, rIsD_list, rIsD_tuple, tCall, gName, gNil_n, gCons_c, cxK, L2.start, List.map, List.replicate, List.length_cons, List.length_nil, List.cons_append, List.nil_append, List.append_nil, List.getElem?_cons_zero, List.getElem?_cons_succ, Option.some.injEq, exists_eq_left', exists_eq_left, V.int.injEq, V.bl.injEq, V.str.injEq, V.ref.injEq, List.cons.injEq, and_true, true_and, and_self, List.set, wipe, rAll_r, rSum_r, reduceCtorEq, decide_true, decide_false, reduceIte, ite_true, ite_false, if_true, if_false, Bool.false_eq_true, Bool.not_true, Bool.not_false])
local macro_rules | `(tactic| walk_at "shaped") => `(tactic| (simp only [SeqAt.shaped, PyData.canLay0, PyData.canLayAll0, PyData.depth, PyData.depthAll]; rfl))
local macro_rules | `(tactic| walk_at "lay") => `(tactic| (simp only [PyData.canLay0, PyData.canLayAll0]; rfl))
section
variable {P : Program} {w : World} {K : PySem.W.Frag} {mg : Str → Option Value} {base : Heap}
abbrev s_is_plain : Stmt := top 29
theorem sc_is_plain : FnScope ["bakery", "lights", "bound", "goods"] ["bakery"] (defScope s_is_plain) := ⟨rfl, rfl, rfl, by decide +kernel, rfl, by decide +kernel, by decide +kernel⟩
def spPlain (K : PySem.W.Frag) (r : V) : Sp := fun vs H Q _ => ∃ x b, vs = [x] ∧ Th K H x (bakD b) ∧ bakB (bakD b) = true ∧ b.bound = none ∧ b.goods.length = 1 ∧ ∀ H', Same H H' → Q r H'
theorem ok_is_plain {f : Addr} {fd : FuncData} (F : Fun K "is_plain" "is_plain" s_is_plain f fd) (B : Bi mg) (D_look_at_bakery : Def P w K mg base "look_at_bakery" 6 ["thing"] (spLook K)) : FnOk P w K mg base CX0 7 f fd ["bakery"] (spPlain K (.bl true)) := by
  refine F.ok sc_is_plain (fun vs H Q E h => ?_) (fun cdv A outer s H vs Q E hr h => ?_)
  · obtain ⟨x, b, rfl, _⟩ := h
    rfl
  · obtain ⟨x, b, rfl, hx, hb, hbo, hg, q⟩ := h
    refine ⟨_, (pss_cons (ps_expr (pe_callD D_look_at_bakery hr (by rfl) (pa_cons (pv 0) pa_nil)))
 (pss_cons (ps_asg (pv 0) (pg_tup rfl (pgs_cons (pg_name (i := 1) sc_is_plain.nd rfl (Or.inl rfl)) (pgs_cons (pg_name (i := 2) sc_is_plain.nd rfl (Or.inl rfl)) (pgs_cons (pg_name (i := 3) sc_is_plain.nd rfl (Or.inl rfl)) pgs_nil)))))
 (pss_one (ps_ret (pe_and (pe_cmpR op_isN (pv 2) pe_non (nomark _)) (pe_one (pe_cmpR op_eq (pe_callB call_lnL (by rfl) B.len (by decide +kernel) (pa_cons (pv 3) pa_nil)) pe_int (nomark _)))))))), ?_⟩
    walk_at "wp"
    refine ⟨_, _, rfl, hx, hb, fun H1 s1 => ?_⟩
    obtain ⟨a, l, v2, ga, xl, xg, rfl, ht, hl, hla, h2, hgl, hga⟩ := Th.bak (hx.same s1)
    have e2 := h2.opt
    rw [hbo] at e2
    have e2 : v2 = .non := e2
    subst e2
    walk_at "wp"
    refine ⟨_, ht, rfl, ?_⟩
    walk_at "wp"
    refine ⟨_, hgl, ?_⟩
    have hn := hga.length
    rw [List.length_map] at hn
    rw [hn, hg]
    exact q _ s1
abbrev s_look_at_plain : Stmt := top 30
theorem sc_look_at_plain : FnScope ["bakery"] ["bakery"] (defScope s_look_at_plain) := ⟨rfl, rfl, rfl, by decide +kernel, rfl, by decide +kernel, by decide +kernel⟩
theorem ok_look_at_plain {f : Addr} {fd : FuncData} (F : Fun K "look_at_plain" "look_at_plain" s_look_at_plain f fd) (D_is_plain : Def P w K mg base "is_plain" 7 ["bakery"] (spPlain K (.bl true))) : FnOk P w K mg base CX0 8 f fd ["bakery"] (spPlain K .non) := by
  refine F.ok sc_look_at_plain (fun vs H Q E h => ?_) (fun cdv A outer s H vs Q E hr h => ?_)
  · obtain ⟨x, b, rfl, _⟩ := h
    rfl
  · obtain ⟨x, b, rfl, hx, hb, hbo, hg, q⟩ := h
    refine ⟨_, (pss_one (ps_if (pt_not (pt_val (pe_callD D_is_plain hr (by rfl) (pa_cons (pv 0) pa_nil)))) (pss_one ps_never) pss_nil)), ?_⟩
    walk_at "wp"
    refine ⟨_, _, rfl, hx, hb, hbo, hg, fun H1 s1 => ?_⟩
    walk_at "wp"
    exact q _ s1
abbrev s_least_baked_on : Stmt := top 39
theorem sc_least_baked_on : FnScope ["row", "light", "prices", "many", "least", "cost", "first"] ["row", "light", "prices", "many"] (defScope s_least_baked_on) := ⟨rfl, rfl, rfl, by decide +kernel, rfl, by decide +kernel, by decide +kernel⟩
def spLbo (K : PySem.W.Frag) : Sp := fun vs H Q _ => ∃ (ra pa : Addr) (xs ys : List V) (row : Nat → Int) (wf : Nat → Option Int) (light : Int) (m : Nat), vs = [.ref ra, .int light, .ref pa, .int (m : Int)] ∧ SqL K H ra xs ∧ SqL K H pa ys ∧ (∀ i, i < m → xs[i]? = some (.int (row i))) ∧ (∀ i, i < m → ys[i]? = some (optV (wf i))) ∧ m ≤ 1000 ∧ Q (optV (lbo row wf m light none)) H
def LbI (ra pa : Addr) (light : Int) (row : Nat → Int) (wf : Nat → Option Int) (m : Nat) (H : Hp) (i : Nat) (σ : L2.St) (H' : Hp) : Prop := H' = H ∧ ∃ (c : Int) (l : Option Int) (y : Option V), σ = [some (.ref ra), some (.int light), some (.ref pa), some (.int (m : Int)), some (optV l), some (.int c), y] ∧ lbo row wf (m - i) c l = lbo row wf m light none
theorem ok_least_baked_on {f : Addr} {fd : FuncData} (F : Fun K "least_baked_on" "least_baked_on" s_least_baked_on f fd) (B : Bi mg) (Br : mg "reversed" = none) : FnOk P w K mg base CX0 1 f fd ["row", "light", "prices", "many"] (spLbo K) := by
  refine F.ok sc_least_baked_on (fun vs H Q E h => ?_) (fun cdv A outer s H vs Q E hr h => ?_)
  · obtain ⟨_, _, _, _, _, _, _, _, rfl, _⟩ := h
    rfl
  · obtain ⟨ra, pa, xs, ys, row, wf, light, m, rfl, hra, hpa, hx, hy, hm, q⟩ := h
    refine ⟨_, (pss_cons (ps_set (i := 4) sc_least_baked_on.nd rfl (Or.inl rfl) pe_non)
 (pss_cons (ps_set (i := 5) sc_least_baked_on.nd rfl (Or.inl rfl) (pv 1))
 (pss_cons (ps_for PassesOwn.never rfl (pi_revR (by rfl) Br (prg_1 (by rfl) B.range (pv 3))) (pg_name (i := 6) sc_least_baked_on.nd rfl (Or.inl rfl)) (pss_cons (ps_if (pt_cmpR op_isN (pe_ix ix_list (pv 2) (pv 6) (fun _ _ => rfl)) pe_non (nomark _)) (pss_one (ps_ret (pv 4))) pss_nil)
 (pss_cons (ps_aug (i := 5) sc_least_baked_on.nd rfl (Or.inl rfl) (pe_ix ix_list (pv 2) (pv 6) (fun _ _ => rfl)) ip_add)
 (pss_one (ps_if (PW.pt (pw_or (pt_cmpR op_isN (pv 4) pe_non (nomark _)) (pw_or1 (pt_cmpR op_lt (pe_op op_add (pe_ix ix_list (pv 0) (pv 6) (fun _ _ => rfl)) (pv 5)) (pv 4) (nomark _))))) (pss_one (ps_set (i := 4) sc_least_baked_on.nd rfl (Or.inl rfl) (pe_op op_add (pe_ix ix_list (pv 0) (pv 6) (fun _ _ => rfl)) (pv 5)))) pss_nil)))))
 (pss_one (ps_ret (pv 4)))))), ?_⟩
    walk_at "wp"
    refine ⟨by omega, by omega, by omega, by omega, ?_⟩
    rw [show ((m : Int) - 0).toNat = m by omega]
    refine LoopR.by walk_rangeC (LbI ra pa light row wf m H) ⟨rfl, light, none, none, rfl, rfl⟩ (fun _ _ _ _ _ => trivial) (fun i v σ H0 H2 hi hI hY => ?_) (fun σ H2 hI => ?_)
    · obtain ⟨rfl, rfl⟩ := hY
      obtain ⟨rfl, c, l, y, rfl, hl⟩ := hI
      have ej : (m : Int) - 1 + (i : Int) * -1 = ((m - (i + 1) : Nat) : Int) := by omega
      dsimp only
      rw [ej]
      have hlt : m - (i + 1) < m := by omega
      have h1 := hx _ hlt
      have h2 := hy _ hlt
      rw [show m - i = (m - (i + 1)) + 1 by omega] at hl
      have eI : ∀ σ, (∃ (c : Int) (l : Option Int) (y : Option V), σ = [some (.ref ra), some (.int light), some (.ref pa), some (.int (m : Int)), some (optV l), some (.int c), y] ∧ lbo row wf (m - (i + 1)) c l = lbo row wf m light none) → LbI ra pa light row wf m H2 (i + 1) σ H2 := fun σ h => ⟨rfl, h⟩
      generalize LbI ra pa light row wf m H2 (i + 1) = NX at eI ⊢
      generalize m - (i + 1) = j at h1 h2 hl hlt eI ⊢
      walk_at "wp"
      refine ⟨_, _, hpa, atI_nat h2, ?_⟩
      generalize lbo row wf m light none = L at q hl eI
      unfold lbo at hl
      cases hw : wf j with
      | none =>
        rw [hw] at hl
        simp only [optV]
        walk_at "wp"
        have hl : l = L := hl
        rw [← hl] at q
        exact q
      | some p =>
        rw [hw] at hl h2
        dsimp only at hl
        simp only [optV]
        walk_at "wp"
        refine ⟨_, _, hpa, atI_nat h2, ?_⟩
        simp only [optV]
        walk_at "wp"
        cases l with
        | none =>
          simp only [optV]
          walk_at "wp"
          refine ⟨_, _, hra, atI_nat h1, ?_⟩
          walk_at "wp"
          exact eI _ ⟨_, some _, _, rfl, hl⟩
        | some l0 =>
          dsimp only at hl
          simp only [optV]
          walk_at "wp"
          refine ⟨_, _, hra, atI_nat h1, ?_⟩
          walk_at "wp"
          refine ite2 (fun h => ?_) (fun h => ?_)
          · rw [if_pos (of_decide_eq_true h)] at hl
            refine ⟨_, _, hra, atI_nat h1, ?_⟩
            walk_at "wp"
            exact eI _ ⟨_, some _, _, rfl, hl⟩
          · rw [if_neg (fun z => h (decide_eq_true z))] at hl
            exact eI _ ⟨_, some _, _, rfl, hl⟩
    · obtain ⟨rfl, c, l, y, rfl, hl⟩ := hI
      rw [Nat.sub_self] at hl
      have hl : l = lbo row wf m light none := hl
      rw [← hl] at q
      walk_at "wp"
      exact q
abbrev s_least_of : Stmt := top 40
theorem sc_least_of : FnScope ["row", "lights", "table", "many", "ovens", "costs", "baked", "cost"] ["row", "lights", "table", "many", "ovens"] (defScope s_least_of) := ⟨rfl, rfl, rfl, by decide +kernel, rfl, by decide +kernel, by decide +kernel⟩
def spLeastOf (K : PySem.W.Frag) : Sp := fun vs H Q _ => ∃ (ra la ta oa : Addr) (xs zs ts : List V) (row lights : Nat → Int) (wf : Nat → Nat → Option Int) (m c : Nat), vs = [.ref ra, .ref la, .ref ta, .int ((m + 1 : Nat) : Int), .ref oa] ∧ SqL K H ra xs ∧ SqL K H la zs ∧ SqL K H ta ts ∧ SqL K H oa ((List.range c).map fun j : Nat => V.int (j : Int)) ∧ (∀ i, i < m + 1 → xs[i]? = some (.int (row i))) ∧ (∀ i, i < c → zs[i]? = some (.int (lights i))) ∧
  (∀ j, j < c → ∃ p ys, ts[j]? = some (.ref p) ∧ SqL K H p ys ∧ ∀ i, i < m + 1 → ys[i]? = some (optV (wf j i))) ∧ m < 1000 ∧ c ≤ 1000 ∧ (∃ u, ChC row lights wf c m u) ∧ ∀ v H', Same H H' → ChC row lights wf c m v → (∀ u, ChC row lights wf c m u → v ≤ u) → Q (.int v) H'
theorem ok_least_of {f : Addr} {fd : FuncData} (F : Fun K "least_of" "least_of" s_least_of f fd) (B : Bi mg) (D_least_baked_on : Def P w K mg base "least_baked_on" 1 ["row", "light", "prices", "many"] (spLbo K)) : FnOk P w K mg base CX0 2 f fd ["row", "lights", "table", "many", "ovens"] (spLeastOf K) := by
  refine F.ok sc_least_of (fun vs H Q E h => ?_) (fun cdv A outer s H vs Q E hr h => ?_)
  · obtain ⟨_, _, _, _, _, _, _, _, _, _, _, _, rfl, _⟩ := h
    rfl
  · obtain ⟨ra, la, ta, oa, xs, zs, ts, row, lights, wf, m, c, rfl, hra, hla, hta, hoa, hx, hz, ht, hm, hc, hex, q⟩ := h
    refine ⟨_, (pss_cons (ps_setLc (i := 5) (own := [("baked", 6)]) (g := (gName 6)) (te := (tCall _ _ _ (tCons _ (tCons (tOp (rIxL K) _ _) (tCons (tOp (rIxL K) _ _) (tCons _ tNil)))))) rfl sc_least_of.nd rfl rfl (sw_true rfl rfl rfl (by decide +kernel)) (pi_list (pv 4)) (blkOk_by (own := [("baked", 6)]) (N := ["row", "lights", "table", "many", "ovens", "costs", "baked", "cost"]) (sc := defScope s_least_of) (by decide +kernel)) (fun _ _ _ _ _ => (pg_name (i := 6) sc_least_of.nd rfl (Or.inl rfl))) (fun _ _ _ _ _ => pts_nil) (fun _ _ _ _ _ => (pe_callD D_least_baked_on hr (by rfl) (pa_cons (pv 0) (pa_cons (pe_ix ix_list (pv 1) (pv 6) (fun _ _ => rfl)) (pa_cons (pe_ix ix_list (pv 2) (pv 6) (fun _ _ => rfl)) (pa_cons (pv 3) pa_nil)))))))
 (pss_one (ps_ret (pe_callB (cr_min rfl) (by rfl) B.min (by decide +kernel) (pa_cons (pe_lc (own := [("cost", 7)]) (g := (gName 7)) rfl sc_least_of.nd (pi_list (pv 5)) (blkOk_by (own := [("cost", 7)]) (N := ["row", "lights", "table", "many", "ovens", "costs", "baked", "cost"]) (sc := defScope s_least_of) (by decide +kernel)) (fun _ _ _ _ _ => (pg_name (i := 7) sc_least_of.nd rfl (Or.inl rfl))) (fun _ _ _ _ _ => (pts_one (pt_cmpR op_notN (pv 7) pe_non (nomark _)))) (fun _ _ _ _ _ => (pv 7))) pa_nil))))), ?_⟩
    walk_at "wp"
    refine ⟨⟨_, hoa⟩, fun D hD => ?_⟩
    refine LcR.map (walk_list (xs := (List.range c).map fun j : Nat => V.int (j : Int))) ((lbos row lights wf m c).map optV) hD (by unfold lbos; rw [List.length_map, List.length_map, List.length_range, List.length_map, List.length_range]) (by rw [List.length_map, List.length_range]; omega) (fun H s => s.seq hoa) (fun _ _ _ _ y => yat_same y) (fun n v y H0 H4 hn s4 yy hy R hR => ?_) (fun H4 s4 hH => ?_)
    · obtain ⟨rfl, hv⟩ := yy
      rw [List.length_map, List.length_range] at hn
      rw [List.getElem?_map, List.getElem?_range hn] at hv
      cases hv
      unfold lbos at hy
      rw [List.getElem?_map, List.getElem?_map, List.getElem?_range hn] at hy
      cases hy
      obtain ⟨p, ys, e1, e2, e3⟩ := ht n hn
      walk_at "wp"
      refine ⟨_, _, s4.seq hla, atI_nat (hz n hn), _, _, s4.seq hta, atI_nat e1, ?_⟩
      exact ⟨_, _, _, _, row, wf n, lights n, m + 1, rfl, s4.seq hra, s4.seq e2, hx, e3, by omega, hR _ (Same.refl _)⟩
    · walk_at "wp"
      refine ⟨⟨_, SqL.of hH⟩, fun D2 hD2 => ?_⟩
      refine LcR.opts (lbos row lights wf m c) hD2 (SqL.of hH) (by unfold lbos; rw [List.length_map, List.length_range]; omega) (fun o H5 _ _ N M h1 h2 => ?_) (fun H5 s5 hH5 => ?_)
      · cases o with
        | none =>
          simp only [optV]
          walk_at "wp"
          exact h1 rfl
        | some z =>
          simp only [optV]
          walk_at "wp"
          exact h2 z rfl
      · obtain ⟨u, hu⟩ := hex
        obtain ⟨v0, hv0, _⟩ := lbos_least hu
        refine ⟨_, SqL.of hH5, List.length_pos_of_mem hv0, fun v hv hmin => q v _ (s4.trans s5) (lbos_mem hv) fun u hu => ?_⟩
        obtain ⟨v1, hv1, hle⟩ := lbos_least hu
        have := hmin _ hv1
        omega
abbrev s_is_unwanted : Stmt := top 41
theorem sc_is_unwanted : FnScope ["good", "day", "days", "life", "want", "loaf", "keep", "fine"] ["good", "day"] (defScope s_is_unwanted) := ⟨rfl, rfl, rfl, by decide +kernel, rfl, by decide +kernel, by decide +kernel⟩
def spUnw (K : PySem.W.Frag) : Sp := fun vs H Q _ => ∃ x g d, ∃ k : Nat, vs = [x, .int (k : Int)] ∧ Th K H x (goodD g) ∧ g.days[k]? = some d ∧ Q (.bl (decide (d.want = 0))) H
theorem ok_is_unwanted {f : Addr} {fd : FuncData} (F : Fun K "is_unwanted" "is_unwanted" s_is_unwanted f fd) : FnOk P w K mg base CX0 1 f fd ["good", "day"] (spUnw K) := by
  refine F.ok sc_is_unwanted (fun vs H Q E h => ?_) (fun cdv A outer s H vs Q E hr h => ?_)
  · obtain ⟨x, g, d, k, rfl, _⟩ := h
    rfl
  · obtain ⟨x, g, d, k, rfl, hx, hd, q⟩ := h
    refine ⟨_, (pss_cons (ps_asg (pv 0) (pg_tup rfl (pgs_cons (pg_name (i := 2) sc_is_unwanted.nd rfl (Or.inl rfl)) (pgs_cons (pg_name (i := 3) sc_is_unwanted.nd rfl (Or.inl rfl)) pgs_nil))))
 (pss_cons (ps_asg (pe_ix ix_list (pv 2) (pv 1) (fun _ _ => rfl)) (pg_tup rfl (pgs_cons (pg_name (i := 4) sc_is_unwanted.nd rfl (Or.inl rfl)) (pgs_cons (pg_name (i := 5) sc_is_unwanted.nd rfl (Or.inl rfl)) (pgs_cons (pg_name (i := 6) sc_is_unwanted.nd rfl (Or.inl rfl)) (pgs_cons (pg_name (i := 7) sc_is_unwanted.nd rfl (Or.inl rfl)) pgs_nil))))))
 (pss_one (ps_ret (pe_cmpR op_eq (pv 4) pe_int (nomark _)))))), ?_⟩
    obtain ⟨t, a, xs, rfl, ht, hs, ha⟩ := hx.good
    obtain ⟨v, hv, hvd⟩ := ha.get' (i := k) (d := dayD d) (by rw [List.getElem?_map, hd]; rfl)
    obtain ⟨t2, rfl, ht2⟩ := hvd.day
    walk_at "wp"
    refine ⟨_, ht, rfl, ?_⟩
    walk_at "wp"
    refine ⟨_, _, hs, atI_nat hv, ?_⟩
    walk_at "wp"
    refine ⟨_, ht2, rfl, ?_⟩
    walk_at "wp"
    exact q
abbrev s_wanted_table : Stmt := top 37
theorem sc_wanted_table : FnScope ["good", "days", "life", "baked", "given"] ["good"] (defScope s_wanted_table) := ⟨rfl, rfl, rfl, by decide +kernel, rfl, by decide +kernel, by decide +kernel⟩
def TabOf (g : Good) (n : Nat) (H' : Hp) (acc : List V) : Prop := acc.length = n ∧ ∀ j, j < n → ∃ p, acc[j]? = some (.ref p) ∧ H' p = some (.lst ((List.range n).map fun k => optV (wantP g j k)))
def spTable (K : PySem.W.Frag) : Sp := fun vs H Q _ => ∃ x g, vs = [x] ∧ Th K H x (goodD g) ∧ okDays g ∧ g.days.length ≤ 1000 ∧ ∀ (H' : Hp) (p : Addr) (acc : List V), Same H H' → H p = none → H' p = some (.lst acc) → TabOf g g.days.length H' acc → Q (.ref p) H'
def TabI (g : Good) (n : Nat) (D : Addr) (H1 : Hp) (i : Nat) (H' : Hp) : Prop := Same H1 H' ∧ ∃ acc : List V, H' D = some (.lst acc) ∧ acc.length = i ∧ ∀ j, j < i → ∃ p, acc[j]? = some (.ref p) ∧ p ≠ D ∧ H' p = some (.lst ((List.range n).map fun k => optV (wantP g j k)))
theorem ok_wanted_table {f : Addr} {fd : FuncData} (F : Fun K "wanted_table" "wanted_table" s_wanted_table f fd) (B : Bi mg) (D_wanted_price : Def P w K mg base "wanted_price" 3 ["good", "baked", "given"] (spWanted K)) : FnOk P w K mg base CX0 4 f fd ["good"] (spTable K) := by
  refine F.ok sc_wanted_table (fun vs H Q E h => ?_) (fun cdv A outer s H vs Q E hr h => ?_)
  · obtain ⟨x, g, rfl, _⟩ := h
    rfl
  · obtain ⟨x, g, rfl, hx, hok, hn1, q⟩ := h
    refine ⟨_, (pss_cons (ps_asg (pv 0) (pg_tup rfl (pgs_cons (pg_name (i := 1) sc_wanted_table.nd rfl (Or.inr rfl)) (pgs_cons (pg_name (i := 2) sc_wanted_table.nd rfl (Or.inl rfl)) pgs_nil))))
 (pss_one (ps_ret (pe_lc (own := [("baked", 3)]) (g := (gName 3)) (te := (tLc (iRng1 (tCons (tCB (rLnL K) _) tNil)) (gName 4) tYes _ [4])) rfl sc_wanted_table.nd (pi_range1 (by rfl) B.range (pa_cons (pe_callB call_lnL (by rfl) B.len (by decide +kernel) (pa_cons (pv 1) pa_nil)) pa_nil)) (blkOk_by (own := [("baked", 3)]) (N := ["good", "days", "life", "baked", "given"]) (sc := defScope s_wanted_table) (by decide +kernel)) (fun _ _ _ _ _ => (pg_name (i := 3) sc_wanted_table.nd rfl (Or.inr rfl))) (fun _ _ _ _ _ => pts_nil) (fun _ _ _ _ _ => (pe_lc (own := [("given", 4)]) (g := (gName 4)) rfl sc_wanted_table.nd (pi_range1 (by rfl) B.range (pa_cons (pe_callB call_lnL (by rfl) B.len (by decide +kernel) (pa_cons (pv 1) pa_nil)) pa_nil)) (blkOk_by (own := [("given", 4)]) (N := ["good", "days", "life", "baked", "given"]) (sc := ({ kind := .function, names := [(".0", .local), ("baked", .cell), ("range", .globalImplicit), ("len", .globalImplicit), ("days", .cell), ("good", .cell)], isGenerator := false, isCoroutine := false } : Scope)) (by decide +kernel)) (fun _ _ _ _ _ => (pg_name (i := 4) sc_wanted_table.nd rfl (Or.inl rfl))) (fun _ _ _ _ _ => pts_nil) (fun _ _ _ _ _ => (pe_callD D_wanted_price hr (by rfl) (pa_cons (pv 0) (pa_cons (pv 3) (pa_cons (pv 4) pa_nil))))))))))), ?_⟩
    obtain ⟨t, a, xs, rfl, ht, hs, ha⟩ := hx.good
    have hxl := ha.length
    rw [List.length_map] at hxl
    walk_at "wp"
    refine ⟨_, ht, rfl, ?_⟩
    walk_at "wp"
    refine ⟨_, hs, ?_⟩
    walk_at "wp"
    refine ⟨by omega, by omega, fun D hD => ?_⟩
    rw [show ((xs.length : Nat) : Int).toNat = g.days.length by omega]
    refine LcR.by walk_range (TabI g g.days.length D H) ⟨same_upd hD, [], upd_same, rfl, fun j h => by omega⟩ (fun _ _ _ _ => trivial) (fun n v H0 H4 hn hI yy => ?_) (fun H4 hI => ?_)
    · obtain ⟨rfl, rfl⟩ := yy
      obtain ⟨s4, acc, hacc, hal, hrow⟩ := hI
      walk_at "wp"
      refine ⟨_, s4.seq hs, ?_⟩
      walk_at "wp"
      refine ⟨by omega, by omega, fun D2 hD2 => ?_⟩
      rw [show ((xs.length : Nat) : Int).toNat = g.days.length by omega]
      have ne : D2 ≠ D := fun e => by rw [e, hacc] at hD2; cases hD2
      refine LcR.map walk_range ((List.range g.days.length).map fun k => optV (wantP g n k)) hD2 (by rw [List.length_map, List.length_range]) (by omega) (fun _ _ => trivial) (fun _ _ _ _ y => yfn_same y) (fun k v y H0 H5 hk s5 yy hy R hR => ?_) (fun H5 s5 hH5 => ?_)
      · obtain ⟨rfl, rfl⟩ := yy
        rw [List.getElem?_map, List.getElem?_range hk] at hy
        cases hy
        walk_at "wp"
        exact ⟨_, g, n, k, rfl, hx.same (s4.trans s5), hok, by omega, by omega, by omega, hR⟩
      · refine ⟨acc, s5 _ _ hacc, sz100l (by omega), same_mut (s4.trans s5) hD, _, upd_same, by rw [List.length_append, hal]; rfl, fun j hj => ?_⟩
        by_cases hjn : j < n
        · obtain ⟨p, e1, e2, e3⟩ := hrow j hjn
          exact ⟨p, by rw [List.getElem?_append_left (by omega)]; exact e1, e2, by rw [upd_ne e2]; exact s5 _ _ e3⟩
        · have ej : j = n := by omega
          subst ej
          exact ⟨D2, by rw [List.getElem?_append_right (by omega), hal, Nat.sub_self]; rfl, ne, by rw [upd_ne ne]; exact hH5⟩
    · obtain ⟨s4, acc, hacc, hal, hrow⟩ := hI
      exact q _ D acc s4 hD hacc ⟨hal, fun j hj => by obtain ⟨p, e1, _, e3⟩ := hrow j hj; exact ⟨p, e1, e3⟩⟩
abbrev s_least_row : Stmt := top 42
theorem sc_least_row : FnScope ["bakery", "lights", "bound", "goods", "good", "table", "row", "many", "least"] ["bakery"] (defScope s_least_row) := ⟨rfl, rfl, rfl, by decide +kernel, rfl, by decide +kernel, by decide +kernel⟩
def spRow (K : PySem.W.Frag) : Sp := fun vs H Q _ => ∃ x ls g, vs = [x] ∧ Th K H x (bakD ⟨ls, none, [g]⟩) ∧ bakB (bakD ⟨ls, none, [g]⟩) = true ∧ ∀ (H' : Hp) (p : Addr) (rs : List Int), Same H H' → H p = none → H' p = some (.lst (rs.map V.int)) → rs.length = ls.length + 1 → IsRow g (rowF ls) (rowF rs) ls.length → Q (.ref p) H'
def RowI (v0 v1 v2 v3 v4 v5 : V) (p : Addr) (g : Good) (ls : List Int) (H : Hp) (i : Nat) (σ : L2.St) (H' : Hp) : Prop := (∃ y7 y8, σ = [some v0, some v1, some v2, some v3, some v4, some v5, some (.ref p), y7, y8]) ∧ Same H H' ∧ ∃ rs : List Int, H' p = some (.lst (rs.map V.int)) ∧ rs.length = i + 1 ∧ IsRow g (rowF ls) (rowF rs) i
theorem ok_least_row {f : Addr} {fd : FuncData} (F : Fun K "least_row" "least_row" s_least_row f fd) (B : Bi mg) (D_look_at_plain : Def P w K mg base "look_at_plain" 8 ["bakery"] (spPlain K .non)) (D_wanted_table : Def P w K mg base "wanted_table" 4 ["good"] (spTable K))
    (D_least_of : Def P w K mg base "least_of" 2 ["row", "lights", "table", "many", "ovens"] (spLeastOf K)) (D_is_unwanted : Def P w K mg base "is_unwanted" 1 ["good", "day"] (spUnw K)) : FnOk P w K mg base CX0 9 f fd ["bakery"] (spRow K) := by
  refine F.ok sc_least_row (fun vs H Q E h => ?_) (fun cdv A outer s H vs Q E hr h => ?_)
  · obtain ⟨x, ls, g, rfl, _⟩ := h
    rfl
  · obtain ⟨x, ls, g, rfl, hx, hb, q⟩ := h
    refine ⟨_, (pss_cons (ps_expr (pe_callD D_look_at_plain hr (by rfl) (pa_cons (pv 0) pa_nil)))
 (pss_cons (ps_asg (pv 0) (pg_tup rfl (pgs_cons (pg_name (i := 1) sc_least_row.nd rfl (Or.inl rfl)) (pgs_cons (pg_name (i := 2) sc_least_row.nd rfl (Or.inl rfl)) (pgs_cons (pg_name (i := 3) sc_least_row.nd rfl (Or.inl rfl)) pgs_nil)))))
 (pss_cons (ps_set (i := 4) sc_least_row.nd rfl (Or.inl rfl) (pe_ix ix_list (pv 3) pe_int (fun _ _ => rfl)))
 (pss_cons (ps_set (i := 5) sc_least_row.nd rfl (Or.inl rfl) (pe_callD D_wanted_table hr (by rfl) (pa_cons (pv 4) pa_nil)))
 (pss_cons (ps_set (i := 6) sc_least_row.nd rfl (Or.inl rfl) (pe_lst (pa_cons pe_int pa_nil)))
 (pss_cons (ps_for PassesOwn.never rfl (pi_range2 (by rfl) B.range (pa_cons pe_int (pa_cons (pe_op op_add (pe_callB call_lnL (by rfl) B.len (by decide +kernel) (pa_cons (pv 1) pa_nil)) pe_int) pa_nil))) (pg_name (i := 7) sc_least_row.nd rfl (Or.inl rfl)) (pss_cons (ps_set (i := 8) sc_least_row.nd rfl (Or.inl rfl) (pe_callD D_least_of hr (by rfl) (pa_cons (pv 6) (pa_cons (pv 1) (pa_cons (pv 5) (pa_cons (pv 7) (pa_cons (pe_listRg rfl (by rfl) B.list (prg_1 (by rfl) B.range (pv 7))) pa_nil)))))))
 (pss_cons (ps_if (pt_val (pe_callD D_is_unwanted hr (by rfl) (pa_cons (pv 4) (pa_cons (pe_op op_sub (pv 7) pe_int) pa_nil)))) (pss_one (ps_set (i := 8) sc_least_row.nd rfl (Or.inl rfl) (pe_callB (call_mn rfl) (by rfl) B.min (by decide +kernel) (pa_cons (pv 8) (pa_cons (pe_ix ix_list (pv 6) (pe_op op_sub (pv 7) pe_int) (fun _ _ => rfl)) pa_nil))))) pss_nil)
 (pss_one (ps_expr (pe_bm PySem.F.plainAttrs_list PySem.F.slot_list_append PySem.F.type_list_append mt_append (pv 6) (pa_cons (pv 8) pa_nil)))))))
 (pss_one (ps_ret (pv 6))))))))), ?_⟩
    obtain ⟨⟨c1, c2⟩, c3, _, _, c7⟩ := bak_parts hb
    obtain ⟨c8, c9, hok⟩ := c7 g (List.mem_singleton.mpr rfl)
    dsimp only at c1 c2 c3 c8
    walk_at "wp"
    refine ⟨_, _, rfl, hx, hb, rfl, rfl, fun H1 s1 => ?_⟩
    obtain ⟨a, l, v2, ga, xl, xg, rfl, ht, hl, hla, h2, hgl, hga⟩ := Th.bak (hx.same s1)
    obtain ⟨vg, hv, hvg⟩ := hga.get' (i := 0) (d := goodD g) rfl
    have hln := hla.length
    rw [List.length_map] at hln
    dsimp only at hln
    walk_at "wp"
    refine ⟨_, ht, rfl, ?_⟩
    walk_at "wp"
    refine ⟨_, _, hgl, atI_nat hv, ?_⟩
    walk_at "wp"
    refine ⟨_, g, rfl, hvg, hok, by omega, fun H4 D acc s4 hD0 hacc hrow => ?_⟩
    obtain ⟨hal, hrow⟩ := hrow
    walk_at "wp"
    have hx4 := s1.trans s4
    refine ⟨sz100 (by decide), fun p hp => ⟨_, (same_upd hp).seq (s4.seq hl), ?_⟩⟩
    walk_at "wp"
    refine ⟨⟨by omega, by omega, by omega, by omega⟩, ?_⟩
    have hHp : H p = none := by
      cases e : H p with
      | none => rfl
      | some o => rw [hx4 _ _ e] at hp; cases hp
    rw [show ((xl.length : Int) + 1 - 1).toNat = ls.length by omega]
    refine LoopR.by walk_range (RowI (.ref a) (.ref l) v2 (.ref ga) vg (.ref D) p g ls H4) ⟨⟨_, _, rfl⟩, same_upd hp, [0], upd_same, rfl, IsRow.init _ _⟩ (fun _ _ _ _ _ => trivial) (fun i v σ H0 H5 hi hI yy => ?_) (fun σ H5 hI => ?_)
    · obtain ⟨rfl, rfl⟩ := yy
      obtain ⟨⟨y7, y8, rfl⟩, s5, rs, hrs, hrl, hR⟩ := hI
      have hxl : xl = ls.map V.int := hla.intsV
      have ei : (1 : Int) + (i : Int) = ((i + 1 : Nat) : Int) := by omega
      have hdi : i < g.days.length := by omega
      have hd : g.days[i]? = some g.days[i] := List.getElem?_eq_getElem hdi
      generalize g.days[i] = d at hd
      have s15 := s4.trans s5
      dsimp only
      rw [ei]
      walk_at "wp"
      refine ⟨RgOk.of_le (by omega) (by omega) (by omega) (by omega), fun oa hoa0 => ?_⟩
      have so := same_upd (o := .lst (rgV 0 ((i + 1 : Nat) : Int))) hoa0
      have hoa : upd H5 oa (.lst (rgV 0 ((i + 1 : Nat) : Int))) oa = some (.lst ((List.range (i + 1)).map fun j : Nat => V.int (j : Int))) := by rw [upd_same, rgV_zero]
      generalize upd H5 oa (.lst (rgV 0 ((i + 1 : Nat) : Int))) = H5' at so hoa ⊢
      have s5 := s5.trans so
      have s15 := s4.trans s5
      have hrs := so _ _ hrs
      refine ⟨p, l, D, oa, rs.map V.int, xl, acc, rowF rs, rowF ls, wantP g, i, i + 1, rfl, SqL.of hrs, s15.seq hl, SqL.of (s5 _ _ hacc), SqL.of hoa, fun j hj => rowF_get (by omega), fun j hj => by rw [hxl]; exact rowF_get (by omega), fun j hj => ?_, by omega, by omega, ⟨_, own_chC (by omega) hd (life_ok c9)⟩, fun v H6 s6 hv hmin => ?_⟩
      · obtain ⟨p2, e1, e3⟩ := hrow j (by omega)
        refine ⟨p2, _, e1, SqL.of (s5 _ _ e3), fun k hk => ?_⟩
        rw [List.getElem?_map, List.getElem?_range (by omega)]
        rfl
      · have hrs6 := s6 _ _ hrs
        have fin : ∀ (u : Int) (y7 y8 : Option V), Choice g (rowF ls) (rowF rs) i u → (∀ z, Choice g (rowF ls) (rowF rs) i z → u ≤ z) → RowI (.ref a) (.ref l) v2 (.ref ga) vg (.ref D) p g ls H4 (i + 1) [some (.ref a), some (.ref l), some v2, some (.ref ga), some vg, some (.ref D), some (.ref p), y7, y8] (upd H6 p (.lst (rs.map V.int ++ [.int u]))) := fun u y7 y8 h1 h2 =>
          ⟨⟨_, _, rfl⟩, same_mut (s5.trans s6) hp, rs ++ [u], by rw [upd_same, List.map_append]; rfl, by rw [List.length_append, hrl]; rfl, hR.snoc hrl h1 h2⟩
        have hlen : (rs.map V.int).length < sizeLine := sz100l (by rw [List.length_map]; omega)
        walk_at "wp"
        refine ⟨_, g, d, i, by rw [show ((i + 1 : Nat) : Int) - 1 = (i : Int) by omega], hvg.same (s15.trans s6), hd, ?_⟩
        walk_at "wp"
        refine ite2 (fun h => ?_) (fun h => ?_)
        · have hw : d.want = 0 := of_decide_eq_true h
          refine ⟨_, _, SqL.of hrs6, by rw [show ((i + 1 : Nat) : Int) - 1 = (i : Int) by omega]; exact atI_nat (rowF_get (by omega)), ?_⟩
          walk_at "wp"
          refine ⟨tyL (SqL.of hrs6), _, hrs6, hlen, fin _ _ _ ?_ ?_⟩
          · split
            · exact .inr ⟨⟨d, hd, hw⟩, rfl⟩
            · exact chC_choice hv
          · intro z hz
            have k : z = rowF rs i ∨ v ≤ z := by
              rcases choice_chC hz with hz | hz
              · exact .inr (hmin z hz)
              · exact .inl hz
            split <;> omega
        · have hw : ¬ d.want = 0 := fun z => h (decide_eq_true z)
          exact ⟨tyL (SqL.of hrs6), _, hrs6, hlen, fin v _ _ (chC_choice hv) fun z hz => hmin z (choice_not hd hw hz)⟩
    · obtain ⟨⟨y7, y8, rfl⟩, s5, rs, hrs, hrl, hR⟩ := hI
      walk_at "wp"
      exact q _ p rs (hx4.trans s5) hHp hrs hrl hR
end
end Bk

namespace Bk
open PySem PySem.Spec PyProof.Rows L2
open C8 (Met pe_mt pe_mt0)
local macro_rules | `(tactic| walk_at "wp") => `(tactic| try simp only [iZipA_eq, rZipA_r, iEnumZip_eq, rEnumZip_r, tFld_eq, tMeth_eq, rTIx_r, tTru, tScT2, rSetL_r, rSetOf2_r, rSorDT_r, rSetD, tDGet2, tDGet, tDNewT, cxW, rExtend_r, rSortU_r, rSetOf_r, rSortedSet_r, rNinr_r, rNeN_r, rCatL_r, rSlT_r, rListOf_r, rIsB_b, rNotB_b, tFmtO, tJs, tOst, tCallS, WE, tRaise2, rOne_i, rSorD_r, tDNewK, Int.zero_add, tNever, tFor_eq, tLc_eq, iList, iTup, iRng1_eq, rRng1_i, iRng2_eq, rRng2_i, iEnum_eq, rEnum_r, iZip_eq, rZip_r, tSl, tPart, tNoPart, rSlL_r, rCat_r, rIn_r, rNin_r, rRepr_r, iRevR, rMin_r, rShr_i, rOdd_i, rSetL_r, gSub, rRg1_i, rRg2_i, rInr_r, tAug, ipI_ii, tLstRg, tRg1, tRg2, gTup_r, gUnl_r, rInt1_b, rInt1_i, rRep_r, tStep_r, scal, tSeq, tNext, tAsg, tRet, tRetN, tIfS, tDrop, tCB, tCons, tNil, tVar, tOp, tUn, tC, rU_i, rI_ii, rI0_ii, rEq, rNe, tTest, tB, tAnd, tOr, tNot, tAndV, tOrV, tNotV, tIf, tChain, tLst, tTup, tBM, tBM0, rAppend_r, rIxL_r, rIxT_r, rMx_ii, rMn_ii, rLnL_r, rLnT_r, rIsD_int, rIsD_bool, rIsD_list, rIsD_tuple, tCall, gName, gNil_n, gCons_c, cxK, L2.start, List.map, List.replicate, List.length_cons, List.length_nil, List.cons_append, List.nil_append, List.append_nil, List.getElem?_cons_zero, List.getElem?_cons_succ, Option.some.injEq, exists_eq_left', exists_eq_left, V.int.injEq, V.bl.injEq, V.str.injEq, V.ref.injEq, List.cons.injEq, and_true, true_and, and_self, List.set, wipe, rAll_r, rSum_r, reduceCtorEq, decide_true, decide_false, reduceIte, ite_true, ite_false, if_true, if_false, Bool.false_eq_true, Bool.not_true, Bool.not_false])
local macro_rules | `(tactic| walk_at "shaped") => `(tactic| (simp only [SeqAt.shaped, PyData.canLay0, PyData.canLayAll0, PyData.depth, PyData.depthAll]; rfl))
local macro_rules | `(tactic| walk_at "lay") => `(tactic| (simp only [PyData.canLay0, PyData.canLayAll0]; rfl))
local macro_rules | `(tactic| walk_at "wg") => `(tactic| try simp only [gName, gTup_r, gCons_c, gNil_n, cxK, List.set, List.cons.injEq, and_true, true_and, exists_eq_left', exists_eq_left, List.length_cons, List.length_nil])
section
variable {P : Program} {w : World} {K : PySem.W.Frag} {mg : Str → Option Value} {base : Heap}
abbrev s_is_part : Stmt := top 80
theorem sc_is_part : FnScope ["thing"] ["thing"] (defScope s_is_part) := ⟨rfl, rfl, rfl, by decide +kernel, rfl, by decide +kernel, by decide +kernel⟩
abbrev partsL : List Str := ["want", "loaf", "keep", "fine"]
def PartsT (K : PySem.W.Frag) (A : Addr) : Prop := ∀ H, SqT K H A (partsL.map V.str)
def partB (s : Str) : Bool := decide (s = "light") || decide (s ∈ partsL)
def spPart (K : PySem.W.Frag) : Sp := fun vs H Q _ => ∃ s, vs = [.str s] ∧ partB s = true ∧ ∀ H', Same H H' → Q (.bl true) H'
theorem ok_is_part {f : Addr} {fd : FuncData} {A : Addr} {t1 : Tok} (F : Fun K "is_part" "is_part" s_is_part f fd) (B : Bi mg) (Bq : mg "str" = none) (M_LIGHT : mg "LIGHT" = some (.str "light" t1)) (M_PARTS : mg "PARTS" = some (.ref A)) (PT : PartsT K A) : FnOk P w K mg base CX0 1 f fd ["thing"] (spPart K) := by
  refine F.ok sc_is_part (fun vs H Q E h => ?_) (fun cdv A outer s H vs Q E hr h => ?_)
  · obtain ⟨_, rfl, _⟩ := h
    rfl
  · obtain ⟨z, rfl, hz, q⟩ := h
    refine ⟨_, (pss_one (ps_ret (pe_and (pe_callB (call_isD .str) (by rfl) B.isinstance (by decide +kernel) (pa_cons (pv 0) (pa_cons (pe_bltn (v := .ty "str") (by rfl) Bq (by decide +kernel) rfl) pa_nil))) (pe_one (pe_or (pe_cmpR op_eq (pv 0) (pe_globS rfl M_LIGHT) (nomark _)) (pe_one (pe_cmpR op_in_seq (pv 0) (pe_globR (by rfl) M_PARTS) (by rfl)))))))), ?_⟩
    walk_at "wp"
    refine ⟨.str z, .str z, rfl, .str _, true, rfl, ?_⟩
    rw [if_pos rfl]
    by_cases h1 : z = "light"
    · rw [decide_eq_true (show z = Str.ofString "light" from h1), if_pos rfl]
      exact q _ (Same.refl _)
    · rw [decide_eq_false (show ¬ z = Str.ofString "light" from h1), if_neg (by decide)]
      have hm : z ∈ partsL := by
        unfold partB at hz
        rw [decide_eq_false h1, Bool.false_or] at hz
        exact of_decide_eq_true hz
      refine ⟨partsL.map V.str, .inr (PT _), rfl, by decide +kernel, ?_⟩
      have e : inV (V.str z) (partsL.map V.str) = true := by
        simp only [partsL, List.mem_cons, List.not_mem_nil, or_false] at hm
        rcases hm with rfl | rfl | rfl | rfl <;> decide +kernel
      rw [e]
      exact q _ (Same.refl _)
abbrev s_is_worth : Stmt := top 81
theorem sc_is_worth : FnScope ["part", "thing"] ["part", "thing"] (defScope s_is_worth) := ⟨rfl, rfl, rfl, by decide +kernel, rfl, by decide +kernel, by decide +kernel⟩
def worthB (s : Str) (o : Option Int) : Bool := numD (optD o) || (decide (s = "fine") && o.isNone)
def spWorth (K : PySem.W.Frag) : Sp := fun vs H Q _ => ∃ s o, vs = [.str s, optV o] ∧ worthB s o = true ∧ ∀ H', Same H H' → Q (.bl true) H'
theorem ok_is_worth {f : Addr} {fd : FuncData} {t1 : Tok} (F : Fun K "is_worth" "is_worth" s_is_worth f fd) (M_FINE : mg "FINE" = some (.str "fine" t1)) (D_is_number : Def P w K mg base "is_number" 2 ["thing"] (spNum K)) : FnOk P w K mg base CX0 3 f fd ["part", "thing"] (spWorth K) := by
  refine F.ok sc_is_worth (fun vs H Q E h => ?_) (fun cdv A outer s H vs Q E hr h => ?_)
  · obtain ⟨_, _, rfl, _⟩ := h
    rfl
  · obtain ⟨z, o, rfl, hz, q⟩ := h
    refine ⟨_, (pss_one (ps_ret (pe_or (pe_callD D_is_number hr (by rfl) (pa_cons (pv 1) pa_nil)) (pe_one (pe_and (pe_cmpR op_eq (pv 0) (pe_globS rfl M_FINE) (nomark _)) (pe_one (pe_cmpR op_isN (pv 1) pe_non (nomark _)))))))), ?_⟩
    walk_at "wp"
    refine ⟨_, optD o, rfl, Th.optV o, _, rfl, ?_⟩
    unfold worthB at hz
    cases hn : numD (optD o) with
    | true =>
      rw [if_pos rfl]
      exact q _ (Same.refl _)
    | false =>
      rw [hn, Bool.false_or] at hz
      obtain ⟨h1, h2⟩ := Bool.and_eq_true_iff.mp hz
      rw [if_neg (by decide), decide_eq_true (show z = Str.ofString "fine" from of_decide_eq_true h1), if_pos rfl]
      cases o with
      | some y => cases h2
      | none => exact q _ (Same.refl _)
abbrev s_with_part : Stmt := top 82
theorem sc_with_part : FnScope ["day", "part", "number", "name", "worth"] ["day", "part", "number"] (defScope s_with_part) := ⟨rfl, rfl, rfl, by decide +kernel, rfl, by decide +kernel, by decide +kernel⟩
def withD (s : Str) (o : Option Int) (d : Day) : Day := if s = "want" then { d with want := o.getD 0 } else if s = "loaf" then { d with loaf := o.getD 0 } else if s = "keep" then { d with keep := o.getD 0 } else if s = "fine" then { d with fine := o } else d
def spWith (K : PySem.W.Frag) : Sp := fun vs H Q _ => ∃ t s o d, vs = [.ref t, .str s, optV o] ∧ H t = some (.tup [.int d.want, .int d.loaf, .int d.keep, optV d.fine]) ∧ worthB s o = true ∧ ∀ H' r, Same H H' → H r = none → H' r = some (.tup [.int (withD s o d).want, .int (withD s o d).loaf, .int (withD s o d).keep, optV (withD s o d).fine]) → Q (.ref r) H'
def withL (s : Str) (o : Option Int) (d : Day) : List V := [if ("want" : Str) = s then optV o else .int d.want, if ("loaf" : Str) = s then optV o else .int d.loaf, if ("keep" : Str) = s then optV o else .int d.keep, if ("fine" : Str) = s then optV o else optV d.fine]
theorem withL_D {s : Str} {o : Option Int} {d : Day} (h : worthB s o = true) : withL s o d = [.int (withD s o d).want, .int (withD s o d).loaf, .int (withD s o d).keep, optV (withD s o d).fine] := by
  have ho : s ≠ "fine" → ∃ y, o = some y := fun hn => by
    unfold worthB at h
    rw [decide_eq_false hn, Bool.false_and, Bool.or_false] at h
    cases o with
    | none => cases h
    | some y => exact ⟨y, rfl⟩
  have n12 : ¬ (("loaf" : Str) = "want") := by decide +kernel
  have n13 : ¬ (("keep" : Str) = "want") := by decide +kernel
  have n14 : ¬ (("fine" : Str) = "want") := by decide +kernel
  have n23 : ¬ (("keep" : Str) = "loaf") := by decide +kernel
  have n24 : ¬ (("fine" : Str) = "loaf") := by decide +kernel
  have n34 : ¬ (("fine" : Str) = "keep") := by decide +kernel
  unfold withL withD
  by_cases h1 : s = "want"
  · subst h1
    obtain ⟨y, rfl⟩ := ho (fun e => n14 e.symm)
    rw [if_pos rfl, if_neg n12, if_neg n13, if_neg n14, if_pos rfl]
    rfl
  · by_cases h2 : s = "loaf"
    · subst h2
      obtain ⟨y, rfl⟩ := ho (fun e => n24 e.symm)
      rw [if_neg (fun e => n12 e.symm), if_pos rfl, if_neg n23, if_neg n24, if_neg n12, if_pos rfl]
      rfl
    · by_cases h3 : s = "keep"
      · subst h3
        obtain ⟨y, rfl⟩ := ho (fun e => n34 e.symm)
        rw [if_neg (fun e => n13 e.symm), if_neg (fun e => n23 e.symm), if_pos rfl, if_neg n34, if_neg n13, if_neg n23, if_pos rfl]
        rfl
      · by_cases h4 : s = "fine"
        · subst h4
          rw [if_neg (fun e => n14 e.symm), if_neg (fun e => n24 e.symm), if_neg (fun e => n34 e.symm), if_pos rfl, if_neg n14, if_neg n24, if_neg n34, if_pos rfl]
        · rw [if_neg (fun e => h1 e.symm), if_neg (fun e => h2 e.symm), if_neg (fun e => h3 e.symm), if_neg (fun e => h4 e.symm), if_neg h1, if_neg h2, if_neg h3, if_neg h4]
theorem ok_with_part {f : Addr} {fd : FuncData} {A : Addr} (F : Fun K "with_part" "with_part" s_with_part f fd) (B : Bi mg) (Bz : mg "zip" = none) (M_PARTS : mg "PARTS" = some (.ref A)) (PT : PartsT K A) : FnOk P w K mg base CX0 1 f fd ["day", "part", "number"] (spWith K) := by
  refine F.ok sc_with_part (fun vs H Q E h => ?_) (fun cdv A outer s H vs Q E hr h => ?_)
  · obtain ⟨_, _, _, _, rfl, _⟩ := h
    rfl
  · obtain ⟨t, z, o, d, rfl, ht, hz, q⟩ := h
    refine ⟨_, (pss_one (ps_ret (pe_callTy call_tuple_of (by rfl) B.tuple (by decide +kernel) (pa_cons (pe_lc (own := [("name", 3), ("worth", 4)]) (g := (gTup K 2 (gCons (gName 3) (gCons (gName 4) gNil)))) rfl sc_with_part.nd (RZ.pi_zipA (by rfl) Bz (pa_cons (pe_globR (by rfl) M_PARTS) (pa_cons (pv 0) pa_nil))) (blkOk_by (own := [("name", 3), ("worth", 4)]) (N := ["day", "part", "number", "name", "worth"]) (sc := defScope s_with_part) (by decide +kernel)) (fun _ _ _ _ _ => (pg_tup rfl (pgs_cons (pg_name (i := 3) sc_with_part.nd rfl (Or.inl rfl)) (pgs_cons (pg_name (i := 4) sc_with_part.nd rfl (Or.inl rfl)) pgs_nil)))) (fun _ _ _ _ _ => pts_nil) (fun _ _ _ _ _ => (pe_ifExp (pt_cmpR op_eq (pv 3) (pv 1) (nomark _)) (pv 2) (pv 4)))) pa_nil)))), ?_⟩
    walk_at "wp"
    have ht' : SqT K H t [.int d.want, .int d.loaf, .int d.keep, optV d.fine] := SqT.of ht
    refine ⟨partsL.map V.str, [.int d.want, .int d.loaf, .int d.keep, optV d.fine], .inr ⟨PT _, ht', fun D hD => ?_⟩⟩
    refine LcR.map (walk_zipT (n := 4) (xs := partsL.map V.str) (ys := [.int d.want, .int d.loaf, .int d.keep, optV d.fine]) rfl) (withL z o d) hD rfl (by decide) (fun H1 s => ⟨PT _, Same.tup s ht'⟩) (fun _ _ _ _ y => ypair_same y) (fun i x y H0 H1 hi s1 yy hy R hR => ?_) (fun H1 s1 hH => ?_)
    · obtain ⟨U, z1, z2, rfl, hU, rfl, e1, e2⟩ := yy
      have SU := same_upd (o := .tup [z1, z2]) hU
      walk_at "wp"
      refine ⟨_, SqT.of upd_same, rfl, ?_⟩
      generalize upd H0 U (.tup [z1, z2]) = H2 at SU hR ⊢
      have fin : ∀ w : V, y = w → R w H2 := fun w e => by rw [← e]; exact hR _ (Same.refl _)
      have e1 : (partsL.map V.str)[i]? = some z1 := e1
      have e2 : ([.int d.want, .int d.loaf, .int d.keep, optV d.fine] : List V)[i]? = some z2 := e2
      rcases (by omega : i = 0 ∨ i = 1 ∨ i = 2 ∨ i = 3) with rfl | rfl | rfl | rfl
      all_goals
        cases e1
        cases e2
        cases hy
        walk_at "wp"
        split
        · rename_i hc
          exact fin _ (if_pos (of_decide_eq_true hc))
        · rename_i hc
          exact fin _ (if_neg fun e => hc (decide_eq_true e))
    · have hD1 : SqL K H1 D (withL z o d) := SqL.of hH
      refine ⟨D, _, rfl, .inl ⟨hD1, fun l hl => ?_⟩⟩
      have S2 := same_upd (o := .tup (withL z o d)) hl
      refine q _ l (s1.trans S2) (by
        cases e : H l with
        | none => rfl
        | some o' => rw [s1 _ _ e] at hl; cases hl) ?_
      rw [upd_same, withL_D hz]
abbrev s_others_now : Stmt := top 83
theorem sc_others_now : FnScope ["before", "after", "at", "old", "new"] ["before", "after"] (defScope s_others_now) := ⟨rfl, rfl, rfl, by decide +kernel, rfl, by decide +kernel, by decide +kernel⟩
def othersN (xs ys : List Int) (n : Nat) : List Int := ((List.range n).filter fun i => decide (xs[i]? ≠ ys[i]?)).map fun (i : Nat) => (i : Int)
def othersL (xs ys : List Int) : List Int := othersN xs ys (min xs.length ys.length)
theorem othersN_succ (xs ys : List Int) (i : Nat) : othersN xs ys (i + 1) = if xs[i]? ≠ ys[i]? then othersN xs ys i ++ [(i : Int)] else othersN xs ys i := by
  unfold othersN
  rw [List.range_succ, List.filter_append, List.map_append]
  by_cases h : xs[i]? ≠ ys[i]?
  · rw [if_pos h]
    congr 1
    simp only [List.filter_cons, List.filter_nil, decide_eq_true h, if_true, List.map_cons, List.map_nil]
  · rw [if_neg h]
    simp only [List.filter_cons, List.filter_nil, decide_eq_false h, Bool.false_eq_true, if_false, List.map_nil, List.append_nil]
theorem othersN_len (xs ys : List Int) (i : Nat) : (othersN xs ys i).length ≤ i := by
  unfold othersN
  rw [List.length_map]
  have := List.length_filter_le (fun i => decide (xs[i]? ≠ ys[i]?)) (List.range i)
  rw [List.length_range] at this
  exact this
def spOthers (K : PySem.W.Frag) : Sp := fun vs H Q _ => ∃ a b xs ys, vs = [.ref a, .ref b] ∧ SqL K H a (xs.map V.int) ∧ SqL K H b (ys.map V.int) ∧ xs.length ≤ 1000 ∧ ys.length ≤ 1000 ∧ ∀ H' p, Same H H' → H p = none → H' p = some (.lst ((othersL xs ys).map V.int)) → Q (.ref p) H'
theorem ok_others_now {f : Addr} {fd : FuncData} (F : Fun K "others_now" "others_now" s_others_now f fd) (B : Bi mg) (Bz : mg "zip" = none) : FnOk P w K mg base CX0 1 f fd ["before", "after"] (spOthers K) := by
  refine F.ok sc_others_now (fun vs H Q E h => ?_) (fun cdv A outer s H vs Q E hr h => ?_)
  · obtain ⟨_, _, _, _, rfl, _⟩ := h
    rfl
  · obtain ⟨a, b, xs, ys, rfl, ha, hb, hx, hy, q⟩ := h
    refine ⟨_, (pss_one (ps_ret (pe_lc (own := [("at", 2), ("old", 3), ("new", 4)]) (g := (gTup K 2 (gCons (gName 2) (gCons (gTup K 2 (gCons (gName 3) (gCons (gName 4) gNil))) gNil)))) rfl sc_others_now.nd (pi_enumzip (by rfl) B.enumerate (by rfl) Bz (pa_cons (pv 0) (pa_cons (pv 1) pa_nil))) (blkOk_by (own := [("at", 2), ("old", 3), ("new", 4)]) (N := ["before", "after", "at", "old", "new"]) (sc := defScope s_others_now) (by decide +kernel)) (fun _ _ _ _ _ => (pg_tup rfl (pgs_cons (pg_name (i := 2) sc_others_now.nd rfl (Or.inl rfl)) (pgs_cons (pg_tup rfl (pgs_cons (pg_name (i := 3) sc_others_now.nd rfl (Or.inl rfl)) (pgs_cons (pg_name (i := 4) sc_others_now.nd rfl (Or.inl rfl)) pgs_nil))) pgs_nil)))) (fun _ _ _ _ _ => (pts_one (pt_cmpR op_ne (pv 3) (pv 4) (nomark _)))) (fun _ _ _ _ _ => (pv 2))))), ?_⟩
    walk_at "wp"
    refine ⟨_, _, ha, hb, fun D hD => ?_⟩
    refine LcR.by (walk_enumzip (n := min xs.length ys.length) (xs := xs.map V.int) (ys := ys.map V.int) (by rw [List.length_map, List.length_map])) (fun i H1 => Same H H1 ∧ H1 D = some (.lst ((othersN xs ys i).map V.int))) ⟨same_upd hD, upd_same⟩ (fun i H1 _ hI => ⟨hI.1.seq ha, hI.1.seq hb⟩) (fun i x H0 H1 hi hI yy => ?_) (fun H1 hI => ?_)
    · obtain ⟨T, U, z1, z2, rfl, hT, hU, rfl, e1, e2⟩ := yy
      obtain ⟨S0, eD⟩ := hI
      have ST := same_upd (o := .tup [z1, z2]) hT
      have SU := same_upd (o := .tup [.int (i : Nat), .ref T]) hU
      have eT : upd (upd H0 T (.tup [z1, z2])) U (.tup [.int (i : Nat), .ref T]) T = some (.tup [z1, z2]) := SU _ _ upd_same
      have eU : upd (upd H0 T (.tup [z1, z2])) U (.tup [.int (i : Nat), .ref T]) U = some (.tup [.int (i : Nat), .ref T]) := upd_same
      have S2 := S0.trans (ST.trans SU)
      have eD2 := SU _ _ (ST _ _ eD)
      generalize upd (upd H0 T (.tup [z1, z2])) U (.tup [.int (i : Nat), .ref T]) = H2 at eT eU S2 eD2 ⊢
      have e1 : (xs.map V.int)[i]? = some z1 := e1
      have e2 : (ys.map V.int)[i]? = some z2 := e2
      rw [List.getElem?_map] at e1 e2
      obtain ⟨x1, hx1, rfl⟩ := Option.map_eq_some_iff.mp e1
      obtain ⟨y1, hy1, rfl⟩ := Option.map_eq_some_iff.mp e2
      walk_at "wp"
      refine ⟨_, SqT.of eU, rfl, ?_⟩
      walk_at "wp"
      refine ⟨_, SqT.of eT, rfl, ?_⟩
      walk_at "wp"
      have hlen := othersN_len xs ys i
      have sD : ∀ o, Same H (upd H2 D o) := fun o b p e => by
        rw [upd_ne (fun z => by rw [z, hD] at e; cases e)]
        exact S2 _ _ e
      by_cases hne : x1 = y1
      · rw [decide_eq_true hne, Bool.not_true, if_neg (by decide)]
        refine ⟨S2, ?_⟩
        rw [othersN_succ, if_neg (by rw [hx1, hy1, hne]; exact fun h => h rfl)]
        exact eD2
      · rw [decide_eq_false hne, Bool.not_false, if_pos rfl]
        refine ⟨_, eD2, by rw [List.length_map]; exact Nat.lt_of_le_of_lt (show _ ≤ 1000 by omega) (by decide), sD _, ?_⟩
        rw [upd_same, othersN_succ, if_pos (by rw [hx1, hy1]; exact fun h => hne (Option.some.inj h)), List.map_append]
        rfl
    · exact q _ _ hI.1 (by
        cases e : H D with
        | none => rfl
        | some o' => rw [hD] at e; cases e) (by rw [hI.2]; rfl)
end
end Bk

namespace Bk
open PySem PySem.Spec PyProof.Rows L2
open C8 (Met pe_mt pe_mt0)
local macro_rules | `(tactic| walk_at "wp") => `(tactic| try simp only [iZipA_eq, rZipA_r, iEnumZip_eq, rEnumZip_r, tFld_eq, tMeth_eq, rTIx_r, tTru, tScT2, rSetL_r, rSetOf2_r, rSorDT_r, rSetD, tDGet2, tDGet, tDNewT, cxW, rExtend_r, rSortU_r, rSetOf_r, rSortedSet_r, rNinr_r, rNeN_r, rCatL_r, rSlT_r, rListOf_r, rIsB_b, rNotB_b, tFmtO, tJs, tOst, tCallS, WE, tRaise2, rOne_i, rSorD_r, tDNewK, Int.zero_add, tNever, tFor_eq, tLc_eq, iList, iTup, iRng1_eq, rRng1_i, iRng2_eq, rRng2_i, iEnum_eq, rEnum_r, iZip_eq, rZip_r, tSl, tPart, tNoPart, rSlL_r, rCat_r, rIn_r, rNin_r, rRepr_r, iRevR, rMin_r, rShr_i, rOdd_i, rSetL_r, gSub, rRg1_i, rRg2_i, rInr_r, tAug, ipI_ii, tLstRg, tRg1, tRg2, gTup_r, gUnl_r, rInt1_b, rInt1_i, rRep_r, tStep_r, scal, tSeq, tNext, tAsg, tRet, tRetN, tIfS, tDrop, tCB, tCons, tNil, tVar, tOp, tUn, tC, rU_i, rI_ii, rI0_ii, rEq, rNe, tTest, tB, tAnd, tOr, tNot, tAndV, tOrV, tNotV, tIf, tChain, tLst, tTup, tBM, tBM0, rAppend_r, rIxL_r, rIxT_r, rMx_ii, rMn_ii, rLnL_r, rLnT_r, rIsD_int, rIsD_bool, rIsD_list, rIsD_tuple, tCall, gName, gNil_n, gCons_c, cxK, L2.start, List.map, List.replicate, List.length_cons, List.length_nil, List.cons_append, List.nil_append, List.append_nil, List.getElem?_cons_zero, List.getElem?_cons_succ, Option.some.injEq, exists_eq_left', exists_eq_left, V.int.injEq, V.bl.injEq, V.str.injEq, V.ref.injEq, List.cons.injEq, and_true, true_and, and_self, List.set, wipe, rAll_r, rSum_r, reduceCtorEq, decide_true, decide_false, reduceIte, ite_true, ite_false, if_true, if_false, Bool.false_eq_true, Bool.not_true, Bool.not_false])
local macro_rules | `(tactic| walk_at "shaped") => `(tactic| (simp only [SeqAt.shaped, PyData.canLay0, PyData.canLayAll0, PyData.depth, PyData.depthAll]; rfl))
local macro_rules | `(tactic| walk_at "lay") => `(tactic| (simp only [PyData.canLay0, PyData.canLayAll0]; rfl))
local macro_rules | `(tactic| walk_at "wg") => `(tactic| try simp only [gName, gTup_r, gCons_c, gNil_n, cxK, List.set, List.cons.injEq, and_true, true_and, exists_eq_left', exists_eq_left, List.length_cons, List.length_nil])
section
variable {P : Program} {w : World} {K : PySem.W.Frag} {mg : Str → Option Value} {base : Heap}
abbrev s_Ledger_bakery : Stmt := inClass (top 84) 4
theorem sc_Ledger_bakery : FnScope ["self"] ["self"] (defScope s_Ledger_bakery) := ⟨rfl, rfl, rfl, by decide +kernel, rfl, by decide +kernel, by decide +kernel⟩
def spLBak (K : PySem.W.Frag) (C : Addr) : Sp := fun vs H Q _ => ∃ p L D E ls g ds, vs = [.ref p] ∧ Led C H p L D E ls g ds ∧ ∀ H' t, Same H H' → Tk (but [L, D, E] H') (.ref t) (bakD ⟨ls, none, [g]⟩) → Q (.ref t) H'
theorem ok_Ledger_bakery {f C : Addr} {fd : FuncData} (F : Fun K "bakery" "Ledger.bakery" s_Ledger_bakery f fd) (B : Bi mg) (T : LTxt K C) : FnOk P w K mg base CX0 1 f fd ["self"] (spLBak K C) := by
  refine F.ok sc_Ledger_bakery (fun vs H Q E h => ?_) (fun cdv A outer s H vs Q E hr h => ?_)
  · obtain ⟨_, _, _, _, _, _, _, rfl, _⟩ := h
    rfl
  · obtain ⟨p, L, D, E, ls, g, ds, rfl, hL, q⟩ := h
    refine ⟨_, (pss_one (ps_ret (pe_tup (pa_cons (pe_callTy call_listOf (by rfl) B.list (by decide +kernel) (pa_cons (pe_fld (pv 0) rfl) pa_nil)) (pa_cons pe_non (pa_cons (pe_lst (pa_cons (pe_tup (pa_cons (pe_callTy call_listOf (by rfl) B.list (by decide +kernel) (pa_cons (pe_fld (pv 0) rfl) pa_nil)) (pa_cons (pe_fld (pv 0) rfl) pa_nil))) pa_nil)) pa_nil)))))), ?_⟩
    obtain ⟨xs, hd, htk⟩ := hL.da
    walk_at "wp"
    refine hL.fLights T ?_
    walk_at "wp"
    refine ⟨_, .inl (SqL.of hL.li), fun p1 h1 => ?_⟩
    have n1 := hL.not_new h1
    have S1 := same_upd (o := .lst (ls.map V.int)) h1
    have e1 : upd H p1 (.lst (ls.map V.int)) p1 = some (.lst (ls.map V.int)) := upd_same
    generalize upd H p1 (.lst (ls.map V.int)) = H1 at S1 e1 ⊢
    have hL1 := hL.same S1
    refine hL1.fDays T ?_
    walk_at "wp"
    refine ⟨_, .inl (SqL.of (S1 _ _ hd)), fun p2 h2 => ?_⟩
    have n2 := hL1.not_new h2
    have S2 := same_upd (o := .lst xs) h2
    have e2 : upd H1 p2 (.lst xs) p2 = some (.lst xs) := upd_same
    generalize upd H1 p2 (.lst xs) = H2 at S2 e2 ⊢
    have hL2 := hL1.same S2
    refine hL2.fLife T ?_
    walk_at "wp"
    refine ⟨sz100 (by decide), fun p3 h3 => ?_⟩
    have n3 := hL2.not_new h3
    have S3 := same_upd (o := .tup [.ref p2, optV g.life]) h3
    have e3 : upd H2 p3 (.tup [.ref p2, optV g.life]) p3 = some (.tup [.ref p2, optV g.life]) := upd_same
    generalize upd H2 p3 (.tup [.ref p2, optV g.life]) = H3 at S3 e3 ⊢
    have hL3 := hL2.same S3
    refine ⟨sz100 (by decide), fun p4 h4 => ?_⟩
    have n4 := hL3.not_new h4
    have S4 := same_upd (o := .lst [.ref p3]) h4
    have e4 : upd H3 p4 (.lst [.ref p3]) p4 = some (.lst [.ref p3]) := upd_same
    generalize upd H3 p4 (.lst [.ref p3]) = H4 at S4 e4 ⊢
    have hL4 := hL3.same S4
    refine ⟨sz100 (by decide), fun p5 h5 => ?_⟩
    have n5 := hL4.not_new h5
    have S5 := same_upd (o := .tup [.ref p1, .non, .ref p4]) h5
    have e5 : upd H4 p5 (.tup [.ref p1, .non, .ref p4]) p5 = some (.tup [.ref p1, .non, .ref p4]) := upd_same
    generalize upd H4 p5 (.tup [.ref p1, .non, .ref p4]) = H5 at S5 e5 ⊢
    have S15 := S2.trans (S3.trans (S4.trans S5))
    have SA := S1.trans S15
    refine q _ _ SA ?_
    have hdays : TkAll (but [L, D, E] H5) xs (g.days.map dayD) := htk.same fun b o e => by
      obtain ⟨e', ys, rfl⟩ := tupsOf_is e
      exact but_at (hL.not_tup e') (SA _ _ e')
    exact .tup (but_at n5 e5) (.cons (.lst (but_at n1 (S15 _ _ e1)) (TkAll.ints ls)) (.cons .non (.cons (.lst (but_at n4 (S5 _ _ e4)) (.cons (.tup (but_at n3 ((S4.trans S5) _ _ e3)) (.cons (.lst (but_at n2 ((S3.trans (S4.trans S5)) _ _ e2)) hdays) (.cons (Tk.optV _) .nil))) .nil)) .nil)))
abbrev s_Ledger_costs : Stmt := inClass (top 84) 5
theorem sc_Ledger_costs : FnScope ["self"] ["self"] (defScope s_Ledger_costs) := ⟨rfl, rfl, rfl, by decide +kernel, rfl, by decide +kernel, by decide +kernel⟩
def spLCosts (K : PySem.W.Frag) (C : Addr) : Sp := fun vs H Q _ => ∃ p L D E ls g ds, vs = [.ref p] ∧ Led C H p L D E ls g ds ∧ ∀ (H' : Hp) (r : Addr) (rs : List Int), Same H H' → H r = none → H' r = some (.lst (rs.map V.int)) → rs.length = ls.length + 1 → IsRow g (rowF ls) (rowF rs) ls.length → Q (.ref r) H'
theorem ok_Ledger_costs {f C : Addr} {fd : FuncData} (F : Fun K "costs" "Ledger.costs" s_Ledger_costs f fd) (D_least_row : Def P w K mg base "least_row" 9 ["bakery"] (spRow K)) (T_bakery : Met P w K mg base 1 C "bakery" (spLBak K C) []) : FnOk P w K mg base CX0 10 f fd ["self"] (spLCosts K C) := by
  refine F.ok sc_Ledger_costs (fun vs H Q E h => ?_) (fun cdv A outer s H vs Q E hr h => ?_)
  · obtain ⟨_, _, _, _, _, _, _, rfl, _⟩ := h
    rfl
  · obtain ⟨p, L, D, E, ls, g, ds, rfl, hL, q⟩ := h
    refine ⟨_, (pss_one (ps_ret (pe_callD D_least_row hr (by rfl) (pa_cons (pe_mt0 T_bakery hr (by omega) (pv 0)) pa_nil)))), ?_⟩
    walk_at "wp"
    refine ⟨hL.isObj, ?_⟩
    walk_at "wp"
    refine ⟨p, L, D, E, ls, g, ds, rfl, hL, fun H1 t S1 ht => ?_⟩
    refine ⟨_, ls, g, rfl, (ht.same (but_same _ _)).th, hL.ok, fun H2 r rs S2 hr2 e2 hl hrow => ?_⟩
    refine q _ r rs (S1.trans S2) ?_ e2 hl hrow
    cases e : H r with
    | none => rfl
    | some o => rw [S1 _ _ e] at hr2; cases hr2
theorem day_at {H : Hp} {xs : List V} {ys : List Day} {i : Nat} {d : Day} (h : TkAll (tupsOf H) xs (ys.map dayD)) (hd : ys[i]? = some d) : ∃ v, xs[i]? = some v ∧ ∃ t, v = .ref t ∧ H t = some (.tup [.int d.want, .int d.loaf, .int d.keep, optV d.fine]) := by
  have hl := h.length
  rw [List.length_map] at hl
  have hi := (List.getElem?_eq_some_iff.mp hd).1
  obtain ⟨dd, h1, h2⟩ := h.get (List.getElem?_eq_getElem (show i < xs.length by omega))
  rw [List.getElem?_map, hd] at h1
  cases h1
  refine ⟨_, List.getElem?_eq_getElem (show i < xs.length by omega), ?_⟩
  generalize xs[i] = v at h2
  have h2 : Tk (tupsOf H) v (.tuple [.int d.want, .int d.loaf, .int d.keep, optD d.fine]) := h2
  cases h2 with
  | tup ht hta =>
    cases hta with
    | cons t1 hta => cases hta with
    | cons t2 hta => cases hta with
    | cons t3 hta => cases hta with
    | cons t4 hta =>
    cases hta
    cases t1; cases t2; cases t3
    have e := t4.opt
    subst e
    exact ⟨_, rfl, (tupsOf_is ht).1⟩
theorem Led.day1 {C p L D E : Addr} {H : Hp} {ls : List Int} {g : Good} {ds : List Deed} (h : Led C H p L D E ls g ds) : g.days.length = ls.length ∧ 1 ≤ ls.length ∧ ls.length ≤ 40 := by
  obtain ⟨⟨c1, c2⟩, c3, c4, ⟨c5, c6⟩, c7⟩ := bak_parts h.ok
  exact ⟨(c7 g List.mem_cons_self).1, c1, c2⟩
abbrev s_Ledger_worth_at : Stmt := inClass (top 84) 13
theorem sc_Ledger_worth_at : FnScope ["self", "day", "part"] ["self", "day", "part"] (defScope s_Ledger_worth_at) := ⟨rfl, rfl, rfl, by decide +kernel, rfl, by decide +kernel, by decide +kernel⟩
def worthD (s : Str) (d : Day) : Option Int := if s = "want" then some d.want else if s = "loaf" then some d.loaf else if s = "keep" then some d.keep else d.fine
def worthL (ls : List Int) (g : Good) (i : Nat) (s : Str) : Option Int := if s = "light" then some (rowF ls i) else match g.days[i]? with
  | some d => worthD s d
  | none => none
def spLWorth (K : PySem.W.Frag) (C : Addr) : Sp := fun vs H Q _ => ∃ p L D E ls g ds, ∃ (i : Nat) (s : Str), vs = [.ref p, .int (i : Int), .str s] ∧ Led C H p L D E ls g ds ∧ i < ls.length ∧ partB s = true ∧ ∀ H', Same H H' → Q (optV (worthL ls g i s)) H'
theorem ok_Ledger_worth_at {f C A1 : Addr} {fd : FuncData} {t1 : Tok} (F : Fun K "worth_at" "Ledger.worth_at" s_Ledger_worth_at f fd) (T : LTxt K C) (M_LIGHT : mg "LIGHT" = some (.str "light" t1)) (M_PARTS : mg "PARTS" = some (.ref A1)) (PT : PartsT K A1) (PTy : ∃ o, K.lookup A1 = some o ∧ o.cls = .type "tuple" ∧ o.dict = none) : FnOk P w K mg base CX0 1 f fd ["self", "day", "part"] (spLWorth K C) := by
  refine F.ok sc_Ledger_worth_at (fun vs H Q E h => ?_) (fun cdv A outer s H vs Q E hr h => ?_)
  · obtain ⟨_, _, _, _, _, _, _, _, _, rfl, _⟩ := h
    rfl
  · obtain ⟨p, L, D, E, ls, g, ds, i, z, rfl, hL, hi, hz, q⟩ := h
    refine ⟨_, (pss_one (ps_ret (pe_ifExp (pt_cmpR op_eq (pv 2) (pe_globS rfl M_LIGHT) (nomark _)) (pe_ix ix_list (pe_fld (pv 0) rfl) (pv 1) (fun _ _ => rfl)) (pe_ix ix_tup (pe_ix ix_list (pe_fld (pv 0) rfl) (pv 1) (fun _ _ => rfl)) (pe_bm PySem.F.plainAttrs_tuple PySem.F.slot_tuple_index PySem.F.type_tuple_index mt_tix (pe_globR (by rfl) M_PARTS) (pa_cons (pv 2) pa_nil)) (fun _ _ => rfl))))), ?_⟩
    obtain ⟨xs, hd, htk⟩ := hL.da
    walk_at "wp"
    by_cases h1 : z = "light"
    · rw [decide_eq_true (show z = Str.ofString "light" from h1), if_pos rfl]
      refine hL.fLights T ?_
      walk_at "wp"
      refine ⟨_, _, SqL.of hL.li, atI_nat (j := i) (v := .int (rowF ls i)) ?_, ?_⟩
      · rw [List.getElem?_map, List.getElem?_eq_getElem hi]
        unfold rowF
        rw [List.getD_eq_getElem?_getD, List.getElem?_eq_getElem hi]
        rfl
      · have := q _ (Same.refl _)
        unfold worthL at this
        rw [if_pos h1] at this
        exact this
    · rw [decide_eq_false (show ¬ z = Str.ofString "light" from h1), if_neg (by decide)]
      refine hL.fDays T ?_
      walk_at "wp"
      have hm : z ∈ partsL := by
        unfold partB at hz
        rw [decide_eq_false h1, Bool.false_or] at hz
        exact of_decide_eq_true hz
      obtain ⟨c1, c2, c3⟩ := hL.day1
      have hdi : i < g.days.length := by omega
      have hd' : g.days[i]? = some g.days[i] := List.getElem?_eq_getElem hdi
      generalize g.days[i] = d at hd'
      obtain ⟨vd, hvd, t, rfl, ht⟩ := day_at htk hd'
      refine ⟨_, _, SqL.of hd, atI_nat (j := i) hvd, ?_⟩
      walk_at "wp"
      refine ⟨.inr (.inl ⟨rfl, PTy⟩), ?_⟩
      have hq := q _ (Same.refl _)
      unfold worthL at hq
      rw [if_neg h1, hd'] at hq
      have fin : ∀ (j : Nat) (v : V), partsL[j]? = some z → (∀ m, m < j → partsL[m]? ≠ some z) → ([.int d.want, .int d.loaf, .int d.keep, optV d.fine] : List V)[j]? = some v → v = optV (worthD z d) → ∃ ys j, SqT K H A1 (List.map V.str ys) ∧ ys[j]? = some z ∧ (∀ (m : Nat), m < j → ys[m]? ≠ some z) ∧ ∃ xs v, SqT K H t xs ∧ atI xs (j : Int) = some v ∧ Q v H := fun j v a1 a2 a3 a4 => by
        exact ⟨partsL, j, PT _, a1, a2, _, _, SqT.of ht, atI_nat (j := j) a3, by rw [a4]; exact hq⟩
      simp only [partsL, List.mem_cons, List.not_mem_nil, or_false] at hm
      rcases hm with rfl | rfl | rfl | rfl
      · exact fin 0 _ rfl (by decide +kernel) rfl (by unfold worthD; rw [if_pos rfl]; rfl)
      · exact fin 1 _ rfl (by decide +kernel) rfl (by unfold worthD; rw [if_neg (by decide +kernel), if_pos rfl]; rfl)
      · exact fin 2 _ rfl (by decide +kernel) rfl (by unfold worthD; rw [if_neg (by decide +kernel), if_neg (by decide +kernel), if_pos rfl]; rfl)
      · exact fin 3 _ rfl (by decide +kernel) rfl (by unfold worthD; rw [if_neg (by decide +kernel), if_neg (by decide +kernel), if_neg (by decide +kernel)])
end
end Bk

namespace Bk
open PySem PySem.Spec PyProof.Rows L2
open C8 (Met pe_mt pe_mt0)
local macro_rules | `(tactic| walk_at "wp") => `(tactic| try simp only [iZipA_eq, rZipA_r, iEnumZip_eq, rEnumZip_r, tFld_eq, tMeth_eq, rTIx_r, tTru, tScT2, rSetL_r, rSetOf2_r, rSorDT_r, rSetD, tDGet2, tDGet, tDNewT, cxW, rExtend_r, rSortU_r, rSetOf_r, rSortedSet_r, rNinr_r, rNeN_r, rCatL_r, rSlT_r, rListOf_r, rIsB_b, rNotB_b, tFmtO, tJs, tOst, tCallS, WE, tRaise2, rOne_i, rSorD_r, tDNewK, Int.zero_add, tNever, tFor_eq, tLc_eq, iList, iTup, iRng1_eq, rRng1_i, iRng2_eq, rRng2_i, iEnum_eq, rEnum_r, iZip_eq, rZip_r, tSl, tPart, tNoPart, rSlL_r, rCat_r, rIn_r, rNin_r, rRepr_r, iRevR, rMin_r, rShr_i, rOdd_i, rSetL_r, gSub, rRg1_i, rRg2_i, rInr_r, tAug, ipI_ii, tLstRg, tRg1, tRg2, gTup_r, gUnl_r, rInt1_b, rInt1_i, rRep_r, tStep_r, scal, tSeq, tNext, tAsg, tRet, tRetN, tIfS, tDrop, tCB, tCons, tNil, tVar, tOp, tUn, tC, rU_i, rI_ii, rI0_ii, rEq, rNe, tTest, tB, tAnd, tOr, tNot, tAndV, tOrV, tNotV, tIf, tChain, tLst, tTup, tBM, tBM0, rAppend_r, rIxL_r, rIxT_r, rMx_ii, rMn_ii, rLnL_r, rLnT_r, rIsD_int, rIsD_bool, rIsD_list, rIsD_tuple, tCall, gName, gNil_n, gCons_c, cxK, L2.start, List.map, List.replicate, List.length_cons, List.length_nil, List.cons_append, List.nil_append, List.append_nil, List.getElem?_cons_zero, List.getElem?_cons_succ, Option.some.injEq, exists_eq_left', exists_eq_left, V.int.injEq, V.bl.injEq, V.str.injEq, V.ref.injEq, List.cons.injEq, and_true, true_and, and_self, List.set, wipe, rAll_r, rSum_r, reduceCtorEq, decide_true, decide_false, reduceIte, ite_true, ite_false, if_true, if_false, Bool.false_eq_true, Bool.not_true, Bool.not_false])
local macro_rules | `(tactic| walk_at "shaped") => `(tactic| (simp only [SeqAt.shaped, PyData.canLay0, PyData.canLayAll0, PyData.depth, PyData.depthAll]; rfl))
local macro_rules | `(tactic| walk_at "lay") => `(tactic| (simp only [PyData.canLay0, PyData.canLayAll0]; rfl))
local macro_rules | `(tactic| walk_at "wg") => `(tactic| try simp only [gName, gTup_r, gCons_c, gNil_n, cxK, List.set, List.cons.injEq, and_true, true_and, exists_eq_left', exists_eq_left, List.length_cons, List.length_nil])
section
variable {P : Program} {w : World} {K : PySem.W.Frag} {mg : Str → Option Value} {base : Heap}
abbrev s_Ledger_set_part : Stmt := inClass (top 84) 14
theorem sc_Ledger_set_part : FnScope ["self", "day", "part", "number", "before"] ["self", "day", "part", "number"] (defScope s_Ledger_set_part) := ⟨rfl, rfl, rfl, by decide +kernel, rfl, by decide +kernel, by decide +kernel⟩
/-- a bakery's days and lights with one part set -/
def setLs (ls : List Int) (i : Nat) (s : Str) (o : Option Int) : List Int := if s = "light" then ls.set i (o.getD 0) else ls
def setGd (g : Good) (i : Nat) (s : Str) (o : Option Int) : Good := if s = "light" then g else match g.days[i]? with
  | some d => setG g i (withD s o d)
  | none => g
theorem setLs_len {ls : List Int} {i : Nat} {s : Str} {o : Option Int} : (setLs ls i s o).length = ls.length := by
  unfold setLs
  split
  · rw [List.length_set]
  · rfl
theorem optD_num {o : Option Int} (h : numD (optD o) = true) : ∃ z, o = some z ∧ numD (.int z) = true := by
  cases o with
  | none => cases h
  | some z => exact ⟨z, rfl, h⟩
theorem worth_num {s : Str} {o : Option Int} (h : worthB s o = true) (hs : s ≠ "fine") : ∃ z, o = some z ∧ numD (.int z) = true := by
  unfold worthB at h
  rw [decide_eq_false hs, Bool.false_and, Bool.or_false] at h
  exact optD_num h
theorem withD_ok {s : Str} {o : Option Int} {d : Day} (h : worthB s o = true) (hd : dayB (dayD d) = true) : dayB (dayD (withD s o d)) = true := by
  obtain ⟨w, l, k, f⟩ := d
  simp only [dayB, dayD, Bool.and_eq_true] at hd ⊢
  obtain ⟨⟨⟨a1, a2⟩, a3⟩, a4⟩ := hd
  unfold withD
  by_cases h1 : s = "want"
  · obtain ⟨y, rfl, hy⟩ := worth_num h (by rw [h1]; decide +kernel)
    rw [if_pos h1]
    exact ⟨⟨⟨hy, a2⟩, a3⟩, a4⟩
  · rw [if_neg h1]
    by_cases h2 : s = "loaf"
    · obtain ⟨y, rfl, hy⟩ := worth_num h (by rw [h2]; decide +kernel)
      rw [if_pos h2]
      exact ⟨⟨⟨a1, hy⟩, a3⟩, a4⟩
    · rw [if_neg h2]
      by_cases h3 : s = "keep"
      · obtain ⟨y, rfl, hy⟩ := worth_num h (by rw [h3]; decide +kernel)
        rw [if_pos h3]
        exact ⟨⟨⟨a1, a2⟩, hy⟩, a4⟩
      · rw [if_neg h3]
        by_cases h4 : s = "fine"
        · rw [if_pos h4]
          refine ⟨⟨⟨a1, a2⟩, a3⟩, ?_⟩
          cases o with
          | none => rfl
          | some y =>
            unfold worthB at h
            have h : numD (optD (some y)) = true := by
              rw [Option.isNone_some, Bool.and_false, Bool.or_false] at h
              exact h
            show (noneB (optD (some y)) || numD (optD (some y))) = true
            rw [h, Bool.or_true]
        · rw [if_neg h4]
          exact ⟨⟨⟨a1, a2⟩, a3⟩, a4⟩
def spLSet (K : PySem.W.Frag) (C : Addr) : Sp := fun vs H Q _ => ∃ p L D E ls g ds, ∃ (i : Nat) (s : Str) (o : Option Int), vs = [.ref p, .int (i : Int), .str s, optV o] ∧ Led C H p L D E ls g ds ∧ i < ls.length ∧ partB s = true ∧ worthB s o = true ∧
  ∀ (H' : Hp) (r : Addr) (bs cs : List Int), Same (but [L, D, E] H) (but [L, D, E] H') → Led C H' p L D E (setLs ls i s o) (setGd g i s o) ds → H r = none → H' r = some (.lst ((othersL bs cs).map V.int)) →
    bs.length = ls.length + 1 → IsRow g (rowF ls) (rowF bs) ls.length → cs.length = ls.length + 1 → IsRow (setGd g i s o) (rowF (setLs ls i s o)) (rowF cs) ls.length → Q (.ref r) H'
theorem ok_Ledger_set_part {f C : Addr} {fd : FuncData} {t1 : Tok} (F : Fun K "set_part" "Ledger.set_part" s_Ledger_set_part f fd) (T : LTxt K C) (M_LIGHT : mg "LIGHT" = some (.str "light" t1)) (D_with_part : Def P w K mg base "with_part" 1 ["day", "part", "number"] (spWith K)) (D_others_now : Def P w K mg base "others_now" 1 ["before", "after"] (spOthers K)) (T_costs : Met P w K mg base 10 C "costs" (spLCosts K C) []) : FnOk P w K mg base CX0 11 f fd ["self", "day", "part", "number"] (spLSet K C) := by
  refine F.ok sc_Ledger_set_part (fun vs H Q E h => ?_) (fun cdv A outer s H vs Q E hr h => ?_)
  · obtain ⟨_, _, _, _, _, _, _, _, _, _, rfl, _⟩ := h
    rfl
  · obtain ⟨p, L, D, E, ls, g, ds, i, z, o, rfl, hL, hi, hz, ho, q⟩ := h
    refine ⟨_, (pss_cons (ps_set (i := 4) sc_Ledger_set_part.nd rfl (Or.inl rfl) (pe_mt0 T_costs hr (by omega) (pv 0)))
 (pss_cons (ps_if (pt_cmpR op_eq (pv 2) (pe_globS rfl M_LIGHT) (nomark _)) (pss_one (ps_asg (pv 3) (pg_sub (pe_fld (pv 0) rfl) (pv 1) set_list))) (pss_one (ps_asg (pe_callD D_with_part hr (by rfl) (pa_cons (pe_ix ix_list (pe_fld (pv 0) rfl) (pv 1) (fun _ _ => rfl)) (pa_cons (pv 2) (pa_cons (pv 3) pa_nil)))) (pg_sub (pe_fld (pv 0) rfl) (pv 1) set_list))))
 (pss_one (ps_ret (pe_callD D_others_now hr (by rfl) (pa_cons (pv 4) (pa_cons (pe_mt0 T_costs hr (by omega) (pv 0)) pa_nil))))))), ?_⟩
    have h40 := hL.day1
    have after : ∀ (H1 H2 : Hp) (rb : Addr) (bs : List Int) (E8 : XK), Same H H1 → H rb = none → H1 rb = some (.lst (bs.map V.int)) → bs.length = ls.length + 1 → IsRow g (rowF ls) (rowF bs) ls.length → Same (but [L, D, E] H1) (but [L, D, E] H2) → Led C H2 p L D E (setLs ls i z o) (setGd g i z o) ds →
        IsObj C "costs" (V.ref p) H2 ∧ spLCosts K C [V.ref p] H2 (fun x4 H1 => spOthers K [V.ref rb, x4] H1 Q E0) E8 := fun H1 H2 rb bs E8 S1 hrb eb hbl hbr S2 hL2 => by
      refine ⟨hL2.isObj, p, L, D, E, _, _, ds, rfl, hL2, fun H3 rc cs S3 hrc ec hcl hcr => ?_⟩
      rw [setLs_len] at hcl hcr
      have hn := hL.not_new hrb
      have eb3 := S3 _ _ (but_is (S2 _ _ (but_at hn eb))).2
      refine ⟨rb, rc, bs, cs, rfl, SqL.of eb3, SqL.of ec, by omega, by omega, fun H4 r S4 hr4 e4 => ?_⟩
      refine q H4 r bs cs ((but_mono S1).trans (S2.trans (but_mono (S3.trans S4)))) ((hL2.same S3).same S4) ?_ e4 hbl hbr hcl hcr
      cases e : H r with
      | none => rfl
      | some ob =>
        by_cases hm : r ∈ [L, D, E]
        · exact absurd hm ((hL2.same S3).not_new hr4)
        · rw [(but_is ((S2.trans (but_mono S3)) _ _ (but_at hm (S1 _ _ e)))).2] at hr4
          cases hr4
    walk_at "wp"
    refine ⟨hL.isObj, ?_⟩
    walk_at "wp"
    refine ⟨p, L, D, E, ls, g, ds, rfl, hL, fun H1 rb bs S1 hrb eb hbl hbr => ?_⟩
    have hL1 := hL.same S1
    walk_at "wp"
    by_cases h1 : z = "light"
    · obtain ⟨y, rfl, hy⟩ := worth_num ho (by rw [h1]; decide +kernel)
      rw [decide_eq_true (show z = Str.ofString "light" from h1), if_pos rfl]
      refine hL1.fLights T ?_
      walk_at "wp"
      refine ⟨_, i, hL1.li, ixN_nat (by rw [List.length_map]; exact hi), ?_⟩
      have e1 : (ls.map V.int).set i (optV (some y)) = (ls.set i y).map V.int := by rw [List.map_set]; rfl
      rw [e1]
      refine after H1 _ rb bs _ S1 hrb eb hbl hbr (by rw [but_upd (by simp)]; exact Same.refl _) ?_
      have := hL1.light (i := i) hy
      unfold setLs setGd
      rw [if_pos h1, if_pos h1]
      exact this
    · rw [decide_eq_false (show ¬ z = Str.ofString "light" from h1), if_neg (by decide)]
      obtain ⟨xs, hd, htk⟩ := hL1.da
      have hdi : i < g.days.length := by omega
      have hd' : g.days[i]? = some g.days[i] := List.getElem?_eq_getElem hdi
      have hdm := List.getElem_mem hdi
      generalize g.days[i] = d at hd' hdm
      have hdo : dayB (dayD d) = true := ((bak_parts hL.ok).2.2.2.2 g List.mem_cons_self).2.2 d hdm
      obtain ⟨vd, hvd, t, rfl, ht⟩ := day_at htk hd'
      refine hL1.fDays T ?_
      walk_at "wp"
      refine ⟨_, _, SqL.of hd, atI_nat (j := i) hvd, ?_⟩
      refine ⟨t, z, o, d, rfl, ht, ho, fun H2 r S2 hr e2 => ?_⟩
      have hL2 := hL1.same S2
      refine hL2.fDays T ?_
      walk_at "wp"
      refine ⟨_, i, S2 _ _ hd, ixN_nat (by rw [htk.length, List.length_map]; exact hdi), ?_⟩
      refine after H1 _ rb bs _ S1 hrb eb hbl hbr (by rw [but_upd (by simp)]; exact but_mono S2) ?_
      have := hL2.day (i := i) (S2 _ _ hd) e2 (withD_ok ho hdo)
      unfold setLs setGd
      rw [if_neg h1, if_neg h1, hd']
      exact this
end
end Bk

namespace Bk
open PySem PySem.Spec PyProof.Rows L2
open C8 (Met pe_mt pe_mt0)
local macro_rules | `(tactic| walk_at "wp") => `(tactic| try simp only [sFld, iZipA_eq, rZipA_r, iEnumZip_eq, rEnumZip_r, tFld_eq, tMeth_eq, rTIx_r, tTru, tScT2, rSetL_r, rSetOf2_r, rSorDT_r, rSetD, tDGet2, tDGet, tDNewT, cxW, rExtend_r, rSortU_r, rSetOf_r, rSortedSet_r, rNinr_r, rNeN_r, rCatL_r, rSlT_r, rListOf_r, rIsB_b, rNotB_b, tFmtO, tJs, tOst, tCallS, WE, tRaise2, rOne_i, rSorD_r, tDNewK, Int.zero_add, tNever, tFor_eq, tLc_eq, iList, iTup, iRng1_eq, rRng1_i, iRng2_eq, rRng2_i, iEnum_eq, rEnum_r, iZip_eq, rZip_r, tSl, tPart, tNoPart, rSlL_r, rCat_r, rIn_r, rNin_r, rRepr_r, iRevR, rMin_r, rShr_i, rOdd_i, rSetL_r, gSub, rRg1_i, rRg2_i, rInr_r, tAug, ipI_ii, tLstRg, tRg1, tRg2, gTup_r, gUnl_r, rInt1_b, rInt1_i, rRep_r, tStep_r, scal, tSeq, tNext, tAsg, tRet, tRetN, tIfS, tDrop, tCB, tCons, tNil, tVar, tOp, tUn, tC, rU_i, rI_ii, rI0_ii, rEq, rNe, tTest, tB, tAnd, tOr, tNot, tAndV, tOrV, tNotV, tIf, tChain, tLst, tTup, tBM, tBM0, rAppend_r, rIxL_r, rIxT_r, rMx_ii, rMn_ii, rLnL_r, rLnT_r, rIsD_int, rIsD_bool, rIsD_list, rIsD_tuple, tCall, gName, gNil_n, gCons_c, cxK, L2.start, List.map, List.replicate, List.length_cons, List.length_nil, List.cons_append, List.nil_append, List.append_nil, List.getElem?_cons_zero, List.getElem?_cons_succ, Option.some.injEq, exists_eq_left', exists_eq_left, V.int.injEq, V.bl.injEq, V.str.injEq, V.ref.injEq, List.cons.injEq, and_true, true_and, and_self, List.set, wipe, rAll_r, rSum_r, reduceCtorEq, decide_true, decide_false, reduceIte, ite_true, ite_false, if_true, if_false, Bool.false_eq_true, Bool.not_true, Bool.not_false])
local macro_rules | `(tactic| walk_at "shaped") => `(tactic| (simp only [SeqAt.shaped, PyData.canLay0, PyData.canLayAll0, PyData.depth, PyData.depthAll]; rfl))
local macro_rules | `(tactic| walk_at "lay") => `(tactic| (simp only [PyData.canLay0, PyData.canLayAll0]; rfl))
local macro_rules | `(tactic| walk_at "wg") => `(tactic| try simp only [gName, gTup_r, gCons_c, gNil_n, cxK, List.set, List.cons.injEq, and_true, true_and, exists_eq_left', exists_eq_left, List.length_cons, List.length_nil])
section
variable {P : Program} {w : World} {K : PySem.W.Frag} {mg : Str → Option Value} {base : Heap}
abbrev s_Ledger_change : Stmt := inClass (top 84) 10
theorem sc_Ledger_change : FnScope ["self", "day", "part", "number"] ["self", "day", "part", "number"] (defScope s_Ledger_change) := ⟨rfl, rfl, rfl, by decide +kernel, rfl, by decide +kernel, by decide +kernel⟩
def spLChange (K : PySem.W.Frag) (C : Addr) : Sp := fun vs H Q _ => ∃ p L D E ls g ds, ∃ (i : Nat) (s : Str) (o : Option Int), vs = [.ref p, .int (i : Int), .str s, optV o] ∧ Led C H p L D E ls g ds ∧ ds.length ≤ 1000 ∧ i < ls.length ∧ partB s = true ∧ worthB s o = true ∧
  ∀ (H' : Hp) (r : Addr) (bs cs : List Int), Same (but [L, D, E] H) (but [L, D, E] H') → Led C H' p L D E (setLs ls i s o) (setGd g i s o) (ds ++ [some (i, s, worthL ls g i s)]) → H r = none → H' r = some (.lst ((othersL bs cs).map V.int)) →
    bs.length = ls.length + 1 → IsRow g (rowF ls) (rowF bs) ls.length → cs.length = ls.length + 1 → IsRow (setGd g i s o) (rowF (setLs ls i s o)) (rowF cs) ls.length → Q (.ref r) H'
theorem ok_Ledger_change {f C : Addr} {fd : FuncData} (F : FunD K "change" "Ledger.change" (defArgs s_Ledger_change) (defBody s_Ledger_change) (defScope s_Ledger_change) [.non] [] f fd) (B : Bi mg) (T : LTxt K C) (D_is_place : Def P w K mg base "is_place" 2 ["thing", "many"] (spPlace K)) (D_is_part : Def P w K mg base "is_part" 1 ["thing"] (spPart K)) (D_is_worth : Def P w K mg base "is_worth" 3 ["part", "thing"] (spWorth K)) (T_worth_at : Met P w K mg base 1 C "worth_at" (spLWorth K C) []) (T_set_part : Met P w K mg base 11 C "set_part" (spLSet K C) []) : FnOk P w K mg base CX0 12 f fd ["self", "day", "part", "number"] (spLChange K C) := by
  refine okD F sc_Ledger_change (fun vs H Q E h => ?_) (fun cdv A outer s H vs Q E hr h => ?_)
  · obtain ⟨_, _, _, _, _, _, _, _, _, _, rfl, _⟩ := h
    rfl
  · obtain ⟨p, L, D, E, ls, g, ds, i, z, o, rfl, hL, hds, hi, hz, ho, q⟩ := h
    refine ⟨_, (pss_cons (ps_if (pt_not (pt_val (pe_callD D_is_place hr (by rfl) (pa_cons (pv 1) (pa_cons (pe_callB call_lnL (by rfl) B.len (by decide +kernel) (pa_cons (pe_fld (pv 0) rfl) pa_nil)) pa_nil))))) (pss_one ps_never) pss_nil)
 (pss_cons (ps_if (pt_not (pt_val (pe_callD D_is_part hr (by rfl) (pa_cons (pv 2) pa_nil)))) (pss_one ps_never) pss_nil)
 (pss_cons (ps_if (pt_not (pt_val (pe_callD D_is_worth hr (by rfl) (pa_cons (pv 2) (pa_cons (pv 3) pa_nil))))) (pss_one ps_never) pss_nil)
 (pss_cons (ps_expr (pe_bm PySem.F.plainAttrs_list PySem.F.slot_list_append PySem.F.type_list_append mt_append (pe_fld (pv 0) rfl) (pa_cons (pe_tup (pa_cons (pv 1) (pa_cons (pv 2) (pa_cons (pe_mt T_worth_at hr (by omega) (pv 0) (pa_cons (pv 1) (pa_cons (pv 2) pa_nil))) pa_nil)))) pa_nil)))
 (pss_one (ps_ret (pe_mt T_set_part hr (by omega) (pv 0) (pa_cons (pv 1) (pa_cons (pv 2) (pa_cons (pv 3) pa_nil)))))))))), ?_⟩
    walk_at "wp"
    refine hL.fLights T ?_
    walk_at "wp"
    refine ⟨_, SqL.of hL.li, ?_⟩
    rw [List.length_map]
    refine ⟨(i : Int), ls.length, rfl, ?_⟩
    rw [decide_eq_true (show (0 : Int) ≤ (i : Int) by omega), decide_eq_true (show (i : Int) < (ls.length : Int) by omega)]
    walk_at "wp"
    have hE := hL.de
    obtain ⟨ws, he, hw⟩ := hE
    refine ⟨z, rfl, hz, fun H1 S1 => ?_⟩
    walk_at "wp"
    refine ⟨z, o, rfl, ho, fun H2 S2 => ?_⟩
    walk_at "wp"
    have hL2 := (hL.same S1).same S2
    refine hL2.fDeeds T ?_
    have he2 := S2 _ _ (S1 _ _ he)
    refine ⟨.inl ⟨rfl, _, SqL.of he2⟩, hL2.isObj, ?_⟩
    refine ⟨p, L, D, E, ls, g, ds, i, z, rfl, hL2, hi, hz, fun H3 S3 => ⟨sz100 (by decide), fun t ht => ?_⟩⟩
    have hL3 := hL2.same S3
    have S4 := same_upd (o := .tup [V.int (i : Int), V.str z, optV (worthL ls g i z)]) ht
    have e4 : upd H3 t (.tup [V.int (i : Int), V.str z, optV (worthL ls g i z)]) t = some (.tup [V.int (i : Int), V.str z, optV (worthL ls g i z)]) := upd_same
    generalize upd H3 t (.tup [V.int (i : Int), V.str z, optV (worthL ls g i z)]) = H4 at S4 e4 ⊢
    have hL4 := hL3.same S4
    have S14 := S1.trans (S2.trans (S3.trans S4))
    have he4 := S14 _ _ he
    walk_at "wp"
    refine ⟨_, he4, by rw [hw.length]; exact Nat.lt_of_le_of_lt hds (by decide), ?_⟩
    have hL5 := hL4.push (d := some (i, z, worthL ls g i z)) he4 ⟨t, rfl, e4⟩
    refine ⟨hL5.isObj, p, L, D, E, ls, g, _, i, z, o, rfl, hL5, hi, hz, ho, fun H6 r bs cs S6 hL6 hr6 e6 a1 a2 a3 a4 => ?_⟩
    have hbut := but_upd (S := [L, D, E]) (H := H4) (a := E) (o := .lst (ws ++ [V.ref t])) (by simp)
    rw [hbut] at S6
    refine q H6 r bs cs ((but_mono S14).trans S6) hL6 ?_ e6 a1 a2 a3 a4
    cases e : H r with
    | none => rfl
    | some ob =>
      by_cases hm : r = E
      · subst hm
        rw [upd_same] at hr6
        cases hr6
      · rw [upd_ne hm, S14 _ _ e] at hr6
        cases hr6
abbrev s_Ledger_back : Stmt := inClass (top 84) 11
theorem sc_Ledger_back : FnScope ["self", "deed", "day", "part", "number"] ["self"] (defScope s_Ledger_back) := ⟨rfl, rfl, rfl, by decide +kernel, rfl, by decide +kernel, by decide +kernel⟩
def spLBack (K : PySem.W.Frag) (C : Addr) : Sp := fun vs H Q _ => ∃ p L D E ls g ds, ∃ (i : Nat) (s : Str) (o : Option Int), vs = [.ref p] ∧ Led C H p L D E ls g (ds ++ [some (i, s, o)]) ∧ i < ls.length ∧ partB s = true ∧ worthB s o = true ∧
  ∀ (H' : Hp) (r : Addr) (bs cs : List Int), Same (but [L, D, E] H) (but [L, D, E] H') → Led C H' p L D E (setLs ls i s o) (setGd g i s o) ds → H r = none → H' r = some (.lst ((othersL bs cs).map V.int)) →
    bs.length = ls.length + 1 → IsRow g (rowF ls) (rowF bs) ls.length → cs.length = ls.length + 1 → IsRow (setGd g i s o) (rowF (setLs ls i s o)) (rowF cs) ls.length → Q (.ref r) H'
theorem ok_Ledger_back {f C : Addr} {fd : FuncData} (F : Fun K "back" "Ledger.back" s_Ledger_back f fd) (T : LTxt K C) (T_set_part : Met P w K mg base 11 C "set_part" (spLSet K C) []) : FnOk P w K mg base CX0 12 f fd ["self"] (spLBack K C) := by
  refine F.ok sc_Ledger_back (fun vs H Q E h => ?_) (fun cdv A outer s H vs Q E hr h => ?_)
  · obtain ⟨_, _, _, _, _, _, _, _, _, _, rfl, _⟩ := h
    rfl
  · obtain ⟨p, L, D, E, ls, g, ds, i, z, o, rfl, hL, hi, hz, ho, q⟩ := h
    refine ⟨_, (pss_cons (ps_if (pt_not (pt_tru (pe_fld (pv 0) rfl))) (pss_one ps_never) pss_nil)
 (pss_cons (ps_set (i := 1) sc_Ledger_back.nd rfl (Or.inl rfl) (pe_bm0 PySem.F.plainAttrs_list PySem.F.slot_list_pop PySem.F.type_list_pop mt_pop (pe_fld (pv 0) rfl)))
 (pss_cons (ps_if (pt_cmpR op_isN (pv 1) pe_non (nomark _)) (pss_cons (ps_expr (pe_bm0 PySem.F.plainAttrs_list PySem.F.slot_list_pop PySem.F.type_list_pop mt_pop (pe_fld (pv 0) rfl)))
 (pss_cons (ps_expr (pe_bm0 PySem.F.plainAttrs_list PySem.F.slot_list_pop PySem.F.type_list_pop mt_pop (pe_fld (pv 0) rfl)))
 (pss_one (ps_ret pe_non)))) pss_nil)
 (pss_cons (ps_asg (pv 1) (pg_tup rfl (pgs_cons (pg_name (i := 2) sc_Ledger_back.nd rfl (Or.inl rfl)) (pgs_cons (pg_name (i := 3) sc_Ledger_back.nd rfl (Or.inl rfl)) (pgs_cons (pg_name (i := 4) sc_Ledger_back.nd rfl (Or.inl rfl)) pgs_nil)))))
 (pss_one (ps_ret (pe_mt T_set_part hr (by omega) (pv 0) (pa_cons (pv 2) (pa_cons (pv 3) (pa_cons (pv 4) pa_nil)))))))))), ?_⟩
    obtain ⟨us, v, he, hv, hL2⟩ := hL.pop
    walk_at "wp"
    refine hL.fDeeds T ?_
    walk_at "wp"
    refine ⟨true, .inl ⟨_, SqL.of he, by simp⟩, ?_⟩
    rw [if_neg (by decide)]
    refine hL.fDeeds T ?_
    obtain ⟨t, rfl, ht⟩ := hv
    refine ⟨.inl ⟨rfl, _, SqL.of he⟩, E, _, V.ref t, rfl, rfl, he, by simp, ?_⟩
    rw [List.dropLast_concat]
    walk_at "wp"
    have ht2 : upd H E (.lst us) t = some (.tup [.int (i : Int), .str z, optV o]) := by
      rw [upd_ne (fun y => by rw [y, he] at ht; cases ht)]
      exact ht
    have hbut := but_upd (S := [L, D, E]) (H := H) (a := E) (o := .lst us) (by simp)
    have hnone : ∀ r, upd H E (.lst us) r = none → H r = none := fun r hr => by
      by_cases hm : r = E
      · subst hm
        rw [upd_same] at hr
        cases hr
      · rw [upd_ne hm] at hr
        exact hr
    generalize upd H E (.lst us) = H1 at hL2 ht2 hbut hnone ⊢
    refine ⟨_, SqT.of ht2, rfl, ?_⟩
    walk_at "wp"
    refine ⟨hL2.isObj, p, L, D, E, ls, g, ds, i, z, o, rfl, hL2, hi, hz, ho, fun H6 r bs cs S6 hL6 hr6 e6 a1 a2 a3 a4 => ?_⟩
    rw [hbut] at S6
    exact q H6 r bs cs S6 hL6 (hnone r hr6) e6 a1 a2 a3 a4
theorem fne1 : ¬ (("lights" : Str) = "days") := by decide +kernel
theorem fne2 : ¬ (("lights" : Str) = "life") := by decide +kernel
theorem fne3 : ¬ (("days" : Str) = "life") := by decide +kernel
theorem fne4 : ¬ (("lights" : Str) = "deeds") := by decide +kernel
theorem fne5 : ¬ (("days" : Str) = "deeds") := by decide +kernel
theorem fne6 : ¬ (("life" : Str) = "deeds") := by decide +kernel
theorem putL1 {v : V} : putF "lights" v [] = [(("lights" : Str), v)] := rfl
theorem putL2 {v w : V} : putF "days" w (putF "lights" v []) = [(("lights" : Str), v), ("days", w)] := by
  rw [putL1]
  show (if ("lights" : Str) = "days" then _ else _) = _
  rw [if_neg fne1]
  rfl
theorem putL3 {v w u : V} : putF "life" u (putF "days" w (putF "lights" v [])) = [(("lights" : Str), v), ("days", w), ("life", u)] := by
  rw [putL2]
  show (if ("lights" : Str) = "life" then _ else _ :: (if ("days" : Str) = "life" then _ else _)) = _
  rw [if_neg fne2, if_neg fne3]
  rfl
theorem putL4 {L D E : Addr} {u : V} : putF "deeds" (.ref E) (putF "life" u (putF "days" (.ref D) (putF "lights" (.ref L) []))) = lf L D E u := by
  rw [putL3]
  show (if ("lights" : Str) = "deeds" then _ else _ :: (if ("days" : Str) = "deeds" then _ else _ :: (if ("life" : Str) = "deeds" then _ else _))) = _
  rw [if_neg fne4, if_neg fne5, if_neg fne6]
  rfl
theorem day_tups {H : Hp} : ∀ {xs : List V} {ys : List Day}, TkAll H xs (ys.map dayD) → TkAll (tupsOf H) xs (ys.map dayD)
  | xs, [], h0 => by
    have h : TkAll H xs [] := h0
    cases h
    exact .nil
  | xs, d :: ys, h0 => by
    have h : TkAll H xs (dayD d :: ys.map dayD) := h0
    cases h with
    | cons hd t =>
      refine .cons ?_ (day_tups t)
      have hd : Tk H _ (.tuple [.int d.want, .int d.loaf, .int d.keep, optD d.fine]) := hd
      cases hd with
      | tup ht hta =>
        cases hta with
        | cons t1 hta => cases hta with
        | cons t2 hta => cases hta with
        | cons t3 hta => cases hta with
        | cons t4 hta =>
        cases hta
        cases t1; cases t2; cases t3
        have e := t4.opt
        subst e
        exact .tup (tupsOf_at ht) (.cons (.int _) (.cons (.int _) (.cons (.int _) (.cons (Tk.optV _) .nil))))
theorem tk_intsV {H : Hp} : ∀ {xs : List V} {ns : List Int}, TkAll H xs (ns.map PyData.int) → xs = ns.map V.int
  | _, [], .nil => rfl
  | _, n :: r, .cons (.int _) t => by rw [tk_intsV t]; rfl
theorem tk_bak1 {H : Hp} {x : V} {ls : List Int} {g : Good} (h : Tk H x (bakD ⟨ls, none, [g]⟩)) : ∃ ta al ga tg ad xs, x = .ref ta ∧ H ta = some (.tup [.ref al, .non, .ref ga]) ∧ H al = some (.lst (ls.map V.int)) ∧ H ga = some (.lst [.ref tg]) ∧ H tg = some (.tup [.ref ad, optV g.life]) ∧ H ad = some (.lst xs) ∧ TkAll (tupsOf H) xs (g.days.map dayD) := by
  have h : Tk H x (.tuple [.list (ls.map PyData.int), .none, .list [.tuple [.list (g.days.map dayD), optD g.life]]]) := h
  cases h with
  | tup ht hta =>
    cases hta with
    | cons t1 hta => cases hta with
    | cons t2 hta => cases hta with
    | cons t3 hta =>
    cases hta
    cases t2
    cases t1 with
    | lst hl hla =>
    cases t3 with
    | lst hg hga =>
    cases hga with
    | cons u1 hga =>
    cases hga
    cases u1 with
    | tup hu hua =>
    cases hua with
    | cons w1 hua => cases hua with
    | cons w2 hua =>
    cases hua
    have e := w2.opt
    subst e
    cases w1 with
    | lst hd hda =>
    have hxl := tk_intsV hla
    subst hxl
    exact ⟨_, _, _, _, _, _, rfl, ht, hl, hg, hu, hd, day_tups hda⟩
abbrev s_Ledger_init : Stmt := inClass (top 84) 0
theorem sc_Ledger_init : FnScope ["self", "bakery", "lights", "bound", "goods", "days", "life"] ["self", "bakery"] (defScope s_Ledger_init) := ⟨rfl, rfl, rfl, by decide +kernel, rfl, by decide +kernel, by decide +kernel⟩
def spLInit (K : PySem.W.Frag) (C : Addr) : Sp := fun vs H Q _ => ∃ (H0 : Hp) (p dx : Addr) (x : V) (ls : List Int) (g : Good), vs = [.ref p, x] ∧ Same H0 H ∧ H0 p = none ∧ H p = some (.ins C dx []) ∧ Tk (H0) x (bakD ⟨ls, none, [g]⟩) ∧ bakB (bakD ⟨ls, none, [g]⟩) = true ∧
  ∀ (H' : Hp) (L D E : Addr), Same H0 H' → H0 L = none → H0 D = none → H0 E = none → Led C H' p L D E ls g [] → Q .non H'
theorem ok_Ledger_init {f C : Addr} {fd : FuncData} (F : Fun K "__init__" "Ledger.__init__" s_Ledger_init f fd) (B : Bi mg) (T : LTxt K C) (D_look_at_plain : Def P w K mg base "look_at_plain" 8 ["bakery"] (spPlain K .non)) : FnOk P w K mg base CX0 9 f fd ["self", "bakery"] (spLInit K C) := by
  refine F.ok sc_Ledger_init (fun vs H Q E h => ?_) (fun cdv A outer s H vs Q E hr h => ?_)
  · obtain ⟨_, _, _, _, _, _, rfl, _⟩ := h
    rfl
  · obtain ⟨H0, p, dx, x, ls, g, rfl, s0, p0, hp, hx, hb, q⟩ := h
    refine ⟨_, (pss_cons (ps_expr (pe_callD D_look_at_plain hr (by rfl) (pa_cons (pv 1) pa_nil)))
 (pss_cons (ps_asg (pv 1) (pg_tup rfl (pgs_cons (pg_name (i := 2) sc_Ledger_init.nd rfl (Or.inl rfl)) (pgs_cons (pg_name (i := 3) sc_Ledger_init.nd rfl (Or.inl rfl)) (pgs_cons (pg_name (i := 4) sc_Ledger_init.nd rfl (Or.inl rfl)) pgs_nil)))))
 (pss_cons (ps_asg (pe_ix ix_list (pv 4) pe_int (fun _ _ => rfl)) (pg_tup rfl (pgs_cons (pg_name (i := 5) sc_Ledger_init.nd rfl (Or.inl rfl)) (pgs_cons (pg_name (i := 6) sc_Ledger_init.nd rfl (Or.inl rfl)) pgs_nil))))
 (pss_cons (ps_fld (pv 0) (pe_callTy call_listOf (by rfl) B.list (by decide +kernel) (pa_cons (pv 2) pa_nil)) rfl)
 (pss_cons (ps_fld (pv 0) (pe_callTy call_listOf (by rfl) B.list (by decide +kernel) (pa_cons (pv 5) pa_nil)) rfl)
 (pss_cons (ps_fld (pv 0) (pv 6) rfl)
 (pss_one (ps_fld (pv 0) (pe_lst pa_nil) rfl)))))))), ?_⟩
    walk_at "wp"
    have hxH : Th K H x (bakD ⟨ls, none, [g]⟩) := (hx.same s0).th
    refine ⟨x, ⟨ls, none, [g]⟩, rfl, hxH, hb, rfl, rfl, fun H1 S1 => ?_⟩
    have s01 := s0.trans S1
    have hp1 := S1 _ _ hp
    obtain ⟨ta, al, ga, tg, ad, xs, rfl, ht, hl, hga, htg, hsd, hda⟩ := tk_bak1 hx
    walk_at "wp"
    refine ⟨_, SqT.of (s01 _ _ ht), rfl, ?_⟩
    walk_at "wp"
    refine ⟨_, _, SqL.of (s01 _ _ hga), atI_nat (j := 0) rfl, ?_⟩
    walk_at "wp"
    refine ⟨_, SqT.of (s01 _ _ htg), rfl, ?_⟩
    walk_at "wp"
    have keep : ∀ {G G' : Hp} {o : HO} {ob : HO} {q : Addr}, G q = none → q ≠ p → (∀ b y, b ≠ p → G b = some y → upd (upd G q o) p ob b = some y) := fun hq hqp b y hb e => by
      rw [upd_ne hb, upd_ne (fun z => by rw [z, hq] at e; cases e)]
      exact e
    refine ⟨_, .inl (SqL.of (s01 _ _ hl)), fun L h1 => ?_⟩
    have nL : L ≠ p := fun z => by rw [z, hp1] at h1; cases h1
    refine ⟨p, C, dx, [], rfl, by rw [upd_ne nL.symm]; exact hp1, T.cl, T.nL, by decide, ?_⟩
    have k2 := keep (G := H1) (G' := H1) (o := .lst (ls.map V.int)) (ob := .ins C dx (putF "lights" (V.ref L) [])) h1 nL
    have p2 : upd (upd H1 L (.lst (ls.map V.int))) p (.ins C dx (putF "lights" (V.ref L) [])) p = some (.ins C dx (putF "lights" (V.ref L) [])) := upd_same
    have l2 : upd (upd H1 L (.lst (ls.map V.int))) p (.ins C dx (putF "lights" (V.ref L) [])) L = some (.lst (ls.map V.int)) := by rw [upd_ne nL, upd_same]
    generalize upd (upd H1 L (.lst (ls.map V.int))) p (.ins C dx (putF "lights" (V.ref L) [])) = H2 at k2 p2 l2 ⊢
    have k02 : ∀ b y, H0 b = some y → H2 b = some y := fun b y e => k2 b y (fun z => by rw [z, p0] at e; cases e) (s01 _ _ e)
    refine ⟨_, .inl (SqL.of (k02 _ _ hsd)), fun D h3 => ?_⟩
    have nD : D ≠ p := fun z => by rw [z, p2] at h3; cases h3
    have nLD : L ≠ D := fun z => by rw [← z, l2] at h3; cases h3
    refine ⟨p, C, dx, _, rfl, by rw [upd_ne nD.symm]; exact p2, T.cl, T.nD, by rw [putL1]; show 1 < 1000; decide, ?_⟩
    have k4 := keep (G := H2) (G' := H2) (o := .lst xs) (ob := .ins C dx (putF "days" (V.ref D) (putF "lights" (V.ref L) []))) h3 nD
    have p4 : upd (upd H2 D (.lst xs)) p (.ins C dx (putF "days" (V.ref D) (putF "lights" (V.ref L) []))) p = some (.ins C dx (putF "days" (V.ref D) (putF "lights" (V.ref L) []))) := upd_same
    have d4 : upd (upd H2 D (.lst xs)) p (.ins C dx (putF "days" (V.ref D) (putF "lights" (V.ref L) []))) D = some (.lst xs) := by rw [upd_ne nD, upd_same]
    generalize upd (upd H2 D (.lst xs)) p (.ins C dx (putF "days" (V.ref D) (putF "lights" (V.ref L) []))) = H4 at k4 p4 d4 ⊢
    refine ⟨p, C, dx, _, rfl, p4, T.cl, T.nF, by rw [putL2]; show 2 < 1000; decide, ?_⟩
    have k5 : ∀ b y, b ≠ p → H4 b = some y → upd H4 p (.ins C dx (putF "life" (optV g.life) (putF "days" (V.ref D) (putF "lights" (V.ref L) [])))) b = some y := fun b y hb e => by rw [upd_ne hb]; exact e
    have p5 : upd H4 p (.ins C dx (putF "life" (optV g.life) (putF "days" (V.ref D) (putF "lights" (V.ref L) [])))) p = some (.ins C dx (putF "life" (optV g.life) (putF "days" (V.ref D) (putF "lights" (V.ref L) [])))) := upd_same
    generalize upd H4 p (.ins C dx (putF "life" (optV g.life) (putF "days" (V.ref D) (putF "lights" (V.ref L) [])))) = H5 at k5 p5 ⊢
    have l5 := k5 _ _ nL (k4 _ _ nL l2)
    have d5 := k5 _ _ nD d4
    refine ⟨Nat.zero_le _, fun E h6 => ?_⟩
    have nE : E ≠ p := fun z => by rw [z, p5] at h6; cases h6
    have nLE : L ≠ E := fun z => by rw [← z, l5] at h6; cases h6
    have nDE : D ≠ E := fun z => by rw [← z, d5] at h6; cases h6
    refine ⟨p, C, dx, _, rfl, by rw [upd_ne nE.symm]; exact p5, T.cl, T.nE, by rw [putL3]; show 3 < 1000; decide, ?_⟩
    have k7 := keep (G := H5) (G' := H5) (o := .lst []) (ob := .ins C dx (putF "deeds" (V.ref E) (putF "life" (optV g.life) (putF "days" (V.ref D) (putF "lights" (V.ref L) []))))) h6 nE
    have k07 : ∀ b y, H0 b = some y → _ := fun b y e => k7 b y (fun z => by rw [z, p0] at e; cases e) (k5 b y (fun z => by rw [z, p0] at e; cases e) (k4 b y (fun z => by rw [z, p0] at e; cases e) (k02 _ _ e)))
    have none0 : ∀ b, (∀ y, H0 b ≠ some y) → H0 b = none := fun b h => by
      cases e : H0 b with
      | none => rfl
      | some y => exact absurd e (h y)
    refine q _ L D E k07 (none0 _ fun y e => by rw [s01 _ _ e] at h1; cases h1) (none0 _ fun y e => by rw [k02 _ _ e] at h3; cases h3) (none0 _ fun y e => by rw [k5 _ _ (fun z => by rw [z, p0] at e; cases e) (k4 _ _ (fun z => by rw [z, p0] at e; cases e) (k02 _ _ e))] at h6; cases h6) ?_
    exact ⟨⟨dx, by rw [upd_same, putL4]⟩, k7 _ _ nL l5, ⟨xs, k7 _ _ nD d5, (hda.same fun b o e => by
        obtain ⟨e', ys, rfl⟩ := tupsOf_is e
        exact tupsOf_at (k07 _ _ e'))⟩, ⟨[], by rw [upd_ne nE, upd_same], .nil⟩, hb, nLD, nLE, nDE⟩
end
end Bk

namespace Bk
open PySem PySem.Spec PyProof.Rows L2
open C8 (Met pe_mt pe_mt0)
local macro_rules | `(tactic| walk_at "wp") => `(tactic| try simp only [iZipA_eq, rZipA_r, iEnumZip_eq, rEnumZip_r, tFld_eq, tMeth_eq, rTIx_r, tTru, tScT2, rSetL_r, rSetOf2_r, rSorDT_r, rSetD, tDGet2, tDGet, tDNewT, cxW, rExtend_r, rSortU_r, rSetOf_r, rSortedSet_r, rNinr_r, rNeN_r, rCatL_r, rSlT_r, rListOf_r, rIsB_b, rNotB_b, tFmtO, tJs, tOst, tCallS, WE, tRaise2, rOne_i, rSorD_r, tDNewK, Int.zero_add, tNever, tFor_eq, tLc_eq, iList, iTup, iRng1_eq, rRng1_i, iRng2_eq, rRng2_i, iEnum_eq, rEnum_r, iZip_eq, rZip_r, tSl, tPart, tNoPart, rSlL_r, rCat_r, rIn_r, rNin_r, rRepr_r, iRevR, rMin_r, rShr_i, rOdd_i, rSetL_r, gSub, rRg1_i, rRg2_i, rInr_r, tAug, ipI_ii, tLstRg, tRg1, tRg2, gTup_r, gUnl_r, rInt1_b, rInt1_i, rRep_r, tStep_r, scal, tSeq, tNext, tAsg, tRet, tRetN, tIfS, tDrop, tCB, tCons, tNil, tVar, tOp, tUn, tC, rU_i, rI_ii, rI0_ii, rEq, rNe, tTest, tB, tAnd, tOr, tNot, tAndV, tOrV, tNotV, tIf, tChain, tLst, tTup, tBM, tBM0, rAppend_r, rIxL_r, rIxT_r, rMx_ii, rMn_ii, rLnL_r, rLnT_r, rIsD_int, rIsD_bool, rIsD_list, rIsD_tuple, tCall, gName, gNil_n, gCons_c, cxK, L2.start, List.map, List.replicate, List.length_cons, List.length_nil, List.cons_append, List.nil_append, List.append_nil, List.getElem?_cons_zero, List.getElem?_cons_succ, Option.some.injEq, exists_eq_left', exists_eq_left, V.int.injEq, V.bl.injEq, V.str.injEq, V.ref.injEq, List.cons.injEq, and_true, true_and, and_self, List.set, wipe, rAll_r, rSum_r, reduceCtorEq, decide_true, decide_false, reduceIte, ite_true, ite_false, if_true, if_false, Bool.false_eq_true, Bool.not_true, Bool.not_false])
local macro_rules | `(tactic| walk_at "shaped") => `(tactic| (simp only [SeqAt.shaped, PyData.canLay0, PyData.canLayAll0, PyData.depth, PyData.depthAll]; rfl))
local macro_rules | `(tactic| walk_at "lay") => `(tactic| (simp only [PyData.canLay0, PyData.canLayAll0]; rfl))
local macro_rules | `(tactic| walk_at "wg") => `(tactic| try simp only [gName, gTup_r, gCons_c, gNil_n, cxK, List.set, List.cons.injEq, and_true, true_and, exists_eq_left', exists_eq_left, List.length_cons, List.length_nil])
section
variable {P : Program} {w : World} {K : PySem.W.Frag} {mg : Str → Option Value} {base : Heap}
abbrev s_Ledger_add : Stmt := inClass (top 84) 9
theorem sc_Ledger_add : FnScope ["self", "light", "day"] ["self", "light", "day"] (defScope s_Ledger_add) := ⟨rfl, rfl, rfl, by decide +kernel, rfl, by decide +kernel, by decide +kernel⟩
def spLAdd (K : PySem.W.Frag) (C : Addr) : Sp := fun vs H Q _ => ∃ p L D E ls g ds, ∃ (z : Int) (t : Addr) (d : Day), vs = [.ref p, .int z, .ref t] ∧ Led C H p L D E ls g ds ∧ ds.length ≤ 1000 ∧ H t = some (.tup [.int d.want, .int d.loaf, .int d.keep, optV d.fine]) ∧ numD (.int z) = true ∧ dayB (dayD d) = true ∧ ls.length < 40 ∧
  ∀ (H' : Hp), Same (but [L, D, E] H) (but [L, D, E] H') → Led C H' p L D E (ls ++ [z]) (addG g d) (ds ++ [none]) → Q .non H'
theorem ok_Ledger_add {f C : Addr} {fd : FuncData} {t1 : Tok} (F : Fun K "add" "Ledger.add" s_Ledger_add f fd) (B : Bi mg) (T : LTxt K C) (M_MOST_DAYS : mg "MOST_DAYS" = some (.int 40 t1)) (D_is_number : Def P w K mg base "is_number" 2 ["thing"] (spNum K)) (D_is_day : Def P w K mg base "is_day" 3 ["thing"] (spPred K dayB)) : FnOk P w K mg base CX0 4 f fd ["self", "light", "day"] (spLAdd K C) := by
  refine F.ok sc_Ledger_add (fun vs H Q E h => ?_) (fun cdv A outer s H vs Q E hr h => ?_)
  · obtain ⟨_, _, _, _, _, _, _, _, _, _, rfl, _⟩ := h
    rfl
  · obtain ⟨p, L, D, E, ls, g, ds, z, t, d, rfl, hL, hds, ht, hz, hd, hn, q⟩ := h
    refine ⟨_, (pss_cons (ps_if (pt_not (pt_val (pe_callD D_is_number hr (by rfl) (pa_cons (pv 1) pa_nil)))) (pss_one ps_never) pss_nil)
 (pss_cons (ps_if (pt_not (pt_val (pe_callD D_is_day hr (by rfl) (pa_cons (pv 2) pa_nil)))) (pss_one ps_never) pss_nil)
 (pss_cons (ps_if (pt_cmpR op_ge (pe_callB call_lnL (by rfl) B.len (by decide +kernel) (pa_cons (pe_fld (pv 0) rfl) pa_nil)) (pe_globI rfl M_MOST_DAYS) (nomark _)) (pss_one ps_never) pss_nil)
 (pss_cons (ps_expr (pe_bm PySem.F.plainAttrs_list PySem.F.slot_list_append PySem.F.type_list_append mt_append (pe_fld (pv 0) rfl) (pa_cons (pv 1) pa_nil)))
 (pss_cons (ps_expr (pe_bm PySem.F.plainAttrs_list PySem.F.slot_list_append PySem.F.type_list_append mt_append (pe_fld (pv 0) rfl) (pa_cons (pv 2) pa_nil)))
 (pss_one (ps_expr (pe_bm PySem.F.plainAttrs_list PySem.F.slot_list_append PySem.F.type_list_append mt_append (pe_fld (pv 0) rfl) (pa_cons pe_non pa_nil))))))))), ?_⟩
    obtain ⟨xs, hx, htk⟩ := hL.da
    obtain ⟨ws, hw, hws⟩ := hL.de
    obtain ⟨k1, k2, k3⟩ := hL.day1
    have hxl := htk.length
    rw [List.length_map] at hxl
    walk_at "wp"
    refine ⟨.int z, .int z, rfl, .int z, ?_⟩
    rw [hz]
    walk_at "wp"
    have hth : Th K H (.ref t) (dayD d) := .tup (SqT.of ht) (.cons (.int _) (.cons (.int _) (.cons (.int _) (.cons (Th.optV _) .nil))))
    refine ⟨_, _, rfl, hth, ?_⟩
    rw [hd]
    walk_at "wp"
    refine fun H1 S1 => ?_
    have hL1 := hL.same S1
    have hx1 := S1 _ _ hx
    have hw1 := S1 _ _ hw
    refine hL1.fLights T ?_
    walk_at "wp"
    refine ⟨_, SqL.of hL1.li, ?_⟩
    rw [List.length_map, decide_eq_false (show ¬ (40 : Int) ≤ (ls.length : Int) by omega)]
    walk_at "wp"
    have hfin := hL1.add hx1 hw1 (S1 _ _ ht) hz hd hn
    have eL : (ls.map V.int) ++ [V.int z] = (ls ++ [z]).map V.int := by rw [List.map_append]; rfl
    have e2 : upd H1 L (.lst ((ls ++ [z]).map V.int)) D = some (.lst xs) := by rw [upd_ne hL1.ld.symm]; exact hx1
    have e3 : upd (upd H1 L (.lst ((ls ++ [z]).map V.int))) D (.lst (xs ++ [.ref t])) E = some (.lst ws) := by rw [upd_ne hL1.dE.symm, upd_ne hL1.le.symm]; exact hw1
    obtain ⟨dx, ho⟩ := hL1.obj
    have npL : p ≠ L := fun q => by rw [q, hL1.li] at ho; cases ho
    have npD : p ≠ D := fun q => by rw [q, hx1] at ho; cases ho
    refine hL1.fLights T ⟨.inl ⟨rfl, _, SqL.of hL1.li⟩, ?_⟩
    walk_at "wp"
    refine ⟨_, hL1.li, by rw [List.length_map]; exact Nat.lt_of_le_of_lt (show _ ≤ 1000 by omega) (by decide), ?_⟩
    rw [eL]
    refine ⟨_, _, dx, _, _, rfl, by rw [upd_ne npL]; exact ho, T.cl, T.nD, lf_days, .inl ⟨rfl, _, SqL.of e2⟩, ?_⟩
    walk_at "wp"
    refine ⟨_, e2, by rw [hxl]; exact Nat.lt_of_le_of_lt (show _ ≤ 1000 by omega) (by decide), ?_⟩
    refine ⟨_, _, dx, _, _, rfl, by rw [upd_ne npD, upd_ne npL]; exact ho, T.cl, T.nE, lf_deeds, .inl ⟨rfl, _, SqL.of e3⟩, ?_⟩
    walk_at "wp"
    refine ⟨_, e3, by rw [hws.length]; exact Nat.lt_of_le_of_lt hds (by decide), ?_⟩
    refine q _ ?_ hfin
    rw [but_upd (by simp), but_upd (by simp), but_upd (by simp)]
    exact but_mono S1
theorem FnOk.or {P : Program} {w : World} {K : PySem.W.Frag} {mg : Str → Option Value} {base : Heap} {CX : CXT} {k : Nat} {f : Addr} {fd : FuncData} {ps : List Str} {s1 s2 : Sp} (F1 : FnOk P w K mg base CX k f fd ps s1) (F2 : FnOk P w K mg base CX k f fd ps s2) : FnOk P w K mg base CX k f fd ps (fun vs H Q E => s1 vs H Q E ∨ s2 vs H Q E) :=
  ⟨fun vs H Q E h => h.elim (F1.len vs H Q E) (F2.len vs H Q E), fun A outer s H args us vs Q E hr h0 hb hv h => h.elim (F1.run A outer s H args us vs Q E hr h0 hb hv) (F2.run A outer s H args us vs Q E hr h0 hb hv)⟩
def spLBack2 (K : PySem.W.Frag) (C : Addr) : Sp := fun vs H Q _ => ∃ p L D E ls g ds, vs = [.ref p] ∧ Led C H p L D E ls g (ds ++ [none]) ∧ 2 ≤ ls.length ∧
  ∀ (H' : Hp), Same (but [L, D, E] H) (but [L, D, E] H') → Led C H' p L D E ls.dropLast (dropG g) ds → Q .non H'
def spLBackA (K : PySem.W.Frag) (C : Addr) : Sp := fun vs H Q E => spLBack K C vs H Q E ∨ spLBack2 K C vs H Q E
theorem ok_Ledger_back2 {f C : Addr} {fd : FuncData} (F : Fun K "back" "Ledger.back" s_Ledger_back f fd) (T : LTxt K C) (T_set_part : Met P w K mg base 11 C "set_part" (spLSet K C) []) : FnOk P w K mg base CX0 12 f fd ["self"] (spLBack2 K C) := by
  refine F.ok sc_Ledger_back (fun vs H Q E h => ?_) (fun cdv A outer s H vs Q E hr h => ?_)
  · obtain ⟨_, _, _, _, _, _, _, rfl, _⟩ := h
    rfl
  · obtain ⟨p, L, D, E, ls, g, ds, rfl, hL, hn, q⟩ := h
    refine ⟨_, (pss_cons (ps_if (pt_not (pt_tru (pe_fld (pv 0) rfl))) (pss_one ps_never) pss_nil)
 (pss_cons (ps_set (i := 1) sc_Ledger_back.nd rfl (Or.inl rfl) (pe_bm0 PySem.F.plainAttrs_list PySem.F.slot_list_pop PySem.F.type_list_pop mt_pop (pe_fld (pv 0) rfl)))
 (pss_cons (ps_if (pt_cmpR op_isN (pv 1) pe_non (nomark _)) (pss_cons (ps_expr (pe_bm0 PySem.F.plainAttrs_list PySem.F.slot_list_pop PySem.F.type_list_pop mt_pop (pe_fld (pv 0) rfl)))
 (pss_cons (ps_expr (pe_bm0 PySem.F.plainAttrs_list PySem.F.slot_list_pop PySem.F.type_list_pop mt_pop (pe_fld (pv 0) rfl)))
 (pss_one (ps_ret pe_non)))) pss_nil)
 (pss_cons (ps_asg (pv 1) (pg_tup rfl (pgs_cons (pg_name (i := 2) sc_Ledger_back.nd rfl (Or.inl rfl)) (pgs_cons (pg_name (i := 3) sc_Ledger_back.nd rfl (Or.inl rfl)) (pgs_cons (pg_name (i := 4) sc_Ledger_back.nd rfl (Or.inl rfl)) pgs_nil)))))
 (pss_one (ps_ret (pe_mt T_set_part hr (by omega) (pv 0) (pa_cons (pv 2) (pa_cons (pv 3) (pa_cons (pv 4) pa_nil)))))))))), ?_⟩
    obtain ⟨us, xs, he, hx, hne, hfin⟩ := hL.unadd hn
    obtain ⟨dx, ho⟩ := hL.obj
    have npE : p ≠ E := fun q => by rw [q, he] at ho; cases ho
    have npL : p ≠ L := fun q => by rw [q, hL.li] at ho; cases ho
    have npD : p ≠ D := fun q => by rw [q, hx] at ho; cases ho
    have e2 : upd H E (.lst us) L = some (.lst (ls.map V.int)) := by rw [upd_ne hL.le]; exact hL.li
    have eL : (ls.map V.int).dropLast = ls.dropLast.map V.int := by rw [List.dropLast_eq_take, List.dropLast_eq_take, List.map_take, List.length_map]
    have e3 : upd (upd H E (.lst us)) L (.lst (ls.dropLast.map V.int)) D = some (.lst xs) := by rw [upd_ne hL.ld.symm, upd_ne hL.dE]; exact hx
    walk_at "wp"
    refine hL.fDeeds T ⟨true, .inl ⟨_, SqL.of he, by simp⟩, ?_⟩
    rw [if_neg (by decide)]
    refine hL.fDeeds T ⟨.inl ⟨rfl, _, SqL.of he⟩, E, _, .non, rfl, rfl, he, by simp, ?_⟩
    rw [List.dropLast_concat]
    walk_at "wp"
    have hlast : ∀ {l : List V}, l ≠ [] → ∃ y, l[l.length - 1]? = some y := fun {l} h => ⟨_, List.getElem?_eq_getElem (by have := List.length_pos_iff.mpr h; omega)⟩
    obtain ⟨y1, hy1⟩ := hlast (l := ls.map V.int) (fun h => by have := congrArg List.length h; rw [List.length_map] at this; simp at this; rw [this] at hn; simp at hn)
    obtain ⟨y2, hy2⟩ := hlast hne
    refine ⟨_, _, dx, _, _, rfl, by rw [upd_ne npE]; exact ho, T.cl, T.nL, lf_lights, .inl ⟨rfl, _, SqL.of e2⟩, L, _, y1, rfl, rfl, e2, hy1, ?_⟩
    rw [eL]
    refine ⟨_, _, dx, _, _, rfl, by rw [upd_ne npL, upd_ne npE]; exact ho, T.cl, T.nD, lf_days, .inl ⟨rfl, _, SqL.of e3⟩, D, _, y2, rfl, rfl, e3, hy2, ?_⟩
    refine q _ ?_ hfin
    rw [but_upd (by simp), but_upd (by simp), but_upd (by simp)]
    exact Same.refl _
theorem ok_Ledger_backA {f C : Addr} {fd : FuncData} (F : Fun K "back" "Ledger.back" s_Ledger_back f fd) (T : LTxt K C) (T_set_part : Met P w K mg base 11 C "set_part" (spLSet K C) []) : FnOk P w K mg base CX0 12 f fd ["self"] (spLBackA K C) := FnOk.or (ok_Ledger_back F T T_set_part) (ok_Ledger_back2 F T T_set_part)
end
end Bk

namespace Bk
open PySem PySem.Spec PyProof.Rows L2
local macro_rules | `(tactic| walk_at "wp") => `(tactic| try simp only [tM1, tFmt, iLT, tScT2, rSetL_r, rSetOf2_r, rSorDT_r, rSetD, tDGet2, tDGet, tDNewT, cxW, rExtend_r, rSortU_r, rSetOf_r, rSortedSet_r, rNinr_r, rNeN_r, rCatL_r, rSlT_r, rListOf_r, rIsB_b, rNotB_b, tFmtO, tJs, tOst, tCallS, WE, tRaise2, rOne_i, rSorD_r, tDNewK, Int.zero_add, tNever, tFor_eq, tLc_eq, iList, iTup, iRng1_eq, rRng1_i, iRng2_eq, rRng2_i, iEnum_eq, rEnum_r, iZip_eq, rZip_r, tSl, tPart, tNoPart, rSlL_r, rCat_r, rIn_r, rNin_r, rRepr_r, iRevR, rMin_r, rShr_i, rOdd_i, rSetL_r, gSub, rRg1_i, rRg2_i, rInr_r, tAug, ipI_ii, tLstRg, tRg1, tRg2, gTup_r, gUnl_r, rInt1_b, rInt1_i, rRep_r, tStep_r, scal, tSeq, tNext, tAsg, tRet, tRetN, tIfS, tDrop, tCB, tCons, tNil, tVar, tOp, tUn, tC, rU_i, rI_ii, rI0_ii, rEq, rNe, tTest, tB, tAnd, tOr, tNot, tAndV, tOrV, tNotV, tIf, tChain, tLst, tTup, tBM, tBM0, rAppend_r, rIxL_r, rIxT_r, rMx_ii, rMn_ii, rLnL_r, rLnT_r, rIsD_int, rIsD_bool, rIsD_list, rIsD_tuple, tCall, gName, gNil_n, gCons_c, cxK, L2.start, List.map, List.replicate, List.length_cons, List.length_nil, List.cons_append, List.nil_append, List.append_nil, List.getElem?_cons_zero, List.getElem?_cons_succ, Option.some.injEq, exists_eq_left', exists_eq_left, V.int.injEq, V.bl.injEq, V.str.injEq, V.ref.injEq, List.cons.injEq, and_true, true_and, and_self, List.set, wipe, rAll_r, rSum_r, reduceCtorEq, decide_true, decide_false, reduceIte, ite_true, ite_false, if_true, if_false, Bool.false_eq_true, Bool.not_true, Bool.not_false])
local macro_rules | `(tactic| walk_at "shaped") => `(tactic| (simp only [SeqAt.shaped, PyData.canLay0, PyData.canLayAll0, PyData.depth, PyData.depthAll]; rfl))
local macro_rules | `(tactic| walk_at "lay") => `(tactic| (simp only [PyData.canLay0, PyData.canLayAll0]; rfl))
local macro_rules | `(tactic| walk_at "wg") => `(tactic| try simp only [gName, gTup_r, gCons_c, gNil_n, cxK, List.set, List.cons.injEq, and_true, true_and, exists_eq_left', exists_eq_left, List.length_cons, List.length_nil])
section
variable {P : Program} {w : World} {K : PySem.W.Frag} {mg : Str → Option Value} {base : Heap}
abbrev s_word_of : Stmt := top 59
theorem sc_word_of : FnScope ["worth"] ["worth"] (defScope s_word_of) := ⟨rfl, rfl, rfl, by decide +kernel, rfl, by decide +kernel, by decide +kernel⟩
def spWord (K : PySem.W.Frag) : Sp := fun vs H Q _ => ∃ o : Option Int, vs = [optV o] ∧ SmO o ∧ Q (.str (wordO o)) H
theorem ok_word_of {f : Addr} {fd : FuncData} {t : Tok} (F : Fun K "word_of" "word_of" s_word_of f fd) (Bq : mg "str" = none) (M_NONE : mg "NONE" = some (.str "-" t)) : FnOk P w K mg base CX0 1 f fd ["worth"] (spWord K) := by
  refine F.ok sc_word_of (fun vs H Q E h => ?_) (fun cdv A outer s H vs Q E hr h => ?_)
  · obtain ⟨_, rfl, _⟩ := h
    rfl
  · obtain ⟨o, rfl, ho, q⟩ := h
    refine ⟨_, (pss_one (ps_ret (pe_ifExp (pt_cmpR op_isN (pv 0) pe_non (nomark _)) (pe_globS rfl M_NONE) (pe_callTy call_str_int (by rfl) Bq (by decide +kernel) (pa_cons (pv 0) pa_nil))))), ?_⟩
    cases o with
    | none =>
      simp only [optV]
      walk_at "wp"
      exact q
    | some i =>
      simp only [optV]
      walk_at "wp"
      exact ⟨log60 (Nat.lt_of_lt_of_le (ho i rfl) (by decide)), q⟩
abbrev s_row_of : Stmt := top 60
theorem sc_row_of : FnScope ["worths", "worth"] ["worths"] (defScope s_row_of) := ⟨rfl, rfl, rfl, by decide +kernel, rfl, by decide +kernel, by decide +kernel⟩
def spRowOf (K : PySem.W.Frag) : Sp := fun vs H Q _ => ∃ (p : Addr) (l : List (Option Int)), vs = [.ref p] ∧ (SqL K H p (l.map optV) ∨ SqT K H p (l.map optV)) ∧ l.length ≤ 40 ∧ (∀ o ∈ l, SmO o) ∧ ∀ H', Same H H' → Q (.str (rowO l)) H'
theorem ok_row_of {f : Addr} {fd : FuncData} (F : Fun K "row_of" "row_of" s_row_of f fd) (D_word_of : Def P w K mg base "word_of" 1 ["worth"] (spWord K)) : FnOk P w K mg base CX0 2 f fd ["worths"] (spRowOf K) := by
  refine F.ok sc_row_of (fun vs H Q E h => ?_) (fun cdv A outer s H vs Q E hr h => ?_)
  · obtain ⟨_, _, rfl, _⟩ := h
    rfl
  · obtain ⟨p, l, rfl, hp, hl, hs, q⟩ := h
    refine ⟨_, (pss_one (ps_ret (pe_join pe_str (pe_lc (own := [("worth", 1)]) (g := (gName 1)) rfl sc_row_of.nd (pi_LT (pv 0)) (blkOk_by (own := [("worth", 1)]) (N := ["worths", "worth"]) (sc := defScope s_row_of) (by decide +kernel)) (fun _ _ _ _ _ => (pg_name (i := 1) sc_row_of.nd rfl (Or.inl rfl))) (fun _ _ _ _ _ => pts_nil) (fun _ _ _ _ _ => (pe_callD D_word_of hr (by rfl) (pa_cons (pv 1) pa_nil))))))), ?_⟩
    walk_at "wp"
    have fin : ∀ (H' : Hp) (D : Addr), Same H H' → H' D = some (.lst ((l.map wordO).map V.str)) → ∃ a p, ∃ ys : List Str, (" " : Str) = a ∧ D = p ∧ (SqL K H' p (ys.map V.str) ∨ SqT K H' p (ys.map V.str)) ∧ (ys.map (·.length)).sum + ys.length * a.length ≤ 16777216 ∧ Q (.str (Txt.join a ys)) H' := fun H' D s e => by
      refine ⟨_, D, l.map wordO, rfl, rfl, .inl (SqL.of e), ?_, q _ s⟩
      have := words_sum hs
      rw [List.length_map, show (" " : Str).length = 1 by decide]
      omega
    have step : ∀ (i : Nat) (x : V) (H0 H1 : Hp) (y : V) (R : V → Hp → Prop), YAt (l.map optV) i H0 x H1 → (((l.map wordO).map V.str)[i]?) = some y → (∀ H2, Same H1 H2 → R y H2) → ∃ o : Option Int, x = optV o ∧ SmO o ∧ R (.str (wordO o)) H1 := fun i x H0 H1 y R yy hy hR => by
      obtain ⟨rfl, hx⟩ := yy
      rw [List.getElem?_map] at hx
      obtain ⟨o, ho, rfl⟩ := Option.map_eq_some_iff.mp hx
      rw [List.getElem?_map, List.getElem?_map, ho] at hy
      cases hy
      exact ⟨o, rfl, hs o (List.mem_of_getElem? ho), hR _ (Same.refl _)⟩
    rcases hp with hp | hp
    · refine ⟨⟨_, rfl⟩, .inl ?_⟩
      walk_at "wp"
      refine ⟨⟨_, hp⟩, fun D hD => ?_⟩
      refine LcR.map (walk_list (xs := l.map optV)) ((l.map wordO).map V.str) hD (by rw [List.length_map, List.length_map, List.length_map]) (by rw [List.length_map]; omega) (fun H s => s.seq hp) (fun _ _ _ _ y => yat_same y) (fun i x y H0 H1 hi s1 yy hy R hR => ?_) (fun H1 s1 hH => fin _ _ s1 hH)
      obtain ⟨o, rfl, ho, hq⟩ := step i x H0 H1 y R yy hy hR
      walk_at "wp"
      exact ⟨o, rfl, ho, hq⟩
    · refine ⟨⟨_, rfl⟩, .inr ?_⟩
      walk_at "wp"
      refine ⟨⟨_, hp⟩, fun D hD => ?_⟩
      refine LcR.map (walk_tup (xs := l.map optV)) ((l.map wordO).map V.str) hD (by rw [List.length_map, List.length_map, List.length_map]) (by rw [List.length_map]; omega) (fun H s => Same.tup s hp) (fun _ _ _ _ y => yat_same y) (fun i x y H0 H1 hi s1 yy hy R hR => ?_) (fun H1 s1 hH => fin _ _ s1 hH)
      obtain ⟨o, rfl, ho, hq⟩ := step i x H0 H1 y R yy hy hR
      walk_at "wp"
      exact ⟨o, rfl, ho, hq⟩
abbrev s_good_rows : Stmt := top 61
theorem sc_good_rows : FnScope ["good", "days", "life", "day"] ["good"] (defScope s_good_rows) := ⟨rfl, rfl, rfl, by decide +kernel, rfl, by decide +kernel, by decide +kernel⟩
def spGRows (K : PySem.W.Frag) : Sp := fun vs H Q _ => ∃ x g, vs = [x] ∧ Th K H x (goodD g) ∧ g.days.length ≤ 40 ∧ lifeB (optD g.life) = true ∧ (∀ d ∈ g.days, dayB (dayD d) = true) ∧ ∀ (H' : Hp) (p : Addr), Same H H' → H p = none → H' p = some (.lst ((goodRows g).map V.str)) → Q (.ref p) H'
theorem ok_good_rows {f : Addr} {fd : FuncData} {t : Tok} (F : Fun K "good_rows" "good_rows" s_good_rows f fd) (M_GOOD : mg "GOOD" = some (.str "good" t)) (D_word_of : Def P w K mg base "word_of" 1 ["worth"] (spWord K)) (D_row_of : Def P w K mg base "row_of" 2 ["worths"] (spRowOf K)) : FnOk P w K mg base CX0 3 f fd ["good"] (spGRows K) := by
  refine F.ok sc_good_rows (fun vs H Q E h => ?_) (fun cdv A outer s H vs Q E hr h => ?_)
  · obtain ⟨_, _, rfl, _⟩ := h
    rfl
  · obtain ⟨x, g, rfl, hx, hl, hli, hok, q⟩ := h
    refine ⟨_, (pss_cons (ps_asg (pv 0) (pg_tup rfl (pgs_cons (pg_name (i := 1) sc_good_rows.nd rfl (Or.inl rfl)) (pgs_cons (pg_name (i := 2) sc_good_rows.nd rfl (Or.inl rfl)) pgs_nil))))
 (pss_one (ps_ret (pe_op op_cat (pe_lst (pa_cons (pe_joined (PJ.cons (pe_fmt (pe_globS rfl M_GOOD)) (PJ.cons pe_str (PJ.cons (pe_fmt (pe_callD D_word_of hr (by rfl) (pa_cons (pv 2) pa_nil))) PJ.nil)))) pa_nil)) (pe_lc (own := [("day", 3)]) (g := (gName 3)) rfl sc_good_rows.nd (pi_list (pv 1)) (blkOk_by (own := [("day", 3)]) (N := ["good", "days", "life", "day"]) (sc := defScope s_good_rows) (by decide +kernel)) (fun _ _ _ _ _ => (pg_name (i := 3) sc_good_rows.nd rfl (Or.inl rfl))) (fun _ _ _ _ _ => pts_nil) (fun _ _ _ _ _ => (pe_callD D_row_of hr (by rfl) (pa_cons (pv 3) pa_nil)))))))), ?_⟩
    obtain ⟨tg, ad, xs, rfl, htg, hsd, hda⟩ := hx.good
    walk_at "wp"
    refine ⟨_, htg, rfl, ?_⟩
    walk_at "wp"
    have e1 : (Str.empty ++ ("good" : Str)) ++ (" " : Str) = ("good " : Str) := by decide +kernel
    have lw := word_len (smO_life hli)
    have lg : (("good " : Str) ++ wordO g.life).length ≤ 100 := by
      rw [Str.length_append, show ("good " : Str).length = 5 by decide]
      omega
    refine .inl ⟨sz100 (by decide), sz100 (by decide), sz100 (by decide), g.life, rfl, smO_life hli, .inl ⟨_, rfl, sz100 (by omega), ?_⟩⟩
    rw [e1]
    refine ⟨sz100 (by omega), sz100 (by decide), fun p1 h1 => ?_⟩
    have S1 := same_upd (o := .lst [V.str (("good " : Str) ++ wordO g.life)]) h1
    have E1 : upd H p1 (.lst [V.str (("good " : Str) ++ wordO g.life)]) p1 = some (.lst [V.str (("good " : Str) ++ wordO g.life)]) := upd_same
    generalize upd H p1 (.lst [V.str (("good " : Str) ++ wordO g.life)]) = H1 at S1 E1 ⊢
    refine ⟨⟨_, S1.seq hsd⟩, fun D hD => ?_⟩
    have hxl : xs.length = g.days.length := by rw [hda.length, List.length_map]
    refine LcR.map (walk_list (xs := xs)) ((g.days.map fun d => rowO (dayO d)).map V.str) hD (by rw [List.length_map, List.length_map, hxl]) (by omega) (fun H s => (S1.trans s).seq hsd) (fun _ _ _ _ y => yat_same y) (fun i x y H0 H2 hi s2 yy hy R hR => ?_) (fun H2 s2 hH => ?_)
    · obtain ⟨rfl, hx⟩ := yy
      obtain ⟨d, hd, hxd⟩ := hda.get hx
      rw [List.getElem?_map] at hd
      obtain ⟨dd, hdd, rfl⟩ := Option.map_eq_some_iff.mp hd
      rw [List.getElem?_map, List.getElem?_map, hdd] at hy
      cases hy
      obtain ⟨t, rfl, ht⟩ := hxd.day
      walk_at "wp"
      exact ⟨t, dayO dd, rfl, .inr (Same.tup (S1.trans s2) ht), by show 4 ≤ 40; decide, smO_day (hok dd (List.mem_of_getElem? hdd)), hR⟩
    · refine ⟨_, _, s2 _ _ E1, hH, sz100 (by rw [List.length_map, List.length_map]; show 1 + _ ≤ _; omega), fun p3 h3 => ?_⟩
      have S3 := same_upd (o := .lst ([V.str (("good " : Str) ++ wordO g.life)] ++ (g.days.map fun d => rowO (dayO d)).map V.str)) h3
      exact q _ p3 ((S1.trans s2).trans S3) ((S1.trans s2).free h3) upd_same
abbrev s_show_bakery : Stmt := top 62
theorem sc_show_bakery : FnScope ["bakery", "lights", "bound", "goods", "rows", "good"] ["bakery"] (defScope s_show_bakery) := ⟨rfl, rfl, rfl, by decide +kernel, rfl, by decide +kernel, by decide +kernel⟩
def spShow (K : PySem.W.Frag) : Sp := fun vs H Q _ => ∃ x b, vs = [x] ∧ Th K H x (bakD b) ∧ bakB (bakD b) = true ∧ ∀ H', Same H H' → Q (.str (bakText b)) H'
def ShI (v0 v1 v2 v3 : V) (R : Addr) (b : Bak) (H : Hp) (i : Nat) (σ : L2.St) (H' : Hp) : Prop := ∃ y5, σ = [some v0, some v1, some v2, some v3, some (.ref R), y5] ∧ Same H H' ∧ H' R = some (.lst (((("oven " ++ wordO b.bound) :: ("lights " ++ rowO (b.lights.map some)) :: ((b.goods.take i).map goodRows).flatten) : List Str).map V.str))
theorem ok_show_bakery {f : Addr} {fd : FuncData} {t1 t2 : Tok} (F : Fun K "show_bakery" "show_bakery" s_show_bakery f fd) (M_OVEN : mg "OVEN" = some (.str "oven" t1)) (M_LIGHTS : mg "LIGHTS" = some (.str "lights" t2)) (D_look_at_bakery : Def P w K mg base "look_at_bakery" 6 ["thing"] (spLook K)) (D_word_of : Def P w K mg base "word_of" 1 ["worth"] (spWord K)) (D_row_of : Def P w K mg base "row_of" 2 ["worths"] (spRowOf K)) (D_good_rows : Def P w K mg base "good_rows" 3 ["good"] (spGRows K)) : FnOk P w K mg base CX0 7 f fd ["bakery"] (spShow K) := by
  refine F.ok sc_show_bakery (fun vs H Q E h => ?_) (fun cdv A outer s H vs Q E hr h => ?_)
  · obtain ⟨_, _, rfl, _⟩ := h
    rfl
  · obtain ⟨x, b, rfl, hx, hb, q⟩ := h
    refine ⟨_, (pss_cons (ps_expr (pe_callD D_look_at_bakery hr (by rfl) (pa_cons (pv 0) pa_nil)))
 (pss_cons (ps_asg (pv 0) (pg_tup rfl (pgs_cons (pg_name (i := 1) sc_show_bakery.nd rfl (Or.inl rfl)) (pgs_cons (pg_name (i := 2) sc_show_bakery.nd rfl (Or.inl rfl)) (pgs_cons (pg_name (i := 3) sc_show_bakery.nd rfl (Or.inl rfl)) pgs_nil)))))
 (pss_cons (ps_set (i := 4) sc_show_bakery.nd rfl (Or.inl rfl) (pe_lst (pa_cons (pe_joined (PJ.cons (pe_fmt (pe_globS rfl M_OVEN)) (PJ.cons pe_str (PJ.cons (pe_fmt (pe_callD D_word_of hr (by rfl) (pa_cons (pv 2) pa_nil))) PJ.nil)))) (pa_cons (pe_joined (PJ.cons (pe_fmt (pe_globS rfl M_LIGHTS)) (PJ.cons pe_str (PJ.cons (pe_fmt (pe_callD D_row_of hr (by rfl) (pa_cons (pv 1) pa_nil))) PJ.nil)))) pa_nil))))
 (pss_cons (ps_for PassesOwn.never rfl (pi_list (pv 3)) (pg_name (i := 5) sc_show_bakery.nd rfl (Or.inl rfl)) (pss_one (ps_expr (pe_bm PySem.F.plainAttrs_list PySem.F.slot_list_extend PySem.F.type_list_extend mt_extend (pv 4) (pa_cons (pe_callD D_good_rows hr (by rfl) (pa_cons (pv 5) pa_nil)) pa_nil)))))
 (pss_one (ps_ret (pe_join pe_str (pv 4)))))))), ?_⟩
    obtain ⟨⟨c1, c2⟩, c3, c4, ⟨c5, c6⟩, c7⟩ := bak_parts hb
    walk_at "wp"
    refine ⟨_, _, rfl, hx, hb, fun H1 S1 => ?_⟩
    obtain ⟨a, l, v2, ga, xl, xg, rfl, ht, hl, hla, h2, hgl, hga⟩ := Th.bak (hx.same S1)
    have hxl : xl = b.lights.map V.int := hla.intsV
    have e2 : v2 = optV b.bound := h2.opt
    subst e2
    walk_at "wp"
    refine ⟨_, ht, rfl, ?_⟩
    walk_at "wp"
    have hbs : SmO b.bound := fun i e => by
      rw [e] at c4
      simp only [optD, boundB, numD, Bool.and_eq_true, decide_eq_true_eq] at c4
      exact Nat.lt_of_le_of_lt (show i.natAbs ≤ 1000000000 by omega) (by decide)
    have hls : ∀ o ∈ b.lights.map some, SmO o := fun o ho => by
      obtain ⟨z, hz, rfl⟩ := List.mem_map.mp ho
      have := c3 z hz
      simp only [numD, Bool.and_eq_true, decide_eq_true_eq] at this
      exact smO_num this
    have e1 : (Str.empty ++ ("oven" : Str)) ++ (" " : Str) = ("oven " : Str) := by decide +kernel
    have e2 : (Str.empty ++ ("lights" : Str)) ++ (" " : Str) = ("lights " : Str) := by decide +kernel
    have lw := word_len hbs
    have lr := row_len hls
    rw [List.length_map] at lr
    have lo : (("oven " : Str) ++ wordO b.bound).length ≤ 100 := by
      rw [Str.length_append, show ("oven " : Str).length = 5 by decide]
      omega
    have ll : (("lights " : Str) ++ rowO (b.lights.map some)).length ≤ 1000 := by
      rw [Str.length_append, show ("lights " : Str).length = 7 by decide]
      omega
    refine .inl ⟨sz100 (by decide), sz100 (by decide), sz100 (by decide), b.bound, rfl, hbs, .inl ⟨_, rfl, sz100 (by omega), ?_⟩⟩
    rw [e1]
    refine ⟨sz100 (by omega), .inl ⟨sz100 (by decide), sz100 (by decide), sz100 (by decide), l, b.lights.map some, rfl, .inl (by rw [List.map_map]; exact hxl ▸ hl), by rw [List.length_map]; exact c2, hls, fun H2 S2 => .inl ⟨_, rfl, sz100 (by omega), ?_⟩⟩⟩
    rw [e2]
    refine ⟨sz100 (by omega), sz100 (by decide), fun R hR => ?_⟩
    have S3 := same_upd (o := .lst [V.str (("oven " : Str) ++ wordO b.bound), V.str (("lights " : Str) ++ rowO (b.lights.map some))]) hR
    refine ⟨⟨_, (S2.trans S3).seq hgl⟩, ?_⟩
    have hgn : xg.length = b.goods.length := by rw [hga.length, List.length_map]
    refine LoopR.by (walk_list (xs := xg)) (ShI (.ref a) (.ref l) (optV b.bound) (.ref ga) R b H2) ⟨none, rfl, S3, upd_same⟩ (fun i σ H' _ hI => by obtain ⟨_, _, S, _⟩ := hI; exact (S2.trans S).seq hgl) (fun i v σ H0 H4 hi hI yy => ?_) (fun σ H4 hI => ?_)
    · obtain ⟨rfl, hxi⟩ := yy
      obtain ⟨y5, rfl, S4, E4⟩ := hI
      obtain ⟨d, hd, hv⟩ := hga.get hxi
      rw [List.getElem?_map] at hd
      obtain ⟨g, hg, rfl⟩ := Option.map_eq_some_iff.mp hd
      obtain ⟨k1, k2, k3⟩ := c7 g (List.mem_of_getElem? hg)
      walk_at "wp"
      refine ⟨tyL (SqL.of E4), v, g, rfl, hv.same (S2.trans S4), by omega, k2, k3, fun H5 p5 S5 hp5 e5 => ?_⟩
      have hfl : (((b.goods.take i).map goodRows).flatten).length ≤ 2 * 41 := by
        have := flat_len (gs := b.goods.take i) fun g hg => by rw [(c7 g (List.mem_of_mem_take hg)).1]; exact c2
        rw [List.length_take] at this
        omega
      dsimp only
      rw [rExtend_r]
      refine ⟨_, _, S5 _ _ E4, e5, sz100 (by rw [List.length_map, List.length_map, List.length_cons, List.length_cons, goodRows_len]; omega), _, rfl, same_mut (S4.trans S5) hR, ?_⟩
      rw [upd_same, List.take_add_one, hg]
      simp
    · obtain ⟨y5, rfl, S4, E4⟩ := hI
      rw [hgn, List.take_length] at E4
      walk_at "wp"
      obtain ⟨r1, r2⟩ := bakRows_small hb
      refine ⟨⟨_, rfl⟩, _, _, bakRows b, rfl, rfl, .inl (SqL.of E4), ?_, ?_⟩
      · rw [show ("\n" : Str).length = 1 by decide]
        exact rows_sum r1 r2
      · exact q _ (S1.trans (S2.trans S4))
end
end Bk

namespace Bk
open PySem PySem.Spec PyProof.Rows L2
open C8 (Met pe_mt pe_mt0)
local macro_rules | `(tactic| walk_at "wp") => `(tactic| try simp only [iZipA_eq, rZipA_r, iEnumZip_eq, rEnumZip_r, tFld_eq, tMeth_eq, rTIx_r, tTru, tScT2, rSetL_r, rSetOf2_r, rSorDT_r, rSetD, tDGet2, tDGet, tDNewT, cxW, rExtend_r, rSortU_r, rSetOf_r, rSortedSet_r, rNinr_r, rNeN_r, rCatL_r, rSlT_r, rListOf_r, rIsB_b, rNotB_b, tFmtO, tJs, tOst, tCallS, WE, tRaise2, rOne_i, rSorD_r, tDNewK, Int.zero_add, tNever, tFor_eq, tLc_eq, iList, iTup, iRng1_eq, rRng1_i, iRng2_eq, rRng2_i, iEnum_eq, rEnum_r, iZip_eq, rZip_r, tSl, tPart, tNoPart, rSlL_r, rCat_r, rIn_r, rNin_r, rRepr_r, iRevR, rMin_r, rShr_i, rOdd_i, rSetL_r, gSub, rRg1_i, rRg2_i, rInr_r, tAug, ipI_ii, tLstRg, tRg1, tRg2, gTup_r, gUnl_r, rInt1_b, rInt1_i, rRep_r, tStep_r, scal, tSeq, tNext, tAsg, tRet, tRetN, tIfS, tDrop, tCB, tCons, tNil, tVar, tOp, tUn, tC, rU_i, rI_ii, rI0_ii, rEq, rNe, tTest, tB, tAnd, tOr, tNot, tAndV, tOrV, tNotV, tIf, tChain, tLst, tTup, tBM, tBM0, rAppend_r, rIxL_r, rIxT_r, rMx_ii, rMn_ii, rLnL_r, rLnT_r, rIsD_int, rIsD_bool, rIsD_list, rIsD_tuple, tCall, gName, gNil_n, gCons_c, cxK, L2.start, List.map, List.replicate, List.length_cons, List.length_nil, List.cons_append, List.nil_append, List.append_nil, List.getElem?_cons_zero, List.getElem?_cons_succ, Option.some.injEq, exists_eq_left', exists_eq_left, V.int.injEq, V.bl.injEq, V.str.injEq, V.ref.injEq, List.cons.injEq, and_true, true_and, and_self, List.set, wipe, rAll_r, rSum_r, reduceCtorEq, decide_true, decide_false, reduceIte, ite_true, ite_false, if_true, if_false, Bool.false_eq_true, Bool.not_true, Bool.not_false])
local macro_rules | `(tactic| walk_at "shaped") => `(tactic| (simp only [SeqAt.shaped, PyData.canLay0, PyData.canLayAll0, PyData.depth, PyData.depthAll]; rfl))
local macro_rules | `(tactic| walk_at "lay") => `(tactic| (simp only [PyData.canLay0, PyData.canLayAll0]; rfl))
local macro_rules | `(tactic| walk_at "wg") => `(tactic| try simp only [gName, gTup_r, gCons_c, gNil_n, cxK, List.set, List.cons.injEq, and_true, true_and, exists_eq_left', exists_eq_left, List.length_cons, List.length_nil])
section
variable {P : Program} {w : World} {K : PySem.W.Frag} {mg : Str → Option Value} {base : Heap}
abbrev s_Ledger_len : Stmt := inClass (top 84) 1
theorem sc_Ledger_len : FnScope ["self"] ["self"] (defScope s_Ledger_len) := ⟨rfl, rfl, rfl, by decide +kernel, rfl, by decide +kernel, by decide +kernel⟩
def spLLen (K : PySem.W.Frag) (C : Addr) : Sp := fun vs H Q _ => ∃ p L D E ls g ds, vs = [.ref p] ∧ Led C H p L D E ls g ds ∧ Q (.int (ls.length : Int)) H
theorem ok_Ledger_len {f C : Addr} {fd : FuncData} (F : Fun K "__len__" "Ledger.__len__" s_Ledger_len f fd) (B : Bi mg) (T : LTxt K C) : FnOk P w K mg base CX0 1 f fd ["self"] (spLLen K C) := by
  refine F.ok sc_Ledger_len (fun vs H Q E h => ?_) (fun cdv A outer s H vs Q E hr h => ?_)
  · obtain ⟨_, _, _, _, _, _, _, rfl, _⟩ := h
    rfl
  · obtain ⟨p, L, D, E, ls, g, ds, rfl, hL, q⟩ := h
    refine ⟨_, (pss_one (ps_ret (pe_callB call_lnL (by rfl) B.len (by decide +kernel) (pa_cons (pe_fld (pv 0) rfl) pa_nil)))), ?_⟩
    walk_at "wp"
    refine hL.fLights T ?_
    walk_at "wp"
    refine ⟨_, SqL.of hL.li, ?_⟩
    rw [List.length_map]
    exact q
abbrev s_Ledger_eq : Stmt := inClass (top 84) 2
theorem sc_Ledger_eq : FnScope ["self", "other"] ["self", "other"] (defScope s_Ledger_eq) := ⟨rfl, rfl, rfl, by decide +kernel, rfl, by decide +kernel, by decide +kernel⟩
/-- what stands beside a ledger in == : another ledger, or what is none -/
def spLEq (K : PySem.W.Frag) (C : Addr) : Sp := fun vs H Q _ => ∃ p L D E ls g ds y, vs = [.ref p, y] ∧ Led C H p L D E ls g ds ∧ ((∃ p2 L2 D2 E2 ls2 g2 ds2, y = .ref p2 ∧ Led C H p2 L2 D2 E2 ls2 g2 ds2 ∧ Q (.bl (sameB ls g ls2 g2)) H) ∨ (∃ t, TyX K H y t ∧ PySem.W.kitOne K t (.ref C) = some false ∧ Q (.bl false) H))
theorem ok_Ledger_eq {f C : Addr} {fd : FuncData} (F : Fun K "__eq__" "Ledger.__eq__" s_Ledger_eq f fd) (B : Bi mg) (T : LTxt K C) (M_Ledger : mg "Ledger" = some (.ref C)) (TL : ∀ (H : Hp) (p : Addr), (∃ dx fs, H p = some (.ins C dx fs)) → TyX K H (.ref p) (.ref C)) (KL : PySem.W.kitOne K (.ref C) (.ref C) = some true) : FnOk P w K mg base CX0 1 f fd ["self", "other"] (spLEq K C) := by
  refine F.ok sc_Ledger_eq (fun vs H Q E h => ?_) (fun cdv A outer s H vs Q E hr h => ?_)
  · obtain ⟨_, _, _, _, _, _, _, _, rfl, _⟩ := h
    rfl
  · obtain ⟨p, L, D, E, ls, g, ds, y, rfl, hL, q⟩ := h
    refine ⟨_, (pss_cons (ps_if (pt_not (pt_val (pe_callB call_isi (by rfl) B.isinstance (by decide +kernel) (pa_cons (pv 1) (pa_cons (pe_globR (by rfl) M_Ledger) pa_nil))))) (pss_one (ps_ret pe_bl)) pss_nil)
 (pss_one (ps_ret (pe_and (pe_cmpR (op_eqD hr.units) (pe_fld (pv 0) rfl) (pe_fld (pv 1) rfl) (nomark _)) (pe_and (pe_cmpR (op_eqD hr.units) (pe_fld (pv 0) rfl) (pe_fld (pv 1) rfl) (nomark _)) (pe_one (pe_cmpR op_eq (pe_fld (pv 0) rfl) (pe_fld (pv 1) rfl) (nomark _)))))))), ?_⟩
    walk_at "wp"
    rcases q with ⟨p2, L2, D2, E2, ls2, g2, ds2, rfl, hL2, q⟩ | ⟨t, ty, kn, q⟩
    · obtain ⟨dx, hob⟩ := hL2.obj
      refine ⟨_, _, _, _, true, rfl, .own C, TL H p2 ⟨dx, _, hob⟩, KL, ?_⟩
      obtain ⟨xs, hd, htk⟩ := hL.da
      obtain ⟨ys, hd2, htk2⟩ := hL2.da
      have hs : Same (tupsOf H) H := fun b o e => by
        obtain ⟨e', ys, rfl⟩ := tupsOf_is e
        exact e'
      refine ⟨true, rfl, ?_⟩
      rw [if_neg (by decide)]
      refine hL.fLights T ?_
      refine hL2.fLights T ?_
      rw [sameB_eq] at q
      refine eqD_ints hL.li hL2.li ?_
      refine ⟨_, rfl, ?_⟩
      cases h1 : PyData.eqv (.list (ls.map PyData.int)) (.list (ls2.map PyData.int)) with
      | false =>
        rw [h1, Bool.false_and] at q
        rw [if_neg (by decide)]
        exact q
      | true =>
        rw [h1, Bool.true_and] at q
        rw [if_pos rfl]
        refine hL.fDays T ?_
        refine hL2.fDays T ?_
        refine eqD_days hd (htk.same hs).th hd2 (htk2.same hs).th ?_
        refine ⟨_, rfl, ?_⟩
        cases h2 : PyData.eqv (.list (g.days.map dayD)) (.list (g2.days.map dayD)) with
        | false =>
          rw [h2, Bool.false_and] at q
          rw [if_neg (by decide)]
          exact q
        | true =>
          rw [h2, Bool.true_and] at q
          rw [if_pos rfl]
          refine hL.fLife T ?_
          refine hL2.fLife T ?_
          refine ⟨?_, q⟩
          cases g.life <;> cases g2.life <;> rfl
    · refine ⟨_, _, _, _, false, rfl, .own C, ty, kn, ?_⟩
      refine ⟨false, rfl, ?_⟩
      rw [if_pos (by decide)]
      exact q
abbrev s_Ledger_str : Stmt := inClass (top 84) 3
theorem sc_Ledger_str : FnScope ["self"] ["self"] (defScope s_Ledger_str) := ⟨rfl, rfl, rfl, by decide +kernel, rfl, by decide +kernel, by decide +kernel⟩
def spLStr (K : PySem.W.Frag) (C : Addr) : Sp := fun vs H Q _ => ∃ p L D E ls g ds, vs = [.ref p] ∧ Led C H p L D E ls g ds ∧ ∀ H', Same H H' → Q (.str (bakText ⟨ls, none, [g]⟩)) H'
theorem ok_Ledger_str {f C : Addr} {fd : FuncData} (F : Fun K "__str__" "Ledger.__str__" s_Ledger_str f fd) (Bq : mg "str" = none) (D_show_bakery : Def P w K mg base "show_bakery" 7 ["bakery"] (spShow K)) (T_bakery : Met P w K mg base 1 C "bakery" (spLBak K C) []) : FnOk P w K mg base CX0 9 f fd ["self"] (spLStr K C) := by
  refine F.ok sc_Ledger_str (fun vs H Q E h => ?_) (fun cdv A outer s H vs Q E hr h => ?_)
  · obtain ⟨_, _, _, _, _, _, _, rfl, _⟩ := h
    rfl
  · obtain ⟨p, L, D, E, ls, g, ds, rfl, hL, q⟩ := h
    refine ⟨_, (pss_one (ps_ret (pe_callTy SkE.call_str_str (by rfl) Bq (by decide +kernel) (pa_cons (pe_callD D_show_bakery hr (by rfl) (pa_cons (pe_mt0 T_bakery hr (by omega) (pv 0)) pa_nil)) pa_nil)))), ?_⟩
    walk_at "wp"
    refine ⟨hL.isObj, p, L, D, E, ls, g, ds, rfl, hL, fun H1 t S1 ht => ?_⟩
    refine ⟨_, _, rfl, ((ht.same (but_same _ _)).th), hL.ok, fun H2 S2 => ?_⟩
    walk_at "wp"
    exact q _ (S1.trans S2)
end
end Bk

namespace Bk
open PySem PySem.Spec PyProof.Rows L2
open C8 (Met pe_mt pe_mt0)
local macro_rules | `(tactic| walk_at "wp") => `(tactic| try simp only [iRng3_eq, rRng3_i, rNeN_r, iZipA_eq, rZipA_r, iEnumZip_eq, rEnumZip_r, tFld_eq, tMeth_eq, rTIx_r, tTru, tScT2, rSetL_r, rSetOf2_r, rSorDT_r, rSetD, tDGet2, tDGet, tDNewT, cxW, rExtend_r, rSortU_r, rSetOf_r, rSortedSet_r, rNinr_r, rNeN_r, rCatL_r, rSlT_r, rListOf_r, rIsB_b, rNotB_b, tFmtO, tJs, tOst, tCallS, WE, tRaise2, rOne_i, rSorD_r, tDNewK, Int.zero_add, tNever, tFor_eq, tLc_eq, iList, iTup, iRng1_eq, rRng1_i, iRng2_eq, rRng2_i, iEnum_eq, rEnum_r, iZip_eq, rZip_r, tSl, tPart, tNoPart, rSlL_r, rCat_r, rIn_r, rNin_r, rRepr_r, iRevR, rMin_r, rShr_i, rOdd_i, rSetL_r, gSub, rRg1_i, rRg2_i, rInr_r, tAug, ipI_ii, tLstRg, tRg1, tRg2, gTup_r, gUnl_r, rInt1_b, rInt1_i, rRep_r, tStep_r, scal, tSeq, tNext, tAsg, tRet, tRetN, tIfS, tDrop, tCB, tCons, tNil, tVar, tOp, tUn, tC, rU_i, rI_ii, rI0_ii, rEq, rNe, tTest, tB, tAnd, tOr, tNot, tAndV, tOrV, tNotV, tIf, tChain, tLst, tTup, tBM, tBM0, rAppend_r, rIxL_r, rIxT_r, rMx_ii, rMn_ii, rLnL_r, rLnT_r, rIsD_int, rIsD_bool, rIsD_list, rIsD_tuple, tCall, gName, gNil_n, gCons_c, cxK, L2.start, List.map, List.replicate, List.length_cons, List.length_nil, List.cons_append, List.nil_append, List.append_nil, List.getElem?_cons_zero, List.getElem?_cons_succ, Option.some.injEq, exists_eq_left', exists_eq_left, V.int.injEq, V.bl.injEq, V.str.injEq, V.ref.injEq, List.cons.injEq, and_true, true_and, and_self, List.set, wipe, rAll_r, rSum_r, reduceCtorEq, decide_true, decide_false, reduceIte, ite_true, ite_false, if_true, if_false, Bool.false_eq_true, Bool.not_true, Bool.not_false])
local macro_rules | `(tactic| walk_at "shaped") => `(tactic| (simp only [iRng3_eq, rRng3_i, rNeN_r, SeqAt.shaped, PyData.canLay0, PyData.canLayAll0, PyData.depth, PyData.depthAll]; rfl))
local macro_rules | `(tactic| walk_at "lay") => `(tactic| (simp only [iRng3_eq, rRng3_i, rNeN_r, PyData.canLay0, PyData.canLayAll0]; rfl))
local macro_rules | `(tactic| walk_at "wg") => `(tactic| try simp only [gName, gTup_r, gCons_c, gNil_n, cxK, List.set, List.cons.injEq, and_true, true_and, exists_eq_left', exists_eq_left, List.length_cons, List.length_nil])
section
variable {P : Program} {w : World} {K : PySem.W.Frag} {mg : Str → Option Value} {base : Heap}
theorem withD_back {s : Str} {o : Option Int} {d : Day} (hs : s ∈ partsL) : withD s (worthD s d) (withD s o d) = d := by
  obtain ⟨w, l, k, f⟩ := d
  have n12 : ¬ (("loaf" : Str) = "want") := by decide +kernel
  have n13 : ¬ (("keep" : Str) = "want") := by decide +kernel
  have n14 : ¬ (("fine" : Str) = "want") := by decide +kernel
  have n23 : ¬ (("keep" : Str) = "loaf") := by decide +kernel
  have n24 : ¬ (("fine" : Str) = "loaf") := by decide +kernel
  have n34 : ¬ (("fine" : Str) = "keep") := by decide +kernel
  simp only [partsL, List.mem_cons, List.not_mem_nil, or_false] at hs
  unfold withD worthD
  rcases hs with rfl | rfl | rfl | rfl
  · simp only [if_true, Option.getD_some]
  · simp only [if_neg n12, if_true, Option.getD_some]
  · simp only [if_neg n13, if_neg n23, if_true, Option.getD_some]
  · simp only [if_neg n14, if_neg n24, if_neg n34, if_true]
theorem part_mem {s : Str} (h : partB s = true) (h1 : s ≠ "light") : s ∈ partsL := by
  unfold partB at h
  rw [decide_eq_false h1, Bool.false_or] at h
  exact of_decide_eq_true h
theorem setLs_back {ls : List Int} {g : Good} {i : Nat} {s : Str} {o : Option Int} (hi : i < ls.length) : setLs (setLs ls i s o) i s (worthL ls g i s) = ls := by
  unfold setLs worthL
  by_cases h : s = "light"
  · rw [if_pos h, if_pos h, if_pos h, List.set_set]
    show ls.set i (rowF ls i) = ls
    have e : rowF ls i = ls[i] := by
      unfold rowF
      rw [List.getD_eq_getElem?_getD, List.getElem?_eq_getElem hi]
      rfl
    rw [e, List.set_getElem_self]
  · rw [if_neg h, if_neg h]
theorem setGd_back {ls : List Int} {g : Good} {i : Nat} {s : Str} {o : Option Int} (hz : partB s = true) (hi : i < g.days.length) : setGd (setGd g i s o) i s (worthL ls g i s) = g := by
  unfold setGd worthL
  by_cases h : s = "light"
  · rw [if_pos h, if_pos h]
  · rw [if_neg h, if_neg h, if_neg h]
    have hd : g.days[i]? = some g.days[i] := List.getElem?_eq_getElem hi
    generalize hg : g.days[i] = d at hd
    rw [hd]
    dsimp only
    unfold setG
    dsimp only
    rw [List.getElem?_set_self hi]
    dsimp only
    rw [withD_back (part_mem hz h), List.set_set, ← hg, List.set_getElem_self]
theorem worth_ok {C p L D E : Addr} {H : Hp} {ls : List Int} {g : Good} {ds : List Deed} {i : Nat} {s : Str} (hL : Led C H p L D E ls g ds) (hi : i < ls.length) (hz : partB s = true) : worthB s (worthL ls g i s) = true := by
  obtain ⟨⟨c1, c2⟩, c3, c4, ⟨c5, c6⟩, c7⟩ := bak_parts hL.ok
  obtain ⟨k1, k2, k3⟩ := c7 g List.mem_cons_self
  dsimp only at k1
  unfold worthL worthB
  by_cases h : s = "light"
  · rw [if_pos h]
    have : numD (optD (some (rowF ls i))) = true := by
      have e : rowF ls i = ls[i] := by
        unfold rowF
        rw [List.getD_eq_getElem?_getD, List.getElem?_eq_getElem hi]
        rfl
      rw [e]
      exact c3 _ (List.getElem_mem hi)
    rw [this, Bool.true_or]
  · rw [if_neg h]
    have hd : g.days[i]? = some g.days[i] := List.getElem?_eq_getElem (by omega)
    have hdm := List.getElem_mem (show i < g.days.length by omega)
    generalize g.days[i] = d at hd hdm
    rw [hd]
    dsimp only
    have hdo := k3 d hdm
    simp only [dayB, dayD, Bool.and_eq_true] at hdo
    obtain ⟨⟨⟨a1, a2⟩, a3⟩, a4⟩ := hdo
    have hm := part_mem hz h
    unfold worthD
    by_cases h1 : s = "want"
    · rw [if_pos h1]
      show (numD (.int d.want) || _) = true
      rw [a1, Bool.true_or]
    · rw [if_neg h1]
      by_cases h2 : s = "loaf"
      · rw [if_pos h2]
        show (numD (.int d.loaf) || _) = true
        rw [a2, Bool.true_or]
      · rw [if_neg h2]
        by_cases h3 : s = "keep"
        · rw [if_pos h3]
          show (numD (.int d.keep) || _) = true
          rw [a3, Bool.true_or]
        · rw [if_neg h3]
          have h4 : s = "fine" := by
            simp only [partsL, List.mem_cons, List.not_mem_nil, or_false] at hm
            rcases hm with h | h | h | h
            · exact absurd h h1
            · exact absurd h h2
            · exact absurd h h3
            · exact h
          rw [decide_eq_true h4, Bool.true_and]
          cases hf : d.fine with
          | none => rw [Option.isNone_none, Bool.or_true]
          | some y =>
            rw [hf] at a4
            have a4 : (noneB (optD (some y)) || numD (optD (some y))) = true := a4
            have : noneB (optD (some y)) = false := rfl
            rw [this, Bool.false_or] at a4
            rw [a4, Bool.true_or]
def DeedOk (n : Nat) (d : Deed) : Prop := ∃ i s o, d = some (i, s, o) ∧ i < n ∧ partB s = true ∧ worthB s o = true
def partAt : Nat → Str
  | 0 => "want"
  | 1 => "loaf"
  | 2 => "keep"
  | _ => "fine"
def worthAt : Nat → Day → Option Int
  | 0, d => some d.want
  | 1, d => some d.loaf
  | 2, d => some d.keep
  | _, d => d.fine
def Agr (a : Nat) (d d0 : Day) : Prop := ∀ b, b < a → b < 4 → worthAt b d = worthAt b d0
theorem Agr.all {d d0 : Day} (h : Agr 4 d d0) : d = d0 := by
  obtain ⟨w, l, k, f⟩ := d
  obtain ⟨w', l', k', f'⟩ := d0
  have h0 := h 0 (by omega) (by omega)
  have h1 := h 1 (by omega) (by omega)
  have h2 := h 2 (by omega) (by omega)
  have h3 := h 3 (by omega) (by omega)
  simp only [worthAt, Option.some.injEq] at h0 h1 h2 h3
  rw [h0, h1, h2, h3]
theorem withD_at {a : Nat} (ha : a < 4) (d0 d : Day) {b : Nat} (hb : b < 4) : worthAt b (withD (partAt a) (worthAt a d0) d) = if b = a then worthAt a d0 else worthAt b d := by
  have n12 : ¬ (("loaf" : Str) = "want") := by decide +kernel
  have n13 : ¬ (("keep" : Str) = "want") := by decide +kernel
  have n14 : ¬ (("fine" : Str) = "want") := by decide +kernel
  have n23 : ¬ (("keep" : Str) = "loaf") := by decide +kernel
  have n24 : ¬ (("fine" : Str) = "loaf") := by decide +kernel
  have n34 : ¬ (("fine" : Str) = "keep") := by decide +kernel
  unfold withD
  match a, ha with
  | 0, _ =>
    simp only [partAt, if_true]
    match b, hb with
    | 0, _ => rfl
    | 1, _ => rfl
    | 2, _ => rfl
    | 3, _ => rfl
  | 1, _ =>
    simp only [partAt, if_neg n12, if_true]
    match b, hb with
    | 0, _ => rfl
    | 1, _ => rfl
    | 2, _ => rfl
    | 3, _ => rfl
  | 2, _ =>
    simp only [partAt, if_neg n13, if_neg n23, if_true]
    match b, hb with
    | 0, _ => rfl
    | 1, _ => rfl
    | 2, _ => rfl
    | 3, _ => rfl
  | 3, _ =>
    simp only [partAt, if_neg n14, if_neg n24, if_neg n34, if_true]
    match b, hb with
    | 0, _ => rfl
    | 1, _ => rfl
    | 2, _ => rfl
    | 3, _ => rfl
theorem Agr.set {a : Nat} (ha : a < 4) {d d0 : Day} (h : Agr a d d0) : Agr (a + 1) (withD (partAt a) (worthAt a d0) d) d0 := fun b hb h4 => by
  rw [withD_at ha d0 d h4]
  by_cases e : b = a
  · rw [if_pos e, e]
  · rw [if_neg e]
    exact h b (by omega) h4
theorem part_atB {a : Nat} (ha : a < 4) : partB (partAt a) = true ∧ partAt a ≠ "light" := by
  match a, ha with
  | 0, _ => exact ⟨by decide +kernel, by decide +kernel⟩
  | 1, _ => exact ⟨by decide +kernel, by decide +kernel⟩
  | 2, _ => exact ⟨by decide +kernel, by decide +kernel⟩
  | 3, _ => exact ⟨by decide +kernel, by decide +kernel⟩
theorem setGd_at {g : Good} {i a : Nat} (ha : a < 4) {d : Day} {o : Option Int} (hd : g.days[i]? = some d) : setGd g i (partAt a) o = setG g i (withD (partAt a) o d) := by
  unfold setGd
  rw [if_neg (part_atB ha).2, hd]
theorem setLs_at {ls : List Int} {i a : Nat} (ha : a < 4) {o : Option Int} : setLs ls i (partAt a) o = ls := by
  unfold setLs
  rw [if_neg (part_atB ha).2]
theorem rCatA_same {K : PySem.W.Frag} {H : Hp} {a b : Addr} {xs ys : List V} {Q : VK} (h1 : SqT K H a xs) (h2 : SqT K H b ys) (hz : xs.length + ys.length ≤ 100) (q : ∀ H' r, Same H H' → SqT K H' r (xs ++ ys) → Q (.ref r) H') : rCatA K (.ref a) (.ref b) H Q :=
  ⟨a, b, xs, ys, rfl, rfl, h1, h2, sz100 (Nat.le_trans hz (by decide)), fun e => q _ _ (Same.refl _) (by rw [e]; exact h2), fun _ e => q _ _ (Same.refl _) (by rw [e, List.append_nil]; exact h1), fun _ _ p hp => q _ _ (same_upd hp) (SqT.of upd_same)⟩
theorem nS_of {H : Hp} {S : List Addr} (hS : Lsts H S) {G : Hp} {p : Addr} (s : Same H G) (h : G p = none) : p ∉ S := fun z => by
  obtain ⟨o, e⟩ := hS p z
  rw [s _ _ e] at h
  cases h
theorem bbT {K : PySem.W.Frag} {H G : Hp} {S : List Addr} {r : Addr} {xs : List V} (hS : Lsts H S) (s : Same H G) (h : SqT K G r xs) : SqT K (but S G) r xs := by
  have nS : ∀ {o : HO}, (∀ ys, o ≠ .lst ys) → G r = some o → r ∉ S := fun {o} ho e z => by
    obtain ⟨ys, e2⟩ := hS r z
    rw [s _ _ e2] at e
    exact ho ys (Option.some.inj e).symm
  rcases h with (h | ⟨o, h⟩) | h
  · exact .inl (.inl (but_at (nS (fun _ z => by cases z) h) h))
  · exact .inl (.inr ⟨o, but_at (nS (fun _ z => by cases z) h) h⟩)
  · exact .inr h
def spAdded (K : PySem.W.Frag) : Sp := fun vs H Q _ => ∃ x ls g, ∃ (z : Int) (t : Addr) (d : Day) (S : List Addr), vs = [x, .int z, .ref t] ∧ Lsts H S ∧ Th K (but S H) x (bakD ⟨ls, none, [g]⟩) ∧ ls.length ≤ 1000 ∧ g.days.length ≤ 1000 ∧ SqT K (but S H) t [.int d.want, .int d.loaf, .int d.keep, optV d.fine] ∧ ∀ H' y, Same H H' → Th K (but S H') y (bakD ⟨ls ++ [z], none, [addG g d]⟩) → Q y H'
abbrev s_added : Stmt := top 92
theorem sc_added : FnScope ["_law_bakery_here", "_law_lamp", "_law_place", "_law_lights", "_law_bound", "_law_goods"] ["_law_bakery_here", "_law_lamp", "_law_place"] (defScope s_added) := ⟨rfl, rfl, rfl, by decide +kernel, rfl, by decide +kernel, by decide +kernel⟩
theorem ok_added {f : Addr} {fd : FuncData} (F : Fun K "_law_added" "_law_added" s_added f fd) : FnOk P w K mg base CX0 1 f fd ["_law_bakery_here", "_law_lamp", "_law_place"] (spAdded K) := by
  refine F.ok sc_added (fun vs H Q E h => ?_) (fun cdv A outer s H vs Q E hr h => ?_)
  · obtain ⟨_, _, _, _, _, _, _, rfl, _⟩ := h
    rfl
  · obtain ⟨x, ls, g, z, t, d, S, rfl, hS, hx, hl1, hg1, htd, q⟩ := h
    refine ⟨_, (pss_cons (ps_asg (pv 0) (pg_tup rfl (pgs_cons (pg_name (i := 3) sc_added.nd rfl (Or.inl rfl)) (pgs_cons (pg_name (i := 4) sc_added.nd rfl (Or.inl rfl)) (pgs_cons (pg_name (i := 5) sc_added.nd rfl (Or.inl rfl)) pgs_nil)))))
 (pss_one (ps_ret (pe_tup (pa_cons (pe_op op_catL (pv 3) (pe_lst (pa_cons (pv 1) pa_nil))) (pa_cons (pv 4) (pa_cons (pe_lst (pa_cons (pe_tup (pa_cons (pe_op op_catL (pe_ix ix_tup (pe_ix ix_list (pv 5) pe_int (fun _ _ => rfl)) pe_int (fun _ _ => rfl)) (pe_lst (pa_cons (pv 2) pa_nil))) (pa_cons (pe_ix ix_tup (pe_ix ix_list (pv 5) pe_int (fun _ _ => rfl)) pe_int (fun _ _ => rfl)) pa_nil))) pa_nil)) pa_nil))))))), ?_⟩
    obtain ⟨a, l, v2, ga, xl, xg, rfl, ht, hl, hla, h2, hgl, hga⟩ := Th.bak hx
    obtain ⟨vg, hv, hvg⟩ := hga.get' (i := 0) (d := goodD g) rfl
    obtain ⟨tg, ad, xs, rfl, htg, hsg, hag⟩ := hvg.good
    have sB : Same (but S H) H := but_same _ _
    have ht := Same.tup sB ht
    have hl := sB.seq hl
    have hgl := sB.seq hgl
    have htg := Same.tup sB htg
    have hsg := sB.seq hsg
    have hxl := hla.intsV
    dsimp only at hxl
    subst hxl
    have hxs := hag.length
    rw [List.length_map] at hxs
    have h2n : v2 = .non := by
      have h2 : Th K (but S H) v2 .none := h2
      cases h2
      rfl
    subst h2n
    walk_at "wp"
    refine ⟨_, ht, rfl, ?_⟩
    walk_at "wp"
    refine ⟨sz100 (by decide), fun p1 h1 => ?_⟩
    have S1 := same_upd (o := .lst [V.int z]) h1
    have E1 : upd H p1 (.lst [V.int z]) p1 = some (.lst [V.int z]) := upd_same
    generalize upd H p1 (.lst [V.int z]) = H1 at S1 E1 ⊢
    walk_at "wp"
    refine ⟨_, _, S1.seq hl, SqL.of E1, sz100 (by rw [List.length_map]; show ls.length + 1 ≤ 100000; omega), fun p2 h2' => ?_⟩
    rw [show ls.map V.int ++ [V.int z] = (ls ++ [z]).map V.int by rw [List.map_append]; rfl]
    have S2 := same_upd (o := .lst ((ls ++ [z]).map V.int)) h2'
    have E2 : upd H1 p2 (.lst ((ls ++ [z]).map V.int)) p2 = some (.lst ((ls ++ [z]).map V.int)) := upd_same
    generalize upd H1 p2 (.lst ((ls ++ [z]).map V.int)) = H2 at S2 E2 ⊢
    have S02 := S1.trans S2
    refine ⟨_, _, S02.seq hgl, atI_nat (j := 0) hv, ?_⟩
    walk_at "wp"
    refine ⟨_, _, Same.tup S02 htg, atI_nat (j := 0) rfl, ?_⟩
    refine ⟨sz100 (by decide), fun p3 h3 => ?_⟩
    have S3 := same_upd (o := .lst [V.ref t]) h3
    have E3 : upd H2 p3 (.lst [V.ref t]) p3 = some (.lst [V.ref t]) := upd_same
    generalize upd H2 p3 (.lst [V.ref t]) = H3 at S3 E3 ⊢
    have S03 := S02.trans S3
    walk_at "wp"
    refine ⟨_, _, S03.seq hsg, SqL.of E3, sz100 (by show xs.length + 1 ≤ 100000; omega), fun p4 h4 => ?_⟩
    have S4 := same_upd (o := .lst (xs ++ [V.ref t])) h4
    have E4 : upd H3 p4 (.lst (xs ++ [V.ref t])) p4 = some (.lst (xs ++ [V.ref t])) := upd_same
    generalize upd H3 p4 (.lst (xs ++ [V.ref t])) = H4 at S4 E4 ⊢
    have S04' := S03.trans S4
    refine ⟨_, _, S04'.seq hgl, atI_nat (j := 0) hv, ?_⟩
    walk_at "wp"
    refine ⟨_, _, Same.tup S04' htg, atI_nat (j := 1) rfl, ?_⟩
    refine ⟨sz100 (by decide), fun p5 h5 => ⟨sz100 (by decide), fun p6 h6 => ⟨sz100 (by decide), fun p7 h7 => ?_⟩⟩⟩
    have S5 := same_upd (o := .tup [V.ref p4, optV g.life]) h5
    have E5 : upd H4 p5 (.tup [V.ref p4, optV g.life]) p5 = some (.tup [V.ref p4, optV g.life]) := upd_same
    generalize upd H4 p5 (.tup [V.ref p4, optV g.life]) = H5 at S5 E5 h6 h7 ⊢
    have S6 := same_upd (o := .lst [V.ref p5]) h6
    have E6 : upd H5 p6 (.lst [V.ref p5]) p6 = some (.lst [V.ref p5]) := upd_same
    generalize upd H5 p6 (.lst [V.ref p5]) = H6 at S6 E6 h7 ⊢
    have S7 := same_upd (o := .tup [V.ref p2, V.non, V.ref p6]) h7
    have E7 : upd H6 p7 (.tup [V.ref p2, V.non, V.ref p6]) p7 = some (.tup [V.ref p2, V.non, V.ref p6]) := upd_same
    generalize upd H6 p7 (.tup [V.ref p2, V.non, V.ref p6]) = H7 at S7 E7 ⊢
    have S57 := S5.trans (S6.trans S7)
    have S07 := S03.trans (S4.trans S57)
    refine q H7 _ S07 (.tup (SqT.of (but_at (nS_of hS (S03.trans (S4.trans (S5.trans S6))) h7) E7)) (.cons (.lst (SqL.of (but_at (nS_of hS S1 h2') ((S3.trans (S4.trans S57)) _ _ E2))) (ThAll.ints _)) (.cons .non (.cons (.lst (SqL.of (but_at (nS_of hS (S03.trans (S4.trans S5)) h6) (S7 _ _ E6))) (.cons (.tup (SqT.of (but_at (nS_of hS (S03.trans S4) h5) ((S6.trans S7) _ _ E5))) (.cons (.lst (SqL.of (but_at (nS_of hS S03 h4) (S57 _ _ E4))) ?_) (.cons (Th.optV _) .nil))) .nil)) .nil))))
    have S07 := but_mono (S := S) S07
    show ThAll K (but S H7) _ ((g.days ++ [d]).map dayD)
    rw [show (g.days ++ [d]).map dayD = g.days.map dayD ++ [dayD d] from List.map_append]
    exact (hag.same S07).append (.cons (.tup (Same.tup S07 htd) (.cons (.int _) (.cons (.int _) (.cons (.int _) (.cons (Th.optV _) .nil))))) .nil)
end
end Bk

namespace Bk
open PySem PySem.Spec PyProof.Rows L2
open C8 (Met pe_mt pe_mt0)
local macro_rules | `(tactic| walk_at "wp") => `(tactic| try simp only [iRng3_eq, rRng3_i, rNeN_r, iZipA_eq, rZipA_r, iEnumZip_eq, rEnumZip_r, tFld_eq, tMeth_eq, rTIx_r, tTru, tScT2, rSetL_r, rSetOf2_r, rSorDT_r, rSetD, tDGet2, tDGet, tDNewT, cxW, rExtend_r, rSortU_r, rSetOf_r, rSortedSet_r, rNinr_r, rNeN_r, rCatL_r, rSlT_r, rListOf_r, rIsB_b, rNotB_b, tFmtO, tJs, tOst, tCallS, WE, tRaise2, rOne_i, rSorD_r, tDNewK, Int.zero_add, tNever, tFor_eq, tLc_eq, iList, iTup, iRng1_eq, rRng1_i, iRng2_eq, rRng2_i, iEnum_eq, rEnum_r, iZip_eq, rZip_r, tSl, tPart, tNoPart, rSlL_r, rCat_r, rIn_r, rNin_r, rRepr_r, iRevR, rMin_r, rShr_i, rOdd_i, rSetL_r, gSub, rRg1_i, rRg2_i, rInr_r, tAug, ipI_ii, tLstRg, tRg1, tRg2, gTup_r, gUnl_r, rInt1_b, rInt1_i, rRep_r, tStep_r, scal, tSeq, tNext, tAsg, tRet, tRetN, tIfS, tDrop, tCB, tCons, tNil, tVar, tOp, tUn, tC, rU_i, rI_ii, rI0_ii, rEq, rNe, tTest, tB, tAnd, tOr, tNot, tAndV, tOrV, tNotV, tIf, tChain, tLst, tTup, tBM, tBM0, rAppend_r, rIxL_r, rIxT_r, rMx_ii, rMn_ii, rLnL_r, rLnT_r, rIsD_int, rIsD_bool, rIsD_list, rIsD_tuple, tCall, gName, gNil_n, gCons_c, cxK, L2.start, List.map, List.replicate, List.length_cons, List.length_nil, List.cons_append, List.nil_append, List.append_nil, List.getElem?_cons_zero, List.getElem?_cons_succ, Option.some.injEq, exists_eq_left', exists_eq_left, V.int.injEq, V.bl.injEq, V.str.injEq, V.ref.injEq, List.cons.injEq, and_true, true_and, and_self, List.set, wipe, rAll_r, rSum_r, reduceCtorEq, decide_true, decide_false, reduceIte, ite_true, ite_false, if_true, if_false, Bool.false_eq_true, Bool.not_true, Bool.not_false])
local macro_rules | `(tactic| walk_at "shaped") => `(tactic| (simp only [iRng3_eq, rRng3_i, rNeN_r, SeqAt.shaped, PyData.canLay0, PyData.canLayAll0, PyData.depth, PyData.depthAll]; rfl))
local macro_rules | `(tactic| walk_at "lay") => `(tactic| (simp only [iRng3_eq, rRng3_i, rNeN_r, PyData.canLay0, PyData.canLayAll0]; rfl))
local macro_rules | `(tactic| walk_at "wg") => `(tactic| try simp only [gName, gTup_r, gCons_c, gNil_n, cxK, List.set, List.cons.injEq, and_true, true_and, exists_eq_left', exists_eq_left, List.length_cons, List.length_nil])
section
variable {P : Program} {w : World} {K : PySem.W.Frag} {mg : Str → Option Value} {base : Heap}
theorem withD_list {a : Nat} (ha : a < 4) {o : Option Int} (ho : worthB (partAt a) o = true) (d : Day) : ([V.int d.want, V.int d.loaf, V.int d.keep, optV d.fine] : List V).take a ++ [optV o] ++ ([V.int d.want, V.int d.loaf, V.int d.keep, optV d.fine] : List V).drop (a + 1) = [V.int (withD (partAt a) o d).want, V.int (withD (partAt a) o d).loaf, V.int (withD (partAt a) o d).keep, optV (withD (partAt a) o d).fine] := by
  have n12 : ¬ (("loaf" : Str) = "want") := by decide +kernel
  have n13 : ¬ (("keep" : Str) = "want") := by decide +kernel
  have n14 : ¬ (("fine" : Str) = "want") := by decide +kernel
  have n23 : ¬ (("keep" : Str) = "loaf") := by decide +kernel
  have n24 : ¬ (("fine" : Str) = "loaf") := by decide +kernel
  have n34 : ¬ (("fine" : Str) = "keep") := by decide +kernel
  match a, ha with
  | 0, _ =>
    obtain ⟨y, rfl, _⟩ := worth_num ho (by decide +kernel)
    unfold withD
    simp only [partAt, if_true]
    rfl
  | 1, _ =>
    obtain ⟨y, rfl, _⟩ := worth_num ho (by decide +kernel)
    unfold withD
    simp only [partAt, if_neg n12, if_true]
    rfl
  | 2, _ =>
    obtain ⟨y, rfl, _⟩ := worth_num ho (by decide +kernel)
    unfold withD
    simp only [partAt, if_neg n13, if_neg n23, if_true]
    rfl
  | 3, _ =>
    unfold withD
    simp only [partAt, if_neg n14, if_neg n24, if_neg n34, if_true]
    rfl
theorem partAt_of {s : Str} (h : s ∈ partsL) : ∃ a, a < 4 ∧ s = partAt a := by
  simp only [partsL, List.mem_cons, List.not_mem_nil, or_false] at h
  rcases h with rfl | rfl | rfl | rfl
  · exact ⟨0, by decide, rfl⟩
  · exact ⟨1, by decide, rfl⟩
  · exact ⟨2, by decide, rfl⟩
  · exact ⟨3, by decide, rfl⟩
theorem set_parts {α : Type} {l : List α} {i : Nat} {x : α} (h : i < l.length) : l.take i ++ [x] ++ l.drop (i + 1) = l.set i x := by
  rw [List.set_eq_take_append_cons_drop, if_pos h, List.append_assoc]
  rfl
theorem alloc {H : Hp} {p : Addr} (o : HO) (h : H p = none) : ∃ H', upd H p o = H' ∧ Same H H' ∧ H' p = some o := ⟨_, rfl, same_upd h, upd_same⟩
def spChanged (K : PySem.W.Frag) : Sp := fun vs H Q _ => ∃ x ls g, ∃ (i : Nat) (s : Str) (o : Option Int) (S : List Addr), vs = [x, .int (i : Int), .str s, optV o] ∧ Lsts H S ∧ Th K (but S H) x (bakD ⟨ls, none, [g]⟩) ∧ g.days.length = ls.length ∧ ls.length ≤ 1000 ∧ i < ls.length ∧ partB s = true ∧ worthB s o = true ∧ ∀ H' y, Same H H' → Th K (but S H') y (bakD ⟨setLs ls i s o, none, [setGd g i s o]⟩) → Q y H'
abbrev s_changed : Stmt := top 91
theorem sc_changed : FnScope ["_law_bakery_here", "_law_place", "_law_piece", "_law_amount", "_law_lights", "_law_bound", "_law_goods", "_law_days_here", "_law_life", "_law_row"] ["_law_bakery_here", "_law_place", "_law_piece", "_law_amount"] (defScope s_changed) := ⟨rfl, rfl, rfl, by decide +kernel, rfl, by decide +kernel, by decide +kernel⟩
/-- the word of a piece of a day -/
def wordK : Nat → Str
  | 0 => "light"
  | k + 1 => partAt k
def spChg42 (K : PySem.W.Frag) : Sp := fun vs H Q _ => ∃ x ls g, ∃ (i k : Nat) (o : Option Int) (S : List Addr), vs = [x, .int (i : Int), .int (k : Int), optV o] ∧ Lsts H S ∧ Th K (but S H) x (bakD ⟨ls, none, [g]⟩) ∧ g.days.length = ls.length ∧ ls.length ≤ 1000 ∧ i < ls.length ∧ k < 5 ∧ worthB (wordK k) o = true ∧ ∀ H' y, Same H H' → Th K (but S H') y (bakD ⟨setLs ls i (wordK k) o, none, [setGd g i (wordK k) o]⟩) → Q y H'
theorem ok_chg42 {f : Addr} {fd : FuncData} (F : Fun K "_law_changed" "_law_changed" s_changed f fd) : FnOk P w K mg base CX0 1 f fd ["_law_bakery_here", "_law_place", "_law_piece", "_law_amount"] (spChg42 K) := by
  refine F.ok sc_changed (fun vs H Q E h => ?_) (fun cdv A outer s H vs Q E hr h => ?_)
  · obtain ⟨_, _, _, _, _, _, _, rfl, _⟩ := h
    rfl
  · obtain ⟨x, ls, g, i, kk, o, S, rfl, hS, hx, hg1, hl1, hi, hk5, ho, q⟩ := h
    refine ⟨_, (pss_cons (ps_asg (pv 0) (pg_tup rfl (pgs_cons (pg_name (i := 4) sc_changed.nd rfl (Or.inl rfl)) (pgs_cons (pg_name (i := 5) sc_changed.nd rfl (Or.inl rfl)) (pgs_cons (pg_name (i := 6) sc_changed.nd rfl (Or.inl rfl)) pgs_nil)))))
 (pss_cons (ps_asg (pe_ix ix_list (pv 6) pe_int (fun _ _ => rfl)) (pg_tup rfl (pgs_cons (pg_name (i := 7) sc_changed.nd rfl (Or.inl rfl)) (pgs_cons (pg_name (i := 8) sc_changed.nd rfl (Or.inl rfl)) pgs_nil))))
 (pss_cons (ps_if (pt_cmpR op_eq (pv 2) pe_int (nomark _)) (pss_one (ps_ret (pe_tup (pa_cons (pe_op op_catL (pe_op op_catL (pe_slice sl_list (pv 4) po_none (po_some (pv 1))) (pe_lst (pa_cons (pv 3) pa_nil))) (pe_slice sl_list (pv 4) (po_some (pe_op op_add (pv 1) pe_int)) po_none)) (pa_cons (pv 5) (pa_cons (pe_lst (pa_cons (pe_tup (pa_cons (pv 7) (pa_cons (pv 8) pa_nil))) pa_nil)) pa_nil)))))) pss_nil)
 (pss_cons (ps_set (i := 9) sc_changed.nd rfl (Or.inl rfl) (pe_op op_catA (pe_op op_catA (pe_slice sl_tup (pe_ix ix_list (pv 7) (pv 1) (fun _ _ => rfl)) po_none (po_some (pe_op op_sub (pv 2) pe_int))) (pe_tup (pa_cons (pv 3) pa_nil))) (pe_slice sl_tup (pe_ix ix_list (pv 7) (pv 1) (fun _ _ => rfl)) (po_some (pv 2)) po_none)))
 (pss_one (ps_ret (pe_tup (pa_cons (pv 4) (pa_cons (pv 5) (pa_cons (pe_lst (pa_cons (pe_tup (pa_cons (pe_op op_catL (pe_op op_catL (pe_slice sl_list (pv 7) po_none (po_some (pv 1))) (pe_lst (pa_cons (pv 9) pa_nil))) (pe_slice sl_list (pv 7) (po_some (pe_op op_add (pv 1) pe_int)) po_none)) (pa_cons (pv 8) pa_nil))) pa_nil)) pa_nil)))))))))), ?_⟩
    obtain ⟨a, l, v2, ga, xl, xg, rfl, ht, hl, hla, h2, hgl, hga⟩ := Th.bak hx
    obtain ⟨vg, hv, hvg⟩ := hga.get' (i := 0) (d := goodD g) rfl
    obtain ⟨tg, ad, xs, rfl, htg, hsg, hag⟩ := hvg.good
    have sB : Same (but S H) H := but_same _ _
    have ht := Same.tup sB ht
    have hl00 := hl
    have hl := sB.seq hl
    have hgl := sB.seq hgl
    have htg := Same.tup sB htg
    have hsg0 := hsg
    have hsg := sB.seq hsg
    have hxl := hla.intsV
    dsimp only at hxl
    subst hxl
    have hxs := hag.length
    rw [List.length_map] at hxs
    have h2n : v2 = .non := by
      have h2 : Th K (but S H) v2 .none := h2
      cases h2
      rfl
    subst h2n
    walk_at "wp"
    refine ⟨_, ht, rfl, ?_⟩
    walk_at "wp"
    refine ⟨_, _, hgl, atI_nat (j := 0) hv, ?_⟩
    walk_at "wp"
    refine ⟨_, htg, rfl, ?_⟩
    walk_at "wp"
    have fin : ∀ {G : Hp} {L D : Addr} {ls' : List Int} {g' : Good}, Same H G → Th K (but S G) (.ref L) (.list (ls'.map PyData.int)) → Th K (but S G) (.ref D) (.list (g'.days.map dayD)) → g'.life = g.life → setLs ls i (wordK kk) o = ls' → setGd g i (wordK kk) o = g' → 0 + 1 + 1 ≤ sizeLine ∧ ∀ p5, G p5 = none → 0 + 1 ≤ sizeLine ∧ ∀ p6, upd G p5 (.tup [V.ref D, optV g.life]) p6 = none → 0 + 1 + 1 + 1 ≤ sizeLine ∧ ∀ p7, upd (upd G p5 (.tup [V.ref D, optV g.life])) p6 (.lst [V.ref p5]) p7 = none → Q (.ref p7) (upd (upd (upd G p5 (.tup [V.ref D, optV g.life])) p6 (.lst [V.ref p5])) p7 (.tup [V.ref L, V.non, V.ref p6])) := fun {G L D ls' g'} S0 hL hD hlife e1 e2 => ⟨sz100 (by decide), fun p5 h5 => ⟨sz100 (by decide), fun p6 h6 => ⟨sz100 (by decide), fun p7 h7 => by
      obtain ⟨G5, e5, S5, E5⟩ := alloc (.tup [V.ref D, optV g.life]) h5
      rw [e5] at h6 h7 ⊢
      obtain ⟨G6, e6, S6, E6⟩ := alloc (.lst [V.ref p5]) h6
      rw [e6] at h7 ⊢
      obtain ⟨G7, e7, S7, E7⟩ := alloc (.tup [V.ref L, V.non, V.ref p6]) h7
      rw [e7]
      have S57 := S5.trans (S6.trans S7)
      rw [e1, e2] at q
      refine q G7 _ (S0.trans S57) (.tup (SqT.of (but_at (nS_of hS (S0.trans (S5.trans S6)) h7) E7)) (.cons (hL.same (but_mono S57)) (.cons .non (.cons (.lst (SqL.of (but_at (nS_of hS (S0.trans S5) h6) (S7 _ _ E6))) (.cons (.tup (SqT.of (but_at (nS_of hS S0 h5) ((S6.trans S7) _ _ E5))) (.cons (hD.same (but_mono S57)) (.cons (by rw [← hlife]; exact Th.optV _) .nil))) .nil)) .nil))))⟩⟩⟩
    cases kk with
    | zero =>
      have h1 : wordK 0 = "light" := rfl
      obtain ⟨y, rfl, hy⟩ := worth_num ho (by rw [h1]; decide +kernel)
      rw [if_pos (decide_eq_true (show ((0 : Nat) : Int) = 0 from rfl))]
      refine ⟨_, hl, fun p1 k1 => ⟨sz100 (by decide), fun p2 k2 => ?_⟩⟩
      rw [show cutV (ls.map V.int) none (some (i : Int)) = (ls.take i).map V.int by rw [List.map_take]; exact cutV_upto _ i] at k2 ⊢
      obtain ⟨G1, e1, S1, E1⟩ := alloc (.lst ((ls.take i).map V.int)) k1
      rw [e1] at k2 ⊢
      obtain ⟨G2, e2, S2, E2⟩ := alloc (.lst [optV (some y)]) k2
      rw [e2]
      refine ⟨_, _, SqL.of (S2 _ _ E1), SqL.of E2, sz100 (by rw [List.length_map, List.length_take]; show min i ls.length + 1 ≤ 100000; omega), fun p3 k3 => ?_⟩
      obtain ⟨G3, e3, S3, E3⟩ := alloc (.lst ((ls.take i).map V.int ++ [optV (some y)])) k3
      rw [e3]
      have S13 := S1.trans (S2.trans S3)
      refine ⟨_, S13.seq hl, fun p4 k4 => ?_⟩
      rw [show cutV (ls.map V.int) (some ((i : Int) + 1)) none = (ls.drop (i + 1)).map V.int by rw [List.map_drop]; exact cutV_from _ (i + 1)]
      obtain ⟨G4, e4, S4, E4⟩ := alloc (.lst ((ls.drop (i + 1)).map V.int)) k4
      rw [e4]
      refine ⟨_, _, SqL.of (S4 _ _ E3), SqL.of E4, sz100 (by rw [List.length_append, List.length_map, List.length_map, List.length_take, List.length_drop]; show min i ls.length + 1 + (ls.length - (i + 1)) ≤ 100000; omega), fun p5 k5 => ?_⟩
      rw [show (ls.take i).map V.int ++ [optV (some y)] ++ (ls.drop (i + 1)).map V.int = (ls.set i y).map V.int by rw [← set_parts hi, List.map_append, List.map_append]; rfl]
      obtain ⟨G5, e5, S5, E5⟩ := alloc (.lst ((ls.set i y).map V.int)) k5
      rw [e5]
      have S15 := S13.trans (S4.trans S5)
      exact fin S15 (.lst (SqL.of (but_at (nS_of hS (S13.trans S4) k5) E5)) (ThAll.ints _)) ((Th.lst hsg0 hag).same (but_mono S15)) rfl (by unfold setLs; rw [if_pos h1]; rfl) (by unfold setGd; rw [if_pos h1])
    | succ k =>
      have hk : k < 4 := by omega
      have ew : wordK (k + 1) = partAt k := rfl
      rw [if_neg (by rw [decide_eq_false (show ¬ (((k + 1 : Nat) : Int) = 0) by omega)]; decide)]
      have hd' : g.days[i]? = some g.days[i] := List.getElem?_eq_getElem (by omega)
      generalize g.days[i] = d at hd'
      obtain ⟨vd, hvd, hdd⟩ := hag.get' (i := i) (d := dayD d) (by rw [List.getElem?_map, hd']; rfl)
      obtain ⟨t, rfl, htd⟩ := hdd.day
      have htd := Same.tup sB htd
      refine ⟨_, _, hsg, atI_nat (j := i) hvd, ?_⟩
      have q1 : HT.sIx 4 4 (some (k : Int)) = k := by rw [HT.sIx_nat]; omega
      have q2 : HT.sIx 4 0 (some ((k + 1 : Nat) : Int)) = k + 1 := by rw [HT.sIx_nat]; omega
      rw [show ((k + 1 : Nat) : Int) - 1 = (k : Int) by omega]
      refine rSlT_r.mpr ⟨_, htd, fun z => ?_, fun p2 k2 => ?_⟩
      · have z2 := z.2
        simp only [List.length_cons, List.length_nil] at z2
        rw [q1] at z2
        omega
      rw [show cutV [V.int d.want, V.int d.loaf, V.int d.keep, optV d.fine] none (some (k : Int)) = [V.int d.want, V.int d.loaf, V.int d.keep, optV d.fine].take k from cutV_upto _ k]
      obtain ⟨G2, e2, S2, E2⟩ := alloc (.tup ([V.int d.want, V.int d.loaf, V.int d.keep, optV d.fine].take k)) k2
      rw [e2]
      refine ⟨sz100 (by decide), fun p3 k3 => ?_⟩
      obtain ⟨G3, e3, S3, E3⟩ := alloc (.tup [optV o]) k3
      rw [e3]
      have S13 := S2.trans S3
      refine rCatA_same (SqT.of (S3 _ _ E2)) (SqT.of E3) (by rw [List.length_take]; show min k 4 + 1 ≤ 100; omega) fun G4 r4 S4 E4 => ?_
      have S14 := S13.trans S4
      refine ⟨_, _, S14.seq hsg, atI_nat (j := i) hvd, ?_⟩
      refine rSlT_r.mpr ⟨_, Same.tup S14 htd, fun z => ?_, fun p5 k5 => ?_⟩
      · have z1 := z.1
        simp only [List.length_cons, List.length_nil] at z1
        rw [q2] at z1
        omega
      rw [show cutV [V.int d.want, V.int d.loaf, V.int d.keep, optV d.fine] (some ((k + 1 : Nat) : Int)) none = [V.int d.want, V.int d.loaf, V.int d.keep, optV d.fine].drop (k + 1) from cutV_from _ (k + 1)]
      obtain ⟨G5, e5, S5, E5⟩ := alloc (.tup ([V.int d.want, V.int d.loaf, V.int d.keep, optV d.fine].drop (k + 1))) k5
      rw [e5]
      refine rCatA_same (Same.tup S5 E4) (SqT.of E5) (by rw [List.length_append, List.length_take, List.length_drop]; show min k 4 + 1 + (4 - (k + 1)) ≤ 100; omega) fun G6 r S6 E6 => ?_
      rw [withD_list hk ho d] at E6
      have S16 := S14.trans (S5.trans S6)
      refine ⟨_, S16.seq hsg, fun p8 k8 => ?_⟩
      rw [show cutV xs none (some (i : Int)) = xs.take i from cutV_upto _ i]
      obtain ⟨G8, e8, S8, E8⟩ := alloc (.lst (xs.take i)) k8
      rw [e8]
      refine ⟨sz100 (by decide), fun p9 k9 => ?_⟩
      obtain ⟨G9, e9, S9, E9⟩ := alloc (.lst [V.ref r]) k9
      rw [e9]
      refine ⟨_, _, SqL.of (S9 _ _ E8), SqL.of E9, sz100 (by rw [List.length_take]; show min i xs.length + 1 ≤ 100000; omega), fun p10 k10 => ?_⟩
      obtain ⟨G10, e10, S10, E10⟩ := alloc (.lst (xs.take i ++ [V.ref r])) k10
      rw [e10]
      have S110 := S16.trans (S8.trans (S9.trans S10))
      refine ⟨_, S110.seq hsg, fun p11 k11 => ?_⟩
      rw [show cutV xs (some ((i : Int) + 1)) none = xs.drop (i + 1) from cutV_from _ (i + 1)]
      obtain ⟨G11, e11, S11, E11⟩ := alloc (.lst (xs.drop (i + 1))) k11
      rw [e11]
      refine ⟨_, _, SqL.of (S11 _ _ E10), SqL.of E11, sz100 (by rw [List.length_append, List.length_take, List.length_drop]; show min i xs.length + 1 + (xs.length - (i + 1)) ≤ 100000; omega), fun p12 k12 => ?_⟩
      rw [set_parts (show i < xs.length by omega)]
      obtain ⟨G12, e12, S12, E12⟩ := alloc (.lst (xs.set i (V.ref r))) k12
      rw [e12]
      have S712 := S8.trans (S9.trans (S10.trans (S11.trans S12)))
      have S112 := S16.trans S712
      refine fin (g' := setG g i (withD (partAt k) o d)) S112 ((Th.lst hl00 (ThAll.ints _)).same (but_mono S112)) (.lst (SqL.of (but_at (nS_of hS (S110.trans S11) k12) E12)) ?_) rfl (setLs_at hk) (setGd_at hk hd')
      show ThAll K (but S G12) _ ((g.days.set i _).map dayD)
      rw [List.map_set]
      refine (hag.same (but_mono S112)).set (.tup ?_ (.cons (.int _) (.cons (.int _) (.cons (.int _) (.cons (Th.optV _) .nil)))))
      exact Same.tup (but_mono S712) (bbT hS S16 E6)
end
end Bk

namespace Bk
open PySem PySem.Spec PyProof.Rows L2
open C8 (Met pe_mt pe_mt0)
local macro_rules | `(tactic| walk_at "wp") => `(tactic| try simp only [tMethK, swap2, turn3, iRng3_eq, rRng3_i, rNeN_r, iZipA_eq, rZipA_r, iEnumZip_eq, rEnumZip_r, tFld_eq, tMeth_eq, rTIx_r, tTru, tScT2, rSetL_r, rSetOf2_r, rSorDT_r, rSetD, tDGet2, tDGet, tDNewT, cxW, rExtend_r, rSortU_r, rSetOf_r, rSortedSet_r, rNinr_r, rNeN_r, rCatL_r, rSlT_r, rListOf_r, rIsB_b, rNotB_b, tFmtO, tJs, tOst, tCallS, WE, tRaise2, rOne_i, rSorD_r, tDNewK, Int.zero_add, tNever, tFor_eq, tLc_eq, iList, iTup, iRng1_eq, rRng1_i, iRng2_eq, rRng2_i, iEnum_eq, rEnum_r, iZip_eq, rZip_r, tSl, tPart, tNoPart, rSlL_r, rCat_r, rIn_r, rNin_r, rRepr_r, iRevR, rMin_r, rShr_i, rOdd_i, rSetL_r, gSub, rRg1_i, rRg2_i, rInr_r, tAug, ipI_ii, tLstRg, tRg1, tRg2, gTup_r, gUnl_r, rInt1_b, rInt1_i, rRep_r, tStep_r, scal, tSeq, tNext, tAsg, tRet, tRetN, tIfS, tDrop, tCB, tCons, tNil, tVar, tOp, tUn, tC, rU_i, rI_ii, rI0_ii, rEq, rNe, tTest, tB, tAnd, tOr, tNot, tAndV, tOrV, tNotV, tIf, tChain, tLst, tTup, tBM, tBM0, rAppend_r, rIxL_r, rIxT_r, rMx_ii, rMn_ii, rLnL_r, rLnT_r, rIsD_int, rIsD_bool, rIsD_list, rIsD_tuple, tCall, gName, gNil_n, gCons_c, cxK, L2.start, List.map, List.replicate, List.length_cons, List.length_nil, List.cons_append, List.nil_append, List.append_nil, List.getElem?_cons_zero, List.getElem?_cons_succ, Option.some.injEq, exists_eq_left', exists_eq_left, V.int.injEq, V.bl.injEq, V.str.injEq, V.ref.injEq, List.cons.injEq, and_true, true_and, and_self, List.set, wipe, rAll_r, rSum_r, reduceCtorEq, decide_true, decide_false, reduceIte, ite_true, ite_false, if_true, if_false, Bool.false_eq_true, Bool.not_true, Bool.not_false])
local macro_rules | `(tactic| walk_at "shaped") => `(tactic| (simp only [iRng3_eq, rRng3_i, rNeN_r, SeqAt.shaped, PyData.canLay0, PyData.canLayAll0, PyData.depth, PyData.depthAll]; rfl))
local macro_rules | `(tactic| walk_at "lay") => `(tactic| (simp only [iRng3_eq, rRng3_i, rNeN_r, PyData.canLay0, PyData.canLayAll0]; rfl))
local macro_rules | `(tactic| walk_at "wg") => `(tactic| try simp only [gName, gTup_r, gCons_c, gNil_n, cxK, List.set, List.cons.injEq, and_true, true_and, exists_eq_left', exists_eq_left, List.length_cons, List.length_nil])
section
variable {P : Program} {w : World} {K : PySem.W.Frag} {mg : Str → Option Value} {base : Heap}
theorem but_sub {S T : List Addr} {H H' : Hp} (h : ∀ a ∈ S, a ∈ T) (s : Same (but S H) (but S H')) : Same (but T H) (but T H') := fun b o e => by
  obtain ⟨n, e⟩ := but_is e
  exact but_at n (but_is (s _ _ (but_at (fun z => n (h b z)) e))).2
theorem addG_drop (g : Good) (d : Day) : dropG (addG g d) = g := by
  unfold dropG addG
  dsimp only
  rw [List.dropLast_concat]
theorem Led.list1 {C p L D E q : Addr} {H : Hp} {ls : List Int} {g : Good} {ds : List Deed} {xs ys : List V} (h : Led C H p L D E ls g ds) (hq : H q = some (.lst xs)) (n : q ∉ [L, D, E]) : Led C (upd H q (.lst ys)) p L D E ls g ds := by
  refine h.keep (S := [q]) (fun a ha => ?_) ⟨?_, ?_, ?_⟩ (by rw [but_upd (by simp)]; exact Same.refl _)
  · rw [List.mem_singleton.mp ha]
    exact ⟨_, hq⟩
  all_goals
    intro z
    rw [List.mem_singleton] at z
    exact n (by rw [← z]; simp)
theorem set_ok {ls : List Int} {g : Good} {i : Nat} {s : Str} {o : Option Int} (h : bakB (bakD ⟨ls, none, [g]⟩) = true) (hi : i < ls.length) (hs : partB s = true) (ho : worthB s o = true) : bakB (bakD ⟨setLs ls i s o, none, [setGd g i s o]⟩) = true := by
  obtain ⟨⟨c1, c2⟩, c3, c4, ⟨c5, c6⟩, c7⟩ := bak_parts h
  obtain ⟨k1, k2, k3⟩ := c7 g List.mem_cons_self
  dsimp only at c1 c2 c3 k1
  by_cases h1 : s = "light"
  · obtain ⟨y, rfl, hy⟩ := worth_num ho (by rw [h1]; decide +kernel)
    have e1 : setLs ls i s (some y) = ls.set i y := by unfold setLs; rw [if_pos h1]; rfl
    have e2 : setGd g i s (some y) = g := by unfold setGd; rw [if_pos h1]
    rw [e1, e2]
    refine bakB_mk (by rw [List.length_set]; exact c1) (by rw [List.length_set]; exact c2) (fun z hz => ?_) c4 c5 c6 (fun g' hg' => ?_)
    · rcases List.mem_or_eq_of_mem_set hz with hz | rfl
      · exact c3 z hz
      · exact hy
    · rw [List.length_set]
      exact c7 g' hg'
  · obtain ⟨k, hk, rfl⟩ := partAt_of (part_mem hs h1)
    have hd' : g.days[i]? = some g.days[i] := List.getElem?_eq_getElem (by omega)
    have hm := List.getElem_mem (show i < g.days.length by omega)
    generalize g.days[i] = d at hd' hm
    rw [setLs_at hk, setGd_at hk hd']
    refine bakB_mk c1 c2 c3 c4 (Nat.le_refl _) (by show 1 ≤ 2; decide) (fun g' hg' => ?_)
    rw [List.mem_singleton.mp hg']
    refine ⟨by show (g.days.set i _).length = _; rw [List.length_set]; exact k1, k2, fun y hy => ?_⟩
    have hy : y ∈ g.days.set i (withD (partAt k) o d) := hy
    rcases List.mem_or_eq_of_mem_set hy with hy | rfl
    · exact k3 y hy
    · exact withD_ok ho (k3 _ hm)
/-! ### a past: bakeries, and whether a day was added -/
structure PEn where
  ls : List Int
  g : Good
structure En (K : PySem.W.Frag) (H : Hp) (v : V) (e : PEn) (b : Bool) : Prop where
  ex : Th K H v (bakD ⟨e.ls, none, [e.g]⟩)
  ok : bakB (bakD ⟨e.ls, none, [e.g]⟩) = true
theorem En.same {K : PySem.W.Frag} {H H' : Hp} {v : V} {e : PEn} {b : Bool} (h : En K H v e b) (s : Same H H') : En K H' v e b := ⟨h.ex.same s, h.ok⟩
theorem En.nat {K : PySem.W.Frag} {H : Hp} {v : V} {e : PEn} {b : Bool} (h : En K H v e b) : 1 ≤ e.ls.length ∧ e.ls.length ≤ 40 ∧ e.g.days.length = e.ls.length := by
  obtain ⟨⟨c1, c2⟩, _, _, _, c7⟩ := bak_parts h.ok
  exact ⟨c1, c2, (c7 e.g List.mem_cons_self).1⟩
inductive Pas (K : PySem.W.Frag) (H : Hp) : List V → PEn → List Deed → Prop
  | one {v : V} {e : PEn} : En K H v e true → Pas K H [v] e []
  | add {vs : List V} {e : PEn} {ds : List Deed} {v : V} {z : Int} {d : Day} : Pas K H vs e ds → En K H v ⟨e.ls ++ [z], addG e.g d⟩ true → Pas K H (vs ++ [v]) ⟨e.ls ++ [z], addG e.g d⟩ (ds ++ [none])
  | chg {vs : List V} {e : PEn} {ds : List Deed} {v : V} {i : Nat} {s : Str} {o : Option Int} : Pas K H vs e ds → En K H v ⟨setLs e.ls i s o, setGd e.g i s o⟩ false → i < e.ls.length → partB s = true → worthB s (worthL e.ls e.g i s) = true → Pas K H (vs ++ [v]) ⟨setLs e.ls i s o, setGd e.g i s o⟩ (ds ++ [some (i, s, worthL e.ls e.g i s)])
theorem Pas.same {K : PySem.W.Frag} {H H' : Hp} (s : Same H H') : ∀ {vs : List V} {e : PEn} {ds : List Deed}, Pas K H vs e ds → Pas K H' vs e ds
  | _, _, _, .one h => .one (h.same s)
  | _, _, _, .add h a => .add (Pas.same s h) (a.same s)
  | _, _, _, .chg h a b c d => .chg (Pas.same s h) (a.same s) b c d
theorem Pas.last {K : PySem.W.Frag} {H : Hp} {vs : List V} {e : PEn} {ds : List Deed} (h : Pas K H vs e ds) : ∃ us v b, vs = us ++ [v] ∧ En K H v e b := by
  cases h with
  | one a => exact ⟨[], _, _, rfl, a⟩
  | add h a => exact ⟨_, _, _, rfl, a⟩
  | chg h a b c d => exact ⟨_, _, _, rfl, a⟩
theorem Pas.len {K : PySem.W.Frag} {H : Hp} : ∀ {vs : List V} {e : PEn} {ds : List Deed}, Pas K H vs e ds → vs.length = ds.length + 1
  | _, _, _, .one h => rfl
  | _, _, _, .add h a => by rw [List.length_append, List.length_append, Pas.len h]; rfl
  | _, _, _, .chg h a b c d => by rw [List.length_append, List.length_append, Pas.len h]; rfl
/-- where a ledger, its lists and its past stand -/
structure Pl where
  p : Addr
  L : Addr
  D : Addr
  E : Addr
  pa : Addr
def Pl.S (t : Pl) : List Addr := [t.L, t.D, t.E, t.pa]
structure P9 (K : PySem.W.Frag) (C : Addr) (S : List Addr) (H : Hp) (t : Pl) (vs : List V) (e : PEn) (ds : List Deed) : Prop where
  led : Led C H t.p t.L t.D t.E e.ls e.g ds
  hpa : H t.pa = some (.lst vs)
  past : Pas K (but S H) vs e ds
  pn : t.pa ∉ [t.L, t.D, t.E]
  sub : ∀ a ∈ t.S, a ∈ S
section
variable {K : PySem.W.Frag} {C : Addr} {S : List Addr} {H H' : Hp} {t : Pl} {vs : List V} {e : PEn} {ds : List Deed}
theorem P9.same (h : P9 K C S H t vs e ds) (s : Same H H') : P9 K C S H' t vs e ds := ⟨h.led.same s, s _ _ h.hpa, h.past.same (but_mono s), h.pn, h.sub⟩
theorem P9.lists (h : P9 K C S H t vs e ds) : Lsts H t.S := fun a ha => by
  unfold Pl.S at ha
  simp only [List.mem_cons, List.not_mem_nil, or_false] at ha
  rcases ha with ha | ha | ha | rfl
  · exact h.led.lists a (by rw [ha]; simp)
  · exact h.led.lists a (by rw [ha]; simp)
  · exact h.led.lists a (by rw [ha]; simp)
  · exact ⟨_, h.hpa⟩
theorem Pl.three (t : Pl) : ∀ a ∈ [t.L, t.D, t.E], a ∈ t.S := fun a ha => by
  unfold Pl.S
  simp only [List.mem_cons, List.not_mem_nil, or_false] at ha ⊢
  rcases ha with h | h | h <;> simp [h]
/-- another ledger is changed -/
theorem P9.keep {u : Pl} (h : P9 K C S H t vs e ds) (hl : Lsts H u.S) (hd : ∀ a ∈ t.S, a ∉ u.S) (hs : ∀ a ∈ u.S, a ∈ S) (s : Same (but u.S H) (but u.S H')) : P9 K C S H' t vs e ds :=
  ⟨h.led.keep hl ⟨hd _ (by simp [Pl.S]), hd _ (by simp [Pl.S]), hd _ (by simp [Pl.S])⟩ s, (but_is (s _ _ (but_at (hd _ (by simp [Pl.S])) h.hpa))).2, h.past.same (but_sub hs s), h.pn, h.sub⟩
theorem lists_step {u : Pl} (hl : Lsts H S) (hu : Lsts H' u.S) (s : Same (but u.S H) (but u.S H')) : Lsts H' S := fun a ha => by
  by_cases z : a ∈ u.S
  · exact hu a z
  · obtain ⟨xs, hx⟩ := hl a ha
    exact ⟨xs, (but_is (s _ _ (but_at z hx))).2⟩
end
section
variable {K : PySem.W.Frag} {C : Addr} {S : List Addr} {H H' : Hp} {t : Pl} {us vs : List V} {e : PEn} {ds : List Deed}
theorem Pl.pa_mem (t : Pl) : t.pa ∈ t.S := by simp [Pl.S]
theorem P9.three (t : Pl) {G H : Hp} (s : Same (but [t.L, t.D, t.E] G) (but [t.L, t.D, t.E] H)) : Same (but t.S G) (but t.S H) := but_sub (Pl.three t) s
/-- the past's list is changed -/
theorem P9.put (hL : Led C H t.p t.L t.D t.E e.ls e.g ds) (hpa : H t.pa = some (.lst us)) (hp : Pas K (but S H) vs e ds) (pn : t.pa ∉ [t.L, t.D, t.E]) (sub : ∀ a ∈ t.S, a ∈ S) : P9 K C S (upd H t.pa (.lst vs)) t vs e ds :=
  ⟨hL.list1 hpa pn, upd_same, by rw [but_upd (sub _ (Pl.pa_mem t))]; exact hp, pn, sub⟩
end
/-- n ledgers beside each other -/
structure Led9 where
  t : Pl
  vs : List V
  e : PEn
  ds : List Deed
structure Few9 (K : PySem.W.Frag) (C : Addr) (n : Nat) (S : List Addr) (H : Hp) (f : Nat → Led9) : Prop where
  all : ∀ i, i < n → P9 K C S H (f i).t (f i).vs (f i).e (f i).ds
  ap : ∀ i j, i < n → j < n → i ≠ j → ∀ a ∈ (f i).t.S, a ∉ (f j).t.S
  lst : Lsts H S
def set9 (f : Nat → Led9) (j : Nat) (x : Led9) : Nat → Led9 := fun i => if i = j then x else f i
section
variable {K : PySem.W.Frag} {C : Addr} {n : Nat} {S : List Addr} {H H' : Hp} {f : Nat → Led9}
theorem set9_at {j : Nat} {x : Led9} : set9 f j x j = x := if_pos rfl
theorem set9_ne {i j : Nat} {x : Led9} (h : i ≠ j) : set9 f j x i = f i := if_neg h
theorem Few9.same (h : Few9 K C n S H f) (s : Same H H') : Few9 K C n S H' f := ⟨fun i hi => (h.all i hi).same s, h.ap, fun a ha => let ⟨xs, hx⟩ := h.lst a ha; ⟨xs, s _ _ hx⟩⟩
theorem Few9.step (h : Few9 K C n S H f) {j : Nat} (hj : j < n) {vs : List V} {e : PEn} {ds : List Deed} (hP : P9 K C S H' (f j).t vs e ds) (s : Same (but (f j).t.S H) (but (f j).t.S H')) : Few9 K C n S H' (set9 f j ⟨(f j).t, vs, e, ds⟩) := by
  have ht : ∀ i, (set9 f j ⟨(f j).t, vs, e, ds⟩ i).t = (f i).t := fun i => by
    by_cases z : i = j
    · subst z; rw [set9_at]
    · rw [set9_ne z]
  refine ⟨fun i hi => ?_, fun i k hi hk hne => ?_, lists_step h.lst hP.lists s⟩
  · by_cases z : i = j
    · subst z
      rw [set9_at]
      exact hP
    · rw [set9_ne z]
      exact (h.all i hi).keep (h.all j hj).lists (h.ap i j hi hj z) (h.all j hj).sub s
  · rw [ht, ht]
    exact h.ap i k hi hk hne
end
abbrev s_deed : Stmt := top 93
theorem sc_deed : FnScope ["_law_ledger", "_law_past", "_law_digits", "_law_bakery_here", "_law_place", "_law_piece", "_law_word"] ["_law_ledger", "_law_past", "_law_digits"] (defScope s_deed) := ⟨rfl, rfl, rfl, by decide +kernel, rfl, by decide +kernel, by decide +kernel⟩
theorem if_rest {c : Bool} {M R : Prop} (h : c = true → R → M) (r : R) : if c = true then M else R := by
  split
  · rename_i hc
    exact h hc r
  · exact r
theorem num_of {z : Int} (h : 0 ≤ z ∧ z ≤ 1000000000) : numD (.int z) = true := by
  simp only [numD, Bool.and_eq_true, decide_eq_true_eq]
  exact h
def spDeed42 (K : PySem.W.Frag) (C : Addr) : Sp := fun vs H Q _ => ∃ t : Pl, ∃ dg S us e ds, ∃ (f0 f1 f2 f3 f4 f5 f6 f7 : Int), vs = [.ref t.p, .ref t.pa, .ref dg] ∧ P9 K C S H t us e ds ∧ Lsts H S ∧ SqL K (but S H) dg [.int f0, .int f1, .int f2, .int f3, .int f4, .int f5, .int f6, .int f7] ∧ (∀ z ∈ [f0, f1, f2, f3, f4, f5, f6, f7], 0 ≤ z ∧ z ≤ 1000000000) ∧ ds.length ≤ 500 ∧
  ∀ H' us' e' ds', P9 K C S H' t us' e' ds' → Same (but t.S H) (but t.S H') → ds'.length ≤ ds.length + 1 → Q .non H'
theorem ok_deed42 {f C : Addr} {fd : FuncData} (F : Fun K "_law_deed" "_law_deed" s_deed f fd) (B : Bi mg) (D_added : Def P w K mg base "_law_added" 1 ["_law_bakery_here", "_law_lamp", "_law_place"] (spAdded K)) (D_changed : Def P w K mg base "_law_changed" 1 ["_law_bakery_here", "_law_place", "_law_piece", "_law_amount"] (spChg42 K))
    (TK_add : MetK P w K mg base 4 C "add" (spLAdd K C) ["day", "light"] swap2) (TK_change : MetK P w K mg base 12 C "change" (spLChange K C) ["number", "day", "part"] turn3) (TD_change : C8.Met P w K mg base 12 C "change" (spLChange K C) [.non]) (T_back : C8.Met P w K mg base 12 C "back" (spLBackA K C) []) : FnOk P w K mg base CX0 13 f fd ["_law_ledger", "_law_past", "_law_digits"] (spDeed42 K C) := by
  refine F.ok sc_deed (fun vs H Q E h => ?_) (fun cdv A outer s H vs Q E hr h => ?_)
  · obtain ⟨_, _, _, _, _, _, _, _, _, _, _, _, _, _, rfl, _⟩ := h
    rfl
  · obtain ⟨t, dg, S, us, e, ds, f0, f1, f2, f3, f4, f5, f6, f7, rfl, hP, hS, hdgS, hf, hds, q⟩ := h
    refine ⟨_, (pss_cons (ps_set (i := 3) sc_deed.nd rfl (Or.inl rfl) (pe_ix ix_list (pv 1) (pe_un un_neg pe_int) (fun _ _ => rfl)))
 (pss_cons (ps_set (i := 4) sc_deed.nd rfl (Or.inl rfl) (pe_op op_mod (pe_ix ix_list (pv 2) pe_int (fun _ _ => rfl)) (pe_callB call_lnL (by rfl) B.len (by decide +kernel) (pa_cons (pe_ix ix_tup (pv 3) pe_int (fun _ _ => rfl)) pa_nil))))
 (pss_cons (ps_set (i := 5) sc_deed.nd rfl (Or.inl rfl) (pe_op op_mod (pe_ix ix_list (pv 2) pe_int (fun _ _ => rfl)) pe_int))
 (pss_one (ps_if (PW.pt (pw_and (pt_cmpR op_eq (pe_ix ix_list (pv 2) pe_int (fun _ _ => rfl)) pe_int (nomark _)) (pw_and1 (pt_cmpR op_lt (pe_callB call_lnL (by rfl) B.len (by decide +kernel) (pa_cons (pe_ix ix_tup (pv 3) pe_int (fun _ _ => rfl)) pa_nil)) pe_int (nomark _))))) (pss_cons (ps_expr (pe_mtK TK_add hr (by omega) (pv 0) (pk_cons (pe_tup (pa_cons (pe_ix ix_list (pv 2) pe_int (fun _ _ => rfl)) (pa_cons (pe_ix ix_list (pv 2) pe_int (fun _ _ => rfl)) (pa_cons (pe_ix ix_list (pv 2) pe_int (fun _ _ => rfl)) (pa_cons pe_non pa_nil))))) (pk_cons (pe_ix ix_list (pv 2) pe_int (fun _ _ => rfl)) pk_nil))))
 (pss_one (ps_expr (pe_bm PySem.F.plainAttrs_list PySem.F.slot_list_append PySem.F.type_list_append mt_append (pv 1) (pa_cons (pe_callD D_added hr (by rfl) (pa_cons (pv 3) (pa_cons (pe_ix ix_list (pv 2) pe_int (fun _ _ => rfl)) (pa_cons (pe_tup (pa_cons (pe_ix ix_list (pv 2) pe_int (fun _ _ => rfl)) (pa_cons (pe_ix ix_list (pv 2) pe_int (fun _ _ => rfl)) (pa_cons (pe_ix ix_list (pv 2) pe_int (fun _ _ => rfl)) (pa_cons pe_non pa_nil))))) pa_nil)))) pa_nil))))) (pss_one (ps_if (pt_cmpR op_lt (pe_ix ix_list (pv 2) pe_int (fun _ _ => rfl)) pe_int (nomark _)) (pss_cons (ps_set (i := 6) sc_deed.nd rfl (Or.inl rfl) (pe_ix ix_list (pe_lst (pa_cons pe_str (pa_cons pe_str (pa_cons pe_str (pa_cons pe_str (pa_cons pe_str pa_nil)))))) (pv 5) (fun _ _ => rfl)))
 (pss_cons (ps_expr (pe_mtK TK_change hr (by omega) (pv 0) (pk_cons (pe_ix ix_list (pv 2) pe_int (fun _ _ => rfl)) (pk_cons (pv 4) (pk_cons (pv 6) pk_nil)))))
 (pss_one (ps_expr (pe_bm PySem.F.plainAttrs_list PySem.F.slot_list_append PySem.F.type_list_append mt_append (pv 1) (pa_cons (pe_callD D_changed hr (by rfl) (pa_cons (pv 3) (pa_cons (pv 4) (pa_cons (pv 5) (pa_cons (pe_ix ix_list (pv 2) pe_int (fun _ _ => rfl)) pa_nil))))) pa_nil)))))) (pss_one (ps_if (pt_cmpR op_eq (pe_ix ix_list (pv 2) pe_int (fun _ _ => rfl)) pe_int (nomark _)) (pss_cons (ps_expr (pe_mt TD_change hr (by omega) (pv 0) (pa_cons (pv 4) (pa_cons pe_str pa_nil))))
 (pss_one (ps_expr (pe_bm PySem.F.plainAttrs_list PySem.F.slot_list_append PySem.F.type_list_append mt_append (pv 1) (pa_cons (pe_callD D_changed hr (by rfl) (pa_cons (pv 3) (pa_cons (pv 4) (pa_cons pe_int (pa_cons pe_non pa_nil))))) pa_nil))))) (pss_one (ps_if (pt_cmpR op_gt (pe_callB call_lnL (by rfl) B.len (by decide +kernel) (pa_cons (pv 1) pa_nil)) pe_int (nomark _)) (pss_cons (ps_expr (pe_mt0 T_back hr (by omega) (pv 0)))
 (pss_one (ps_expr (pe_bm0 PySem.F.plainAttrs_list PySem.F.slot_list_pop PySem.F.type_list_pop mt_pop (pv 1))))) pss_nil))))))))))), ?_⟩
    obtain ⟨us0, v, b, eu, hv⟩ := hP.past.last
    have hn := hv.nat
    obtain ⟨hx, hok⟩ := hv
    obtain ⟨a, l, v2, ga, xl, xg, rfl, hta, hl, hla, h2, hgl, hga⟩ := Th.bak hx
    have hxl : xl.length = e.ls.length := by rw [hla.length, List.length_map]
    have sB : Same (but S H) H := but_same _ _
    have hdg := sB.seq hdgS
    have d4 := hf f4 (by simp)
    have d5 := hf f5 (by simp)
    have d6 := hf f6 (by simp)
    have d7 := hf f7 (by simp)
    clear hf
    have hta0 := Same.tup sB hta
    have hl0 := sB.seq hl
    walk_at "wp"
    refine ⟨_, _, SqL.of hP.hpa, atI_last (m := us0.length) (by rw [eu, List.length_append]; rfl) (by rw [eu, List.getElem?_concat_length]), ?_⟩
    refine ⟨_, _, hdg, atI_nat (j := 2) rfl, ?_⟩
    walk_at "wp"
    refine ⟨_, _, hta0, atI_nat (j := 0) rfl, ?_⟩
    walk_at "wp"
    refine ⟨_, hl0, ?_⟩
    walk_at "wp"
    have hn0 : 0 < (xl.length : Int) := by omega
    obtain ⟨j, ej, hj⟩ : ∃ j : Nat, f2 % (xl.length : Int) = (j : Int) ∧ j < e.ls.length := by
      have h1 := Int.emod_nonneg f2 (show (xl.length : Int) ≠ 0 by omega)
      have h2 := Int.emod_lt_of_pos f2 hn0
      exact ⟨(f2 % (xl.length : Int)).toNat, by omega, by omega⟩
    rw [ej]
    refine ⟨hn0, _, _, hdg, atI_nat (j := 3) rfl, ?_⟩
    walk_at "wp"
    obtain ⟨kk, ek, hk5⟩ : ∃ kk : Nat, f3 % 5 = (kk : Int) ∧ kk < 5 := by
      have h1 := Int.emod_nonneg f3 (show (5 : Int) ≠ 0 by decide)
      have h2 := Int.emod_lt_of_pos f3 (show (0 : Int) < 5 by decide)
      exact ⟨(f3 % 5).toNat, by omega, by omega⟩
    rw [ek]
    refine ⟨by decide, _, _, hdg, atI_nat (j := 1) rfl, ?_⟩
    walk_at "wp"
    have hlu : us.length ≤ 501 := by rw [hP.past.len]; omega
    have hday : dayB (dayD ⟨f4, f5, f6, none⟩) = true := by
      simp only [dayB, dayD, Bool.and_eq_true]
      exact ⟨⟨⟨num_of d4, num_of d5⟩, num_of d6⟩, rfl⟩
    have chg : ∀ (HC : Hp) (k : Nat) (o : Option Int) (Z : Hp → Prop) (EE : XK), Same H HC → k < 5 → worthB (wordK k) o = true → (∀ H7, Same (but S H) (but S H7) → (∀ E2, spChg42 K [V.ref a, V.int (j : Int), V.int (k : Int), optV o] H7 (fun x H1 => ∃ xs, H1 t.pa = some (HO.lst xs) ∧ xs.length < sizeLine ∧ Q V.non (upd H1 t.pa (HO.lst (xs ++ [x])))) E2) → Z H7) →
        spLChange K C [V.ref t.p, V.int (j : Int), V.str (wordK k), optV o] HC (fun x H1 => tyV K "list" (V.ref t.pa) H1 ∧ Z H1) EE := fun HC k o Z EE S3 hk wo hZ => by
      have hzp : partB (wordK k) = true := by
        rcases (show k = 0 ∨ k = 1 ∨ k = 2 ∨ k = 3 ∨ k = 4 by omega) with rfl | rfl | rfl | rfl | rfl <;> decide +kernel
      have hL3 := hP.led.same S3
      have okC := set_ok hok hj hzp wo
      refine ⟨t.p, t.L, t.D, t.E, e.ls, e.g, ds, j, wordK k, o, rfl, hL3, by omega, hj, hzp, wo, fun H7 r bs cs S7 hL7 nr er hbl hbR hcl hcR => ?_⟩
      have T37 := P9.three t S7
      have U37 := but_sub hP.sub T37
      have U07 := (but_mono (S := S) S3).trans U37
      have hpa7 := (but_is (S7 _ _ (but_at hP.pn (S3 _ _ hP.hpa)))).2
      have hS7 : Lsts H7 S := lists_step (u := t) (H := HC) (fun b hb => let ⟨xs, hx⟩ := hS b hb; ⟨xs, S3 _ _ hx⟩) (fun b hb => by
        simp only [Pl.S, List.mem_cons, List.not_mem_nil, or_false] at hb
        rcases hb with w | w | w | rfl
        · exact hL7.lists b (by rw [w]; simp)
        · exact hL7.lists b (by rw [w]; simp)
        · exact hL7.lists b (by rw [w]; simp)
        · exact ⟨_, hpa7⟩) T37
      refine ⟨tyL (SqL.of hpa7), hZ _ U07 fun E2 => ?_⟩
      refine ⟨.ref a, e.ls, e.g, j, k, o, S, rfl, hS7, hx.same U07, hn.2.2, by omega, hj, hk, wo, fun H8 y S8 hy => ?_⟩
      have hpa8 := S8 _ _ hpa7
      refine ⟨us, hpa8, sz100l (by omega), ?_⟩
      have T08 := ((but_mono (S := t.S) S3).trans T37).trans (but_mono S8)
      refine q _ (us ++ [y]) ⟨setLs e.ls j (wordK k) o, setGd e.g j (wordK k) o⟩ (ds ++ [some (j, wordK k, worthL e.ls e.g j (wordK k))]) (P9.put (hL7.same S8) hpa8 (.chg (hP.past.same (U07.trans (but_mono S8))) ⟨hy, okC⟩ hj hzp (worth_ok hP.led hj hzp)) hP.pn hP.sub) (by rw [but_upd (Pl.pa_mem t)]; exact T08) (by rw [List.length_append]; exact Nat.le_refl _)
    by_cases hA : f1 = 0 ∧ e.ls.length < 9
    · rw [if_pos (decide_eq_true hA.1)]
      refine ⟨_, _, hta0, atI_nat (j := 0) rfl, ?_⟩
      walk_at "wp"
      refine ⟨_, hl0, ?_⟩
      walk_at "wp"
      rw [if_pos (decide_eq_true (by rw [hxl]; exact_mod_cast hA.2))]
      refine ⟨hP.led.isObj, _, _, hdg, atI_nat (j := 4) rfl, _, _, hdg, atI_nat (j := 5) rfl, _, _, hdg, atI_nat (j := 6) rfl, sz100 (by decide), fun p4 h4 => ?_⟩
      obtain ⟨H4, e4, S4, E4⟩ := alloc (.tup [V.int f4, V.int f5, V.int f6, optV none]) h4
      rw [show (HO.tup [V.int f4, V.int f5, V.int f6, V.non]) = HO.tup [V.int f4, V.int f5, V.int f6, optV none] from rfl, e4]
      refine ⟨_, _, S4.seq hdg, atI_nat (j := 7) rfl, ?_⟩
      have hL4 := hP.led.same S4
      refine ⟨t.p, t.L, t.D, t.E, e.ls, e.g, ds, f7, p4, ⟨f4, f5, f6, none⟩, rfl, hL4, by omega, E4, num_of d7, hday, by omega, fun H5 S5 hL5 => ?_⟩
      walk_at "wp"
      have T45 := P9.three t S5
      have U45 := but_sub hP.sub T45
      have U05 := (but_mono (S := S) S4).trans U45
      have hpa5 := (but_is (S5 _ _ (but_at hP.pn (S4 _ _ hP.hpa)))).2
      have hS5 : Lsts H5 S := lists_step (u := t) (H := H4) (fun b hb => let ⟨xs, hx⟩ := hS b hb; ⟨xs, S4 _ _ hx⟩) (fun b hb => by
        simp only [Pl.S, List.mem_cons, List.not_mem_nil, or_false] at hb
        rcases hb with z | z | z | rfl
        · exact hL5.lists b (by rw [z]; simp)
        · exact hL5.lists b (by rw [z]; simp)
        · exact hL5.lists b (by rw [z]; simp)
        · exact ⟨_, hpa5⟩) T45
      have hdg5 := (but_same S H5).seq (U05.seq hdgS)
      refine ⟨tyL (SqL.of hpa5), _, _, hdg5, atI_nat (j := 7) rfl, _, _, hdg5, atI_nat (j := 4) rfl, _, _, hdg5, atI_nat (j := 5) rfl, _, _, hdg5, atI_nat (j := 6) rfl, sz100 (by decide), fun p6 h6 => ?_⟩
      obtain ⟨H6, e6, S6, E6⟩ := alloc (.tup [V.int f4, V.int f5, V.int f6, optV none]) h6
      rw [show (HO.tup [V.int f4, V.int f5, V.int f6, V.non]) = HO.tup [V.int f4, V.int f5, V.int f6, optV none] from rfl, e6]
      have hS6 : Lsts H6 S := fun b hb => let ⟨xs, hx⟩ := hS5 b hb; ⟨xs, S6 _ _ hx⟩
      refine ⟨.ref a, e.ls, e.g, f7, p6, ⟨f4, f5, f6, none⟩, S, rfl, hS6, hx.same (U05.trans (but_mono S6)), by omega, by omega, SqT.of (but_at (nS_of hS5 (Same.refl _) h6) E6), fun H7 y S7 hy => ?_⟩
      have S57 := S6.trans S7
      have hpa7 := S57 _ _ hpa5
      refine ⟨us, hpa7, sz100l (by omega), ?_⟩
      have hL7 := hL5.same S57
      have U07 := U05.trans (but_mono S57)
      have T07 := ((but_mono (S := t.S) S4).trans T45).trans (but_mono S57)
      refine q _ (us ++ [y]) ⟨e.ls ++ [f7], addG e.g ⟨f4, f5, f6, none⟩⟩ (ds ++ [none]) (P9.put hL7 hpa7 (.add (hP.past.same U07) ⟨hy, hL5.ok⟩) hP.pn hP.sub) (by rw [but_upd (Pl.pa_mem t)]; exact T07) (by rw [List.length_append]; exact Nat.le_refl _)
    · have wn : ∀ k, worthB (wordK k) (some f4) = true := fun k => by
        unfold worthB
        rw [show numD (optD (some f4)) = true from num_of d4, Bool.true_or]
      refine if_rest (fun hc r => ?_) ?_
      · refine ⟨_, _, hta0, atI_nat (j := 0) rfl, ?_⟩
        walk_at "wp"
        refine ⟨_, hl0, ?_⟩
        walk_at "wp"
        by_cases h6 : e.ls.length < 9
        · exact absurd ⟨of_decide_eq_true hc, h6⟩ hA
        · rw [if_neg (by rw [hxl, decide_eq_false (by exact_mod_cast h6)]; decide)]
          exact r
      refine ⟨_, _, hdg, atI_nat (j := 1) rfl, ?_⟩
      walk_at "wp"
      by_cases h4 : f1 < 4
      · rw [if_pos (decide_eq_true h4)]
        refine ⟨sz100 (by decide), fun p3 h3 => ?_⟩
        obtain ⟨H3, e3, S3, E3⟩ := alloc (.lst [V.str (Str.ofString "light"), V.str (Str.ofString "want"), V.str (Str.ofString "loaf"), V.str (Str.ofString "keep"), V.str (Str.ofString "fine")]) h3
        rw [e3]
        have hz : atI [V.str (Str.ofString "light"), V.str (Str.ofString "want"), V.str (Str.ofString "loaf"), V.str (Str.ofString "keep"), V.str (Str.ofString "fine")] (kk : Int) = some (V.str (wordK kk)) := by
          rcases (show kk = 0 ∨ kk = 1 ∨ kk = 2 ∨ kk = 3 ∨ kk = 4 by omega) with rfl | rfl | rfl | rfl | rfl
          · exact atI_nat (j := 0) rfl
          · exact atI_nat (j := 1) rfl
          · exact atI_nat (j := 2) rfl
          · exact atI_nat (j := 3) rfl
          · exact atI_nat (j := 4) rfl
        refine ⟨_, _, SqL.of E3, hz, (hP.led.same S3).isObj, _, _, S3.seq hdg, atI_nat (j := 4) rfl, ?_⟩
        exact chg H3 kk (some f4) _ _ S3 hk5 (wn kk) fun H7 U7 hc => ⟨_, _, (but_same _ _).seq (U7.seq hdgS), atI_nat (j := 4) rfl, hc _⟩
      · rw [if_neg (by rw [decide_eq_false h4]; decide)]
        refine ⟨_, _, hdg, atI_nat (j := 1) rfl, rfl, ?_⟩
        by_cases h5 : f1 = 4
        · rw [if_pos (by rw [h5]; rfl)]
          refine ⟨hP.led.isObj, ?_⟩
          exact chg H 4 none _ _ (Same.refl _) (by decide) (by decide +kernel) fun H7 U7 hc => hc _
        · rw [if_neg (by rw [decide_eq_true_eq]; exact fun z => h5 (V.int.inj z))]
          refine ⟨_, SqL.of hP.hpa, ?_⟩
          have hlen := hP.past.len
          have hpast := hP.past
          cases hpast with
          | one a0 =>
            rw [if_neg (by rw [decide_eq_false (by simp)]; decide)]
            exact q _ _ _ _ hP (Same.refl _) (by simp)
          | @add us1 e1 ds1 v z d h a0 =>
            have hul := h.len
            obtain ⟨_, _, _, _, hEn⟩ := h.last
            have := hEn.nat
            rw [if_pos (decide_eq_true (by rw [List.length_append, List.length_singleton]; omega))]
            refine ⟨hP.led.isObj, .inr ⟨t.p, t.L, t.D, t.E, _, _, ds1, rfl, hP.led, by rw [List.length_append]; show 2 ≤ _ + 1; omega, fun H1 S1 hL1 => ?_⟩⟩
            rw [List.dropLast_concat, addG_drop] at hL1
            have hpa1 := (but_is (S1 _ _ (but_at hP.pn hP.hpa))).2
            have T1 := P9.three t S1
            refine ⟨tyL (SqL.of hpa1), t.pa, _, v, rfl, rfl, hpa1, by simp, ?_⟩
            rw [List.dropLast_concat]
            exact q _ _ _ _ (P9.put hL1 hpa1 (h.same (but_sub hP.sub T1)) hP.pn hP.sub) (by rw [but_upd (Pl.pa_mem t)]; exact T1) (by simp; omega)
          | @chg us1 e1 ds1 v i z o h a0 b0 c0 d0 =>
            have hul := h.len
            obtain ⟨_, _, _, _, hEn⟩ := h.last
            have hn0 := hEn.nat
            rw [if_pos (decide_eq_true (by rw [List.length_append, List.length_singleton]; omega))]
            refine ⟨hP.led.isObj, .inl ⟨t.p, t.L, t.D, t.E, _, _, ds1, i, z, worthL e1.ls e1.g i z, rfl, hP.led, by rw [setLs_len]; exact b0, c0, d0, fun H1 r bs cs S1 hL1 nr er hbl hbR hcl hcR => ?_⟩⟩
            rw [setLs_back b0, setGd_back c0 (by omega)] at hL1
            have hpa1 := (but_is (S1 _ _ (but_at hP.pn hP.hpa))).2
            have T1 := P9.three t S1
            refine ⟨tyL (SqL.of hpa1), t.pa, _, v, rfl, rfl, hpa1, by simp, ?_⟩
            rw [List.dropLast_concat]
            exact q _ _ _ _ (P9.put hL1 hpa1 (h.same (but_sub hP.sub T1)) hP.pn hP.sub) (by rw [but_upd (Pl.pa_mem t)]; exact T1) (by simp; omega)
end
end Bk

namespace Bk
open PySem PySem.Spec PyProof.Rows L2
open C8 (Met pe_mt pe_mt0)
local macro_rules | `(tactic| walk_at "wp") => `(tactic| try simp only [tMethK, swap2, turn3, iRng3_eq, rRng3_i, rNeN_r, iZipA_eq, rZipA_r, iEnumZip_eq, rEnumZip_r, tFld_eq, tMeth_eq, rTIx_r, tTru, tScT2, rSetL_r, rSetOf2_r, rSorDT_r, rSetD, tDGet2, tDGet, tDNewT, cxW, rExtend_r, rSortU_r, rSetOf_r, rSortedSet_r, rNinr_r, rNeN_r, rCatL_r, rSlT_r, rListOf_r, rIsB_b, rNotB_b, tFmtO, tJs, tOst, tCallS, WE, tRaise2, rOne_i, rSorD_r, tDNewK, Int.zero_add, tNever, tFor_eq, tLc_eq, iList, iTup, iRng1_eq, rRng1_i, iRng2_eq, rRng2_i, iEnum_eq, rEnum_r, iZip_eq, rZip_r, tSl, tPart, tNoPart, rSlL_r, rCat_r, rIn_r, rNin_r, rRepr_r, iRevR, rMin_r, rShr_i, rOdd_i, rSetL_r, gSub, rRg1_i, rRg2_i, rInr_r, tAug, ipI_ii, tLstRg, tRg1, tRg2, gTup_r, gUnl_r, rInt1_b, rInt1_i, rRep_r, tStep_r, scal, tSeq, tNext, tAsg, tRet, tRetN, tIfS, tDrop, tCB, tCons, tNil, tVar, tOp, tUn, tC, rU_i, rI_ii, rI0_ii, rEq, rNe, tTest, tB, tAnd, tOr, tNot, tAndV, tOrV, tNotV, tIf, tChain, tLst, tTup, tBM, tBM0, rAppend_r, rIxL_r, rIxT_r, rMx_ii, rMn_ii, rLnL_r, rLnT_r, rIsD_int, rIsD_bool, rIsD_list, rIsD_tuple, tCall, gName, gNil_n, gCons_c, cxK, L2.start, List.map, List.replicate, List.length_cons, List.length_nil, List.cons_append, List.nil_append, List.append_nil, List.getElem?_cons_zero, List.getElem?_cons_succ, Option.some.injEq, exists_eq_left', exists_eq_left, V.int.injEq, V.bl.injEq, V.str.injEq, V.ref.injEq, List.cons.injEq, and_true, true_and, and_self, List.set, wipe, rAll_r, rSum_r, reduceCtorEq, decide_true, decide_false, reduceIte, ite_true, ite_false, if_true, if_false, Bool.false_eq_true, Bool.not_true, Bool.not_false])
local macro_rules | `(tactic| walk_at "shaped") => `(tactic| (simp only [iRng3_eq, rRng3_i, rNeN_r, SeqAt.shaped, PyData.canLay0, PyData.canLayAll0, PyData.depth, PyData.depthAll]; rfl))
local macro_rules | `(tactic| walk_at "lay") => `(tactic| (simp only [iRng3_eq, rRng3_i, rNeN_r, PyData.canLay0, PyData.canLayAll0]; rfl))
local macro_rules | `(tactic| walk_at "wg") => `(tactic| try simp only [gName, gTup_r, gCons_c, gNil_n, cxK, List.set, List.cons.injEq, and_true, true_and, exists_eq_left', exists_eq_left, List.length_cons, List.length_nil])
section
variable {P : Program} {w : World} {K : PySem.W.Frag} {mg : Str → Option Value} {base : Heap}
def legs (n : Nat) (f : Nat → Led9) : List V := (List.range n).map fun i => V.ref (f i).t.p
def pass (n : Nat) (f : Nat → Led9) : List V := (List.range n).map fun i => V.ref (f i).t.pa
theorem legs_at {n i : Nat} {f : Nat → Led9} (hi : i < n) : (legs n f)[i]? = some (.ref (f i).t.p) := by
  unfold legs
  rw [List.getElem?_map, List.getElem?_range hi]
  rfl
theorem pass_at {n i : Nat} {f : Nat → Led9} (hi : i < n) : (pass n f)[i]? = some (.ref (f i).t.pa) := by
  unfold pass
  rw [List.getElem?_map, List.getElem?_range hi]
  rfl
theorem legs_len (n : Nat) (f : Nat → Led9) : (legs n f).length = n := by unfold legs; rw [List.length_map, List.length_range]
abbrev s_alike : Stmt := top 94
theorem sc_alike : FnScope ["_law_ledgers", "_law_pasts", "_law_k", "_law_ledger", "_law_j", "_law_other", "_law_due", "_law_found", "_law_near"] ["_law_ledgers", "_law_pasts"] (defScope s_alike) := ⟨rfl, rfl, rfl, by decide +kernel, rfl, by decide +kernel, by decide +kernel⟩
/-- what is known of the class beside other types -/
structure LKit (K : PySem.W.Frag) (C : Addr) : Prop where
  tl : ∀ (H : Hp) (p : Addr), (∃ dx fs, H p = some (.ins C dx fs)) → TyX K H (.ref p) (.ref C)
  own : PySem.W.notFirst K C (.ref C) = true
  tup : PySem.W.notFirst K C (.type "tuple") = true
  lst : PySem.W.notFirst K C (.type "list") = true
  int : PySem.W.notFirst K C (.type "int") = true
  str : PySem.W.notFirst K C (.type "str") = true
  non : PySem.W.notFirst K C (.type "NoneType") = true
  kOwn : PySem.W.kitOne K (.ref C) (.ref C) = some true
  kTup : PySem.W.kitOne K (.type "tuple") (.ref C) = some false
  kLst : PySem.W.kitOne K (.type "list") (.ref C) = some false
  kInt : PySem.W.kitOne K (.type "int") (.ref C) = some false
  kStr : PySem.W.kitOne K (.type "str") (.ref C) = some false
  kNon : PySem.W.kitOne K (.type "NoneType") (.ref C) = some false
theorem ty_sqt {K : PySem.W.Frag} {H : Hp} {a : Addr} {xs : List V} (h : SqT K H a xs) : TyX K H (.ref a) (.type "tuple") := by
  rcases h with (h | ⟨o, h⟩) | ⟨o, its, n, hk, hc, _⟩
  · exact .base (.tup h)
  · exact .fTuple h
  · exact .kTuple hk hc
theorem P9.tail {K : PySem.W.Frag} {C : Addr} {S : List Addr} {H : Hp} {t : Pl} {vs : List V} {e : PEn} {ds : List Deed} (h : P9 K C S H t vs e ds) : ∃ (m : Nat) (a l ga : Addr) (xl : List V), vs.length = m + 1 ∧ vs[m]? = some (.ref a) ∧ Th K H (.ref a) (bakD ⟨e.ls, none, [e.g]⟩) ∧ (∃ v2, SqT K H a [.ref l, v2, .ref ga]) ∧ SqL K H l xl ∧ xl.length = e.ls.length := by
  obtain ⟨us0, v, b, eu, hv⟩ := h.past.last
  obtain ⟨hx, hok⟩ := hv
  have hx := hx.same (but_same _ _)
  obtain ⟨a, l, v2, ga, xl, xg, rfl, hta, hl, hla, h2, hgl, hga⟩ := Th.bak hx
  exact ⟨us0.length, a, l, ga, xl, by rw [eu, List.length_append]; rfl, by rw [eu, List.getElem?_concat_length], hx, ⟨v2, hta⟩, hl, by rw [hla.length, List.length_map]⟩
/-- the numbers below k but i -/
def othK (i k : Nat) : List Nat := (List.range k).filter fun j => decide (j ≠ i)
theorem othK_step {i j : Nat} (h : j ≠ i) : othK i (j + 1) = othK i j ++ [j] := by
  unfold othK
  rw [List.range_succ, List.filter_append, List.filter_cons, if_pos (decide_eq_true h)]
  rfl
theorem othK_skip {i : Nat} : othK i (i + 1) = othK i i := by
  unfold othK
  rw [List.range_succ, List.filter_append, List.filter_cons, if_neg (by simp), List.filter_nil, List.append_nil]
theorem othK_len (i k : Nat) : (othK i k).length ≤ k := by
  unfold othK
  exact Nat.le_trans (List.length_filter_le _ _) (Nat.le_of_eq List.length_range)
theorem othK_mem {i k j : Nat} (h : j ∈ othK i k) : j < k ∧ j ≠ i := by
  unfold othK at h
  obtain ⟨h1, h2⟩ := List.mem_filter.mp h
  exact ⟨List.mem_range.mp h1, of_decide_eq_true h2⟩
theorem inV_true (b : Nat → Bool) : ∀ js : List Nat, inV (.bl true) (js.map fun j => V.bl (b j)) = js.any b
  | [] => rfl
  | j :: js => by
    have ih := inV_true b js
    unfold inV at ih ⊢
    rw [List.map_cons, List.any_cons, List.any_cons, ih]
    cases b j <;> rfl
theorem any_at (b : Nat → Bool) (js : List Nat) : ((List.range js.length).any fun x => match js[x]? with | some j => b j | none => false) = js.any b := by
  rw [Bool.eq_iff_iff, List.any_eq_true, List.any_eq_true]
  constructor
  · rintro ⟨x, hx, hb⟩
    have hx := List.mem_range.mp hx
    rw [List.getElem?_eq_getElem hx] at hb
    exact ⟨_, List.getElem_mem hx, hb⟩
  · rintro ⟨j, hj, hb⟩
    obtain ⟨x, hx, rfl⟩ := List.getElem_of_mem hj
    refine ⟨x, List.mem_range.mpr hx, ?_⟩
    rw [List.getElem?_eq_getElem hx]
    exact hb
/-- two ledgers whose lists are apart are two -/
theorem Few9.two {K : PySem.W.Frag} {C : Addr} {n : Nat} {S : List Addr} {H : Hp} {f : Nat → Led9} (h : Few9 K C n S H f) {i j : Nat} (hi : i < n) (hj : j < n) (hne : j ≠ i) : (f j).t.p ≠ (f i).t.p := fun e => by
  obtain ⟨dx, h1⟩ := (h.all i hi).led.obj
  obtain ⟨dy, h2⟩ := (h.all j hj).led.obj
  rw [e, h1] at h2
  have h3 := congrArg (fun o : Option HO => match o with | some (.ins _ _ fs) => fs.lookup ("lights" : Str) | _ => none) h2
  dsimp only at h3
  rw [lf_lights, lf_lights] at h3
  have h4 : (f i).t.L = (f j).t.L := by
    exact V.ref.inj (Option.some.inj h3)
  exact h.ap j i hj hi hne (f j).t.L (by simp [Pl.S]) (by rw [← h4]; simp [Pl.S])
def spAlike42 (K : PySem.W.Frag) (C : Addr) : Sp := fun vs H Q _ => ∃ (q1 q2 : Addr) (n : Nat) (S : List Addr) (f : Nat → Led9), vs = [.ref q1, .ref q2] ∧ n ≤ 10 ∧ Few9 K C n S H f ∧ H q1 = some (.lst (legs n f)) ∧ H q2 = some (.lst (pass n f)) ∧ ∀ H', Same H H' → Q (.bl true) H'
theorem ok_alike42 {f0 C : Addr} {fd : FuncData} (F : Fun K "_law_alike" "_law_alike" s_alike f0 fd) (B : Bi mg) (Bq : mg "str" = none) (LK : LKit K C) (NE : NeOk K C) (D_show_bakery : Def P w K mg base "show_bakery" 7 ["bakery"] (spShow K)) (T_len : C8.Met P w K mg base 1 C "__len__" (spLLen K C) []) (T_eq : C8.Met P w K mg base 1 C "__eq__" (spLEq K C) []) (T_str : C8.Met P w K mg base 9 C "__str__" (spLStr K C) []) : FnOk P w K mg base CX0 12 f0 fd ["_law_ledgers", "_law_pasts"] (spAlike42 K C) := by
  have NF := LK.own
  refine F.ok sc_alike (fun vs H Q E h => ?_) (fun cdv A outer s H vs Q E hr h => ?_)
  · obtain ⟨_, _, _, _, _, rfl, _⟩ := h
    rfl
  · obtain ⟨q1, q2, n, S, f, rfl, hn10, hF, h1, h2, q⟩ := h
    refine ⟨_, (pss_cons (ps_for PassesOwn.never rfl (pi_enum (by rfl) B.enumerate (pa_cons (pv 0) pa_nil)) (pg_tup rfl (pgs_cons (pg_name (i := 2) sc_alike.nd rfl (Or.inr rfl)) (pgs_cons (pg_name (i := 3) sc_alike.nd rfl (Or.inl rfl)) pgs_nil))) (pss_cons (ps_if (PW.pt (pw_or (pt_cmpR op_ne (pe_callB (call_ownLen T_len hr (by omega)) (by rfl) B.len (by decide +kernel) (pa_cons (pv 3) pa_nil)) (pe_callB call_lnL (by rfl) B.len (by decide +kernel) (pa_cons (pe_ix ix_tup (pe_ix ix_list (pe_ix ix_list (pv 1) (pv 2) (fun _ _ => rfl)) (pe_un un_neg pe_int) (fun _ _ => rfl)) pe_int (fun _ _ => rfl)) pa_nil)) (nomark _)) (pw_or1 (pt_cmpR op_ne (pe_callTy (call_ownStr T_str hr (by omega)) (by rfl) Bq (by decide +kernel) (pa_cons (pv 3) pa_nil)) (pe_callD D_show_bakery hr (by rfl) (pa_cons (pe_ix ix_list (pe_ix ix_list (pv 1) (pv 2) (fun _ _ => rfl)) (pe_un un_neg pe_int) (fun _ _ => rfl)) pa_nil)) (nomark _))))) (pss_one (ps_ret pe_bl)) pss_nil)
 (pss_cons (ps_if (PW.pt (pw_or (pt_cmpR (op_ownEq T_eq hr (by omega)) (pv 3) (pe_ix ix_list (pe_ix ix_list (pv 1) (pv 2) (fun _ _ => rfl)) (pe_un un_neg pe_int) (fun _ _ => rfl)) (nomark _)) (pw_or (pt_cmpR (op_ownEq T_eq hr (by omega)) (pv 3) pe_non (nomark _)) (pw_or1 (pt_cmpR (op_ownEq T_eq hr (by omega)) (pv 3) (pe_callB (call_ownLen T_len hr (by omega)) (by rfl) B.len (by decide +kernel) (pa_cons (pv 3) pa_nil)) (nomark _)))))) (pss_one (ps_ret pe_bl)) pss_nil)
 (pss_cons (ps_if (PW.pt (pw_or (pt_cmpR (op_ownEq T_eq hr (by omega)) (pv 3) (pe_lst (pa_cons (pv 3) pa_nil)) (nomark _)) (pw_or1 (pt_cmpR (op_ownEq T_eq hr (by omega)) (pv 3) (pe_callTy (call_ownStr T_str hr (by omega)) (by rfl) Bq (by decide +kernel) (pa_cons (pv 3) pa_nil)) (nomark _))))) (pss_one (ps_ret pe_bl)) pss_nil)
 (pss_cons (ps_for PassesOwn.never rfl (pi_enum (by rfl) B.enumerate (pa_cons (pv 0) pa_nil)) (pg_tup rfl (pgs_cons (pg_name (i := 4) sc_alike.nd rfl (Or.inl rfl)) (pgs_cons (pg_name (i := 5) sc_alike.nd rfl (Or.inl rfl)) pgs_nil))) (pss_cons (ps_set (i := 6) sc_alike.nd rfl (Or.inl rfl) (pe_cmpR (op_eqD hr.units) (pe_ix ix_list (pe_ix ix_list (pv 1) (pv 2) (fun _ _ => rfl)) (pe_un un_neg pe_int) (fun _ _ => rfl)) (pe_ix ix_list (pe_ix ix_list (pv 1) (pv 4) (fun _ _ => rfl)) (pe_un un_neg pe_int) (fun _ _ => rfl)) (nomark _)))
 (pss_cons (ps_set (i := 7) sc_alike.nd rfl (Or.inl rfl) (pe_cmpR (op_ownEq T_eq hr (by omega)) (pv 3) (pv 5) (nomark _)))
 (pss_one (ps_if (PW.pt (pw_or (pt_not (pt_val (pe_callB (call_isD .bool) (by rfl) B.isinstance (by decide +kernel) (pa_cons (pv 7) (pa_cons (pe_bltn (v := .ty "bool") (by rfl) B.bool (by decide +kernel) rfl) pa_nil))))) (pw_or (pt_cmpR op_ne (pv 7) (pv 6) (nomark _)) (pw_or1 (pt_cmpR op_eq (pe_cmpR (op_ownNe T_eq NE hr (by omega)) (pv 3) (pv 5) (nomark _)) (pv 6) (nomark _)))))) (pss_one (ps_ret pe_bl)) pss_nil)))))
 (pss_cons (ps_setLc (i := 8) (own := [("_law_j", 4)]) (g := (gName 4)) (te := (tOp (rEqD K) (tOp (rIxL K) (tOp (rIxL K) _ _) _) (tOp (rIxL K) (tOp (rIxL K) _ _) _))) rfl sc_alike.nd rfl rfl (sw_true rfl rfl rfl (by decide +kernel)) (pi_range1 (by rfl) B.range (pa_cons (pe_callB call_lnL (by rfl) B.len (by decide +kernel) (pa_cons (pv 0) pa_nil)) pa_nil)) (blkOk_by (own := [("_law_j", 4)]) (N := ["_law_ledgers", "_law_pasts", "_law_k", "_law_ledger", "_law_j", "_law_other", "_law_due", "_law_found", "_law_near"]) (sc := defScope s_alike) (by decide +kernel)) (fun _ _ _ _ _ => (pg_name (i := 4) sc_alike.nd rfl (Or.inl rfl))) (fun _ _ _ _ _ => (pts_one (pt_cmpR op_ne (pv 4) (pv 2) (nomark _)))) (fun _ _ _ _ _ => (pe_cmpR (op_eqD hr.units) (pe_ix ix_list (pe_ix ix_list (pv 1) (pv 4) (fun _ _ => rfl)) (pe_un un_neg pe_int) (fun _ _ => rfl)) (pe_ix ix_list (pe_ix ix_list (pv 1) (pv 2) (fun _ _ => rfl)) (pe_un un_neg pe_int) (fun _ _ => rfl)) (nomark _))))
 (pss_one (ps_if (pt_cmpR op_ne (pe_cmpR (op_inOwn T_eq NF hr (by omega)) (pv 3) (pe_lc (own := [("_law_j", 4), ("_law_other", 5)]) (g := (gTup K 2 (gCons (gName 4) (gCons (gName 5) gNil)))) rfl sc_alike.nd (pi_enum (by rfl) B.enumerate (pa_cons (pv 0) pa_nil)) (blkOk_by (own := [("_law_j", 4), ("_law_other", 5)]) (N := ["_law_ledgers", "_law_pasts", "_law_k", "_law_ledger", "_law_j", "_law_other", "_law_due", "_law_found", "_law_near"]) (sc := defScope s_alike) (by decide +kernel)) (fun _ _ _ _ _ => (pg_tup rfl (pgs_cons (pg_name (i := 4) sc_alike.nd rfl (Or.inl rfl)) (pgs_cons (pg_name (i := 5) sc_alike.nd rfl (Or.inl rfl)) pgs_nil)))) (fun _ _ _ _ _ => (pts_one (pt_cmpR op_ne (pv 4) (pv 2) (nomark _)))) (fun _ _ _ _ _ => (pv 5))) (by rfl)) (pe_cmpR op_in_seq pe_bl (pv 8) (by rfl)) (nomark _)) (pss_one (ps_ret pe_bl)) pss_nil))))))))
 (pss_one (ps_ret pe_bl))), ?_⟩
    walk_at "wp"
    refine ⟨_, SqL.of h1, ?_⟩
    refine LoopR.by (walk_enum (xs := legs n f)) (fun i σ H' => (∃ y2 y3 y4 y5 y6 y7 y8, σ = [some (.ref q1), some (.ref q2), y2, y3, y4, y5, y6, y7, y8]) ∧ Same H H') ⟨⟨_, _, _, _, _, _, _, rfl⟩, Same.refl _⟩ (fun i σ H' _ hI => hI.2.seq (SqL.of h1)) (fun i v σ H0 H9 hi hI yy => ?_) (fun σ H9 hI => ?_)
    rotate_left
    · obtain ⟨⟨_, _, _, _, _, _, _, rfl⟩, S9⟩ := hI
      walk_at "wp"
      exact q _ S9
    obtain ⟨⟨y2, y3, y4, y5, y6, y7, y8, rfl⟩, S9⟩ := hI
    have S10 := S9.trans (ypair_same yy)
    obtain ⟨T, z1, z2, rfl, hT, rfl, e1, e2⟩ := yy
    cases e1
    have e2 : (legs n f)[i]? = some z2 := e2
    rw [legs_len] at hi
    rw [legs_at hi] at e2
    cases e2
    walk_at "wp"
    refine ⟨_, SqT.of upd_same, rfl, ?_⟩
    generalize upd H0 T (.tup [V.int (i : Int), V.ref (f i).t.p]) = H10 at S10 ⊢
    have h1 := S10 _ _ h1
    have h2 := S10 _ _ h2
    have S9' := S10
    have hF := hF.same S10
    have hP := hF.all i hi
    obtain ⟨dx, hob⟩ := hP.led.obj
    obtain ⟨m, a, l, ga, xl, hum, huv, hx, ⟨v2, hta⟩, hl, hxl⟩ := hP.tail
    have hn := (bak_parts hP.led.ok).1
    have last : ∀ HX, Same H10 HX → ∃ xs v, SqL K HX q2 xs ∧ atI xs (i : Int) = some v ∧ ∃ xs2 v2, ∃ z, v = .ref z ∧ SqL K HX z xs2 ∧ atI xs2 (-1) = some v2 ∧ v2 = .ref a := fun HX s => ⟨_, _, s.seq (SqL.of h2), atI_nat (pass_at hi), _, _, _, rfl, s.seq (SqL.of hP.hpa), atI_last hum huv, rfl⟩
    walk_at "wg"
    walk_at "wp"
    refine ⟨_, dx, _, rfl, hob, (f i).t.p, (f i).t.L, (f i).t.D, (f i).t.E, (f i).e.ls, (f i).e.g, (f i).ds, rfl, hP.led, _, rfl, Nat.lt_of_le_of_lt hn.2 (by decide), ?_⟩
    refine ⟨_, _, SqL.of h2, atI_nat (pass_at hi), ?_⟩
    walk_at "wp"
    refine ⟨_, _, SqL.of hP.hpa, atI_last hum huv, ?_⟩
    walk_at "wp"
    refine ⟨_, _, hta, atI_nat (j := 0) rfl, ?_⟩
    walk_at "wp"
    refine ⟨_, hl, ?_⟩
    walk_at "wp"
    rw [if_neg (by rw [hxl]; simp)]
    have eqF : ∀ (HX : Hp) (y : V) (ty : Value) (R : VK), Same H10 HX → TyX K HX y ty → PySem.W.notFirst K C ty = true → PySem.W.kitOne K ty (.ref C) = some false → R (.bl false) HX → rOwnEq K C (spLEq K C) (.ref (f i).t.p) y HX R := fun HX y ty R s tx nf kn r => ⟨(f i).t.p, dx, _, ty, rfl, s _ _ hob, tx, nf, (f i).t.p, (f i).t.L, (f i).t.D, (f i).t.E, (f i).e.ls, (f i).e.g, (f i).ds, y, rfl, hP.led.same s, .inr ⟨ty, tx, kn, r⟩⟩
    refine ⟨(f i).t.p, dx, _, rfl, hob, (f i).t.p, (f i).t.L, (f i).t.D, (f i).t.E, (f i).e.ls, (f i).e.g, (f i).ds, rfl, hP.led, fun H11 S11 => ⟨_, rfl, ?_⟩⟩
    refine ⟨_, _, S11.seq (SqL.of h2), atI_nat (pass_at hi), ?_⟩
    walk_at "wp"
    refine ⟨_, _, S11.seq (SqL.of hP.hpa), atI_last hum huv, ?_⟩
    refine ⟨_, _, rfl, hx.same S11, hP.led.ok, fun H12 S12 => ?_⟩
    have S12 := S11.trans S12
    walk_at "wp"
    refine ⟨_, _, S12.seq (SqL.of h2), atI_nat (pass_at hi), ?_⟩
    walk_at "wp"
    refine ⟨_, _, S12.seq (SqL.of hP.hpa), atI_last hum huv, ?_⟩
    refine eqF _ _ _ _ S12 (ty_sqt (Same.tup S12 hta)) LK.tup LK.kTup ?_
    refine ⟨false, rfl, ?_⟩
    rw [if_neg (by decide)]
    refine eqF _ _ _ _ S12 (.base .non) LK.non LK.kNon ?_
    refine ⟨false, rfl, ?_⟩
    rw [if_neg (by decide)]
    refine ⟨(f i).t.p, dx, _, rfl, S12 _ _ hob, (f i).t.p, (f i).t.L, (f i).t.D, (f i).t.E, (f i).e.ls, (f i).e.g, (f i).ds, rfl, hP.led.same S12, _, rfl, Nat.lt_of_le_of_lt hn.2 (by decide), ?_⟩
    refine eqF _ _ _ _ S12 (.base (.int _)) LK.int LK.kInt ?_
    refine ⟨false, rfl, ?_⟩
    rw [if_neg (by decide)]
    refine ⟨sz100 (by decide), fun p3 h3 => ?_⟩
    obtain ⟨H13, e13, S13, E13⟩ := alloc (.lst [V.ref (f i).t.p]) h3
    rw [e13]
    have S13 := S12.trans S13
    refine eqF _ _ _ _ S13 (.base (.lst E13)) LK.lst LK.kLst ?_
    refine ⟨false, rfl, ?_⟩
    rw [if_neg (by decide)]
    refine ⟨(f i).t.p, dx, _, rfl, S13 _ _ hob, (f i).t.p, (f i).t.L, (f i).t.D, (f i).t.E, (f i).e.ls, (f i).e.g, (f i).ds, rfl, hP.led.same S13, fun H14 S14 => ⟨_, rfl, ?_⟩⟩
    have S14 := S13.trans S14
    refine eqF _ _ _ _ S14 (.base (.str _)) LK.str LK.kStr ?_
    refine ⟨false, rfl, ?_⟩
    rw [if_neg (by decide)]
    walk_at "wp"
    clear e13 h3 S11 S12 S13 E13
    refine ⟨_, SqL.of (S14 _ _ h1), ?_⟩
    refine LoopR.by (walk_enum (xs := legs n f)) (fun j σ H' => (∃ y4 y5 y6 y7 y8, σ = [some (.ref q1), some (.ref q2), some (.int (i : Int)), some (.ref (f i).t.p), y4, y5, y6, y7, y8]) ∧ Same H10 H') ⟨⟨_, _, _, _, _, rfl⟩, S14⟩ (fun j σ H' _ hI => hI.2.seq (SqL.of h1)) (fun j v σ H0 H9 hj hI yy => ?_) (fun σ H9 hI => ?_)
    · obtain ⟨⟨y4, y5, y6, y7, y8, rfl⟩, S15⟩ := hI
      have S16 := S15.trans (ypair_same yy)
      obtain ⟨T2, z1, z2, rfl, hT2, rfl, e1, e2⟩ := yy
      cases e1
      have e2 : (legs n f)[j]? = some z2 := e2
      rw [legs_len] at hj
      rw [legs_at hj] at e2
      cases e2
      walk_at "wp"
      refine ⟨_, SqT.of upd_same, rfl, ?_⟩
      generalize upd H0 T2 (.tup [V.int (j : Int), V.ref (f j).t.p]) = H16 at S16 ⊢
      have hPj := hF.all j hj
      obtain ⟨dy, hobj⟩ := hPj.led.obj
      obtain ⟨mj, aj, lj, gj, xlj, humj, huvj, hxj, ⟨v2j, htaj⟩, hlj, hxlj⟩ := hPj.tail
      walk_at "wg"
      walk_at "wp"
      refine ⟨_, _, S16.seq (SqL.of h2), atI_nat (pass_at hi), ?_⟩
      walk_at "wp"
      refine ⟨_, _, S16.seq (SqL.of hP.hpa), atI_last hum huv, ?_⟩
      refine ⟨_, _, S16.seq (SqL.of h2), atI_nat (pass_at hj), ?_⟩
      walk_at "wp"
      refine ⟨_, _, S16.seq (SqL.of hPj.hpa), atI_last humj huvj, ?_⟩
      refine eqD_bak (hx.same S16) (hxj.same S16) ?_
      refine ⟨(f i).t.p, dx, _, _, rfl, S16 _ _ hob, LK.tl _ _ ⟨dy, _, S16 _ _ hobj⟩, LK.own, (f i).t.p, (f i).t.L, (f i).t.D, (f i).t.E, (f i).e.ls, (f i).e.g, (f i).ds, _, rfl, hP.led.same S16, .inl ⟨(f j).t.p, (f j).t.L, (f j).t.D, (f j).t.E, (f j).e.ls, (f j).e.g, (f j).ds, rfl, hPj.led.same S16, ?_⟩⟩
      walk_at "wp"
      generalize hbb : sameB (f i).e.ls (f i).e.g (f j).e.ls (f j).e.g = bb
      refine ⟨.bool bb, .bl bb, ?_⟩
      rw [if_neg (show ¬ ((!isD Cl.bool (.bool bb)) = true) from (by decide : ¬ ((!true) = true)))]
      refine ⟨(f i).t.p, dx, _, _, rfl, S16 _ _ hob, LK.tl _ _ ⟨dy, _, S16 _ _ hobj⟩, LK.own, (f i).t.p, (f i).t.L, (f i).t.D, (f i).t.E, (f i).e.ls, (f i).e.g, (f i).ds, _, rfl, hP.led.same S16, .inl ⟨(f j).t.p, (f j).t.L, (f j).t.D, (f j).t.E, (f j).e.ls, (f j).e.g, (f j).ds, rfl, hPj.led.same S16, bb, by rw [hbb], rfl, ?_⟩⟩
      rw [if_neg (by cases bb <;> decide)]
      exact ⟨⟨_, _, _, _, _, rfl, rfl, rfl, rfl, rfl⟩, S16⟩
    · obtain ⟨⟨y4, y5, y6, y7, y8, rfl⟩, S15⟩ := hI
      walk_at "wp"
      refine ⟨_, SqL.of (S15 _ _ h1), ?_⟩
      rw [legs_len]
      refine ⟨by omega, by omega, fun D hD => ?_⟩
      refine LcR.by walk_range (fun k H' => Same H9 H' ∧ H' D = some (.lst ((othK i k).map fun j => V.bl (sameB (f j).e.ls (f j).e.g (f i).e.ls (f i).e.g)))) ⟨same_upd hD, upd_same⟩ (fun _ _ _ _ => trivial) (fun j v H0 H1 hj hI yy => ?_) (fun H1 hI => ?_)
      · obtain ⟨rfl, rfl⟩ := yy
        obtain ⟨S17, E17⟩ := hI
        have hj : j < n := by omega
        have S18 := S15.trans S17
        have hPj := hF.all j hj
        obtain ⟨mj, aj, lj, gj, xlj, humj, huvj, hxj, ⟨v2j, htaj⟩, hlj, hxlj⟩ := hPj.tail
        walk_at "wp"
        by_cases hji : j = i
        · subst hji
          rw [if_neg (by simp)]
          exact ⟨S17, by rw [othK_skip]; exact E17⟩
        · rw [if_pos (by rw [decide_eq_false (show ¬ ((j : Int) = (i : Int)) by omega)]; rfl)]
          refine ⟨_, _, S18.seq (SqL.of h2), atI_nat (pass_at hj), ?_⟩
          walk_at "wp"
          refine ⟨_, _, S18.seq (SqL.of hPj.hpa), atI_last humj huvj, ?_⟩
          refine ⟨_, _, S18.seq (SqL.of h2), atI_nat (pass_at hi), ?_⟩
          walk_at "wp"
          refine ⟨_, _, S18.seq (SqL.of hP.hpa), atI_last hum huv, ?_⟩
          refine eqD_bak (hxj.same S18) (hx.same S18) ?_
          refine ⟨_, E17, sz100l (by rw [List.length_map]; have := othK_len i j; omega), same_mut S17 hD, ?_⟩
          rw [upd_same, othK_step hji, List.map_append]
          rfl
      · obtain ⟨S17, E17⟩ := hI
        walk_at "wp"
        have S18 := S15.trans S17
        refine ⟨_, SqL.of (S18 _ _ h1), fun D2 hD2 => ?_⟩
        refine LcR.by (walk_enum (xs := legs n f)) (fun k H' => Same H1 H' ∧ H' D2 = some (.lst ((othK i k).map fun j => V.ref (f j).t.p))) ⟨same_upd hD2, upd_same⟩ (fun k H' _ h => (S18.trans h.1).seq (SqL.of h1)) (fun j v H0 H2 hj hI yy => ?_) (fun H2 hI => ?_)
        · obtain ⟨S19, E19⟩ := hI
          have S20 := S19.trans (ypair_same yy)
          have T20 := ypair_same yy
          obtain ⟨T3, z1, z2, rfl, hT3, rfl, e1, e2⟩ := yy
          cases e1
          have e2 : (legs n f)[j]? = some z2 := e2
          rw [legs_len] at hj
          rw [legs_at hj] at e2
          cases e2
          walk_at "wp"
          refine ⟨_, SqT.of upd_same, rfl, ?_⟩
          have E20 := T20 _ _ E19
          generalize upd H0 T3 (.tup [V.int (j : Int), V.ref (f j).t.p]) = H20 at S20 E20 ⊢
          walk_at "wg"
          walk_at "wp"
          by_cases hji : j = i
          · subst hji
            rw [if_neg (by simp)]
            exact ⟨S20, by rw [othK_skip]; exact E20⟩
          · rw [if_pos (by rw [decide_eq_false (show ¬ ((j : Int) = (i : Int)) by omega)]; rfl)]
            refine ⟨_, E20, sz100l (by rw [List.length_map]; have := othK_len i j; omega), same_mut S20 hD2, ?_⟩
            rw [upd_same, othK_step hji, List.map_append]
            rfl
        · obtain ⟨S19, E19⟩ := hI
          rw [legs_len] at E19
          have S20 := S18.trans S19
          have E17 := S19 _ _ E17
          walk_at "wp"
          refine ⟨(f i).t.p, D2, dx, _, _, fun x => match (othK i n)[x]? with | some j => sameB (f j).e.ls (f j).e.g (f i).e.ls (f i).e.g | none => false, rfl, rfl, S20 _ _ hob, SqL.of E19, fun x v hx => ?_, ?_⟩
          · rw [List.getElem?_map] at hx
            obtain ⟨j, hjx, rfl⟩ := Option.map_eq_some_iff.mp hx
            obtain ⟨hjn, hji⟩ := othK_mem (List.mem_of_getElem? hjx)
            have hPj := hF.all j hjn
            obtain ⟨dy, hobj⟩ := hPj.led.obj
            refine ⟨(f j).t.p, dy, _, rfl, S20 _ _ hobj, fun z => absurd z (hF.two hi hjn hji), fun QQ hq => ?_⟩
            dsimp only at hq
            rw [hjx] at hq
            exact ⟨(f j).t.p, (f j).t.L, (f j).t.D, (f j).t.E, (f j).e.ls, (f j).e.g, (f j).ds, _, rfl, hPj.led.same S20, .inl ⟨(f i).t.p, (f i).t.L, (f i).t.D, (f i).t.E, (f i).e.ls, (f i).e.g, (f i).ds, rfl, hP.led.same S20, hq⟩⟩
          · rw [List.length_map, any_at (fun j => sameB (f j).e.ls (f j).e.g (f i).e.ls (f i).e.g)]
            refine ⟨_, .inl (SqL.of E17), rfl, ?_, ?_⟩
            · rw [List.all_map]
              exact List.all_eq_true.mpr fun _ _ => rfl
            rw [inV_true (fun j => sameB (f j).e.ls (f j).e.g (f i).e.ls (f i).e.g)]
            refine ⟨rfl, ?_⟩
            rw [if_neg (by simp)]
            exact ⟨⟨_, _, _, _, _, _, _, rfl, rfl, rfl, rfl, rfl, rfl, rfl⟩, (S9'.trans S20)⟩
end
end Bk

namespace Bk
open PySem PySem.Spec PyProof.Rows L2
local macro_rules | `(tactic| walk_at "wp") => `(tactic| try simp only [rIntS_r, rLenS_r, rIxS_r, rInS_r, rSplit_r, iStr_eq, rNewStrs, iRng3_eq, rRng3_i, tM1, tFmt, iLT, tScT2, rSetL_r, rSetOf2_r, rSorDT_r, rSetD, tDGet2, tDGet, tDNewT, cxW, rExtend_r, rSortU_r, rSetOf_r, rSortedSet_r, rNinr_r, rNeN_r, rCatL_r, rSlT_r, rListOf_r, rIsB_b, rNotB_b, tFmtO, tJs, tOst, tCallS, WE, tRaise2, rOne_i, rSorD_r, tDNewK, Int.zero_add, tNever, tFor_eq, tLc_eq, iList, iTup, iRng1_eq, rRng1_i, iRng2_eq, rRng2_i, iEnum_eq, rEnum_r, iZip_eq, rZip_r, tSl, tPart, tNoPart, rSlL_r, rCat_r, rIn_r, rNin_r, rRepr_r, iRevR, rMin_r, rShr_i, rOdd_i, rSetL_r, gSub, rRg1_i, rRg2_i, rInr_r, tAug, ipI_ii, tLstRg, tRg1, tRg2, gTup_r, gUnl_r, rInt1_b, rInt1_i, rRep_r, tStep_r, scal, tSeq, tNext, tAsg, tRet, tRetN, tIfS, tDrop, tCB, tCons, tNil, tVar, tOp, tUn, tC, rU_i, rI_ii, rI0_ii, rEq, rNe, tTest, tB, tAnd, tOr, tNot, tAndV, tOrV, tNotV, tIf, tChain, tLst, tTup, tBM, tBM0, rAppend_r, rIxL_r, rIxT_r, rMx_ii, rMn_ii, rLnL_r, rLnT_r, rIsD_int, rIsD_bool, rIsD_list, rIsD_tuple, tCall, gName, gNil_n, gCons_c, cxK, L2.start, List.map, List.replicate, List.length_cons, List.length_nil, List.cons_append, List.nil_append, List.append_nil, List.getElem?_cons_zero, List.getElem?_cons_succ, Option.some.injEq, exists_eq_left', exists_eq_left, V.int.injEq, V.bl.injEq, V.str.injEq, V.ref.injEq, List.cons.injEq, and_true, true_and, and_self, List.set, wipe, rAll_r, rSum_r, reduceCtorEq, decide_true, decide_false, reduceIte, ite_true, ite_false, if_true, if_false, Bool.false_eq_true, Bool.not_true, Bool.not_false])
local macro_rules | `(tactic| walk_at "shaped") => `(tactic| (simp only [SeqAt.shaped, PyData.canLay0, PyData.canLayAll0, PyData.depth, PyData.depthAll]; rfl))
local macro_rules | `(tactic| walk_at "lay") => `(tactic| (simp only [PyData.canLay0, PyData.canLayAll0]; rfl))
local macro_rules | `(tactic| walk_at "wg") => `(tactic| try simp only [gName, gTup_r, gCons_c, gNil_n, cxK, List.set, List.cons.injEq, and_true, true_and, exists_eq_left', exists_eq_left, List.length_cons, List.length_nil])
section
variable {P : Program} {w : World} {K : PySem.W.Frag} {mg : Str → Option Value} {base : Heap}
abbrev s_is_written : Stmt := top 63
theorem sc_is_written : FnScope ["word", "sign"] ["word"] (defScope s_is_written) := ⟨rfl, rfl, rfl, by decide +kernel, rfl, by decide +kernel, by decide +kernel⟩
def spWrit (K : PySem.W.Frag) : Sp := fun vs H Q _ => ∃ o, vs = [.str (wordO o)] ∧ WO o ∧ ∀ H', Same H H' → Q (.bl true) H'
theorem ok_is_written {f : Addr} {fd : FuncData} {t1 t2 t3 : Tok} (F : Fun K "is_written" "is_written" s_is_written f fd) (B : Bi mg) (M_NONE : mg "NONE" = some (.str "-" t1)) (M_MOST_FIGURES : mg "MOST_FIGURES" = some (.int 10 t2)) (M_FIGURES : mg "FIGURES" = some (.str "0123456789" t3)) : FnOk P w K mg base CX0 1 f fd ["word"] (spWrit K) := by
  refine F.ok sc_is_written (fun vs H Q E h => ?_) (fun cdv A outer s H vs Q E hr h => ?_)
  · obtain ⟨_, rfl, _⟩ := h
    rfl
  · obtain ⟨o, rfl, ho, q⟩ := h
    refine ⟨_, (pss_cons (ps_if (PW.pt (pw_or (pt_cmpR op_eq (pv 0) (pe_globS rfl M_NONE) (nomark _)) (pw_or1 (pt_cmpR op_eq (pv 0) pe_str (nomark _))))) (pss_one (ps_ret pe_bl)) pss_nil)
 (pss_cons (ps_if (PW.pt (pw_or (pt_not (pt_chain op_le op_le pe_int (pe_callB call_lenS (by rfl) B.len (by decide +kernel) (pa_cons (pv 0) pa_nil)) (pe_globI rfl M_MOST_FIGURES))) (pw_or1 (pt_cmpR op_eq (pe_ix ix_str (pv 0) pe_int (fun _ _ => rfl)) pe_str (nomark _))))) (pss_one (ps_ret pe_bl)) pss_nil)
 (pss_one (ps_ret (pe_callB (cr_all rfl) (by rfl) B.all (by decide +kernel) (pa_cons (pe_lc (own := [("sign", 1)]) (g := (gName 1)) rfl sc_is_written.nd (pi_str (pv 0)) (blkOk_by (own := [("sign", 1)]) (N := ["word", "sign"]) (sc := defScope s_is_written) (by decide +kernel)) (fun _ _ _ _ _ => (pg_name (i := 1) sc_is_written.nd rfl (Or.inl rfl))) (fun _ _ _ _ _ => pts_nil) (fun _ _ _ _ _ => (pe_cmpR op_inS (pv 1) (pe_globS rfl M_FIGURES) (by rfl)))) pa_nil)))))), ?_⟩
    walk_at "wp"
    obtain ⟨l1, l2⟩ := len_word ho
    cases o with
    | none =>
      rw [if_pos (decide_eq_true (show wordO none = ("-" : Str) from rfl))]
      exact q _ (Same.refl _)
    | some i =>
      rw [if_neg (by rw [decide_eq_true_eq]; intro z; cases (word_dash ho).mp z)]
      by_cases hi : i = 0
      · subst hi
        rw [if_pos (decide_eq_true (show wordO (some 0) = ("0" : Str) by decide))]
        exact q _ (Same.refl _)
      · obtain ⟨n0, c, r, e1, hc⟩ := word_zero ho hi
        rw [if_neg (by rw [decide_eq_true_eq]; exact n0)]
        refine ⟨sz100 (by omega), ?_⟩
        rw [if_pos (decide_eq_true (by omega)), if_neg (by rw [decide_eq_true (show ((wordO (some i)).length : Int) ≤ 10 by omega)]; simp)]
        refine ⟨c, sz100 (by omega), ?_, ?_⟩
        · rw [show (wordO (some i)).cps.toList = c :: r from e1]
          exact atI_nat (j := 0) rfl
        rw [if_neg (by
          rw [decide_eq_true_eq]
          intro z
          have h2 : TL.tl ({ cps := #[c] } : Str) = [c] := rfl
          have h3 : TL.tl ("0" : Str) = [48] := by decide
          rw [z, h3] at h2
          exact hc (List.cons.inj h2).1.symm)]
        intro D hD
        refine LcR.map (walk_str (z := wordO (some i))) ((List.replicate (wordO (some i)).cps.size true).map V.bl) hD (by rw [List.length_map, List.length_replicate]) (by show (wordO (some i)).length ≤ 100000; omega) (fun _ _ => trivial) (fun _ _ _ _ y => by rw [y.1]; exact Same.refl _) (fun k x y H2 H3 hk s3 yy hy R0 hR0 => ?_) (fun H3 s3 hH3 => ?_)
        · obtain ⟨rfl, d, hd, rfl⟩ := yy
          rw [List.getElem?_map, List.getElem?_replicate, if_pos hk] at hy
          cases hy
          have hd2 : d ∈ TL.tl (wordO (some i)) := by
            have h1 : (wordO (some i)).cps.toList[k]? = some d := by
              rw [Array.getElem?_toList]
              exact hd
            exact List.mem_of_getElem? h1
          walk_at "wp"
          rw [decide_eq_true (figs d (word_digits ho d hd2))]
          exact hR0 _ (Same.refl _)
        · refine ⟨_, SqL.of hH3, ?_⟩
          have e : (List.replicate (wordO (some i)).cps.size true).all id = true := by simp
          rw [e]
          exact q _ s3
abbrev s_worths_of : Stmt := top 64
theorem sc_worths_of : FnScope ["words", "word"] ["words"] (defScope s_worths_of) := ⟨rfl, rfl, rfl, by decide +kernel, rfl, by decide +kernel, by decide +kernel⟩
def optL (l : List (Option Int)) : List V := l.map optV
def spWorths (K : PySem.W.Frag) : Sp := fun vs H Q _ => ∃ (a : Addr) (l : List (Option Int)), vs = [.ref a] ∧ SqL K H a ((l.map wordO).map V.str) ∧ (∀ o ∈ l, WO o) ∧ l.length ≤ 100 ∧ ∀ H' p, Same H H' → H p = none → H' p = some (.lst (optL l)) → Q (.ref p) H'
theorem ok_worths_of {f : Addr} {fd : FuncData} {t1 : Tok} (F : Fun K "worths_of" "worths_of" s_worths_of f fd) (B : Bi mg) (M_NONE : mg "NONE" = some (.str "-" t1)) (D_is_written : Def P w K mg base "is_written" 1 ["word"] (spWrit K)) : FnOk P w K mg base CX0 2 f fd ["words"] (spWorths K) := by
  refine F.ok sc_worths_of (fun vs H Q E h => ?_) (fun cdv A outer s H vs Q E hr h => ?_)
  · obtain ⟨_, _, rfl, _⟩ := h
    rfl
  · obtain ⟨a, l, rfl, hs, hl, hn, q⟩ := h
    refine ⟨_, (pss_cons (ps_if (pt_not (pt_val (pe_callB (cr_all rfl) (by rfl) B.all (by decide +kernel) (pa_cons (pe_lc (own := [("word", 1)]) (g := (gName 1)) rfl sc_worths_of.nd (pi_list (pv 0)) (blkOk_by (own := [("word", 1)]) (N := ["words", "word"]) (sc := defScope s_worths_of) (by decide +kernel)) (fun _ _ _ _ _ => (pg_name (i := 1) sc_worths_of.nd rfl (Or.inl rfl))) (fun _ _ _ _ _ => pts_nil) (fun _ _ _ _ _ => (pe_callD D_is_written hr (by rfl) (pa_cons (pv 1) pa_nil)))) pa_nil)))) (pss_one (ps_ret (pe_lst pa_nil))) pss_nil)
 (pss_one (ps_ret (pe_lc (own := [("word", 1)]) (g := (gName 1)) (te := (tIf _ _ (tCB _ _))) rfl sc_worths_of.nd (pi_list (pv 0)) (blkOk_by (own := [("word", 1)]) (N := ["words", "word"]) (sc := defScope s_worths_of) (by decide +kernel)) (fun _ _ _ _ _ => (pg_name (i := 1) sc_worths_of.nd rfl (Or.inl rfl))) (fun _ _ _ _ _ => pts_nil) (fun _ _ _ _ _ => (pe_ifExp (pt_cmpR op_eq (pv 1) (pe_globS rfl M_NONE) (nomark _)) pe_non (pe_callTy call_intS (by rfl) B.int (by decide +kernel) (pa_cons (pv 1) pa_nil)))))))), ?_⟩
    walk_at "wp"
    refine ⟨⟨_, hs⟩, fun D hD => ?_⟩
    refine LcR.map (walk_list (xs := (l.map wordO).map V.str)) ((List.replicate l.length true).map V.bl) hD (by simp) (by simp; omega) (fun H s => s.seq hs) (fun _ _ _ _ y => yat_same y) (fun i x y H2 H3 hi s3 yy hy R0 hR0 => ?_) (fun H3 s3 hH3 => ?_)
    · obtain ⟨rfl, hxi⟩ := yy
      rw [List.length_map, List.length_map] at hi
      rw [List.getElem?_map, List.getElem?_map, List.getElem?_eq_getElem hi] at hxi
      rw [List.getElem?_map, List.getElem?_replicate, if_pos hi] at hy
      cases hxi
      cases hy
      walk_at "wp"
      exact ⟨_, rfl, hl _ (List.getElem_mem hi), fun H4 s4 => hR0 _ s4⟩
    · refine ⟨_, SqL.of hH3, ?_⟩
      have e : (List.replicate l.length true).all id = true := by simp
      rw [e]
      walk_at "wp"
      refine ⟨⟨_, s3.seq hs⟩, fun D2 hD2 => ?_⟩
      refine LcR.map (walk_list (xs := (l.map wordO).map V.str)) (optL l) hD2 (by simp [optL]) (by simp; omega) (fun H s => (s3.trans s).seq hs) (fun _ _ _ _ y => yat_same y) (fun i x y H5 H6 hi s6 yy hy R0 hR0 => ?_) (fun H6 s6 hH6 => ?_)
      · obtain ⟨rfl, hxi⟩ := yy
        rw [List.length_map, List.length_map] at hi
        unfold optL at hy
        rw [List.getElem?_map, List.getElem?_map, List.getElem?_eq_getElem hi] at hxi
        rw [List.getElem?_map, List.getElem?_eq_getElem hi] at hy
        cases hxi
        cases hy
        have ho := hl _ (List.getElem_mem hi)
        generalize l[i] = o at ho hR0 ⊢
        walk_at "wp"
        cases o with
        | none =>
          rw [if_pos (decide_eq_true (show wordO none = ("-" : Str) from rfl))]
          exact hR0 _ (Same.refl _)
        | some i =>
          rw [if_neg (by rw [decide_eq_true_eq]; intro z; cases (word_dash ho).mp z)]
          exact ⟨i, word_int ho, by have := (len_word ho).2; omega, hR0 _ (Same.refl _)⟩
      · exact q _ D2 (s3.trans s6) (s3.free hD2) hH6
abbrev s_worths_behind : Stmt := top 65
theorem sc_worths_behind : FnScope ["head", "row", "words"] ["head", "row"] (defScope s_worths_behind) := ⟨rfl, rfl, rfl, by decide +kernel, rfl, by decide +kernel, by decide +kernel⟩
/-- what a row tells behind its head -/
def Told70 (hd row : Str) (l : List (Option Int)) : Prop := row.length ≤ 10000 ∧ ((Txt.split row " " = hd :: l.map wordO ∧ (∀ o ∈ l, WO o) ∧ l.length ≤ 100) ∨ (∃ w r, Txt.split row " " = w :: r ∧ w ≠ hd ∧ l = []))
def spBehind (K : PySem.W.Frag) : Sp := fun vs H Q _ => ∃ (hd row : Str) (l : List (Option Int)), vs = [.str hd, .str row] ∧ Told70 hd row l ∧ ∀ H' p, Same H H' → H p = none → H' p = some (.lst (optL l)) → Q (.ref p) H'
theorem ok_worths_behind {f : Addr} {fd : FuncData} (F : Fun K "worths_behind" "worths_behind" s_worths_behind f fd) (B : Bi mg) (D_worths_of : Def P w K mg base "worths_of" 2 ["words"] (spWorths K)) : FnOk P w K mg base CX0 3 f fd ["head", "row"] (spBehind K) := by
  refine F.ok sc_worths_behind (fun vs H Q E h => ?_) (fun cdv A outer s H vs Q E hr h => ?_)
  · obtain ⟨_, _, _, rfl, _⟩ := h
    rfl
  · obtain ⟨hd, row, l, rfl, ⟨hlen, hT⟩, q⟩ := h
    refine ⟨_, (pss_cons (ps_set (i := 2) sc_worths_behind.nd rfl (Or.inl rfl) (pe_splitS (pv 1) pe_str))
 (pss_one (ps_ret (pe_ifExp (pt_cmpR op_eq (pe_ix ix_list (pv 2) pe_int (fun _ _ => rfl)) (pv 0) (nomark _)) (pe_callD D_worths_of hr (by rfl) (pa_cons (pe_slice sl_list (pv 2) (po_some pe_int) po_none) pa_nil)) (pe_lst pa_nil))))), ?_⟩
    walk_at "wp"
    refine ⟨⟨_, rfl⟩, by decide, sz100 (by omega), fun p1 hp1 => ?_⟩
    rcases hT with ⟨e, hl, hn⟩ | ⟨w1, r, e, hne, rfl⟩
    · rw [e]
      have S1 := same_upd (o := .lst ((hd :: l.map wordO).map V.str)) hp1
      have E1 : upd H p1 (.lst ((hd :: l.map wordO).map V.str)) p1 = some (.lst ((hd :: l.map wordO).map V.str)) := upd_same
      generalize upd H p1 (.lst ((hd :: l.map wordO).map V.str)) = H1 at S1 E1 ⊢
      refine ⟨_, _, SqL.of E1, atI_nat (j := 0) rfl, ?_⟩
      walk_at "wp"
      refine ⟨_, SqL.of E1, fun p2 hp2 => ?_⟩
      rw [show cutV ((hd :: l.map wordO).map V.str) (some 1) none = (l.map wordO).map V.str from cutV_from _ 1]
      have S2 := same_upd (o := .lst ((l.map wordO).map V.str)) hp2
      exact ⟨_, l, rfl, SqL.of upd_same, hl, hn, fun H3 p3 S3 hp3 e3 => q _ _ (S1.trans (S2.trans S3)) ((S1.trans S2).free hp3) e3⟩
    · rw [e]
      have S1 := same_upd (o := .lst ((w1 :: r).map V.str)) hp1
      have E1 : upd H p1 (.lst ((w1 :: r).map V.str)) p1 = some (.lst ((w1 :: r).map V.str)) := upd_same
      generalize upd H p1 (.lst ((w1 :: r).map V.str)) = H1 at S1 E1 ⊢
      refine ⟨_, _, SqL.of E1, atI_nat (j := 0) rfl, ?_⟩
      walk_at "wp"
      rw [if_neg (by rw [decide_eq_true_eq]; exact hne)]
      refine ⟨Nat.zero_le _, fun p2 hp2 => ?_⟩
      exact q _ _ (S1.trans (same_upd hp2)) (S1.free hp2) upd_same
end
end Bk

namespace Bk
open PySem PySem.Spec PyProof.Rows L2
local macro_rules | `(tactic| walk_at "wp") => `(tactic| try simp only [rIntS_r, rLenS_r, rIxS_r, rInS_r, rSplit_r, iStr_eq, rNewStrs, iRng3_eq, rRng3_i, tM1, tFmt, iLT, tScT2, rSetL_r, rSetOf2_r, rSorDT_r, rSetD, tDGet2, tDGet, tDNewT, cxW, rExtend_r, rSortU_r, rSetOf_r, rSortedSet_r, rNinr_r, rNeN_r, rCatL_r, rSlT_r, rListOf_r, rIsB_b, rNotB_b, tFmtO, tJs, tOst, tCallS, WE, tRaise2, rOne_i, rSorD_r, tDNewK, Int.zero_add, tNever, tFor_eq, tLc_eq, iList, iTup, iRng1_eq, rRng1_i, iRng2_eq, rRng2_i, iEnum_eq, rEnum_r, iZip_eq, rZip_r, tSl, tPart, tNoPart, rSlL_r, rCat_r, rIn_r, rNin_r, rRepr_r, iRevR, rMin_r, rShr_i, rOdd_i, rSetL_r, gSub, rRg1_i, rRg2_i, rInr_r, tAug, ipI_ii, tLstRg, tRg1, tRg2, gTup_r, gUnl_r, rInt1_b, rInt1_i, rRep_r, tStep_r, scal, tSeq, tNext, tAsg, tRet, tRetN, tIfS, tDrop, tCB, tCons, tNil, tVar, tOp, tUn, tC, rU_i, rI_ii, rI0_ii, rEq, rNe, tTest, tB, tAnd, tOr, tNot, tAndV, tOrV, tNotV, tIf, tChain, tLst, tTup, tBM, tBM0, rAppend_r, rIxL_r, rIxT_r, rMx_ii, rMn_ii, rLnL_r, rLnT_r, rIsD_int, rIsD_bool, rIsD_list, rIsD_tuple, tCall, gName, gNil_n, gCons_c, cxK, L2.start, List.map, List.replicate, List.length_cons, List.length_nil, List.cons_append, List.nil_append, List.append_nil, List.getElem?_cons_zero, List.getElem?_cons_succ, Option.some.injEq, exists_eq_left', exists_eq_left, V.int.injEq, V.bl.injEq, V.str.injEq, V.ref.injEq, List.cons.injEq, and_true, true_and, and_self, List.set, wipe, rAll_r, rSum_r, reduceCtorEq, decide_true, decide_false, reduceIte, ite_true, ite_false, if_true, if_false, Bool.false_eq_true, Bool.not_true, Bool.not_false])
local macro_rules | `(tactic| walk_at "shaped") => `(tactic| (simp only [SeqAt.shaped, PyData.canLay0, PyData.canLayAll0, PyData.depth, PyData.depthAll]; rfl))
local macro_rules | `(tactic| walk_at "lay") => `(tactic| (simp only [PyData.canLay0, PyData.canLayAll0]; rfl))
local macro_rules | `(tactic| walk_at "wg") => `(tactic| try simp only [gName, gTup_r, gCons_c, gNil_n, cxK, List.set, List.cons.injEq, and_true, true_and, exists_eq_left', exists_eq_left, List.length_cons, List.length_nil])
section
variable {P : Program} {w : World} {K : PySem.W.Frag} {mg : Str → Option Value} {base : Heap}
abbrev s_is_oven_row : Stmt := top 66
theorem sc_is_oven_row : FnScope ["row", "worths"] ["row"] (defScope s_is_oven_row) := ⟨rfl, rfl, rfl, by decide +kernel, rfl, by decide +kernel, by decide +kernel⟩
def spOvenR (K : PySem.W.Frag) : Sp := fun vs H Q _ => ∃ row o, vs = [.str row] ∧ Told70 "oven" row [o] ∧ boundB (optD o) = true ∧ ∀ H', Same H H' → Q (.bl true) H'
theorem ok_is_oven_row {f : Addr} {fd : FuncData} {t1 : Tok} (F : Fun K "is_oven_row" "is_oven_row" s_is_oven_row f fd) (B : Bi mg) (M_OVEN : mg "OVEN" = some (.str "oven" t1)) (D_worths_behind : Def P w K mg base "worths_behind" 3 ["head", "row"] (spBehind K)) (D_is_bound : Def P w K mg base "is_bound" 3 ["thing"] (spPred K boundB)) : FnOk P w K mg base CX0 4 f fd ["row"] (spOvenR K) := by
  refine F.ok sc_is_oven_row (fun vs H Q E h => ?_) (fun cdv A outer s H vs Q E hr h => ?_)
  · obtain ⟨_, _, rfl, _⟩ := h
    rfl
  · obtain ⟨row, o, rfl, hT, hb, q⟩ := h
    refine ⟨_, (pss_cons (ps_set (i := 1) sc_is_oven_row.nd rfl (Or.inl rfl) (pe_callD D_worths_behind hr (by rfl) (pa_cons (pe_globS rfl M_OVEN) (pa_cons (pv 0) pa_nil))))
 (pss_one (ps_ret (pe_and (pe_cmpR op_eq (pe_callB call_lnL (by rfl) B.len (by decide +kernel) (pa_cons (pv 1) pa_nil)) pe_int (nomark _)) (pe_one (pe_callD D_is_bound hr (by rfl) (pa_cons (pe_ix ix_list (pv 1) pe_int (fun _ _ => rfl)) pa_nil))))))), ?_⟩
    walk_at "wp"
    refine ⟨_, _, _, rfl, hT, fun H1 p S1 _ e1 => ?_⟩
    walk_at "wp"
    refine ⟨_, SqL.of e1, ?_⟩
    rw [show ((optL [o]).length : Int) = 1 from rfl]
    walk_at "wp"
    refine ⟨_, _, SqL.of e1, atI_nat (j := 0) rfl, ?_⟩
    refine ⟨_, _, rfl, Th.optV o, fun H2 S2 => ?_⟩
    rw [hb]
    exact q _ (S1.trans S2)
abbrev s_is_lights_row : Stmt := top 67
theorem sc_is_lights_row : FnScope ["row"] ["row"] (defScope s_is_lights_row) := ⟨rfl, rfl, rfl, by decide +kernel, rfl, by decide +kernel, by decide +kernel⟩
def spLightsR (K : PySem.W.Frag) : Sp := fun vs H Q _ => ∃ row ls, vs = [.str row] ∧ Told70 "lights" row ((ls : List Int).map some) ∧ lightsB (.list (ls.map PyData.int)) = true ∧ ∀ H', Same H H' → Q (.bl true) H'
theorem optL_ints (ls : List Int) : optL (ls.map some) = ls.map V.int := by
  unfold optL
  rw [List.map_map]
  rfl
theorem ok_is_lights_row {f : Addr} {fd : FuncData} {t1 : Tok} (F : Fun K "is_lights_row" "is_lights_row" s_is_lights_row f fd) (M_LIGHTS : mg "LIGHTS" = some (.str "lights" t1)) (D_worths_behind : Def P w K mg base "worths_behind" 3 ["head", "row"] (spBehind K)) (D_are_lights : Def P w K mg base "are_lights" 3 ["thing"] (spPred K lightsB)) : FnOk P w K mg base CX0 4 f fd ["row"] (spLightsR K) := by
  refine F.ok sc_is_lights_row (fun vs H Q E h => ?_) (fun cdv A outer s H vs Q E hr h => ?_)
  · obtain ⟨_, _, rfl, _⟩ := h
    rfl
  · obtain ⟨row, ls, rfl, hT, hb, q⟩ := h
    refine ⟨_, (pss_one (ps_ret (pe_callD D_are_lights hr (by rfl) (pa_cons (pe_callD D_worths_behind hr (by rfl) (pa_cons (pe_globS rfl M_LIGHTS) (pa_cons (pv 0) pa_nil))) pa_nil)))), ?_⟩
    walk_at "wp"
    refine ⟨_, _, _, rfl, hT, fun H1 p S1 _ e1 => ?_⟩
    rw [optL_ints] at e1
    refine ⟨_, _, rfl, .lst (SqL.of e1) (ThAll.ints ls), fun H2 S2 => ?_⟩
    rw [hb]
    exact q _ (S1.trans S2)
abbrev s_is_good_row : Stmt := top 68
theorem sc_is_good_row : FnScope ["row", "worths"] ["row"] (defScope s_is_good_row) := ⟨rfl, rfl, rfl, by decide +kernel, rfl, by decide +kernel, by decide +kernel⟩
def spGoodR (K : PySem.W.Frag) : Sp := fun vs H Q _ => ∃ row l c, vs = [.str row] ∧ Told70 "good" row l ∧ ((∃ o, l = [o] ∧ lifeB (optD o) = true ∧ c = true) ∨ (l = [] ∧ c = false)) ∧ ∀ H', Same H H' → Q (.bl c) H'
theorem ok_is_good_row {f : Addr} {fd : FuncData} {t1 : Tok} (F : Fun K "is_good_row" "is_good_row" s_is_good_row f fd) (B : Bi mg) (M_GOOD : mg "GOOD" = some (.str "good" t1)) (D_worths_behind : Def P w K mg base "worths_behind" 3 ["head", "row"] (spBehind K)) (D_is_life : Def P w K mg base "is_life" 3 ["thing"] (spPred K lifeB)) : FnOk P w K mg base CX0 4 f fd ["row"] (spGoodR K) := by
  refine F.ok sc_is_good_row (fun vs H Q E h => ?_) (fun cdv A outer s H vs Q E hr h => ?_)
  · obtain ⟨_, _, _, rfl, _⟩ := h
    rfl
  · obtain ⟨row, l, c, rfl, hT, hc, q⟩ := h
    refine ⟨_, (pss_cons (ps_set (i := 1) sc_is_good_row.nd rfl (Or.inl rfl) (pe_callD D_worths_behind hr (by rfl) (pa_cons (pe_globS rfl M_GOOD) (pa_cons (pv 0) pa_nil))))
 (pss_one (ps_ret (pe_and (pe_cmpR op_eq (pe_callB call_lnL (by rfl) B.len (by decide +kernel) (pa_cons (pv 1) pa_nil)) pe_int (nomark _)) (pe_one (pe_callD D_is_life hr (by rfl) (pa_cons (pe_ix ix_list (pv 1) pe_int (fun _ _ => rfl)) pa_nil))))))), ?_⟩
    walk_at "wp"
    refine ⟨_, _, _, rfl, hT, fun H1 p S1 _ e1 => ?_⟩
    walk_at "wp"
    refine ⟨_, SqL.of e1, ?_⟩
    rcases hc with ⟨o, rfl, hb, rfl⟩ | ⟨rfl, rfl⟩
    · rw [show ((optL [o]).length : Int) = 1 from rfl]
      walk_at "wp"
      refine ⟨_, _, SqL.of e1, atI_nat (j := 0) rfl, ?_⟩
      refine ⟨_, _, rfl, Th.optV o, fun H2 S2 => ?_⟩
      rw [hb]
      exact q _ (S1.trans S2)
    · rw [show ((optL []).length : Int) = 0 from rfl]
      walk_at "wp"
      exact q _ S1
abbrev s_is_day_row : Stmt := top 69
theorem sc_is_day_row : FnScope ["row"] ["row"] (defScope s_is_day_row) := ⟨rfl, rfl, rfl, by decide +kernel, rfl, by decide +kernel, by decide +kernel⟩
def Day70 (row : Str) (d : Day) : Prop := row.length ≤ 10000 ∧ Txt.split row " " = (dayO d).map wordO ∧ (∀ o ∈ dayO d, WO o) ∧ dayB (dayD d) = true
def spDayRow (K : PySem.W.Frag) : Sp := fun vs H Q _ => ∃ row d, vs = [.str row] ∧ Day70 row d ∧ ∀ H', Same H H' → Q (.bl true) H'
theorem ok_is_day_row {f : Addr} {fd : FuncData} (F : Fun K "is_day_row" "is_day_row" s_is_day_row f fd) (B : Bi mg) (D_worths_of : Def P w K mg base "worths_of" 2 ["words"] (spWorths K)) (D_is_day : Def P w K mg base "is_day" 3 ["thing"] (spPred K dayB)) : FnOk P w K mg base CX0 4 f fd ["row"] (spDayRow K) := by
  refine F.ok sc_is_day_row (fun vs H Q E h => ?_) (fun cdv A outer s H vs Q E hr h => ?_)
  · obtain ⟨_, _, rfl, _⟩ := h
    rfl
  · obtain ⟨row, d, rfl, ⟨hlen, hsp, hW, hd⟩, q⟩ := h
    refine ⟨_, (pss_one (ps_ret (pe_callD D_is_day hr (by rfl) (pa_cons (pe_callTy call_tuple_of (by rfl) B.tuple (by decide +kernel) (pa_cons (pe_callD D_worths_of hr (by rfl) (pa_cons (pe_splitS (pv 0) pe_str) pa_nil)) pa_nil)) pa_nil)))), ?_⟩
    walk_at "wp"
    refine ⟨⟨_, rfl⟩, by decide, sz100 (by omega), fun p1 hp1 => ?_⟩
    rw [hsp]
    have S1 := same_upd (o := .lst (((dayO d).map wordO).map V.str)) hp1
    refine ⟨_, dayO d, rfl, SqL.of upd_same, hW, by show 4 ≤ 100; decide, fun H2 p2 S2 _ e2 => ?_⟩
    refine ⟨p2, _, rfl, .inl ⟨SqL.of e2, fun p3 hp3 => ?_⟩⟩
    refine ⟨_, dayD d, rfl, .tup (SqT.of upd_same) (.cons (.int _) (.cons (.int _) (.cons (.int _) (.cons (Th.optV _) .nil)))), fun H3 S3 => ?_⟩
    rw [hd]
    exact q _ (S1.trans (S2.trans ((same_upd hp3).trans S3)))
end
end Bk

namespace Bk
open PySem PySem.Spec PyProof.Rows L2
local macro_rules | `(tactic| walk_at "wp") => `(tactic| try simp only [rIntS_r, rLenS_r, rIxS_r, rInS_r, rSplit_r, iStr_eq, rNewStrs, iRng3_eq, rRng3_i, tM1, tFmt, iLT, tScT2, rSetL_r, rSetOf2_r, rSorDT_r, rSetD, tDGet2, tDGet, tDNewT, cxW, rExtend_r, rSortU_r, rSetOf_r, rSortedSet_r, rNinr_r, rNeN_r, rCatL_r, rSlT_r, rListOf_r, rIsB_b, rNotB_b, tFmtO, tJs, tOst, tCallS, WE, tRaise2, rOne_i, rSorD_r, tDNewK, Int.zero_add, tNever, tFor_eq, tLc_eq, iList, iTup, iRng1_eq, rRng1_i, iRng2_eq, rRng2_i, iEnum_eq, rEnum_r, iZip_eq, rZip_r, tSl, tPart, tNoPart, rSlL_r, rCat_r, rIn_r, rNin_r, rRepr_r, iRevR, rMin_r, rShr_i, rOdd_i, rSetL_r, gSub, rRg1_i, rRg2_i, rInr_r, tAug, ipI_ii, tLstRg, tRg1, tRg2, gTup_r, gUnl_r, rInt1_b, rInt1_i, rRep_r, tStep_r, scal, tSeq, tNext, tAsg, tRet, tRetN, tIfS, tDrop, tCB, tCons, tNil, tVar, tOp, tUn, tC, rU_i, rI_ii, rI0_ii, rEq, rNe, tTest, tB, tAnd, tOr, tNot, tAndV, tOrV, tNotV, tIf, tChain, tLst, tTup, tBM, tBM0, rAppend_r, rIxL_r, rIxT_r, rMx_ii, rMn_ii, rLnL_r, rLnT_r, rIsD_int, rIsD_bool, rIsD_list, rIsD_tuple, tCall, gName, gNil_n, gCons_c, cxK, L2.start, List.map, List.replicate, List.length_cons, List.length_nil, List.cons_append, List.nil_append, List.append_nil, List.getElem?_cons_zero, List.getElem?_cons_succ, Option.some.injEq, exists_eq_left', exists_eq_left, V.int.injEq, V.bl.injEq, V.str.injEq, V.ref.injEq, List.cons.injEq, and_true, true_and, and_self, List.set, wipe, rAll_r, rSum_r, reduceCtorEq, decide_true, decide_false, reduceIte, ite_true, ite_false, if_true, if_false, Bool.false_eq_true, Bool.not_true, Bool.not_false])
local macro_rules | `(tactic| walk_at "shaped") => `(tactic| (simp only [SeqAt.shaped, PyData.canLay0, PyData.canLayAll0, PyData.depth, PyData.depthAll]; rfl))
local macro_rules | `(tactic| walk_at "lay") => `(tactic| (simp only [PyData.canLay0, PyData.canLayAll0]; rfl))
local macro_rules | `(tactic| walk_at "wg") => `(tactic| try simp only [gName, gTup_r, gCons_c, gNil_n, cxK, List.set, List.cons.injEq, and_true, true_and, exists_eq_left', exists_eq_left, List.length_cons, List.length_nil])
section
variable {P : Program} {w : World} {K : PySem.W.Frag} {mg : Str → Option Value} {base : Heap}
abbrev s_rows_per_good : Stmt := top 70
theorem sc_rows_per_good : FnScope ["rows"] ["rows"] (defScope s_rows_per_good) := ⟨rfl, rfl, rfl, by decide +kernel, rfl, by decide +kernel, by decide +kernel⟩
theorem str_len (a b : Str) : (a ++ b).length = a.length + b.length := by rw [TL.len_tl, TL.len_tl, TL.len_tl, TL.tl_append, List.length_append]
theorem oven_told {b : Bak} (h : WB b) : Told70 "oven" ("oven " ++ wordO b.bound) [b.bound] := by
  have := word_len h.bd.sm
  refine ⟨by rw [str_len, show ("oven " : Str).length = 5 by decide]; omega, .inl ⟨split_oven _ h.bd, fun o ho => by rw [List.mem_singleton.mp ho]; exact h.bd, by show 1 ≤ 100; decide⟩⟩
theorem lights_told {b : Bak} (h : WB b) (h1 : 1 ≤ b.lights.length) (h2 : b.lights.length ≤ 40) : Told70 "lights" ("lights " ++ rowO (b.lights.map some)) (b.lights.map some) := by
  have hw : ∀ o ∈ b.lights.map some, WO o := fun o ho => by
    obtain ⟨z, hz, rfl⟩ := List.mem_map.mp ho
    exact h.li z hz
  have := row_len fun o ho => (hw o ho).sm
  rw [List.length_map] at this
  refine ⟨by rw [str_len, show ("lights " : Str).length = 7 by decide]; omega, .inl ⟨split_lights (fun z => by rw [List.map_eq_nil_iff] at z; rw [z] at h1; simp at h1) hw, hw, by rw [List.length_map]; omega⟩⟩
theorem good_told {o : Option Int} (h : WO o) : Told70 "good" ("good " ++ wordO o) [o] := by
  have := word_len h.sm
  refine ⟨by rw [str_len, show ("good " : Str).length = 5 by decide]; omega, .inl ⟨split_good _ h, fun x hx => by rw [List.mem_singleton.mp hx]; exact h, by show 1 ≤ 100; decide⟩⟩
theorem none_told : Told70 "good" "" [] := ⟨by decide, .inr ⟨"", [], split_none, by decide, rfl⟩⟩
theorem day_told {d : Day} (h : ∀ o ∈ dayO d, WO o) (hd : dayB (dayD d) = true) : Day70 (rowO (dayO d)) d := by
  have := row_len fun o ho => (h o ho).sm
  refine ⟨?_, split_row (List.cons_ne_nil _ _) h, h, hd⟩
  rw [show (dayO d).length = 4 from rfl] at this
  omega
def spRpg (K : PySem.W.Frag) : Sp := fun vs H Q _ => ∃ (a : Addr) (rs : List Str) (row : Str) (l : List (Option Int)), vs = [.ref a] ∧ SqL K H a (rs.map V.str) ∧ rs[1]? = some row ∧ Told70 "lights" row l ∧ ∀ H', Same H H' → Q (.int (1 + (l.length : Int))) H'
theorem ok_rows_per_good {f : Addr} {fd : FuncData} {t1 : Tok} (F : Fun K "rows_per_good" "rows_per_good" s_rows_per_good f fd) (B : Bi mg) (M_LIGHTS : mg "LIGHTS" = some (.str "lights" t1)) (D_worths_behind : Def P w K mg base "worths_behind" 3 ["head", "row"] (spBehind K)) : FnOk P w K mg base CX0 4 f fd ["rows"] (spRpg K) := by
  refine F.ok sc_rows_per_good (fun vs H Q E h => ?_) (fun cdv A outer s H vs Q E hr h => ?_)
  · obtain ⟨_, _, _, _, rfl, _⟩ := h
    rfl
  · obtain ⟨a, rs, row, l, rfl, hs, h1, hT, q⟩ := h
    refine ⟨_, (pss_one (ps_ret (pe_op op_add pe_int (pe_callB call_lnL (by rfl) B.len (by decide +kernel) (pa_cons (pe_callD D_worths_behind hr (by rfl) (pa_cons (pe_globS rfl M_LIGHTS) (pa_cons (pe_ix ix_list (pv 0) pe_int (fun _ _ => rfl)) pa_nil))) pa_nil))))), ?_⟩
    walk_at "wp"
    refine ⟨_, _, hs, atI_nat (j := 1) (by rw [List.getElem?_map, h1]; rfl), ?_⟩
    refine ⟨_, _, _, rfl, hT, fun H1 p S1 _ e1 => ?_⟩
    walk_at "wp"
    refine ⟨_, SqL.of e1, ?_⟩
    rw [show (optL l).length = l.length from List.length_map ..]
    exact q _ S1
abbrev s_is_bakery_row : Stmt := top 71
theorem sc_is_bakery_row : FnScope ["rows", "at", "many"] ["rows", "at"] (defScope s_is_bakery_row) := ⟨rfl, rfl, rfl, by decide +kernel, rfl, by decide +kernel, by decide +kernel⟩
theorem bak_lights {b : Bak} (hb : bakB (bakD b) = true) : lightsB (.list (b.lights.map PyData.int)) = true := by
  simp only [bakD, bakB, bakFormB, Bool.and_eq_true] at hb
  exact hb.1.1.1
def spBakRow (K : PySem.W.Frag) : Sp := fun vs H Q _ => ∃ (a : Addr) (b : Bak) (ex : List Str) (i : Nat), vs = [.ref a, .int (i : Int)] ∧ SqL K H a ((bakRows b ++ ex).map V.str) ∧ bakB (bakD b) = true ∧ (ex = [] ∨ ex = [("" : Str)]) ∧ i < (bakRows b ++ ex).length ∧ ∀ H', Same H H' → Q (.bl (decide (i < (bakRows b).length))) H'
theorem ok_is_bakery_row {f : Addr} {fd : FuncData} {t1 t2 : Tok} (F : Fun K "is_bakery_row" "is_bakery_row" s_is_bakery_row f fd) (M_HEAD_ROWS : mg "HEAD_ROWS" = some (.int 2 t1)) (M_MOST_GOODS : mg "MOST_GOODS" = some (.int 2 t2)) (D_is_oven_row : Def P w K mg base "is_oven_row" 4 ["row"] (spOvenR K)) (D_is_lights_row : Def P w K mg base "is_lights_row" 4 ["row"] (spLightsR K)) (D_rows_per_good : Def P w K mg base "rows_per_good" 4 ["rows"] (spRpg K)) (D_is_good_row : Def P w K mg base "is_good_row" 4 ["row"] (spGoodR K)) (D_is_day_row : Def P w K mg base "is_day_row" 4 ["row"] (spDayRow K)) : FnOk P w K mg base CX0 5 f fd ["rows", "at"] (spBakRow K) := by
  refine F.ok sc_is_bakery_row (fun vs H Q E h => ?_) (fun cdv A outer s H vs Q E hr h => ?_)
  · obtain ⟨_, _, _, _, rfl, _⟩ := h
    rfl
  · obtain ⟨a, b, ex, i, rfl, hs, hb, hex, hi, q⟩ := h
    refine ⟨_, (pss_cons (ps_if (pt_cmpR op_eq (pv 1) pe_int (nomark _)) (pss_one (ps_ret (pe_callD D_is_oven_row hr (by rfl) (pa_cons (pe_ix ix_list (pv 0) (pv 1) (fun _ _ => rfl)) pa_nil)))) pss_nil)
 (pss_cons (ps_if (pt_cmpR op_eq (pv 1) pe_int (nomark _)) (pss_one (ps_ret (pe_callD D_is_lights_row hr (by rfl) (pa_cons (pe_ix ix_list (pv 0) (pv 1) (fun _ _ => rfl)) pa_nil)))) pss_nil)
 (pss_cons (ps_set (i := 2) sc_is_bakery_row.nd rfl (Or.inl rfl) (pe_callD D_rows_per_good hr (by rfl) (pa_cons (pv 0) pa_nil)))
 (pss_cons (ps_if (pt_cmpR op_ge (pv 1) (pe_op op_add (pe_globI rfl M_HEAD_ROWS) (pe_op op_mul (pe_globI rfl M_MOST_GOODS) (pv 2))) (nomark _)) (pss_one (ps_ret pe_bl)) pss_nil)
 (pss_one (ps_ret (pe_ifExp (pt_cmpR op_eq (pe_op op_mod (pe_op op_sub (pv 1) (pe_globI rfl M_HEAD_ROWS)) (pv 2)) pe_int (nomark _)) (pe_callD D_is_good_row hr (by rfl) (pa_cons (pe_ix ix_list (pv 0) (pv 1) (fun _ _ => rfl)) pa_nil)) (pe_callD D_is_day_row hr (by rfl) (pa_cons (pe_ix ix_list (pv 0) (pv 1) (fun _ _ => rfl)) pa_nil))))))))), ?_⟩
    have hW := WB.of hb
    obtain ⟨⟨c1, c2⟩, c3, c4, ⟨c5, c6⟩, c7⟩ := bak_parts hb
    have hgl : ∀ g ∈ b.goods, g.days.length = b.lights.length := fun g hg => (c7 g hg).1
    have hsz := bakRows_size hgl
    have hat : ∀ j, j < (bakRows b).length → (bakRows b ++ ex)[j]? = (bakRows b)[j]? := fun j hj => List.getElem?_append_left hj
    walk_at "wp"
    by_cases h0 : i = 0
    · subst h0
      rw [if_pos (decide_eq_true (by omega))]
      refine ⟨_, _, hs, atI_nat (j := 0) rfl, ?_⟩
      rw [decide_eq_true (show 0 < (bakRows b).length by omega)] at q
      exact ⟨_, b.bound, rfl, oven_told hW, c4, q⟩
    · rw [if_neg (by rw [decide_eq_true_eq]; omega)]
      by_cases h1 : i = 1
      · subst h1
        rw [if_pos (decide_eq_true (by omega))]
        refine ⟨_, _, hs, atI_nat (j := 1) rfl, ?_⟩
        rw [decide_eq_true (show 1 < (bakRows b).length by omega)] at q
        exact ⟨_, b.lights, rfl, lights_told hW c1 c2, bak_lights hb, q⟩
      · rw [if_neg (by rw [decide_eq_true_eq]; omega)]
        refine ⟨a, _, _, _, rfl, hs, rfl, lights_told hW c1 c2, fun H1 S1 => ?_⟩
        rw [List.length_map]
        walk_at "wp"
        refine ⟨.inl ⟨by decide, by decide⟩, ?_⟩
        generalize b.lights.length = n at *
        by_cases h2 : 2 + 2 * (1 + n) ≤ i
        · rw [if_pos (decide_eq_true (by omega))]
          have hlast : ¬ i < (bakRows b).length := by
            have : b.goods.length * (n + 1) ≤ 2 * (n + 1) := Nat.mul_le_mul_right _ c6
            omega
          rw [decide_eq_false hlast] at q
          exact q _ S1
        · rw [if_neg (by rw [decide_eq_true_eq]; omega)]
          walk_at "wp"
          obtain ⟨k, hk⟩ : ∃ k, i = 2 + k := ⟨i - 2, by omega⟩
          have hmod := Nat.mod_lt k (show 0 < n + 1 by omega)
          have hdiv := Nat.div_add_mod k (n + 1)
          have hmi : ((i : Int) - 2) % (1 + (n : Int)) = ((k % (n + 1) : Nat) : Int) := by
            rw [show ((i : Int) - 2) = (k : Int) by omega, show (1 + (n : Int)) = ((n + 1 : Nat) : Int) by omega, Int.natCast_emod]
          refine ⟨by omega, ?_⟩
          rw [hmi]
          walk_at "wp"
          have hrow : ∀ row : Str, (bakRows b ++ ex)[i]? = some row → atI ((bakRows b ++ ex).map V.str) (i : Int) = some (.str row) := fun row e => atI_nat (by rw [List.getElem?_map, e]; rfl)
          by_cases hin : i < (bakRows b).length
          · have hgi : k / (n + 1) < b.goods.length := by
              rw [hsz] at hin
              have : k < b.goods.length * (n + 1) := by omega
              exact (Nat.div_lt_iff_lt_mul (by omega)).mpr this
            have hr := bakRows_good hgl hgi hmod
            rw [show 2 + (k / (n + 1) * (n + 1) + k % (n + 1)) = i by rw [Nat.mul_comm]; omega] at hr
            have hgm := List.getElem_mem hgi
            obtain ⟨w1, w2⟩ := hW.go _ hgm
            obtain ⟨k1, k2, k3⟩ := c7 _ hgm
            generalize b.goods[k / (n + 1)] = g at *
            rw [decide_eq_true hin] at q
            by_cases hr0 : k % (n + 1) = 0
            · rw [if_pos (decide_eq_true (by omega))]
              rw [hr0] at hr
              refine ⟨_, _, S1.seq hs, hrow _ (by rw [hat i hin, hr]; rfl), ?_⟩
              exact ⟨_, [g.life], true, rfl, good_told w1, .inl ⟨g.life, rfl, k2, rfl⟩, fun H2 S2 => q _ (S1.trans S2)⟩
            · rw [if_neg (by rw [decide_eq_true_eq]; omega)]
              obtain ⟨r, hrr⟩ : ∃ r, k % (n + 1) = r + 1 := ⟨k % (n + 1) - 1, by omega⟩
              rw [hrr] at hr
              have hrl : r < g.days.length := by rw [k1]; omega
              have hd : (goodRows g)[r + 1]? = some (rowO (dayO g.days[r])) := by
                unfold goodRows
                rw [List.getElem?_cons_succ, List.getElem?_map, List.getElem?_eq_getElem hrl]
                rfl
              refine ⟨_, _, S1.seq hs, hrow _ (by rw [hat i hin, hr, hd]), ?_⟩
              have hdm := List.getElem_mem hrl
              exact ⟨_, g.days[r], rfl, day_told (w2 _ hdm) (k3 _ hdm), fun H2 S2 => q _ (S1.trans S2)⟩
          · rw [decide_eq_false hin] at q
            have hend : i = (bakRows b).length ∧ ex = [("" : Str)] := by
              rcases hex with rfl | rfl
              · rw [List.append_nil] at hi
                exact absurd hi hin
              · rw [List.length_append] at hi
                exact ⟨by simp at hi; omega, rfl⟩
            have hr0 : k % (n + 1) = 0 := by
              have : k = b.goods.length * (n + 1) := by omega
              rw [this, Nat.mul_mod_left]
            rw [if_pos (decide_eq_true (by omega))]
            refine ⟨_, _, S1.seq hs, hrow "" (by rw [hend.2, hend.1, List.getElem?_append_right (Nat.le_refl _), Nat.sub_self]; rfl), ?_⟩
            exact ⟨_, [], false, rfl, none_told, .inr ⟨rfl, rfl⟩, fun H2 S2 => q _ (S1.trans S2)⟩
abbrev s_is_ended : Stmt := top 72
theorem sc_is_ended : FnScope ["rows"] ["rows"] (defScope s_is_ended) := ⟨rfl, rfl, rfl, by decide +kernel, rfl, by decide +kernel, by decide +kernel⟩
def spEnded (K : PySem.W.Frag) : Sp := fun vs H Q _ => ∃ (a : Addr) (b : Bak), vs = [.ref a] ∧ SqL K H a ((bakRows b).map V.str) ∧ bakB (bakD b) = true ∧ ∀ H', Same H H' → Q (.bl true) H'
theorem ok_is_ended {f : Addr} {fd : FuncData} {t1 : Tok} (F : Fun K "is_ended" "is_ended" s_is_ended f fd) (B : Bi mg) (M_HEAD_ROWS : mg "HEAD_ROWS" = some (.int 2 t1)) (D_rows_per_good : Def P w K mg base "rows_per_good" 4 ["rows"] (spRpg K)) : FnOk P w K mg base CX0 5 f fd ["rows"] (spEnded K) := by
  refine F.ok sc_is_ended (fun vs H Q E h => ?_) (fun cdv A outer s H vs Q E hr h => ?_)
  · obtain ⟨_, _, rfl, _⟩ := h
    rfl
  · obtain ⟨a, b, rfl, hs, hb, q⟩ := h
    refine ⟨_, (pss_one (ps_ret (pe_and (pe_cmpR op_gt (pe_callB call_lnL (by rfl) B.len (by decide +kernel) (pa_cons (pv 0) pa_nil)) (pe_globI rfl M_HEAD_ROWS) (nomark _)) (pe_one (pe_cmpR op_eq (pe_op op_mod (pe_op op_sub (pe_callB call_lnL (by rfl) B.len (by decide +kernel) (pa_cons (pv 0) pa_nil)) (pe_globI rfl M_HEAD_ROWS)) (pe_callD D_rows_per_good hr (by rfl) (pa_cons (pv 0) pa_nil))) pe_int (nomark _)))))), ?_⟩
    have hW := WB.of hb
    obtain ⟨⟨c1, c2⟩, c3, c4, ⟨c5, c6⟩, c7⟩ := bak_parts hb
    have hsz := bakRows_size (b := b) (n := b.lights.length) fun g hg => (c7 g hg).1
    walk_at "wp"
    refine ⟨_, hs, ?_⟩
    rw [List.length_map, hsz]
    have hpos : 0 < b.goods.length * (b.lights.length + 1) := Nat.mul_pos (by omega) (by omega)
    rw [if_pos (decide_eq_true (by omega))]
    refine ⟨_, hs, a, _, _, _, rfl, hs, rfl, lights_told hW c1 c2, fun H1 S1 => ?_⟩
    rw [List.length_map, List.length_map, hsz]
    walk_at "wp"
    refine ⟨by omega, ?_⟩
    rw [show (((2 + b.goods.length * (b.lights.length + 1) : Nat) : Int) - 2) % (1 + (b.lights.length : Int)) = 0 by
      rw [show (((2 + b.goods.length * (b.lights.length + 1) : Nat) : Int) - 2) = ((b.goods.length * (b.lights.length + 1) : Nat) : Int) by omega, show (1 + (b.lights.length : Int)) = ((b.lights.length + 1 : Nat) : Int) by omega, ← Int.natCast_emod, Nat.mul_mod_left]
      rfl]
    walk_at "wp"
    exact q _ S1
end
end Bk

namespace Bk
open PySem PySem.Spec PyProof.Rows L2
local macro_rules | `(tactic| walk_at "wp") => `(tactic| try simp only [rIntS_r, rLenS_r, rIxS_r, rInS_r, rSplit_r, iStr_eq, rNewStrs, iRng3_eq, rRng3_i, tM1, tFmt, iLT, tScT2, rSetL_r, rSetOf2_r, rSorDT_r, rSetD, tDGet2, tDGet, tDNewT, cxW, rExtend_r, rSortU_r, rSetOf_r, rSortedSet_r, rNinr_r, rNeN_r, rCatL_r, rSlT_r, rListOf_r, rIsB_b, rNotB_b, tFmtO, tJs, tOst, tCallS, WE, tRaise2, rOne_i, rSorD_r, tDNewK, Int.zero_add, tNever, tFor_eq, tLc_eq, iList, iTup, iRng1_eq, rRng1_i, iRng2_eq, rRng2_i, iEnum_eq, rEnum_r, iZip_eq, rZip_r, tSl, tPart, tNoPart, rSlL_r, rCat_r, rIn_r, rNin_r, rRepr_r, iRevR, rMin_r, rShr_i, rOdd_i, rSetL_r, gSub, rRg1_i, rRg2_i, rInr_r, tAug, ipI_ii, tLstRg, tRg1, tRg2, gTup_r, gUnl_r, rInt1_b, rInt1_i, rRep_r, tStep_r, scal, tSeq, tNext, tAsg, tRet, tRetN, tIfS, tDrop, tCB, tCons, tNil, tVar, tOp, tUn, tC, rU_i, rI_ii, rI0_ii, rEq, rNe, tTest, tB, tAnd, tOr, tNot, tAndV, tOrV, tNotV, tIf, tChain, tLst, tTup, tBM, tBM0, rAppend_r, rIxL_r, rIxT_r, rMx_ii, rMn_ii, rLnL_r, rLnT_r, rIsD_int, rIsD_bool, rIsD_list, rIsD_tuple, tCall, gName, gNil_n, gCons_c, cxK, L2.start, List.map, List.replicate, List.length_cons, List.length_nil, List.cons_append, List.nil_append, List.append_nil, List.getElem?_cons_zero, List.getElem?_cons_succ, Option.some.injEq, exists_eq_left', exists_eq_left, V.int.injEq, V.bl.injEq, V.str.injEq, V.ref.injEq, List.cons.injEq, and_true, true_and, and_self, List.set, wipe, rAll_r, rSum_r, reduceCtorEq, decide_true, decide_false, reduceIte, ite_true, ite_false, if_true, if_false, Bool.false_eq_true, Bool.not_true, Bool.not_false])
local macro_rules | `(tactic| walk_at "shaped") => `(tactic| (simp only [SeqAt.shaped, PyData.canLay0, PyData.canLayAll0, PyData.depth, PyData.depthAll]; rfl))
local macro_rules | `(tactic| walk_at "lay") => `(tactic| (simp only [PyData.canLay0, PyData.canLayAll0]; rfl))
local macro_rules | `(tactic| walk_at "wg") => `(tactic| try simp only [gName, gTup_r, gCons_c, gNil_n, cxK, List.set, List.cons.injEq, and_true, true_and, exists_eq_left', exists_eq_left, List.length_cons, List.length_nil])
section
variable {P : Program} {w : World} {K : PySem.W.Frag} {mg : Str → Option Value} {base : Heap}
abbrev s_rows_of : Stmt := top 73
theorem sc_rows_of : FnScope ["text"] ["text"] (defScope s_rows_of) := ⟨rfl, rfl, rfl, by decide +kernel, rfl, by decide +kernel, by decide +kernel⟩
def spRowsOf (K : PySem.W.Frag) : Sp := fun vs H Q _ => ∃ z : Str, vs = [.str z] ∧ z ≠ "" ∧ z.length ≤ 99000 ∧ ∀ H' p, Same H H' → H p = none → H' p = some (.lst ((Txt.split z "\n").map V.str)) → Q (.ref p) H'
theorem ok_rows_of {f : Addr} {fd : FuncData} (F : Fun K "rows_of" "rows_of" s_rows_of f fd) (B : Bi mg) (Bq : mg "str" = none) : FnOk P w K mg base CX0 1 f fd ["text"] (spRowsOf K) := by
  refine F.ok sc_rows_of (fun vs H Q E h => ?_) (fun cdv A outer s H vs Q E hr h => ?_)
  · obtain ⟨_, rfl, _⟩ := h
    rfl
  · obtain ⟨z, rfl, hz, hlen, q⟩ := h
    refine ⟨_, (pss_cons (ps_if (pt_not (pt_val (pe_callB (call_isD .str) (by rfl) B.isinstance (by decide +kernel) (pa_cons (pv 0) (pa_cons (pe_bltn (v := .ty "str") (by rfl) Bq (by decide +kernel) rfl) pa_nil))))) (pss_one ps_never) pss_nil)
 (pss_one (ps_ret (pe_ifExp (pt_cmpR op_eq (pv 0) pe_str (nomark _)) (pe_lst pa_nil) (pe_splitS (pv 0) pe_str))))), ?_⟩
    walk_at "wp"
    refine ⟨_, .str z, rfl, .str z, true, rfl, ?_⟩
    rw [if_neg (by simp), if_neg (by rw [decide_eq_true_eq]; exact hz)]
    refine ⟨⟨_, rfl⟩, by decide, sz100 (by omega), fun p hp => ?_⟩
    exact q _ p (same_upd hp) hp upd_same
abbrev s_read_good : Stmt := top 74
theorem sc_read_good : FnScope ["rows", "days", "row"] ["rows"] (defScope s_read_good) := ⟨rfl, rfl, rfl, by decide +kernel, rfl, by decide +kernel, by decide +kernel⟩
structure GoodW (g : Good) : Prop where
  life : WO g.life
  days : ∀ d ∈ g.days, (∀ o ∈ dayO d, WO o) ∧ dayB (dayD d) = true
  len : g.days.length ≤ 40
def spRGood (K : PySem.W.Frag) : Sp := fun vs H Q _ => ∃ (a : Addr) (g : Good), vs = [.ref a] ∧ SqL K H a ((goodRows g).map V.str) ∧ GoodW g ∧ ∀ H' t D, Same H H' → H t = none → H D = none → OwnG H' (t, D) g → Q (.ref t) H'
theorem tk_snoc {H : Hp} {x : V} {e : PyData} : ∀ {vs : List V} {ds : List PyData}, TkAll H vs ds → Tk H x e → TkAll H (vs ++ [x]) (ds ++ [e])
  | _, _, .nil, h => .cons h .nil
  | _, _, .cons h t, h2 => .cons h (tk_snoc t h2)
theorem ok_read_good {f : Addr} {fd : FuncData} {t1 : Tok} (F : Fun K "read_good" "read_good" s_read_good f fd) (B : Bi mg) (M_GOOD : mg "GOOD" = some (.str "good" t1)) (D_worths_of : Def P w K mg base "worths_of" 2 ["words"] (spWorths K)) (D_worths_behind : Def P w K mg base "worths_behind" 3 ["head", "row"] (spBehind K)) : FnOk P w K mg base CX0 4 f fd ["rows"] (spRGood K) := by
  refine F.ok sc_read_good (fun vs H Q E h => ?_) (fun cdv A outer s H vs Q E hr h => ?_)
  · obtain ⟨_, _, rfl, _⟩ := h
    rfl
  · obtain ⟨a, g, rfl, hs, hg, q⟩ := h
    refine ⟨_, (pss_cons (ps_setLc (i := 1) (own := [("row", 2)]) (g := (gName 2)) (te := (tCB _ _)) rfl sc_read_good.nd rfl rfl (sw_true rfl rfl rfl (by decide +kernel)) (pi_list (pe_slice sl_list (pv 0) (po_some pe_int) po_none)) (blkOk_by (own := [("row", 2)]) (N := ["rows", "days", "row"]) (sc := defScope s_read_good) (by decide +kernel)) (fun _ _ _ _ _ => (pg_name (i := 2) sc_read_good.nd rfl (Or.inl rfl))) (fun _ _ _ _ _ => pts_nil) (fun _ _ _ _ _ => (pe_callTy (call_tupOfK (K := K) rfl) (by rfl) B.tuple (by decide +kernel) (pa_cons (pe_callD D_worths_of hr (by rfl) (pa_cons (pe_splitS (pv 2) pe_str) pa_nil)) pa_nil))))
 (pss_one (ps_ret (pe_tup (pa_cons (pv 1) (pa_cons (pe_ix ix_list (pe_callD D_worths_behind hr (by rfl) (pa_cons (pe_globS rfl M_GOOD) (pa_cons (pe_ix ix_list (pv 0) pe_int (fun _ _ => rfl)) pa_nil))) pe_int (fun _ _ => rfl)) pa_nil)))))), ?_⟩
    walk_at "wp"
    refine ⟨_, hs, fun p1 hp1 => ?_⟩
    have ecut : cutV ((goodRows g).map V.str) (some 1) none = (g.days.map fun d => rowO (dayO d)).map V.str := cutV_from _ 1
    rw [ecut]
    have S1 := same_upd (o := .lst ((g.days.map fun d => rowO (dayO d)).map V.str)) hp1
    have E1 : upd H p1 (.lst ((g.days.map fun d => rowO (dayO d)).map V.str)) p1 = some (.lst ((g.days.map fun d => rowO (dayO d)).map V.str)) := upd_same
    generalize upd H p1 (.lst ((g.days.map fun d => rowO (dayO d)).map V.str)) = H1 at S1 E1 ⊢
    refine ⟨⟨_, SqL.of E1⟩, fun D hD => ?_⟩
    refine LcR.by (walk_list (xs := (g.days.map fun d => rowO (dayO d)).map V.str)) (fun i H' => Same H1 H' ∧ ∃ xs, H' D = some (.lst xs) ∧ xs.length = i ∧ TkAll (tupsOf H') xs ((g.days.take i).map dayD)) ⟨same_upd hD, [], upd_same, rfl, .nil⟩ (fun i H' _ h => SqL.of (h.1 _ _ E1)) (fun i v H0 H2 hi hI yy => ?_) (fun H2 hI => ?_)
    · obtain ⟨rfl, hxi⟩ := yy
      obtain ⟨S2, xs, ex, hxl, hxs⟩ := hI
      rw [List.length_map, List.length_map] at hi
      rw [List.getElem?_map, List.getElem?_map, List.getElem?_eq_getElem hi] at hxi
      cases hxi
      have hdm := List.getElem_mem hi
      have hdi : g.days[i]? = some g.days[i] := List.getElem?_eq_getElem hi
      obtain ⟨hW, hd⟩ := hg.days _ hdm
      obtain ⟨dl, dsp, _, _⟩ := day_told hW hd
      generalize g.days[i] = d at hdi hW hd dl dsp
      have hglen := hg.len
      walk_at "wp"
      refine ⟨⟨_, rfl⟩, by decide, sz100 (by omega), fun p2 hp2 => ?_⟩
      rw [dsp]
      have S3 := same_upd (o := .lst (((dayO d).map wordO).map V.str)) hp2
      refine ⟨_, dayO d, rfl, SqL.of upd_same, hW, by show 4 ≤ 100; decide, fun H4 p4 S4 hp4 e4 => ?_⟩
      have S24 := S3.trans S4
      refine ⟨p4, _, rfl, .inl ⟨SqL.of e4, fun p5 hp5 => ?_⟩⟩
      have S5 := same_upd (o := .tup (optL (dayO d))) hp5
      have E5 : upd H4 p5 (.tup (optL (dayO d))) p5 = some (.tup (optL (dayO d))) := upd_same
      have n5 : p5 ≠ D := fun z => by rw [z, S24 _ _ ex] at hp5; cases hp5
      generalize upd H4 p5 (.tup (optL (dayO d))) = H5 at S5 E5 ⊢
      have S25 := S24.trans S5
      have e5 := S25 _ _ ex
      refine ⟨_, e5, sz100l (by omega), same_mut (S2.trans S25) hD, xs ++ [V.ref p5], upd_same, by rw [List.length_append, hxl]; rfl, ?_⟩
      rw [List.take_add_one, hdi, List.map_append]
      have hm : Same (tupsOf H2) (tupsOf (upd H5 D (.lst (xs ++ [V.ref p5])))) := fun b o e => by
        have h1 : tupsOf H5 b = some o := tupsOf_mono S25 b o e
        have : b ≠ D := fun z => by
          unfold tupsOf at h1
          rw [z, e5] at h1
          cases h1
        unfold tupsOf at h1 ⊢
        rw [upd_ne this]
        exact h1
      refine tk_snoc (hxs.same hm) (.tup (tupsOf_at (by rw [upd_ne n5]; exact E5)) (.cons (.int _) (.cons (.int _) (.cons (.int _) (.cons (Tk.optV _) .nil)))))
    · obtain ⟨S2, xs, ex, hxl, hxs⟩ := hI
      rw [List.length_map, List.length_map, List.take_length] at hxs
      have h0 : atI ((goodRows g).map V.str) 0 = some (.str ("good " ++ wordO g.life)) := atI_nat (j := 0) rfl
      have S12 := S1.trans S2
      walk_at "wp"
      refine ⟨_, _, S12.seq hs, h0, ?_⟩
      refine ⟨_, _, _, rfl, good_told hg.life, fun H3 p3 S3 _ e3 => ?_⟩
      walk_at "wp"
      refine ⟨_, _, SqL.of e3, atI_nat (j := 0) rfl, sz100 (by decide), fun t ht => ?_⟩
      have S4 := same_upd (o := .tup [V.ref D, optV g.life]) ht
      have S24 := S3.trans S4
      exact q _ t D (S12.trans S24) ((S12.trans S3).free ht) (S1.free hD) ⟨upd_same, xs, S24 _ _ ex, hxs.same (tupsOf_mono S24)⟩
end
end Bk

namespace Bk
open PySem PySem.Spec PyProof.Rows L2
local macro_rules | `(tactic| walk_at "wp") => `(tactic| try simp only [rIntS_r, rLenS_r, rIxS_r, rInS_r, rSplit_r, iStr_eq, rNewStrs, iRng3_eq, rRng3_i, tM1, tFmt, iLT, tScT2, rSetL_r, rSetOf2_r, rSorDT_r, rSetD, tDGet2, tDGet, tDNewT, cxW, rExtend_r, rSortU_r, rSetOf_r, rSortedSet_r, rNinr_r, rNeN_r, rCatL_r, rSlT_r, rListOf_r, rIsB_b, rNotB_b, tFmtO, tJs, tOst, tCallS, WE, tRaise2, rOne_i, rSorD_r, tDNewK, Int.zero_add, tNever, tFor_eq, tLc_eq, iList, iTup, iRng1_eq, rRng1_i, iRng2_eq, rRng2_i, iEnum_eq, rEnum_r, iZip_eq, rZip_r, tSl, tPart, tNoPart, rSlL_r, rCat_r, rIn_r, rNin_r, rRepr_r, iRevR, rMin_r, rShr_i, rOdd_i, rSetL_r, gSub, rRg1_i, rRg2_i, rInr_r, tAug, ipI_ii, tLstRg, tRg1, tRg2, gTup_r, gUnl_r, rInt1_b, rInt1_i, rRep_r, tStep_r, scal, tSeq, tNext, tAsg, tRet, tRetN, tIfS, tDrop, tCB, tCons, tNil, tVar, tOp, tUn, tC, rU_i, rI_ii, rI0_ii, rEq, rNe, tTest, tB, tAnd, tOr, tNot, tAndV, tOrV, tNotV, tIf, tChain, tLst, tTup, tBM, tBM0, rAppend_r, rIxL_r, rIxT_r, rMx_ii, rMn_ii, rLnL_r, rLnT_r, rIsD_int, rIsD_bool, rIsD_list, rIsD_tuple, tCall, gName, gNil_n, gCons_c, cxK, L2.start, List.map, List.replicate, List.length_cons, List.length_nil, List.cons_append, List.nil_append, List.append_nil, List.getElem?_cons_zero, List.getElem?_cons_succ, Option.some.injEq, exists_eq_left', exists_eq_left, V.int.injEq, V.bl.injEq, V.str.injEq, V.ref.injEq, List.cons.injEq, and_true, true_and, and_self, List.set, wipe, rAll_r, rSum_r, reduceCtorEq, decide_true, decide_false, reduceIte, ite_true, ite_false, if_true, if_false, Bool.false_eq_true, Bool.not_true, Bool.not_false])
local macro_rules | `(tactic| walk_at "shaped") => `(tactic| (simp only [SeqAt.shaped, PyData.canLay0, PyData.canLayAll0, PyData.depth, PyData.depthAll]; rfl))
local macro_rules | `(tactic| walk_at "lay") => `(tactic| (simp only [PyData.canLay0, PyData.canLayAll0]; rfl))
local macro_rules | `(tactic| walk_at "wg") => `(tactic| try simp only [gName, gTup_r, gCons_c, gNil_n, cxK, List.set, List.cons.injEq, and_true, true_and, exists_eq_left', exists_eq_left, List.length_cons, List.length_nil])
section
variable {P : Program} {w : World} {K : PySem.W.Frag} {mg : Str → Option Value} {base : Heap}
abbrev s_read_bakery : Stmt := top 75
theorem sc_read_bakery : FnScope ["text", "rows", "at", "many", "goods"] ["text"] (defScope s_read_bakery) := ⟨rfl, rfl, rfl, by decide +kernel, rfl, by decide +kernel, by decide +kernel⟩
theorem rowx_small {b : Bak} (hb : bakB (bakD b) = true) : ∀ p ∈ bakRows b, p.length ≤ 600 := by
  have hW := WB.of hb
  obtain ⟨⟨c1, c2⟩, c3, c4, ⟨c5, c6⟩, c7⟩ := bak_parts hb
  intro p hp
  unfold bakRows at hp
  rcases List.mem_cons.mp hp with rfl | hp
  · have := word_len hW.bd.sm
    rw [str_len, show ("oven " : Str).length = 5 by decide]
    omega
  rcases List.mem_cons.mp hp with rfl | hp
  · have := row_len fun o ho => (show WO o by
      obtain ⟨z, hz, rfl⟩ := List.mem_map.mp (show o ∈ b.lights.map some from ho)
      exact hW.li z hz).sm
    rw [List.length_map] at this
    rw [str_len, show ("lights " : Str).length = 7 by decide]
    omega
  obtain ⟨rs, hrs, hp⟩ := List.mem_flatten.mp hp
  obtain ⟨g, hg, rfl⟩ := List.mem_map.mp hrs
  obtain ⟨k1, k2⟩ := hW.go g hg
  unfold goodRows at hp
  rcases List.mem_cons.mp hp with rfl | hp
  · have := word_len k1.sm
    rw [str_len, show ("good " : Str).length = 5 by decide]
    omega
  · obtain ⟨d, hd, rfl⟩ := List.mem_map.mp hp
    have := row_len fun o ho => (k2 d hd o ho).sm
    rw [show (dayO d).length = 4 from rfl] at this
    omega
theorem text_small {b : Bak} (hb : bakB (bakD b) = true) : (bakText b).length ≤ 51000 ∧ (bakRows b).length ≤ 84 := by
  obtain ⟨⟨c1, c2⟩, c3, c4, ⟨c5, c6⟩, c7⟩ := bak_parts hb
  have hsz := bakRows_size (b := b) (n := b.lights.length) fun g hg => (c7 g hg).1
  have h1 := join_len "\n" (bakRows b)
  have h2 := sum_le_all (rowx_small hb)
  have h3 : b.goods.length * (b.lights.length + 1) ≤ 2 * 41 := Nat.mul_le_mul c6 (by omega)
  rw [show ("\n" : Str).length = 1 by decide] at h1
  unfold bakText
  omega
theorem text_some (b : Bak) : bakText b ≠ "" := by
  intro z
  have h := congrArg TL.tl z
  unfold bakText bakRows at h
  rw [join_cons (List.cons_ne_nil _ _)] at h
  rw [TL.tl_append, TL.tl_append, TL.tl_append] at h
  have h2 : TL.tl ("oven " : Str) = [111, 118, 101, 110, 32] := by decide
  have h3 : TL.tl ("" : Str) = [] := by decide
  rw [h2, h3] at h
  simp at h
theorem good_w {b : Bak} (hb : bakB (bakD b) = true) {g : Good} (hg : g ∈ b.goods) : GoodW g := by
  have hW := WB.of hb
  obtain ⟨⟨c1, c2⟩, _, _, _, c7⟩ := bak_parts hb
  obtain ⟨k1, k2⟩ := hW.go g hg
  exact ⟨k1, fun d hd => ⟨k2 d hd, (c7 g hg).2.2 d hd⟩, by rw [(c7 g hg).1]; exact c2⟩
theorem rg_ok : ∀ n, n < 41 → ∀ m, m < 3 → 1 ≤ m → (Builtin.Range.small 2 ((2 + m * (n + 1) : Nat) : Int) (1 + (n : Int)) = true ∧ Builtin.Range.rangeSize 2 ((2 + m * (n + 1) : Nat) : Int) (1 + (n : Int)) = (m : Int)) := by decide +kernel
theorem rows_cut {b : Bak} {n : Nat} (h : ∀ g ∈ b.goods, g.days.length = n) {j : Nat} (hj : j < b.goods.length) : ((bakRows b).drop (2 + j * (n + 1))).take (n + 1) = goodRows b.goods[j] := by
  have hl : (goodRows b.goods[j]).length = n + 1 := by rw [goodRows_len, h _ (List.getElem_mem hj)]
  apply List.ext_getElem?
  intro r
  rw [List.getElem?_take]
  by_cases hr : r < n + 1
  · rw [if_pos hr, List.getElem?_drop, Nat.add_assoc, bakRows_good h hj hr]
  · rw [if_neg hr, List.getElem?_eq_none (by omega)]
theorem tupsOf_without {H : Hp} {D : Addr} {xs : List V} (e : H D = some (.lst xs)) : tupsOf (without D H) = tupsOf H := by
  funext b
  unfold tupsOf without
  by_cases h : b = D
  · rw [if_pos h, h, e]
  · rw [if_neg h]
theorem OwnG.away {H : Hp} {D : Addr} {xs : List V} {p : Addr × Addr} {g : Good} (h : OwnG H p g) (e : H D = some (.lst xs)) (n : p.2 ≠ D) : OwnG (without D H) p g := by
  obtain ⟨ys, h1, h2⟩ := h.lst
  have n1 : p.1 ≠ D := fun z => by
    have := h.tup
    rw [z, e] at this
    cases this
  refine ⟨?_, ys, ?_, by rw [tupsOf_without e]; exact h2⟩
  · unfold without
    rw [if_neg n1]
    exact h.tup
  · unfold without
    rw [if_neg n]
    exact h1
theorem own_snoc {H : Hp} {p : Addr × Addr} {g : Good} (h : OwnG H p g) : ∀ {ps : List (Addr × Addr)} {gs : List Good}, OwnGs H ps gs → OwnGs H (ps ++ [p]) (gs ++ [g])
  | _, _, .nil => .cons h .nil
  | _, _, .cons h1 t => .cons h1 (own_snoc h t)
structure GsJ (H H' : Hp) (D : Addr) (gs : List Good) (j : Nat) : Prop where
  ex : ∃ ps : List (Addr × Addr), H' D = some (.lst (ps.map fun q => V.ref q.1)) ∧ OwnGs (without D H') ps (gs.take j) ∧ ps.length = j ∧ (ps.map (·.2)).Nodup ∧ ∀ q ∈ ps, H q.1 = none ∧ H q.2 = none ∧ ∃ xs, H' q.2 = some (.lst xs) ∧ q.2 ≠ D
def spRBak (K : PySem.W.Frag) : Sp := fun vs H Q _ => ∃ (b : Bak), vs = [.str (bakText b)] ∧ bakB (bakD b) = true ∧ ∀ H' p L G ps, Same H H' → H p = none → H' p = some (.tup [.ref L, optV b.bound, .ref G]) → OwnB H' L G ps b.lights b.goods → H L = none → H G = none → (∀ q ∈ ps, H q.1 = none ∧ H q.2 = none) → Q (.ref p) H'
theorem ok_read_bakery {f : Addr} {fd : FuncData} {t1 t2 t3 t4 : Tok} (F : Fun K "read_bakery" "read_bakery" s_read_bakery f fd) (B : Bi mg) (M_HEAD_ROWS : mg "HEAD_ROWS" = some (.int 2 t1)) (M_LIGHTS : mg "LIGHTS" = some (.str "lights" t2)) (M_OVEN : mg "OVEN" = some (.str "oven" t3)) (D_rows_of : Def P w K mg base "rows_of" 1 ["text"] (spRowsOf K)) (D_is_bakery_row : Def P w K mg base "is_bakery_row" 5 ["rows", "at"] (spBakRow K)) (D_is_ended : Def P w K mg base "is_ended" 5 ["rows"] (spEnded K)) (D_rows_per_good : Def P w K mg base "rows_per_good" 4 ["rows"] (spRpg K)) (D_read_good : Def P w K mg base "read_good" 4 ["rows"] (spRGood K)) (D_worths_behind : Def P w K mg base "worths_behind" 3 ["head", "row"] (spBehind K)) : FnOk P w K mg base CX0 6 f fd ["text"] (spRBak K) := by
  refine F.ok sc_read_bakery (fun vs H Q E h => ?_) (fun cdv A outer s H vs Q E hr h => ?_)
  · obtain ⟨_, rfl, _⟩ := h
    rfl
  · obtain ⟨b, rfl, hb, q⟩ := h
    refine ⟨_, (pss_cons (ps_set (i := 1) sc_read_bakery.nd rfl (Or.inr rfl) (pe_callD D_rows_of hr (by rfl) (pa_cons (pv 0) pa_nil)))
 (pss_cons (ps_for PassesOwn.never rfl (pi_range1 (by rfl) B.range (pa_cons (pe_callB call_lnL (by rfl) B.len (by decide +kernel) (pa_cons (pv 1) pa_nil)) pa_nil)) (pg_name (i := 2) sc_read_bakery.nd rfl (Or.inl rfl)) (pss_one (ps_if (pt_not (pt_val (pe_callD D_is_bakery_row hr (by rfl) (pa_cons (pv 1) (pa_cons (pv 2) pa_nil))))) (pss_one ps_never) pss_nil)))
 (pss_cons (ps_if (pt_not (pt_val (pe_callD D_is_ended hr (by rfl) (pa_cons (pv 1) pa_nil)))) (pss_one ps_never) pss_nil)
 (pss_cons (ps_set (i := 3) sc_read_bakery.nd rfl (Or.inr rfl) (pe_callD D_rows_per_good hr (by rfl) (pa_cons (pv 1) pa_nil)))
 (pss_cons (ps_setLc (i := 4) (own := [("at", 2)]) (g := (gName 2)) (te := (tCall _ _ _ (tCons (tSl (rSlL K) _ _ _) tNil))) rfl sc_read_bakery.nd rfl rfl (sw_true rfl rfl rfl (by decide +kernel)) (pi_range3 (by rfl) B.range (pa_cons (pe_globI rfl M_HEAD_ROWS) (pa_cons (pe_callB call_lnL (by rfl) B.len (by decide +kernel) (pa_cons (pv 1) pa_nil)) (pa_cons (pv 3) pa_nil)))) (blkOk_by (own := [("at", 2)]) (N := ["text", "rows", "at", "many", "goods"]) (sc := defScope s_read_bakery) (by decide +kernel)) (fun _ _ _ _ _ => (pg_name (i := 2) sc_read_bakery.nd rfl (Or.inl rfl))) (fun _ _ _ _ _ => pts_nil) (fun _ _ _ _ _ => (pe_callD D_read_good hr (by rfl) (pa_cons (pe_slice sl_list (pv 1) (po_some (pv 2)) (po_some (pe_op op_add (pv 2) (pv 3)))) pa_nil))))
 (pss_one (ps_ret (pe_tup (pa_cons (pe_callD D_worths_behind hr (by rfl) (pa_cons (pe_globS rfl M_LIGHTS) (pa_cons (pe_ix ix_list (pv 1) pe_int (fun _ _ => rfl)) pa_nil))) (pa_cons (pe_ix ix_list (pe_callD D_worths_behind hr (by rfl) (pa_cons (pe_globS rfl M_OVEN) (pa_cons (pe_ix ix_list (pv 1) pe_int (fun _ _ => rfl)) pa_nil))) pe_int (fun _ _ => rfl)) (pa_cons (pv 4) pa_nil))))))))))), ?_⟩
    have hW := WB.of hb
    obtain ⟨⟨c1, c2⟩, c3, c4, ⟨c5, c6⟩, c7⟩ := bak_parts hb
    have hgl : ∀ g ∈ b.goods, g.days.length = b.lights.length := fun g hg => (c7 g hg).1
    have hsz := bakRows_size hgl
    obtain ⟨ts1, ts2⟩ := text_small hb
    walk_at "wp"
    refine ⟨_, rfl, text_some b, by omega, fun H1 p1 S1 hp1 e1 => ?_⟩
    rw [hW.split] at e1
    walk_at "wp"
    refine ⟨_, SqL.of e1, ?_⟩
    rw [List.length_map]
    refine ⟨by omega, by omega, ?_⟩
    rw [Int.toNat_natCast]
    refine LoopR.by walk_range (fun i σ H' => (∃ y2, σ = [some (.str (bakText b)), some (.ref p1), y2, none, none]) ∧ Same H1 H') ⟨⟨_, rfl⟩, Same.refl _⟩ (fun _ _ _ _ _ => trivial) (fun i v σ H0 H2 hi hI yy => ?_) (fun σ H2 hI => ?_)
    · obtain ⟨rfl, rfl⟩ := yy
      obtain ⟨⟨y2, rfl⟩, S2⟩ := hI
      walk_at "wp"
      refine ⟨p1, b, [], i, rfl, by rw [List.append_nil]; exact SqL.of (S2 _ _ e1), hb, .inl rfl, by rw [List.append_nil]; exact hi, fun H3 S3 => ⟨_, rfl, ?_⟩⟩
      rw [if_neg (by rw [decide_eq_true hi]; simp)]
      exact ⟨⟨_, rfl⟩, S2.trans S3⟩
    · obtain ⟨⟨y2, rfl⟩, S2⟩ := hI
      have SE := S1.trans S2
      walk_at "wp"
      refine ⟨p1, b, rfl, SqL.of (S2 _ _ e1), hb, fun H3 S3 => ⟨true, rfl, ?_⟩⟩
      rw [if_neg (by simp)]
      have S23 := S2.trans S3
      refine ⟨p1, _, _, _, rfl, SqL.of (S23 _ _ e1), rfl, lights_told hW c1 c2, fun H4 S4 => ?_⟩
      rw [List.length_map]
      have S24 := S23.trans S4
      walk_at "wp"
      generalize hn : b.lights.length = n at *
      have hrg := rg_ok n (by omega) b.goods.length (by omega) c5
      refine ⟨_, SqL.of (S24 _ _ e1), b.goods.length, ⟨by omega, by omega, by rw [List.length_map, hsz]; exact hrg.1, by rw [List.length_map, hsz]; exact hrg.2⟩, fun D hD => ?_⟩
      have S04 := S1.trans S24
      refine LcR.by walk_rangeC (fun j H' => Same H4 H' ∧ GsJ H H' D b.goods j) ⟨same_upd hD, ⟨[], upd_same, .nil, rfl, List.nodup_nil, fun q hq => nomatch hq⟩⟩ (fun _ _ _ _ => trivial) (fun j v H0 H5 hj hI yy => ?_) (fun H5 hI => ?_)
      · obtain ⟨rfl, rfl⟩ := yy
        obtain ⟨S5, ps, eD, hO, hpl, hnd, hfr⟩ := hI
        have S45 := S24.trans S5
        walk_at "wp"
        refine ⟨_, SqL.of (S45 _ _ e1), fun p5 hp5 => ?_⟩
        have ecut : cutV ((bakRows b).map V.str) (some (2 + (j : Int) * (1 + (n : Int)))) (some (2 + (j : Int) * (1 + (n : Int)) + (1 + (n : Int)))) = (goodRows b.goods[j]).map V.str := by
          have e1 : (2 + (j : Int) * (1 + (n : Int))) = ((2 + j * (n + 1) : Nat) : Int) := by
            rw [Int.natCast_add, Int.natCast_mul, Int.natCast_add, Int.add_comm (n : Int)]
            rfl
          have e2 : ((2 + j * (n + 1) : Nat) : Int) + (1 + (n : Int)) = ((2 + j * (n + 1) + (n + 1) : Nat) : Int) := by omega
          rw [e1, e2, cutV_nat, ← List.map_drop, ← List.map_take, Nat.add_sub_cancel_left, rows_cut hgl hj]
        rw [ecut]
        have S6 := same_upd (o := .lst ((goodRows b.goods[j]).map V.str)) hp5
        have E6 : upd H5 p5 (.lst ((goodRows b.goods[j]).map V.str)) p5 = some (.lst ((goodRows b.goods[j]).map V.str)) := upd_same
        generalize upd H5 p5 (.lst ((goodRows b.goods[j]).map V.str)) = H6 at S6 E6 ⊢
        refine ⟨p5, b.goods[j], rfl, SqL.of E6, good_w hb (List.getElem_mem hj), fun H7 t D' S7 ht hD' hG => ?_⟩
        have S57 := S6.trans S7
        have eD7 := S57 _ _ eD
        have S4' := S04.trans (S5.trans S6)
        have nD : D' ≠ D := fun z => by rw [z, S6 _ _ eD] at hD'; cases hD'
        refine ⟨_, eD7, sz100l (by rw [List.length_map]; omega), same_mut (S5.trans S57) hD, ps ++ [(t, D')], by rw [upd_same, List.map_append]; rfl, ?_, by rw [List.length_append, hpl]; rfl, ?_, fun q hq => ?_⟩
        · rw [without_upd, List.take_add_one, List.getElem?_eq_getElem hj]
          exact own_snoc (hG.away eD7 nD) (hO.same (without_mono S57))
        · rw [List.map_append, List.nodup_append]
          refine ⟨hnd, by simp, fun x hx y hy => ?_⟩
          obtain ⟨q, hq, rfl⟩ := List.mem_map.mp hx
          obtain ⟨_, _, xs, ex, _⟩ := hfr q hq
          have : y = D' := by simpa using hy
          rw [this]
          intro z
          rw [z] at ex
          rw [S6 _ _ ex] at hD'
          cases hD'
        · rcases List.mem_append.mp hq with hq | hq
          · obtain ⟨k1, k2, xs, ex, k3⟩ := hfr q hq
            exact ⟨k1, k2, xs, by rw [upd_ne k3]; exact S57 _ _ ex, k3⟩
          · rw [List.mem_singleton.mp hq]
            obtain ⟨ys, h1, _⟩ := hG.lst
            exact ⟨S4'.free ht, S4'.free hD', ys, by show upd H7 D _ D' = _; rw [upd_ne nD]; exact h1, nD⟩
      · obtain ⟨S5, ps, eD, hO, hpl, hnd, hfr⟩ := hI
        have S45 := S24.trans S5
        have S05 := S1.trans S45
        rw [List.take_length] at hO
        refine ⟨_, _, SqL.of (S45 _ _ e1), atI_nat (j := 1) rfl, ?_⟩
        refine ⟨_, _, _, rfl, lights_told hW (by omega) (by omega), fun H6 pL S6 hpL e6 => ?_⟩
        rw [optL_ints] at e6
        have S46 := S45.trans S6
        refine ⟨_, _, SqL.of (S46 _ _ e1), atI_nat (j := 0) rfl, ?_⟩
        refine ⟨_, _, _, rfl, oven_told hW, fun H7 pO S7 hpO e7 => ?_⟩
        walk_at "wp"
        refine ⟨_, _, SqL.of e7, atI_nat (j := 0) rfl, sz100 (by decide), fun pt hpt => ?_⟩
        have S8 := same_upd (o := .tup [V.ref pL, optV b.bound, V.ref D]) hpt
        have S68 := S7.trans S8
        have S58 := S6.trans S68
        refine q _ pt pL D ps (S05.trans S58) ((S05.trans (S6.trans S7)).free hpt) upd_same ⟨S68 _ _ e6, S58 _ _ eD, (hO.same without_sub).same S58, hnd⟩ (S05.free hpL) (S04.free hD) fun q hq => ⟨(hfr q hq).1, (hfr q hq).2.1⟩
end
end Bk

namespace Bk
open PySem PySem.Spec PyProof.Rows L2
open C8 (Met pe_mt pe_mt0)
local macro_rules | `(tactic| walk_at "wp") => `(tactic| try simp only [tMethK, swap2, turn3, iRng3_eq, rRng3_i, rNeN_r, iZipA_eq, rZipA_r, iEnumZip_eq, rEnumZip_r, tFld_eq, tMeth_eq, rTIx_r, tTru, tScT2, rSetL_r, rSetOf2_r, rSorDT_r, rSetD, tDGet2, tDGet, tDNewT, cxW, rExtend_r, rSortU_r, rSetOf_r, rSortedSet_r, rNinr_r, rNeN_r, rCatL_r, rSlT_r, rListOf_r, rIsB_b, rNotB_b, tFmtO, tJs, tOst, tCallS, WE, tRaise2, rOne_i, rSorD_r, tDNewK, Int.zero_add, tNever, tFor_eq, tLc_eq, iList, iTup, iRng1_eq, rRng1_i, iRng2_eq, rRng2_i, iEnum_eq, rEnum_r, iZip_eq, rZip_r, tSl, tPart, tNoPart, rSlL_r, rCat_r, rIn_r, rNin_r, rRepr_r, iRevR, rMin_r, rShr_i, rOdd_i, rSetL_r, gSub, rRg1_i, rRg2_i, rInr_r, tAug, ipI_ii, tLstRg, tRg1, tRg2, gTup_r, gUnl_r, rInt1_b, rInt1_i, rRep_r, tStep_r, scal, tSeq, tNext, tAsg, tRet, tRetN, tIfS, tDrop, tCB, tCons, tNil, tVar, tOp, tUn, tC, rU_i, rI_ii, rI0_ii, rEq, rNe, tTest, tB, tAnd, tOr, tNot, tAndV, tOrV, tNotV, tIf, tChain, tLst, tTup, tBM, tBM0, rAppend_r, rIxL_r, rIxT_r, rMx_ii, rMn_ii, rLnL_r, rLnT_r, rIsD_int, rIsD_bool, rIsD_list, rIsD_tuple, tCall, gName, gNil_n, gCons_c, cxK, L2.start, List.map, List.replicate, List.length_cons, List.length_nil, List.cons_append, List.nil_append, List.append_nil, List.getElem?_cons_zero, List.getElem?_cons_succ, Option.some.injEq, exists_eq_left', exists_eq_left, V.int.injEq, V.bl.injEq, V.str.injEq, V.ref.injEq, List.cons.injEq, and_true, true_and, and_self, List.set, wipe, rAll_r, rSum_r, reduceCtorEq, decide_true, decide_false, reduceIte, ite_true, ite_false, if_true, if_false, Bool.false_eq_true, Bool.not_true, Bool.not_false])
local macro_rules | `(tactic| walk_at "shaped") => `(tactic| (simp only [iRng3_eq, rRng3_i, rNeN_r, SeqAt.shaped, PyData.canLay0, PyData.canLayAll0, PyData.depth, PyData.depthAll]; rfl))
local macro_rules | `(tactic| walk_at "lay") => `(tactic| (simp only [iRng3_eq, rRng3_i, rNeN_r, PyData.canLay0, PyData.canLayAll0]; rfl))
local macro_rules | `(tactic| walk_at "wg") => `(tactic| try simp only [gName, gTup_r, gCons_c, gNil_n, cxK, List.set, List.cons.injEq, and_true, true_and, exists_eq_left', exists_eq_left, List.length_cons, List.length_nil])
section
variable {P : Program} {w : World} {K : PySem.W.Frag} {mg : Str → Option Value} {base : Heap}
/-! ### ledgers and pasts in lists -/
section
variable {K : PySem.W.Frag} {C : Addr} {n : Nat} {S : List Addr} {H H' : Hp} {f : Nat → Led9}
theorem legs_set {j : Nat} {vs : List V} {e : PEn} {ds : List Deed} : legs n (set9 f j ⟨(f j).t, vs, e, ds⟩) = legs n f := by
  unfold legs
  apply List.map_congr_left
  intro i _
  by_cases z : i = j
  · subst z; rw [set9_at]
  · rw [set9_ne z]
theorem pass_set {j : Nat} {vs : List V} {e : PEn} {ds : List Deed} : pass n (set9 f j ⟨(f j).t, vs, e, ds⟩) = pass n f := by
  unfold pass
  apply List.map_congr_left
  intro i _
  by_cases z : i = j
  · subst z; rw [set9_at]
  · rw [set9_ne z]
structure Run9 (K : PySem.W.Frag) (C : Addr) (n : Nat) (S : List Addr) (q1 q2 : Addr) (b : Nat) (G H : Hp) (f : Nat → Led9) : Prop where
  few : Few9 K C n S H f
  h1 : H q1 = some (.lst (legs n f))
  h2 : H q2 = some (.lst (pass n f))
  n1 : ∀ i, i < n → q1 ∉ (f i).t.S
  n2 : ∀ i, i < n → q2 ∉ (f i).t.S
  short : ∀ i, i < n → (f i).ds.length ≤ b
  fr : Same (but S G) (but S H)
theorem Run9.same {q1 q2 : Addr} {b : Nat} {G : Hp} (h : Run9 K C n S q1 q2 b G H f) (s : Same H H') : Run9 K C n S q1 q2 b G H' f := ⟨h.few.same s, s _ _ h.h1, s _ _ h.h2, h.n1, h.n2, h.short, h.fr.trans (but_mono s)⟩
theorem Run9.more {q1 q2 : Addr} {b c : Nat} {G : Hp} (h : Run9 K C n S q1 q2 b G H f) (hbc : b ≤ c) : Run9 K C n S q1 q2 c G H f := ⟨h.few, h.h1, h.h2, h.n1, h.n2, fun i hi => Nat.le_trans (h.short i hi) hbc, h.fr⟩
theorem Run9.step {q1 q2 : Addr} {b : Nat} {G : Hp} (h : Run9 K C n S q1 q2 b G H f) {j : Nat} (hj : j < n) {vs : List V} {e : PEn} {ds : List Deed} (hP : P9 K C S H' (f j).t vs e ds) (s : Same (but (f j).t.S H) (but (f j).t.S H')) (hl : ds.length ≤ (f j).ds.length + 1) : Run9 K C n S q1 q2 (b + 1) G H' (set9 f j ⟨(f j).t, vs, e, ds⟩) := by
  have ht : ∀ i, (set9 f j ⟨(f j).t, vs, e, ds⟩ i).t = (f i).t := fun i => by
    by_cases z : i = j
    · subst z; rw [set9_at]
    · rw [set9_ne z]
  refine ⟨h.few.step hj hP s, ?_, ?_, fun i hi => by rw [ht]; exact h.n1 i hi, fun i hi => by rw [ht]; exact h.n2 i hi, fun i hi => ?_, h.fr.trans (but_sub (h.few.all j hj).sub s)⟩
  · rw [legs_set]
    exact (but_is (s _ _ (but_at (h.n1 j hj) h.h1))).2
  · rw [pass_set]
    exact (but_is (s _ _ (but_at (h.n2 j hj) h.h2))).2
  · by_cases z : i = j
    · subst z
      rw [set9_at]
      have := h.short i hi
      show ds.length ≤ b + 1
      omega
    · rw [set9_ne z]
      exact Nat.le_succ_of_le (h.short i hi)
/-- new places beside the old ones; one list, q, was changed -/
theorem but_wide {q : Addr} {T : List Addr} {G : Hp} (hq : q ∈ S) (hT : ∀ a ∈ T, G a = none) (s : Same (but [q] G) (but [q] H)) : Same (but S G) (but (S ++ T) H) := fun b o e => by
  obtain ⟨n, e⟩ := but_is e
  have hb : b ∉ [q] := fun z => n (by rw [List.mem_singleton.mp z]; exact hq)
  refine but_at (fun z => ?_) (but_is (s _ _ (but_at hb e))).2
  rcases List.mem_append.mp z with z | z
  · exact n z
  · rw [hT b z] at e; cases e
theorem P9.wide {q : Addr} {T : List Addr} {G : Hp} {xs : List V} {t : Pl} {vs : List V} {e : PEn} {ds : List Deed} (h : P9 K C S G t vs e ds) (hx : G q = some (.lst xs)) (hq : q ∈ S) (nq : q ∉ t.S) (hT : ∀ a ∈ T, G a = none) (s : Same (but [q] G) (but [q] H)) : P9 K C (S ++ T) H t vs e ds := by
  have nt : ∀ a ∈ t.S, a ∉ [q] := fun a ha z => nq (by rw [← List.mem_singleton.mp z]; exact ha)
  refine ⟨h.led.keep (S := [q]) (fun a ha => by rw [List.mem_singleton.mp ha]; exact ⟨_, hx⟩) ⟨nt _ (by simp [Pl.S]), nt _ (by simp [Pl.S]), nt _ (by simp [Pl.S])⟩ s, (but_is (s _ _ (but_at (nt _ (Pl.pa_mem t)) h.hpa))).2, h.past.same (but_wide hq hT s), h.pn, fun a ha => List.mem_append_left _ (h.sub a ha)⟩
def add9 (f : Nat → Led9) (n : Nat) (x : Led9) : Nat → Led9 := fun i => if i < n then f i else x
theorem Few9.add (h : Few9 K C n S H f) {x : Led9} (hP : P9 K C S H x.t x.vs x.e x.ds) (ha : ∀ i, i < n → (∀ a ∈ (f i).t.S, a ∉ x.t.S) ∧ ∀ a ∈ x.t.S, a ∉ (f i).t.S) : Few9 K C (n + 1) S H (add9 f n x) := by
  have e1 : ∀ {i}, i < n → add9 f n x i = f i := fun hi => if_pos hi
  have e2 : ∀ {i}, i < n + 1 → ¬ i < n → add9 f n x i = x := fun _ hi => if_neg hi
  refine ⟨fun i hi => ?_, fun i j hi hj hne => ?_, h.lst⟩
  · by_cases z : i < n
    · rw [e1 z]; exact h.all i z
    · rw [e2 hi z]; exact hP
  · by_cases z : i < n
    · by_cases y : j < n
      · rw [e1 z, e1 y]
        exact h.ap i j z y hne
      · rw [e1 z, e2 hj y]
        exact (ha i z).1
    · by_cases y : j < n
      · rw [e2 hi z, e1 y]
        exact (ha j y).2
      · omega
end
theorem ap_of {t u : Pl} (A : Ap u.L u.D u.E [t.L, t.D, t.E]) (B : t.pa ∉ [u.L, u.D, u.E]) (Cc : u.pa ∉ [t.L, t.D, t.E]) (D : u.pa ≠ t.pa) : (∀ a ∈ t.S, a ∉ u.S) ∧ ∀ a ∈ u.S, a ∉ t.S := by
  obtain ⟨a1, a2, a3⟩ := A
  unfold Pl.S
  simp only [List.mem_cons, List.not_mem_nil, or_false, not_or] at *
  refine ⟨fun a ha => ?_, fun a ha => ?_⟩ <;> rcases ha with rfl | rfl | rfl | rfl <;> refine ⟨?_, ?_, ?_, ?_⟩ <;> intro z <;> simp_all
theorem but_all {S : List Addr} {G H : Hp} (h : ∀ a ∈ S, G a = none) (s : Same G H) : Same G (but S H) := fun b o e => but_at (fun z => by rw [h b z] at e; cases e) (s _ _ e)
theorem lst_app {H : Hp} {T U : List Addr} (h : Lsts H T) (hU : Lsts H U) : Lsts H (T ++ U) := fun b hb => by
  rcases List.mem_append.mp hb with hb | hb
  · exact h b hb
  · exact hU b hb
theorem not_new {H : Hp} {T : List Addr} {a : Addr} (h : Lsts H T) (ha : H a = none) : a ∉ T := nS_of h (Same.refl _) ha
def revG1 (g : Good) : Good := ⟨g.days.reverse, g.life⟩
theorem TkAll.revT {H : Hp} : ∀ {vs : List V} {es : List PyData}, TkAll H vs es → TkAll H vs.reverse es.reverse
  | _, _, .nil => .nil
  | _, _, .cons a t => by
    rw [List.reverse_cons, List.reverse_cons]
    exact TkAll.snoc (TkAll.revT t) a
def spTurn (K : PySem.W.Frag) : Sp := fun vs H Q _ => ∃ x ls g, vs = [x] ∧ Tk H x (bakD ⟨ls, none, [g]⟩) ∧ ∀ H' y, Same H H' → Tk H' y (bakD ⟨ls.reverse, none, [revG1 g]⟩) → Q y H'
def cutG (g : Good) (m : Nat) : Good := ⟨g.days.take m, g.life⟩
/-- the rows that were told as days were added -/
def RowsOk (H : Hp) (S : List Addr) (g : Good) (ls : List Int) (rs : List Addr) : Prop := ∀ j r, rs[j]? = some r → r ∉ S ∧ ∃ cs : List Int, H r = some (.lst (cs.map V.int)) ∧ cs.length = j + 2 ∧ IsRow (cutG g (j + 1)) (rowF (ls.take (j + 1))) (rowF cs) (j + 1)
theorem RowsOk.same {H H' : Hp} {S : List Addr} {g : Good} {ls : List Int} {rs : List Addr} (h : RowsOk H S g ls rs) (s : Same (but S H) (but S H')) : RowsOk H' S g ls rs := fun j r hj => by
  obtain ⟨h1, cs, h2, h3⟩ := h j r hj
  exact ⟨h1, cs, (but_is (s _ _ (but_at h1 h2))).2, h3⟩
theorem RowsOk.snoc {H : Hp} {S : List Addr} {g : Good} {ls : List Int} {rs : List Addr} {r : Addr} {cs : List Int} {m : Nat} (h : RowsOk H S g ls rs) (hm : rs.length = m) (h1 : r ∉ S) (h2 : H r = some (.lst (cs.map V.int))) (h3 : cs.length = m + 2) (h4 : IsRow (cutG g (m + 1)) (rowF (ls.take (m + 1))) (rowF cs) (m + 1)) : RowsOk H S g ls (rs ++ [r]) := fun j q hj => by
  rcases Nat.lt_or_ge j rs.length with hlt | hge
  · rw [List.getElem?_append_left hlt] at hj
    exact h j q hj
  · have hj1 := (List.getElem?_eq_some_iff.mp hj).1
    rw [List.length_append, List.length_singleton] at hj1
    have : j = m := by omega
    subst this
    rw [List.getElem?_append_right (by omega), show j - rs.length = 0 by omega] at hj
    cases hj
    exact ⟨h1, cs, h2, h3, h4⟩
theorem cut_bak {ls : List Int} {g : Good} {m : Nat} (hb : bakB (bakD ⟨ls, none, [g]⟩) = true) (h1 : 1 ≤ m) (h2 : m ≤ ls.length) : bakB (bakD ⟨ls.take m, none, [cutG g m]⟩) = true := by
  obtain ⟨⟨c1, c2⟩, c3, _, _, c7⟩ := bak_parts hb
  obtain ⟨c8, c9, hok⟩ := c7 g (List.mem_singleton.mpr rfl)
  dsimp only at c1 c2 c3 c8
  refine bakB_mk (by show 1 ≤ (ls.take m).length; rw [List.length_take]; omega) (by show (ls.take m).length ≤ 40; rw [List.length_take]; omega) (fun z hz => c3 z (List.mem_of_mem_take hz)) rfl (by show 1 ≤ 1; decide) (by show 1 ≤ 2; decide) ?_
  intro z hz
  rw [List.mem_singleton.mp hz]
  exact ⟨by show (g.days.take m).length = (ls.take m).length; rw [List.length_take, List.length_take, c8], c9, fun d hd => hok d (List.mem_of_mem_take hd)⟩
def spGrown (K : PySem.W.Frag) (C : Addr) : Sp := fun vs H Q _ => ∃ x ls g, vs = [x] ∧ Tk H x (bakD ⟨ls, none, [g]⟩) ∧ bakB (bakD ⟨ls, none, [g]⟩) = true ∧
  ∀ (H' : Hp) (t p L D E R : Addr) (rs : List Addr), Same H H' → H L = none → H D = none → H E = none → H' t = some (.tup [.ref p, .ref R]) → Led C H' p L D E ls g (List.replicate (ls.length - 1) none) → R ∉ [L, D, E] → H' R = some (.lst (rs.map V.ref)) → rs.length = ls.length → RowsOk H' [L, D, E] g ls rs → Q (.ref t) H'
structure GrI (C x al ga p L D E R : Addr) (v2 : V) (ls : List Int) (g : Good) (G : Hp) (i : Nat) (σ : L2.St) (H : Hp) : Prop where
  ex : ∃ (y6 y7 : Option V) (rs : List Addr), σ = [some (.ref x), some (.ref al), some v2, some (.ref ga), some (.ref p), some (.ref R), y6, y7] ∧ Led C H p L D E (ls.take (i + 1)) (cutG g (i + 1)) (List.replicate i none) ∧ H R = some (.lst (rs.map V.ref)) ∧ rs.length = i + 1 ∧ R ∉ [L, D, E] ∧ (∀ r ∈ rs, r ≠ R) ∧ RowsOk H [L, D, E] g ls rs ∧ Same (but [L, D, E, R] G) (but [L, D, E, R] H)
/-- ledgers beside each other, told one by one -/
theorem few_list {K : PySem.W.Frag} {C : Addr} {S : List Addr} {H : Hp} {xs : List Led9} (d : Led9) (hP : ∀ x ∈ xs, P9 K C S H x.t x.vs x.e x.ds) (hap : xs.Pairwise fun x y => (∀ a ∈ x.t.S, a ∉ y.t.S) ∧ ∀ a ∈ y.t.S, a ∉ x.t.S) (hS : Lsts H S) : Few9 K C xs.length S H (fun i => xs.getD i d) := by
  have hg : ∀ i (hi : i < xs.length), xs.getD i d = xs[i] := fun i hi => by rw [List.getD_eq_getElem?_getD, List.getElem?_eq_getElem hi]; rfl
  refine ⟨fun i hi => ?_, fun i j hi hj hne => ?_, hS⟩
  · simp only [hg i hi]
    exact hP _ (List.getElem_mem hi)
  · simp only [hg i hi, hg j hj]
    rcases Nat.lt_or_ge i j with h | h
    · exact (List.pairwise_iff_getElem.mp hap i j hi hj h).1
    · exact (List.pairwise_iff_getElem.mp hap j i hj hi (by omega)).2
theorem legs_list (xs : List Led9) (d : Led9) : legs xs.length (fun i => xs.getD i d) = xs.map fun x => V.ref x.t.p := by
  unfold legs
  refine List.ext_getElem? fun i => ?_
  by_cases hi : i < xs.length
  · rw [List.getElem?_map, List.getElem?_range hi, List.getElem?_map, List.getElem?_eq_getElem hi]
    show some (V.ref (xs.getD i d).t.p) = _
    rw [List.getD_eq_getElem?_getD, List.getElem?_eq_getElem hi]
    rfl
  · rw [List.getElem?_eq_none (by rw [List.length_map, List.length_range]; omega), List.getElem?_eq_none (by rw [List.length_map]; omega)]
theorem pass_list (xs : List Led9) (d : Led9) : pass xs.length (fun i => xs.getD i d) = xs.map fun x => V.ref x.t.pa := by
  unfold pass
  refine List.ext_getElem? fun i => ?_
  by_cases hi : i < xs.length
  · rw [List.getElem?_map, List.getElem?_range hi, List.getElem?_map, List.getElem?_eq_getElem hi]
    show some (V.ref (xs.getD i d).t.pa) = _
    rw [List.getD_eq_getElem?_getD, List.getElem?_eq_getElem hi]
    rfl
  · rw [List.getElem?_eq_none (by rw [List.length_map, List.length_range]; omega), List.getElem?_eq_none (by rw [List.length_map]; omega)]
/-- a bakery of one good, part by part -/
theorem mk_tk {G : Hp} {l d g1 gl t : Addr} {ls : List Int} {xs : List V} {ds : List Day} {life : Option Int} (el : G l = some (.lst (ls.map V.int))) (ed : G d = some (.lst xs)) (hd : TkAll (tupsOf G) xs (ds.map dayD)) (e1 : G g1 = some (.tup [.ref d, optV life])) (eg : G gl = some (.lst [.ref g1])) (et : G t = some (.tup [.ref l, .non, .ref gl])) : Tk G (.ref t) (bakD ⟨ls, none, [⟨ds, life⟩]⟩) :=
  .tup et (.cons (.lst el (TkAll.ints _)) (.cons .non (.cons (.lst eg (.cons (.tup e1 (.cons (.lst ed (hd.same fun b o e => (tupsOf_is e).1)) (.cons (Tk.optV _) .nil))) .nil)) .nil)))
theorem rev_bak {ls : List Int} {g : Good} (hb : bakB (bakD ⟨ls, none, [g]⟩) = true) : bakB (bakD ⟨ls.reverse, none, [⟨g.days.reverse, g.life⟩]⟩) = true := by
  obtain ⟨⟨c1, c2⟩, c3, _, _, c7⟩ := bak_parts hb
  obtain ⟨c8, c9, hok⟩ := c7 g (List.mem_singleton.mpr rfl)
  dsimp only at c1 c2 c3 c8
  refine bakB_mk (by show 1 ≤ ls.reverse.length; rw [List.length_reverse]; omega) (by show ls.reverse.length ≤ 40; rw [List.length_reverse]; omega) (fun z hz => c3 z (List.mem_reverse.mp hz)) rfl (by show 1 ≤ 1; decide) (by show 1 ≤ 2; decide) ?_
  intro z hz
  rw [List.mem_singleton.mp hz]
  exact ⟨by show g.days.reverse.length = ls.reverse.length; rw [List.length_reverse, List.length_reverse, c8], c9, fun d hd => hok d (List.mem_reverse.mp hd)⟩
theorem life_bak {ls : List Int} {g : Good} {o : Option Int} (hb : bakB (bakD ⟨ls, none, [g]⟩) = true) (ho : lifeB (optD o) = true) : bakB (bakD ⟨ls, none, [⟨g.days, o⟩]⟩) = true := by
  obtain ⟨⟨c1, c2⟩, c3, _, _, c7⟩ := bak_parts hb
  obtain ⟨c8, c9, hok⟩ := c7 g (List.mem_singleton.mpr rfl)
  refine bakB_mk c1 c2 c3 rfl (by show 1 ≤ 1; decide) (by show 1 ≤ 2; decide) ?_
  intro z hz
  rw [List.mem_singleton.mp hz]
  exact ⟨c8, ho, hok⟩
abbrev s_law : Stmt := top 95
theorem sc_law : FnScope ["_law_script", "_law_bakery_here", "_law_lights", "_law_bound", "_law_goods", "_law_days_here", "_law_life", "_law_turned", "_law_first", "_law_longer", "_law_ledgers", "_law_pasts", "_law_lamp", "_law_place", "_law_at", "_law_cell", "_law_digits", "_law_ledger"] ["_law_script"] (defScope s_law) := ⟨rfl, rfl, rfl, by decide +kernel, rfl, by decide +kernel, by decide +kernel⟩
/-- a bakery in lists of its own, and its parts known -/
structure Bk1 (H : Hp) (v : V) (e : PEn) : Prop where
  tk : Tk H v (bakD ⟨e.ls, none, [e.g]⟩)
  ok : bakB (bakD ⟨e.ls, none, [e.g]⟩) = true
structure M42a (K : PySem.W.Frag) (a : Addr) (ns : List Int) (σ : L2.St) (H : Hp) : Prop where
  ex : ∃ (ta al ga ad tu fi lo : Addr) (e et ef el : PEn) (xs : List V), σ = [some (.ref a), some (.ref ta), some (.ref al), some .non, some (.ref ga), some (.ref ad), some (optV e.g.life), some (.ref tu), some (.ref fi), some (.ref lo), none, none, none, none, none, none, none, none] ∧ SqL K H a (ns.map V.int) ∧ Bk1 H (.ref ta) e ∧ Bk1 H (.ref tu) et ∧ Bk1 H (.ref fi) ef ∧ Bk1 H (.ref lo) el ∧
    H al = some (.lst (e.ls.map V.int)) ∧ H ad = some (.lst xs) ∧ TkAll (tupsOf H) xs (e.g.days.map dayD) ∧ e.ls.length ≤ 6 ∧ ef.ls.length ≤ 1
structure M42b (K : PySem.W.Frag) (C : Addr) (a : Addr) (ns : List Int) (σ : L2.St) (H : Hp) : Prop where
  ex : ∃ (x1 x3 x4 x6 x7 x8 x9 : V) (al ad q1 q2 : Addr) (S : List Addr) (f : Nat → Led9) (e : PEn) (xs : List V), σ = [some (.ref a), some x1, some (.ref al), some x3, some x4, some (.ref ad), some x6, some x7, some x8, some x9, some (.ref q1), some (.ref q2), none, none, none, none, none, none] ∧ Run9 K C 5 S q1 q2 0 H H f ∧ (f 3).e.ls.length ≤ 1 ∧ SqL K (but S H) a (ns.map V.int) ∧
    but S H al = some (.lst (e.ls.map V.int)) ∧ but S H ad = some (.lst xs) ∧ TkAll (tupsOf H) xs (e.g.days.map dayD) ∧ e.ls.length ≤ 6 ∧ bakB (bakD ⟨e.ls, none, [e.g]⟩) = true
theorem Bk1.same {H H' : Hp} {v : V} {e : PEn} (h : Bk1 H v e) (s : Same H H') : Bk1 H' v e := ⟨h.tk.same s, h.ok⟩
def spLaw (K : PySem.W.Frag) : Sp := fun vs H Q _ => ∃ (a : Addr) (ns : List Int), vs = [.ref a] ∧ SqL K H a (ns.map V.int) ∧ ns.length ≤ 63 ∧ ∀ H', Q (.bl true) H'
theorem ok_law {f0 C : Addr} {fd : FuncData} (F : Fun K "law" "law" s_law f0 fd) (B : Bi mg) (Bz : mg "zip" = none) (Bq : mg "str" = none) (LK : LKit K C) (D_bakery : Def P w K mg base "_law_bakery" 3 ["_law_script", "_law_upto", "_law_salt"] (spBakery K)) (D_numbers : Def P w K mg base "_law_numbers" 1 ["_law_cell", "_law_salt", "_law_sizes"] (spNumbers K)) (D_added : Def P w K mg base "_law_added" 1 ["_law_bakery_here", "_law_lamp", "_law_place"] (spAdded K)) (D_deed : Def P w K mg base "_law_deed" 13 ["_law_ledger", "_law_past", "_law_digits"] (spDeed42 K C)) (D_alike : Def P w K mg base "_law_alike" 12 ["_law_ledgers", "_law_pasts"] (spAlike42 K C)) (D_read_bakery : Def P w K mg base "read_bakery" 6 ["text"] (spRBak K))
    (MK_Ledger : Maker P w K mg base "Ledger" 9 C (spLInit K C)) (T_add : C8.Met P w K mg base 4 C "add" (spLAdd K C) []) (T_eq : C8.Met P w K mg base 1 C "__eq__" (spLEq K C) []) (T_str : C8.Met P w K mg base 9 C "__str__" (spLStr K C) []) : RunG P w K mg base 14 f0 fd ["_law_script"] (spLaw K) := by
  refine runG_of F sc_law (fun vs H Q E h => ?_) (fun cdv A outer s H vs Q E hG hr h => ?_)
  · obtain ⟨a, ns, rfl, _⟩ := h
    rfl
  · obtain ⟨a, ns, rfl, hS, hlen, q⟩ := h
    refine ⟨_, (pss_cons (ps_set (i := 1) sc_law.nd rfl (Or.inl rfl) (pe_callD D_bakery hr (by rfl) (pa_cons (pv 0) (pa_cons pe_int (pa_cons pe_int pa_nil)))))
 (pss_cons (ps_asg (pv 1) (pg_tup rfl (pgs_cons (pg_name (i := 2) sc_law.nd rfl (Or.inl rfl)) (pgs_cons (pg_name (i := 3) sc_law.nd rfl (Or.inl rfl)) (pgs_cons (pg_name (i := 4) sc_law.nd rfl (Or.inl rfl)) pgs_nil)))))
 (pss_cons (ps_asg (pe_ix ix_list (pv 4) pe_int (fun _ _ => rfl)) (pg_tup rfl (pgs_cons (pg_name (i := 5) sc_law.nd rfl (Or.inl rfl)) (pgs_cons (pg_name (i := 6) sc_law.nd rfl (Or.inl rfl)) pgs_nil))))
 (pss_cons (ps_set (i := 7) sc_law.nd rfl (Or.inl rfl) (pe_tup (pa_cons (pe_step (pv 2) po_none po_none (po_some (pe_un un_neg pe_int))) (pa_cons (pv 3) (pa_cons (pe_lst (pa_cons (pe_tup (pa_cons (pe_step (pv 5) po_none po_none (po_some (pe_un un_neg pe_int))) (pa_cons (pv 6) pa_nil))) pa_nil)) pa_nil)))))
 (pss_cons (ps_set (i := 8) sc_law.nd rfl (Or.inl rfl) (pe_tup (pa_cons (pe_slice sl_list (pv 2) po_none (po_some pe_int)) (pa_cons (pv 3) (pa_cons (pe_lst (pa_cons (pe_tup (pa_cons (pe_slice sl_list (pv 5) po_none (po_some pe_int)) (pa_cons (pv 6) pa_nil))) pa_nil)) pa_nil)))))
 (pss_cons (ps_set (i := 9) sc_law.nd rfl (Or.inl rfl) (pe_tup (pa_cons (pv 2) (pa_cons (pv 3) (pa_cons (pe_lst (pa_cons (pe_tup (pa_cons (pv 5) (pa_cons (pe_ix ix_list (pe_lst (pa_cons pe_int (pa_cons pe_non pa_nil))) (pe_callTy call_in1 (by rfl) B.int (by decide +kernel) (pa_cons (pe_cmpR op_eq (pv 6) pe_int (nomark _)) pa_nil)) (fun _ _ => rfl)) pa_nil))) pa_nil)) pa_nil)))))
 (pss_cons (ps_set (i := 10) sc_law.nd rfl (Or.inl rfl) (pe_lst (pa_cons (pe_mkD MK_Ledger hr (by rfl) (pa_cons (pv 1) pa_nil)) (pa_cons (pe_mkD MK_Ledger hr (by rfl) (pa_cons (pv 1) pa_nil)) (pa_cons (pe_mkD MK_Ledger hr (by rfl) (pa_cons (pv 7) pa_nil)) (pa_cons (pe_mkD MK_Ledger hr (by rfl) (pa_cons (pv 8) pa_nil)) (pa_cons (pe_mkD MK_Ledger hr (by rfl) (pa_cons (pv 9) pa_nil)) pa_nil)))))))
 (pss_cons (ps_set (i := 11) sc_law.nd rfl (Or.inl rfl) (pe_lst (pa_cons (pe_lst (pa_cons (pv 1) pa_nil)) (pa_cons (pe_lst (pa_cons (pv 1) pa_nil)) (pa_cons (pe_lst (pa_cons (pv 7) pa_nil)) (pa_cons (pe_lst (pa_cons (pv 8) pa_nil)) (pa_cons (pe_lst (pa_cons (pv 9) pa_nil)) pa_nil)))))))
 (pss_cons (ps_for PassesOwn.never rfl (pi_zip (by rfl) Bz (pa_cons (pe_slice sl_list (pv 2) (po_some pe_int) po_none) (pa_cons (pe_slice sl_list (pv 5) (po_some pe_int) po_none) pa_nil))) (pg_tup rfl (pgs_cons (pg_name (i := 12) sc_law.nd rfl (Or.inl rfl)) (pgs_cons (pg_name (i := 13) sc_law.nd rfl (Or.inl rfl)) pgs_nil))) (pss_cons (ps_expr (pe_mt T_add hr (by omega) (pe_ix ix_list (pv 10) pe_int (fun _ _ => rfl)) (pa_cons (pv 12) (pa_cons (pv 13) pa_nil))))
 (pss_one (ps_expr (pe_bm PySem.F.plainAttrs_list PySem.F.slot_list_append PySem.F.type_list_append mt_append (pe_ix ix_list (pv 11) pe_int (fun _ _ => rfl)) (pa_cons (pe_callD D_added hr (by rfl) (pa_cons (pe_ix ix_list (pe_ix ix_list (pv 11) pe_int (fun _ _ => rfl)) (pe_un un_neg pe_int) (fun _ _ => rfl)) (pa_cons (pv 12) (pa_cons (pv 13) pa_nil)))) pa_nil))))))
 (pss_cons (ps_if (pt_not (pt_val (pe_callD D_alike hr (by rfl) (pa_cons (pv 10) (pa_cons (pv 11) pa_nil))))) (pss_one (ps_ret pe_bl)) pss_nil)
 (pss_cons (ps_for PassesOwn.never rfl (pi_enum (by rfl) B.enumerate (pa_cons (pe_op op_catL (pe_lst (pa_cons pe_int pa_nil)) (pe_slice sl_list (pv 0) (po_some pe_int) (po_some pe_int))) pa_nil)) (pg_tup rfl (pgs_cons (pg_name (i := 14) sc_law.nd rfl (Or.inl rfl)) (pgs_cons (pg_name (i := 15) sc_law.nd rfl (Or.inl rfl)) pgs_nil))) (pss_cons (ps_set (i := 16) sc_law.nd rfl (Or.inl rfl) (pe_callD D_numbers hr (by rfl) (pa_cons (pv 15) (pa_cons (pe_op op_add pe_int (pv 14)) (pa_cons (pe_lst (pa_cons pe_int (pa_cons pe_int (pa_cons pe_int (pa_cons pe_int (pa_cons pe_int (pa_cons pe_int (pa_cons pe_int (pa_cons pe_int pa_nil))))))))) pa_nil)))))
 (pss_cons (ps_expr (pe_callD D_deed hr (by rfl) (pa_cons (pe_ix ix_list (pv 10) (pe_ix ix_list (pv 16) pe_int (fun _ _ => rfl)) (fun _ _ => rfl)) (pa_cons (pe_ix ix_list (pv 11) (pe_ix ix_list (pv 16) pe_int (fun _ _ => rfl)) (fun _ _ => rfl)) (pa_cons (pv 16) pa_nil)))))
 (pss_one (ps_if (pt_not (pt_val (pe_callD D_alike hr (by rfl) (pa_cons (pv 10) (pa_cons (pv 11) pa_nil))))) (pss_one (ps_ret pe_bl)) pss_nil)))))
 (pss_cons (ps_for PassesOwn.never rfl (pi_list (pv 10)) (pg_name (i := 17) sc_law.nd rfl (Or.inl rfl)) (pss_one (ps_if (pt_not (pt_cmpR (op_ownEq T_eq hr (by omega)) (pv 17) (pe_mkD MK_Ledger hr (by rfl) (pa_cons (pe_callD D_read_bakery hr (by rfl) (pa_cons (pe_callTy (call_ownStr T_str hr (by omega)) (by rfl) Bq (by decide +kernel) (pa_cons (pv 17) pa_nil)) pa_nil)) pa_nil)) (nomark _))) (pss_one (ps_ret pe_bl)) pss_nil)))
 (pss_one (ps_ret pe_bl)))))))))))))), ?_⟩
    refine seq6 (M42a K a ns) (fun σ1 H1 hm => ?_) (fun N hN => ?_)
    rotate_left
    · walk_at "wp"
      refine ⟨a, ns, 7, 4200, rfl, hS, hlen, by decide, by decide, by decide, fun H1 x ls g S1 hx hb hll => ?_⟩
      have hn6 : ls.length ≤ 6 := by rw [hll]; unfold nDays; omega
      have hxT := hx.same (newOf_same _ _)
      have hxT0 := hxT
      obtain ⟨ta, al, ga, tg, ad, xs, rfl, ht, hl, hga, htg, hsd, hda⟩ := tk_bak1 hxT
      walk_at "wp"
      refine ⟨_, SqT.of ht, rfl, ?_⟩
      walk_at "wp"
      refine ⟨_, _, SqL.of hga, atI_nat (j := 0) rfl, ?_⟩
      walk_at "wp"
      refine ⟨_, SqT.of htg, rfl, ?_⟩
      walk_at "wp"
      refine ⟨al, _, rfl, SqL.of hl, by decide, fun p1 h1 => ?_⟩
      rw [stepV_rev]
      rw [show (ls.map V.int).reverse = ls.reverse.map V.int from List.map_reverse.symm] at *
      obtain ⟨G1, g1, R1, E1⟩ := alloc (.lst (ls.reverse.map V.int)) h1
      rw [g1]
      refine ⟨ad, _, rfl, SqL.of (R1 _ _ hsd), by decide, fun p2 h2 => ?_⟩
      rw [stepV_rev]
      obtain ⟨G2, g2, R2, E2⟩ := alloc (.lst xs.reverse) h2
      rw [g2]
      refine ⟨sz100 (by decide), fun p3 h3 => ?_⟩
      obtain ⟨G3, g3, R3, E3⟩ := alloc (.tup [V.ref p2, optV g.life]) h3
      rw [g3]
      refine ⟨sz100 (by decide), fun p4 h4 => ?_⟩
      obtain ⟨G4, g4, R4, E4⟩ := alloc (.lst [V.ref p3]) h4
      rw [g4]
      refine ⟨sz100 (by decide), fun p5 h5 => ?_⟩
      obtain ⟨G5, g5, R5, E5⟩ := alloc (.tup [V.ref p1, V.non, V.ref p4]) h5
      rw [g5]
      have R15 := R2.trans (R3.trans (R4.trans R5))
      have R05 := R1.trans R15
      have hdr : TkAll (tupsOf G5) xs.reverse (g.days.reverse.map dayD) := by
        have h := (hda.same (tupsOf_mono R05)).revT
        rw [← List.map_reverse] at h
        exact h
      have hTu : Bk1 G5 (.ref p5) ⟨ls.reverse, ⟨g.days.reverse, g.life⟩⟩ := ⟨mk_tk (R15 _ _ E1) ((R3.trans (R4.trans R5)) _ _ E2) hdr ((R4.trans R5) _ _ E3) (R5 _ _ E4) E5, rev_bak hb⟩
      clear g1 g2 g3 g4 g5 h1 h2 h3 h4 h5 E1 E2 E3 E4 E5
      refine ⟨_, SqL.of (R05 _ _ hl), fun p6 h6 => ?_⟩
      rw [show cutV (ls.map V.int) none (some 1) = (ls.take 1).map V.int by rw [List.map_take]; exact cutV_upto _ 1]
      obtain ⟨G6, g6, R6, E6⟩ := alloc (.lst ((ls.take 1).map V.int)) h6
      rw [g6]
      have R06 := R05.trans R6
      refine ⟨_, SqL.of (R06 _ _ hsd), fun p7 h7 => ?_⟩
      rw [show cutV xs none (some 1) = xs.take 1 from cutV_upto _ 1]
      obtain ⟨G7, g7, R7, E7⟩ := alloc (.lst (xs.take 1)) h7
      rw [g7]
      refine ⟨sz100 (by decide), fun p8 h8 => ?_⟩
      obtain ⟨G8, g8, R8, E8⟩ := alloc (.tup [V.ref p7, optV g.life]) h8
      rw [g8]
      refine ⟨sz100 (by decide), fun p9 h9 => ?_⟩
      obtain ⟨G9, g9, R9, E9⟩ := alloc (.lst [V.ref p8]) h9
      rw [g9]
      refine ⟨sz100 (by decide), fun p10 h10 => ?_⟩
      obtain ⟨G10, g10, R10, E10⟩ := alloc (.tup [V.ref p6, V.non, V.ref p9]) h10
      rw [g10]
      have R610 := R7.trans (R8.trans (R9.trans R10))
      have R510 := R6.trans R610
      have R010 := R05.trans R510
      have hdf : TkAll (tupsOf G10) (xs.take 1) ((g.days.take 1).map dayD) := by
        have h := (hda.same (tupsOf_mono R010)).take 1
        rw [← List.map_take] at h
        exact h
      have c1 := (bak_parts hb).1.1
      have hFi : Bk1 G10 (.ref p10) ⟨ls.take 1, cutG g 1⟩ := ⟨mk_tk (R610 _ _ E6) ((R8.trans (R9.trans R10)) _ _ E7) hdf ((R9.trans R10) _ _ E8) (R10 _ _ E9) E10, cut_bak hb (by decide) c1⟩
      clear g6 g7 g8 g9 g10 h6 h7 h8 h9 h10 E6 E7 E8 E9 E10
      refine ⟨sz100 (by decide), fun p11 h11 => ?_⟩
      obtain ⟨G11, g11, R11, E11⟩ := alloc (.lst [V.int 2, V.non]) h11
      rw [g11]
      refine ⟨by cases g.life <;> rfl, ?_⟩
      obtain ⟨o, ho, hol⟩ : ∃ o, atI [V.int 2, V.non] (if decide (optV g.life = V.int 2) = true then 1 else 0) = some (optV o) ∧ lifeB (optD o) = true := by
        by_cases z : optV g.life = V.int 2
        · rw [if_pos (decide_eq_true z)]
          exact ⟨none, rfl, rfl⟩
        · rw [if_neg (by rw [decide_eq_false z]; decide)]
          exact ⟨some 2, rfl, rfl⟩
      refine ⟨_, _, SqL.of E11, ho, sz100 (by decide), fun p12 h12 => ?_⟩
      obtain ⟨G12, g12, R12, E12⟩ := alloc (.tup [V.ref ad, optV o]) h12
      rw [g12]
      refine ⟨sz100 (by decide), fun p13 h13 => ?_⟩
      obtain ⟨G13, g13, R13, E13⟩ := alloc (.lst [V.ref p12]) h13
      rw [g13]
      refine ⟨sz100 (by decide), fun p14 h14 => ?_⟩
      obtain ⟨G14, g14, R14, E14⟩ := alloc (.tup [V.ref al, V.non, V.ref p13]) h14
      rw [g14]
      have R1014 := R11.trans (R12.trans (R13.trans R14))
      have R014 := R010.trans R1014
      have hLo : Bk1 G14 (.ref p14) ⟨ls, ⟨g.days, o⟩⟩ := ⟨mk_tk (R014 _ _ hl) (R014 _ _ hsd) (hda.same (tupsOf_mono R014)) ((R13.trans R14) _ _ E12) (R14 _ _ E13) E14, life_bak hb hol⟩
      exact hN _ _ ⟨ta, al, ga, ad, p5, p10, p14, ⟨ls, g⟩, _, _, _, xs, rfl, (S1.trans R014).seq hS, ⟨hxT0.same R014, hb⟩, hTu.same (R510.trans R1014), hFi.same R1014, hLo, R014 _ _ hl, R014 _ _ hsd, hda.same (tupsOf_mono R014), hn6, by show (ls.take 1).length ≤ 1; rw [List.length_take]; omega⟩
    obtain ⟨ta, al, ga, ad, tu, fi, lo, e, et, ef, el, xs, rfl, hS, hTa, hTu, hFi, hLo, hl, hd, hda, hn6, hf1⟩ := hm.ex
    clear hm
    refine seq2 (M42b K C a ns) (fun σ2 H2 hm => ?_) (fun N hN => ?_)
    rotate_left
    · unfold tMake
      walk_at "wp"
      have mk : ∀ {G : Hp} {v : V} {e : PEn} {R : Addr → Hp → Prop}, Bk1 G v e → (∀ (G' : Hp) (p L D E : Addr), Same G G' → G p = none → G L = none → G D = none → G E = none → Led C G' p L D E e.ls e.g [] → R p G') → ∀ (x dx : Addr), G x = none → G dx = none → dx ≠ x → spLInit K C [V.ref x, v] (upd (upd G dx (.own x)) x (.ins C dx [])) (fun y H3 => y = .non ∧ R x H3) C8.E0 := fun {G v e R} hB k p dx np ndx nex => by
        have s0 : Same G (upd (upd G dx (.own p)) p (.ins C dx [])) := fun b o e => by
          rw [upd_ne (ne_of_none e np), upd_ne (ne_of_none e ndx)]
          exact e
        exact ⟨G, p, dx, v, e.ls, e.g, rfl, s0, np, upd_same, hB.tk, hB.ok, fun G' L D E' S nL nD nE hL => ⟨rfl, k G' p L D E' S np nL nD nE hL⟩⟩
      refine mk hTa (fun A0 r0 L0 D0 E0 W0 np0 nL0 nD0 nE0 hL0 => ?_)
      have T0 : Same H1 A0 := W0
      refine mk (hTa.same T0) (fun A1 r1 L1 D1 E1 W1 np1 nL1 nD1 nE1 hL1 => ?_)
      have T1 : Same H1 A1 := T0.trans W1
      refine mk (hTu.same T1) (fun A2 r2 L2 D2 E2 W2 np2 nL2 nD2 nE2 hL2 => ?_)
      have T2 : Same H1 A2 := T1.trans W2
      refine mk (hFi.same T2) (fun A3 r3 L3 D3 E3 W3 np3 nL3 nD3 nE3 hL3 => ?_)
      have T3 : Same H1 A3 := T2.trans W3
      refine mk (hLo.same T3) (fun A4 r4 L4 D4 E4 W4 np4 nL4 nD4 nE4 hL4 => ?_)
      have T4 : Same H1 A4 := T3.trans W4
      have ap01 := hL0.apart nL1 nD1 nE1
      have ap02 := (hL0.same W1).apart nL2 nD2 nE2
      have ap03 := (hL0.same (W1.trans W2)).apart nL3 nD3 nE3
      have ap04 := (hL0.same (W1.trans (W2.trans W3))).apart nL4 nD4 nE4
      have ap12 := hL1.apart nL2 nD2 nE2
      have ap13 := (hL1.same W2).apart nL3 nD3 nE3
      have ap14 := (hL1.same (W2.trans W3)).apart nL4 nD4 nE4
      have ap23 := hL2.apart nL3 nD3 nE3
      have ap24 := (hL2.same W3).apart nL4 nD4 nE4
      have ap34 := hL3.apart nL4 nD4 nE4
      refine ⟨sz100 (by decide), fun q1 hq1 => ?_⟩
      obtain ⟨B0, b0, V0, F0⟩ := alloc (.lst [V.ref r0, V.ref r1, V.ref r2, V.ref r3, V.ref r4]) hq1
      rw [b0]
      refine ⟨sz100 (by decide), fun pa0 hp0 => ?_⟩
      obtain ⟨B1, b1, V1, F1⟩ := alloc (.lst [V.ref ta]) hp0
      rw [b1]
      refine ⟨sz100 (by decide), fun pa1 hp1 => ?_⟩
      obtain ⟨B2, b2, V2, F2⟩ := alloc (.lst [V.ref ta]) hp1
      rw [b2]
      refine ⟨sz100 (by decide), fun pa2 hp2 => ?_⟩
      obtain ⟨B3, b3, V3, F3⟩ := alloc (.lst [V.ref tu]) hp2
      rw [b3]
      refine ⟨sz100 (by decide), fun pa3 hp3 => ?_⟩
      obtain ⟨B4, b4, V4, F4⟩ := alloc (.lst [V.ref fi]) hp3
      rw [b4]
      refine ⟨sz100 (by decide), fun pa4 hp4 => ?_⟩
      obtain ⟨B5, b5, V5, F5⟩ := alloc (.lst [V.ref lo]) hp4
      rw [b5]
      refine ⟨sz100 (by decide), fun q2 hq2 => ?_⟩
      obtain ⟨B6, b6, V6, F6⟩ := alloc (.lst [V.ref pa0, V.ref pa1, V.ref pa2, V.ref pa3, V.ref pa4]) hq2
      rw [b6]
      have X0 := V0
      have X1 := X0.trans V1
      have X2 := X1.trans V2
      have X3 := X2.trans V3
      have X4 := X3.trans V4
      have X5 := X4.trans V5
      have X6 := X5.trans V6
      have Y5 := V6
      have Y4 := V5.trans Y5
      have Y3 := V4.trans Y4
      have Y2 := V3.trans Y3
      have Y1 := V2.trans Y2
      have Y0 := V1.trans Y1
      have hM0 := hL0.same (W1.trans (W2.trans (W3.trans W4)))
      have hM1 := hL1.same (W2.trans (W3.trans W4))
      have hM2 := hL2.same (W3.trans W4)
      have hM3 := hL3.same W4
      have hM4 := hL4
      have nq0 := hM0.not_new hq1
      have n00 := (hM0.same X0).not_new hp0
      have n01 := (hM0.same X1).not_new hp1
      have n02 := (hM0.same X2).not_new hp2
      have n03 := (hM0.same X3).not_new hp3
      have n04 := (hM0.same X4).not_new hp4
      have nq1 := hM1.not_new hq1
      have n10 := (hM1.same X0).not_new hp0
      have n11 := (hM1.same X1).not_new hp1
      have n12 := (hM1.same X2).not_new hp2
      have n13 := (hM1.same X3).not_new hp3
      have n14 := (hM1.same X4).not_new hp4
      have nq2 := hM2.not_new hq1
      have n20 := (hM2.same X0).not_new hp0
      have n21 := (hM2.same X1).not_new hp1
      have n22 := (hM2.same X2).not_new hp2
      have n23 := (hM2.same X3).not_new hp3
      have n24 := (hM2.same X4).not_new hp4
      have nq3 := hM3.not_new hq1
      have n30 := (hM3.same X0).not_new hp0
      have n31 := (hM3.same X1).not_new hp1
      have n32 := (hM3.same X2).not_new hp2
      have n33 := (hM3.same X3).not_new hp3
      have n34 := (hM3.same X4).not_new hp4
      have nq4 := hM4.not_new hq1
      have n40 := (hM4.same X0).not_new hp0
      have n41 := (hM4.same X1).not_new hp1
      have n42 := (hM4.same X2).not_new hp2
      have n43 := (hM4.same X3).not_new hp3
      have n44 := (hM4.same X4).not_new hp4
      clear b0 b1 b2 b3 b4 b5 b6
      have hN0 := hM0.same X6
      have hN1 := hM1.same X6
      have hN2 := hM2.same X6
      have hN3 := hM3.same X6
      have hN4 := hM4.same X6
      have P0 := Y1 _ _ F1
      have P1 := Y2 _ _ F2
      have P2 := Y3 _ _ F3
      have P3 := Y4 _ _ F4
      have P4 := Y5 _ _ F5
      have Q1 := Y0 _ _ F0
      have d01 : pa1 ≠ pa0 := fun z => by have h := hp1; rw [z] at h; rw [F1] at h; cases h
      have d02 : pa2 ≠ pa0 := fun z => by have h := hp2; rw [z] at h; rw [V2 _ _ F1] at h; cases h
      have d03 : pa3 ≠ pa0 := fun z => by have h := hp3; rw [z] at h; rw [(V2.trans V3) _ _ F1] at h; cases h
      have d04 : pa4 ≠ pa0 := fun z => by have h := hp4; rw [z] at h; rw [((V2.trans V3).trans V4) _ _ F1] at h; cases h
      have d12 : pa2 ≠ pa1 := fun z => by have h := hp2; rw [z] at h; rw [F2] at h; cases h
      have d13 : pa3 ≠ pa1 := fun z => by have h := hp3; rw [z] at h; rw [V3 _ _ F2] at h; cases h
      have d14 : pa4 ≠ pa1 := fun z => by have h := hp4; rw [z] at h; rw [(V3.trans V4) _ _ F2] at h; cases h
      have d23 : pa3 ≠ pa2 := fun z => by have h := hp3; rw [z] at h; rw [F3] at h; cases h
      have d24 : pa4 ≠ pa2 := fun z => by have h := hp4; rw [z] at h; rw [V4 _ _ F3] at h; cases h
      have d34 : pa4 ≠ pa3 := fun z => by have h := hp4; rw [z] at h; rw [F4] at h; cases h
      have dq0 : q1 ≠ pa0 := fun z => by have h := hp0; rw [← z] at h; rw [F0] at h; cases h
      have dq1 : q1 ≠ pa1 := fun z => by have h := hp1; rw [← z] at h; rw [V1 _ _ F0] at h; cases h
      have dq2 : q1 ≠ pa2 := fun z => by have h := hp2; rw [← z] at h; rw [(V1.trans V2) _ _ F0] at h; cases h
      have dq3 : q1 ≠ pa3 := fun z => by have h := hp3; rw [← z] at h; rw [((V1.trans V2).trans V3) _ _ F0] at h; cases h
      have dq4 : q1 ≠ pa4 := fun z => by have h := hp4; rw [← z] at h; rw [(((V1.trans V2).trans V3).trans V4) _ _ F0] at h; cases h
      obtain ⟨t0, et0⟩ : ∃ t : Pl, t = ⟨r0, L0, D0, E0, pa0⟩ := ⟨_, rfl⟩
      obtain ⟨t1, et1⟩ : ∃ t : Pl, t = ⟨r1, L1, D1, E1, pa1⟩ := ⟨_, rfl⟩
      obtain ⟨t2, et2⟩ : ∃ t : Pl, t = ⟨r2, L2, D2, E2, pa2⟩ := ⟨_, rfl⟩
      obtain ⟨t3, et3⟩ : ∃ t : Pl, t = ⟨r3, L3, D3, E3, pa3⟩ := ⟨_, rfl⟩
      obtain ⟨t4, et4⟩ : ∃ t : Pl, t = ⟨r4, L4, D4, E4, pa4⟩ := ⟨_, rfl⟩
      obtain ⟨S, eS⟩ : ∃ S : List Addr, S = t0.S ++ (t1.S ++ (t2.S ++ (t3.S ++ t4.S))) := ⟨_, rfl⟩
      have z0 : ∀ b ∈ t0.S, H1 b = none := fun b hb => by
        rw [et0] at hb
        simp only [Pl.S, List.mem_cons, List.not_mem_nil, or_false] at hb
        rcases hb with rfl | rfl | rfl | rfl
        · exact nL0
        · exact nD0
        · exact nE0
        · exact (T4.trans X0).free hp0
      have l50 : Lsts B5 t0.S := fun b hb => by
        rw [et0] at hb
        simp only [Pl.S, List.mem_cons, List.not_mem_nil, or_false] at hb
        rcases hb with rfl | rfl | rfl | rfl
        · exact (hM0.same X5).lists _ (by simp)
        · exact (hM0.same X5).lists _ (by simp)
        · exact (hM0.same X5).lists _ (by simp)
        · exact ⟨_, (((V2.trans V3).trans V4).trans V5) _ _ F1⟩
      have ls0 : Lsts B6 t0.S := fun b hb => let ⟨xs, h⟩ := l50 b hb; ⟨xs, V6 _ _ h⟩
      have sb0 : ∀ a ∈ t0.S, a ∈ S := fun a ha => by rw [eS]; exact List.mem_append_left _ ha
      have z1 : ∀ b ∈ t1.S, H1 b = none := fun b hb => by
        rw [et1] at hb
        simp only [Pl.S, List.mem_cons, List.not_mem_nil, or_false] at hb
        rcases hb with rfl | rfl | rfl | rfl
        · exact T0.free nL1
        · exact T0.free nD1
        · exact T0.free nE1
        · exact (T4.trans X1).free hp1
      have l51 : Lsts B5 t1.S := fun b hb => by
        rw [et1] at hb
        simp only [Pl.S, List.mem_cons, List.not_mem_nil, or_false] at hb
        rcases hb with rfl | rfl | rfl | rfl
        · exact (hM1.same X5).lists _ (by simp)
        · exact (hM1.same X5).lists _ (by simp)
        · exact (hM1.same X5).lists _ (by simp)
        · exact ⟨_, ((V3.trans V4).trans V5) _ _ F2⟩
      have ls1 : Lsts B6 t1.S := fun b hb => let ⟨xs, h⟩ := l51 b hb; ⟨xs, V6 _ _ h⟩
      have sb1 : ∀ a ∈ t1.S, a ∈ S := fun a ha => by rw [eS]; exact List.mem_append_right _ (List.mem_append_left _ ha)
      have z2 : ∀ b ∈ t2.S, H1 b = none := fun b hb => by
        rw [et2] at hb
        simp only [Pl.S, List.mem_cons, List.not_mem_nil, or_false] at hb
        rcases hb with rfl | rfl | rfl | rfl
        · exact T1.free nL2
        · exact T1.free nD2
        · exact T1.free nE2
        · exact (T4.trans X2).free hp2
      have l52 : Lsts B5 t2.S := fun b hb => by
        rw [et2] at hb
        simp only [Pl.S, List.mem_cons, List.not_mem_nil, or_false] at hb
        rcases hb with rfl | rfl | rfl | rfl
        · exact (hM2.same X5).lists _ (by simp)
        · exact (hM2.same X5).lists _ (by simp)
        · exact (hM2.same X5).lists _ (by simp)
        · exact ⟨_, (V4.trans V5) _ _ F3⟩
      have ls2 : Lsts B6 t2.S := fun b hb => let ⟨xs, h⟩ := l52 b hb; ⟨xs, V6 _ _ h⟩
      have sb2 : ∀ a ∈ t2.S, a ∈ S := fun a ha => by rw [eS]; exact List.mem_append_right _ (List.mem_append_right _ (List.mem_append_left _ ha))
      have z3 : ∀ b ∈ t3.S, H1 b = none := fun b hb => by
        rw [et3] at hb
        simp only [Pl.S, List.mem_cons, List.not_mem_nil, or_false] at hb
        rcases hb with rfl | rfl | rfl | rfl
        · exact T2.free nL3
        · exact T2.free nD3
        · exact T2.free nE3
        · exact (T4.trans X3).free hp3
      have l53 : Lsts B5 t3.S := fun b hb => by
        rw [et3] at hb
        simp only [Pl.S, List.mem_cons, List.not_mem_nil, or_false] at hb
        rcases hb with rfl | rfl | rfl | rfl
        · exact (hM3.same X5).lists _ (by simp)
        · exact (hM3.same X5).lists _ (by simp)
        · exact (hM3.same X5).lists _ (by simp)
        · exact ⟨_, V5 _ _ F4⟩
      have ls3 : Lsts B6 t3.S := fun b hb => let ⟨xs, h⟩ := l53 b hb; ⟨xs, V6 _ _ h⟩
      have sb3 : ∀ a ∈ t3.S, a ∈ S := fun a ha => by rw [eS]; exact List.mem_append_right _ (List.mem_append_right _ (List.mem_append_right _ (List.mem_append_left _ ha)))
      have z4 : ∀ b ∈ t4.S, H1 b = none := fun b hb => by
        rw [et4] at hb
        simp only [Pl.S, List.mem_cons, List.not_mem_nil, or_false] at hb
        rcases hb with rfl | rfl | rfl | rfl
        · exact T3.free nL4
        · exact T3.free nD4
        · exact T3.free nE4
        · exact (T4.trans X4).free hp4
      have l54 : Lsts B5 t4.S := fun b hb => by
        rw [et4] at hb
        simp only [Pl.S, List.mem_cons, List.not_mem_nil, or_false] at hb
        rcases hb with rfl | rfl | rfl | rfl
        · exact (hM4.same X5).lists _ (by simp)
        · exact (hM4.same X5).lists _ (by simp)
        · exact (hM4.same X5).lists _ (by simp)
        · exact ⟨_, F5⟩
      have ls4 : Lsts B6 t4.S := fun b hb => let ⟨xs, h⟩ := l54 b hb; ⟨xs, V6 _ _ h⟩
      have sb4 : ∀ a ∈ t4.S, a ∈ S := fun a ha => by rw [eS]; exact List.mem_append_right _ (List.mem_append_right _ (List.mem_append_right _ (List.mem_append_right _ (ha))))
      have hSn : ∀ b ∈ S, H1 b = none := fun b hb => by
        rw [eS] at hb
        simp only [List.mem_append] at hb
        rcases hb with h | h | h | h | h
        · exact z0 b h
        · exact z1 b h
        · exact z2 b h
        · exact z3 b h
        · exact z4 b h
      have hSl : Lsts B6 S := by
        rw [eS]
        exact lst_app ls0 (lst_app ls1 (lst_app ls2 (lst_app ls3 ls4)))
      have TB : Same H1 (but S B6) := but_all hSn (T4.trans X6)
      have K0 : P9 K C S B6 t0 [.ref ta] e [] := by
        subst et0
        exact ⟨hN0, P0, .one ⟨(hTa.tk.same TB).th, hTa.ok⟩, n00, sb0⟩
      have K1 : P9 K C S B6 t1 [.ref ta] e [] := by
        subst et1
        exact ⟨hN1, P1, .one ⟨(hTa.tk.same TB).th, hTa.ok⟩, n11, sb1⟩
      have K2 : P9 K C S B6 t2 [.ref tu] et [] := by
        subst et2
        exact ⟨hN2, P2, .one ⟨(hTu.tk.same TB).th, hTu.ok⟩, n22, sb2⟩
      have K3 : P9 K C S B6 t3 [.ref fi] ef [] := by
        subst et3
        exact ⟨hN3, P3, .one ⟨(hFi.tk.same TB).th, hFi.ok⟩, n33, sb3⟩
      have K4 : P9 K C S B6 t4 [.ref lo] el [] := by
        subst et4
        exact ⟨hN4, P4, .one ⟨(hLo.tk.same TB).th, hLo.ok⟩, n44, sb4⟩
      have app01 : (∀ a ∈ t0.S, a ∉ t1.S) ∧ ∀ a ∈ t1.S, a ∉ t0.S := by
        subst et0 et1
        exact ap_of ap01 n10 n01 d01
      have app02 : (∀ a ∈ t0.S, a ∉ t2.S) ∧ ∀ a ∈ t2.S, a ∉ t0.S := by
        subst et0 et2
        exact ap_of ap02 n20 n02 d02
      have app03 : (∀ a ∈ t0.S, a ∉ t3.S) ∧ ∀ a ∈ t3.S, a ∉ t0.S := by
        subst et0 et3
        exact ap_of ap03 n30 n03 d03
      have app04 : (∀ a ∈ t0.S, a ∉ t4.S) ∧ ∀ a ∈ t4.S, a ∉ t0.S := by
        subst et0 et4
        exact ap_of ap04 n40 n04 d04
      have app12 : (∀ a ∈ t1.S, a ∉ t2.S) ∧ ∀ a ∈ t2.S, a ∉ t1.S := by
        subst et1 et2
        exact ap_of ap12 n21 n12 d12
      have app13 : (∀ a ∈ t1.S, a ∉ t3.S) ∧ ∀ a ∈ t3.S, a ∉ t1.S := by
        subst et1 et3
        exact ap_of ap13 n31 n13 d13
      have app14 : (∀ a ∈ t1.S, a ∉ t4.S) ∧ ∀ a ∈ t4.S, a ∉ t1.S := by
        subst et1 et4
        exact ap_of ap14 n41 n14 d14
      have app23 : (∀ a ∈ t2.S, a ∉ t3.S) ∧ ∀ a ∈ t3.S, a ∉ t2.S := by
        subst et2 et3
        exact ap_of ap23 n32 n23 d23
      have app24 : (∀ a ∈ t2.S, a ∉ t4.S) ∧ ∀ a ∈ t4.S, a ∉ t2.S := by
        subst et2 et4
        exact ap_of ap24 n42 n24 d24
      have app34 : (∀ a ∈ t3.S, a ∉ t4.S) ∧ ∀ a ∈ t4.S, a ∉ t3.S := by
        subst et3 et4
        exact ap_of ap34 n43 n34 d34
      obtain ⟨X, eX⟩ : ∃ X : List Led9, X = [⟨t0, [.ref ta], e, []⟩, ⟨t1, [.ref ta], e, []⟩, ⟨t2, [.ref tu], et, []⟩, ⟨t3, [.ref fi], ef, []⟩, ⟨t4, [.ref lo], el, []⟩] := ⟨_, rfl⟩
      have hX5 : X.length = 5 := by rw [eX]; rfl
      have hXP : ∀ x ∈ X, P9 K C S B6 x.t x.vs x.e x.ds := fun x hx => by
        rw [eX] at hx
        simp only [List.mem_cons, List.not_mem_nil, or_false] at hx
        rcases hx with rfl | rfl | rfl | rfl | rfl
        · exact K0
        · exact K1
        · exact K2
        · exact K3
        · exact K4
      have hXd : ∀ x ∈ X, x.ds = [] := fun x hx => by
        rw [eX] at hx
        simp only [List.mem_cons, List.not_mem_nil, or_false] at hx
        rcases hx with rfl | rfl | rfl | rfl | rfl <;> rfl
      have hXq : ∀ x ∈ X, q1 ∉ x.t.S ∧ q2 ∉ x.t.S := fun x hx => by
        rw [eX] at hx
        simp only [List.mem_cons, List.not_mem_nil, or_false] at hx
        rcases hx with rfl | rfl | rfl | rfl | rfl
        · refine ⟨?_, ?_⟩
          · intro z
            rw [et0] at z
            simp only [Pl.S] at z
            rcases List.mem_cons.mp z with z | z
            · exact nq0 (by rw [z]; simp)
            · simp only [List.mem_cons, List.not_mem_nil, or_false] at z nq0
              rcases z with z | z | z
              · exact nq0 (.inr (.inl z))
              · exact nq0 (.inr (.inr z))
              · exact dq0 z
          · exact not_new l50 hq2
        · refine ⟨?_, ?_⟩
          · intro z
            rw [et1] at z
            simp only [Pl.S] at z
            rcases List.mem_cons.mp z with z | z
            · exact nq1 (by rw [z]; simp)
            · simp only [List.mem_cons, List.not_mem_nil, or_false] at z nq1
              rcases z with z | z | z
              · exact nq1 (.inr (.inl z))
              · exact nq1 (.inr (.inr z))
              · exact dq1 z
          · exact not_new l51 hq2
        · refine ⟨?_, ?_⟩
          · intro z
            rw [et2] at z
            simp only [Pl.S] at z
            rcases List.mem_cons.mp z with z | z
            · exact nq2 (by rw [z]; simp)
            · simp only [List.mem_cons, List.not_mem_nil, or_false] at z nq2
              rcases z with z | z | z
              · exact nq2 (.inr (.inl z))
              · exact nq2 (.inr (.inr z))
              · exact dq2 z
          · exact not_new l52 hq2
        · refine ⟨?_, ?_⟩
          · intro z
            rw [et3] at z
            simp only [Pl.S] at z
            rcases List.mem_cons.mp z with z | z
            · exact nq3 (by rw [z]; simp)
            · simp only [List.mem_cons, List.not_mem_nil, or_false] at z nq3
              rcases z with z | z | z
              · exact nq3 (.inr (.inl z))
              · exact nq3 (.inr (.inr z))
              · exact dq3 z
          · exact not_new l53 hq2
        · refine ⟨?_, ?_⟩
          · intro z
            rw [et4] at z
            simp only [Pl.S] at z
            rcases List.mem_cons.mp z with z | z
            · exact nq4 (by rw [z]; simp)
            · simp only [List.mem_cons, List.not_mem_nil, or_false] at z nq4
              rcases z with z | z | z
              · exact nq4 (.inr (.inl z))
              · exact nq4 (.inr (.inr z))
              · exact dq4 z
          · exact not_new l54 hq2
      have hXap : X.Pairwise fun x y => (∀ a ∈ x.t.S, a ∉ y.t.S) ∧ ∀ a ∈ y.t.S, a ∉ x.t.S := by
        rw [eX]
        refine .cons ?_ (.cons ?_ (.cons ?_ (.cons ?_ (.cons ?_ .nil))))
        · intro y hy
          simp only [List.mem_cons, List.not_mem_nil, or_false] at hy
          rcases hy with rfl | rfl | rfl | rfl
          · exact app01
          · exact app02
          · exact app03
          · exact app04
        · intro y hy
          simp only [List.mem_cons, List.not_mem_nil, or_false] at hy
          rcases hy with rfl | rfl | rfl
          · exact app12
          · exact app13
          · exact app14
        · intro y hy
          simp only [List.mem_cons, List.not_mem_nil, or_false] at hy
          rcases hy with rfl | rfl
          · exact app23
          · exact app24
        · intro y hy
          simp only [List.mem_cons, List.not_mem_nil, or_false] at hy
          rcases hy with rfl
          · exact app34
        · intro y hy
          cases hy
      have hFew := few_list ⟨t0, [], e, []⟩ hXP hXap hSl
      have hLg := legs_list X ⟨t0, [], e, []⟩
      have hPs := pass_list X ⟨t0, [], e, []⟩
      obtain ⟨f, ef'⟩ : ∃ f : Nat → Led9, f = fun i => X.getD i ⟨t0, [], e, []⟩ := ⟨_, rfl⟩
      rw [← ef'] at hFew hLg hPs
      rw [hX5] at hFew hLg hPs
      have hfi : ∀ i, i < 5 → f i ∈ X := fun i hi => by
        rw [ef']
        dsimp only
        rw [List.getD_eq_getElem?_getD, List.getElem?_eq_getElem (by omega)]
        exact List.getElem_mem _
      refine hN _ _ ⟨.ref ta, .non, .ref ga, optV e.g.life, .ref tu, .ref fi, .ref lo, al, ad, q1, q2, S, f, e, xs, rfl, ⟨hFew, ?_, ?_, fun i hi => (hXq _ (hfi i hi)).1, fun i hi => (hXq _ (hfi i hi)).2, fun i hi => by rw [hXd _ (hfi i hi)]; exact Nat.le_refl _, Same.refl _⟩, ?_, TB.seq hS, TB _ _ hl, TB _ _ hd, hda.same (tupsOf_mono (T4.trans X6)), hn6, hTa.ok⟩
      · rw [hLg, Q1, eX, et0, et1, et2, et3, et4]
        rfl
      · rw [hPs, F6, eX, et0, et1, et2, et3, et4]
        rfl
      · rw [ef', eX]
        exact hf1
    obtain ⟨x1, x3, x4, x6, x7, x8, x9, al, ad, q1, q2, S, f, e, xs, rfl, hR, h31, hSa, hal, had, hda, hn6, hok⟩ := hm.ex
    clear hm hTa hTu hFi hLo hl hd hf1
    refine seq1 (fun σ' H' => (∃ y12 y13, σ' = [some (.ref a), some x1, some (.ref al), some x3, some x4, some (.ref ad), some x6, some x7, some x8, some x9, some (.ref q1), some (.ref q2), y12, y13, none, none, none, none]) ∧ ∃ f, Run9 K C 5 S q1 q2 6 H2 H' f) (fun σ3 H3 hm => ?_) (fun N hN => ?_)
    rotate_left
    · obtain ⟨⟨c1, c2⟩, c3, _, _, c7⟩ := bak_parts hok
      obtain ⟨c8, c9, hokd⟩ := c7 e.g (List.mem_singleton.mpr rfl)
      dsimp only at c1 c2 c3 c8
      have hxl := hda.length
      rw [List.length_map] at hxl
      have hSl := hR.few.lst
      walk_at "wp"
      refine ⟨_, SqL.of (but_is hal).2, fun p1 h1 => ?_⟩
      rw [show cutV (e.ls.map V.int) (some 1) none = (e.ls.drop 1).map V.int by rw [List.map_drop]; exact cutV_from _ 1]
      obtain ⟨G1, g1, R1, E1⟩ := alloc (.lst ((e.ls.drop 1).map V.int)) h1
      rw [g1]
      refine ⟨_, SqL.of (R1 _ _ (but_is had).2), fun p2 h2 => ?_⟩
      rw [show cutV xs (some 1) none = xs.drop 1 from cutV_from _ 1]
      obtain ⟨G2, g2, R2, E2⟩ := alloc (.lst (xs.drop 1)) h2
      rw [g2]
      have R02 := R1.trans R2
      have n1 := nS_of hSl (Same.refl _) h1
      have n2 := nS_of hSl R1 h2
      have E1 := R2 _ _ E1
      clear g1 g2 h1 h2
      refine ⟨_, _, SqL.of E1, SqL.of E2, ?_⟩
      refine LoopR.by (walk_zip (n := e.ls.length - 1) (xs := (e.ls.drop 1).map V.int) (ys := xs.drop 1) (by rw [List.length_map, List.length_drop, List.length_drop]; omega)) (fun i σ H' => (∃ y12 y13, σ = [some (.ref a), some x1, some (.ref al), some x3, some x4, some (.ref ad), some x6, some x7, some x8, some x9, some (.ref q1), some (.ref q2), y12, y13, none, none, none, none]) ∧ ∃ f, Run9 K C 5 S q1 q2 i G2 H' f ∧ (f 3).e.ls.length ≤ i + 1) ⟨⟨_, _, rfl⟩, f, ?_, h31⟩ (fun i σ H' _ hI => ?_) (fun i v σ H0 H11 hi hI yy => ?_) (fun σ H11 hI => ?_)
      · have := hR.same R02
        exact ⟨this.few, this.h1, this.h2, this.n1, this.n2, this.short, Same.refl _⟩
      · obtain ⟨_, f, hR, _⟩ := hI
        exact ⟨SqL.of (but_is (hR.fr _ _ (but_at n1 E1))).2, SqL.of (but_is (hR.fr _ _ (but_at n2 E2))).2⟩
      · obtain ⟨⟨y12, y13, rfl⟩, f, hR, h3⟩ := hI
        have SY := ypair_same yy
        obtain ⟨T, z1, z2, rfl, hT, rfl, e1, e2⟩ := yy
        have e1 : ((e.ls.drop 1).map V.int)[i]? = some z1 := e1
        have e2 : (xs.drop 1)[i]? = some z2 := e2
        rw [List.getElem?_map, List.getElem?_drop, Nat.add_comm 1 i] at e1
        rw [List.getElem?_drop, Nat.add_comm 1 i] at e2
        obtain ⟨z, hz, rfl⟩ := Option.map_eq_some_iff.mp e1
        have hdi : e.g.days[i + 1]? = some e.g.days[i + 1] := List.getElem?_eq_getElem (by omega)
        have hdm := List.getElem_mem (show i + 1 < e.g.days.length by omega)
        generalize e.g.days[i + 1] = d at hdi hdm
        obtain ⟨vd, hvd, tt, rfl, htd⟩ := day_at hda hdi
        rw [hvd] at e2
        cases e2
        have eT : upd H0 T (.tup [V.int z, .ref tt]) T = some (.tup [V.int z, .ref tt]) := upd_same
        have hR := hR.same SY
        generalize upd H0 T (.tup [V.int z, .ref tt]) = H11 at SY eT hR ⊢
        have hSl := hR.few.lst
        have ntt : tt ∉ S := fun w => by
          obtain ⟨ys, hy⟩ := ‹Run9 K C 5 S q1 q2 0 H2 H2 _›.few.lst tt w
          rw [htd] at hy
          cases hy
        have htdS := hR.fr _ _ (but_at ntt (R02 _ _ htd))
        have hP := hR.few.all 3 (by decide)
        have hds := hR.short 3 (by decide)
        generalize hft : (f 3).t = t at hP
        generalize hfe : (f 3).e = ee at hP h3
        generalize hfv : (f 3).vs = us at hP
        generalize hfd : (f 3).ds = ds at hP hds
        walk_at "wp"
        refine ⟨_, SqT.of eT, rfl, ?_⟩
        walk_at "wp"
        refine ⟨_, _, SqL.of hR.h1, atI_nat (j := 3) (legs_at (by decide)), ?_⟩
        rw [hft]
        refine ⟨hP.led.isObj, ?_⟩
        refine ⟨t.p, t.L, t.D, t.E, ee.ls, ee.g, ds, z, tt, d, rfl, hP.led, by omega, (but_is htdS).2, c3 z (List.mem_of_getElem? hz), hokd d hdm, by omega, fun H5 S5 hL5 => ?_⟩
        walk_at "wp"
        have q2t : q2 ∉ t.S := by
          have := hR.n2 3 (by decide)
          rw [hft] at this
          exact this
        have hq5 := (but_is (S5 _ _ (but_at (fun w => q2t (Pl.three t _ w)) hR.h2))).2
        have T45 := P9.three t S5
        have U45 := but_sub hP.sub T45
        have hpa5 := (but_is (S5 _ _ (but_at hP.pn hP.hpa))).2
        have hS5 : Lsts H5 S := lists_step (u := t) (H := H11) hSl (fun b hb => by
          simp only [Pl.S, List.mem_cons, List.not_mem_nil, or_false] at hb
          rcases hb with z | z | z | rfl
          · exact hL5.lists b (by rw [z]; simp)
          · exact hL5.lists b (by rw [z]; simp)
          · exact hL5.lists b (by rw [z]; simp)
          · exact ⟨_, hpa5⟩) T45
        have hp3 : (pass 5 f)[3]? = some (.ref t.pa) := by rw [pass_at (by decide), hft]
        obtain ⟨us0, v, b, eu, hv⟩ := hP.past.last
        have hnn := hv.nat
        obtain ⟨hx, hokx⟩ := hv
        refine ⟨_, _, SqL.of hq5, atI_nat (j := 3) hp3, tyL (SqL.of hpa5), _, _, SqL.of hq5, atI_nat (j := 3) hp3, ?_⟩
        walk_at "wp"
        refine ⟨_, _, SqL.of hpa5, atI_last (m := us0.length) (by rw [eu, List.length_append]; rfl) (by rw [eu, List.getElem?_concat_length]), ?_⟩
        refine ⟨v, ee.ls, ee.g, z, tt, d, S, rfl, hS5, hx.same U45, by omega, by omega, SqT.of (U45 _ _ htdS), fun H6 y S6 hy => ?_⟩
        have hpa6 := S6 _ _ hpa5
        have hlu : us.length ≤ 501 := by rw [hP.past.len]; omega
        refine ⟨us, hpa6, sz100l (by omega), ⟨_, _, rfl, rfl⟩, ?_⟩
        have hL6 := hL5.same S6
        have U46 := U45.trans (but_mono S6)
        have T46 := T45.trans (but_mono S6)
        have hP6 := P9.put (vs := us ++ [y]) hL6 hpa6 (.add (hP.past.same U46) ⟨hy, hL5.ok⟩) hP.pn hP.sub
        have hst := hR.step (j := 3) (by decide) (vs := us ++ [y]) (e := ⟨ee.ls ++ [z], addG ee.g d⟩) (ds := ds ++ [none]) (H' := upd H6 t.pa (.lst (us ++ [y]))) (by rw [hft]; exact hP6) (by rw [hft, but_upd (Pl.pa_mem t)]; exact T46) (by rw [hfd, List.length_append]; exact Nat.le_refl _)
        refine ⟨_, hst, ?_⟩
        rw [set9_at]
        show (ee.ls ++ [z]).length ≤ i + 1 + 1
        rw [List.length_append, List.length_singleton]
        omega
      · obtain ⟨⟨y12, y13, rfl⟩, f, hR, h3⟩ := hI
        have := hR.more (show e.ls.length - 1 ≤ 6 by omega)
        exact hN _ _ ⟨⟨_, _, rfl⟩, f, this.few, this.h1, this.h2, this.n1, this.n2, this.short, (but_mono R02).trans this.fr⟩
    obtain ⟨⟨y12, y13, rfl⟩, f, hR⟩ := hm
    refine seq1 (fun σ' H' => (∃ y12 y13, σ' = [some (.ref a), some x1, some (.ref al), some x3, some x4, some (.ref ad), some x6, some x7, some x8, some x9, some (.ref q1), some (.ref q2), y12, y13, none, none, none, none]) ∧ ∃ f, Run9 K C 5 S q1 q2 6 H2 H' f) (fun σ4 H4 hm => ?_) (fun N hN => ?_)
    rotate_left
    · walk_at "wp"
      refine ⟨q1, q2, 5, S, f, rfl, by decide, hR.few, hR.h1, hR.h2, fun H4 S4 => ⟨true, rfl, ?_⟩⟩
      rw [if_neg (by decide)]
      exact hN _ _ ⟨⟨_, _, rfl⟩, f, hR.same S4⟩
    clear hR
    obtain ⟨⟨y12, y13, rfl⟩, f, hR⟩ := hm
    refine seq1 (fun σ' H' => (∃ y12 y13 y14 y15 y16, σ' = [some (.ref a), some x1, some (.ref al), some x3, some x4, some (.ref ad), some x6, some x7, some x8, some x9, some (.ref q1), some (.ref q2), y12, y13, y14, y15, y16, none]) ∧ ∃ f, Run9 K C 5 S q1 q2 60 H2 H' f) (fun σ5 H5 hm => ?_) (fun N hN => ?_)
    rotate_left
    · walk_at "wp"
      have hS4 := (but_same S H4).seq (hR.fr.seq hSa)
      have hSl := hR.few.lst
      refine ⟨sz100 (by decide), fun p8 h8 => ?_⟩
      obtain ⟨G1, g1, R1, E1⟩ := alloc (.lst [V.int 3]) h8
      rw [g1]
      refine ⟨_, R1.seq hS4, fun p9 h9 => ?_⟩
      obtain ⟨cs, hcs, hcl⟩ : ∃ cs : List Int, (ns.drop 7).take 50 = cs ∧ cs.length ≤ 50 := ⟨_, rfl, by rw [List.length_take]; omega⟩
      rw [show cutV (ns.map V.int) (some 7) (some 57) = cs.map V.int by rw [← hcs, List.map_take, List.map_drop]; exact cutV_nat _ 7 57]
      obtain ⟨G2, g2, R2, E2⟩ := alloc (.lst (cs.map V.int)) h9
      rw [g2]
      refine ⟨_, _, SqL.of (R2 _ _ E1), SqL.of E2, sz100 (by rw [List.length_map]; show 1 + cs.length ≤ 100000; omega), fun p10 h10 => ?_⟩
      rw [show [V.int 3] ++ cs.map V.int = (3 :: cs).map V.int from rfl]
      obtain ⟨G3, g3, R3, E3⟩ := alloc (.lst ((3 :: cs).map V.int)) h10
      rw [g3]
      have R03 := R1.trans (R2.trans R3)
      have n3 := nS_of hSl (R1.trans R2) h10
      have hR := hR.same R03
      clear g1 g2 g3 h8 h9 h10
      walk_at "wp"
      refine ⟨_, SqL.of E3, ?_⟩
      refine LoopR.by (walk_enum (xs := (3 :: cs).map V.int)) (fun i σ H' => (∃ y12 y13 y14 y15 y16, σ = [some (.ref a), some x1, some (.ref al), some x3, some x4, some (.ref ad), some x6, some x7, some x8, some x9, some (.ref q1), some (.ref q2), y12, y13, y14, y15, y16, none]) ∧ ∃ f, Run9 K C 5 S q1 q2 (6 + i) H2 H' f ∧ Same (but S G3) (but S H')) ⟨⟨_, _, _, _, _, rfl⟩, f, hR, Same.refl _⟩ (fun i σ H' _ hI => ?_) (fun i v σ H0 H11 hi hI yy => ?_) (fun σ H11 hI => ?_)
      · obtain ⟨_, f, hR, hs⟩ := hI
        exact SqL.of (but_is (hs _ _ (but_at n3 E3))).2
      · obtain ⟨⟨y12, y13, y14, y15, y16, rfl⟩, f, hR, hs⟩ := hI
        have SY := ypair_same yy
        obtain ⟨T, z1, z2, rfl, hT, rfl, e1, e2⟩ := yy
        cases e1
        have e2 : ((3 :: cs).map V.int)[i]? = some z2 := e2
        rw [List.getElem?_map] at e2
        obtain ⟨cc, hcc, rfl⟩ := Option.map_eq_some_iff.mp e2
        rw [List.length_map, List.length_cons] at hi
        walk_at "wp"
        refine ⟨_, SqT.of upd_same, rfl, ?_⟩
        have hR := hR.same SY
        have hs := hs.trans (but_mono (S := S) SY)
        generalize upd H0 T (.tup [V.int (i : Int), V.int cc]) = H12 at SY hR hs ⊢
        walk_at "wp"
        refine ⟨sz100 (by decide), fun p11 h11 => ?_⟩
        refine ⟨cc, 4220 + (i : Int), p11, [4, 6, 9, 5, 4, 4, 4, 4], rfl, SqL.of upd_same, by omega, by omega, by decide, by decide +kernel, fun H13 pe fs S13 hpe hDg hfs => ?_⟩
        have npe : pe ∉ S := nS_of hR.few.lst (same_upd h11) hpe
        have S13 := (same_upd h11).trans S13
        clear h11
        obtain ⟨g0, g1, g2, g3, g4, g5, g6, g7, rfl⟩ : ∃ g0 g1 g2 g3 g4 g5 g6 g7, fs = [g0, g1, g2, g3, g4, g5, g6, g7] := by
          match fs, hDg.1 with
          | [g0, g1, g2, g3, g4, g5, g6, g7], _ => exact ⟨g0, g1, g2, g3, g4, g5, g6, g7, rfl⟩
        have d0 := hDg.2 0 g0 4 rfl rfl
        have d1 := hDg.2 1 g1 6 rfl rfl
        have d2 := hDg.2 2 g2 9 rfl rfl
        have d3 := hDg.2 3 g3 5 rfl rfl
        have d4 := hDg.2 4 g4 4 rfl rfl
        have d5 := hDg.2 5 g5 4 rfl rfl
        have d6 := hDg.2 6 g6 4 rfl rfl
        have d7 := hDg.2 7 g7 4 rfl rfl
        have hR := hR.same S13
        have hs := hs.trans (but_mono (S := S) S13)
        have hSl := hR.few.lst
        obtain ⟨j, rfl, hj⟩ : ∃ j : Nat, g0 = (j : Int) ∧ j < 5 := ⟨g0.toNat, by omega, by omega⟩
        have hP := hR.few.all j hj
        have hds := hR.short j hj
        walk_at "wp"
        refine ⟨_, _, SqL.of hfs, atI_nat (j := 0) rfl, ?_⟩
        walk_at "wp"
        refine ⟨_, _, SqL.of hR.h1, atI_nat (legs_at hj), ?_⟩
        refine ⟨_, _, SqL.of hfs, atI_nat (j := 0) rfl, ?_⟩
        walk_at "wp"
        refine ⟨_, _, SqL.of hR.h2, atI_nat (pass_at hj), ?_⟩
        refine ⟨(f j).t, pe, S, (f j).vs, (f j).e, (f j).ds, (j : Int), g1, g2, g3, g4, g5, g6, g7, rfl, hP, hSl, SqL.of (but_at npe hfs), ?_, by omega, fun H14 us' e' ds' hP' S14 hds' => ?_⟩
        · intro z hz
          simp only [List.mem_cons, List.not_mem_nil, or_false] at hz
          rcases hz with rfl | rfl | rfl | rfl | rfl | rfl | rfl | rfl <;> omega
        have hst := hR.step hj hP' S14 hds'
        have hs2 := hs.trans (but_sub hP.sub S14)
        walk_at "wp"
        refine ⟨q1, q2, 5, S, _, rfl, by decide, hst.few, hst.h1, hst.h2, fun H15 S15 => ⟨true, rfl, ?_⟩⟩
        rw [if_neg (by decide)]
        exact ⟨⟨_, _, _, _, _, rfl, rfl, rfl, rfl, rfl⟩, _, hst.same S15, hs2.trans (but_mono S15)⟩
      · obtain ⟨⟨y12, y13, y14, y15, y16, rfl⟩, f, hR, hs⟩ := hI
        exact hN _ _ ⟨⟨_, _, _, _, _, rfl⟩, f, hR.more (by rw [List.length_map, List.length_cons]; omega)⟩
    clear hR
    obtain ⟨⟨y12, y13, y14, y15, y16, rfl⟩, f, hR⟩ := hm
    unfold tMake
    walk_at "wp"
    refine ⟨⟨_, SqL.of hR.h1⟩, ?_⟩
    refine LoopR.by (walk_list (xs := legs 5 f)) (fun i σ H' => (∃ y17, σ = [some (.ref a), some x1, some (.ref al), some x3, some x4, some (.ref ad), some x6, some x7, some x8, some x9, some (.ref q1), some (.ref q2), y12, y13, y14, y15, y16, y17]) ∧ Same H5 H') ⟨⟨_, rfl⟩, Same.refl _⟩ (fun i σ H' _ hI => hI.2.seq (SqL.of hR.h1)) (fun i v σ H0 H11 hi hI yy => ?_) (fun σ H11 hI => ?_)
    · obtain ⟨rfl, hxi⟩ := yy
      rw [legs_len] at hi
      rw [legs_at hi] at hxi
      cases hxi
      obtain ⟨⟨y17, rfl⟩, SI⟩ := hI
      have hP := hR.few.all i hi
      obtain ⟨dx, hob⟩ := hP.led.obj
      walk_at "wp"
      refine ⟨(f i).t.p, dx, _, rfl, SI _ _ hob, (f i).t.p, (f i).t.L, (f i).t.D, (f i).t.E, (f i).e.ls, (f i).e.g, (f i).ds, rfl, hP.led.same SI, fun H12 S12 => ⟨_, rfl, ?_⟩⟩
      refine ⟨_, rfl, hP.led.ok, fun H13 p L G ps S13 hp0 ep hO nL nG nps => ?_⟩
      intro p' dx' np ndx nex
      have s0 : Same H13 (upd (upd H13 dx' (.own p')) p' (.ins C dx' [])) := fun b o e => by
        rw [upd_ne (ne_of_none e np), upd_ne (ne_of_none e ndx)]
        exact e
      have hTk : Tk H13 (.ref p) (bakD ⟨(f i).e.ls, none, [(f i).e.g]⟩) := Tk.tup ep (.cons (.lst hO.lights (TkAll.ints _)) (.cons (Tk.optV none) (.cons (.lst hO.list hO.goods.tk) .nil)))
      refine ⟨H13, p', dx', .ref p, _, _, rfl, s0, np, upd_same, hTk, hP.led.ok, fun H14 L2 D2 E2 S14 nL2 nD2 nE2 hL2 => ⟨rfl, ?_⟩⟩
      have SA := SI.trans (S12.trans (S13.trans S14))
      obtain ⟨dy, hob2⟩ := hL2.obj
      refine ⟨(f i).t.p, dx, _, _, rfl, SA _ _ hob, LK.tl _ _ ⟨dy, _, hob2⟩, LK.own, (f i).t.p, (f i).t.L, (f i).t.D, (f i).t.E, (f i).e.ls, (f i).e.g, (f i).ds, _, rfl, hP.led.same SA, .inl ⟨p', L2, D2, E2, _, _, [], rfl, hL2, ?_⟩⟩
      rw [sameB_refl]
      refine ⟨true, rfl, ?_⟩
      rw [if_neg (by decide)]
      exact ⟨⟨_, rfl⟩, SA⟩
    · obtain ⟨⟨y17, rfl⟩, SI⟩ := hI
      walk_at "wp"
      exact q _
end
end Bk

namespace Bk
open PySem PySem.Spec PyProof.Rows L2
theorem all_mk {l : PySem.W.OpenLaw} {w : World} {K : PySem.W.Frag} {h : Heap} {mg : Str → Option Value} {fa f1 f2 f3 f4 f5 f6 f7 f8 f9 f10 f11 f12 f13 f14 f15 f16 f17 f18 f19 f20 f21 f22 f23 f24 f25 f26 f27 f28 f29 f30 f31 f32 f33 f34 f35 f36 f37 f38 f39 f40 f41 f42 f43 f44 f45 f46 f47 f48 f49 f50 f51 f52 f53 f54 f55 : Addr} (X : K.In h) (G : h.Ns mainGlobals mg) (hfa : mg "law" = some (.ref fa))
    {od1 an1 od2 an2 od3 an3 od4 an4 od5 an5 od6 an6 od7 an7 od8 an8 od9 an9 od10 an10 od11 an11 od12 an12 od13 an13 od14 an14 od15 an15 od16 an16 od17 an17 od18 an18 od19 an19 od20 an20 od21 an21 od22 an22 od23 an23 od24 an24 od25 an25 od26 an26 od27 an27 od28 an28 od29 an29 od30 an30 od31 an31 od32 an32 od33 an33 od34 an34 od35 an35 od36 an36 od37 an37 od38 an38 od39 an39 od40 an40 od41 an41 od42 an42 od43 an43 od44 an44 od45 an45 od46 an46 od47 an47 od48 an48 od49 an49 od50 an50 od51 an51 od52 an52 od53 an53 od54 an54 od55 an55 : Option Addr} {sl1 sl2 sl3 sl4 sl5 sl6 sl7 sl8 sl9 sl10 sl11 sl12 sl13 sl14 sl15 sl16 sl17 sl18 sl19 sl20 sl21 sl22 sl23 sl24 sl25 sl26 sl27 sl28 sl29 sl30 sl31 sl32 sl33 sl34 sl35 sl36 sl37 sl38 sl39 sl40 sl41 sl42 sl43 sl44 sl45 sl46 sl47 sl48 sl49 sl50 sl51 sl52 sl53 sl54 sl55 : Array (Option Value)} {oc1 kV1 dc1 pm1 cd1 ct1 oc2 kV2 dc2 pm2 cd2 ct2 oc3 kV3 dc3 pm3 cd3 ct3 oc4 kV4 dc4 pm4 cd4 ct4 oc5 kV5 dc5 pm5 cd5 ct5 oc6 kV6 dc6 pm6 cd6 ct6 oc7 kV7 dc7 pm7 cd7 ct7 oc8 kV8 dc8 pm8 cd8 ct8 oc9 kV9 dc9 pm9 cd9 ct9 oc10 kV10 dc10 pm10 cd10 ct10 oc11 kV11 dc11 pm11 cd11 ct11 oc12 kV12 dc12 pm12 cd12 ct12 oc13 kV13 dc13 pm13 cd13 ct13 oc14 kV14 dc14 pm14 cd14 ct14 oc15 kV15 dc15 pm15 cd15 ct15 oc16 kV16 dc16 pm16 cd16 ct16 oc17 kV17 dc17 pm17 cd17 ct17 oc18 kV18 dc18 pm18 cd18 ct18 oc19 kV19 dc19 pm19 cd19 ct19 oc20 kV20 dc20 pm20 cd20 ct20 oc21 kV21 dc21 pm21 cd21 ct21 oc22 kV22 dc22 pm22 cd22 ct22 oc23 kV23 dc23 pm23 cd23 ct23 oc24 kV24 dc24 pm24 cd24 ct24 oc25 kV25 dc25 pm25 cd25 ct25 oc26 kV26 dc26 pm26 cd26 ct26 oc27 kV27 dc27 pm27 cd27 ct27 oc28 kV28 dc28 pm28 cd28 ct28 oc29 kV29 dc29 pm29 cd29 ct29 oc30 kV30 dc30 pm30 cd30 ct30 oc31 kV31 dc31 pm31 cd31 ct31 oc32 kV32 dc32 pm32 cd32 ct32 oc33 kV33 dc33 pm33 cd33 ct33 oc34 kV34 dc34 pm34 cd34 ct34 oc35 kV35 dc35 pm35 cd35 ct35 oc36 kV36 dc36 pm36 cd36 ct36 oc37 kV37 dc37 pm37 cd37 ct37 oc38 kV38 dc38 pm38 cd38 ct38 oc39 kV39 dc39 pm39 cd39 ct39 oc40 kV40 dc40 pm40 cd40 ct40 oc41 kV41 dc41 pm41 cd41 ct41 oc42 kV42 dc42 pm42 cd42 ct42 oc43 kV43 dc43 pm43 cd43 ct43 oc44 kV44 dc44 pm44 cd44 ct44 oc45 kV45 dc45 pm45 cd45 ct45 oc46 kV46 dc46 pm46 cd46 ct46 oc47 kV47 dc47 pm47 cd47 ct47 oc48 kV48 dc48 pm48 cd48 ct48 oc49 kV49 dc49 pm49 cd49 ct49 oc50 kV50 dc50 pm50 cd50 ct50 oc51 kV51 dc51 pm51 cd51 ct51 oc52 kV52 dc52 pm52 cd52 ct52 oc53 kV53 dc53 pm53 cd53 ct53 oc54 kV54 dc54 pm54 cd54 ct54 oc55 kV55 dc55 pm55 cd55 ct55 : Value} {tk_GREATEST tk_MOST_DAYS tk_MOST_GOODS tk_LONGEST_LIFE tk_MOST_FIGURES tk_HEAD_ROWS tk_FIGURES tk_NONE tk_OVEN tk_LIGHTS tk_GOOD tk_LIGHT tk_FINE : Tok}
    (a1 : PySem.W.nsIn K mainGlobals "is_whole" = some (some (.ref f1))) (l1 : K.lookup f1 = some ⟨oc1, od1, .func (PySem.W.fnOf "is_whole" "is_whole" (defArgs s_is_whole) (defBody s_is_whole) (defScope s_is_whole) .none kV1 dc1 pm1 an1 cd1 ct1), sl1⟩) (c1 : PySem.W.codeIn K cd1 "is_whole" = true) (k1 : PySem.W.keepIn K (.ref f1) = true)
    (a2 : PySem.W.nsIn K mainGlobals "is_number" = some (some (.ref f2))) (l2 : K.lookup f2 = some ⟨oc2, od2, .func (PySem.W.fnOf "is_number" "is_number" (defArgs s_is_number) (defBody s_is_number) (defScope s_is_number) .none kV2 dc2 pm2 an2 cd2 ct2), sl2⟩) (c2 : PySem.W.codeIn K cd2 "is_number" = true) (k2 : PySem.W.keepIn K (.ref f2) = true)
    (a3 : PySem.W.nsIn K mainGlobals "is_tuple_of" = some (some (.ref f3))) (l3 : K.lookup f3 = some ⟨oc3, od3, .func (PySem.W.fnOf "is_tuple_of" "is_tuple_of" (defArgs s_is_tuple_of) (defBody s_is_tuple_of) (defScope s_is_tuple_of) .none kV3 dc3 pm3 an3 cd3 ct3), sl3⟩) (c3 : PySem.W.codeIn K cd3 "is_tuple_of" = true) (k3 : PySem.W.keepIn K (.ref f3) = true)
    (a4 : PySem.W.nsIn K mainGlobals "is_list_of" = some (some (.ref f4))) (l4 : K.lookup f4 = some ⟨oc4, od4, .func (PySem.W.fnOf "is_list_of" "is_list_of" (defArgs s_is_list_of) (defBody s_is_list_of) (defScope s_is_list_of) .none kV4 dc4 pm4 an4 cd4 ct4), sl4⟩) (c4 : PySem.W.codeIn K cd4 "is_list_of" = true) (k4 : PySem.W.keepIn K (.ref f4) = true)
    (a5 : PySem.W.nsIn K mainGlobals "are_lights" = some (some (.ref f5))) (l5 : K.lookup f5 = some ⟨oc5, od5, .func (PySem.W.fnOf "are_lights" "are_lights" (defArgs s_are_lights) (defBody s_are_lights) (defScope s_are_lights) .none kV5 dc5 pm5 an5 cd5 ct5), sl5⟩) (c5 : PySem.W.codeIn K cd5 "are_lights" = true) (k5 : PySem.W.keepIn K (.ref f5) = true)
    (a6 : PySem.W.nsIn K mainGlobals "is_bound" = some (some (.ref f6))) (l6 : K.lookup f6 = some ⟨oc6, od6, .func (PySem.W.fnOf "is_bound" "is_bound" (defArgs s_is_bound) (defBody s_is_bound) (defScope s_is_bound) .none kV6 dc6 pm6 an6 cd6 ct6), sl6⟩) (c6 : PySem.W.codeIn K cd6 "is_bound" = true) (k6 : PySem.W.keepIn K (.ref f6) = true)
    (a7 : PySem.W.nsIn K mainGlobals "is_life" = some (some (.ref f7))) (l7 : K.lookup f7 = some ⟨oc7, od7, .func (PySem.W.fnOf "is_life" "is_life" (defArgs s_is_life) (defBody s_is_life) (defScope s_is_life) .none kV7 dc7 pm7 an7 cd7 ct7), sl7⟩) (c7 : PySem.W.codeIn K cd7 "is_life" = true) (k7 : PySem.W.keepIn K (.ref f7) = true)
    (a8 : PySem.W.nsIn K mainGlobals "is_day" = some (some (.ref f8))) (l8 : K.lookup f8 = some ⟨oc8, od8, .func (PySem.W.fnOf "is_day" "is_day" (defArgs s_is_day) (defBody s_is_day) (defScope s_is_day) .none kV8 dc8 pm8 an8 cd8 ct8), sl8⟩) (c8 : PySem.W.codeIn K cd8 "is_day" = true) (k8 : PySem.W.keepIn K (.ref f8) = true)
    (a9 : PySem.W.nsIn K mainGlobals "has_bakery_form" = some (some (.ref f9))) (l9 : K.lookup f9 = some ⟨oc9, od9, .func (PySem.W.fnOf "has_bakery_form" "has_bakery_form" (defArgs s_has_bakery_form) (defBody s_has_bakery_form) (defScope s_has_bakery_form) .none kV9 dc9 pm9 an9 cd9 ct9), sl9⟩) (c9 : PySem.W.codeIn K cd9 "has_bakery_form" = true) (k9 : PySem.W.keepIn K (.ref f9) = true)
    (a10 : PySem.W.nsIn K mainGlobals "has_good_form" = some (some (.ref f10))) (l10 : K.lookup f10 = some ⟨oc10, od10, .func (PySem.W.fnOf "has_good_form" "has_good_form" (defArgs s_has_good_form) (defBody s_has_good_form) (defScope s_has_good_form) .none kV10 dc10 pm10 an10 cd10 ct10), sl10⟩) (c10 : PySem.W.codeIn K cd10 "has_good_form" = true) (k10 : PySem.W.keepIn K (.ref f10) = true)
    (a11 : PySem.W.nsIn K mainGlobals "look_at_goods" = some (some (.ref f11))) (l11 : K.lookup f11 = some ⟨oc11, od11, .func (PySem.W.fnOf "look_at_goods" "look_at_goods" (defArgs s_look_at_goods) (defBody s_look_at_goods) (defScope s_look_at_goods) .none kV11 dc11 pm11 an11 cd11 ct11), sl11⟩) (c11 : PySem.W.codeIn K cd11 "look_at_goods" = true) (k11 : PySem.W.keepIn K (.ref f11) = true)
    (a12 : PySem.W.nsIn K mainGlobals "look_at_bakery" = some (some (.ref f12))) (l12 : K.lookup f12 = some ⟨oc12, od12, .func (PySem.W.fnOf "look_at_bakery" "look_at_bakery" (defArgs s_look_at_bakery) (defBody s_look_at_bakery) (defScope s_look_at_bakery) .none kV12 dc12 pm12 an12 cd12 ct12), sl12⟩) (c12 : PySem.W.codeIn K cd12 "look_at_bakery" = true) (k12 : PySem.W.keepIn K (.ref f12) = true)
    (a13 : PySem.W.nsIn K mainGlobals "is_plain" = some (some (.ref f13))) (l13 : K.lookup f13 = some ⟨oc13, od13, .func (PySem.W.fnOf "is_plain" "is_plain" (defArgs s_is_plain) (defBody s_is_plain) (defScope s_is_plain) .none kV13 dc13 pm13 an13 cd13 ct13), sl13⟩) (c13 : PySem.W.codeIn K cd13 "is_plain" = true) (k13 : PySem.W.keepIn K (.ref f13) = true)
    (a14 : PySem.W.nsIn K mainGlobals "look_at_plain" = some (some (.ref f14))) (l14 : K.lookup f14 = some ⟨oc14, od14, .func (PySem.W.fnOf "look_at_plain" "look_at_plain" (defArgs s_look_at_plain) (defBody s_look_at_plain) (defScope s_look_at_plain) .none kV14 dc14 pm14 an14 cd14 ct14), sl14⟩) (c14 : PySem.W.codeIn K cd14 "look_at_plain" = true) (k14 : PySem.W.keepIn K (.ref f14) = true)
    (a15 : PySem.W.nsIn K mainGlobals "is_place" = some (some (.ref f15))) (l15 : K.lookup f15 = some ⟨oc15, od15, .func (PySem.W.fnOf "is_place" "is_place" (defArgs s_is_place) (defBody s_is_place) (defScope s_is_place) .none kV15 dc15 pm15 an15 cd15 ct15), sl15⟩) (c15 : PySem.W.codeIn K cd15 "is_place" = true) (k15 : PySem.W.keepIn K (.ref f15) = true)
    (a16 : PySem.W.nsIn K mainGlobals "keeps_of" = some (some (.ref f16))) (l16 : K.lookup f16 = some ⟨oc16, od16, .func (PySem.W.fnOf "keeps_of" "keeps_of" (defArgs s_keeps_of) (defBody s_keeps_of) (defScope s_keeps_of) .none kV16 dc16 pm16 an16 cd16 ct16), sl16⟩) (c16 : PySem.W.codeIn K cd16 "keeps_of" = true) (k16 : PySem.W.keepIn K (.ref f16) = true)
    (a17 : PySem.W.nsIn K mainGlobals "fines_of" = some (some (.ref f17))) (l17 : K.lookup f17 = some ⟨oc17, od17, .func (PySem.W.fnOf "fines_of" "fines_of" (defArgs s_fines_of) (defBody s_fines_of) (defScope s_fines_of) .none kV17 dc17 pm17 an17 cd17 ct17), sl17⟩) (c17 : PySem.W.codeIn K cd17 "fines_of" = true) (k17 : PySem.W.keepIn K (.ref f17) = true)
    (a18 : PySem.W.nsIn K mainGlobals "loaf_price" = some (some (.ref f18))) (l18 : K.lookup f18 = some ⟨oc18, od18, .func (PySem.W.fnOf "loaf_price" "loaf_price" (defArgs s_loaf_price) (defBody s_loaf_price) (defScope s_loaf_price) .none kV18 dc18 pm18 an18 cd18 ct18), sl18⟩) (c18 : PySem.W.codeIn K cd18 "loaf_price" = true) (k18 : PySem.W.keepIn K (.ref f18) = true)
    (a19 : PySem.W.nsIn K mainGlobals "wanted_price" = some (some (.ref f19))) (l19 : K.lookup f19 = some ⟨oc19, od19, .func (PySem.W.fnOf "wanted_price" "wanted_price" (defArgs s_wanted_price) (defBody s_wanted_price) (defScope s_wanted_price) .none kV19 dc19 pm19 an19 cd19 ct19), sl19⟩) (c19 : PySem.W.codeIn K cd19 "wanted_price" = true) (k19 : PySem.W.keepIn K (.ref f19) = true)
    (a20 : PySem.W.nsIn K mainGlobals "wanted_table" = some (some (.ref f20))) (l20 : K.lookup f20 = some ⟨oc20, od20, .func (PySem.W.fnOf "wanted_table" "wanted_table" (defArgs s_wanted_table) (defBody s_wanted_table) (defScope s_wanted_table) .none kV20 dc20 pm20 an20 cd20 ct20), sl20⟩) (c20 : PySem.W.codeIn K cd20 "wanted_table" = true) (k20 : PySem.W.keepIn K (.ref f20) = true)
    (a21 : PySem.W.nsIn K mainGlobals "least_baked_on" = some (some (.ref f21))) (l21 : K.lookup f21 = some ⟨oc21, od21, .func (PySem.W.fnOf "least_baked_on" "least_baked_on" (defArgs s_least_baked_on) (defBody s_least_baked_on) (defScope s_least_baked_on) .none kV21 dc21 pm21 an21 cd21 ct21), sl21⟩) (c21 : PySem.W.codeIn K cd21 "least_baked_on" = true) (k21 : PySem.W.keepIn K (.ref f21) = true)
    (a22 : PySem.W.nsIn K mainGlobals "least_of" = some (some (.ref f22))) (l22 : K.lookup f22 = some ⟨oc22, od22, .func (PySem.W.fnOf "least_of" "least_of" (defArgs s_least_of) (defBody s_least_of) (defScope s_least_of) .none kV22 dc22 pm22 an22 cd22 ct22), sl22⟩) (c22 : PySem.W.codeIn K cd22 "least_of" = true) (k22 : PySem.W.keepIn K (.ref f22) = true)
    (a23 : PySem.W.nsIn K mainGlobals "is_unwanted" = some (some (.ref f23))) (l23 : K.lookup f23 = some ⟨oc23, od23, .func (PySem.W.fnOf "is_unwanted" "is_unwanted" (defArgs s_is_unwanted) (defBody s_is_unwanted) (defScope s_is_unwanted) .none kV23 dc23 pm23 an23 cd23 ct23), sl23⟩) (c23 : PySem.W.codeIn K cd23 "is_unwanted" = true) (k23 : PySem.W.keepIn K (.ref f23) = true)
    (a24 : PySem.W.nsIn K mainGlobals "least_row" = some (some (.ref f24))) (l24 : K.lookup f24 = some ⟨oc24, od24, .func (PySem.W.fnOf "least_row" "least_row" (defArgs s_least_row) (defBody s_least_row) (defScope s_least_row) .none kV24 dc24 pm24 an24 cd24 ct24), sl24⟩) (c24 : PySem.W.codeIn K cd24 "least_row" = true) (k24 : PySem.W.keepIn K (.ref f24) = true)
    (a25 : PySem.W.nsIn K mainGlobals "word_of" = some (some (.ref f25))) (l25 : K.lookup f25 = some ⟨oc25, od25, .func (PySem.W.fnOf "word_of" "word_of" (defArgs s_word_of) (defBody s_word_of) (defScope s_word_of) .none kV25 dc25 pm25 an25 cd25 ct25), sl25⟩) (c25 : PySem.W.codeIn K cd25 "word_of" = true) (k25 : PySem.W.keepIn K (.ref f25) = true)
    (a26 : PySem.W.nsIn K mainGlobals "row_of" = some (some (.ref f26))) (l26 : K.lookup f26 = some ⟨oc26, od26, .func (PySem.W.fnOf "row_of" "row_of" (defArgs s_row_of) (defBody s_row_of) (defScope s_row_of) .none kV26 dc26 pm26 an26 cd26 ct26), sl26⟩) (c26 : PySem.W.codeIn K cd26 "row_of" = true) (k26 : PySem.W.keepIn K (.ref f26) = true)
    (a27 : PySem.W.nsIn K mainGlobals "good_rows" = some (some (.ref f27))) (l27 : K.lookup f27 = some ⟨oc27, od27, .func (PySem.W.fnOf "good_rows" "good_rows" (defArgs s_good_rows) (defBody s_good_rows) (defScope s_good_rows) .none kV27 dc27 pm27 an27 cd27 ct27), sl27⟩) (c27 : PySem.W.codeIn K cd27 "good_rows" = true) (k27 : PySem.W.keepIn K (.ref f27) = true)
    (a28 : PySem.W.nsIn K mainGlobals "show_bakery" = some (some (.ref f28))) (l28 : K.lookup f28 = some ⟨oc28, od28, .func (PySem.W.fnOf "show_bakery" "show_bakery" (defArgs s_show_bakery) (defBody s_show_bakery) (defScope s_show_bakery) .none kV28 dc28 pm28 an28 cd28 ct28), sl28⟩) (c28 : PySem.W.codeIn K cd28 "show_bakery" = true) (k28 : PySem.W.keepIn K (.ref f28) = true)
    (a29 : PySem.W.nsIn K mainGlobals "is_written" = some (some (.ref f29))) (l29 : K.lookup f29 = some ⟨oc29, od29, .func (PySem.W.fnOf "is_written" "is_written" (defArgs s_is_written) (defBody s_is_written) (defScope s_is_written) .none kV29 dc29 pm29 an29 cd29 ct29), sl29⟩) (c29 : PySem.W.codeIn K cd29 "is_written" = true) (k29 : PySem.W.keepIn K (.ref f29) = true)
    (a30 : PySem.W.nsIn K mainGlobals "worths_of" = some (some (.ref f30))) (l30 : K.lookup f30 = some ⟨oc30, od30, .func (PySem.W.fnOf "worths_of" "worths_of" (defArgs s_worths_of) (defBody s_worths_of) (defScope s_worths_of) .none kV30 dc30 pm30 an30 cd30 ct30), sl30⟩) (c30 : PySem.W.codeIn K cd30 "worths_of" = true) (k30 : PySem.W.keepIn K (.ref f30) = true)
    (a31 : PySem.W.nsIn K mainGlobals "worths_behind" = some (some (.ref f31))) (l31 : K.lookup f31 = some ⟨oc31, od31, .func (PySem.W.fnOf "worths_behind" "worths_behind" (defArgs s_worths_behind) (defBody s_worths_behind) (defScope s_worths_behind) .none kV31 dc31 pm31 an31 cd31 ct31), sl31⟩) (c31 : PySem.W.codeIn K cd31 "worths_behind" = true) (k31 : PySem.W.keepIn K (.ref f31) = true)
    (a32 : PySem.W.nsIn K mainGlobals "is_oven_row" = some (some (.ref f32))) (l32 : K.lookup f32 = some ⟨oc32, od32, .func (PySem.W.fnOf "is_oven_row" "is_oven_row" (defArgs s_is_oven_row) (defBody s_is_oven_row) (defScope s_is_oven_row) .none kV32 dc32 pm32 an32 cd32 ct32), sl32⟩) (c32 : PySem.W.codeIn K cd32 "is_oven_row" = true) (k32 : PySem.W.keepIn K (.ref f32) = true)
    (a33 : PySem.W.nsIn K mainGlobals "is_lights_row" = some (some (.ref f33))) (l33 : K.lookup f33 = some ⟨oc33, od33, .func (PySem.W.fnOf "is_lights_row" "is_lights_row" (defArgs s_is_lights_row) (defBody s_is_lights_row) (defScope s_is_lights_row) .none kV33 dc33 pm33 an33 cd33 ct33), sl33⟩) (c33 : PySem.W.codeIn K cd33 "is_lights_row" = true) (k33 : PySem.W.keepIn K (.ref f33) = true)
    (a34 : PySem.W.nsIn K mainGlobals "is_good_row" = some (some (.ref f34))) (l34 : K.lookup f34 = some ⟨oc34, od34, .func (PySem.W.fnOf "is_good_row" "is_good_row" (defArgs s_is_good_row) (defBody s_is_good_row) (defScope s_is_good_row) .none kV34 dc34 pm34 an34 cd34 ct34), sl34⟩) (c34 : PySem.W.codeIn K cd34 "is_good_row" = true) (k34 : PySem.W.keepIn K (.ref f34) = true)
    (a35 : PySem.W.nsIn K mainGlobals "is_day_row" = some (some (.ref f35))) (l35 : K.lookup f35 = some ⟨oc35, od35, .func (PySem.W.fnOf "is_day_row" "is_day_row" (defArgs s_is_day_row) (defBody s_is_day_row) (defScope s_is_day_row) .none kV35 dc35 pm35 an35 cd35 ct35), sl35⟩) (c35 : PySem.W.codeIn K cd35 "is_day_row" = true) (k35 : PySem.W.keepIn K (.ref f35) = true)
    (a36 : PySem.W.nsIn K mainGlobals "rows_per_good" = some (some (.ref f36))) (l36 : K.lookup f36 = some ⟨oc36, od36, .func (PySem.W.fnOf "rows_per_good" "rows_per_good" (defArgs s_rows_per_good) (defBody s_rows_per_good) (defScope s_rows_per_good) .none kV36 dc36 pm36 an36 cd36 ct36), sl36⟩) (c36 : PySem.W.codeIn K cd36 "rows_per_good" = true) (k36 : PySem.W.keepIn K (.ref f36) = true)
    (a37 : PySem.W.nsIn K mainGlobals "is_bakery_row" = some (some (.ref f37))) (l37 : K.lookup f37 = some ⟨oc37, od37, .func (PySem.W.fnOf "is_bakery_row" "is_bakery_row" (defArgs s_is_bakery_row) (defBody s_is_bakery_row) (defScope s_is_bakery_row) .none kV37 dc37 pm37 an37 cd37 ct37), sl37⟩) (c37 : PySem.W.codeIn K cd37 "is_bakery_row" = true) (k37 : PySem.W.keepIn K (.ref f37) = true)
    (a38 : PySem.W.nsIn K mainGlobals "is_ended" = some (some (.ref f38))) (l38 : K.lookup f38 = some ⟨oc38, od38, .func (PySem.W.fnOf "is_ended" "is_ended" (defArgs s_is_ended) (defBody s_is_ended) (defScope s_is_ended) .none kV38 dc38 pm38 an38 cd38 ct38), sl38⟩) (c38 : PySem.W.codeIn K cd38 "is_ended" = true) (k38 : PySem.W.keepIn K (.ref f38) = true)
    (a39 : PySem.W.nsIn K mainGlobals "rows_of" = some (some (.ref f39))) (l39 : K.lookup f39 = some ⟨oc39, od39, .func (PySem.W.fnOf "rows_of" "rows_of" (defArgs s_rows_of) (defBody s_rows_of) (defScope s_rows_of) .none kV39 dc39 pm39 an39 cd39 ct39), sl39⟩) (c39 : PySem.W.codeIn K cd39 "rows_of" = true) (k39 : PySem.W.keepIn K (.ref f39) = true)
    (a40 : PySem.W.nsIn K mainGlobals "read_good" = some (some (.ref f40))) (l40 : K.lookup f40 = some ⟨oc40, od40, .func (PySem.W.fnOf "read_good" "read_good" (defArgs s_read_good) (defBody s_read_good) (defScope s_read_good) .none kV40 dc40 pm40 an40 cd40 ct40), sl40⟩) (c40 : PySem.W.codeIn K cd40 "read_good" = true) (k40 : PySem.W.keepIn K (.ref f40) = true)
    (a41 : PySem.W.nsIn K mainGlobals "read_bakery" = some (some (.ref f41))) (l41 : K.lookup f41 = some ⟨oc41, od41, .func (PySem.W.fnOf "read_bakery" "read_bakery" (defArgs s_read_bakery) (defBody s_read_bakery) (defScope s_read_bakery) .none kV41 dc41 pm41 an41 cd41 ct41), sl41⟩) (c41 : PySem.W.codeIn K cd41 "read_bakery" = true) (k41 : PySem.W.keepIn K (.ref f41) = true)
    (a42 : PySem.W.nsIn K mainGlobals "is_part" = some (some (.ref f42))) (l42 : K.lookup f42 = some ⟨oc42, od42, .func (PySem.W.fnOf "is_part" "is_part" (defArgs s_is_part) (defBody s_is_part) (defScope s_is_part) .none kV42 dc42 pm42 an42 cd42 ct42), sl42⟩) (c42 : PySem.W.codeIn K cd42 "is_part" = true) (k42 : PySem.W.keepIn K (.ref f42) = true)
    (a43 : PySem.W.nsIn K mainGlobals "is_worth" = some (some (.ref f43))) (l43 : K.lookup f43 = some ⟨oc43, od43, .func (PySem.W.fnOf "is_worth" "is_worth" (defArgs s_is_worth) (defBody s_is_worth) (defScope s_is_worth) .none kV43 dc43 pm43 an43 cd43 ct43), sl43⟩) (c43 : PySem.W.codeIn K cd43 "is_worth" = true) (k43 : PySem.W.keepIn K (.ref f43) = true)
    (a44 : PySem.W.nsIn K mainGlobals "with_part" = some (some (.ref f44))) (l44 : K.lookup f44 = some ⟨oc44, od44, .func (PySem.W.fnOf "with_part" "with_part" (defArgs s_with_part) (defBody s_with_part) (defScope s_with_part) .none kV44 dc44 pm44 an44 cd44 ct44), sl44⟩) (c44 : PySem.W.codeIn K cd44 "with_part" = true) (k44 : PySem.W.keepIn K (.ref f44) = true)
    (a45 : PySem.W.nsIn K mainGlobals "others_now" = some (some (.ref f45))) (l45 : K.lookup f45 = some ⟨oc45, od45, .func (PySem.W.fnOf "others_now" "others_now" (defArgs s_others_now) (defBody s_others_now) (defScope s_others_now) .none kV45 dc45 pm45 an45 cd45 ct45), sl45⟩) (c45 : PySem.W.codeIn K cd45 "others_now" = true) (k45 : PySem.W.keepIn K (.ref f45) = true)
    (a46 : PySem.W.nsIn K mainGlobals "_law_cell_at" = some (some (.ref f46))) (l46 : K.lookup f46 = some ⟨oc46, od46, .func (PySem.W.fnOf "_law_cell_at" "_law_cell_at" (defArgs s_cell_at) (defBody s_cell_at) (defScope s_cell_at) .none kV46 dc46 pm46 an46 cd46 ct46), sl46⟩) (c46 : PySem.W.codeIn K cd46 "_law_cell_at" = true) (k46 : PySem.W.keepIn K (.ref f46) = true)
    (a47 : PySem.W.nsIn K mainGlobals "_law_numbers" = some (some (.ref f47))) (l47 : K.lookup f47 = some ⟨oc47, od47, .func (PySem.W.fnOf "_law_numbers" "_law_numbers" (defArgs s_numbers) (defBody s_numbers) (defScope s_numbers) .none kV47 dc47 pm47 an47 cd47 ct47), sl47⟩) (c47 : PySem.W.codeIn K cd47 "_law_numbers" = true) (k47 : PySem.W.keepIn K (.ref f47) = true)
    (a48 : PySem.W.nsIn K mainGlobals "_law_day" = some (some (.ref f48))) (l48 : K.lookup f48 = some ⟨oc48, od48, .func (PySem.W.fnOf "_law_day" "_law_day" (defArgs s_day) (defBody s_day) (defScope s_day) .none kV48 dc48 pm48 an48 cd48 ct48), sl48⟩) (c48 : PySem.W.codeIn K cd48 "_law_day" = true) (k48 : PySem.W.keepIn K (.ref f48) = true)
    (a49 : PySem.W.nsIn K mainGlobals "_law_days" = some (some (.ref f49))) (l49 : K.lookup f49 = some ⟨oc49, od49, .func (PySem.W.fnOf "_law_days" "_law_days" (defArgs s_days) (defBody s_days) (defScope s_days) .none kV49 dc49 pm49 an49 cd49 ct49), sl49⟩) (c49 : PySem.W.codeIn K cd49 "_law_days" = true) (k49 : PySem.W.keepIn K (.ref f49) = true)
    (a50 : PySem.W.nsIn K mainGlobals "_law_bakery" = some (some (.ref f50))) (l50 : K.lookup f50 = some ⟨oc50, od50, .func (PySem.W.fnOf "_law_bakery" "_law_bakery" (defArgs s_bakery) (defBody s_bakery) (defScope s_bakery) .none kV50 dc50 pm50 an50 cd50 ct50), sl50⟩) (c50 : PySem.W.codeIn K cd50 "_law_bakery" = true) (k50 : PySem.W.keepIn K (.ref f50) = true)
    (a51 : PySem.W.nsIn K mainGlobals "_law_changed" = some (some (.ref f51))) (l51 : K.lookup f51 = some ⟨oc51, od51, .func (PySem.W.fnOf "_law_changed" "_law_changed" (defArgs s_changed) (defBody s_changed) (defScope s_changed) .none kV51 dc51 pm51 an51 cd51 ct51), sl51⟩) (c51 : PySem.W.codeIn K cd51 "_law_changed" = true) (k51 : PySem.W.keepIn K (.ref f51) = true)
    (a52 : PySem.W.nsIn K mainGlobals "_law_added" = some (some (.ref f52))) (l52 : K.lookup f52 = some ⟨oc52, od52, .func (PySem.W.fnOf "_law_added" "_law_added" (defArgs s_added) (defBody s_added) (defScope s_added) .none kV52 dc52 pm52 an52 cd52 ct52), sl52⟩) (c52 : PySem.W.codeIn K cd52 "_law_added" = true) (k52 : PySem.W.keepIn K (.ref f52) = true)
    (a53 : PySem.W.nsIn K mainGlobals "_law_deed" = some (some (.ref f53))) (l53 : K.lookup f53 = some ⟨oc53, od53, .func (PySem.W.fnOf "_law_deed" "_law_deed" (defArgs s_deed) (defBody s_deed) (defScope s_deed) .none kV53 dc53 pm53 an53 cd53 ct53), sl53⟩) (c53 : PySem.W.codeIn K cd53 "_law_deed" = true) (k53 : PySem.W.keepIn K (.ref f53) = true)
    (a54 : PySem.W.nsIn K mainGlobals "_law_alike" = some (some (.ref f54))) (l54 : K.lookup f54 = some ⟨oc54, od54, .func (PySem.W.fnOf "_law_alike" "_law_alike" (defArgs s_alike) (defBody s_alike) (defScope s_alike) .none kV54 dc54 pm54 an54 cd54 ct54), sl54⟩) (c54 : PySem.W.codeIn K cd54 "_law_alike" = true) (k54 : PySem.W.keepIn K (.ref f54) = true)
    (a55 : PySem.W.nsIn K mainGlobals "law" = some (some (.ref f55))) (l55 : K.lookup f55 = some ⟨oc55, od55, .func (PySem.W.fnOf "law" "law" (defArgs s_law) (defBody s_law) (defScope s_law) .none kV55 dc55 pm55 an55 cd55 ct55), sl55⟩) (c55 : PySem.W.codeIn K cd55 "law" = true) (k55 : PySem.W.keepIn K (.ref f55) = true)
    {C_Ledger A_PARTS : Addr} {nP : Nat} {slP : Array (Option Value)} {u1 u2 u3 u4 : Tok}
    (aC_Ledger : PySem.W.nsIn K mainGlobals "Ledger" = some (some (.ref C_Ledger)))
    (pg_Ledger : PySem.W.plainGet K C_Ledger Str.empty = true)
    (hd_Ledger : PySem.W.hasDictIn K C_Ledger = true)
    (po_Ledger : PySem.W.plainOver K C_Ledger = true)
    (sa_Ledger : PySem.W.findIn K (.ref C_Ledger) "__setattr__" = some (some (.builtin "object.__setattr__")))
    (mk_Ledger : PySem.W.makesIn K C_Ledger = true)
    (kC_Ledger : PySem.W.keepIn K (.ref C_Ledger) = true)
    (n1_Ledger : PySem.W.findIn K (.ref C_Ledger) "lights" = some none)
    (n2_Ledger : PySem.W.findIn K (.ref C_Ledger) "days" = some none)
    (n3_Ledger : PySem.W.findIn K (.ref C_Ledger) "life" = some none)
    (n4_Ledger : PySem.W.findIn K (.ref C_Ledger) "deeds" = some none)
    (ha_Ledger : PySem.W.findIn K (.ref C_Ledger) "__class__" = some (some (.builtin "object.__class__")))
    (hn_Ledger : PySem.W.specialIn K (.builtin "object.__class__") "__get__" = some (some (.builtin "getset_descriptor.__get__")))
    (ht_Ledger : PySem.W.takesIn K (.builtin "object.__class__") = some true)
    (hm_Ledger : PySem.W.mroIn K C_Ledger (.type "object") = some true)
    (ne_Ledger : PySem.W.findIn K (.ref C_Ledger) "__ne__" = some (some (.builtin "object.__ne__")))
    (kOwn_Ledger : PySem.W.kitOne K (.ref C_Ledger) (.ref C_Ledger) = some true)
    (nf0_Ledger : PySem.W.notFirst K C_Ledger (.ref C_Ledger) = true)
    (nf1_Ledger : PySem.W.notFirst K C_Ledger (.type "tuple") = true)
    (nf2_Ledger : PySem.W.notFirst K C_Ledger (.type "list") = true)
    (nf3_Ledger : PySem.W.notFirst K C_Ledger (.type "int") = true)
    (nf4_Ledger : PySem.W.notFirst K C_Ledger (.type "str") = true)
    (nf5_Ledger : PySem.W.notFirst K C_Ledger (.type "NoneType") = true)
    (kt0_Ledger : PySem.W.kitOne K (.type "tuple") (.ref C_Ledger) = some false)
    (kt1_Ledger : PySem.W.kitOne K (.type "list") (.ref C_Ledger) = some false)
    (kt2_Ledger : PySem.W.kitOne K (.type "int") (.ref C_Ledger) = some false)
    (kt3_Ledger : PySem.W.kitOne K (.type "str") (.ref C_Ledger) = some false)
    (kt4_Ledger : PySem.W.kitOne K (.type "NoneType") (.ref C_Ledger) = some false)
    (aP_PARTS : PySem.W.nsIn K mainGlobals "PARTS" = some (some (.ref A_PARTS)))
    (lP_PARTS : K.lookup A_PARTS = some ⟨.type "tuple", none, .seq #[.str "want" u1, .str "loaf" u2, .str "keep" u3, .str "fine" u4] nP, slP⟩)
    {fm_init : Addr} {odm_init anm_init : Option Addr} {slm_init : Array (Option Value)} {ocm_init kVm_init dcm_init pmm_init cdm_init ctm_init : Value}
    (am_init : PySem.W.findIn K (.ref C_Ledger) "__init__" = some (some (.ref fm_init)))
    (im_init : PySem.W.isFn K (.ref fm_init) = true)
    (lm_init : K.lookup fm_init = some ⟨ocm_init, odm_init, .func (PySem.W.fnOf "__init__" "Ledger.__init__" (defArgs s_Ledger_init) (defBody s_Ledger_init) (defScope s_Ledger_init) .none kVm_init dcm_init pmm_init anm_init cdm_init ctm_init), slm_init⟩)
    (cm_init : PySem.W.codeIn K cdm_init "Ledger.__init__" = true)
    (km_init : PySem.W.keepIn K (.ref fm_init) = true)
    {fm_bakery : Addr} {odm_bakery anm_bakery : Option Addr} {slm_bakery : Array (Option Value)} {ocm_bakery kVm_bakery dcm_bakery pmm_bakery cdm_bakery ctm_bakery : Value}
    (am_bakery : PySem.W.findIn K (.ref C_Ledger) "bakery" = some (some (.ref fm_bakery)))
    (im_bakery : PySem.W.isFn K (.ref fm_bakery) = true)
    (lm_bakery : K.lookup fm_bakery = some ⟨ocm_bakery, odm_bakery, .func (PySem.W.fnOf "bakery" "Ledger.bakery" (defArgs s_Ledger_bakery) (defBody s_Ledger_bakery) (defScope s_Ledger_bakery) .none kVm_bakery dcm_bakery pmm_bakery anm_bakery cdm_bakery ctm_bakery), slm_bakery⟩)
    (cm_bakery : PySem.W.codeIn K cdm_bakery "Ledger.bakery" = true)
    (km_bakery : PySem.W.keepIn K (.ref fm_bakery) = true)
    {fm_costs : Addr} {odm_costs anm_costs : Option Addr} {slm_costs : Array (Option Value)} {ocm_costs kVm_costs dcm_costs pmm_costs cdm_costs ctm_costs : Value}
    (am_costs : PySem.W.findIn K (.ref C_Ledger) "costs" = some (some (.ref fm_costs)))
    (im_costs : PySem.W.isFn K (.ref fm_costs) = true)
    (lm_costs : K.lookup fm_costs = some ⟨ocm_costs, odm_costs, .func (PySem.W.fnOf "costs" "Ledger.costs" (defArgs s_Ledger_costs) (defBody s_Ledger_costs) (defScope s_Ledger_costs) .none kVm_costs dcm_costs pmm_costs anm_costs cdm_costs ctm_costs), slm_costs⟩)
    (cm_costs : PySem.W.codeIn K cdm_costs "Ledger.costs" = true)
    (km_costs : PySem.W.keepIn K (.ref fm_costs) = true)
    {fm_worth_at : Addr} {odm_worth_at anm_worth_at : Option Addr} {slm_worth_at : Array (Option Value)} {ocm_worth_at kVm_worth_at dcm_worth_at pmm_worth_at cdm_worth_at ctm_worth_at : Value}
    (am_worth_at : PySem.W.findIn K (.ref C_Ledger) "worth_at" = some (some (.ref fm_worth_at)))
    (im_worth_at : PySem.W.isFn K (.ref fm_worth_at) = true)
    (lm_worth_at : K.lookup fm_worth_at = some ⟨ocm_worth_at, odm_worth_at, .func (PySem.W.fnOf "worth_at" "Ledger.worth_at" (defArgs s_Ledger_worth_at) (defBody s_Ledger_worth_at) (defScope s_Ledger_worth_at) .none kVm_worth_at dcm_worth_at pmm_worth_at anm_worth_at cdm_worth_at ctm_worth_at), slm_worth_at⟩)
    (cm_worth_at : PySem.W.codeIn K cdm_worth_at "Ledger.worth_at" = true)
    (km_worth_at : PySem.W.keepIn K (.ref fm_worth_at) = true)
    {fm_set_part : Addr} {odm_set_part anm_set_part : Option Addr} {slm_set_part : Array (Option Value)} {ocm_set_part kVm_set_part dcm_set_part pmm_set_part cdm_set_part ctm_set_part : Value}
    (am_set_part : PySem.W.findIn K (.ref C_Ledger) "set_part" = some (some (.ref fm_set_part)))
    (im_set_part : PySem.W.isFn K (.ref fm_set_part) = true)
    (lm_set_part : K.lookup fm_set_part = some ⟨ocm_set_part, odm_set_part, .func (PySem.W.fnOf "set_part" "Ledger.set_part" (defArgs s_Ledger_set_part) (defBody s_Ledger_set_part) (defScope s_Ledger_set_part) .none kVm_set_part dcm_set_part pmm_set_part anm_set_part cdm_set_part ctm_set_part), slm_set_part⟩)
    (cm_set_part : PySem.W.codeIn K cdm_set_part "Ledger.set_part" = true)
    (km_set_part : PySem.W.keepIn K (.ref fm_set_part) = true)
    {fm_change : Addr} {odm_change anm_change : Option Addr} {slm_change : Array (Option Value)} {ocm_change kVm_change dcm_change pmm_change cdm_change ctm_change : Value}
    {Td_change : Addr} {sld_change : Array (Option Value)} {cld_change : Value} {ddm_change : Option Addr} {nd_change : Nat}
    (am_change : PySem.W.findIn K (.ref C_Ledger) "change" = some (some (.ref fm_change)))
    (im_change : PySem.W.isFn K (.ref fm_change) = true)
    (lm_change : K.lookup fm_change = some ⟨ocm_change, odm_change, .func (PySem.W.fnOf "change" "Ledger.change" (defArgs s_Ledger_change) (defBody s_Ledger_change) (defScope s_Ledger_change) (.ref Td_change) kVm_change dcm_change pmm_change anm_change cdm_change ctm_change), slm_change⟩)
    (cm_change : PySem.W.codeIn K cdm_change "Ledger.change" = true)
    (km_change : PySem.W.keepIn K (.ref fm_change) = true)
    (ld_change : K.lookup Td_change = some ⟨cld_change, ddm_change, .seq #[.none] nd_change, sld_change⟩)
    {fm_back : Addr} {odm_back anm_back : Option Addr} {slm_back : Array (Option Value)} {ocm_back kVm_back dcm_back pmm_back cdm_back ctm_back : Value}
    (am_back : PySem.W.findIn K (.ref C_Ledger) "back" = some (some (.ref fm_back)))
    (im_back : PySem.W.isFn K (.ref fm_back) = true)
    (lm_back : K.lookup fm_back = some ⟨ocm_back, odm_back, .func (PySem.W.fnOf "back" "Ledger.back" (defArgs s_Ledger_back) (defBody s_Ledger_back) (defScope s_Ledger_back) .none kVm_back dcm_back pmm_back anm_back cdm_back ctm_back), slm_back⟩)
    (cm_back : PySem.W.codeIn K cdm_back "Ledger.back" = true)
    (km_back : PySem.W.keepIn K (.ref fm_back) = true)
    {fm_add : Addr} {odm_add anm_add : Option Addr} {slm_add : Array (Option Value)} {ocm_add kVm_add dcm_add pmm_add cdm_add ctm_add : Value}
    (am_add : PySem.W.findIn K (.ref C_Ledger) "add" = some (some (.ref fm_add)))
    (im_add : PySem.W.isFn K (.ref fm_add) = true)
    (lm_add : K.lookup fm_add = some ⟨ocm_add, odm_add, .func (PySem.W.fnOf "add" "Ledger.add" (defArgs s_Ledger_add) (defBody s_Ledger_add) (defScope s_Ledger_add) .none kVm_add dcm_add pmm_add anm_add cdm_add ctm_add), slm_add⟩)
    (cm_add : PySem.W.codeIn K cdm_add "Ledger.add" = true)
    (km_add : PySem.W.keepIn K (.ref fm_add) = true)
    {fm_len : Addr} {odm_len anm_len : Option Addr} {slm_len : Array (Option Value)} {ocm_len kVm_len dcm_len pmm_len cdm_len ctm_len : Value}
    (am_len : PySem.W.findIn K (.ref C_Ledger) "__len__" = some (some (.ref fm_len)))
    (im_len : PySem.W.isFn K (.ref fm_len) = true)
    (lm_len : K.lookup fm_len = some ⟨ocm_len, odm_len, .func (PySem.W.fnOf "__len__" "Ledger.__len__" (defArgs s_Ledger_len) (defBody s_Ledger_len) (defScope s_Ledger_len) .none kVm_len dcm_len pmm_len anm_len cdm_len ctm_len), slm_len⟩)
    (cm_len : PySem.W.codeIn K cdm_len "Ledger.__len__" = true)
    (km_len : PySem.W.keepIn K (.ref fm_len) = true)
    {fm_eq : Addr} {odm_eq anm_eq : Option Addr} {slm_eq : Array (Option Value)} {ocm_eq kVm_eq dcm_eq pmm_eq cdm_eq ctm_eq : Value}
    (am_eq : PySem.W.findIn K (.ref C_Ledger) "__eq__" = some (some (.ref fm_eq)))
    (im_eq : PySem.W.isFn K (.ref fm_eq) = true)
    (lm_eq : K.lookup fm_eq = some ⟨ocm_eq, odm_eq, .func (PySem.W.fnOf "__eq__" "Ledger.__eq__" (defArgs s_Ledger_eq) (defBody s_Ledger_eq) (defScope s_Ledger_eq) .none kVm_eq dcm_eq pmm_eq anm_eq cdm_eq ctm_eq), slm_eq⟩)
    (cm_eq : PySem.W.codeIn K cdm_eq "Ledger.__eq__" = true)
    (km_eq : PySem.W.keepIn K (.ref fm_eq) = true)
    {fm_str : Addr} {odm_str anm_str : Option Addr} {slm_str : Array (Option Value)} {ocm_str kVm_str dcm_str pmm_str cdm_str ctm_str : Value}
    (am_str : PySem.W.findIn K (.ref C_Ledger) "__str__" = some (some (.ref fm_str)))
    (im_str : PySem.W.isFn K (.ref fm_str) = true)
    (lm_str : K.lookup fm_str = some ⟨ocm_str, odm_str, .func (PySem.W.fnOf "__str__" "Ledger.__str__" (defArgs s_Ledger_str) (defBody s_Ledger_str) (defScope s_Ledger_str) .none kVm_str dcm_str pmm_str anm_str cdm_str ctm_str), slm_str⟩)
    (cm_str : PySem.W.codeIn K cdm_str "Ledger.__str__" = true)
    (km_str : PySem.W.keepIn K (.ref fm_str) = true)
    (z_len : PySem.W.nsIn K mainGlobals "len" = some none) (z_max : PySem.W.nsIn K mainGlobals "max" = some none) (z_min : PySem.W.nsIn K mainGlobals "min" = some none) (z_range : PySem.W.nsIn K mainGlobals "range" = some none) (z_isinstance : PySem.W.nsIn K mainGlobals "isinstance" = some none) (z_int : PySem.W.nsIn K mainGlobals "int" = some none) (z_bool : PySem.W.nsIn K mainGlobals "bool" = some none) (z_list : PySem.W.nsIn K mainGlobals "list" = some none) (z_tuple : PySem.W.nsIn K mainGlobals "tuple" = some none) (z_all : PySem.W.nsIn K mainGlobals "all" = some none) (z_sum : PySem.W.nsIn K mainGlobals "sum" = some none) (z_repr : PySem.W.nsIn K mainGlobals "repr" = some none) (z_enumerate : PySem.W.nsIn K mainGlobals "enumerate" = some none) (z_str : PySem.W.nsIn K mainGlobals "str" = some none) (z_reversed : PySem.W.nsIn K mainGlobals "reversed" = some none) (z_zip : PySem.W.nsIn K mainGlobals "zip" = some none) (y_GREATEST : PySem.W.nsIn K mainGlobals "GREATEST" = some (some (.int 1000000000 tk_GREATEST))) (y_MOST_DAYS : PySem.W.nsIn K mainGlobals "MOST_DAYS" = some (some (.int 40 tk_MOST_DAYS))) (y_MOST_GOODS : PySem.W.nsIn K mainGlobals "MOST_GOODS" = some (some (.int 2 tk_MOST_GOODS))) (y_LONGEST_LIFE : PySem.W.nsIn K mainGlobals "LONGEST_LIFE" = some (some (.int 40 tk_LONGEST_LIFE))) (y_MOST_FIGURES : PySem.W.nsIn K mainGlobals "MOST_FIGURES" = some (some (.int 10 tk_MOST_FIGURES))) (y_HEAD_ROWS : PySem.W.nsIn K mainGlobals "HEAD_ROWS" = some (some (.int 2 tk_HEAD_ROWS))) (y_FIGURES : PySem.W.nsIn K mainGlobals "FIGURES" = some (some (.str "0123456789" tk_FIGURES))) (y_NONE : PySem.W.nsIn K mainGlobals "NONE" = some (some (.str "-" tk_NONE))) (y_OVEN : PySem.W.nsIn K mainGlobals "OVEN" = some (some (.str "oven" tk_OVEN))) (y_LIGHTS : PySem.W.nsIn K mainGlobals "LIGHTS" = some (some (.str "lights" tk_LIGHTS))) (y_GOOD : PySem.W.nsIn K mainGlobals "GOOD" = some (some (.str "good" tk_GOOD))) (y_LIGHT : PySem.W.nsIn K mainGlobals "LIGHT" = some (some (.str "light" tk_LIGHT))) (y_FINE : PySem.W.nsIn K mainGlobals "FINE" = some (some (.str "fine" tk_FINE))) :
    ∃ fd : FuncData, (∀ (s : Shared) (v : Value), BindsTo s fd ⟨[v], []⟩ [("_law_script", v)]) ∧ ∀ base : Heap, K.In base → base.Ns mainGlobals mg → RunG l.prog w K mg base 14 fa fd ["_law_script"] (spLaw K) := by
  have e := hfa.symm.trans (PySem.W.mg_of X G a55)
  cases e
  have F1 := fun_mk (st := s_is_whole) l1 c1 k1
  have b1 := F1.binds (ps := ["thing"]) fun _ _ _ _ _ _ us hl => match us, hl with | [_], _ => rfl
  have F2 := fun_mk (st := s_is_number) l2 c2 k2
  have b2 := F2.binds (ps := ["thing"]) fun _ _ _ _ _ _ us hl => match us, hl with | [_], _ => rfl
  have F3 := fun_mk (st := s_is_tuple_of) l3 c3 k3
  have b3 := F3.binds (ps := ["thing", "many"]) fun _ _ _ _ _ _ us hl => match us, hl with | [_, _], _ => rfl
  have F4 := fun_mk (st := s_is_list_of) l4 c4 k4
  have b4 := F4.binds (ps := ["thing", "fewest", "most"]) fun _ _ _ _ _ _ us hl => match us, hl with | [_, _, _], _ => rfl
  have F5 := fun_mk (st := s_are_lights) l5 c5 k5
  have b5 := F5.binds (ps := ["thing"]) fun _ _ _ _ _ _ us hl => match us, hl with | [_], _ => rfl
  have F6 := fun_mk (st := s_is_bound) l6 c6 k6
  have b6 := F6.binds (ps := ["thing"]) fun _ _ _ _ _ _ us hl => match us, hl with | [_], _ => rfl
  have F7 := fun_mk (st := s_is_life) l7 c7 k7
  have b7 := F7.binds (ps := ["thing"]) fun _ _ _ _ _ _ us hl => match us, hl with | [_], _ => rfl
  have F8 := fun_mk (st := s_is_day) l8 c8 k8
  have b8 := F8.binds (ps := ["thing"]) fun _ _ _ _ _ _ us hl => match us, hl with | [_], _ => rfl
  have F9 := fun_mk (st := s_has_bakery_form) l9 c9 k9
  have b9 := F9.binds (ps := ["thing"]) fun _ _ _ _ _ _ us hl => match us, hl with | [_], _ => rfl
  have F10 := fun_mk (st := s_has_good_form) l10 c10 k10
  have b10 := F10.binds (ps := ["thing", "many"]) fun _ _ _ _ _ _ us hl => match us, hl with | [_, _], _ => rfl
  have F11 := fun_mk (st := s_look_at_goods) l11 c11 k11
  have b11 := F11.binds (ps := ["goods", "many"]) fun _ _ _ _ _ _ us hl => match us, hl with | [_, _], _ => rfl
  have F12 := fun_mk (st := s_look_at_bakery) l12 c12 k12
  have b12 := F12.binds (ps := ["thing"]) fun _ _ _ _ _ _ us hl => match us, hl with | [_], _ => rfl
  have F13 := fun_mk (st := s_is_plain) l13 c13 k13
  have b13 := F13.binds (ps := ["bakery"]) fun _ _ _ _ _ _ us hl => match us, hl with | [_], _ => rfl
  have F14 := fun_mk (st := s_look_at_plain) l14 c14 k14
  have b14 := F14.binds (ps := ["bakery"]) fun _ _ _ _ _ _ us hl => match us, hl with | [_], _ => rfl
  have F15 := fun_mk (st := s_is_place) l15 c15 k15
  have b15 := F15.binds (ps := ["thing", "many"]) fun _ _ _ _ _ _ us hl => match us, hl with | [_, _], _ => rfl
  have F16 := fun_mk (st := s_keeps_of) l16 c16 k16
  have b16 := F16.binds (ps := ["days", "first", "behind"]) fun _ _ _ _ _ _ us hl => match us, hl with | [_, _, _], _ => rfl
  have F17 := fun_mk (st := s_fines_of) l17 c17 k17
  have b17 := F17.binds (ps := ["days", "first", "behind"]) fun _ _ _ _ _ _ us hl => match us, hl with | [_, _, _], _ => rfl
  have F18 := fun_mk (st := s_loaf_price) l18 c18 k18
  have b18 := F18.binds (ps := ["good", "baked", "given"]) fun _ _ _ _ _ _ us hl => match us, hl with | [_, _, _], _ => rfl
  have F19 := fun_mk (st := s_wanted_price) l19 c19 k19
  have b19 := F19.binds (ps := ["good", "baked", "given"]) fun _ _ _ _ _ _ us hl => match us, hl with | [_, _, _], _ => rfl
  have F20 := fun_mk (st := s_wanted_table) l20 c20 k20
  have b20 := F20.binds (ps := ["good"]) fun _ _ _ _ _ _ us hl => match us, hl with | [_], _ => rfl
  have F21 := fun_mk (st := s_least_baked_on) l21 c21 k21
  have b21 := F21.binds (ps := ["row", "light", "prices", "many"]) fun _ _ _ _ _ _ us hl => match us, hl with | [_, _, _, _], _ => rfl
  have F22 := fun_mk (st := s_least_of) l22 c22 k22
  have b22 := F22.binds (ps := ["row", "lights", "table", "many", "ovens"]) fun _ _ _ _ _ _ us hl => match us, hl with | [_, _, _, _, _], _ => rfl
  have F23 := fun_mk (st := s_is_unwanted) l23 c23 k23
  have b23 := F23.binds (ps := ["good", "day"]) fun _ _ _ _ _ _ us hl => match us, hl with | [_, _], _ => rfl
  have F24 := fun_mk (st := s_least_row) l24 c24 k24
  have b24 := F24.binds (ps := ["bakery"]) fun _ _ _ _ _ _ us hl => match us, hl with | [_], _ => rfl
  have F25 := fun_mk (st := s_word_of) l25 c25 k25
  have b25 := F25.binds (ps := ["worth"]) fun _ _ _ _ _ _ us hl => match us, hl with | [_], _ => rfl
  have F26 := fun_mk (st := s_row_of) l26 c26 k26
  have b26 := F26.binds (ps := ["worths"]) fun _ _ _ _ _ _ us hl => match us, hl with | [_], _ => rfl
  have F27 := fun_mk (st := s_good_rows) l27 c27 k27
  have b27 := F27.binds (ps := ["good"]) fun _ _ _ _ _ _ us hl => match us, hl with | [_], _ => rfl
  have F28 := fun_mk (st := s_show_bakery) l28 c28 k28
  have b28 := F28.binds (ps := ["bakery"]) fun _ _ _ _ _ _ us hl => match us, hl with | [_], _ => rfl
  have F29 := fun_mk (st := s_is_written) l29 c29 k29
  have b29 := F29.binds (ps := ["word"]) fun _ _ _ _ _ _ us hl => match us, hl with | [_], _ => rfl
  have F30 := fun_mk (st := s_worths_of) l30 c30 k30
  have b30 := F30.binds (ps := ["words"]) fun _ _ _ _ _ _ us hl => match us, hl with | [_], _ => rfl
  have F31 := fun_mk (st := s_worths_behind) l31 c31 k31
  have b31 := F31.binds (ps := ["head", "row"]) fun _ _ _ _ _ _ us hl => match us, hl with | [_, _], _ => rfl
  have F32 := fun_mk (st := s_is_oven_row) l32 c32 k32
  have b32 := F32.binds (ps := ["row"]) fun _ _ _ _ _ _ us hl => match us, hl with | [_], _ => rfl
  have F33 := fun_mk (st := s_is_lights_row) l33 c33 k33
  have b33 := F33.binds (ps := ["row"]) fun _ _ _ _ _ _ us hl => match us, hl with | [_], _ => rfl
  have F34 := fun_mk (st := s_is_good_row) l34 c34 k34
  have b34 := F34.binds (ps := ["row"]) fun _ _ _ _ _ _ us hl => match us, hl with | [_], _ => rfl
  have F35 := fun_mk (st := s_is_day_row) l35 c35 k35
  have b35 := F35.binds (ps := ["row"]) fun _ _ _ _ _ _ us hl => match us, hl with | [_], _ => rfl
  have F36 := fun_mk (st := s_rows_per_good) l36 c36 k36
  have b36 := F36.binds (ps := ["rows"]) fun _ _ _ _ _ _ us hl => match us, hl with | [_], _ => rfl
  have F37 := fun_mk (st := s_is_bakery_row) l37 c37 k37
  have b37 := F37.binds (ps := ["rows", "at"]) fun _ _ _ _ _ _ us hl => match us, hl with | [_, _], _ => rfl
  have F38 := fun_mk (st := s_is_ended) l38 c38 k38
  have b38 := F38.binds (ps := ["rows"]) fun _ _ _ _ _ _ us hl => match us, hl with | [_], _ => rfl
  have F39 := fun_mk (st := s_rows_of) l39 c39 k39
  have b39 := F39.binds (ps := ["text"]) fun _ _ _ _ _ _ us hl => match us, hl with | [_], _ => rfl
  have F40 := fun_mk (st := s_read_good) l40 c40 k40
  have b40 := F40.binds (ps := ["rows"]) fun _ _ _ _ _ _ us hl => match us, hl with | [_], _ => rfl
  have F41 := fun_mk (st := s_read_bakery) l41 c41 k41
  have b41 := F41.binds (ps := ["text"]) fun _ _ _ _ _ _ us hl => match us, hl with | [_], _ => rfl
  have F42 := fun_mk (st := s_is_part) l42 c42 k42
  have b42 := F42.binds (ps := ["thing"]) fun _ _ _ _ _ _ us hl => match us, hl with | [_], _ => rfl
  have F43 := fun_mk (st := s_is_worth) l43 c43 k43
  have b43 := F43.binds (ps := ["part", "thing"]) fun _ _ _ _ _ _ us hl => match us, hl with | [_, _], _ => rfl
  have F44 := fun_mk (st := s_with_part) l44 c44 k44
  have b44 := F44.binds (ps := ["day", "part", "number"]) fun _ _ _ _ _ _ us hl => match us, hl with | [_, _, _], _ => rfl
  have F45 := fun_mk (st := s_others_now) l45 c45 k45
  have b45 := F45.binds (ps := ["before", "after"]) fun _ _ _ _ _ _ us hl => match us, hl with | [_, _], _ => rfl
  have F46 := fun_mk (st := s_cell_at) l46 c46 k46
  have b46 := F46.binds (ps := ["_law_script", "_law_k"]) fun _ _ _ _ _ _ us hl => match us, hl with | [_, _], _ => rfl
  have F47 := fun_mk (st := s_numbers) l47 c47 k47
  have b47 := F47.binds (ps := ["_law_cell", "_law_salt", "_law_sizes"]) fun _ _ _ _ _ _ us hl => match us, hl with | [_, _, _], _ => rfl
  have F48 := fun_mk (st := s_day) l48 c48 k48
  have b48 := F48.binds (ps := ["_law_digits", "_law_late"]) fun _ _ _ _ _ _ us hl => match us, hl with | [_, _], _ => rfl
  have F49 := fun_mk (st := s_days) l49 c49 k49
  have b49 := F49.binds (ps := ["_law_script", "_law_first", "_law_upto", "_law_salt", "_law_late"]) fun _ _ _ _ _ _ us hl => match us, hl with | [_, _, _, _, _], _ => rfl
  have F50 := fun_mk (st := s_bakery) l50 c50 k50
  have b50 := F50.binds (ps := ["_law_script", "_law_upto", "_law_salt"]) fun _ _ _ _ _ _ us hl => match us, hl with | [_, _, _], _ => rfl
  have F51 := fun_mk (st := s_changed) l51 c51 k51
  have b51 := F51.binds (ps := ["_law_bakery_here", "_law_place", "_law_piece", "_law_amount"]) fun _ _ _ _ _ _ us hl => match us, hl with | [_, _, _, _], _ => rfl
  have F52 := fun_mk (st := s_added) l52 c52 k52
  have b52 := F52.binds (ps := ["_law_bakery_here", "_law_lamp", "_law_place"]) fun _ _ _ _ _ _ us hl => match us, hl with | [_, _, _], _ => rfl
  have F53 := fun_mk (st := s_deed) l53 c53 k53
  have b53 := F53.binds (ps := ["_law_ledger", "_law_past", "_law_digits"]) fun _ _ _ _ _ _ us hl => match us, hl with | [_, _, _], _ => rfl
  have F54 := fun_mk (st := s_alike) l54 c54 k54
  have b54 := F54.binds (ps := ["_law_ledgers", "_law_pasts"]) fun _ _ _ _ _ _ us hl => match us, hl with | [_, _], _ => rfl
  have F55 := fun_mk (st := s_law) l55 c55 k55
  have b55 := F55.binds (ps := ["_law_script"]) fun _ _ _ _ _ _ us hl => match us, hl with | [_], _ => rfl
  have B : Bi mg := ⟨PySem.W.mg_none_of X G z_len, PySem.W.mg_none_of X G z_max, PySem.W.mg_none_of X G z_min, PySem.W.mg_none_of X G z_range, PySem.W.mg_none_of X G z_isinstance, PySem.W.mg_none_of X G z_int, PySem.W.mg_none_of X G z_bool, PySem.W.mg_none_of X G z_list, PySem.W.mg_none_of X G z_tuple, PySem.W.mg_none_of X G z_all, PySem.W.mg_none_of X G z_sum, PySem.W.mg_none_of X G z_repr, PySem.W.mg_none_of X G z_enumerate⟩
  have M_GREATEST := PySem.W.mg_of X G y_GREATEST
  have M_MOST_DAYS := PySem.W.mg_of X G y_MOST_DAYS
  have M_MOST_GOODS := PySem.W.mg_of X G y_MOST_GOODS
  have M_LONGEST_LIFE := PySem.W.mg_of X G y_LONGEST_LIFE
  have M_MOST_FIGURES := PySem.W.mg_of X G y_MOST_FIGURES
  have M_HEAD_ROWS := PySem.W.mg_of X G y_HEAD_ROWS
  have M_FIGURES := PySem.W.mg_of X G y_FIGURES
  have M_NONE := PySem.W.mg_of X G y_NONE
  have M_OVEN := PySem.W.mg_of X G y_OVEN
  have M_LIGHTS := PySem.W.mg_of X G y_LIGHTS
  have M_GOOD := PySem.W.mg_of X G y_GOOD
  have M_LIGHT := PySem.W.mg_of X G y_LIGHT
  have M_FINE := PySem.W.mg_of X G y_FINE
  refine ⟨PySem.W.fnOf "law" "law" (defArgs s_law) (defBody s_law) (defScope s_law) .none kV55 dc55 pm55 an55 cd55 ct55, fun s v => .of_eq rfl, fun base _ _ => ?_⟩
  have Bz := PySem.W.mg_none_of X G z_zip
  have Br := PySem.W.mg_none_of X G z_reversed
  have Bq := PySem.W.mg_none_of X G z_str
  have TX : LTxt K C_Ledger := ⟨⟨pg_Ledger, hd_Ledger, po_Ledger, sa_Ledger⟩, n1_Ledger, n2_Ledger, n3_Ledger, n4_Ledger⟩
  have Fm_init := fun_mk (st := s_Ledger_init) lm_init cm_init km_init
  have bm_init := Fm_init.binds (ps := ["self", "bakery"]) fun _ _ _ _ _ _ us hl => match us, hl with | [_, _], _ => rfl
  have Fm_bakery := fun_mk (st := s_Ledger_bakery) lm_bakery cm_bakery km_bakery
  have bm_bakery := Fm_bakery.binds (ps := ["self"]) fun _ _ _ _ _ _ us hl => match us, hl with | [_], _ => rfl
  have Fm_costs := fun_mk (st := s_Ledger_costs) lm_costs cm_costs km_costs
  have bm_costs := Fm_costs.binds (ps := ["self"]) fun _ _ _ _ _ _ us hl => match us, hl with | [_], _ => rfl
  have Fm_worth_at := fun_mk (st := s_Ledger_worth_at) lm_worth_at cm_worth_at km_worth_at
  have bm_worth_at := Fm_worth_at.binds (ps := ["self", "day", "part"]) fun _ _ _ _ _ _ us hl => match us, hl with | [_, _, _], _ => rfl
  have Fm_set_part := fun_mk (st := s_Ledger_set_part) lm_set_part cm_set_part km_set_part
  have bm_set_part := Fm_set_part.binds (ps := ["self", "day", "part", "number"]) fun _ _ _ _ _ _ us hl => match us, hl with | [_, _, _, _], _ => rfl
  have Fm_change : FunD K "change" "Ledger.change" (defArgs s_Ledger_change) (defBody s_Ledger_change) (defScope s_Ledger_change) [.non] [] fm_change _ := ⟨⟨_, _, _, _, _, _, _, _, _, _, rfl, lm_change, cm_change, .inr ⟨List.cons_ne_nil _ _, Td_change, _, [.none], _, rfl, ld_change, rfl, .cons rfl .nil⟩, .inl rfl⟩, km_change⟩
  have bm_change := binds_one (ps := ["self", "day", "part", "number"]) Fm_change fun _ _ _ _ _ _ _ us its hl hi => match us, its, hl, hi with | [_, _, _, _], [_], _, _ => ⟨_, rfl, rfl⟩
  have Fm_back := fun_mk (st := s_Ledger_back) lm_back cm_back km_back
  have bm_back := Fm_back.binds (ps := ["self"]) fun _ _ _ _ _ _ us hl => match us, hl with | [_], _ => rfl
  have Fm_add := fun_mk (st := s_Ledger_add) lm_add cm_add km_add
  have bm_add := Fm_add.binds (ps := ["self", "light", "day"]) fun _ _ _ _ _ _ us hl => match us, hl with | [_, _, _], _ => rfl
  have Fm_len := fun_mk (st := s_Ledger_len) lm_len cm_len km_len
  have bm_len := Fm_len.binds (ps := ["self"]) fun _ _ _ _ _ _ us hl => match us, hl with | [_], _ => rfl
  have Fm_eq := fun_mk (st := s_Ledger_eq) lm_eq cm_eq km_eq
  have bm_eq := Fm_eq.binds (ps := ["self", "other"]) fun _ _ _ _ _ _ us hl => match us, hl with | [_, _], _ => rfl
  have Fm_str := fun_mk (st := s_Ledger_str) lm_str cm_str km_str
  have bm_str := Fm_str.binds (ps := ["self"]) fun _ _ _ _ _ _ us hl => match us, hl with | [_], _ => rfl
  have M_Ledger := PySem.W.mg_of X G aC_Ledger
  have LK : LKit K C_Ledger := ⟨fun H p ⟨dx, fs, e⟩ => .base (.ins e TX.cl ha_Ledger hn_Ledger ht_Ledger hm_Ledger), nf0_Ledger, nf1_Ledger, nf2_Ledger, nf3_Ledger, nf4_Ledger, nf5_Ledger, kOwn_Ledger, kt0_Ledger, kt1_Ledger, kt2_Ledger, kt3_Ledger, kt4_Ledger⟩
  have NE : NeOk K C_Ledger := ⟨ne_Ledger, hm_Ledger⟩
  have M_PARTS := PySem.W.mg_of X G aP_PARTS
  have PT : PartsT K A_PARTS := fun _ => .inr ⟨_, _, _, lP_PARTS, rfl, rfl, by show 4 ≤ sizeLine; decide, .cons ⟨_, rfl⟩ (.cons ⟨_, rfl⟩ (.cons ⟨_, rfl⟩ (.cons ⟨_, rfl⟩ .nil)))⟩
  have PTy : ∃ o, K.lookup A_PARTS = some o ∧ o.cls = .type "tuple" ∧ o.dict = none := ⟨_, lP_PARTS, rfl, rfl⟩
  have D1 : Def l.prog w K mg base "is_whole" 1 ["thing"] (spWhole K) := ⟨_, _, PySem.W.mg_of X G a1, k1, b1, ok_is_whole F1 B⟩
  have D2 : Def l.prog w K mg base "is_number" 2 ["thing"] (spNum K) := ⟨_, _, PySem.W.mg_of X G a2, k2, b2, ok_is_number (k := 0) F2 B M_GREATEST D1⟩
  have D3 : Def l.prog w K mg base "is_tuple_of" 1 ["thing", "many"] (spTupleOf K) := ⟨_, _, PySem.W.mg_of X G a3, k3, b3, ok_is_tuple_of F3 B⟩
  have D4 : Def l.prog w K mg base "is_list_of" 1 ["thing", "fewest", "most"] (spListOf K) := ⟨_, _, PySem.W.mg_of X G a4, k4, b4, ok_is_list_of F4 B⟩
  have D5 : Def l.prog w K mg base "are_lights" 3 ["thing"] (spPred K lightsB) := ⟨_, _, PySem.W.mg_of X G a5, k5, b5, ok_are_lights F5 B M_MOST_DAYS D4 D2⟩
  have D6 : Def l.prog w K mg base "is_bound" 3 ["thing"] (spPred K boundB) := ⟨_, _, PySem.W.mg_of X G a6, k6, b6, ok_is_bound F6 D2⟩
  have D7 : Def l.prog w K mg base "is_life" 3 ["thing"] (spPred K lifeB) := ⟨_, _, PySem.W.mg_of X G a7, k7, b7, ok_is_life F7 M_LONGEST_LIFE D1⟩
  have D8 : Def l.prog w K mg base "is_day" 3 ["thing"] (spPred K dayB) := ⟨_, _, PySem.W.mg_of X G a8, k8, b8, ok_is_day F8 B D3 D2⟩
  have D9 : Def l.prog w K mg base "has_bakery_form" 4 ["thing"] (spPred K bakFormB) := ⟨_, _, PySem.W.mg_of X G a9, k9, b9, ok_has_bakery_form F9 D3 D5 D6 D4 M_MOST_GOODS⟩
  have D10 : Def l.prog w K mg base "has_good_form" 4 ["thing", "many"] (spGoodForm K) := ⟨_, _, PySem.W.mg_of X G a10, k10, b10, ok_has_good_form F10 D3 D7 D4⟩
  have D11 : Def l.prog w K mg base "look_at_goods" 5 ["goods", "many"] (spLookGoods K) := ⟨_, _, PySem.W.mg_of X G a11, k11, b11, ok_look_at_goods F11 B D10 D8⟩
  have D12 : Def l.prog w K mg base "look_at_bakery" 6 ["thing"] (spLook K) := ⟨_, _, PySem.W.mg_of X G a12, k12, b12, ok_look_at_bakery F12 B D9 D11⟩
  have D13 : Def l.prog w K mg base "is_plain" 7 ["bakery"] (spPlain K (.bl true)) := ⟨_, _, PySem.W.mg_of X G a13, k13, b13, ok_is_plain F13 B D12⟩
  have D14 : Def l.prog w K mg base "look_at_plain" 8 ["bakery"] (spPlain K .non) := ⟨_, _, PySem.W.mg_of X G a14, k14, b14, ok_look_at_plain F14 D13⟩
  have D15 : Def l.prog w K mg base "is_place" 2 ["thing", "many"] (spPlace K) := ⟨_, _, PySem.W.mg_of X G a15, k15, b15, ok_is_place F15 D1⟩
  have D16 : Def l.prog w K mg base "keeps_of" 1 ["days", "first", "behind"] (spKeeps K) := ⟨_, _, PySem.W.mg_of X G a16, k16, b16, ok_keeps_of F16 B⟩
  have D17 : Def l.prog w K mg base "fines_of" 1 ["days", "first", "behind"] (spFines K) := ⟨_, _, PySem.W.mg_of X G a17, k17, b17, ok_fines_of F17 B⟩
  have D18 : Def l.prog w K mg base "loaf_price" 2 ["good", "baked", "given"] (spLoafP K) := ⟨_, _, PySem.W.mg_of X G a18, k18, b18, ok_loaf_price F18 D17 D16⟩
  have D19 : Def l.prog w K mg base "wanted_price" 3 ["good", "baked", "given"] (spWanted K) := ⟨_, _, PySem.W.mg_of X G a19, k19, b19, ok_wanted_price F19 D18⟩
  have D20 : Def l.prog w K mg base "wanted_table" 4 ["good"] (spTable K) := ⟨_, _, PySem.W.mg_of X G a20, k20, b20, ok_wanted_table F20 B D19⟩
  have D21 : Def l.prog w K mg base "least_baked_on" 1 ["row", "light", "prices", "many"] (spLbo K) := ⟨_, _, PySem.W.mg_of X G a21, k21, b21, ok_least_baked_on F21 B Br⟩
  have D22 : Def l.prog w K mg base "least_of" 2 ["row", "lights", "table", "many", "ovens"] (spLeastOf K) := ⟨_, _, PySem.W.mg_of X G a22, k22, b22, ok_least_of F22 B D21⟩
  have D23 : Def l.prog w K mg base "is_unwanted" 1 ["good", "day"] (spUnw K) := ⟨_, _, PySem.W.mg_of X G a23, k23, b23, ok_is_unwanted F23 ⟩
  have D24 : Def l.prog w K mg base "least_row" 9 ["bakery"] (spRow K) := ⟨_, _, PySem.W.mg_of X G a24, k24, b24, ok_least_row F24 B D14 D20 D22 D23⟩
  have D25 : Def l.prog w K mg base "word_of" 1 ["worth"] (spWord K) := ⟨_, _, PySem.W.mg_of X G a25, k25, b25, ok_word_of F25 Bq M_NONE⟩
  have D26 : Def l.prog w K mg base "row_of" 2 ["worths"] (spRowOf K) := ⟨_, _, PySem.W.mg_of X G a26, k26, b26, ok_row_of F26 D25⟩
  have D27 : Def l.prog w K mg base "good_rows" 3 ["good"] (spGRows K) := ⟨_, _, PySem.W.mg_of X G a27, k27, b27, ok_good_rows F27 M_GOOD D25 D26⟩
  have D28 : Def l.prog w K mg base "show_bakery" 7 ["bakery"] (spShow K) := ⟨_, _, PySem.W.mg_of X G a28, k28, b28, ok_show_bakery F28 M_OVEN M_LIGHTS D12 D25 D26 D27⟩
  have D29 : Def l.prog w K mg base "is_written" 1 ["word"] (spWrit K) := ⟨_, _, PySem.W.mg_of X G a29, k29, b29, ok_is_written F29 B M_NONE M_MOST_FIGURES M_FIGURES⟩
  have D30 : Def l.prog w K mg base "worths_of" 2 ["words"] (spWorths K) := ⟨_, _, PySem.W.mg_of X G a30, k30, b30, ok_worths_of F30 B M_NONE D29⟩
  have D31 : Def l.prog w K mg base "worths_behind" 3 ["head", "row"] (spBehind K) := ⟨_, _, PySem.W.mg_of X G a31, k31, b31, ok_worths_behind F31 B D30⟩
  have D32 : Def l.prog w K mg base "is_oven_row" 4 ["row"] (spOvenR K) := ⟨_, _, PySem.W.mg_of X G a32, k32, b32, ok_is_oven_row F32 B M_OVEN D31 D6⟩
  have D33 : Def l.prog w K mg base "is_lights_row" 4 ["row"] (spLightsR K) := ⟨_, _, PySem.W.mg_of X G a33, k33, b33, ok_is_lights_row F33 M_LIGHTS D31 D5⟩
  have D34 : Def l.prog w K mg base "is_good_row" 4 ["row"] (spGoodR K) := ⟨_, _, PySem.W.mg_of X G a34, k34, b34, ok_is_good_row F34 B M_GOOD D31 D7⟩
  have D35 : Def l.prog w K mg base "is_day_row" 4 ["row"] (spDayRow K) := ⟨_, _, PySem.W.mg_of X G a35, k35, b35, ok_is_day_row F35 B D30 D8⟩
  have D36 : Def l.prog w K mg base "rows_per_good" 4 ["rows"] (spRpg K) := ⟨_, _, PySem.W.mg_of X G a36, k36, b36, ok_rows_per_good F36 B M_LIGHTS D31⟩
  have D37 : Def l.prog w K mg base "is_bakery_row" 5 ["rows", "at"] (spBakRow K) := ⟨_, _, PySem.W.mg_of X G a37, k37, b37, ok_is_bakery_row F37 M_HEAD_ROWS M_MOST_GOODS D32 D33 D36 D34 D35⟩
  have D38 : Def l.prog w K mg base "is_ended" 5 ["rows"] (spEnded K) := ⟨_, _, PySem.W.mg_of X G a38, k38, b38, ok_is_ended F38 B M_HEAD_ROWS D36⟩
  have D39 : Def l.prog w K mg base "rows_of" 1 ["text"] (spRowsOf K) := ⟨_, _, PySem.W.mg_of X G a39, k39, b39, ok_rows_of F39 B Bq⟩
  have D40 : Def l.prog w K mg base "read_good" 4 ["rows"] (spRGood K) := ⟨_, _, PySem.W.mg_of X G a40, k40, b40, ok_read_good F40 B M_GOOD D30 D31⟩
  have D41 : Def l.prog w K mg base "read_bakery" 6 ["text"] (spRBak K) := ⟨_, _, PySem.W.mg_of X G a41, k41, b41, ok_read_bakery (t4 := tk_HEAD_ROWS) F41 B M_HEAD_ROWS M_LIGHTS M_OVEN D39 D37 D38 D36 D40 D31⟩
  have D42 : Def l.prog w K mg base "is_part" 1 ["thing"] (spPart K) := ⟨_, _, PySem.W.mg_of X G a42, k42, b42, ok_is_part F42 B Bq M_LIGHT M_PARTS PT⟩
  have D43 : Def l.prog w K mg base "is_worth" 3 ["part", "thing"] (spWorth K) := ⟨_, _, PySem.W.mg_of X G a43, k43, b43, ok_is_worth F43 M_FINE D2⟩
  have D44 : Def l.prog w K mg base "with_part" 1 ["day", "part", "number"] (spWith K) := ⟨_, _, PySem.W.mg_of X G a44, k44, b44, ok_with_part F44 B Bz M_PARTS PT⟩
  have D45 : Def l.prog w K mg base "others_now" 1 ["before", "after"] (spOthers K) := ⟨_, _, PySem.W.mg_of X G a45, k45, b45, ok_others_now F45 B Bz⟩
  have D46 : Def l.prog w K mg base "_law_cell_at" 1 ["_law_script", "_law_k"] (spCellAt K) := ⟨_, _, PySem.W.mg_of X G a46, k46, b46, ok_cell_at F46 B⟩
  have D47 : Def l.prog w K mg base "_law_numbers" 1 ["_law_cell", "_law_salt", "_law_sizes"] (spNumbers K) := ⟨_, _, PySem.W.mg_of X G a47, k47, b47, ok_numbers F47 B⟩
  have D48 : Def l.prog w K mg base "_law_day" 1 ["_law_digits", "_law_late"] (spDay K) := ⟨_, _, PySem.W.mg_of X G a48, k48, b48, ok_day F48 B⟩
  have D49 : Def l.prog w K mg base "_law_days" 2 ["_law_script", "_law_first", "_law_upto", "_law_salt", "_law_late"] (spDays42 K) := ⟨_, _, PySem.W.mg_of X G a49, k49, b49, ok_days F49 B D47 D46 D48⟩
  have D50 : Def l.prog w K mg base "_law_bakery" 3 ["_law_script", "_law_upto", "_law_salt"] (spBakery K) := ⟨_, _, PySem.W.mg_of X G a50, k50, b50, ok_bakery F50 B D47 D46 D49⟩
  have D51 : Def l.prog w K mg base "_law_changed" 1 ["_law_bakery_here", "_law_place", "_law_piece", "_law_amount"] (spChg42 K) := ⟨_, _, PySem.W.mg_of X G a51, k51, b51, ok_chg42 F51 ⟩
  have D52 : Def l.prog w K mg base "_law_added" 1 ["_law_bakery_here", "_law_lamp", "_law_place"] (spAdded K) := ⟨_, _, PySem.W.mg_of X G a52, k52, b52, ok_added F52 ⟩
  have TK_add : MetK l.prog w K mg base 4 C_Ledger "add" (spLAdd K C_Ledger) ["day", "light"] swap2 := ⟨_, _, ["self", "light", "day"], _, TX.cl, ⟨am_add, im_add, km_add⟩, ok_Ledger_add Fm_add B TX M_MOST_DAYS D2 D8, kbn_none (ps := ["self", "light", "day"]) Fm_add 1 ["day", "light"] (@swap2) swap2_vals (fun _ _ _ _ _ _ us ws h1 h2 => match us, ws, h1, h2 with | [_], [_, _], _, _ => rfl), fun us ws h1 h2 => match us, ws, h1, h2 with | [_], [_, _], _, _ => rfl⟩
  have T_worth_at : C8.Met l.prog w K mg base 1 C_Ledger "worth_at" (spLWorth K C_Ledger) [] := ⟨_, _, ["self", "day", "part"], [], TX.cl, ⟨am_worth_at, im_worth_at, km_worth_at⟩, ok_Ledger_worth_at Fm_worth_at TX M_LIGHT M_PARTS PT PTy, bm_worth_at, .nil⟩
  have T_bakery : C8.Met l.prog w K mg base 1 C_Ledger "bakery" (spLBak K C_Ledger) [] := ⟨_, _, ["self"], [], TX.cl, ⟨am_bakery, im_bakery, km_bakery⟩, ok_Ledger_bakery Fm_bakery B TX, bm_bakery, .nil⟩
  have T_costs : C8.Met l.prog w K mg base 10 C_Ledger "costs" (spLCosts K C_Ledger) [] := ⟨_, _, ["self"], [], TX.cl, ⟨am_costs, im_costs, km_costs⟩, ok_Ledger_costs Fm_costs D24 T_bakery, bm_costs, .nil⟩
  have T_set_part : C8.Met l.prog w K mg base 11 C_Ledger "set_part" (spLSet K C_Ledger) [] := ⟨_, _, ["self", "day", "part", "number"], [], TX.cl, ⟨am_set_part, im_set_part, km_set_part⟩, ok_Ledger_set_part Fm_set_part TX M_LIGHT D44 D45 T_costs, bm_set_part, .nil⟩
  have TK_change : MetK l.prog w K mg base 12 C_Ledger "change" (spLChange K C_Ledger) ["number", "day", "part"] turn3 := (FunD.kbindsD (ps := ["self", "day", "part", "number"]) Fm_change 1 ["number", "day", "part"] (fun us _ ws => turn3 us ws) (List.cons_ne_nil _ _) (fun h1 _ h3 => turn3_vals h1 h3) (fun _ _ _ _ _ _ _ us its ws h1 h2 h3 => match us, its, ws, h1, h2, h3 with | [_], [_], [_, _, _], _, _, _ => ⟨_, rfl, rfl⟩)).elim fun its hk => ⟨_, _, ["self", "day", "part", "number"], _, TX.cl, ⟨am_change, im_change, km_change⟩, ok_Ledger_change Fm_change B TX D15 D42 D43 T_worth_at T_set_part, hk, fun us ws h1 h2 => match us, ws, h1, h2 with | [_], [_, _, _], _, _ => rfl⟩
  have TF_change : C8.Met l.prog w K mg base 12 C_Ledger "change" (spLChange K C_Ledger) [.non] := (binds_def (ps := ["self", "day", "part", "number"]) Fm_change rfl fun _ _ _ _ _ _ _ us its hl hi => match us, its, hl, hi with | [_, _, _], [_], _, _ => ⟨_, rfl, rfl⟩).elim fun dz hz => ⟨_, _, ["self", "day", "part", "number"], dz, TX.cl, ⟨am_change, im_change, km_change⟩, ok_Ledger_change Fm_change B TX D15 D42 D43 T_worth_at T_set_part, hz.2, hz.1⟩
  have T_back : C8.Met l.prog w K mg base 12 C_Ledger "back" (spLBackA K C_Ledger) [] := ⟨_, _, ["self"], [], TX.cl, ⟨am_back, im_back, km_back⟩, ok_Ledger_backA Fm_back TX T_set_part, bm_back, .nil⟩
  have D53 : Def l.prog w K mg base "_law_deed" 13 ["_law_ledger", "_law_past", "_law_digits"] (spDeed42 K C_Ledger) := ⟨_, _, PySem.W.mg_of X G a53, k53, b53, ok_deed42 F53 B D52 D51 TK_add TK_change TF_change T_back⟩
  have T_len : C8.Met l.prog w K mg base 1 C_Ledger "__len__" (spLLen K C_Ledger) [] := ⟨_, _, ["self"], [], TX.cl, ⟨am_len, im_len, km_len⟩, ok_Ledger_len Fm_len B TX, bm_len, .nil⟩
  have T_eq : C8.Met l.prog w K mg base 1 C_Ledger "__eq__" (spLEq K C_Ledger) [] := ⟨_, _, ["self", "other"], [], TX.cl, ⟨am_eq, im_eq, km_eq⟩, ok_Ledger_eq Fm_eq B TX M_Ledger LK.tl LK.kOwn, bm_eq, .nil⟩
  have T_str : C8.Met l.prog w K mg base 9 C_Ledger "__str__" (spLStr K C_Ledger) [] := ⟨_, _, ["self"], [], TX.cl, ⟨am_str, im_str, km_str⟩, ok_Ledger_str Fm_str Bq D28 T_bakery, bm_str, .nil⟩
  have D54 : Def l.prog w K mg base "_law_alike" 12 ["_law_ledgers", "_law_pasts"] (spAlike42 K C_Ledger) := ⟨_, _, PySem.W.mg_of X G a54, k54, b54, ok_alike42 F54 B Bq LK NE D28 T_len T_eq T_str⟩
  have MK_Ledger : Maker l.prog w K mg base "Ledger" 9 C_Ledger (spLInit K C_Ledger) := ⟨_, _, ["self", "bakery"], ⟨mk_Ledger, am_init, im_init, kC_Ledger⟩, PySem.W.mg_of X G aC_Ledger, ok_Ledger_init Fm_init B TX D14, bm_init⟩
  have T_add : C8.Met l.prog w K mg base 4 C_Ledger "add" (spLAdd K C_Ledger) [] := ⟨_, _, ["self", "light", "day"], [], TX.cl, ⟨am_add, im_add, km_add⟩, ok_Ledger_add Fm_add B TX M_MOST_DAYS D2 D8, bm_add, .nil⟩
  exact ok_law F55 B Bz Bq LK D50 D47 D52 D53 D54 D41 MK_Ledger T_add T_eq T_str
end Bk
open PySem PySem.W PyProof.Rows
set_option maxHeartbeats 0 in
theorem PySem.Challenge.cw_bakeahead_k42_ledgers_alike_holds : PySem.Challenge.rw_bakeahead_k42_ledgers_alike.Holds := by
  w_on; o_law; k_head; (case hw => w_witness2)
  k_fill
  refine Bk.walk_G (l := PySem.Challenge.rw_bakeahead_k42_ledgers_alike) (n := 63) (k := 14) (x := "_law_script") (sp := fun w => Bk.spLaw _) rfl (by decide) rfl ⟨rfl, by decide, by decide⟩ (fun w h Y => PySem.W.kIn_of Y) ?F (fun _ _ a ns hl hS => ⟨a, ns, rfl, hS, hl, fun _ => rfl⟩)
  case F =>
    intro w mg fa h KX G hmg
    refine' Bk.all_mk KX G hmg ?a1 ?l1 ?c1 ?k1 ?a2 ?l2 ?c2 ?k2 ?a3 ?l3 ?c3 ?k3 ?a4 ?l4 ?c4 ?k4 ?a5 ?l5 ?c5 ?k5 ?a6 ?l6 ?c6 ?k6 ?a7 ?l7 ?c7 ?k7 ?a8 ?l8 ?c8 ?k8 ?a9 ?l9 ?c9 ?k9 ?a10 ?l10 ?c10 ?k10 ?a11 ?l11 ?c11 ?k11 ?a12 ?l12 ?c12 ?k12 ?a13 ?l13 ?c13 ?k13 ?a14 ?l14 ?c14 ?k14 ?a15 ?l15 ?c15 ?k15 ?a16 ?l16 ?c16 ?k16 ?a17 ?l17 ?c17 ?k17 ?a18 ?l18 ?c18 ?k18 ?a19 ?l19 ?c19 ?k19 ?a20 ?l20 ?c20 ?k20 ?a21 ?l21 ?c21 ?k21 ?a22 ?l22 ?c22 ?k22 ?a23 ?l23 ?c23 ?k23 ?a24 ?l24 ?c24 ?k24 ?a25 ?l25 ?c25 ?k25 ?a26 ?l26 ?c26 ?k26 ?a27 ?l27 ?c27 ?k27 ?a28 ?l28 ?c28 ?k28 ?a29 ?l29 ?c29 ?k29 ?a30 ?l30 ?c30 ?k30 ?a31 ?l31 ?c31 ?k31 ?a32 ?l32 ?c32 ?k32 ?a33 ?l33 ?c33 ?k33 ?a34 ?l34 ?c34 ?k34 ?a35 ?l35 ?c35 ?k35 ?a36 ?l36 ?c36 ?k36 ?a37 ?l37 ?c37 ?k37 ?a38 ?l38 ?c38 ?k38 ?a39 ?l39 ?c39 ?k39 ?a40 ?l40 ?c40 ?k40 ?a41 ?l41 ?c41 ?k41 ?a42 ?l42 ?c42 ?k42 ?a43 ?l43 ?c43 ?k43 ?a44 ?l44 ?c44 ?k44 ?a45 ?l45 ?c45 ?k45 ?a46 ?l46 ?c46 ?k46 ?a47 ?l47 ?c47 ?k47 ?a48 ?l48 ?c48 ?k48 ?a49 ?l49 ?c49 ?k49 ?a50 ?l50 ?c50 ?k50 ?a51 ?l51 ?c51 ?k51 ?a52 ?l52 ?c52 ?k52 ?a53 ?l53 ?c53 ?k53 ?a54 ?l54 ?c54 ?k54 ?a55 ?l55 ?c55 ?k55 ?aC_Ledger ?pg_Ledger ?hd_Ledger ?po_Ledger ?sa_Ledger ?mk_Ledger ?kC_Ledger ?n1_Ledger ?n2_Ledger ?n3_Ledger ?n4_Ledger ?ha_Ledger ?hn_Ledger ?ht_Ledger ?hm_Ledger ?ne_Ledger ?kOwn_Ledger ?nf0_Ledger ?nf1_Ledger ?nf2_Ledger ?nf3_Ledger ?nf4_Ledger ?nf5_Ledger ?kt0_Ledger ?kt1_Ledger ?kt2_Ledger ?kt3_Ledger ?kt4_Ledger ?aP_PARTS ?lP_PARTS ?am_init ?im_init ?lm_init ?cm_init ?km_init ?am_bakery ?im_bakery ?lm_bakery ?cm_bakery ?km_bakery ?am_costs ?im_costs ?lm_costs ?cm_costs ?km_costs ?am_worth_at ?im_worth_at ?lm_worth_at ?cm_worth_at ?km_worth_at ?am_set_part ?im_set_part ?lm_set_part ?cm_set_part ?km_set_part ?am_change ?im_change ?lm_change ?cm_change ?km_change ?ld_change ?am_back ?im_back ?lm_back ?cm_back ?km_back ?am_add ?im_add ?lm_add ?cm_add ?km_add ?am_len ?im_len ?lm_len ?cm_len ?km_len ?am_eq ?im_eq ?lm_eq ?cm_eq ?km_eq ?am_str ?im_str ?lm_str ?cm_str ?km_str ?z_len ?z_max ?z_min ?z_range ?z_isinstance ?z_int ?z_bool ?z_list ?z_tuple ?z_all ?z_sum ?z_repr ?z_enumerate ?z_str ?z_reversed ?z_zip ?y_GREATEST ?y_MOST_DAYS ?y_MOST_GOODS ?y_LONGEST_LIFE ?y_MOST_FIGURES ?y_HEAD_ROWS ?y_FIGURES ?y_NONE ?y_OVEN ?y_LIGHTS ?y_GOOD ?y_LIGHT ?y_FINE
    (case a1 => k_is)
    (case l1 => k_is)
    (case c1 => k_is)
    (case k1 => k_is)
    (case a2 => k_is)
    (case l2 => k_is)
    (case c2 => k_is)
    (case k2 => k_is)
    (case a3 => k_is)
    (case l3 => k_is)
    (case c3 => k_is)
    (case k3 => k_is)
    (case a4 => k_is)
    (case l4 => k_is)
    (case c4 => k_is)
    (case k4 => k_is)
    (case a5 => k_is)
    (case l5 => k_is)
    (case c5 => k_is)
    (case k5 => k_is)
    (case a6 => k_is)
    (case l6 => k_is)
    (case c6 => k_is)
    (case k6 => k_is)
    (case a7 => k_is)
    (case l7 => k_is)
    (case c7 => k_is)
    (case k7 => k_is)
    (case a8 => k_is)
    (case l8 => k_is)
    (case c8 => k_is)
    (case k8 => k_is)
    (case a9 => k_is)
    (case l9 => k_is)
    (case c9 => k_is)
    (case k9 => k_is)
    (case a10 => k_is)
    (case l10 => k_is)
    (case c10 => k_is)
    (case k10 => k_is)
    (case a11 => k_is)
    (case l11 => k_is)
    (case c11 => k_is)
    (case k11 => k_is)
    (case a12 => k_is)
    (case l12 => k_is)
    (case c12 => k_is)
    (case k12 => k_is)
    (case a13 => k_is)
    (case l13 => k_is)
    (case c13 => k_is)
    (case k13 => k_is)
    (case a14 => k_is)
    (case l14 => k_is)
    (case c14 => k_is)
    (case k14 => k_is)
    (case a15 => k_is)
    (case l15 => k_is)
    (case c15 => k_is)
    (case k15 => k_is)
    (case a16 => k_is)
    (case l16 => k_is)
    (case c16 => k_is)
    (case k16 => k_is)
    (case a17 => k_is)
    (case l17 => k_is)
    (case c17 => k_is)
    (case k17 => k_is)
    (case a18 => k_is)
    (case l18 => k_is)
    (case c18 => k_is)
    (case k18 => k_is)
    (case a19 => k_is)
    (case l19 => k_is)
    (case c19 => k_is)
    (case k19 => k_is)
    (case a20 => k_is)
    (case l20 => k_is)
    (case c20 => k_is)
    (case k20 => k_is)
    (case a21 => k_is)
    (case l21 => k_is)
    (case c21 => k_is)
    (case k21 => k_is)
    (case a22 => k_is)
    (case l22 => k_is)
    (case c22 => k_is)
    (case k22 => k_is)
    (case a23 => k_is)
    (case l23 => k_is)
    (case c23 => k_is)
    (case k23 => k_is)
    (case a24 => k_is)
    (case l24 => k_is)
    (case c24 => k_is)
    (case k24 => k_is)
    (case a25 => k_is)
    (case l25 => k_is)
    (case c25 => k_is)
    (case k25 => k_is)
    (case a26 => k_is)
    (case l26 => k_is)
    (case c26 => k_is)
    (case k26 => k_is)
    (case a27 => k_is)
    (case l27 => k_is)
    (case c27 => k_is)
    (case k27 => k_is)
    (case a28 => k_is)
    (case l28 => k_is)
    (case c28 => k_is)
    (case k28 => k_is)
    (case a29 => k_is)
    (case l29 => k_is)
    (case c29 => k_is)
    (case k29 => k_is)
    (case a30 => k_is)
    (case l30 => k_is)
    (case c30 => k_is)
    (case k30 => k_is)
    (case a31 => k_is)
    (case l31 => k_is)
    (case c31 => k_is)
    (case k31 => k_is)
    (case a32 => k_is)
    (case l32 => k_is)
    (case c32 => k_is)
    (case k32 => k_is)
    (case a33 => k_is)
    (case l33 => k_is)
    (case c33 => k_is)
    (case k33 => k_is)
    (case a34 => k_is)
    (case l34 => k_is)
    (case c34 => k_is)
    (case k34 => k_is)
    (case a35 => k_is)
    (case l35 => k_is)
    (case c35 => k_is)
    (case k35 => k_is)
    (case a36 => k_is)
    (case l36 => k_is)
    (case c36 => k_is)
    (case k36 => k_is)
    (case a37 => k_is)
    (case l37 => k_is)
    (case c37 => k_is)
    (case k37 => k_is)
    (case a38 => k_is)
    (case l38 => k_is)
    (case c38 => k_is)
    (case k38 => k_is)
    (case a39 => k_is)
    (case l39 => k_is)
    (case c39 => k_is)
    (case k39 => k_is)
    (case a40 => k_is)
    (case l40 => k_is)
    (case c40 => k_is)
    (case k40 => k_is)
    (case a41 => k_is)
    (case l41 => k_is)
    (case c41 => k_is)
    (case k41 => k_is)
    (case a42 => k_is)
    (case l42 => k_is)
    (case c42 => k_is)
    (case k42 => k_is)
    (case a43 => k_is)
    (case l43 => k_is)
    (case c43 => k_is)
    (case k43 => k_is)
    (case a44 => k_is)
    (case l44 => k_is)
    (case c44 => k_is)
    (case k44 => k_is)
    (case a45 => k_is)
    (case l45 => k_is)
    (case c45 => k_is)
    (case k45 => k_is)
    (case a46 => k_is)
    (case l46 => k_is)
    (case c46 => k_is)
    (case k46 => k_is)
    (case a47 => k_is)
    (case l47 => k_is)
    (case c47 => k_is)
    (case k47 => k_is)
    (case a48 => k_is)
    (case l48 => k_is)
    (case c48 => k_is)
    (case k48 => k_is)
    (case a49 => k_is)
    (case l49 => k_is)
    (case c49 => k_is)
    (case k49 => k_is)
    (case a50 => k_is)
    (case l50 => k_is)
    (case c50 => k_is)
    (case k50 => k_is)
    (case a51 => k_is)
    (case l51 => k_is)
    (case c51 => k_is)
    (case k51 => k_is)
    (case a52 => k_is)
    (case l52 => k_is)
    (case c52 => k_is)
    (case k52 => k_is)
    (case a53 => k_is)
    (case l53 => k_is)
    (case c53 => k_is)
    (case k53 => k_is)
    (case a54 => k_is)
    (case l54 => k_is)
    (case c54 => k_is)
    (case k54 => k_is)
    (case a55 => k_is)
    (case l55 => k_is)
    (case c55 => k_is)
    (case k55 => k_is)
    (case aC_Ledger => first | rfl | k_is | decide +kernel)
    (case pg_Ledger => first | rfl | k_is | decide +kernel)
    (case hd_Ledger => first | rfl | k_is | decide +kernel)
    (case po_Ledger => first | rfl | k_is | decide +kernel)
    (case sa_Ledger => first | rfl | k_is | decide +kernel)
    (case mk_Ledger => first | rfl | k_is | decide +kernel)
    (case kC_Ledger => first | rfl | k_is | decide +kernel)
    (case n1_Ledger => first | rfl | k_is | decide +kernel)
    (case n2_Ledger => first | rfl | k_is | decide +kernel)
    (case n3_Ledger => first | rfl | k_is | decide +kernel)
    (case n4_Ledger => first | rfl | k_is | decide +kernel)
    (case ha_Ledger => first | rfl | k_is | decide +kernel)
    (case hn_Ledger => first | rfl | k_is | decide +kernel)
    (case ht_Ledger => first | rfl | k_is | decide +kernel)
    (case hm_Ledger => first | rfl | k_is | decide +kernel)
    (case ne_Ledger => first | rfl | k_is | decide +kernel)
    (case kOwn_Ledger => first | rfl | k_is | decide +kernel)
    (case nf0_Ledger => first | rfl | k_is | decide +kernel)
    (case nf1_Ledger => first | rfl | k_is | decide +kernel)
    (case nf2_Ledger => first | rfl | k_is | decide +kernel)
    (case nf3_Ledger => first | rfl | k_is | decide +kernel)
    (case nf4_Ledger => first | rfl | k_is | decide +kernel)
    (case nf5_Ledger => first | rfl | k_is | decide +kernel)
    (case kt0_Ledger => first | rfl | k_is | decide +kernel)
    (case kt1_Ledger => first | rfl | k_is | decide +kernel)
    (case kt2_Ledger => first | rfl | k_is | decide +kernel)
    (case kt3_Ledger => first | rfl | k_is | decide +kernel)
    (case kt4_Ledger => first | rfl | k_is | decide +kernel)
    (case aP_PARTS => first | rfl | k_is | decide +kernel)
    (case lP_PARTS => first | rfl | k_is | decide +kernel)
    (case am_init => first | rfl | k_is | decide +kernel)
    (case im_init => first | rfl | k_is | decide +kernel)
    (case lm_init => first | rfl | k_is | decide +kernel)
    (case cm_init => first | rfl | k_is | decide +kernel)
    (case km_init => first | rfl | k_is | decide +kernel)
    (case am_bakery => first | rfl | k_is | decide +kernel)
    (case im_bakery => first | rfl | k_is | decide +kernel)
    (case lm_bakery => first | rfl | k_is | decide +kernel)
    (case cm_bakery => first | rfl | k_is | decide +kernel)
    (case km_bakery => first | rfl | k_is | decide +kernel)
    (case am_costs => first | rfl | k_is | decide +kernel)
    (case im_costs => first | rfl | k_is | decide +kernel)
    (case lm_costs => first | rfl | k_is | decide +kernel)
    (case cm_costs => first | rfl | k_is | decide +kernel)
    (case km_costs => first | rfl | k_is | decide +kernel)
    (case am_worth_at => first | rfl | k_is | decide +kernel)
    (case im_worth_at => first | rfl | k_is | decide +kernel)
    (case lm_worth_at => first | rfl | k_is | decide +kernel)
    (case cm_worth_at => first | rfl | k_is | decide +kernel)
    (case km_worth_at => first | rfl | k_is | decide +kernel)
    (case am_set_part => first | rfl | k_is | decide +kernel)
    (case im_set_part => first | rfl | k_is | decide +kernel)
    (case lm_set_part => first | rfl | k_is | decide +kernel)
    (case cm_set_part => first | rfl | k_is | decide +kernel)
    (case km_set_part => first | rfl | k_is | decide +kernel)
    (case am_change => first | rfl | k_is | decide +kernel)
    (case im_change => first | rfl | k_is | decide +kernel)
    (case lm_change => first | rfl | k_is | decide +kernel)
    (case cm_change => first | rfl | k_is | decide +kernel)
    (case km_change => first | rfl | k_is | decide +kernel)
    (case ld_change => first | rfl | k_is | decide +kernel)
    (case am_back => first | rfl | k_is | decide +kernel)
    (case im_back => first | rfl | k_is | decide +kernel)
    (case lm_back => first | rfl | k_is | decide +kernel)
    (case cm_back => first | rfl | k_is | decide +kernel)
    (case km_back => first | rfl | k_is | decide +kernel)
    (case am_add => first | rfl | k_is | decide +kernel)
    (case im_add => first | rfl | k_is | decide +kernel)
    (case lm_add => first | rfl | k_is | decide +kernel)
    (case cm_add => first | rfl | k_is | decide +kernel)
    (case km_add => first | rfl | k_is | decide +kernel)
    (case am_len => first | rfl | k_is | decide +kernel)
    (case im_len => first | rfl | k_is | decide +kernel)
    (case lm_len => first | rfl | k_is | decide +kernel)
    (case cm_len => first | rfl | k_is | decide +kernel)
    (case km_len => first | rfl | k_is | decide +kernel)
    (case am_eq => first | rfl | k_is | decide +kernel)
    (case im_eq => first | rfl | k_is | decide +kernel)
    (case lm_eq => first | rfl | k_is | decide +kernel)
    (case cm_eq => first | rfl | k_is | decide +kernel)
    (case km_eq => first | rfl | k_is | decide +kernel)
    (case am_str => first | rfl | k_is | decide +kernel)
    (case im_str => first | rfl | k_is | decide +kernel)
    (case lm_str => first | rfl | k_is | decide +kernel)
    (case cm_str => first | rfl | k_is | decide +kernel)
    (case km_str => first | rfl | k_is | decide +kernel)
    (case z_len => k_is)
    (case z_max => k_is)
    (case z_min => k_is)
    (case z_range => k_is)
    (case z_isinstance => k_is)
    (case z_int => k_is)
    (case z_bool => k_is)
    (case z_list => k_is)
    (case z_tuple => k_is)
    (case z_all => k_is)
    (case z_sum => k_is)
    (case z_repr => k_is)
    (case z_enumerate => k_is)
    (case z_str => k_is)
    (case z_reversed => k_is)
    (case z_zip => k_is)
    (case y_GREATEST => k_is)
    (case y_MOST_DAYS => k_is)
    (case y_MOST_GOODS => k_is)
    (case y_LONGEST_LIFE => k_is)
    (case y_MOST_FIGURES => k_is)
    (case y_HEAD_ROWS => k_is)
    (case y_FIGURES => k_is)
    (case y_NONE => k_is)
    (case y_OVEN => k_is)
    (case y_LIGHTS => k_is)
    (case y_GOOD => k_is)
    (case y_LIGHT => k_is)
    (case y_FINE => k_is)



