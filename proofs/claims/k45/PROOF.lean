import PyProof.Rows.All
import Wide.All
import OpenK.AllK
import Wide.FinOn
import HandS.Base
import HandS.Call
import HandS.Exc
import HandS.ExcInit
import HandS.Nested
import KE.KExcSuper
import KE.KSuper
import HandS.List
import HandS.Comp
import HandS.Ends
import HandS.Dict
import HandS.Iter
import HandS.Text
import HandS.Words
import HandS.WordsList
import HandS.Wide
import HandS.IsInst
import HandS.Walk
import HandS.Style
import HandS.NoneIn
import HandS.EndBits
import PyProof.ReprRoads
import PyProof.ReprLen
import HandS.Sort
import HandS.Conv
import HandS.RevRange
import HandS.WideBits
import HandS.More
import HandS.Small
import HandS.ForExc
import HandS.ExcOwn
import HandS.TryOnly
import HandS.FStr
import HandS.WordsExc
import PyProof.FString2
import PyProof.Rows.SeqMore
import PyProof.NeKinds
import HandS.TupAny
import HandS.Zip
import HandS.SetFor
import HandS.Strs
import HandS.TupSets
import HandS.SortKw
import HandS.SortInts
import PyProof.MinMaxWalk
import PyProof.WalkInts
import KE.SortData
import PyProof.MaxThree
import PySem.Challenge.RW_bakeahead_k45_whole_none_just_where_a_pl
set_option Elab.async false
set_option linter.all false
set_option maxRecDepth 100000
set_option maxHeartbeats 4000000
/-! an own error class over ValueError whose __init__ begins with super().__init__(..) -/
namespace Bk
open PySem PySem.Spec PyProof.Rows L2
/-- what the written part says, besides OexC, of such a class at C and of its __init__, with the cell cc and the code cda -/
structure SupC (P : Program) (K : PySem.W.Frag) (C cc cda : Addr) : Prop where
  code : ∃ ccl cdd vs ccs file tf, K.lookup cda = some ⟨ccl, cdd, .fields vs, ccs⟩ ∧ vs[2]? = some (.str file tf) ∧ ((P.main.file : Str) == file) = true
  cell : ∃ cl cld csl, K.lookup cc = some ⟨cl, cld, .cell (some (.ref C)), csl⟩
  sup : PySem.W.ks_superIn K C C "__init__" = some (some (.builtin "ValueError.__init__"))
  mro : PySem.W.mroIn K C (.ref C) = some true
  sub : PySem.W.subIn K (.ref C) (.type "ValueError") = some true
  super : PySem.W.nsIn K mainGlobals "super" = some none
  opq : PySem.W.nsIn K cStatics "thirdparty.any" = some none
  top : (P.main.scope.names.lookup ("super" : Str)).isSome = false
theorem boot_super : bootBuiltins "super" = some (.type "super") := by decide +kernel
theorem pinAdd {X : Cx} {pins : List (Addr × Obj)} {σ : L2.St} {H : Hp} {s : Shared} (I : Inv X pins σ H s) {u : Addr} {o : Obj} (h1 : s.heap.get? u = some o) (h2 : H u = none) (h3 : u ≠ X.env.locals) (h4 : u ∉ X.fs) (h5 : ∀ v, o.data ≠ .cell v) : Inv X ((u, o) :: pins) σ H s := by
  have hp : ∀ p ∈ X.pn ++ ((u, o) :: pins), s.heap.get? p.1 = some p.2 ∧ H p.1 = none ∧ p.1 ≠ X.env.locals ∧ p.1 ∉ X.fs ∧ ∀ v, p.2.data ≠ .cell v := by
    intro p hp
    rcases List.mem_append.mp hp with z | z
    · exact I.pin p (List.mem_append_left _ z)
    · rcases List.mem_cons.mp z with z | z
      · rw [z]
        exact ⟨h1, h2, h3, h4, h5⟩
      · exact I.pin p (List.mem_append_right _ z)
  exact ⟨I.ok, I.os, I.bare, I.base, I.loc, I.cell, I.free, I.freeC, hp, I.hok, I.len⟩
/-- the bound ValueError.__init__, called -/
theorem sup_call {X : Cx} {pins : List (Addr × Obj)} {σ : L2.St} {H : Hp} {s : Shared} {a C u : Addr} {us : List Value} {A : Around} {Q : Value → Shared → Prop} {E : Value → Shared → Prop} (T : OexC X.K C) (I : Inv X pins σ H s) (e : H a = some (exo a C none)) (hu : s.heap.get? u = some (PySem.W.kxs_mw "ValueError.__init__" a)) (hl : us.length ≤ sizeLine)
    (h : ∀ s', Inv X pins σ H s' → Q .none s') : wpAny (model X.prog X.w) A (call (.ref u) us) Q E s := by
  obtain ⟨nm, q, N, bs, bm, sn, sub, ab, col, dd, k0, k1, k2, k3, k5, hC, hbm⟩ := T.cls
  obtain ⟨t1, ho⟩ := exo_at I.hok e
  have hC := I.kIn _ _ hC
  obtain ⟨hp, g, d, t, os⟩ := s
  refine wpAny_call (codeAny_of_tree ?_)
  show wpAny _ A.in1 (callAny (.ref u) ⟨us, []⟩) _ _ _
  simp only [callAny]
  refine wpAny_bind (wpAny_load hu ?_)
  simp only [PySem.W.kxs_mw, show (Value.type "method-wrapper" == Value.type "method" || Value.type "method-wrapper" == Value.type "builtin_function_or_method" || Value.type "method-wrapper" == Value.type "method-wrapper") = true by decide, if_true]
  refine PySem.W.KFB.if_so (by decide) ?_
  refine wpAny_bind (PySem.W.check_bound_init F.excBase_ValueError.toExcCallFacts hC ho rfl ?_)
  refine wpAny_bind (wpAny_pure (wpAny_pure ?_))
  refine ⟨plainId_quiet F.excBase_ValueError.init.plain _, codeAny_builtin F.excBase_ValueError.initEntry ?_⟩
  rw [Around.under_plainId F.excBase_ValueError.init.plain _]
  refine PySem.W.exc_init_tree (cls := .ref C) (t0 := t1) (dv := none) (c2 := .none) (c3 := .none) (b4 := .bool false) ho hl fun h' k hx _ => ?_
  have J := I.write (t' := t) (x := a) (e := a) (o := exo a C none) (by rw [e]; exact True.intro) (.inl rfl) k ⟨_, hx⟩ (exo_ok hx)
  have eu : upd H a (exo a C none) = H := by
    funext b
    by_cases hb : b = a
    · rw [hb, upd_same, e]
    · rw [upd_ne hb]
  rw [eu] at J
  exact h _ J
section
open NdefX
variable {CX : CXT} {P : Program} {w : World} {K : PySem.W.Frag} {mg : Str → Option Value} {base : Heap} {N pr : List Str} {f C cc cda : Addr} {k : Nat} {sp : Sp}
  {qual : Str} {params : Arguments} {scope : Scope} {dV kV doc pm ct oc : Value} {an od : Option Addr} {osl : Array (Option Value)} {e : Expr} {es : List Expr} {rest : List Stmt} {p0 p1 p2 pos posE pa : Pos} {ann : Option Expr} {more : List Arg}
/-- __init__ of such a class, by what stands behind super().__init__(..) -/
theorem fn_sup (lk : K.lookup f = some ⟨oc, od, .func (PySem.W.ksFn "__init__" qual params (.Expr (.Call (.Attribute (.Call (.Name "super" p0) [] [] p1) "__init__" p2) (e :: es) [] pos) posE :: rest) scope dV kV doc pm an (.ref cda) ct cc), osl⟩)
    (hcd : PySem.W.codeIn K (.ref cda) qual = true) (T : OexC K C) (U : SupC P K C cc cda) (S : NScope N (("self" : Str) :: pr) ["__class__"] scope) (hsup : scope.names.lookup ("super" : Str) = some .globalImplicit)
    (hpar : (params.posonlyargs ++ params.args).head? = some ⟨"self", ann, pa⟩)
    (len : ∀ vs H Q E, sp vs H Q E → vs.length = (("self" : Str) :: pr).length)
    (hbody : ∀ (A : Around) (outer : List Env) (s : Shared) (H : Hp) (vs : List V) (Q : VK) (E : XK), sp vs H Q E →
      ∃ (a : Addr) (vr : List V) (ta : TA) (t : TS), vs = .ref a :: vr ∧ H a = some (exo a C none) ∧
        PA (ncx CX P w K mg base N ⟨"__init__", qual, params, (.Expr (.Call (.Attribute (.Call (.Name "super" p0) [] [] p1) "__init__" p2) (e :: es) [] pos) posE :: rest), scope, [("__class__", cc)], cda⟩ f A outer s H E) (e :: es) ta ∧
        PSs (ncx CX P w K mg base N ⟨"__init__", qual, params, (.Expr (.Call (.Attribute (.Call (.Name "super" p0) [] [] p1) "__init__" p2) (e :: es) [] pos) posE :: rest), scope, [("__class__", cc)], cda⟩ f A outer s H E) rest t ∧
        ta (startF N vs [none]) H fun ws H1 => ws.length ≤ 1000 ∧ H1 = H ∧ t { nx := fun _ H' => Q .non H', rt := Q } (startF N vs [none]) H)
    (he : ∀ env, starEach (e :: es) env = (false, eval e env) :: starEach es env := by intro _; rfl) (hpl : ∀ env, (backTo pos (starEach es env)).any (·.1) = false := by intro _; rfl)
    (hev : ∀ env, ∃ pl, eval (.Call (.Attribute (.Call (.Name "super" p0) [] [] p1) "__init__" p2) (e :: es) [] pos) env = (do
      let ov ← attributeBase (.Call (.Name "super" p0) [] [] p1) "__init__" env (eval (.Call (.Name "super" p0) [] [] p1) env)
      standAt p2.atName
      let (f, first) ← holding [ov] (getMethod ov "__init__" pl)
      callWith pos f first (backTo pos (starEach (e :: es) env)) []) := by intro _; exact ⟨_, rfl⟩)
    (hsw : ∀ env, swapsWith (.Call (.Attribute (.Call (.Name "super" p0) [] [] p1) "__init__" p2) (e :: es) [] pos) none posE.line env = pure false := by intro _; rfl) :
    FnOk P w K mg base CX (k + 1) f (PySem.W.ksFn "__init__" qual params (.Expr (.Call (.Attribute (.Call (.Name "super" p0) [] [] p1) "__init__" p2) (e :: es) [] pos) posE :: rest) scope dV kV doc pm an (.ref cda) ct cc) (("self" : Str) :: pr) sp := by
  refine ⟨len, fun A outer s H args us vs Q E hr e0 hb r hsp => ?_⟩
  have hl := len _ _ _ _ hsp
  have KX : K.In s.heap := e0.mod.kin.keeps fun b o e => (e0.bs b o e).1
  have lim : s.heap.NoLimit := e0.mod.nolimit.keeps fun b o e => (e0.bs b o e).1
  obtain ⟨ccl, cdd, vsC, ccs, file, tf, hcode, hvs, hfile⟩ := U.code
  obtain ⟨cl, cld, csl, hcell⟩ := U.cell
  obtain ⟨a, vr, ta, t, rfl, ha, hPA, hPS, hta⟩ := hbody A outer s H vs Q E hsp
  refine ks_codeAny_call_defAt (binds := (("self" : Str) :: pr).zip us) hr.depth (KX _ _ lk) rfl lim (PySem.W.codeRec_of KX hcd) rfl hb S.nocell (fun ⟨n, v⟩ hy => S.par n (List.of_mem_zip hy).1) (fun h₁ hns kp => ?_) S.co S.gen S.kind
  have look1 : ∀ {y : Str} {c : Addr}, List.lookup y [(("__class__" : Str), cc)] = some c → y = "__class__" ∧ c = cc := fun {y c} e => by
    by_cases h : y = "__class__"
    · subst h
      simp [List.lookup] at e
      exact ⟨rfl, e.symm⟩
    · have h : (y == ("__class__" : Str)) = false := by simpa using h
      simp [List.lookup, h] at e
  have CA : CellsAt [(("__class__" : Str), cc)] ["__class__"] [none] s.heap H := by
    refine ⟨rfl, fun y c e => ?_, fun x y c h1 h2 => ?_, fun i y hi => ?_⟩
    · obtain ⟨rfl, rfl⟩ := look1 e
      exact ⟨(e0.bs _ _ (e0.mod.kin _ _ hcell)).2, _, _, KX _ _ hcell, rfl⟩
    · rw [(look1 h1).1, (look1 h2).1]
    · cases i with
      | zero =>
        cases hi
        exact ⟨cc, by simp [List.lookup], fun v hv => by cases hv⟩
      | succ i => cases hi
  have I : Inv (ncx CX P w K mg base N ⟨"__init__", qual, params, (.Expr (.Call (.Attribute (.Call (.Name "super" p0) [] [] p1) "__init__" p2) (e :: es) [] pos) posE :: rest), scope, [("__class__", cc)], cda⟩ f A outer s H E) [] (startF N (.ref a :: vr) [none]) H { s with heap := h₁, toks := s.toks + ((("self" : Str) :: pr).zip us).length } := inv_startN S hr.hd e0 hl r CA hns kp
  have KX1 : K.In h₁ := KX.keeps kp
  obtain ⟨oC, hC1, hC2⟩ : ∃ oD cdD, h₁.get? C = some oD ∧ oD.data = .cls cdD := by
    obtain ⟨nm, q, N', bs, bm, sn, sub, ab, col, dd, k0, k1, k2, k3, k5, hC, hbm⟩ := T.cls
    exact ⟨_, _, KX1 _ _ hC, rfl⟩
  obtain ⟨t1, hx⟩ := exo_at I.hok ha
  obtain ⟨hC2, hC3⟩ := hC2
  cases r with
  | cons ra rr =>
  rename_i u0 ur
  obtain rfl : u0 = Value.ref a := ra
  have hint : interactive (callEnv (PySem.W.ksFn "__init__" qual params (.Expr (.Call (.Attribute (.Call (.Name "super" p0) [] [] p1) "__init__" p2) (e :: es) [] pos) posE :: rest) scope dV kV doc pm an (.ref cda) ct cc) s.heap.objs.size f) = false := by
    show (scope.kind == .module && _) = false
    rw [S.kind]
    rfl
  obtain ⟨pl, hpl'⟩ := hev (callEnv (PySem.W.ksFn "__init__" qual params (.Expr (.Call (.Attribute (.Call (.Name "super" p0) [] [] p1) "__init__" p2) (e :: es) [] pos) posE :: rest) scope dV kV doc pm an (.ref cda) ct cc) s.heap.objs.size f)
  refine ks_wpAt_execs_cons (ks_wpAt_Expr_any (ks_wpAt_MethodCall (pl := pl) (ks_wpAt_super_base (ar := ⟨"self", ann, pa⟩) hsup (S.frk _ (by simp)) (by decide) rfl (KX1 _ _ lk) rfl hpar rfl (KX1 _ _ hcode) rfl hvs hfile U.top ?_) hpl') hint (hsw _))
  have hnd : ((("self" : Str)) :: pr).Nodup := by
    have q := S.nd.sublist (List.take_sublist (((("self" : Str)) :: pr).length + ([("__class__" : Str)]).length) N)
    rw [S.pre] at q
    exact (List.nodup_append.mp q).1
  obtain ⟨mb, hb1, hb2⟩ := e0.mod.blt
  have up1 : ∀ b o, base.get? b = some o → h₁.get? b = some o := fun b o z => kp b o (e0.bs b o z).1
  refine PySem.W.ks_loadName_global S.kind hsup (Calls.loadGlobal_builtin (e0.mod.glob.keeps up1) (PySem.W.mg_none_of e0.mod.kin e0.mod.glob U.super) (hb1.keeps up1) ((hb2 _ (by decide +kernel)).trans boot_super) ⟨rfl, ?_⟩)
  refine wpAny_loadName_free S.kind (S.frk _ (by simp)) (show List.lookup _ [(("__class__" : Str), cc)] = some cc by simp [List.lookup]) ⟨_, KX1 _ _ hcell, rfl⟩ ?_
  refine wpAny_loadName_local S.kind (S.par _ (by simp)) hns (v := .ref a) (zip_look (i := 0) hnd rfl rfl) ?_
  refine ks_wpAny_isType_cls hC2 hC3 ⟨rfl, ?_⟩
  refine ks_wpAny_call_super hC2 hC3 hx rfl (fun c z => by cases z) (PySem.W.looks_mroIn KX1 U.mro) (fun h' eso k' => ?_)
  have KX2 : K.In h' := KX1.keeps k'
  have hx2 := k' _ _ hx
  obtain ⟨cd, hcl⟩ : ∃ cd, PySem.W.clsIn K C = some cd := by
    obtain ⟨nm, q, N', bs, bm, sn, sub, ab, col, dd, k0, k1, k2, k3, k5, hC, hbm⟩ := T.cls
    exact ⟨_, by unfold PySem.W.clsIn; rw [hC] <;> rfl⟩
  have hsp := U.sup
  unfold PySem.W.ks_superIn at hsp
  rw [hcl] at hsp
  have IA : PySem.W.InstAt h' a _ C none := ⟨hx2, rfl, rfl, trivial⟩
  refine PySem.W.kxs_getMethod PySem.W.kxs_ValueError eso (PySem.W.looks_opaque KX2 U.opq) (l₀ := cd.mro) (fun A Q E s k q => wpAny_bind ((PySem.W.looks_clsIn KX2 hcl) A _ E s k (wpAny_pure q))) rfl KX2 hsp (IA.type.andThen (PySem.W.looks_subIn KX2 U.sub)) (PySem.W.ks_ne KX2 IA hcl) (by decide) ?_
  have k2 : ∀ b o, h₁.get? b = some o → (h'.push (PySem.W.kxs_mw "ValueError.__init__" a)).get? b = some o := fun b o z => Heap.get?_push_of_some _ (k' b o z)
  have hu : (h'.push (PySem.W.kxs_mw "ValueError.__init__" a)).get? h'.objs.size = some (PySem.W.kxs_mw "ValueError.__init__" a) := Heap.get?_push_at rfl rfl
  have I2 := I.kept (t' := s.toks + ((("self" : Str) :: pr).zip (Value.ref a :: ur)).length + 1) k2
  have hnu : ∀ {b : Addr} {o : Obj}, h₁.get? b = some o → b ≠ h'.objs.size := fun {b o} z => Nat.ne_of_lt (Heap.lt_size (k' b o z))
  have hsz : h₁.objs.size ≤ h'.objs.size := Nat.le_of_lt (Heap.lt_size eso)
  have I3 := pinAdd I2 (u := h'.objs.size) (o := PySem.W.kxs_mw "ValueError.__init__" a) hu (I.hok.fresh hsz) (fun z => by have q := I.lt; have z : h'.objs.size = s.heap.objs.size := z; have q : s.heap.objs.size < h₁.objs.size := q; omega) (I.nofs hsz) (fun v z => by cases z)
  rw [he]
  refine PySem.W.kxs_callWith (i := "ValueError.__init__") (x := a) (by show (false || (backTo pos (starEach es _)).any (·.1)) = false; rw [hpl]; rfl) (Calls.evalArgs_plain ?_)
  have hrun := hPA.run pos _ _ _ _ _ I3 hta
  rw [he] at hrun
  refine wpAny_mono hrun (fun us' s1 hq => ?_) fun _ _ z => z
  obtain ⟨vs', H1, I4, r4, hl4, rfl, ht⟩ := hq
  obtain ⟨hu4, _⟩ := I4.pin (h'.objs.size, PySem.W.kxs_mw "ValueError.__init__" a) (List.mem_append_right _ List.mem_cons_self)
  refine ⟨hu4, sup_call T I4 ha hu4 (by show us'.length ≤ _; rw [← Paired.length r4, sizeLine_eq]; omega) fun s5 I5 => ?_⟩
  refine wpAt_of_wpAny ?_
  refine wpAny_mono (hPS.run _ s5 _ H1 _ I5 ht) (fun fl s' hs => ?_) fun _ _ z => z
  have fin : ∀ {pins : List (Addr × Obj)} {σ' : L2.St} {H' : Hp} {v : V} {u : Value}, Inv (ncx CX P w K mg base N ⟨"__init__", qual, params, (.Expr (.Call (.Attribute (.Call (.Name "super" p0) [] [] p1) "__init__" p2) (e :: es) [] pos) posE :: rest), scope, [("__class__", cc)], cda⟩ f A outer s H1 E) pins σ' H' s' → L2.RelV v u → Q v H' → CE outer P w H1 s Q u s' :=
    fun {pins σ' H' v u} J rv q => ⟨v, H', J.os, J.bare, J.base, J.hok, rv, q⟩
  cases fl with
  | ret u =>
    obtain ⟨v, σ', H', J, rv, q⟩ := hs
    exact fin J rv q
  | next =>
    obtain ⟨σ', H', J, q⟩ := hs
    exact fin (v := V.non) (u := Value.none) J rfl q
  | brk =>
    obtain ⟨_, _, _, q⟩ := hs
    exact False.elim q
  | cont =>
    obtain ⟨_, _, _, q⟩ := hs
    exact False.elim q
end
end Bk

namespace Bk
open PySem PySem.Spec PyProof.Rows L2
/-! ### a def of the text with its promise -/
structure Def (P : Program) (w : World) (K : PySem.W.Frag) (mg : Str → Option Value) (base : Heap) (x : Str) (k : Nat) (ps : List Str) (sp : Sp) : Prop where
  ex : ∃ (f : Addr) (fd : FuncData), mg x = some (.ref f) ∧ PySem.W.keepIn K (.ref f) = true ∧ Binds K fd ps [] ∧ FnOk P w K mg base CX0 k f fd ps sp
theorem pe_callD {X : Cx} {x : Str} {k j : Nat} {ps : List Str} {sp : Sp} {e : Expr} {es : List Expr} {t : TA} {p pos : Pos} (D : Def X.prog X.w X.K X.mg X.base x k ps sp) (hr : Room j X.A) (hg : Gl X x) (ha : PA X (e :: es) t)
    (hkj : k ≤ j := by omega) (hdb : (x == ("__debug__" : Str)) = false := by decide) (he : starEach (e :: es) X.env = (false, eval e X.env) :: starEach es X.env := by rfl) (hpl : (backTo pos (starEach es X.env)).any (·.1) = false := by rfl) :
    PE X (.Call (.Name x p) (e :: es) [] pos) (tCall sp [] E0 t) := by
  obtain ⟨f, fd, hm, hk, hb, F⟩ := D.ex
  exact pe_call F (hr.mono hkj) hg hm hk hb .nil pass0 ha hdb he hpl
theorem same_upd {H : Hp} {p : Addr} {o : HO} (h : H p = none) : Same H (upd H p o) := fun b x e => by
  rw [upd_ne (ne_of_none e h)]
  exact e
/-- what H does not know may change -/
theorem same_mut {H H' : Hp} {p : Addr} {o : HO} (e : Same H H') (h : H p = none) : Same H (upd H' p o) := fun b x q => by
  rw [upd_ne (ne_of_none q h)]
  exact e b x q
theorem _root_.L2.SqL.upd_ {K : PySem.W.Frag} {H : Hp} {a p : Addr} {o : HO} {xs : List V} (h : SqL K H a xs) (hp : H p = none) : SqL K (upd H p o) a xs := (same_upd hp).seq h
theorem Same.tup {K : PySem.W.Frag} {H H' : Hp} {a : Addr} {xs : List V} (e : Same H H') (h : SqT K H a xs) : SqT K H' a xs := by
  rcases h with (h | ⟨o, h⟩) | h
  · exact .inl (.inl (e _ _ h))
  · exact .inl (.inr ⟨o, e _ _ h⟩)
  · exact .inr h
/-- the written part of a def's place -/
theorem cxK {CX : CXT} {P : Program} {w : World} {K : PySem.W.Frag} {mg : Str → Option Value} {base : Heap} {N : List Str} {qual : Str} {scope : Scope} {f : Addr} {cd : Value} {A : Around} {outer : List Env} {s : Shared} {H : Hp} {E : XK} :
    (cxOf CX P w K mg base N qual scope f cd A outer s H E).K = K := rfl
theorem rI_ii {C : Int → Int → Prop} {g : Int → Int → V} {i j : Int} {H : Hp} {Q : VK} : rI C g (.int i) (.int j) H Q = (C i j ∧ Q (g i j) H) := propext ⟨fun ⟨a, b, e1, e2, h⟩ => by cases e1; cases e2; exact h, fun h => ⟨i, j, rfl, rfl, h⟩⟩
theorem rI0_ii {g : Int → Int → V} {i j : Int} {H : Hp} {Q : VK} : rI0 g (.int i) (.int j) H Q = Q (g i j) H := propext ⟨fun ⟨a, b, e1, e2, h⟩ => by cases e1; cases e2; exact h, fun h => ⟨i, j, rfl, rfl, h⟩⟩
theorem rU_i {g : Int → V} {i : Int} {H : Hp} {Q : VK} : rU g (.int i) H Q = Q (g i) H := propext ⟨fun ⟨a, e1, h⟩ => by cases e1; exact h, fun h => ⟨i, rfl, h⟩⟩
theorem rIxL_r {K : PySem.W.Frag} {p : Addr} {i : Int} {H : Hp} {Q : VK} : rIxL K (.ref p) (.int i) H Q = ∃ xs v, SqL K H p xs ∧ atI xs i = some v ∧ Q v H := propext ⟨fun ⟨a, xs, b, v, e1, e2, h⟩ => by cases e1; cases e2; exact ⟨xs, v, h⟩, fun ⟨xs, v, h⟩ => ⟨p, xs, i, v, rfl, rfl, h⟩⟩
theorem rIxT_r {K : PySem.W.Frag} {p : Addr} {i : Int} {H : Hp} {Q : VK} : rIxT K (.ref p) (.int i) H Q = ∃ xs v, SqT K H p xs ∧ atI xs i = some v ∧ Q v H := propext ⟨fun ⟨a, xs, b, v, e1, e2, h⟩ => by cases e1; cases e2; exact ⟨xs, v, h⟩, fun ⟨xs, v, h⟩ => ⟨p, xs, i, v, rfl, rfl, h⟩⟩
theorem rAppend_r {l : Addr} {y : V} {H : Hp} {Q : VK} : rAppend (.ref l) [y] H Q = ∃ xs, H l = some (.lst xs) ∧ xs.length < sizeLine ∧ Q .non (upd H l (.lst (xs ++ [y]))) :=
  propext ⟨fun ⟨a, xs, b, e1, e2, h⟩ => by cases e1; cases e2; exact ⟨xs, h⟩, fun ⟨xs, h⟩ => ⟨l, xs, y, rfl, rfl, h⟩⟩
theorem tyL {K : PySem.W.Frag} {l : Addr} {H : Hp} {xs : List V} (h : SqL K H l xs) : tyV K "list" (.ref l) H := .inl ⟨rfl, xs, h⟩
theorem atI_of {α : Type} {xs : List α} {i : Int} {v : α} (h0 : 0 ≤ i) (h : xs[i.toNat]? = some v) : atI xs i = some v := by
  have e : i = ((i.toNat : Nat) : Int) := by omega
  rw [e]
  exact atI_nat h
theorem atI_map {α : Type} {f : α → V} {xs : List α} {i : Int} {v : α} (h0 : 0 ≤ i) (h : xs[i.toNat]? = some v) : atI (xs.map f) i = some (f v) := atI_of h0 (by rw [List.getElem?_map, h]; rfl)
theorem sz100 {n : Nat} (h : n ≤ 100000) : n ≤ sizeLine := Nat.le_trans h (by decide)
theorem sz100l {n : Nat} (h : n < 100000) : n < sizeLine := Nat.lt_of_lt_of_le h (by decide)
/-! ### calls of built-ins by named readings -/
def rMx : List V → Hp → VK → Prop := fun xs H Q => ∃ i j, xs = [.int i, .int j] ∧ Q (.int (if j > i then j else i)) H
def rMn : List V → Hp → VK → Prop := fun xs H Q => ∃ i j, xs = [.int i, .int j] ∧ Q (.int (if j < i then j else i)) H
theorem call_mx {X : Cx} (hc : X.calm = true) : CallR X (.builtin "max") rMx := call_max2 hc
theorem call_mn {X : Cx} (hc : X.calm = true) : CallR X (.builtin "min") rMn := call_min2 hc
theorem rMx_ii {i j : Int} {H : Hp} {Q : VK} : rMx [.int i, .int j] H Q = Q (.int (if j > i then j else i)) H := propext ⟨fun ⟨a, b, e, h⟩ => by cases e; exact h, fun h => ⟨i, j, rfl, h⟩⟩
theorem rMn_ii {i j : Int} {H : Hp} {Q : VK} : rMn [.int i, .int j] H Q = Q (.int (if j < i then j else i)) H := propext ⟨fun ⟨a, b, e, h⟩ => by cases e; exact h, fun h => ⟨i, j, rfl, h⟩⟩
/-- len of a list, of a tuple -/
def rLnL (K : PySem.W.Frag) : List V → Hp → VK → Prop := fun xs H Q => ∃ p ys, xs = [.ref p] ∧ SqL K H p ys ∧ Q (.int ys.length) H
def rLnT (K : PySem.W.Frag) : List V → Hp → VK → Prop := fun xs H Q => ∃ p ys, xs = [.ref p] ∧ SqT K H p ys ∧ Q (.int ys.length) H
theorem call_lnL {X : Cx} : CallR X (.builtin "len") (rLnL X.K) := fun pins s σ H xs us Q I r ⟨p, ys, e, h, q⟩ => call_len_seq pins s σ H xs us Q I r ⟨p, ys, e, .inl h, q⟩
theorem call_lnT {X : Cx} : CallR X (.builtin "len") (rLnT X.K) := fun pins s σ H xs us Q I r ⟨p, ys, e, h, q⟩ => call_len_seq pins s σ H xs us Q I r ⟨p, ys, e, .inr h, q⟩
theorem rLnL_r {K : PySem.W.Frag} {p : Addr} {H : Hp} {Q : VK} : rLnL K [.ref p] H Q = ∃ ys, SqL K H p ys ∧ Q (.int ys.length) H := propext ⟨fun ⟨a, ys, e, h⟩ => by cases e; exact ⟨ys, h⟩, fun ⟨ys, h⟩ => ⟨p, ys, rfl, h⟩⟩
theorem rLnT_r {K : PySem.W.Frag} {p : Addr} {H : Hp} {Q : VK} : rLnT K [.ref p] H Q = ∃ ys, SqT K H p ys ∧ Q (.int ys.length) H := propext ⟨fun ⟨a, ys, e, h⟩ => by cases e; exact ⟨ys, h⟩, fun ⟨ys, h⟩ => ⟨p, ys, rfl, h⟩⟩
/-- for k in range(n), range(a, b) -/
theorem q_range1 {ta : TA} {n : Int} {g : TG} {tb : TS} {D : Ends} {σ : L2.St} {H : Hp} (h : ta σ H fun vs H1 => vs = [.int n] ∧ H1 = H) (h1 : n < 2 ^ 62) (h0 : -(2 ^ 62) ≤ n) (Pv : Nat → L2.St → Hp → Prop)
    (hm : ∀ {P Q : List V → Hp → Prop}, ta σ H P → (∀ vs H', P vs H' → Q vs H') → ta σ H Q)
    (a : Pv 0 σ H) (hs : ∀ i σ H, i < n.toNat → Pv i σ H → g (.int (i : Int)) σ H fun σ2 H2 => tb { D with nx := Pv (i + 1), ct := Pv (i + 1), bk := D.nx } σ2 H2) (hd : ∀ σ H, Pv n.toNat σ H → D.nx σ H) : tFor (iRng1 ta) g tb D σ H := by
  refine hm h fun vs H1 e => ?_
  obtain ⟨rfl, rfl⟩ := e
  exact ⟨n, rfl, h0, h1, for_range (lo := 0) (n := n.toNat) Pv a (fun i σ H hi p => by rw [Int.zero_add]; exact hs i σ H hi p) hd⟩
/-! ### any thing, as data -/
mutual
inductive Th (K : PySem.W.Frag) (H : Hp) : V → PyData → Prop
  | non : Th K H .non .none
  | bl (b : Bool) : Th K H (.bl b) (.bool b)
  | int (i : Int) : Th K H (.int i) (.int i)
  | str (x : Str) : Th K H (.str x) (.str x)
  | lst {a : Addr} {xs : List V} {ds : List PyData} : SqL K H a xs → ThAll K H xs ds → Th K H (.ref a) (.list ds)
  | tup {a : Addr} {xs : List V} {ds : List PyData} : SqT K H a xs → ThAll K H xs ds → Th K H (.ref a) (.tuple ds)
  | dic {a : Addr} : H a = some (.dK []) → Th K H (.ref a) (.dict [])
inductive ThAll (K : PySem.W.Frag) (H : Hp) : List V → List PyData → Prop
  | nil : ThAll K H [] []
  | cons {v : V} {vs : List V} {d : PyData} {ds : List PyData} : Th K H v d → ThAll K H vs ds → ThAll K H (v :: vs) (d :: ds)
end
mutual
theorem Th.same {K : PySem.W.Frag} {H H' : Hp} (e : Same H H') : ∀ {v : V} {d : PyData}, Th K H v d → Th K H' v d
  | _, _, .non => .non
  | _, _, .bl b => .bl b
  | _, _, .int i => .int i
  | _, _, .str x => .str x
  | _, _, .lst h t => .lst (e.seq h) (ThAll.same e t)
  | _, _, .tup h t => .tup (Same.tup e h) (ThAll.same e t)
  | _, _, .dic h => .dic (e _ _ h)
theorem ThAll.same {K : PySem.W.Frag} {H H' : Hp} (e : Same H H') : ∀ {vs : List V} {ds : List PyData}, ThAll K H vs ds → ThAll K H' vs ds
  | _, _, .nil => .nil
  | _, _, .cons h t => .cons (Th.same e h) (ThAll.same e t)
end
theorem ThAll.length {K : PySem.W.Frag} {H : Hp} : ∀ {vs : List V} {ds : List PyData}, ThAll K H vs ds → vs.length = ds.length
  | _, _, .nil => rfl
  | _, _, .cons _ t => by rw [List.length_cons, List.length_cons, ThAll.length t]
theorem ThAll.get {K : PySem.W.Frag} {H : Hp} : ∀ {vs : List V} {ds : List PyData} {i : Nat} {v : V}, ThAll K H vs ds → vs[i]? = some v → ∃ d, ds[i]? = some d ∧ Th K H v d
  | _, _, _, _, .nil, e => by simp at e
  | _, _, 0, _, .cons h _, e => by
    rw [List.getElem?_cons_zero] at e
    cases e
    exact ⟨_, List.getElem?_cons_zero .., h⟩
  | _, _, i + 1, _, .cons _ t, e => by
    rw [List.getElem?_cons_succ] at e
    obtain ⟨d, h1, h2⟩ := ThAll.get t e
    exact ⟨d, by rw [List.getElem?_cons_succ]; exact h1, h2⟩
theorem ThAll.get' {K : PySem.W.Frag} {H : Hp} {vs : List V} {ds : List PyData} {i : Nat} {d : PyData} (t : ThAll K H vs ds) (e : ds[i]? = some d) : ∃ v, vs[i]? = some v ∧ Th K H v d := by
  have hi : i < vs.length := by
    rw [t.length]
    exact (List.getElem?_eq_some_iff.mp e).1
  obtain ⟨d', h1, h2⟩ := t.get (List.getElem?_eq_getElem hi)
  have e2 : d' = d := Option.some.inj (h1.symm.trans e)
  subst e2
  exact ⟨_, List.getElem?_eq_getElem hi, h2⟩
theorem ThAll.ints {K : PySem.W.Frag} {H : Hp} : ∀ ns : List Int, ThAll K H (ns.map V.int) (ns.map PyData.int)
  | [] => .nil
  | n :: r => .cons (.int n) (ThAll.ints r)
/-- the built-in classes that are asked for -/
inductive Cl | int | bool | list | tuple | str | dict
def Cl.name : Cl → String
  | .int => "int" | .bool => "bool" | .list => "list" | .tuple => "tuple" | .str => "str" | .dict => "dict"
def kindD : PyData → String
  | .none => "NoneType" | .bool _ => "bool" | .int _ => "int" | .str _ => "str" | .list _ => "list" | .tuple _ => "tuple" | .dict _ => "dict"
def isD : Cl → PyData → Bool
  | .int, .int _ => true
  | .int, .bool _ => true
  | .bool, .bool _ => true
  | .list, .list _ => true
  | .tuple, .tuple _ => true
  | .str, .str _ => true
  | .dict, .dict _ => true
  | _, _ => false
def isN (c : Cl) (n : String) : Bool := n == c.name || (n == "bool" && c.name == "int")
theorem isN_kit : ∀ (c : Cl), ∀ n ∈ ["NoneType", "bool", "int", "str", "list", "tuple", "dict"], kitB n c.name = some (isN c n) := by
  intro c
  cases c <;> decide +kernel
theorem kindD_mem (d : PyData) : kindD d ∈ ["NoneType", "bool", "int", "str", "list", "tuple", "dict"] := by cases d <;> simp [kindD]
theorem isN_tab : ∀ c : Cl, isN c "NoneType" = isD c .none ∧ isN c "bool" = isD c (.bool true) ∧ isN c "int" = isD c (.int 0) ∧ isN c "str" = isD c (.str "") ∧ isN c "list" = isD c (.list []) ∧ isN c "tuple" = isD c (.tuple []) ∧ isN c "dict" = isD c (.dict []) := by
  intro c
  cases c <;> decide +kernel
theorem isD_N (c : Cl) (d : PyData) : isN c (kindD d) = isD c d := by
  obtain ⟨h1, h2, h3, h4, h5, h6, h7⟩ := isN_tab c
  cases d with
  | none => exact h1
  | bool b => exact h2.trans (by cases c <;> rfl)
  | int i => exact h3.trans (by cases c <;> rfl)
  | str x => exact h4.trans (by cases c <;> rfl)
  | list x => exact h5.trans (by cases c <;> rfl)
  | tuple x => exact h6.trans (by cases c <;> rfl)
  | dict x => exact h7.trans (by cases c <;> rfl)
theorem isD_kit {K : PySem.W.Frag} (c : Cl) (d : PyData) : PySem.W.kitOne K (.type (kindD d)) (.type c.name) = some (isD c d) := by
  rw [← isD_N]
  exact kit_ty (isN_kit c _ (kindD_mem d))
theorem Th.ty {K : PySem.W.Frag} {H : Hp} {v : V} {d : PyData} (h : Th K H v d) : TyX K H v (.type (kindD d)) := by
  cases h with
  | non => exact .base .non
  | bl b => exact .base (.bl b)
  | int i => exact .base (.int i)
  | str x => exact .base (.str x)
  | lst h _ =>
    rcases h with (h | ⟨o, h⟩) | ⟨o, its, n, h, c, _⟩
    · exact .base (.lst h)
    · exact .base (.frz h)
    · exact .kList h c
  | tup h _ =>
    rcases h with (h | ⟨o, h⟩) | ⟨o, its, n, h, c, _⟩
    · exact .base (.tup h)
    · exact .fTuple h
    · exact .kTuple h c
  | dic h => exact .base (.dK h)
/-- isinstance(x, a built-in class) of any thing -/
def rIsD (K : PySem.W.Frag) (c : Cl) : List V → Hp → VK → Prop := fun xs H Q => ∃ x d, xs = [x, .ty c.name] ∧ Th K H x d ∧ Q (.bl (isD c d)) H
theorem call_isD {X : Cx} (c : Cl) : CallR X (.builtin "isinstance") (rIsD X.K c) := fun pins s σ H xs us Q I r ⟨x, d, e, h, q⟩ =>
  call_isi pins s σ H xs us Q I r ⟨x, .ty c.name, .type (kindD d), .type c.name, isD c d, e, .ty _, h.ty, isD_kit c d, q⟩
theorem rIsD_int {K : PySem.W.Frag} {x : V} {H : Hp} {Q : VK} : rIsD K .int [x, .ty "int"] H Q = ∃ d, Th K H x d ∧ Q (.bl (isD .int d)) H := propext ⟨fun ⟨y, d, e, h⟩ => by cases e; exact ⟨d, h⟩, fun ⟨d, h⟩ => ⟨x, d, rfl, h⟩⟩
theorem rIsD_bool {K : PySem.W.Frag} {x : V} {H : Hp} {Q : VK} : rIsD K .bool [x, .ty "bool"] H Q = ∃ d, Th K H x d ∧ Q (.bl (isD .bool d)) H := propext ⟨fun ⟨y, d, e, h⟩ => by cases e; exact ⟨d, h⟩, fun ⟨d, h⟩ => ⟨x, d, rfl, h⟩⟩
theorem rIsD_list {K : PySem.W.Frag} {x : V} {H : Hp} {Q : VK} : rIsD K .list [x, .ty "list"] H Q = ∃ d, Th K H x d ∧ Q (.bl (isD .list d)) H := propext ⟨fun ⟨y, d, e, h⟩ => by cases e; exact ⟨d, h⟩, fun ⟨d, h⟩ => ⟨x, d, rfl, h⟩⟩
theorem rIsD_tuple {K : PySem.W.Frag} {x : V} {H : Hp} {Q : VK} : rIsD K .tuple [x, .ty "tuple"] H Q = ∃ d, Th K H x d ∧ Q (.bl (isD .tuple d)) H := propext ⟨fun ⟨y, d, e, h⟩ => by cases e; exact ⟨d, h⟩, fun ⟨d, h⟩ => ⟨x, d, rfl, h⟩⟩
def wholeD : PyData → Bool
  | .int _ => true
  | _ => false
def numD : PyData → Bool
  | .int i => decide (0 ≤ i) && decide (i ≤ 1000000000)
  | _ => false
theorem wholeD_is (d : PyData) : (isD .int d && !isD .bool d) = wholeD d := by cases d <;> rfl
theorem pe_globI {X : Cx} {x : Str} {i : Int} {t : Tok} {pos : Pos} (hg : Gl X x) (hm : X.mg x = some (.int i t)) (hd : (x == ("__debug__" : Str)) = false := by decide) : PE X (.Name x pos) (tC (.int i)) := pe_glob hg hm ⟨_, rfl⟩ hd
/-- isinstance(x, int) and not isinstance(x, bool) -/
theorem e_whole {K : PySem.W.Frag} {i j : Nat} {σ : L2.St} {H : Hp} {x : V} {d : PyData} {Q : VK} (hx : Th K H x d) (hi : σ[i]? = some (some x)) (hj : σ[j]? = some (some x)) (q : Q (.bl (wholeD d)) H) :
    tAndV (tCB (rIsD K .int) (tCons (tVar i) (tCons (tC (.ty "int")) tNil))) (tNotV (tCB (rIsD K .bool) (tCons (tVar j) (tCons (tC (.ty "bool")) tNil)))) σ H Q := by
  refine ⟨x, hi, x, d, rfl, hx, isD .int d, rfl, ite2 (fun h => ⟨x, hj, x, d, rfl, hx, isD .bool d, rfl, ?_⟩) (fun h => ?_)⟩
  · rw [← wholeD_is, h] at q
    exact q
  · rw [← wholeD_is, Bool.eq_false_iff.mpr h] at q
    exact q
theorem cutV_mem {xs : List V} {lo hi : Option Int} {x : V} (h : x ∈ cutV xs lo hi) : x ∈ xs := List.mem_of_mem_drop (List.mem_of_mem_take h)
theorem cutV_length (xs : List V) (lo hi : Option Int) : (cutV xs lo hi).length ≤ xs.length := by
  unfold cutV
  rw [List.length_take, List.length_drop]
  omega
theorem gCons_c {t : TG} {u : TGs} {v : V} {r : List V} {σ : L2.St} {H : Hp} {Q : L2.St → Hp → Prop} : gCons t u (v :: r) σ H Q = t v σ H fun σ' H' => u r σ' H' Q := propext ⟨fun ⟨a, b, e, h⟩ => by cases e; exact h, fun h => ⟨v, r, rfl, h⟩⟩
theorem gNil_n {σ : L2.St} {H : Hp} {Q : L2.St → Hp → Prop} : gNil [] σ H Q = Q σ H := propext ⟨fun h => h.2, fun h => ⟨rfl, h⟩⟩
theorem five {α : Type} {l : List α} (h : l.length = 5) : ∃ a b c d e, l = [a, b, c, d, e] := by
  match l, h with
  | [a, b, c, d, e], _ => exact ⟨a, b, c, d, e, rfl⟩
/-! ### loops and comprehensions, kept shut -/
def LoopR (J : It) (g : TG) (tb : TS) (D : Ends) (σ : L2.St) (H : Hp) : Prop := ∃ W : Nat → Nat → L2.St → Hp → Prop, (∃ m, W 0 m σ H) ∧ ∀ i m σ H, W i m σ H →
  (J.stop i H ∧ D.nx σ H) ∨ (J.go i H ∧ ∃ N : L2.St → Hp → Prop, (∀ σ' H', N σ' H' → ∃ m', m' < m ∧ W (i + 1) m' σ' H') ∧ ∀ x H', J.yld i H x H' → g x σ H' fun σ2 H2 => tb { D with nx := N, ct := N, bk := D.nx } σ2 H2)
theorem tFor_eq {wi : TI} {g : TG} {tb : TS} {D : Ends} {σ : L2.St} {H : Hp} : tFor wi g tb D σ H = wi σ H fun J H1 => LoopR J g tb D σ H1 := rfl
theorem LoopR.by {J : It} {n : Nat} {G : Hp → Prop} {Y : Nat → Hp → V → Hp → Prop} (w : Walk J n G Y) {g : TG} {tb : TS} {D : Ends} {σ : L2.St} {H : Hp} (Pv : Nat → L2.St → Hp → Prop) (h0 : Pv 0 σ H) (hG : ∀ i σ H, i ≤ n → Pv i σ H → G H)
    (hs : ∀ i x σ H H', i < n → Pv i σ H → Y i H x H' → g x σ H' fun σ2 H2 => tb { D with nx := Pv (i + 1), ct := Pv (i + 1), bk := D.nx } σ2 H2) (hd : ∀ σ H, Pv n σ H → D.nx σ H) : LoopR J g tb D σ H := for_it w Pv h0 hG hs hd
def LcR (J : It) (g : TG) (tt : TT) (te : TE) (vs : List Nat) (σ : L2.St) (D : Addr) (H1 : Hp) (Qd : Hp → Prop) : Prop := ∃ W : Nat → Nat → Hp → Prop, (∃ m, W 0 m (upd H1 D (.lst []))) ∧ ∀ i m H, W i m H →
  (J.stop i H ∧ Qd H) ∨ (J.go i H ∧ ∃ Nx : Hp → Prop, (∀ H', Nx H' → ∃ m', m' < m ∧ W (i + 1) m' H') ∧ ∀ x H', J.yld i H x H' → g x (wipe σ vs) H' fun σ2 H2 => wipe σ2 vs = wipe σ vs ∧ tt σ2 H2 fun b H3 =>
    if b = true then te σ2 H3 fun y H4 => ∃ acc, H4 D = some (.lst acc) ∧ acc.length < sizeLine ∧ Nx (upd H4 D (.lst (acc ++ [y]))) else Nx H3)
theorem tLc_eq {wi : TI} {g : TG} {tt : TT} {te : TE} {vs : List Nat} {σ : L2.St} {H : Hp} {Q : VK} : tLc wi g tt te vs σ H Q = wi σ H fun J H1 => ∀ D, H1 D = none → LcR J g tt te vs σ D H1 (fun H => Q (.ref D) H) := rfl
theorem LcR.by {J : It} {n : Nat} {G : Hp → Prop} {Y : Nat → Hp → V → Hp → Prop} (w : Walk J n G Y) {g : TG} {tt : TT} {te : TE} {vs : List Nat} {σ : L2.St} {H1 : Hp} {D : Addr} {Qd : Hp → Prop} (Pv : Nat → Hp → Prop) (h0 : Pv 0 (upd H1 D (.lst []))) (hG : ∀ i H, i ≤ n → Pv i H → G H)
    (hs : ∀ i x H H', i < n → Pv i H → Y i H x H' → g x (wipe σ vs) H' fun σ2 H2 => wipe σ2 vs = wipe σ vs ∧ tt σ2 H2 fun b H3 =>
      if b = true then te σ2 H3 fun y H4 => ∃ acc, H4 D = some (.lst acc) ∧ acc.length < sizeLine ∧ Pv (i + 1) (upd H4 D (.lst (acc ++ [y]))) else Pv (i + 1) H3) (hd : ∀ H, Pv n H → Qd H) : LcR J g tt te vs σ D H1 Qd := lc_it w Pv h0 hG hs hd
theorem iList_r {K : PySem.W.Frag} {te : TE} {σ : L2.St} {H : Hp} {R : It → Hp → Prop} : iList K te σ H R = te σ H fun x H1 => ∃ a, x = .ref a ∧ (∃ xs, SqL K H1 a xs) ∧ R (Itl K a) H1 := rfl
theorem gTup_r {K : PySem.W.Frag} {n : Nat} {t : TGs} {a : Addr} {σ : L2.St} {H : Hp} {Q : L2.St → Hp → Prop} : gTup K n t (.ref a) σ H Q = ∃ xs, SqT K H a xs ∧ xs.length = n ∧ t xs σ H Q := propext ⟨fun ⟨b, xs, e, h⟩ => by cases e; exact ⟨xs, h⟩, fun ⟨xs, h⟩ => ⟨a, xs, rfl, h⟩⟩
def rEnum (K : PySem.W.Frag) (vs : List V) (H1 : Hp) (R : It → Hp → Prop) : Prop := ∃ a xs, vs = [.ref a] ∧ SqL K H1 a xs ∧ R (Ite K a) H1
theorem iEnum_eq {K : PySem.W.Frag} {ta : TA} {σ : L2.St} {H : Hp} {R : It → Hp → Prop} : iEnum K ta σ H R = ta σ H fun vs H1 => rEnum K vs H1 R := rfl
theorem rEnum_r {K : PySem.W.Frag} {a : Addr} {H : Hp} {R : It → Hp → Prop} : rEnum K [.ref a] H R = ∃ xs, SqL K H a xs ∧ R (Ite K a) H := propext ⟨fun ⟨b, xs, e, h⟩ => by cases e; exact ⟨xs, h⟩, fun ⟨xs, h⟩ => ⟨a, xs, rfl, h⟩⟩
def rZip (K : PySem.W.Frag) (vs : List V) (H1 : Hp) (R : It → Hp → Prop) : Prop := ∃ a b xs ys, vs = [.ref a, .ref b] ∧ SqL K H1 a xs ∧ SqL K H1 b ys ∧ R (Itz K a b) H1
theorem iZip_eq {K : PySem.W.Frag} {ta : TA} {σ : L2.St} {H : Hp} {R : It → Hp → Prop} : iZip K ta σ H R = ta σ H fun vs H1 => rZip K vs H1 R := rfl
theorem rZip_r {K : PySem.W.Frag} {a b : Addr} {H : Hp} {R : It → Hp → Prop} : rZip K [.ref a, .ref b] H R = ∃ xs ys, SqL K H a xs ∧ SqL K H b ys ∧ R (Itz K a b) H := propext ⟨fun ⟨_, _, xs, ys, e, h⟩ => by cases e; exact ⟨xs, ys, h⟩, fun ⟨xs, ys, h⟩ => ⟨a, b, xs, ys, rfl, h⟩⟩
def rRng1 (vs : List V) (H1 : Hp) (R : It → Hp → Prop) : Prop := ∃ j : Int, vs = [.int j] ∧ -(2 ^ 62) ≤ j ∧ j < 2 ^ 62 ∧ R (Itr 0 j.toNat) H1
theorem iRng1_eq {ta : TA} {σ : L2.St} {H : Hp} {R : It → Hp → Prop} : iRng1 ta σ H R = ta σ H fun vs H1 => rRng1 vs H1 R := rfl
theorem rRng1_i {j : Int} {H : Hp} {R : It → Hp → Prop} : rRng1 [.int j] H R = (-(2 ^ 62) ≤ j ∧ j < 2 ^ 62 ∧ R (Itr 0 j.toNat) H) := propext ⟨fun ⟨_, e, h⟩ => by cases e; exact h, fun h => ⟨j, rfl, h⟩⟩
def rRng2 (vs : List V) (H1 : Hp) (R : It → Hp → Prop) : Prop := ∃ i j : Int, vs = [.int i, .int j] ∧ (-(2 ^ 62) ≤ i ∧ i < 2 ^ 62 ∧ -(2 ^ 62) ≤ j ∧ j < 2 ^ 62) ∧ R (Itr i (j - i).toNat) H1
theorem iRng2_eq {ta : TA} {σ : L2.St} {H : Hp} {R : It → Hp → Prop} : iRng2 ta σ H R = ta σ H fun vs H1 => rRng2 vs H1 R := rfl
theorem rRng2_i {i j : Int} {H : Hp} {R : It → Hp → Prop} : rRng2 [.int i, .int j] H R = ((-(2 ^ 62) ≤ i ∧ i < 2 ^ 62 ∧ -(2 ^ 62) ≤ j ∧ j < 2 ^ 62) ∧ R (Itr i (j - i).toNat) H) := propext ⟨fun ⟨_, _, e, h⟩ => by cases e; exact h, fun h => ⟨i, j, rfl, h⟩⟩
theorem rSlL_r {K : PySem.W.Frag} {a : Addr} {lo hi : Option Int} {H : Hp} {Q : VK} : rSlL K (.ref a) lo hi H Q = ∃ xs, SqL K H a xs ∧ ∀ p, H p = none → Q (.ref p) (upd H p (.lst (cutV xs lo hi))) := propext ⟨fun ⟨_, xs, e, h⟩ => by cases e; exact ⟨xs, h⟩, fun ⟨xs, h⟩ => ⟨a, xs, rfl, h⟩⟩
theorem rCat_r {l b : Addr} {H : Hp} {Q : VK} : rCat (.ref l) (.ref b) H Q = ∃ xs zs, H l = some (.lst xs) ∧ H b = some (.lst zs) ∧ xs.length + zs.length ≤ sizeLine ∧ ∀ p, H p = none → Q (.ref p) (upd H p (.lst (xs ++ zs))) := propext ⟨fun ⟨_, _, xs, zs, e1, e2, h⟩ => by cases e1; cases e2; exact ⟨xs, zs, h⟩, fun ⟨xs, zs, h⟩ => ⟨l, b, xs, zs, rfl, rfl, h⟩⟩
end Bk

namespace Bk
open PySem PySem.Spec PyProof.Rows L2
/-! ### a comprehension without tests, by what each turn gives -/
theorem LcR.map {J : It} {n : Nat} {G : Hp → Prop} {Y : Nat → Hp → V → Hp → Prop} (w : Walk J n G Y) {g : TG} {te : TE} {vs : List Nat} {σ : L2.St} {H1 : Hp} {D : Addr} {Qd : Hp → Prop} (ys : List V) (hD : H1 D = none) (hn : ys.length = n) (hz : n ≤ 100000)
    (hG : ∀ H, Same H1 H → G H) (hY : ∀ i H x H', Y i H x H' → Same H H')
    (hs : ∀ i x y H H', i < n → Same H1 H' → Y i H x H' → ys[i]? = some y → ∀ R : V → Hp → Prop, (∀ H4, Same H' H4 → R y H4) → g x (wipe σ vs) H' fun σ2 H2 => wipe σ2 vs = wipe σ vs ∧ te σ2 H2 R)
    (hd : ∀ H, Same H1 H → H D = some (.lst ys) → Qd H) : LcR J g tYes te vs σ D H1 Qd := by
  refine LcR.by w (fun i H => Same H1 H ∧ H D = some (.lst (ys.take i))) ⟨same_upd hD, by rw [upd_same]; rfl⟩ (fun i H _ h => hG H h.1) (fun i x H H' hi h y => ?_) (fun H h => hd H h.1 ?_)
  · have s := hY _ _ _ _ y
    have e : ys[i]? = some (ys[i]'(by omega)) := List.getElem?_eq_getElem (by omega)
    refine hs i x _ H H' hi (h.1.trans s) y e _ fun H4 s4 => ?_
    have e4 := s4 _ _ (s _ _ h.2)
    refine ⟨_, e4, ?_, same_mut ((h.1.trans s).trans s4) hD, ?_⟩
    · rw [List.length_take]
      exact sz100l (by omega)
    · rw [upd_same, List.take_add_one, e]
      rfl
  · rw [← hn, List.take_length] at h
    exact h.2
theorem yat_same {xs : List V} {i : Nat} {H H' : Hp} {x : V} (y : YAt xs i H x H') : Same H H' := by
  rw [y.1]
  exact Same.refl H
theorem yfn_same {f : Nat → V} {i : Nat} {H H' : Hp} {x : V} (y : YFn f i H x H') : Same H H' := by
  rw [y.1]
  exact Same.refl H
theorem ypair_same {xs ys : Nat → Option V} {i : Nat} {H H' : Hp} {x : V} (y : YPair xs ys i H x H') : Same H H' := by
  obtain ⟨T, a, b, _, hT, e, _⟩ := y
  rw [e]
  exact same_upd hT
theorem rAll_r {K : PySem.W.Frag} {p : Addr} {H : Hp} {Q : VK} : rAll K [.ref p] H Q = ∃ bs : List Bool, SqL K H p (bs.map V.bl) ∧ Q (.bl (bs.all id)) H := propext ⟨fun ⟨a, bs, e, h⟩ => by cases e; exact ⟨bs, h⟩, fun ⟨bs, h⟩ => ⟨p, bs, rfl, h⟩⟩
theorem rSum_r {K : PySem.W.Frag} {p : Addr} {H : Hp} {Q : VK} : rSum K [.ref p] H Q = ∃ ns : List Int, SqL K H p (ns.map V.int) ∧ Q (.int ns.sum) H := propext ⟨fun ⟨a, bs, e, h⟩ => by cases e; exact ⟨bs, h⟩, fun ⟨bs, h⟩ => ⟨p, bs, rfl, h⟩⟩
/-! ### what a bakery is, as data -/
structure Day where
  want : Int
  loaf : Int
  keep : Int
  fine : Option Int
structure Good where
  days : List Day
  life : Option Int
structure Bak where
  lights : List Int
  bound : Option Int
  goods : List Good
def optD : Option Int → PyData
  | none => .none
  | some i => .int i
def dayD (d : Day) : PyData := .tuple [.int d.want, .int d.loaf, .int d.keep, optD d.fine]
def goodD (g : Good) : PyData := .tuple [.list (g.days.map dayD), optD g.life]
def bakD (b : Bak) : PyData := .tuple [.list (b.lights.map PyData.int), optD b.bound, .list (b.goods.map goodD)]
def tupB (n : Nat) : PyData → Bool
  | .tuple ds => decide (ds.length = n)
  | _ => false
def listB (lo hi : Nat) : PyData → Bool
  | .list ds => decide (lo ≤ ds.length) && decide (ds.length ≤ hi)
  | _ => false
def lightsB : PyData → Bool
  | .list ds => listB 1 40 (.list ds) && ds.all numD
  | _ => false
def boundB : PyData → Bool
  | .none => true
  | .int i => numD (.int i) && decide (1 ≤ i)
  | _ => false
def lifeB : PyData → Bool
  | .none => true
  | .int i => decide (0 ≤ i) && decide (i ≤ 40)
  | _ => false
def noneB : PyData → Bool
  | .none => true
  | _ => false
def dayB : PyData → Bool
  | .tuple [a, b, c, f] => (numD a && numD b && numD c) && (noneB f || numD f)
  | _ => false
def goodFormB (n : Nat) : PyData → Bool
  | .tuple [ds, l] => listB n n ds && lifeB l
  | _ => false
def bakFormB : PyData → Bool
  | .tuple [l, b, g] => lightsB l && (boundB b && listB 1 2 g)
  | _ => false
/-- a good of n days -/
def goodB (n : Nat) : PyData → Bool
  | .tuple [.list ds, l] => decide (ds.length = n) && lifeB l && ds.all dayB
  | _ => false
def bakB : PyData → Bool
  | .tuple [.list ls, b, .list gs] => lightsB (.list ls) && boundB b && listB 1 2 (.list gs) && gs.all (goodB ls.length)
  | _ => false
theorem Th.isNon {K : PySem.W.Frag} {H : Hp} {x : V} {d : PyData} (h : Th K H x d) : decide (x = V.non) = noneB d := by cases h <;> rfl
theorem qb {Q : VK} {H : Hp} {a b : Bool} (e : a = b) (q : Q (.bl b) H) : Q (.bl a) H := by
  rw [e]
  exact q
theorem two {α : Type} {l : List α} (h : l.length = 2) : ∃ a b, l = [a, b] := by
  match l, h with
  | [a, b], _ => exact ⟨a, b, rfl⟩
theorem three {α : Type} {l : List α} (h : l.length = 3) : ∃ a b c, l = [a, b, c] := by
  match l, h with
  | [a, b, c], _ => exact ⟨a, b, c, rfl⟩
theorem four {α : Type} {l : List α} (h : l.length = 4) : ∃ a b c d, l = [a, b, c, d] := by
  match l, h with
  | [a, b, c, d], _ => exact ⟨a, b, c, d, rfl⟩
theorem goodB_inv {n : Nat} {d : PyData} (h : goodB n d = true) : ∃ ds l, d = .tuple [.list ds, l] ∧ ds.length = n ∧ lifeB l = true ∧ ds.all dayB = true := by
  unfold goodB at h
  split at h
  · rename_i ds l
    rw [Bool.and_eq_true, Bool.and_eq_true] at h
    exact ⟨ds, l, rfl, of_decide_eq_true h.1.1, h.1.2, h.2⟩
  · cases h
theorem bakB_inv {d : PyData} (h : bakB d = true) : ∃ ls b gs, d = .tuple [.list ls, b, .list gs] ∧ lightsB (.list ls) = true ∧ boundB b = true ∧ listB 1 2 (.list gs) = true ∧ gs.all (goodB ls.length) = true := by
  unfold bakB at h
  split at h
  · rename_i ls b gs
    rw [Bool.and_eq_true, Bool.and_eq_true, Bool.and_eq_true] at h
    exact ⟨ls, b, gs, rfl, h.1.1.1, h.1.1.2, h.1.2, h.2⟩
  · cases h
/-- a bakery, part by part -/
theorem Th.bak {K : PySem.W.Frag} {H : Hp} {x : V} {b : Bak} (h : Th K H x (bakD b)) : ∃ (a l : Addr) (v : V) (g : Addr) (xl xg : List V), x = .ref a ∧ SqT K H a [.ref l, v, .ref g] ∧ SqL K H l xl ∧ ThAll K H xl (b.lights.map PyData.int) ∧ Th K H v (optD b.bound) ∧ SqL K H g xg ∧ ThAll K H xg (b.goods.map goodD) := by
  cases h with
  | tup ht hta =>
  cases hta with
  | cons t1 hta => cases hta with
  | cons t2 hta => cases hta with
  | cons t3 hta =>
  cases hta
  cases t1 with
  | lst h1 h2 =>
  cases t3 with
  | lst h3 h4 =>
  exact ⟨_, _, _, _, _, _, rfl, ht, h1, h2, t2, h3, h4⟩
def optV : Option Int → V
  | none => .non
  | some i => .int i
theorem Th.opt {K : PySem.W.Frag} {H : Hp} {v : V} {o : Option Int} (h : Th K H v (optD o)) : v = optV o := by
  cases o with
  | none =>
    cases h
    rfl
  | some i =>
    cases h
    rfl
theorem Th.optV {K : PySem.W.Frag} {H : Hp} (o : Option Int) : Th K H (Bk.optV o) (optD o) := by
  cases o with
  | none => exact .non
  | some i => exact .int i
theorem Th.day {K : PySem.W.Frag} {H : Hp} {x : V} {d : Day} (h : Th K H x (dayD d)) : ∃ t, x = .ref t ∧ SqT K H t [.int d.want, .int d.loaf, .int d.keep, Bk.optV d.fine] := by
  cases h with
  | tup ht hta =>
  cases hta with
  | cons t1 hta => cases hta with
  | cons t2 hta => cases hta with
  | cons t3 hta => cases hta with
  | cons t4 hta =>
  cases hta
  cases t1
  cases t2
  cases t3
  rw [t4.opt] at ht
  exact ⟨_, rfl, ht⟩
theorem Th.good {K : PySem.W.Frag} {H : Hp} {x : V} {g : Good} (h : Th K H x (goodD g)) : ∃ t a xs, x = .ref t ∧ SqT K H t [.ref a, Bk.optV g.life] ∧ SqL K H a xs ∧ ThAll K H xs (g.days.map dayD) := by
  cases h with
  | tup ht hta =>
  cases hta with
  | cons t1 hta => cases hta with
  | cons t2 hta =>
  cases hta
  cases t1 with
  | lst h1 h2 =>
  rw [t2.opt] at ht
  exact ⟨_, _, _, rfl, ht, h1, h2⟩
theorem ThAll.drop {K : PySem.W.Frag} {H : Hp} : ∀ {vs : List V} {ds : List PyData} (n : Nat), ThAll K H vs ds → ThAll K H (vs.drop n) (ds.drop n)
  | _, _, 0, h => h
  | _, _, _ + 1, .nil => .nil
  | _, _, n + 1, .cons _ t => ThAll.drop n t
theorem ThAll.take {K : PySem.W.Frag} {H : Hp} : ∀ {vs : List V} {ds : List PyData} (n : Nat), ThAll K H vs ds → ThAll K H (vs.take n) (ds.take n)
  | _, _, 0, _ => .nil
  | _, _, _ + 1, .nil => .nil
  | _, _, n + 1, .cons h t => .cons h (ThAll.take n t)
theorem ThAll.append {K : PySem.W.Frag} {H : Hp} : ∀ {vs ws : List V} {ds es : List PyData}, ThAll K H vs ds → ThAll K H ws es → ThAll K H (vs ++ ws) (ds ++ es)
  | _, _, _, _, .nil, h => h
  | _, _, _, _, .cons h t, h2 => .cons h (ThAll.append t h2)
theorem cutV_nat (xs : List V) (i j : Nat) : cutV xs (some (i : Int)) (some (j : Int)) = (xs.drop i).take (j - i) := by
  unfold cutV
  rw [HT.sIx_nat, HT.sIx_nat]
  by_cases hi : i ≤ xs.length
  · rw [Nat.min_eq_left hi]
    by_cases hj : j ≤ xs.length
    · rw [Nat.min_eq_left hj]
    · rw [Nat.min_eq_right (by omega), List.take_of_length_le (by rw [List.length_drop]; omega), List.take_of_length_le (by rw [List.length_drop]; omega)]
  · rw [show min i xs.length = xs.length by omega, List.drop_of_length_le (Nat.le_refl _), List.drop_of_length_le (show xs.length ≤ i by omega), List.take_nil, List.take_nil]
/-! ### the price of a loaf -/
def sumO : List (Option Int) → Option Int
  | [] => some 0
  | none :: _ => none
  | some x :: r => (sumO r).map (x + ·)
def keepsL (ds : List Day) (i j : Nat) : Int := (((ds.drop i).take (j - i)).map Day.keep).sum
def finesL (ds : List Day) (i j : Nat) : Option Int := sumO (((ds.drop i).take (j - i)).map Day.fine)
/-- a loaf of a good, baked on day j, given for day k -/
def loafP (g : Good) (j k : Nat) : Option Int := match g.days[j]? with
  | none => none
  | some d => if k < j then (finesL g.days k j).map (d.loaf + ·) else match g.life with
    | none => some (d.loaf + keepsL g.days j k)
    | some l => if l < (k : Int) - (j : Int) then none else some (d.loaf + keepsL g.days j k)
theorem sumO_none : ∀ {l : List (Option Int)}, inV .non (l.map optV) = true → sumO l = none
  | [], h => by cases h
  | none :: _, _ => rfl
  | some x :: r, h => by
    have h2 : inV .non (r.map optV) = true := by
      have h1 : (eqV (.int x) .non || inV .non (r.map optV)) = true := h
      simpa [eqV] using h1
    show (sumO r).map (x + ·) = none
    rw [sumO_none h2]
    rfl
theorem sumO_some : ∀ {l : List (Option Int)}, inV .non (l.map optV) = false → ∃ ns : List Int, l.map optV = ns.map V.int ∧ sumO l = some ns.sum
  | [], _ => ⟨[], rfl, rfl⟩
  | none :: r, h => by
    have h1 : (eqV .non .non || inV .non (r.map optV)) = false := h
    simp [eqV] at h1
  | some x :: r, h => by
    have h2 : inV .non (r.map optV) = false := by
      have h1 : (eqV (.int x) .non || inV .non (r.map optV)) = false := h
      simpa [eqV] using h1
    obtain ⟨ns, e1, e2⟩ := sumO_some h2
    refine ⟨x :: ns, ?_, ?_⟩
    · show V.int x :: r.map optV = V.int x :: ns.map V.int
      rw [e1]
    · show (sumO r).map (x + ·) = some (x :: ns).sum
      rw [e2, List.sum_cons]
      rfl
theorem rIn_r {K : PySem.W.Frag} {x : V} {p : Addr} {H : Hp} {Q : VK} : rIn K false x (.ref p) H Q = ∃ xs, (SqL K H p xs ∨ SqT K H p xs) ∧ flatV x = true ∧ xs.all flatV = true ∧ Q (.bl (inV x xs)) H :=
  propext ⟨fun ⟨_, xs, e, h⟩ => by cases e; exact ⟨xs, h⟩, fun ⟨xs, h⟩ => ⟨p, xs, rfl, h⟩⟩
theorem flat_opts (l : List (Option Int)) : (l.map optV).all flatV = true := by
  rw [List.all_eq_true]
  intro x hx
  obtain ⟨o, _, rfl⟩ := List.mem_map.mp hx
  cases o <;> rfl
theorem bakB_len {b : Bak} {g : Good} {i : Nat} (h : bakB (bakD b) = true) (hg : b.goods[i]? = some g) : g.days.length = b.lights.length ∧ b.lights.length ≤ 40 := by
  obtain ⟨ls, bo, gs, e, h1, h2, h3, h4⟩ := bakB_inv h
  unfold bakD at e
  injection e with e
  injection e with e1 e
  injection e with e2 e
  injection e with e3 e
  injection e1 with e1
  injection e3 with e3
  subst e1 e3
  have h5 := List.all_eq_true.mp h4 (goodD g) (List.mem_map.mpr ⟨g, List.mem_of_getElem? hg, rfl⟩)
  obtain ⟨ds, l, e4, e5, _⟩ := goodB_inv h5
  unfold goodD at e4
  injection e4 with e4
  injection e4 with e4 _
  injection e4 with e4
  subst e4
  rw [List.length_map, List.length_map] at e5
  have h6 := (Bool.and_eq_true_iff.mp (Bool.and_eq_true_iff.mp h1).1).2
  have h7 := of_decide_eq_true h6
  rw [List.length_map] at h7
  exact ⟨e5, h7⟩
end Bk

namespace Bk
open PySem PySem.Spec PyProof.Rows L2
/-! ### xs[a:b:c] of a list: some of its items -/
theorem vals_pick {xs : List V} {us : List Value} (r : Vals xs us) : ∀ is : List Nat, Vals (is.filterMap (xs[·]?)) (is.filterMap (us[·]?))
  | [] => .nil
  | i :: is => by
    have ih := vals_pick r is
    cases e : xs[i]? with
    | none =>
      rw [List.filterMap_cons_none e, List.filterMap_cons_none (r.none_of e)]
      exact ih
    | some x =>
      obtain ⟨u, e2, r2⟩ := r.get e
      rw [List.filterMap_cons_some e, List.filterMap_cons_some e2]
      exact .cons r2 ih
/-- the items of xs[l:u:st] -/
def stepV (xs : List V) (l u st : Option Int) : List V := (sliceRange (sliceBounds l u st xs.length).1 (sliceBounds l u st xs.length).2.1 (sliceBounds l u st xs.length).2.2).filterMap (xs[·]?)
theorem pick_length {α : Type} {xs : List α} : ∀ {is : List Nat}, (∀ i ∈ is, i < xs.length) → (is.filterMap (xs[·]?)).length = is.length
  | [], _ => rfl
  | i :: is, h => by
    rw [List.filterMap_cons_some (List.getElem?_eq_getElem (h i List.mem_cons_self)), List.length_cons, List.length_cons, pick_length fun j hj => h j (List.mem_cons_of_mem _ hj)]
theorem stepV_mem {xs : List V} {l u st : Option Int} {y : V} (h : y ∈ stepV xs l u st) : y ∈ xs := by
  obtain ⟨i, _, e⟩ := List.mem_filterMap.mp h
  exact List.mem_of_getElem? e
/-- xs[:0:-1] has one less -/
theorem stepV_back (xs : List V) : (stepV xs none (some 0) (some (-1))).length = xs.length - 1 := by
  unfold stepV
  by_cases h : xs.length = 0
  · have e : xs = [] := List.length_eq_zero_iff.mp h
    subst e
    rfl
  · have eb : sliceBounds none (some 0) (some (-1)) xs.length = ((xs.length : Int) - 1, 0, -1) := by
      simp only [sliceBounds, Option.getD_some, show ¬ ((-1 : Int) > 0) by decide, if_false, show ¬ ((0 : Int) < 0) by decide]
      rw [show max (-1 : Int) (min 0 ((xs.length : Int) - 1)) = 0 by omega]
    rw [eb]
    have er : (sliceRange ((xs.length : Int) - 1) 0 (-1)) = (List.range (xs.length - 1)).map fun (k : Nat) => ((xs.length : Int) - 1 + -1 * (k : Int)).toNat := by
      unfold sliceRange
      simp only [show ¬ ((-1 : Int) > 0) by decide, if_false]
      congr 2
      by_cases h2 : (xs.length : Int) - 1 > 0
      · rw [if_pos h2, show (- -1 : Int) = 1 by decide, Int.ediv_one]
        omega
      · rw [if_neg h2]
        omega
    rw [er, pick_length, List.length_map, List.length_range]
    intro i hi
    obtain ⟨k, hk, rfl⟩ := List.mem_map.mp hi
    have := List.mem_range.mp hk
    omega
def tStep (K : PySem.W.Frag) (te : TE) (tl th ts : TO) : TE := fun σ H Q => te σ H fun x H1 => tl σ H1 fun l H2 => th σ H2 fun u H3 => ts σ H3 fun st H4 => ∃ a xs, x = .ref a ∧ SqL K H4 a xs ∧ st ≠ some 0 ∧
  ∀ p, H4 p = none → Q (.ref p) (upd H4 p (.lst (stepV xs l u st)))
theorem pe_step {X : Cx} {e : Expr} {lo hi st : Option Expr} {te : TE} {tl th ts : TO} {p3 pos : Pos} (he : PE X e te) (hl : PO X lo tl) (hu : PO X hi th) (hst : PO X st ts)
    (hsub : ∀ a i, subscripted (.Slice lo hi st p3) false a i = operate [a, i] (getItem a i) := by intro _ _; with_unfolding_all rfl) : PE X (.Subscript e (.Slice lo hi st p3) pos) (tStep X.K te tl th ts) := by
  refine ⟨fun pins s σ H Q I h => ?_⟩
  refine Subscript_ (thn (he.run pins s σ H _ I h) fun v s1 ⟨x, H1, I1, r1, q1⟩ => ?_)
  refine wpAny_Slice (thn (hl.run pins s1 σ H1 _ I1 q1) fun vl s2 ⟨l, H2, I2, pl, q2⟩ => ?_)
  refine thn (hu.run pins s2 σ H2 _ I2 q2) fun vu s3 ⟨u, H3, I3, pu, q3⟩ => ?_
  refine thn (hst.run pins s3 σ H3 _ I3 q3) fun vs s4 ⟨o, H4, I4, ps, q4⟩ => ?_
  obtain ⟨a, xs, ex, hx, h0, q⟩ := q4
  subst ex
  cases r1
  have I5 : Inv X pins σ H4 { s4 with heap := s4.heap.push { cls := .type "slice", data := .fields #[vl, vu, vs] } } := I4.kept (t' := s4.toks) fun b ob q => Heap.get?_push_of_some _ q
  obtain ⟨its, r, ht, hz⟩ := I5.list hx
  have hlen := r.length
  show wpAny (model X.prog X.w) X.A (subscriptTail e (.Slice lo hi st p3) (.ref a) (.ref s4.heap.objs.size)) (EP X pins σ Q) X.xe { s4 with heap := s4.heap.push { cls := .type "slice", data := .fields #[vl, vu, vs] } }
  refine tail_any (ops := [.ref a, .ref s4.heap.objs.size]) ht.isList.typeIs (PySem.slot_list_getitem.lookup) ?_ (hsub _ _)
  refine wpAny_getItem_list_slice ht.isList (Heap.IsSliceOf.new _ vl vu vs) pl pu ps h0 ?_ (by rw [List.size_toArray]; omega)
  have hpk : slicePick its.toArray l u o = ((sliceRange (sliceBounds l u o xs.length).1 (sliceBounds l u o xs.length).2.1 (sliceBounds l u o xs.length).2.2).filterMap (its[·]?)).toArray := by
    unfold slicePick
    rw [List.size_toArray, ← hlen]
    simp
  have rp : Vals (stepV xs l u o) _ := vals_pick r (sliceRange (sliceBounds l u o xs.length).1 (sliceBounds l u o xs.length).2.1 (sliceBounds l u o xs.length).2.2)
  have hle := slicePick_size_le its.toArray l u o
  rw [hpk] at hle ⊢
  rw [List.size_toArray, List.size_toArray] at hle
  have hl2 : (stepV xs l u o).length ≤ xs.length := by
    rw [rp.length]
    omega
  refine ⟨.ref _, _, I5.laid (t' := s4.toks) (o := .lst (stepV xs l u o)) (fun b ob q => Heap.get?_push_of_some _ q) (Nat.le_refl _) ?_, rfl, q _ (I5.hok.fresh (Nat.le_refl _))⟩
  exact ⟨by omega, _, 0, rp, Heap.get?_push_size _ rfl⟩
theorem tStep_r {K : PySem.W.Frag} {te : TE} {tl th ts : TO} {σ : L2.St} {H : Hp} {Q : VK} : tStep K te tl th ts σ H Q = te σ H fun x H1 => tl σ H1 fun l H2 => th σ H2 fun u H3 => ts σ H3 fun st H4 => ∃ a xs, x = .ref a ∧ SqL K H4 a xs ∧ st ≠ some 0 ∧
  ∀ p, H4 p = none → Q (.ref p) (upd H4 p (.lst (stepV xs l u st))) := rfl
/-! ### data in objects that are tracked as they are -/
mutual
inductive Tk (H : Hp) : V → PyData → Prop
  | non : Tk H .non .none
  | bl (b : Bool) : Tk H (.bl b) (.bool b)
  | int (i : Int) : Tk H (.int i) (.int i)
  | str (x : Str) : Tk H (.str x) (.str x)
  | lst {a : Addr} {xs : List V} {ds : List PyData} : H a = some (.lst xs) → TkAll H xs ds → Tk H (.ref a) (.list ds)
  | tup {a : Addr} {xs : List V} {ds : List PyData} : H a = some (.tup xs) → TkAll H xs ds → Tk H (.ref a) (.tuple ds)
  | dic {a : Addr} : H a = some (.dK []) → Tk H (.ref a) (.dict [])
inductive TkAll (H : Hp) : List V → List PyData → Prop
  | nil : TkAll H [] []
  | cons {v : V} {vs : List V} {d : PyData} {ds : List PyData} : Tk H v d → TkAll H vs ds → TkAll H (v :: vs) (d :: ds)
end
mutual
theorem Tk.th {K : PySem.W.Frag} {H : Hp} : ∀ {v : V} {d : PyData}, Tk H v d → Th K H v d
  | _, _, .non => .non
  | _, _, .bl b => .bl b
  | _, _, .int i => .int i
  | _, _, .str x => .str x
  | _, _, .lst h t => .lst (SqL.of h) (TkAll.th t)
  | _, _, .tup h t => .tup (SqT.of h) (TkAll.th t)
  | _, _, .dic h => .dic h
theorem TkAll.th {K : PySem.W.Frag} {H : Hp} : ∀ {vs : List V} {ds : List PyData}, TkAll H vs ds → ThAll K H vs ds
  | _, _, .nil => .nil
  | _, _, .cons h t => .cons (Tk.th h) (TkAll.th t)
end
mutual
theorem Tk.same {H H' : Hp} (e : Same H H') : ∀ {v : V} {d : PyData}, Tk H v d → Tk H' v d
  | _, _, .non => .non
  | _, _, .bl b => .bl b
  | _, _, .int i => .int i
  | _, _, .str x => .str x
  | _, _, .lst h t => .lst (e _ _ h) (TkAll.same e t)
  | _, _, .tup h t => .tup (e _ _ h) (TkAll.same e t)
  | _, _, .dic h => .dic (e _ _ h)
theorem TkAll.same {H H' : Hp} (e : Same H H') : ∀ {vs : List V} {ds : List PyData}, TkAll H vs ds → TkAll H' vs ds
  | _, _, .nil => .nil
  | _, _, .cons h t => .cons (Tk.same e h) (TkAll.same e t)
end
theorem TkAll.append {H : Hp} : ∀ {vs ws : List V} {ds es : List PyData}, TkAll H vs ds → TkAll H ws es → TkAll H (vs ++ ws) (ds ++ es)
  | _, _, _, _, .nil, h => h
  | _, _, _, _, .cons h t, h2 => .cons h (TkAll.append t h2)
theorem TkAll.take {H : Hp} : ∀ {vs : List V} {ds : List PyData} (n : Nat), TkAll H vs ds → TkAll H (vs.take n) (ds.take n)
  | _, _, 0, _ => .nil
  | _, _, _ + 1, .nil => .nil
  | _, _, n + 1, .cons h t => .cons h (TkAll.take n t)
theorem TkAll.rep {H : Hp} {vs : List V} {ds : List PyData} (h : TkAll H vs ds) : ∀ n : Nat, TkAll H (List.replicate n vs).flatten (List.replicate n ds).flatten
  | 0 => .nil
  | n + 1 => by
    rw [List.replicate_succ, List.replicate_succ, List.flatten_cons, List.flatten_cons]
    exact h.append (TkAll.rep h n)
theorem TkAll.length {H : Hp} : ∀ {vs : List V} {ds : List PyData}, TkAll H vs ds → vs.length = ds.length
  | _, _, .nil => rfl
  | _, _, .cons _ t => by rw [List.length_cons, List.length_cons, TkAll.length t]
theorem TkAll.get {H : Hp} : ∀ {vs : List V} {ds : List PyData} {i : Nat} {v : V}, TkAll H vs ds → vs[i]? = some v → ∃ d, ds[i]? = some d ∧ Tk H v d
  | _, _, _, _, .nil, e => by simp at e
  | _, _, 0, _, .cons h _, e => by
    rw [List.getElem?_cons_zero] at e
    cases e
    exact ⟨_, List.getElem?_cons_zero .., h⟩
  | _, _, i + 1, _, .cons _ t, e => by
    rw [List.getElem?_cons_succ] at e
    obtain ⟨d, h1, h2⟩ := TkAll.get t e
    exact ⟨d, by rw [List.getElem?_cons_succ]; exact h1, h2⟩
theorem TkAll.ints {H : Hp} : ∀ ns : List Int, TkAll H (ns.map V.int) (ns.map PyData.int)
  | [] => .nil
  | n :: r => .cons (.int n) (TkAll.ints r)
theorem Tk.optV {H : Hp} (o : Option Int) : Tk H (Bk.optV o) (optD o) := by
  cases o with
  | none => exact .non
  | some i => exact .int i
/-! ### what is new -/
/-- the part of H' that H doesn't know -/
def newOf (H H' : Hp) : Hp := fun b => if H b = none then H' b else none
theorem newOf_same (H H' : Hp) : Same (newOf H H') H' := fun b o e => by
  unfold newOf at e
  split at e
  · exact e
  · cases e
theorem newOf_at {H H' : Hp} {b : Addr} {o : HO} (h : H b = none) (e : H' b = some o) : newOf H H' b = some o := by
  unfold newOf
  rw [if_pos h]
  exact e
theorem newOf_old {H H' : Hp} {b : Addr} {o : HO} (h : H b = some o) : newOf H H' b = none := by
  unfold newOf
  rw [if_neg (by rw [h]; exact fun z => nomatch z)]
theorem newOf_mono {H H1 H2 : Hp} (s : Same H1 H2) : Same (newOf H H1) (newOf H H2) := fun b o e => by
  unfold newOf at e ⊢
  split at e
  · rename_i h
    rw [if_pos h]
    exact s b o e
  · cases e
theorem newOf_left {H H1 H2 : Hp} (s : Same H H1) : Same (newOf H1 H2) (newOf H H2) := fun b o e => by
  unfold newOf at e ⊢
  split at e
  · rename_i h
    rw [if_pos (s.free h)]
    exact e
  · cases e
/-- the new part, without two places -/
def newBut (H : Hp) (l m : Addr) (H' : Hp) : Hp := fun b => if b = l ∨ b = m then none else newOf H H' b
theorem newBut_mono {H H1 H2 : Hp} {l m : Addr} (s : ∀ b o, b ≠ l → b ≠ m → H1 b = some o → H2 b = some o) : Same (newBut H l m H1) (newBut H l m H2) := fun b o e => by
  unfold newBut at e ⊢
  split at e
  · cases e
  · rename_i h
    rw [if_neg h]
    have h2 := newOf_same _ _ b o e
    unfold newOf at e ⊢
    split at e
    · rename_i h3
      rw [if_pos h3]
      exact s b o (fun z => h (.inl z)) (fun z => h (.inr z)) h2
    · cases e
theorem newBut_same (H : Hp) (l m : Addr) (H' : Hp) : Same (newBut H l m H') (newOf H H') := fun b o e => by
  unfold newBut at e
  split at e
  · cases e
  · exact e
theorem newBut_at {H H' : Hp} {l m b : Addr} {o : HO} (h : H b = none) (h1 : b ≠ l) (h2 : b ≠ m) (e : H' b = some o) : newBut H l m H' b = some o := by
  unfold newBut
  rw [if_neg (fun z => z.elim h1 h2)]
  exact newOf_at h e
theorem gUnl_r {K : PySem.W.Frag} {n : Nat} {t : TGs} {a : Addr} {σ : L2.St} {H : Hp} {Q : L2.St → Hp → Prop} : gUnl K n t (.ref a) σ H Q = ∃ xs, SqL K H a xs ∧ xs.length = n ∧ t xs σ H Q := propext ⟨fun ⟨b, xs, e, h⟩ => by cases e; exact ⟨xs, h⟩, fun ⟨xs, h⟩ => ⟨a, xs, rfl, h⟩⟩
def rInt1 : List V → Hp → VK → Prop := fun xs H Q => (∃ i, xs = [.int i] ∧ Q (.int i) H) ∨ ∃ k, xs = [.bl k] ∧ Q (.int (if k then 1 else 0)) H
theorem call_in1 {X : Cx} : CallR X (.type "int") rInt1 := call_int1
theorem rInt1_b {k : Bool} {H : Hp} {Q : VK} : rInt1 [.bl k] H Q = Q (.int (if k then 1 else 0)) H := by
  refine propext ⟨fun h => ?_, fun h => .inr ⟨k, rfl, h⟩⟩
  rcases h with ⟨i, e, _⟩ | ⟨j, e, q⟩
  · cases e
  · cases e
    exact q
theorem rInt1_i {i : Int} {H : Hp} {Q : VK} : rInt1 [.int i] H Q = Q (.int i) H := by
  refine propext ⟨fun h => ?_, fun h => .inl ⟨i, rfl, h⟩⟩
  rcases h with ⟨j, e, q⟩ | ⟨j, e, _⟩
  · cases e
    exact q
  · cases e
theorem rRep_r {l : Addr} {k : Int} {H : Hp} {Q : VK} : rRep (.ref l) (.int k) H Q = ∃ xs, H l = some (.lst xs) ∧ -(2 ^ 63) ≤ k ∧ k < 2 ^ 63 ∧ xs.length * k.toNat ≤ sizeLine ∧ ∀ p, H p = none → Q (.ref p) (upd H p (.lst (List.replicate k.toNat xs).flatten)) :=
  propext ⟨fun ⟨_, _, xs, e1, e2, h⟩ => by cases e1; cases e2; exact ⟨xs, h⟩, fun ⟨xs, h⟩ => ⟨l, k, xs, rfl, rfl, h⟩⟩
theorem seven {α : Type} {l : List α} (h : l.length = 7) : ∃ a b c d e f g, l = [a, b, c, d, e, f, g] := by
  match l, h with
  | [a, b, c, d, e, f, g], _ => exact ⟨a, b, c, d, e, f, g, rfl⟩
def nDays (u m : Nat) : Nat := max 2 (min u m) - 1
theorem newOf_to {H Hb H5 HF : Hp} (s : Same H Hb) (k : ∀ b o, Hb b = none → H5 b = some o → HF b = some o) : Same (newOf Hb H5) (newOf H HF) := fun b o e => by
  unfold newOf at e
  split at e
  · rename_i h
    exact newOf_at (s.free h) (k b o h e)
  · cases e
theorem bakB_mk {b : Bak} (h1 : 1 ≤ b.lights.length) (h2 : b.lights.length ≤ 40) (h3 : ∀ z ∈ b.lights, numD (.int z) = true) (h4 : boundB (optD b.bound) = true) (h5 : 1 ≤ b.goods.length) (h6 : b.goods.length ≤ 2)
    (h7 : ∀ g ∈ b.goods, g.days.length = b.lights.length ∧ lifeB (optD g.life) = true ∧ ∀ d ∈ g.days, dayB (dayD d) = true) : bakB (bakD b) = true := by
  have e1 : (b.lights.map PyData.int).all numD = true := by
    rw [List.all_eq_true]
    intro x hx
    obtain ⟨z, hz, rfl⟩ := List.mem_map.mp hx
    exact h3 z hz
  have e2 : (b.goods.map goodD).all (goodB (b.lights.map PyData.int).length) = true := by
    rw [List.all_eq_true]
    intro x hx
    obtain ⟨g, hg, rfl⟩ := List.mem_map.mp hx
    obtain ⟨g1, g2, g3⟩ := h7 g hg
    have e3 : (g.days.map dayD).all dayB = true := by
      rw [List.all_eq_true]
      intro y hy
      obtain ⟨d, hd, rfl⟩ := List.mem_map.mp hy
      exact g3 d hd
    simp only [goodD, goodB, e3, g2, List.length_map, g1, decide_true, Bool.and_self]
  rw [List.length_map] at e2
  simp only [bakD, bakB, lightsB, listB, e1, e2, h4, List.length_map, h1, h2, h5, h6, decide_true, Bool.and_self]
theorem ints_of : ∀ {xs : List V}, (∀ x ∈ xs, ∃ c : Int, x = .int c) → ∃ ns : List Int, xs = ns.map V.int
  | [], _ => ⟨[], rfl⟩
  | x :: r, h => by
    obtain ⟨c, rfl⟩ := h x List.mem_cons_self
    obtain ⟨ns, e⟩ := ints_of fun y hy => h y (List.mem_cons_of_mem _ hy)
    exact ⟨c :: ns, by rw [e]; rfl⟩
theorem cutV_upto (xs : List V) (n : Nat) : cutV xs none (some (n : Int)) = xs.take n := by
  unfold cutV
  rw [HT.sIx_nat, HT.sIx_none, List.drop_zero, Nat.sub_zero]
  by_cases h : n ≤ xs.length
  · rw [Nat.min_eq_left h]
  · rw [Nat.min_eq_right (by omega), List.take_of_length_le (Nat.le_refl _), List.take_of_length_le (by omega)]
theorem Tk.opt {H : Hp} {v : V} {o : Option Int} (h : Tk H v (optD o)) : v = Bk.optV o := (h.th (K := [])).opt
/-- a bakery in tracked objects, part by part -/
theorem Tk.bak {H : Hp} {x : V} {b : Bak} (h : Tk H x (bakD b)) : ∃ (a l g : Addr) (xl xg : List V), x = .ref a ∧ H a = some (.tup [.ref l, Bk.optV b.bound, .ref g]) ∧ H l = some (.lst xl) ∧ TkAll H xl (b.lights.map PyData.int) ∧ H g = some (.lst xg) ∧ TkAll H xg (b.goods.map goodD) := by
  cases h with
  | tup ht hta =>
  cases hta with
  | cons t1 hta => cases hta with
  | cons t2 hta => cases hta with
  | cons t3 hta =>
  cases hta
  cases t1 with
  | lst h1 h2 =>
  cases t3 with
  | lst h3 h4 =>
  rw [t2.opt] at ht
  exact ⟨_, _, _, _, _, rfl, ht, h1, h2, h3, h4⟩
theorem Tk.good {H : Hp} {x : V} {g : Good} (h : Tk H x (goodD g)) : ∃ t a xs, x = .ref t ∧ H t = some (.tup [.ref a, Bk.optV g.life]) ∧ H a = some (.lst xs) ∧ TkAll H xs (g.days.map dayD) := by
  cases h with
  | tup ht hta =>
  cases hta with
  | cons t1 hta => cases hta with
  | cons t2 hta =>
  cases hta
  cases t1 with
  | lst h1 h2 =>
  rw [t2.opt] at ht
  exact ⟨_, _, _, rfl, ht, h1, h2⟩
/-! ### a comprehension whose items are new things -/
theorem LcR.build {J : It} {n : Nat} {G : Hp → Prop} {Y : Nat → Hp → V → Hp → Prop} (w : Walk J n G Y) {g : TG} {te : TE} {vs : List Nat} {σ : L2.St} {H H1 : Hp} {D : Addr} {Qd : Hp → Prop} (es : List PyData) (hD : H1 D = none) (hn : es.length = n) (hz : n ≤ 100000)
    (hG : ∀ H, Same H1 H → G H) (hY : ∀ i H x H', Y i H x H' → Same H H')
    (hs : ∀ i x e H0 H', i < n → Same H1 H' → (∃ acc, H' D = some (.lst acc)) → Y i H0 x H' → es[i]? = some e → ∀ R : V → Hp → Prop, (∀ v H4, Same H' H4 → Tk (newBut H D D H4) v e → R v H4) → g x (wipe σ vs) H' fun σ2 H2 => wipe σ2 vs = wipe σ vs ∧ te σ2 H2 R)
    (hd : ∀ H' acc, Same H1 H' → H' D = some (.lst acc) → TkAll (newBut H D D H') acc es → Qd H') : LcR J g tYes te vs σ D H1 Qd := by
  refine LcR.by w (fun i H' => Same H1 H' ∧ ∃ acc, H' D = some (.lst acc) ∧ TkAll (newBut H D D H') acc (es.take i)) ⟨same_upd hD, [], upd_same, .nil⟩ (fun i H _ h => hG H h.1) (fun i x H0 H' hi h y => ?_) (fun H' h => ?_)
  · obtain ⟨s0, acc, ea, ta⟩ := h
    have s := hY _ _ _ _ y
    have e : es[i]? = some (es[i]'(by omega)) := List.getElem?_eq_getElem (by omega)
    refine hs i x _ H0 H' hi (s0.trans s) ⟨acc, s _ _ ea⟩ y e _ fun v H4 s4 tv => ?_
    have e4 := s4 _ _ (s _ _ ea)
    refine ⟨_, e4, ?_, same_mut ((s0.trans s).trans s4) hD, _, upd_same, ?_⟩
    · rw [ta.length, List.length_take]
      exact sz100l (by omega)
    · rw [List.take_add_one, e]
      refine (ta.same (newBut_mono fun b o h1 _ q => ?_)).append (.cons (tv.same (newBut_mono fun b o h1 _ q => ?_)) .nil)
      · rw [upd_ne h1]
        exact s4 _ _ (s _ _ q)
      · rw [upd_ne h1]
        exact q
  · obtain ⟨s0, acc, ea, ta⟩ := h
    rw [← hn, List.take_length] at ta
    exact hd H' acc s0 ea ta
/-! ### while, by the number of its turns -/
def WI (n : Nat) (Pv : Nat → L2.St → Hp → Prop) (m : Nat) (σ : L2.St) (H : Hp) : Prop := ∃ i, m = n - i ∧ i ≤ n ∧ Pv i σ H
def WStep (n : Nat) (Pv : Nat → L2.St → Hp → Prop) (i : Nat) (tb : TS) (D : Ends) (σ : L2.St) (H1 : Hp) : Prop := ∃ N : L2.St → Hp → Prop, (∀ σ' H', N σ' H' → ∃ m', m' < n - i ∧ WI n Pv m' σ' H') ∧ tb { D with nx := N, ct := N, bk := D.nx } σ H1
theorem while_by {c : TT} {tb : TS} {D : Ends} {σ : L2.St} {H : Hp} (n : Nat) (Pv : Nat → L2.St → Hp → Prop) (h0 : Pv 0 σ H) (hs : ∀ i σ H, i ≤ n → Pv i σ H → c σ H fun b H1 => if b = true then WStep n Pv i tb D σ H1 else D.nx σ H1) : tWhile c tb D σ H :=
  ⟨WI n Pv, ⟨n, 0, rfl, Nat.zero_le _, h0⟩, fun m σ H ⟨i, e, hi, p⟩ => by subst e; exact hs i σ H hi p⟩
theorem wstep {n i : Nat} {Pv : Nat → L2.St → Hp → Prop} {tb : TS} {D : Ends} {σ : L2.St} {H1 : Hp} (hi : i < n) (h : tb { D with nx := Pv (i + 1), ct := Pv (i + 1), bk := D.nx } σ H1) : WStep n Pv i tb D σ H1 :=
  ⟨Pv (i + 1), fun _ _ p => ⟨n - (i + 1), by omega, i + 1, rfl, by omega, p⟩, h⟩
end Bk

namespace Bk
open PySem PySem.Spec PyProof.Rows L2
/-! ### defs that are called where no text of a container is being written: repr may be asked there -/
/-- as a def's promise, but only around calls whose guards are none -/
def RunG (P : Program) (w : World) (K : PySem.W.Frag) (mg : Str → Option Value) (base : Heap) (k : Nat) (f : Addr) (fd : FuncData) (ps : List Str) (sp : Sp) : Prop :=
  (∀ vs H Q E, sp vs H Q E → vs.length = ps.length) ∧
  ∀ (A : Around) (outer : List Env) (s : Shared) (H : Hp) (args : Args) (us : List Value) (vs : List V) (Q : VK) (E : XK), A.guards = some [] → Room k A → Env0 P w K mg base A outer s H → BindsTo s fd args (ps.zip us) → Vals vs us → sp vs H Q E →
    codeAny (model P w) A (.call (.ref f) args) (CR CX0 outer P w H s Q E) s
theorem runG_of {P : Program} {w : World} {K : PySem.W.Frag} {mg : Str → Option Value} {base : Heap} {x qual : Str} {st : Stmt} {f : Addr} {fd : FuncData} {N ps : List Str} {k : Nat} {sp : Sp} (F : Fun K x qual st f fd) (S : FnScope N ps (defScope st))
    (len : ∀ vs H Q E, sp vs H Q E → vs.length = ps.length)
    (body : ∀ (cdv : Value) (A : Around) (outer : List Env) (s : Shared) (H : Hp) (vs : List V) (Q : VK) (E : XK), A.guards = some [] → Room k (A.deeper (envOfC qual (defScope st) s.heap.objs.size f cdv)) → sp vs H Q E →
      ∃ t, PSs (cxOf CX0 P w K mg base N qual (defScope st) f cdv A outer s H E).nox (defBody st) t ∧ t { nx := fun _ H' => Q .non H', rt := Q } (L2.start N vs) H) : RunG P w K mg base (k + 1) f fd ps sp := by
  obtain ⟨oc, od, kV, doc, pm, an, cdv, ct, osl, rfl, lk, hcd⟩ := F.ex
  refine ⟨len, fun A outer s H args us vs Q E hA hr e0 hb r hs => ?_⟩
  have up : ∀ b o, base.get? b = some o → s.heap.get? b = some o := fun b o e => (e0.bs b o e).1
  have kin : K.In s.heap := e0.mod.kin.keeps up
  have places : ∀ y ∈ ps.zip us, (defScope st).names.lookup y.1 = some .local ∨ ((defScope st).names.lookup y.1 = some .cell ∧ ((cellsFrom (s.heap.objs.size + 1) (defScope st).names []).lookup y.1).isSome = true) := by
    rintro ⟨n, v⟩ hy
    exact (S.par n (List.of_mem_zip hy).1).elim .inl fun q => .inr ⟨q, PySem.W.cellsFrom_some _ _ _ (.inl q)⟩
  refine codeAny_call_function hr.depth (kin _ _ lk) rfl S.co S.gen rfl (PySem.W.codeRec_of kin hcd) (hb _ _ _ _ (wpAny_newFunctionEnv_cells S.kind places fun env he s1 z => ?_))
  subst he
  refine ⟨(e0.mod.nolimit.keeps up).keeps z.toInCall.keep, codeAny_func ?_⟩
  obtain ⟨t, ht, ht2⟩ := body cdv A outer s H vs Q E hA (hr.deeper _) hs
  have J := inv_start (CX := CX0) (E := E) S hr.hd e0 (len _ _ _ _ hs) r z
  refine wpAny_mono (ht.nox.run [] s1 _ H _ J ht2) (fun fl s' g => ?_) fun _ _ g => g
  cases fl with
  | next =>
    obtain ⟨_, H', J', q⟩ := g
    exact ⟨.non, H', J'.os, J'.bare, J'.base, J'.hok, rfl, q⟩
  | ret u =>
    obtain ⟨v, _, H', J', rv, q⟩ := g
    exact ⟨v, H', J'.os, J'.bare, J'.base, J'.hok, rv, q⟩
  | brk =>
    obtain ⟨_, _, _, q⟩ := g
    exact q.elim
  | cont =>
    obtain ⟨_, _, _, q⟩ := g
    exact q.elim
/-- the law's own call: nothing but the script is tracked -/
theorem law_runG {P : Program} {w : World} {K : PySem.W.Frag} {mg mb : Str → Option Value} {k : Nat} {fa a : Addr} {fd : FuncData} {x : Str} {sp : Sp} {t : Shared} {us : List Value} {ns : List Int} (kin : K.In t.heap) (glob : t.heap.Ns mainGlobals mg) (blt : t.heap.Ns builtinsNs mb)
    (boot : ∀ y : Str, y ≠ "__name__" → mb y = bootBuiltins y) (lim : t.heap.NoLimit) (none_g : t.gens = #[]) (at_a : t.heap.get? a = some { cls := .type "list", data := .seq us.toArray }) (its0 : IntsAre us ns) (few : ns.length ≤ sizeLine) (room : Room k callerA)
    (F : ∀ base : Heap, K.In base → base.Ns mainGlobals mg → RunG P w K mg base k fa fd [x] sp) (binds : ∀ (s : Shared) (u : Value), BindsTo s fd ⟨[u], []⟩ [(x, u)])
    (law : ∀ H : Hp, SqL K H a (ns.map V.int) → sp [.ref a] H (fun v _ => v = .bl true) fun _ _ _ => False) :
    codeAny (model P w) callerA (.call (.ref fa) ⟨[.ref a], []⟩) (fun r s' => r = .ok (.ret (.bool true)) ∧ OldK t.heap s'.heap ∧ s'.os = t.os ∧ AllBare s'.gens) t := by
  have rel0 := vals_ints its0
  have go : ∀ H : Hp, (∀ b o, H b = some o → b = a ∧ K.lookup a = none ∧ ∃ ob ys, o = .frz ob (.lst ys)) → SqL K H a (ns.map V.int) → HOk P w H t.heap →
      codeAny (model P w) callerA (.call (.ref fa) ⟨[.ref a], []⟩) (fun r s' => r = .ok (.ret (.bool true)) ∧ OldK t.heap s'.heap ∧ s'.os = t.os ∧ AllBare s'.gens) t := by
    intro H only seq hok
    have free : ∀ {b : Addr} {o : Obj} {es : Array DictEntry} {n : Nat}, t.heap.get? b = some o → o.data = .dict es n → H b = none := by
      intro b o es n e d
      cases q : H b with
      | none => rfl
      | some z =>
        obtain ⟨rfl, _⟩ := only b z q
        rw [at_a] at e
        cases e
        cases d
    have names : ∀ {b : Addr} {m : Str → Option Value}, t.heap.Ns b m → (hidT t.heap H).Ns b m := by
      rintro b m ⟨o, es, n, e, d, r⟩
      exact ⟨o, es, n, hidT_get e (free e d), d, r⟩
    have kin2 : K.In (hidT t.heap H) := by
      intro b o e
      refine hidT_get (kin b o e) ?_
      cases q : H b with
      | none => rfl
      | some z =>
        obtain ⟨rfl, n, _⟩ := only b z q
        rw [n] at e
        cases e
    obtain ⟨mc, l1, l2⟩ := lim
    have env : Env0 P w K mg (hidT t.heap H) callerA [] t H := by
      refine ⟨rfl, ⟨kin2, names glob, ⟨mb, names blt, boot⟩, ⟨mc, names l1, l2⟩⟩, fun b o e => of_hidT e, Nat.le_of_eq (hidT_size _ _), trivial, fun b hb => ?_, hok, .of_eq none_g⟩
      cases hb
    refine codeAny_mono ((F _ kin2 (names glob)).2 callerA [] t H ⟨[.ref a], []⟩ [.ref a] [.ref a] _ _ rfl room env (binds t (.ref a)) (.cons rfl .nil) (law H seq)) ?_
    intro r s' h
    match r, h with
    | .ok (.ret u), ⟨v, H', os, bare, un, hok', rl, q⟩ =>
      have q : v = .bl true := q
      subst q
      have rl : u = Value.bool true := rl
      subst rl
      refine ⟨rfl, OldK.of_keep fun b o e => ?_, os, bare⟩
      cases z : H b with
      | none => exact un.keep b o e z (fun m => nomatch m) (fun m => nomatch m)
      | some y =>
        obtain ⟨_, _, ob, ys, rfl⟩ := only b y z
        have k1 := (hok b _ z).1
        have k2 := (hok' b _ (un.frzs b ob _ z)).1
        rw [e] at k1
        cases k1
        exact k2
  cases hk : K.lookup a with
  | none =>
    refine go (fun b => if b = a then some (.frz { cls := .type "list", data := .seq us.toArray } (.lst (ns.map V.int))) else none) (fun b o e => ?_) (.inl (.inr ⟨_, if_pos rfl⟩)) (fun b o e => ?_)
    · try dsimp only at e
      split at e
      · rename_i hb
        exact ⟨hb, hk, _, _, (Option.some.inj e).symm⟩
      · cases e
    · try dsimp only at e
      split at e
      · rename_i hb
        subst hb
        cases e
        exact ⟨at_a, by rw [List.length_map]; exact few, us, _, rel0, at_a⟩
      · cases e
  | some o =>
    have e := kin a o hk
    rw [at_a] at e
    cases e
    refine go (fun _ => none) (fun b o e => by cases e) (.inr ⟨_, us.toArray, _, hk, rfl, rfl, rfl, ?_, by simpa using rel0⟩) (fun b o e => by cases e)
    rw [List.size_toArray, its0.length]
    exact few
theorem walk_G {l : PySem.W.OpenLaw} {n k : Nat} {q : Program} {loose : List Str} {XP : (Str → Option Value) → Heap → Prop} {YP : World → Heap → Prop} {d : DefRec} {K : Params → PySem.W.Frag} {sp : World → Sp} {x : Str}
    (most : l.most = some n) (line : n ≤ sizeLine) (nodef : d.params.defaults = []) (room : Room k callerA) (parts : ∀ (w : World) (h : Heap), YP w h → (K w.params).In h)
    (F : ∀ (w : World) (mg : Str → Option Value) (fa : Addr) (h : Heap), (K w.params).In h → h.Ns mainGlobals mg → mg d.name = some (.ref fa) → ∃ fd : FuncData, (∀ (s : Shared) (u : Value), BindsTo s fd ⟨[u], []⟩ [(x, u)]) ∧
        ∀ base : Heap, (K w.params).In base → base.Ns mainGlobals mg → RunG l.prog w (K w.params) mg base k fa fd [x] (sp w))
    (law : ∀ (w : World) (H : Hp) (a : Addr) (ns : List Int), ns.length ≤ n → SqL (K w.params) H a (ns.map V.int) → sp w [.ref a] H (fun v _ => v = .bl true) fun _ _ _ => False) :
    PySem.W.WalkO q loose XP YP l.row.toRowW d [] (fun f vs => PySem.call f vs) := by
  refine Att.attach_call most nodef fun w s0 s1 mg mb fa o pm cd doc a us ns G Y _ _ _ named obj its0 len gens => ?_
  obtain ⟨fd, hb, hF⟩ := F w mg fa _ (parts w _ Y) G.T.g named
  exact law_runG (parts w _ Y) G.T.g G.T.b G.T.builtins G.T.nolimit gens obj its0 (Nat.le_trans len line) room hF hb fun H => law w H a ns len
/-! ### repr of data without dicts -/
mutual
theorem Th.dp {K : PySem.W.Frag} {H : Hp} : ∀ {v : V} {d : PyData}, Th K H v d → d.hasDict = false → Dp K H v d
  | _, _, .non, _ => .non
  | _, _, .bl b, _ => .bl b
  | _, _, .int i, _ => .int i
  | _, _, .str x, _ => .str x
  | _, _, .lst h t, n => .lst h (ThAll.dp t (by simpa only [PyData.hasDict] using n))
  | _, _, .tup h t, n => .tup h (ThAll.dp t (by simpa only [PyData.hasDict] using n))
  | _, _, .dic _, n => by simp only [PyData.hasDict] at n; cases n
theorem ThAll.dp {K : PySem.W.Frag} {H : Hp} : ∀ {vs : List V} {ds : List PyData}, ThAll K H vs ds → PyData.hasDictAll ds = false → DpAll K H vs ds
  | _, _, .nil, _ => .nil
  | _, _, .cons h t, n => by
    simp only [PyData.hasDictAll, Bool.or_eq_false_iff] at n
    exact .cons (Th.dp h n.1) (ThAll.dp t n.2)
end
/-- what may be shown: ints of few figures, not too deep, not too long -/
structure Shows (d : PyData) : Prop where
  nodict : d.hasDict = false
  able : d.showable = true
  deep : d.depth ≤ 60
  short : d.shown.length ≤ sizeLine
def rRepr (K : PySem.W.Frag) : List V → Hp → VK → Prop := fun xs H Q => ∃ x d, xs = [x] ∧ Th K H x d ∧ Shows d ∧ Q (.str d.shown) H
theorem call_repr {X : Cx} (hg : X.A.guards = some []) (hu : X.A.units + 64 < cLine) : CallR X (.builtin "repr") (rRepr X.K) := by
  intro pins s σ H xs us Q I r h
  obtain ⟨x, d, rfl, hx, hd, q⟩ := h
  cases r with
  | cons rx rr =>
  cases rr
  rename_i u
  obtain ⟨as, rd⟩ := Dp.reads I d x u (hx.dp hd.nodict) rx
  have deep := hd.deep
  cases hx with
  | non =>
    cases (show u = Value.none from rx)
    exact PySem.P.repr_of_none ⟨.str (PyData.shown .none), H, I.tok _, ⟨_, rfl⟩, q⟩
  | bl b =>
    cases (show u = Value.bool b from rx)
    exact PySem.P.repr_of_bool ⟨.str (PyData.shown (.bool b)), H, I.tok _, ⟨_, rfl⟩, q⟩
  | int i =>
    obtain ⟨t, rfl⟩ := (show ∃ t, u = Value.int i t from rx)
    have ha : i.natAbs.log2 < 1920 := by
      have := hd.able
      simpa only [PyData.showable, decide_eq_true_eq] using this
    exact PySem.P.repr_of_int ha ⟨.str (PyData.shown (.int i)), H, I.tok _, ⟨_, rfl⟩, q⟩
  | str y =>
    obtain ⟨t, rfl⟩ := (show ∃ t, u = Value.str y t from rx)
    exact PySem.P.repr_of_str ⟨.str (PyData.shown (.str y)), H, I.tok _, ⟨_, rfl⟩, q⟩ hd.short
  | lst h t =>
    rename_i a xs ds
    cases (show u = Value.ref a from rx)
    refine repr_of_reads' rd hd.able (fun z => ?_) hg (by omega) (fun _ _ e => e) (fun h' u tk hk => ⟨.str (PyData.shown (.list ds)), H, I.kept (h' := h') (t' := tk) hk, ⟨_, rfl⟩, q⟩) hd.short
    rw [hd.nodict] at z
    cases z
  | tup h t =>
    rename_i a xs ds
    cases (show u = Value.ref a from rx)
    refine repr_of_reads' rd hd.able (fun z => ?_) hg (by omega) (fun _ _ e => e) (fun h' u tk hk => ⟨.str (PyData.shown (.tuple ds)), H, I.kept (h' := h') (t' := tk) hk, ⟨_, rfl⟩, q⟩) hd.short
    rw [hd.nodict] at z
    cases z
  | dic h =>
    have z := hd.nodict
    simp only [PyData.hasDict] at z
    cases z
theorem rRepr_r {K : PySem.W.Frag} {x : V} {H : Hp} {Q : VK} : rRepr K [x] H Q = ∃ d, Th K H x d ∧ Shows d ∧ Q (.str d.shown) H := propext ⟨fun ⟨y, d, e, h⟩ => by cases e; exact ⟨d, h⟩, fun ⟨d, h⟩ => ⟨x, d, rfl, h⟩⟩
/-! ### data of small numbers -/
mutual
/-- no dict, no text, ints below 10 ** 12 -/
def smB : PyData → Bool
  | .none | .bool _ => true
  | .int i => decide (i.natAbs < 10 ^ 12)
  | .str _ | .dict _ => false
  | .list xs | .tuple xs => smAll xs
def smAll : List PyData → Bool
  | [] => true
  | x :: xs => smB x && smAll xs
end
theorem log12 {n : Nat} (h : n < 10 ^ 12) : n.log2 < 40 := by
  by_cases h0 : n = 0
  · subst h0
    decide
  · exact (Nat.log2_lt h0).mpr (Nat.lt_of_lt_of_le h (by decide))
mutual
theorem sm_facts : ∀ d : PyData, smB d = true → d.hasDict = false ∧ d.showable = true ∧ d.leavesShort 13 = true
  | .none, _ => by simp only [PyData.hasDict, PyData.showable, PyData.leavesShort, and_self]
  | .bool _, _ => by simp only [PyData.hasDict, PyData.showable, PyData.leavesShort, and_self]
  | .int i, h => by
    have h : i.natAbs < 10 ^ 12 := by simpa only [smB, decide_eq_true_eq] using h
    have h1 := log12 h
    have h2 := PyData.shown_int_le h
    simp only [PyData.hasDict, PyData.showable, PyData.leavesShort, decide_eq_true_eq, true_and]
    exact ⟨by omega, h2⟩
  | .str _, h => by simp only [smB] at h; cases h
  | .dict _, h => by simp only [smB] at h; cases h
  | .list xs, h => by
    have h1 := smAll_facts xs (by simpa only [smB] using h)
    simpa only [PyData.hasDict, PyData.showable, PyData.leavesShort] using h1
  | .tuple xs, h => by
    have h1 := smAll_facts xs (by simpa only [smB] using h)
    simpa only [PyData.hasDict, PyData.showable, PyData.leavesShort] using h1
theorem smAll_facts : ∀ ds : List PyData, smAll ds = true → PyData.hasDictAll ds = false ∧ PyData.showableAll ds = true ∧ PyData.leavesShortAll 13 ds = true
  | [], _ => by simp only [PyData.hasDictAll, PyData.showableAll, PyData.leavesShortAll, and_self]
  | x :: xs, h => by
    have h : smB x = true ∧ smAll xs = true := by simpa only [smAll, Bool.and_eq_true] using h
    obtain ⟨a1, a2, a3⟩ := sm_facts x h.1
    obtain ⟨b1, b2, b3⟩ := smAll_facts xs h.2
    simp only [PyData.hasDictAll, PyData.showableAll, PyData.leavesShortAll, a1, a2, a3, b1, b2, b3, Bool.or_self, Bool.and_self, and_self]
end
theorem smAll_of {ds : List PyData} (h : ∀ d ∈ ds, smB d = true) : smAll ds = true := by
  induction ds with
  | nil => simp only [smAll]
  | cons x r ih =>
    simp only [smAll, h x List.mem_cons_self, ih fun d hd => h d (List.mem_cons_of_mem _ hd), Bool.and_self]
theorem weightAll_le {c : Nat} {ds : List PyData} (h : ∀ d ∈ ds, d.weight ≤ c) : PyData.weightAll ds ≤ ds.length * (c + 1) := by
  induction ds with
  | nil => simp only [PyData.weightAll, List.length_nil, Nat.zero_mul, Nat.le_refl]
  | cons x r ih =>
    have h1 := h x List.mem_cons_self
    have h2 := ih fun d hd => h d (List.mem_cons_of_mem _ hd)
    simp only [PyData.weightAll, List.length_cons, Nat.add_mul, Nat.one_mul]
    omega
theorem depthAll_le {c : Nat} {ds : List PyData} (h : ∀ d ∈ ds, d.depth ≤ c) : PyData.depthAll ds ≤ c := by
  induction ds with
  | nil => simp only [PyData.depthAll, Nat.zero_le]
  | cons x r ih =>
    have h1 := h x List.mem_cons_self
    have h2 := ih fun d hd => h d (List.mem_cons_of_mem _ hd)
    simp only [PyData.depthAll]
    omega
theorem shows_of {d : PyData} (h : smB d = true) (hw : d.weight ≤ 1000000) (hd : d.depth ≤ 60) : Shows d := by
  obtain ⟨a, b, c⟩ := sm_facts d h
  exact ⟨a, b, hd, PyData.shown_fits (by decide) (by decide) c (Nat.le_trans hw (by decide))⟩
theorem numD_sm {i : Int} (h : numD (.int i) = true) : i.natAbs < 10 ^ 12 := by
  simp only [numD, Bool.and_eq_true, decide_eq_true_eq] at h
  have : i.natAbs ≤ 1000000000 := by omega
  exact Nat.lt_of_le_of_lt this (by decide)
theorem weight_int {i : Int} (h : i.natAbs < 10 ^ 12) : (PyData.int i).weight ≤ 40 := by
  have := log12 h
  simp only [PyData.weight]
  split <;> omega
theorem opt_small {o : Option Int} (h : noneB (optD o) = true ∨ ∀ i, o = some i → i.natAbs < 10 ^ 12) : smB (optD o) = true ∧ (optD o).weight ≤ 40 ∧ (optD o).depth = 0 := by
  cases o with
  | none => exact ⟨by simp only [optD, smB], by simp only [optD, PyData.weight]; omega, by simp only [optD, PyData.depth]⟩
  | some i =>
    have h : i.natAbs < 10 ^ 12 := by
      rcases h with h | h
      · cases h
      · exact h i rfl
    exact ⟨by simp only [optD, smB, decide_eq_true_eq]; exact h, weight_int h, by simp only [optD, PyData.depth]⟩
theorem day_small {d : Day} (h : dayB (dayD d) = true) : smB (dayD d) = true ∧ (dayD d).weight ≤ 200 ∧ (dayD d).depth ≤ 1 := by
  simp only [dayD, dayB, Bool.and_eq_true] at h
  obtain ⟨⟨⟨h1, h2⟩, h3⟩, h4⟩ := h
  have n1 := numD_sm h1
  have n2 := numD_sm h2
  have n3 := numD_sm h3
  have o := opt_small (o := d.fine) (by
    rcases Bool.or_eq_true_iff.mp h4 with z | z
    · exact .inl z
    · exact .inr fun i e => by rw [e] at z; exact numD_sm z)
  have w1 := weight_int n1
  have w2 := weight_int n2
  have w3 := weight_int n3
  refine ⟨?_, ?_, ?_⟩
  · simp only [dayD, smB, smAll, n1, n2, n3, decide_true, Bool.and_self, Bool.true_and, Bool.and_true]
    exact o.1
  · have o2 := o.2.1
    simp only [dayD, PyData.weight, PyData.weightAll] at w1 w2 w3 o2 ⊢
    omega
  · have o3 := o.2.2
    simp only [dayD, PyData.depth, PyData.depthAll, o3]
    decide
theorem bak_parts {b : Bak} (h : bakB (bakD b) = true) : (1 ≤ b.lights.length ∧ b.lights.length ≤ 40) ∧ (∀ z ∈ b.lights, numD (.int z) = true) ∧ boundB (optD b.bound) = true ∧ (1 ≤ b.goods.length ∧ b.goods.length ≤ 2) ∧
    ∀ g ∈ b.goods, g.days.length = b.lights.length ∧ lifeB (optD g.life) = true ∧ ∀ d ∈ g.days, dayB (dayD d) = true := by
  obtain ⟨ls, bo, gs, e, h1, h2, h3, h4⟩ := bakB_inv h
  unfold bakD at e
  injection e with e
  injection e with e1 e
  injection e with e2 e
  injection e with e3 e
  injection e1 with e1
  injection e3 with e3
  subst e1 e2 e3
  have l1 := Bool.and_eq_true_iff.mp h1
  have l2 := Bool.and_eq_true_iff.mp l1.1
  have l3 := Bool.and_eq_true_iff.mp h3
  have a1 := of_decide_eq_true l2.1
  have a2 := of_decide_eq_true l2.2
  have a3 := of_decide_eq_true l3.1
  have a4 := of_decide_eq_true l3.2
  rw [List.length_map] at a1 a2 a3 a4
  refine ⟨⟨a1, a2⟩, fun z hz => List.all_eq_true.mp l1.2 _ (List.mem_map.mpr ⟨z, hz, rfl⟩), h2, ⟨a3, a4⟩, fun g hg => ?_⟩
  have h5 := List.all_eq_true.mp h4 (goodD g) (List.mem_map.mpr ⟨g, hg, rfl⟩)
  obtain ⟨ds, l, e4, e5, e6, e7⟩ := goodB_inv h5
  unfold goodD at e4
  injection e4 with e4
  injection e4 with e4 e8
  injection e8 with e8 _
  injection e4 with e4
  subst e4 e8
  rw [List.length_map, List.length_map] at e5
  exact ⟨e5, e6, fun d hd => List.all_eq_true.mp e7 _ (List.mem_map.mpr ⟨d, hd, rfl⟩)⟩
theorem good_small {g : Good} {n : Nat} (h : g.days.length = n) (hn : n ≤ 40) (hl : lifeB (optD g.life) = true) (hd : ∀ d ∈ g.days, dayB (dayD d) = true) : smB (goodD g) = true ∧ (goodD g).weight ≤ 9000 ∧ (goodD g).depth ≤ 3 := by
  have o := opt_small (o := g.life) (by
    cases e : g.life with
    | none => exact .inl rfl
    | some i =>
      refine .inr fun j ej => ?_
      rw [e] at hl
      simp only [optD, lifeB, Bool.and_eq_true, decide_eq_true_eq] at hl
      cases ej
      exact Nat.lt_of_le_of_lt (show i.natAbs ≤ 40 by omega) (by decide))
  have hm : ∀ x ∈ g.days.map dayD, smB x = true ∧ x.weight ≤ 200 ∧ x.depth ≤ 1 := fun x hx => by
    obtain ⟨d, h1, rfl⟩ := List.mem_map.mp hx
    exact day_small (hd d h1)
  have w := weightAll_le (c := 200) fun x hx => (hm x hx).2.1
  have dp := depthAll_le (c := 1) fun x hx => (hm x hx).2.2
  rw [List.length_map, h] at w
  refine ⟨?_, ?_, ?_⟩
  · simp only [goodD, smB, smAll, smAll_of fun x hx => (hm x hx).1, o.1, Bool.and_self]
  · have o2 := o.2.1
    have w2 : n * 201 ≤ 40 * 201 := Nat.mul_le_mul_right _ hn
    simp only [goodD, PyData.weight, PyData.weightAll] at o2 ⊢
    omega
  · have o3 := o.2.2
    simp only [goodD, PyData.depth, PyData.depthAll, o3]
    omega
theorem shows_bak {b : Bak} (h : bakB (bakD b) = true) : Shows (bakD b) := by
  obtain ⟨⟨_, h1⟩, h2, h3, ⟨_, h4⟩, h5⟩ := bak_parts h
  have o := opt_small (o := b.bound) (by
    cases e : b.bound with
    | none => exact .inl rfl
    | some i =>
      refine .inr fun j ej => ?_
      rw [e] at h3
      simp only [optD, boundB, Bool.and_eq_true] at h3
      cases ej
      exact numD_sm h3.1)
  have hm : ∀ x ∈ b.goods.map goodD, smB x = true ∧ x.weight ≤ 9000 ∧ x.depth ≤ 3 := fun x hx => by
    obtain ⟨g, hg, rfl⟩ := List.mem_map.mp hx
    obtain ⟨g1, g2, g3⟩ := h5 g hg
    exact good_small g1 h1 g2 g3
  have hl : ∀ x ∈ b.lights.map PyData.int, smB x = true ∧ x.weight ≤ 40 ∧ x.depth ≤ 0 := fun x hx => by
    obtain ⟨z, hz, rfl⟩ := List.mem_map.mp hx
    have n := numD_sm (h2 z hz)
    exact ⟨by simp only [smB, decide_eq_true_eq]; exact n, weight_int n, by simp only [PyData.depth, Nat.le_refl]⟩
  have w1 := weightAll_le (c := 40) fun x hx => (hl x hx).2.1
  have w2 := weightAll_le (c := 9000) fun x hx => (hm x hx).2.1
  have d1 := depthAll_le (c := 0) fun x hx => (hl x hx).2.2
  have d2 := depthAll_le (c := 3) fun x hx => (hm x hx).2.2
  rw [List.length_map] at w1 w2
  have w3 : b.lights.length * 41 ≤ 40 * 41 := Nat.mul_le_mul_right _ h1
  have w4 : b.goods.length * 9001 ≤ 2 * 9001 := Nat.mul_le_mul_right _ h4
  refine shows_of ?_ ?_ ?_
  · simp only [bakD, smB, smAll, smAll_of fun x hx => (hl x hx).1, smAll_of fun x hx => (hm x hx).1, o.1, Bool.and_self]
  · have o2 := o.2.1
    simp only [bakD, PyData.weight, PyData.weightAll] at o2 ⊢
    omega
  · have o3 := o.2.2
    simp only [bakD, PyData.depth, PyData.depthAll, o3]
    omega
end Bk

namespace Bk
open PySem PySem.Spec PyProof.Rows L2
/-! ### prices of loaves that cross -/
theorem sumO_append : ∀ {l m : List (Option Int)} {z : Int}, sumO (l ++ m) = some z → ∃ x y, sumO l = some x ∧ sumO m = some y ∧ x + y = z
  | [], m, z, h => ⟨0, z, rfl, h, Int.zero_add z⟩
  | none :: l, m, z, h => by cases h
  | some a :: l, m, z, h => by
    have h : (sumO (l ++ m)).map (a + ·) = some z := h
    cases e : sumO (l ++ m) with
    | none => rw [e] at h; cases h
    | some b =>
      rw [e] at h
      have h : a + b = z := Option.some.inj h
      obtain ⟨x, y, h1, h2, h3⟩ := sumO_append e
      refine ⟨a + x, y, ?_, h2, by omega⟩
      show (sumO l).map (a + ·) = some (a + x)
      rw [h1]
      rfl
theorem sumO_nonneg : ∀ {l : List (Option Int)} {z : Int}, (∀ o ∈ l, ∀ i, o = some i → 0 ≤ i) → sumO l = some z → 0 ≤ z
  | [], z, _, h => by
    have h : (0 : Int) = z := Option.some.inj h
    omega
  | none :: l, z, _, h => by cases h
  | some a :: l, z, hn, h => by
    have h : (sumO l).map (a + ·) = some z := h
    cases e : sumO l with
    | none => rw [e] at h; cases h
    | some b =>
      rw [e] at h
      have h : a + b = z := Option.some.inj h
      have h1 := sumO_nonneg (fun o ho => hn o (List.mem_cons_of_mem _ ho)) e
      have h2 := hn _ List.mem_cons_self a rfl
      omega
theorem seg_split {α : Type} (l : List α) {i j k : Nat} (h1 : i ≤ j) (h2 : j ≤ k) : (l.drop i).take (k - i) = (l.drop i).take (j - i) ++ (l.drop j).take (k - j) := by
  have e : k - i = (j - i) + (k - j) := by omega
  rw [e, List.take_add, List.drop_drop]
  congr 3
  omega
theorem sum_nonneg' : ∀ {l : List Int}, (∀ x ∈ l, 0 ≤ x) → 0 ≤ l.sum
  | [], _ => by decide
  | a :: r, h => by
    rw [List.sum_cons]
    have h1 := h a List.mem_cons_self
    have h2 := sum_nonneg' fun x hx => h x (List.mem_cons_of_mem _ hx)
    omega
theorem sum_append' : ∀ (l m : List Int), (l ++ m).sum = l.sum + m.sum
  | [], m => by rw [List.nil_append, List.sum_nil]; omega
  | a :: r, m => by rw [List.cons_append, List.sum_cons, List.sum_cons, sum_append' r m]; omega
theorem keepsL_split (ds : List Day) {i j k : Nat} (h1 : i ≤ j) (h2 : j ≤ k) : keepsL ds i k = keepsL ds i j + keepsL ds j k := by
  unfold keepsL
  rw [seg_split ds h1 h2, List.map_append, sum_append']
theorem finesL_split {ds : List Day} {i j k : Nat} {z : Int} (h1 : i ≤ j) (h2 : j ≤ k) (h : finesL ds i k = some z) : ∃ x y, finesL ds i j = some x ∧ finesL ds j k = some y ∧ x + y = z := by
  unfold finesL at h
  rw [seg_split ds h1 h2, List.map_append] at h
  exact sumO_append h
/-- keeps and fines are no less than 0 -/
structure NonNeg (ds : List Day) : Prop where
  keep : ∀ d ∈ ds, 0 ≤ d.keep
  fine : ∀ d ∈ ds, ∀ i, d.fine = some i → 0 ≤ i
theorem seg_mem {α : Type} {l : List α} {i n : Nat} {x : α} (h : x ∈ (l.drop i).take n) : x ∈ l := List.mem_of_mem_drop (List.mem_of_mem_take h)
theorem keepsL_nonneg {ds : List Day} (N : NonNeg ds) (i j : Nat) : 0 ≤ keepsL ds i j := sum_nonneg' fun x hx => by
  obtain ⟨d, hd, rfl⟩ := List.mem_map.mp hx
  exact N.keep d (seg_mem hd)
theorem finesL_nonneg {ds : List Day} (N : NonNeg ds) {i j : Nat} {z : Int} (h : finesL ds i j = some z) : 0 ≤ z := sumO_nonneg (fun o ho i e => by
  obtain ⟨d, hd, rfl⟩ := List.mem_map.mp ho
  exact N.fine d (seg_mem hd) i e) h
/-- what comes to the loaf price -/
def extP (g : Good) (j k : Nat) : Option Int := if k < j then finesL g.days k j else match g.life with
  | none => some (keepsL g.days j k)
  | some l => if l < (k : Int) - (j : Int) then none else some (keepsL g.days j k)
theorem loafP_ext {g : Good} {j k : Nat} {d : Day} (hd : g.days[j]? = some d) : loafP g j k = (extP g j k).map (d.loaf + ·) := by
  unfold loafP extP
  rw [hd]
  dsimp only
  by_cases h : k < j
  · rw [if_pos h, if_pos h]
  · rw [if_neg h, if_neg h]
    cases g.life with
    | none => rfl
    | some l =>
      dsimp only
      by_cases h2 : l < (k : Int) - (j : Int)
      · rw [if_pos h2, if_pos h2]
        rfl
      · rw [if_neg h2, if_neg h2]
        rfl
theorem ext_keep {g : Good} {j k : Nat} (h : j ≤ k) {z : Int} : extP g j k = some z ↔ (∀ l, g.life = some l → (k : Int) - (j : Int) ≤ l) ∧ keepsL g.days j k = z := by
  unfold extP
  rw [if_neg (by omega)]
  cases hl : g.life with
  | none => exact ⟨fun e => ⟨fun l h => (by cases h), Option.some.inj e⟩, fun e => by rw [e.2]⟩
  | some l =>
    dsimp only
    by_cases h2 : l < (k : Int) - (j : Int)
    · rw [if_pos h2]
      exact ⟨fun e => (by cases e), fun e => by have := e.1 l rfl; omega⟩
    · rw [if_neg h2]
      exact ⟨fun e => ⟨fun l' h' => (by cases h'; omega), Option.some.inj e⟩, fun e => by rw [e.2]⟩
theorem ext_fine {g : Good} {j k : Nat} (h : k < j) {z : Int} : extP g j k = some z ↔ finesL g.days k j = some z := by
  unfold extP
  rw [if_pos h]
theorem ext_cross {g : Good} (N : NonNeg g.days) {a c e l : Nat} (hac : a < c) (hel : e < l) {x y : Int} (h1 : extP g a l = some x) (h2 : extP g c e = some y) : ∃ z t, extP g a e = some z ∧ extP g c l = some t ∧ z + t ≤ x + y := by
  by_cases hal : a ≤ l
  · obtain ⟨hlf, hk1⟩ := (ext_keep hal).mp h1
    by_cases hce : c ≤ e
    · -- all ahead
      obtain ⟨_, hk2⟩ := (ext_keep hce).mp h2
      refine ⟨_, _, (ext_keep (by omega)).mpr ⟨fun m hm => by have := hlf m hm; omega, rfl⟩, (ext_keep (by omega)).mpr ⟨fun m hm => by have := hlf m hm; omega, rfl⟩, ?_⟩
      have e1 := keepsL_split g.days (show a ≤ c by omega) hce
      have e2 := keepsL_split g.days (show a ≤ c by omega) (show c ≤ l by omega)
      omega
    · have hf := (ext_fine (show e < c by omega)).mp h2
      by_cases hae : a ≤ e
      · by_cases hcl : c ≤ l
        · refine ⟨_, _, (ext_keep hae).mpr ⟨fun m hm => by have := hlf m hm; omega, rfl⟩, (ext_keep hcl).mpr ⟨fun m hm => by have := hlf m hm; omega, rfl⟩, ?_⟩
          have e1 := keepsL_split g.days hae (show e ≤ l by omega)
          have e2 := keepsL_split g.days (show e ≤ c by omega) hcl
          have n1 := keepsL_nonneg N e c
          have n2 := finesL_nonneg N hf
          omega
        · obtain ⟨u, v, f1, f2, f3⟩ := finesL_split (show e ≤ l by omega) (show l ≤ c by omega) hf
          refine ⟨_, _, (ext_keep hae).mpr ⟨fun m hm => by have := hlf m hm; omega, rfl⟩, (ext_fine (by omega)).mpr f2, ?_⟩
          have e1 := keepsL_split g.days hae (show e ≤ l by omega)
          have n1 := keepsL_nonneg N e l
          have n2 := finesL_nonneg N f1
          omega
      · obtain ⟨u, v, f1, f2, f3⟩ := finesL_split (show e ≤ a by omega) (show a ≤ c by omega) hf
        by_cases hcl : c ≤ l
        · refine ⟨_, _, (ext_fine (by omega)).mpr f1, (ext_keep hcl).mpr ⟨fun m hm => by have := hlf m hm; omega, rfl⟩, ?_⟩
          have e1 := keepsL_split g.days (show a ≤ c by omega) hcl
          have n1 := keepsL_nonneg N a c
          have n2 := finesL_nonneg N f2
          omega
        · obtain ⟨u2, v2, k1, k2, k3⟩ := finesL_split (show e ≤ l by omega) (show l ≤ c by omega) hf
          obtain ⟨u3, v3, m1, m2, m3⟩ := finesL_split (show e ≤ a by omega) hal k1
          have e3 : u = u3 := Option.some.inj (f1.symm.trans m1)
          refine ⟨_, _, (ext_fine (by omega)).mpr f1, (ext_fine (by omega)).mpr k2, ?_⟩
          have n1 := keepsL_nonneg N a l
          have n2 := finesL_nonneg N m2
          omega
  · have hf1 := (ext_fine (show l < a by omega)).mp h1
    have hf2 := (ext_fine (show e < c by omega)).mp h2
    obtain ⟨u, v, f1, f2, f3⟩ := finesL_split (show e ≤ a by omega) (show a ≤ c by omega) hf2
    obtain ⟨u2, v2, k1, k2, k3⟩ := finesL_split (show e ≤ l by omega) (show l ≤ c by omega) hf2
    obtain ⟨u3, v3, m1, m2, m3⟩ := finesL_split (show e ≤ l by omega) (show l ≤ a by omega) f1
    refine ⟨_, _, (ext_fine (by omega)).mpr f1, (ext_fine (by omega)).mpr k2, ?_⟩
    have e1 : u2 = u3 := Option.some.inj (k1.symm.trans m1)
    have e2 : v3 = x := Option.some.inj (m2.symm.trans hf1)
    omega
theorem loaf_cross {g : Good} (N : NonNeg g.days) {a c e l : Nat} (hac : a < c) (hel : e < l) (hc : c < g.days.length) {x y : Int} (h1 : loafP g a l = some x) (h2 : loafP g c e = some y) : ∃ z t, loafP g a e = some z ∧ loafP g c l = some t ∧ z + t ≤ x + y := by
  have da : g.days[a]? = some (g.days[a]'(by omega)) := List.getElem?_eq_getElem (by omega)
  have dc : g.days[c]? = some g.days[c] := List.getElem?_eq_getElem hc
  rw [loafP_ext da] at h1
  rw [loafP_ext dc] at h2
  cases e1 : extP g a l with
  | none => rw [e1] at h1; cases h1
  | some x' =>
    cases e2 : extP g c e with
    | none => rw [e2] at h2; cases h2
    | some y' =>
      rw [e1] at h1
      rw [e2] at h2
      have h1 := Option.some.inj h1
      have h2 := Option.some.inj h2
      obtain ⟨z, t, q1, q2, q3⟩ := ext_cross N hac hel e1 e2
      refine ⟨_, _, by rw [loafP_ext da, q1]; rfl, by rw [loafP_ext dc, q2]; rfl, ?_⟩
      dsimp only at h1 h2 ⊢
      omega
theorem bak_nonneg {b : Bak} {g : Good} {i : Nat} (h : bakB (bakD b) = true) (hg : b.goods[i]? = some g) : NonNeg g.days := by
  obtain ⟨ls, bo, gs, e, h1, h2, h3, h4⟩ := bakB_inv h
  unfold bakD at e
  injection e with e
  injection e with e1 e
  injection e with e2 e
  injection e with e3 e
  injection e3 with e3
  subst e3
  have h5 := List.all_eq_true.mp h4 (goodD g) (List.mem_map.mpr ⟨g, List.mem_of_getElem? hg, rfl⟩)
  obtain ⟨ds, l, e4, e5, _, h6⟩ := goodB_inv h5
  unfold goodD at e4
  injection e4 with e4
  injection e4 with e4 _
  injection e4 with e4
  subst e4
  have key : ∀ d ∈ g.days, dayB (dayD d) = true := fun d hd => List.all_eq_true.mp h6 (dayD d) (List.mem_map.mpr ⟨d, hd, rfl⟩)
  have nn : ∀ i, numD (.int i) = true → 0 ≤ i := fun i h => of_decide_eq_true (Bool.and_eq_true_iff.mp h).1
  refine ⟨fun d hd => ?_, fun d hd i e => ?_⟩
  · have k := key d hd
    simp only [dayD, dayB, Bool.and_eq_true] at k
    exact nn _ k.1.2
  · have k := key d hd
    simp only [dayD, dayB, Bool.and_eq_true, e, optD, noneB, Bool.false_or] at k
    exact nn _ k.2
theorem rNin_r {K : PySem.W.Frag} {x : V} {p : Addr} {H : Hp} {Q : VK} : rIn K true x (.ref p) H Q = ∃ xs, (SqL K H p xs ∨ SqT K H p xs) ∧ flatV x = true ∧ xs.all flatV = true ∧ Q (.bl (!inV x xs)) H :=
  propext ⟨fun ⟨_, xs, e, h⟩ => by cases e; exact ⟨xs, h⟩, fun ⟨xs, h⟩ => ⟨p, xs, rfl, h⟩⟩
end Bk

namespace Bk
open PySem PySem.Spec PyProof.Rows L2
/-! ### ranges as values -/
def rRg1 : List V → Hp → VK → Prop := fun vs H Q => ∃ j, vs = [V.int j] ∧ ∀ p, H p = none → Q (.ref p) (upd H p (.rng 0 j))
def rRg2 : List V → Hp → VK → Prop := fun vs H Q => ∃ i j, vs = [V.int i, V.int j] ∧ ∀ p, H p = none → Q (.ref p) (upd H p (.rng i j))
theorem cr_rng2 {X : Cx} : CallR X (.type "range") rRg2 := cr_range2
theorem cr_rng1 {X : Cx} : CallR X (.type "range") rRg1 := fun pins s σ H vs us Q I r h => by
  obtain ⟨j, rfl, q⟩ := h
  obtain ⟨u, rfl, rj⟩ := vals1 r
  obtain ⟨t, rfl⟩ := rj
  exact call_range_1 ⟨.ref s.heap.objs.size, upd H s.heap.objs.size (.rng 0 j), I.laid (fun b o e => Heap.get?_push_of_some _ e) (Nat.le_refl _) (show ObjOk X.prog X.w _ _ _ (.rng 0 j) from ⟨_, _, _, Heap.get?_push_size _ rfl⟩), rfl, q _ (I.hok.fresh (Nat.le_refl _))⟩
theorem rRg1_i {j : Int} {H : Hp} {Q : VK} : rRg1 [.int j] H Q = ∀ p, H p = none → Q (.ref p) (upd H p (.rng 0 j)) := propext ⟨fun ⟨_, e, h⟩ => by cases e; exact h, fun h => ⟨j, rfl, h⟩⟩
theorem rRg2_i {i j : Int} {H : Hp} {Q : VK} : rRg2 [.int i, .int j] H Q = ∀ p, H p = none → Q (.ref p) (upd H p (.rng i j)) := propext ⟨fun ⟨_, _, e, h⟩ => by cases e; exact h, fun h => ⟨i, j, rfl, h⟩⟩
def rInr : R2 := fun x y H Q => ∃ i a lo hi, x = V.int i ∧ y = V.ref a ∧ H a = some (.rng lo hi) ∧ Q (.bl (decide (lo ≤ i ∧ i < hi))) H
theorem op_inr {X : Cx} : OpR X (compareOp .In) rInr := op_in_rng
theorem rInr_r {i : Int} {a : Addr} {H : Hp} {Q : VK} : rInr (.int i) (.ref a) H Q = ∃ lo hi, H a = some (.rng lo hi) ∧ Q (.bl (decide (lo ≤ i ∧ i < hi))) H := propext ⟨fun ⟨_, _, lo, hi, e1, e2, h⟩ => by cases e1; cases e2; exact ⟨lo, hi, h⟩, fun ⟨lo, hi, h⟩ => ⟨i, a, lo, hi, rfl, rfl, h⟩⟩
theorem ipI_ii {f : Int → Int → Int} {i j : Int} {H : Hp} {Q : VK} : ipI f (.int i) (.int j) H Q = Q (.int (f i j)) H := propext ⟨fun ⟨_, _, e1, e2, h⟩ => by cases e1; cases e2; exact h, fun h => ⟨i, j, rfl, rfl, h⟩⟩
theorem lay_ints : ∀ ns : List Int, PyData.canLayAll0 (ns.map PyData.int) = true
  | [] => by simp only [List.map, PyData.canLayAll0]
  | n :: r => by simp only [List.map, PyData.canLayAll0, PyData.canLay0, lay_ints r, Bool.and_self]
theorem depth_ints : ∀ ns : List Int, PyData.depthAll (ns.map PyData.int) = 0
  | [] => by simp only [List.map, PyData.depthAll]
  | n :: r => by simp only [List.map, PyData.depthAll, PyData.depth, depth_ints r]; decide
theorem shaped_ints (ns : List Int) : SeqAt.shaped (.list (ns.map PyData.int)) = true := by
  simp only [SeqAt.shaped, PyData.canLay0, lay_ints, PyData.depth, depth_ints, Bool.true_and]
  decide
theorem dp_ints {K : PySem.W.Frag} {H : Hp} : ∀ ns : List Int, DpAll K H (ns.map V.int) (ns.map PyData.int)
  | [] => .nil
  | n :: r => .cons (.int n) (dp_ints r)
/-- == of two lists of the same ints -/
theorem eq_ints {K : PySem.W.Frag} {H : Hp} {a b : Addr} {ns : List Int} {Q : VK} (h1 : SqL K H a (ns.map V.int)) (h2 : SqL K H b (ns.map V.int)) (q : Q (.bl true) H) : rEqD K (.ref a) (.ref b) H Q := by
  refine ⟨_, _, .lst h1 (dp_ints ns), .lst h2 (dp_ints ns), shaped_ints ns, shaped_ints ns, ?_⟩
  rw [SeqAt.eqv_refl _ (by simp only [PyData.canLay0, lay_ints])]
  exact q
/-! ### prices of stretches, and reaches -/
def wantP (g : Good) (j k : Nat) : Option Int := match g.days[k]? with
  | none => none
  | some d => if d.want = 0 then some 0 else (loafP g j k).map (d.want * ·)
def stretchP (g : Good) (j f n : Nat) : Option Int := sumO ((List.range n).map fun i => wantP g j (f + i))
theorem stretchP_zero (g : Good) (j f : Nat) : stretchP g j f 0 = some 0 := rfl
theorem sumO_snoc (l : List (Option Int)) (o : Option Int) : sumO (l ++ [o]) = match sumO l, o with
    | some x, some y => some (x + y)
    | _, _ => none := by
  induction l with
  | nil =>
    cases o with
    | none => rfl
    | some y =>
      show some (y + 0) = some (0 + y)
      rw [Int.add_zero, Int.zero_add]
  | cons a r ih =>
    cases a with
    | none => rfl
    | some a =>
      show (sumO (r ++ [o])).map (a + ·) = _
      rw [ih]
      show _ = match (sumO r).map (a + ·), o with
        | some x, some y => some (x + y)
        | _, _ => none
      cases sumO r with
      | none => rfl
      | some x =>
        cases o with
        | none => rfl
        | some y =>
          show some (a + (x + y)) = some (a + x + y)
          rw [Int.add_assoc]
theorem stretchP_succ (g : Good) (j f n : Nat) : stretchP g j f (n + 1) = match stretchP g j f n, wantP g j (f + n) with
    | some x, some y => some (x + y)
    | _, _ => none := by
  unfold stretchP
  rw [List.range_succ, List.map_append]
  exact sumO_snoc _ _
def reachF (g : Good) (k : Nat) : Int := match g.life with
  | none => 0
  | some l => if (k : Int) - l > 0 then (k : Int) - l else 0
/-- last is the last day of the reach -/
structure ReachL (g : Good) (k last : Nat) : Prop where
  le : k ≤ last
  lt : last < g.days.length
  fine : ∃ z, finesL g.days k last = some z
  stop : last + 1 < g.days.length → ∃ d, g.days[last]? = some d ∧ d.fine = none
theorem reach_iff {g : Good} {k last : Nat} (R : ReachL g k last) (hl : ∀ l, g.life = some l → 0 ≤ l) {j : Nat} (hj : j < g.days.length) : loafP g j k ≠ none ↔ reachF g k ≤ (j : Int) ∧ j ≤ last := by
  have dj : g.days[j]? = some g.days[j] := List.getElem?_eq_getElem hj
  rw [loafP_ext dj]
  have e0 : (extP g j k).map (g.days[j].loaf + ·) ≠ none ↔ ∃ z, extP g j k = some z := by
    cases extP g j k with
    | none => exact ⟨fun h => absurd rfl h, fun ⟨z, h⟩ => by cases h⟩
    | some z => exact ⟨fun _ => ⟨z, rfl⟩, fun _ h => by cases h⟩
  rw [e0]
  by_cases hkj : k < j
  · have hF : reachF g k ≤ (j : Int) := by
      unfold reachF
      cases e : g.life with
      | none =>
        dsimp only
        omega
      | some l =>
        have := hl l e
        dsimp only
        split <;> omega
    constructor
    · rintro ⟨z, h⟩
      refine ⟨hF, ?_⟩
      by_cases hle : j ≤ last
      · exact hle
      · exfalso
        obtain ⟨d, hd, hn⟩ := R.stop (by omega)
        have hf := (ext_fine hkj).mp h
        obtain ⟨u, v, _, f2, _⟩ := finesL_split R.le (show last ≤ j by omega) hf
        obtain ⟨u2, v2, f3, _, _⟩ := finesL_split (show last ≤ last + 1 by omega) (show last + 1 ≤ j by omega) f2
        unfold finesL at f3
        rw [show last + 1 - last = 1 by omega] at f3
        obtain ⟨hlt, e⟩ := List.getElem?_eq_some_iff.mp hd
        rw [List.drop_eq_getElem_cons hlt, e] at f3
        have f3 : sumO [d.fine] = some u2 := f3
        rw [hn] at f3
        cases f3
    · rintro ⟨_, hle⟩
      obtain ⟨z, hz⟩ := R.fine
      obtain ⟨u, v, f1, _, _⟩ := finesL_split (show k ≤ j by omega) hle hz
      exact ⟨u, (ext_fine hkj).mpr f1⟩
  · have hjl : j ≤ last := by have := R.le; omega
    constructor
    · rintro ⟨z, h⟩
      refine ⟨?_, hjl⟩
      obtain ⟨h1, _⟩ := (ext_keep (show j ≤ k by omega)).mp h
      unfold reachF
      cases e : g.life with
      | none =>
        dsimp only
        omega
      | some l =>
        have := h1 l e
        dsimp only
        split <;> omega
    · rintro ⟨h1, _⟩
      refine ⟨_, (ext_keep (show j ≤ k by omega)).mpr ⟨fun l e => ?_, rfl⟩⟩
      unfold reachF at h1
      rw [e] at h1
      have := hl l e
      dsimp only at h1
      split at h1 <;> omega
theorem sumO_join' : ∀ {l m : List (Option Int)} {x y : Int}, sumO l = some x → sumO m = some y → sumO (l ++ m) = some (x + y)
  | [], m, x, y, h1, h2 => by
    have h1 : (0 : Int) = x := Option.some.inj h1
    rw [← h1, Int.zero_add]
    exact h2
  | none :: l, m, x, y, h1, h2 => by cases h1
  | some a :: l, m, x, y, h1, h2 => by
    have h1 : (sumO l).map (a + ·) = some x := h1
    cases e : sumO l with
    | none => rw [e] at h1; cases h1
    | some b =>
      rw [e] at h1
      have h1 : a + b = x := Option.some.inj h1
      show (sumO (l ++ m)).map (a + ·) = some (x + y)
      rw [sumO_join' e h2]
      show some (a + (b + y)) = some (x + y)
      rw [← h1, Int.add_assoc]
theorem filter_range {f l : Nat} (p : Nat → Bool) (hp : ∀ j, p j = (decide (f ≤ j) && decide (j ≤ l))) : ∀ n : Nat, (List.range n).filter p = (List.range (min n (l + 1) - f)).map (f + ·)
  | 0 => by rw [show min 0 (l + 1) - f = 0 by omega]; rfl
  | n + 1 => by
    rw [List.range_succ, List.filter_append, filter_range p hp n]
    by_cases h : f ≤ n ∧ n ≤ l
    · have e : p n = true := by rw [hp, Bool.and_eq_true, decide_eq_true_eq, decide_eq_true_eq]; exact h
      rw [List.filter_cons_of_pos e, List.filter_nil, show min (n + 1) (l + 1) - f = (min n (l + 1) - f) + 1 by omega, List.range_succ, List.map_append]
      congr 1
      show [n] = [f + (min n (l + 1) - f)]
      congr 1
      omega
    · have e : ¬ p n = true := by rw [hp, Bool.and_eq_true, decide_eq_true_eq, decide_eq_true_eq]; exact h
      rw [List.filter_cons_of_neg e, List.filter_nil, List.append_nil, show min (n + 1) (l + 1) - f = min n (l + 1) - f by omega]
theorem rgV_nat (f m : Nat) : rgV (f : Int) ((f + m : Nat) : Int) = (((List.range m).map (f + ·)).map fun j => ((j : Nat) : Int)).map V.int := by
  unfold rgV
  rw [show (((f + m : Nat) : Int) - (f : Int)).toNat = m by omega, List.map_map, List.map_map]
  apply List.map_congr_left
  intro i _
  show V.int ((f : Int) + (i : Int)) = V.int ((f + i : Nat) : Int)
  congr 1
theorem reachF_nonneg (g : Good) (k : Nat) : 0 ≤ reachF g k := by
  unfold reachF
  cases g.life with
  | none => exact Int.le_refl _
  | some l =>
    dsimp only
    split <;> omega
theorem reachF_le {g : Good} {k : Nat} (hl : ∀ l, g.life = some l → 0 ≤ l) : reachF g k ≤ (k : Int) := by
  unfold reachF
  cases e : g.life with
  | none =>
    dsimp only
    omega
  | some l =>
    have := hl l e
    dsimp only
    split <;> omega
theorem life_nonneg {g : Good} (h : lifeB (optD g.life) = true) : ∀ l, g.life = some l → 0 ≤ l := fun l e => by
  rw [e] at h
  simp only [optD, lifeB, Bool.and_eq_true, decide_eq_true_eq] at h
  exact h.1
end Bk

namespace Bk
open PySem PySem.Spec PyProof.Rows L2
/-! ### the row of least costs: what it is -/
/-- from the m first days' end back: the least of row f + cost + the prices from f to m -/
def lbo (row : Nat → Int) (w : Nat → Option Int) : Nat → Int → Option Int → Option Int
  | 0, _, least => least
  | m + 1, cost, least => match w m with
    | none => least
    | some p => lbo row w m (cost + p) (some (match least with
      | none => row m + (cost + p)
      | some l => if row m + (cost + p) < l then row m + (cost + p) else l))
def segP (w : Nat → Option Int) (f n : Nat) : Option Int := sumO ((List.range n).map fun i => w (f + i))
theorem segP_zero (w : Nat → Option Int) (f : Nat) : segP w f 0 = some 0 := rfl
theorem segP_succ {w : Nat → Option Int} {f n : Nat} {s : Int} (h : segP w f (n + 1) = some s) : ∃ x y, segP w f n = some x ∧ w (f + n) = some y ∧ s = x + y := by
  unfold segP at h
  rw [List.range_succ, List.map_append] at h
  have h := (sumO_snoc _ _).symm.trans h
  cases e1 : sumO ((List.range n).map fun i => w (f + i)) with
  | none =>
    rw [e1] at h
    cases h
  | some x =>
    rw [e1] at h
    have h : (match some x, w (f + n) with
      | some x, some y => some (x + y)
      | _, _ => none) = some s := h
    cases e2 : w (f + n) with
    | none =>
      rw [e2] at h
      cases h
    | some y =>
      rw [e2] at h
      exact ⟨x, y, e1, rfl, (Option.some.inj h).symm⟩
theorem segP_add {w : Nat → Option Int} {f n : Nat} {x y : Int} (h1 : segP w f n = some x) (h2 : w (f + n) = some y) : segP w f (n + 1) = some (x + y) := by
  unfold segP at h1 ⊢
  rw [List.range_succ, List.map_append]
  refine (sumO_snoc _ _).trans ?_
  rw [h1]
  show (match some x, w (f + n) with
      | some x, some y => some (x + y)
      | _, _ => none) = _
  rw [h2]
theorem lbo_from {row : Nat → Int} {w : Nat → Option Int} : ∀ (m : Nat) (cost : Int) (least : Option Int) (v : Int), lbo row w m cost least = some v → least = some v ∨ ∃ f s, f < m ∧ segP w f (m - f) = some s ∧ v = row f + cost + s
  | 0, cost, least, v, h => .inl h
  | m + 1, cost, least, v, h => by
    unfold lbo at h
    cases hw : w m with
    | none =>
      rw [hw] at h
      exact .inl h
    | some p =>
      rw [hw] at h
      have base : segP w m (m + 1 - m) = some p := by
        rw [show m + 1 - m = 0 + 1 by omega]
        have := segP_add (segP_zero w m) (show w (m + 0) = some p from hw)
        rw [this, Int.zero_add]
      rcases lbo_from m (cost + p) _ v h with e | ⟨f, s, hf, hs, e⟩
      · have e := Option.some.inj e
        cases least with
        | none => exact .inr ⟨m, p, by omega, base, by dsimp only at e; omega⟩
        | some l =>
          dsimp only at e
          split at e
          · exact .inr ⟨m, p, by omega, base, by omega⟩
          · exact .inl (congrArg some e)
      · refine .inr ⟨f, s + p, by omega, ?_, by omega⟩
        rw [show m + 1 - f = (m - f) + 1 by omega]
        exact segP_add hs (by rw [show f + (m - f) = m by omega]; exact hw)
theorem lbo_keep {row : Nat → Int} {w : Nat → Option Int} : ∀ (m : Nat) (cost : Int) (l : Int), ∃ v, lbo row w m cost (some l) = some v ∧ v ≤ l
  | 0, cost, l => ⟨l, rfl, Int.le_refl _⟩
  | m + 1, cost, l => by
    unfold lbo
    cases hw : w m with
    | none => exact ⟨l, rfl, Int.le_refl _⟩
    | some p =>
      obtain ⟨v, h1, h2⟩ := lbo_keep (row := row) (w := w) m (cost + p) (if row m + (cost + p) < l then row m + (cost + p) else l)
      refine ⟨v, h1, ?_⟩
      split at h2 <;> omega
theorem lbo_least {row : Nat → Int} {w : Nat → Option Int} : ∀ (m : Nat) (cost : Int) (least : Option Int) (f : Nat) (s : Int), f < m → segP w f (m - f) = some s → ∃ v, lbo row w m cost least = some v ∧ v ≤ row f + cost + s
  | 0, _, _, f, _, hf, _ => by omega
  | m + 1, cost, least, f, s, hf, hs => by
    rw [show m + 1 - f = (m - f) + 1 by omega] at hs
    obtain ⟨x, y, h1, h2, h3⟩ := segP_succ hs
    rw [show f + (m - f) = m by omega] at h2
    unfold lbo
    rw [h2]
    dsimp only
    by_cases hfm : f < m
    · obtain ⟨v, e1, e2⟩ := lbo_least m (cost + y) (some (match least with
        | none => row m + (cost + y)
        | some l => if row m + (cost + y) < l then row m + (cost + y) else l)) f x hfm h1
      exact ⟨v, e1, by omega⟩
    · have hfm : f = m := by omega
      subst hfm
      rw [Nat.sub_self] at h1
      have h1 : (0 : Int) = x := Option.some.inj h1
      obtain ⟨v, e1, e2⟩ := lbo_keep (row := row) (w := w) f (cost + y) (match least with
        | none => row f + (cost + y)
        | some l => if row f + (cost + y) < l then row f + (cost + y) else l)
      refine ⟨v, e1, ?_⟩
      cases least with
      | none =>
        dsimp only at e2
        omega
      | some l =>
        dsimp only at e2
        split at e2 <;> omega
/-- v is the cost of a choice for the m + 1 first days: a stretch from f on, baked on b, behind the f first days; or nothing wanted on day m -/
def Choice (g : Good) (lights row : Nat → Int) (m : Nat) (v : Int) : Prop := (∃ b f s, b ≤ m ∧ f ≤ m ∧ segP (wantP g b) f (m + 1 - f) = some s ∧ v = row f + lights b + s) ∨ ((∃ d, g.days[m]? = some d ∧ d.want = 0) ∧ v = row m)
structure IsRow (g : Good) (lights row : Nat → Int) (n : Nat) : Prop where
  zero : row 0 = 0
  some : ∀ m, m < n → Choice g lights row m (row (m + 1))
  least : ∀ m, m < n → ∀ v, Choice g lights row m v → row (m + 1) ≤ v
theorem IsRow.ext {g : Good} {lights row row' : Nat → Int} {n : Nat} (h : IsRow g lights row n) (h' : IsRow g lights row' n) : ∀ m, m ≤ n → row m = row' m := by
  intro m
  induction m using Nat.strongRecOn with
  | ind m ih =>
    intro hm
    cases m with
    | zero => rw [h.zero, h'.zero]
    | succ m =>
      have tr : ∀ v, Choice g lights row m v ↔ Choice g lights row' m v := by
        intro v
        have e : ∀ f, f ≤ m → row f = row' f := fun f hf => ih f (by omega) (by omega)
        constructor
        · rintro (⟨b, f, s, h1, h2, h3, h4⟩ | ⟨h1, h2⟩)
          · exact .inl ⟨b, f, s, h1, h2, h3, by rw [← e f h2]; exact h4⟩
          · exact .inr ⟨h1, by rw [← e m (by omega)]; exact h2⟩
        · rintro (⟨b, f, s, h1, h2, h3, h4⟩ | ⟨h1, h2⟩)
          · exact .inl ⟨b, f, s, h1, h2, h3, by rw [e f h2]; exact h4⟩
          · exact .inr ⟨h1, by rw [e m (by omega)]; exact h2⟩
      have a := h.least m (by omega) _ ((tr _).mpr (h'.some m (by omega)))
      have b := h'.least m (by omega) _ ((tr _).mp (h.some m (by omega)))
      omega
/-! ### days added -/
theorem seg_take {α : Type} (l : List α) {i k j : Nat} (h : k ≤ j) : ((l.take j).drop i).take (k - i) = (l.drop i).take (k - i) := by
  rw [List.drop_take, List.take_take]
  congr 1
  omega
theorem loafP_take {g : Good} {j b k : Nat} (hb : b < j) (hk : k < j) : loafP ⟨g.days.take j, g.life⟩ b k = loafP g b k := by
  unfold loafP
  rw [List.getElem?_take_of_lt hb]
  cases g.days[b]? with
  | none => rfl
  | some d =>
    dsimp only
    have e1 : finesL (g.days.take j) k b = finesL g.days k b := by
      unfold finesL
      rw [seg_take g.days (show b ≤ j by omega)]
    have e2 : keepsL (g.days.take j) b k = keepsL g.days b k := by
      unfold keepsL
      rw [seg_take g.days (show k ≤ j by omega)]
    rw [e1, e2]
theorem wantP_take {g : Good} {j b k : Nat} (hb : b < j) (hk : k < j) : wantP ⟨g.days.take j, g.life⟩ b k = wantP g b k := by
  unfold wantP
  rw [loafP_take hb hk]
  dsimp only
  rw [List.getElem?_take_of_lt hk]
theorem segP_take {g : Good} {j b f n : Nat} (hb : b < j) (hn : f + n ≤ j) : segP (wantP ⟨g.days.take j, g.life⟩ b) f n = segP (wantP g b) f n := by
  unfold segP
  congr 1
  apply List.map_congr_left
  intro i hi
  have := List.mem_range.mp hi
  exact wantP_take hb (by omega)
theorem Choice.take {g : Good} {lights row : Nat → Int} {j m : Nat} (hm : m < j) {v : Int} : Choice ⟨g.days.take j, g.life⟩ lights row m v ↔ Choice g lights row m v := by
  have e : ∀ b f, b ≤ m → f ≤ m → segP (wantP ⟨g.days.take j, g.life⟩ b) f (m + 1 - f) = segP (wantP g b) f (m + 1 - f) := fun b f h1 h2 => segP_take (by omega) (by omega)
  have ed : (g.days.take j)[m]? = g.days[m]? := List.getElem?_take_of_lt hm
  constructor
  · rintro (⟨b, f, s, h1, h2, h3, h4⟩ | ⟨⟨d, h1, h1'⟩, h2⟩)
    · exact .inl ⟨b, f, s, h1, h2, by rw [← e b f h1 h2]; exact h3, h4⟩
    · exact .inr ⟨⟨d, by rw [← ed]; exact h1, h1'⟩, h2⟩
  · rintro (⟨b, f, s, h1, h2, h3, h4⟩ | ⟨⟨d, h1, h1'⟩, h2⟩)
    · exact .inl ⟨b, f, s, h1, h2, by rw [e b f h1 h2]; exact h3, h4⟩
    · exact .inr ⟨⟨d, by show (g.days.take j)[m]? = _; rw [ed]; exact h1, h1'⟩, h2⟩
theorem IsRow.take {g : Good} {lights row : Nat → Int} {n j : Nat} (h : IsRow g lights row n) (hj : j ≤ n) : IsRow ⟨g.days.take j, g.life⟩ lights row j :=
  ⟨h.zero, fun m hm => (Choice.take hm).mpr (h.some m (by omega)), fun m hm v hv => h.least m (by omega) v ((Choice.take hm).mp hv)⟩
theorem wantP_own {g : Good} {m : Nat} {d : Day} (hd : g.days[m]? = some d) (hl : ∀ l, g.life = some l → 0 ≤ l) : wantP g m m = some (d.want * d.loaf) := by
  unfold wantP
  rw [hd]
  dsimp only
  by_cases hw : d.want = 0
  · rw [if_pos hw, hw, Int.zero_mul]
  · rw [if_neg hw, loafP_ext hd, (ext_keep (Nat.le_refl m)).mpr ⟨fun l e => by have := hl l e; omega, rfl⟩]
    show some (d.want * (d.loaf + keepsL g.days m m)) = _
    have e : keepsL g.days m m = 0 := by unfold keepsL; rw [Nat.sub_self]; rfl
    rw [e, Int.add_zero]
theorem own_choice {g : Good} {lights row : Nat → Int} {m : Nat} {d : Day} (hd : g.days[m]? = some d) (hl : ∀ l, g.life = some l → 0 ≤ l) : Choice g lights row m (row m + lights m + d.want * d.loaf) := by
  refine .inl ⟨m, m, _, Nat.le_refl _, Nat.le_refl _, ?_, rfl⟩
  rw [show m + 1 - m = 0 + 1 by omega]
  have := segP_add (segP_zero (wantP g m) m) (show wantP g m (m + 0) = some (d.want * d.loaf) from wantP_own hd hl)
  rw [this, Int.zero_add]
theorem Choice.congr {g : Good} {lights row row' : Nat → Int} {m : Nat} {v : Int} (e : ∀ f, f ≤ m → row f = row' f) (h : Choice g lights row m v) : Choice g lights row' m v := by
  rcases h with ⟨b, f, s, h1, h2, h3, h4⟩ | ⟨h1, h2⟩
  · exact .inl ⟨b, f, s, h1, h2, h3, by rw [← e f h2]; exact h4⟩
  · exact .inr ⟨h1, by rw [← e m (Nat.le_refl m)]; exact h2⟩
def rowF (rs : List Int) (i : Nat) : Int := rs.getD i 0
theorem rowF_snoc {rs : List Int} {v : Int} {f : Nat} (h : f < rs.length) : rowF (rs ++ [v]) f = rowF rs f := by
  unfold rowF
  rw [List.getD_eq_getElem?_getD, List.getD_eq_getElem?_getD, List.getElem?_append_left h]
theorem rowF_last {rs : List Int} {v : Int} {n : Nat} (h : rs.length = n) : rowF (rs ++ [v]) n = v := by
  unfold rowF
  rw [List.getD_eq_getElem?_getD, List.getElem?_append_right (by omega), h, Nat.sub_self]
  rfl
theorem rowF_get {rs : List Int} {f : Nat} (h : f < rs.length) : (rs.map V.int)[f]? = some (.int (rowF rs f)) := by
  unfold rowF
  rw [List.getElem?_map, List.getD_eq_getElem?_getD, List.getElem?_eq_getElem h]
  rfl
theorem IsRow.snoc {g : Good} {lights : Nat → Int} {rs : List Int} {n : Nat} {v : Int} (h : IsRow g lights (rowF rs) n) (hl : rs.length = n + 1) (hc : Choice g lights (rowF rs) n v) (hm : ∀ u, Choice g lights (rowF rs) n u → v ≤ u) : IsRow g lights (rowF (rs ++ [v])) (n + 1) := by
  have e : ∀ f, f ≤ n → rowF rs f = rowF (rs ++ [v]) f := fun f hf => (rowF_snoc (by omega)).symm
  have e' : ∀ f, f ≤ n → rowF (rs ++ [v]) f = rowF rs f := fun f hf => rowF_snoc (by omega)
  refine ⟨by rw [e' 0 (by omega)]; exact h.zero, fun m hmn => ?_, fun m hmn u hu => ?_⟩
  · by_cases hlt : m < n
    · rw [e' (m + 1) (by omega)]
      exact (h.some m hlt).congr fun f hf => e f (by omega)
    · have : m = n := by omega
      subst this
      rw [rowF_last hl]
      exact hc.congr e
  · by_cases hlt : m < n
    · rw [e' (m + 1) (by omega)]
      exact h.least m hlt u (hu.congr fun f hf => e' f (by omega))
    · have : m = n := by omega
      subst this
      rw [rowF_last hl]
      exact hm u (hu.congr e')
theorem IsRow.init (g : Good) (lights : Nat → Int) : IsRow g lights (rowF [0]) 0 := ⟨rfl, fun m h => by omega, fun m h => by omega⟩
/-! ### the least of the costs of each day of baking -/
def lbos (row lights : Nat → Int) (w : Nat → Nat → Option Int) (m c : Nat) : List (Option Int) := (List.range c).map fun b => lbo row (w b) (m + 1) (lights b) none
/-- a last stretch of the first m + 1 days, baked on one of the first c days -/
def ChC (row lights : Nat → Int) (w : Nat → Nat → Option Int) (c m : Nat) (v : Int) : Prop := ∃ b f s, b < c ∧ f ≤ m ∧ segP (w b) f (m + 1 - f) = some s ∧ v = row f + lights b + s
theorem lbos_mem {row lights : Nat → Int} {w : Nat → Nat → Option Int} {m c : Nat} {v : Int} (h : v ∈ (lbos row lights w m c).filterMap id) : ChC row lights w c m v := by
  obtain ⟨o, ho, e⟩ := List.mem_filterMap.mp h
  have e : o = some v := e
  subst e
  obtain ⟨b, hb, e⟩ := List.mem_map.mp ho
  have hb := List.mem_range.mp hb
  rcases lbo_from _ _ _ _ e with z | ⟨f, s, hf, hs, hv⟩
  · cases z
  · exact ⟨b, f, s, by omega, by omega, hs, hv⟩
theorem lbos_least {row lights : Nat → Int} {w : Nat → Nat → Option Int} {m c : Nat} {u : Int} (h : ChC row lights w c m u) : ∃ v, v ∈ (lbos row lights w m c).filterMap id ∧ v ≤ u := by
  obtain ⟨b, f, s, hb, hf, hs, hu⟩ := h
  obtain ⟨v, h1, h2⟩ := lbo_least (row := row) (w := w b) (m + 1) (lights b) none f s (by omega) hs
  exact ⟨v, List.mem_filterMap.mpr ⟨some v, List.mem_map.mpr ⟨b, List.mem_range.mpr (by omega), h1⟩, rfl⟩, by omega⟩
theorem own_chC {g : Good} {lights row : Nat → Int} {c m : Nat} {d : Day} (hc : m < c) (hd : g.days[m]? = some d) (hl : ∀ l, g.life = some l → 0 ≤ l) : ChC row lights (wantP g) c m (row m + lights m + d.want * d.loaf) := by
  refine ⟨m, m, _, hc, Nat.le_refl _, ?_, rfl⟩
  rw [show m + 1 - m = 0 + 1 by omega]
  have := segP_add (segP_zero (wantP g m) m) (show wantP g m (m + 0) = some (d.want * d.loaf) from wantP_own hd hl)
  rw [this, Int.zero_add]
theorem chC_choice {g : Good} {lights row : Nat → Int} {m : Nat} {v : Int} (h : ChC row lights (wantP g) (m + 1) m v) : Choice g lights row m v := by
  obtain ⟨b, f, s, hb, hf, hs, hv⟩ := h
  exact .inl ⟨b, f, s, by omega, hf, hs, hv⟩
theorem choice_chC {g : Good} {lights row : Nat → Int} {m : Nat} {v : Int} (h : Choice g lights row m v) : ChC row lights (wantP g) (m + 1) m v ∨ v = row m := by
  rcases h with ⟨b, f, s, hb, hf, hs, hv⟩ | ⟨_, h⟩
  · exact .inl ⟨b, f, s, by omega, hf, hs, hv⟩
  · exact .inr h
theorem choice_not {g : Good} {lights row : Nat → Int} {m : Nat} {d : Day} (hd : g.days[m]? = some d) (hw : d.want ≠ 0) {v : Int} (h : Choice g lights row m v) : ChC row lights (wantP g) (m + 1) m v := by
  rcases h with ⟨b, f, s, hb, hf, hs, hv⟩ | ⟨⟨d', h1, h2⟩, _⟩
  · exact ⟨b, f, s, by omega, hf, hs, hv⟩
  · rw [hd] at h1
    cases h1
    exact absurd h2 hw
end Bk

namespace Bk
open PySem PySem.Spec PyProof.Rows L2
theorem rMin_r {K : PySem.W.Frag} {p : Addr} {H : Hp} {Q : VK} : rMin K [.ref p] H Q = ∃ ns : List Int, SqL K H p (ns.map V.int) ∧ 0 < ns.length ∧ ∀ m, m ∈ ns → (∀ y, y ∈ ns → m ≤ y) → Q (.int m) H := propext ⟨fun ⟨a, bs, e, h⟩ => by cases e; exact ⟨bs, h⟩, fun ⟨bs, h⟩ => ⟨p, bs, rfl, h⟩⟩
def lcScope (d : Scope) (l : List Stmt) (i : Nat) : Scope := match l[i]? with
  | some (.Assign _ (.ListComp _ _ sc _) _) => sc
  | _ => d
/-- a comprehension that leaves the Nones out -/
theorem LcR.opts {K : PySem.W.Frag} {a : Addr} {te : TE} {tt : TT} {g : TG} {vs : List Nat} {σ : L2.St} {H1 : Hp} {D : Addr} {Qd : Hp → Prop} (os : List (Option Int)) (hD : H1 D = none) (hl : SqL K H1 a (os.map optV)) (hz : os.length ≤ 1000)
    (hs : ∀ (o : Option Int) (H : Hp) (R : Bool → Hp → (V → Hp → Prop) → Prop), True → ∀ (N : Hp → Prop) (M : V → Hp → Prop), (o = none → N H) → (∀ z, o = some z → M (.int z) H) → g (optV o) (wipe σ vs) H fun σ2 H2 => wipe σ2 vs = wipe σ vs ∧ tt σ2 H2 fun b H3 => if b = true then te σ2 H3 M else N H3)
    (hd : ∀ H, Same H1 H → H D = some (.lst ((os.filterMap id).map V.int)) → Qd H) : LcR (Itl K a) g tt te vs σ D H1 Qd := by
  have e0 : (os.map optV).length = os.length := List.length_map ..
  refine LcR.by (walk_list (xs := os.map optV)) (fun i H => Same H1 H ∧ H D = some (.lst (((os.take i).filterMap id).map V.int))) ⟨same_upd hD, by rw [upd_same]; rfl⟩ (fun i H _ h => h.1.seq hl) (fun i x H H' hi h y => ?_) (fun H h => hd H h.1 ?_)
  · obtain ⟨rfl, hx⟩ := y
    rw [List.getElem?_map] at hx
    obtain ⟨s, e⟩ := h
    cases ho : os[i]? with
    | none => rw [ho] at hx; cases hx
    | some o =>
      rw [ho] at hx
      cases hx
      refine hs o _ (fun _ _ _ => True) trivial _ _ (fun hn => ⟨s, ?_⟩) (fun z hz' => ⟨_, e, ?_, same_mut s hD, ?_⟩)
      · rw [e, List.take_add_one, ho, hn]
        simp
      · have h1 : ((os.take i).filterMap id).length ≤ (os.take i).length := List.length_filterMap_le ..
        rw [List.length_take] at h1
        rw [List.length_map]
        exact sz100l (by omega)
      · rw [upd_same, List.take_add_one, ho, hz']
        simp
  · rw [e0, List.take_length] at h
    exact h.2
theorem ThAll.intsV {K : PySem.W.Frag} {H : Hp} : ∀ {xs : List V} {ns : List Int}, ThAll K H xs (ns.map PyData.int) → xs = ns.map V.int
  | _, [], .nil => rfl
  | _, n :: r, .cons (.int _) t => by rw [ThAll.intsV t]; rfl
theorem life_ok {g : Good} (h : lifeB (optD g.life) = true) : ∀ l, g.life = some l → 0 ≤ l := by
  intro l e
  rw [e] at h
  simp only [optD, lifeB, Bool.and_eq_true, decide_eq_true_eq] at h
  exact h.1
theorem rgV_zero (m : Nat) : rgV 0 (m : Int) = (List.range m).map fun j : Nat => V.int (j : Int) := by
  unfold rgV
  rw [show ((m : Int) - 0).toNat = m by omega]
  apply List.map_congr_left
  intro i _
  rw [Int.zero_add]
end Bk

namespace Bk
open PySem PySem.Spec PyProof.Rows L2
/-! ### rows rise where nothing may wait -/
structure NonNegW (ds : List Day) : Prop where
  nn : NonNeg ds
  want : ∀ d ∈ ds, 0 ≤ d.want
  loaf : ∀ d ∈ ds, 0 ≤ d.loaf
theorem nonNegW_of {ds : List Day} (h : ∀ d ∈ ds, dayB (dayD d) = true) : NonNegW ds := by
  have num : ∀ i : Int, numD (.int i) = true → 0 ≤ i := fun i h => by
    simp only [numD, Bool.and_eq_true, decide_eq_true_eq] at h
    exact h.1
  have k : ∀ d ∈ ds, (numD (.int d.want) = true ∧ numD (.int d.loaf) = true) ∧ numD (.int d.keep) = true ∧ ∀ i, d.fine = some i → numD (.int i) = true := by
    intro d hd
    have k := h d hd
    simp only [dayD, dayB, Bool.and_eq_true] at k
    refine ⟨k.1.1, k.1.2, fun i e => ?_⟩
    have k2 := k.2
    rw [e] at k2
    simpa [optD, noneB] using k2
  exact ⟨⟨fun d hd => num _ (k d hd).2.1, fun d hd i e => num _ ((k d hd).2.2 i e)⟩, fun d hd => num _ (k d hd).1.1, fun d hd => num _ (k d hd).1.2⟩
theorem loafP_nonneg {g : Good} (N : NonNegW g.days) {b k : Nat} {z : Int} (h : loafP g b k = some z) : 0 ≤ z := by
  cases hd : g.days[b]? with
  | none =>
    unfold loafP at h
    rw [hd] at h
    cases h
  | some d =>
    rw [loafP_ext hd] at h
    have h0 := N.loaf d (List.mem_of_getElem? hd)
    cases he : extP g b k with
    | none => rw [he] at h; cases h
    | some e =>
      rw [he] at h
      have h : d.loaf + e = z := Option.some.inj h
      have : 0 ≤ e := by
        by_cases hkb : k < b
        · exact finesL_nonneg N.nn ((ext_fine hkb).mp he)
        · rw [← ((ext_keep (by omega)).mp he).2]
          exact keepsL_nonneg N.nn _ _
      omega
theorem wantP_nonneg {g : Good} (N : NonNegW g.days) {b k : Nat} {z : Int} (h : wantP g b k = some z) : 0 ≤ z := by
  unfold wantP at h
  cases hd : g.days[k]? with
  | none => rw [hd] at h; cases h
  | some d =>
    rw [hd] at h
    dsimp only at h
    split at h
    · have h : (0 : Int) = z := Option.some.inj h
      omega
    · cases hp : loafP g b k with
      | none => rw [hp] at h; cases h
      | some y =>
        rw [hp] at h
        have h : d.want * y = z := Option.some.inj h
        rw [← h]
        exact Int.mul_nonneg (N.want d (List.mem_of_getElem? hd)) (loafP_nonneg N hp)
theorem wantP_late {g : Good} (nf : ∀ d ∈ g.days, d.fine = none) {b k : Nat} (hk : k < b) {z : Int} (h : wantP g b k = some z) : ∃ d, g.days[k]? = some d ∧ d.want = 0 := by
  unfold wantP at h
  cases hd : g.days[k]? with
  | none => rw [hd] at h; cases h
  | some d =>
    rw [hd] at h
    dsimp only at h
    split at h
    · exact ⟨d, rfl, by assumption⟩
    · exfalso
      cases hp : loafP g b k with
      | none => rw [hp] at h; cases h
      | some y =>
        cases hb : g.days[b]? with
        | none =>
          unfold loafP at hp
          rw [hb] at hp
          cases hp
        | some d' =>
          rw [loafP_ext hb] at hp
          cases he : extP g b k with
          | none => rw [he] at hp; cases hp
          | some e =>
            have hf := (ext_fine hk).mp he
            unfold finesL at hf
            obtain ⟨hlt, e1⟩ := List.getElem?_eq_some_iff.mp hd
            rw [List.drop_eq_getElem_cons hlt, e1, show b - k = (b - k - 1) + 1 by omega] at hf
            have hf : sumO (d.fine :: ((g.days.drop (k + 1)).take (b - k - 1)).map Day.fine) = some e := hf
            rw [nf d (List.mem_of_getElem? hd)] at hf
            cases hf
theorem segP_all {w : Nat → Option Int} {f : Nat} : ∀ {n : Nat} {s : Int}, segP w f n = some s → ∀ i, i < n → ∃ z, w (f + i) = some z
  | 0, _, _, i, hi => by omega
  | n + 1, s, h, i, hi => by
    obtain ⟨x, y, h1, h2, _⟩ := segP_succ h
    by_cases e : i < n
    · exact segP_all h1 i e
    · have : i = n := by omega
      subst this
      exact ⟨y, h2⟩
theorem segP_nonneg {w : Nat → Option Int} {f : Nat} (nn : ∀ k z, w k = some z → 0 ≤ z) : ∀ {n : Nat} {s : Int}, segP w f n = some s → 0 ≤ s
  | 0, s, h => by
    have : (0 : Int) = s := Option.some.inj h
    omega
  | n + 1, s, h => by
    obtain ⟨x, y, h1, h2, h3⟩ := segP_succ h
    have := segP_nonneg nn h1
    have := nn _ _ h2
    omega
theorem row_flat {g : Good} {lights row : Nat → Int} {n : Nat} (h : IsRow g lights row n) {f : Nat} : ∀ m, f ≤ m → m ≤ n → (∀ k, f ≤ k → k < m → ∃ d, g.days[k]? = some d ∧ d.want = 0) → row m ≤ row f
  | 0, h1, _, _ => by rw [show f = 0 by omega]; exact Int.le_refl _
  | m + 1, h1, h2, hz => by
    by_cases e : f = m + 1
    · rw [e]; exact Int.le_refl _
    · have a := row_flat h m (by omega) (by omega) fun k k1 k2 => hz k k1 (by omega)
      have b := h.least m (by omega) _ (.inr ⟨hz m (by omega) (by omega), rfl⟩)
      omega
theorem row_up {g : Good} {lights row : Nat → Int} {n : Nat} (h : IsRow g lights row n) (hl : ∀ b, 0 ≤ lights b) (N : NonNegW g.days) (nf : ∀ d ∈ g.days, d.fine = none) {m : Nat} (hm : m < n) : row m ≤ row (m + 1) := by
  rcases h.some m hm with ⟨b, f, s, hb, hf, hs, hv⟩ | ⟨_, hv⟩
  · have lb := hl b
    have sn : 0 ≤ s := segP_nonneg (fun k z e => wantP_nonneg N e) hs
    by_cases e : f = m
    · subst e
      omega
    · rw [show m + 1 - f = (m - f) + 1 by omega] at hs
      obtain ⟨x, y, h1, h2, h3⟩ := segP_succ hs
      have yn := wantP_nonneg N h2
      by_cases eb : b < m
      · have := h.least (m - 1) (by omega) (row f + lights b + x) (.inl ⟨b, f, x, by omega, by omega, by rw [show m - 1 + 1 - f = m - f by omega]; exact h1, rfl⟩)
        rw [show m - 1 + 1 = m by omega] at this
        omega
      · have eb : b = m := by omega
        subst eb
        have := row_flat h b (f := f) (by omega) (by omega) fun k k1 k2 => by
          obtain ⟨z, hz⟩ := segP_all h1 (k - f) (by omega)
          rw [show f + (k - f) = k by omega] at hz
          exact wantP_late nf k2 hz
        omega
  · omega
theorem rowF_nonneg {ls : List Int} (h : ∀ z ∈ ls, 0 ≤ z) (b : Nat) : 0 ≤ rowF ls b := by
  unfold rowF
  rw [List.getD_eq_getElem?_getD]
  cases e : ls[b]? with
  | none => exact Int.le_refl 0
  | some z => exact h z (List.mem_of_getElem? e)
/-! ### lists of days, compared -/
theorem lay_day (d : Day) : PyData.canLay0 (dayD d) = true ∧ (dayD d).depth ≤ 1 ∧ (dayD d).hasDict = false := by
  unfold dayD
  cases d.fine <;> simp [optD, PyData.canLay0, PyData.canLayAll0, PyData.depth, PyData.depthAll, PyData.hasDict, PyData.hasDictAll]
theorem lay_days : ∀ ds : List Day, PyData.canLayAll0 (ds.map dayD) = true ∧ PyData.hasDictAll (ds.map dayD) = false
  | [] => by simp [PyData.canLayAll0, PyData.hasDictAll]
  | d :: r => by
    obtain ⟨h1, _, h3⟩ := lay_day d
    obtain ⟨k1, k2⟩ := lay_days r
    simp only [List.map, PyData.canLayAll0, PyData.hasDictAll, h1, h3, k1, k2, Bool.and_self, Bool.or_self, and_self]
theorem shaped_days (ds : List Day) : SeqAt.shaped (.list (ds.map dayD)) = true := by
  have h : PyData.depthAll (ds.map dayD) ≤ 1 := depthAll_le fun x hx => by
    obtain ⟨d, _, rfl⟩ := List.mem_map.mp hx
    exact (lay_day d).2.1
  simp only [SeqAt.shaped, PyData.canLay0, (lay_days ds).1, PyData.depth, Bool.true_and]
  exact decide_eq_true (Nat.le_trans (Nat.add_le_add_right h 1) (by decide))
/-- days != [] -/
theorem ne_days {K : PySem.W.Frag} {H : Hp} {a b : Addr} {vs : List V} {ds : List Day} {Q : VK} (h1 : SqL K H a vs) (h2 : ThAll K H vs (ds.map dayD)) (h3 : SqL K H b []) (q : Q (.bl (decide (ds ≠ []))) H) : rNeD K (.ref a) (.ref b) H Q := by
  refine ⟨_, .list [], .lst h1 (h2.dp (lay_days ds).2), .lst h3 .nil, shaped_days ds, by simp [SeqAt.shaped, PyData.canLay0, PyData.canLayAll0, PyData.depth, PyData.depthAll], ?_⟩
  cases ds with
  | nil => exact q
  | cons d r => exact q
theorem Choice.lights {g : Good} {lights lights' row : Nat → Int} {m : Nat} {v : Int} (e : ∀ b, b ≤ m → lights b = lights' b) (h : Choice g lights row m v) : Choice g lights' row m v := by
  rcases h with ⟨b, f, s, h1, h2, h3, h4⟩ | h
  · exact .inl ⟨b, f, s, h1, h2, h3, by rw [← e b h1]; exact h4⟩
  · exact .inr h
theorem row_lights {g : Good} {lights lights' row : Nat → Int} {n : Nat} (e : ∀ b, b < n → lights b = lights' b) (h : IsRow g lights row n) : IsRow g lights' row n :=
  ⟨h.zero, fun m hm => (h.some m hm).lights fun b hb => e b (by omega), fun m hm v hv => h.least m hm v (hv.lights fun b hb => (e b (by omega)).symm)⟩
theorem rowF_take {ls : List Int} {m b : Nat} (h : b < m) : rowF (ls.take m) b = rowF ls b := by
  unfold rowF
  rw [List.getD_eq_getElem?_getD, List.getD_eq_getElem?_getD, List.getElem?_take_of_lt h]
theorem row_first {g : Good} {ls rs rs' : List Int} {n m : Nat} (h : IsRow g (rowF ls) (rowF rs) n) (hm : m ≤ n) (h' : IsRow ⟨g.days.take m, g.life⟩ (rowF (ls.take m)) (rowF rs') m) : rowF rs' m = rowF rs m :=
  IsRow.ext (row_lights (fun b hb => rowF_take hb) h') (h.take hm) m (Nat.le_refl m)
theorem rowF_end {rs : List Int} {m : Nat} (h : rs.length = m + 1) : atI (rs.map V.int) (-1) = some (.int (rowF rs m)) := by
  have e := rowF_get (rs := rs) (f := m) (by omega)
  have k : ixN (rs.map V.int).length (-1) = some m := by
    rw [List.length_map, h]
    unfold ixN
    rw [if_neg (by decide)]
    rw [if_pos (by omega)]
    congr 1
    omega
  unfold atI
  rw [k]
  exact e
end Bk

namespace Bk
open PySem PySem.Spec PyProof.Rows L2
/-! ### sums -/
def sumN (f : Nat → Int) : Nat → Int
  | 0 => 0
  | n + 1 => sumN f n + f n
theorem sumN_le {f f' : Nat → Int} : ∀ n, (∀ k, k < n → f k ≤ f' k) → sumN f n ≤ sumN f' n
  | 0, _ => Int.le_refl 0
  | n + 1, h => by
    have a := sumN_le n fun k hk => h k (by omega)
    have b := h n (by omega)
    show sumN f n + f n ≤ sumN f' n + f' n
    omega
theorem sumN_congr {f f' : Nat → Int} (n : Nat) (h : ∀ k, k < n → f k = f' k) : sumN f n = sumN f' n := by
  have a := sumN_le n fun k hk => Int.le_of_eq (h k hk)
  have b := sumN_le n fun k hk => Int.le_of_eq (h k hk).symm
  omega
theorem sumN_add (f f' : Nat → Int) : ∀ n, sumN (fun k => f k + f' k) n = sumN f n + sumN f' n
  | 0 => rfl
  | n + 1 => by
    show sumN (fun k => f k + f' k) n + (f n + f' n) = (sumN f n + f n) + (sumN f' n + f' n)
    rw [sumN_add f f' n]
    omega
theorem sumN_zero {f : Nat → Int} (n : Nat) (h : ∀ k, k < n → f k = 0) : sumN f n = 0 := by
  rw [sumN_congr (f' := fun _ => 0) n h]
  induction n with
  | zero => rfl
  | succ n ih =>
    show sumN (fun _ => 0) n + 0 = 0
    rw [ih fun k hk => h k (by omega)]
    rfl
theorem sumN_nonneg {f : Nat → Int} (n : Nat) (h : ∀ k, k < n → 0 ≤ f k) : 0 ≤ sumN f n := by
  have := sumN_le (f := fun _ => 0) n h
  rw [sumN_zero n fun _ _ => rfl] at this
  exact this
theorem sumN_split (f : Nat → Int) (m : Nat) : ∀ n, sumN f (m + n) = sumN f m + sumN (fun i => f (m + i)) n
  | 0 => by
    show sumN f m = sumN f m + 0
    omega
  | n + 1 => by
    show sumN f (m + n) + f (m + n) = sumN f m + (sumN (fun i => f (m + i)) n + f (m + n))
    rw [sumN_split f m n]
    omega
theorem sumN_grow {f : Nat → Int} {m n : Nat} (hmn : m ≤ n) (h : ∀ k, k < n → 0 ≤ f k) : sumN f m ≤ sumN f n := by
  have e := sumN_split f m (n - m)
  rw [show m + (n - m) = n by omega] at e
  have := sumN_nonneg (f := fun i => f (m + i)) (n - m) fun k hk => h _ (by omega)
  omega
theorem sumN_one {L : Nat → Int} {b : Nat} : ∀ n, b < n → sumN (fun x => if x = b then L x else 0) n = L b
  | 0, h => by omega
  | n + 1, h => by
    show sumN (fun x => if x = b then L x else 0) n + (if n = b then L n else 0) = L b
    by_cases e : n = b
    · subst e
      rw [if_pos rfl, sumN_zero n fun k hk => if_neg (by omega)]
      omega
    · rw [if_neg e, sumN_one n (by omega)]
      omega
theorem segP_of {w : Nat → Option Int} {q : Nat → Int} {f : Nat} : ∀ n, (∀ i, i < n → w (f + i) = some (q (f + i))) → segP w f n = some (sumN (fun i => q (f + i)) n)
  | 0, _ => rfl
  | n + 1, h => segP_add (segP_of n fun i hi => h i (by omega)) (h n (by omega))
theorem exists_least {P : Nat → Prop} (h : ∃ n, P n) : ∃ n, P n ∧ ∀ m, m < n → ¬ P m := by
  obtain ⟨n, hn⟩ := h
  induction n using Nat.strongRecOn with
  | ind n ih =>
    by_cases h : ∃ m, m < n ∧ P m
    · obtain ⟨m, hm, pm⟩ := h
      exact ih m hm pm
    · exact ⟨n, hn, fun m hm pm => h ⟨m, hm, pm⟩⟩
theorem exists_last {P : Nat → Prop} {n : Nat} (h : ∃ k, k < n ∧ P k) : ∃ k, k < n ∧ P k ∧ ∀ m, k < m → m < n → ¬ P m := by
  induction n with
  | zero =>
    obtain ⟨k, hk, _⟩ := h
    omega
  | succ n ih =>
    by_cases hn : P n
    · exact ⟨n, by omega, hn, fun m h1 h2 => by omega⟩
    · obtain ⟨k, hk, pk⟩ := h
      have : k < n := by
        by_cases e : k = n
        · subst e; exact absurd pk hn
        · omega
      obtain ⟨k', h1, h2, h3⟩ := ih ⟨k, this, pk⟩
      refine ⟨k', by omega, h2, fun m m1 m2 => ?_⟩
      by_cases e : m = n
      · subst e; exact hn
      · exact h3 m m1 (by omega)
/-! ### what a set of lit days costs -/
def wantN (g : Good) (k : Nat) : Int := match g.days[k]? with
  | none => 0
  | some d => d.want
structure MinP (g : Good) (S : Nat → Prop) (n k : Nat) (z : Int) : Prop where
  ex : ∃ b, b < n ∧ S b ∧ loafP g b k = some z
  le : ∀ b, b < n → S b → ∀ y, loafP g b k = some y → z ≤ y
open Classical in
noncomputable def litSum (lights : Nat → Int) (S : Nat → Prop) (n : Nat) : Int := sumN (fun b => if S b then lights b else 0) n
structure SetC (g : Good) (lights : Nat → Int) (S : Nat → Prop) (n : Nat) (p : Nat → Int) (c : Int) : Prop where
  min : ∀ k, k < n → wantN g k ≠ 0 → MinP g S n k (p k)
  cost : c = litSum lights S n + sumN (fun k => wantN g k * p k) n
theorem wantP_of {g : Good} {b k : Nat} {z : Int} (hk : k < g.days.length) (h : wantN g k ≠ 0 → loafP g b k = some z) : wantP g b k = some (wantN g k * z) := by
  have hd : g.days[k]? = some g.days[k] := List.getElem?_eq_getElem hk
  unfold wantN at h ⊢
  unfold wantP
  rw [hd] at h ⊢
  dsimp only at h ⊢
  by_cases e : g.days[k].want = 0
  · rw [if_pos e, e, Int.zero_mul]
  · rw [if_neg e, h e]
    rfl
theorem wantN_nonneg {g : Good} (N : NonNegW g.days) (k : Nat) : 0 ≤ wantN g k := by
  unfold wantN
  cases hd : g.days[k]? with
  | none => exact Int.le_refl 0
  | some d => exact N.want d (List.mem_of_getElem? hd)
theorem wantN_zero {g : Good} {k : Nat} (hk : k < g.days.length) (h : wantN g k = 0) : ∃ d, g.days[k]? = some d ∧ d.want = 0 := by
  have hd : g.days[k]? = some g.days[k] := List.getElem?_eq_getElem hk
  refine ⟨_, hd, ?_⟩
  unfold wantN at h
  rw [hd] at h
  exact h
/-- the first day of the set on which day k's loaves cost p -/
structure Sm (g : Good) (S : Nat → Prop) (n : Nat) (p : Nat → Int) (k b : Nat) : Prop where
  lt : b < n
  mem : S b
  at_ : loafP g b k = some (p k)
  first : ∀ b', b' < b → S b' → loafP g b' k ≠ some (p k)
theorem sm_ex {g : Good} {S : Nat → Prop} {n : Nat} {p : Nat → Int} {k : Nat} (h : MinP g S n k (p k)) : ∃ b, Sm g S n p k b := by
  obtain ⟨b, ⟨h1, h2, h3⟩, h4⟩ := exists_least h.ex
  exact ⟨b, h1, h2, h3, fun b' hb' hs e => h4 b' hb' ⟨by omega, hs, e⟩⟩
theorem sm_uniq {g : Good} {S : Nat → Prop} {n : Nat} {p : Nat → Int} {k b b' : Nat} (h : Sm g S n p k b) (h' : Sm g S n p k b') : b = b' := by
  by_cases e : b < b'
  · exact absurd h.at_ (h'.first b e h.mem)
  · by_cases e' : b' < b
    · exact absurd h'.at_ (h.first b' e' h'.mem)
    · omega
theorem sm_mono {g : Good} (N : NonNeg g.days) {S : Nat → Prop} {n : Nat} {p : Nat → Int} (hn : n ≤ g.days.length) {k k' b b' : Nat} (hk : k < k') (mk : MinP g S n k (p k)) (mk' : MinP g S n k' (p k')) (h : Sm g S n p k b) (h' : Sm g S n p k' b') : b ≤ b' := by
  by_cases e : b ≤ b'
  · exact e
  · exfalso
    have hb := h.lt
    obtain ⟨z, t, h1, h2, h3⟩ := loaf_cross N (show b' < b by omega) hk (by omega) h'.at_ h.at_
    have a1 := mk'.le b h.lt h.mem t h2
    have a2 := mk.le b' h'.lt h'.mem z h1
    exact h.first b' (by omega) h'.mem (by rw [h1, show z = p k by omega])
theorem finesL_join {ds : List Day} {i j k : Nat} {x y : Int} (h1 : i ≤ j) (h2 : j ≤ k) (a : finesL ds i j = some x) (b : finesL ds j k = some y) : finesL ds i k = some (x + y) := by
  unfold finesL at a b ⊢
  rw [seg_split ds h1 h2, List.map_append]
  exact sumO_join' a b
theorem loafP_ext' {g : Good} {j k : Nat} {d : Day} {z : Int} (hd : g.days[j]? = some d) (h : loafP g j k = some z) : ∃ e, extP g j k = some e ∧ d.loaf + e = z := by
  rw [loafP_ext hd] at h
  cases he : extP g j k with
  | none => rw [he] at h; cases h
  | some e =>
    rw [he] at h
    exact ⟨e, rfl, Option.some.inj h⟩
/-- who waits for a day takes all wants up to that day along -/
theorem sm_wait {g : Good} (N : NonNeg g.days) (hl : ∀ l, g.life = some l → 0 ≤ l) {S : Nat → Prop} {n : Nat} {p : Nat → Int} (hn : n ≤ g.days.length) {k k' b b' : Nat} (hk : k < k') (hb : k' ≤ b) (mk : MinP g S n k (p k)) (mk' : MinP g S n k' (p k')) (h : Sm g S n p k b) (h' : Sm g S n p k' b') : b' = b := by
  have hle := sm_mono N hn hk mk mk' h h'
  by_cases e : b' = b
  · exact e
  · exfalso
    have hlt : b < b' := by omega
    have l1 := h.lt
    have l2 := h'.lt
    have db : g.days[b]? = some (g.days[b]'(by omega)) := List.getElem?_eq_getElem (by omega)
    have db' : g.days[b']? = some (g.days[b']'(by omega)) := List.getElem?_eq_getElem (by omega)
    generalize g.days[b]'(by omega) = d at db
    generalize g.days[b']'(by omega) = d' at db'
    obtain ⟨x, hx, ex⟩ := loafP_ext' db h.at_
    obtain ⟨y, hy, ey⟩ := loafP_ext' db' h'.at_
    have fx := (ext_fine (show k < b by omega)).mp hx
    have fy := (ext_fine (show k' < b' by omega)).mp hy
    obtain ⟨y1, y2, f1, f2, e12⟩ := finesL_split hb (show b ≤ b' by omega) fy
    have fj := finesL_join (show k ≤ b by omega) (show b ≤ b' by omega) fx f2
    have pj : loafP g b' k = some (d'.loaf + (x + y2)) := by
      rw [loafP_ext db', (ext_fine (show k < b' by omega)).mpr fj]
      rfl
    have a1 := mk.le b' h'.lt h'.mem _ pj
    have pk : loafP g b k' = some (d.loaf + y1) := by
      by_cases ekb : k' < b
      · rw [loafP_ext db, (ext_fine ekb).mpr f1]
        rfl
      · have ekb : k' = b := by omega
        subst ekb
        have z1 : y1 = 0 := by
          unfold finesL at f1
          rw [Nat.sub_self] at f1
          exact (Option.some.inj f1).symm
        have z2 : keepsL g.days k' k' = 0 := by
          unfold keepsL
          rw [Nat.sub_self]
          rfl
        rw [loafP_ext db, (ext_keep (Nat.le_refl k')).mpr ⟨fun l el => by have := hl l el; omega, z2⟩, z1]
        rfl
    have a2 := mk'.le b h.lt h.mem _ pk
    exact h'.first b hlt h.mem (by rw [pk]; congr 1; omega)
open Classical in
/-- no set of lit days costs less than the row tells -/
theorem row_le_set {g : Good} {lights row : Nat → Int} {M : Nat} (h : IsRow g lights row M) (hM : M ≤ g.days.length) (hl : ∀ b, 0 ≤ lights b) (N : NonNegW g.days) (hlf : ∀ l, g.life = some l → 0 ≤ l) : ∀ n, n ≤ M → ∀ (S : Nat → Prop) (p : Nat → Int) (c : Int), SetC g lights S n p c → row n ≤ c := by
  intro n
  induction n using Nat.strongRecOn with
  | ind n ih =>
    intro hn S p c hc
    have ls0 : ∀ (S : Nat → Prop) m, 0 ≤ litSum lights S m := fun S m => sumN_nonneg m fun k _ => by
      show 0 ≤ (if S k then lights k else 0)
      split
      · exact hl k
      · exact Int.le_refl 0
    by_cases hw : ∃ k, k < n ∧ wantN g k ≠ 0
    · obtain ⟨kl, hkl, wkl, lastk⟩ := exists_last hw
      obtain ⟨bs, hbs⟩ := sm_ex (hc.min kl hkl wkl)
      obtain ⟨f, ⟨hf1, hf2, hf3⟩, hf4⟩ := exists_least (P := fun k => k < n ∧ wantN g k ≠ 0 ∧ Sm g S n p k bs) ⟨kl, hkl, wkl, hbs⟩
      have hfk : f ≤ kl := by
        by_cases e : f ≤ kl
        · exact e
        · exact absurd ⟨hkl, wkl, hbs⟩ (hf4 kl (by omega))
      have hbn := hbs.lt
      have lo : ∀ k, k < f → wantN g k ≠ 0 → ∃ b, Sm g S n p k b ∧ b < f ∧ b < bs := by
        intro k hk wk
        obtain ⟨b, hb⟩ := sm_ex (hc.min k (by omega) wk)
        have h1 := sm_mono N.nn (by omega) hk (hc.min k (by omega) wk) (hc.min f hf1 hf2) hb hf3
        have h2 : b ≠ bs := fun e => hf4 k hk ⟨by omega, wk, e ▸ hb⟩
        refine ⟨b, hb, ?_, by omega⟩
        by_cases e : b < f
        · exact e
        · exact absurd (sm_wait N.nn hlf (by omega) hk (by omega) (hc.min k (by omega) wk) (hc.min f hf1 hf2) hb hf3).symm h2
      have hi : ∀ k, f ≤ k → k < n → wantN g k ≠ 0 → loafP g bs k = some (p k) := by
        intro k hk hkn wk
        have hkkl : k ≤ kl := by
          by_cases e : k ≤ kl
          · exact e
          · exact absurd wk (lastk k (by omega) hkn)
        obtain ⟨b, hb⟩ := sm_ex (hc.min k hkn wk)
        have h1 : bs ≤ b := by
          by_cases e : f = k
          · subst e
            exact Nat.le_of_eq (sm_uniq hf3 hb)
          · exact sm_mono N.nn (by omega) (show f < k by omega) (hc.min f hf1 hf2) (hc.min k hkn wk) hf3 hb
        have h2 : b ≤ bs := by
          by_cases e : k = kl
          · subst e
            exact Nat.le_of_eq (sm_uniq hb hbs)
          · exact sm_mono N.nn (by omega) (show k < kl by omega) (hc.min k hkn wk) (hc.min kl hkl wkl) hb hbs
        have : b = bs := by omega
        subst this
        exact hb.at_
      -- the days ahead of the stretch
      have low : row f ≤ litSum lights (fun b => S b ∧ b < f ∧ b < bs) f + sumN (fun k => wantN g k * p k) f := by
        refine ih f hf1 (by omega) (fun b => S b ∧ b < f ∧ b < bs) p _ ⟨fun k hk wk => ?_, rfl⟩
        obtain ⟨b, hb, h1, h2⟩ := lo k hk wk
        exact ⟨⟨b, h1, ⟨hb.mem, h1, h2⟩, hb.at_⟩, fun b' hb' hs y hy => (hc.min k (by omega) wk).le b' (by omega) hs.1 y hy⟩
      -- the stretch
      have seg : segP (wantP g bs) f (n - f) = some (sumN (fun i => wantN g (f + i) * p (f + i)) (n - f)) := segP_of (q := fun k => wantN g k * p k) (n - f) fun i hi' => wantP_of (by omega) fun wk => hi (f + i) (by omega) (by omega) wk
      have least := h.least (n - 1) (by omega) _ (.inl ⟨bs, f, _, by omega, by omega, by rw [show n - 1 + 1 - f = n - f by omega]; exact seg, rfl⟩)
      rw [show n - 1 + 1 = n by omega] at least
      have spl := sumN_split (fun k => wantN g k * p k) f (n - f)
      rw [show f + (n - f) = n by omega] at spl
      -- the lights
      have lit : litSum lights (fun b => S b ∧ b < f ∧ b < bs) f + lights bs ≤ litSum lights S n := by
        have g1 : litSum lights (fun b => S b ∧ b < f ∧ b < bs) f ≤ litSum lights (fun b => S b ∧ b < f ∧ b < bs) n := sumN_grow (by omega) fun k _ => by
          dsimp only
          split
          · exact hl k
          · exact Int.le_refl 0
        have g2 := sumN_one (L := lights) n hbn
        have g3 : litSum lights (fun b => S b ∧ b < f ∧ b < bs) n + sumN (fun x => if x = bs then lights x else 0) n ≤ litSum lights S n := by
          unfold litSum
          rw [← sumN_add]
          refine sumN_le n fun k hk => ?_
          have lk := hl k
          by_cases e : k = bs
          · subst e
            rw [if_neg (fun z => by omega), if_pos rfl, if_pos hbs.mem]
            omega
          · rw [if_neg e]
            by_cases e2 : S k ∧ k < f ∧ k < bs
            · rw [if_pos e2, if_pos e2.1]
              omega
            · rw [if_neg e2]
              split <;> omega
        omega
      have cc := hc.cost
      omega
    · have z : ∀ k, k < n → wantN g k = 0 := fun k hk => Decidable.not_not.mp fun e => hw ⟨k, hk, e⟩
      have a := row_flat h (f := 0) n (by omega) hn fun k _ hk => wantN_zero (by omega) (z k hk)
      rw [h.zero] at a
      have b := hc.cost
      rw [sumN_zero n fun k hk => by rw [z k hk, Int.zero_mul]] at b
      have := ls0 S n
      omega
open Classical in
theorem exists_min {g : Good} {S : Nat → Prop} {k : Nat} : ∀ n, (∃ b z, b < n ∧ S b ∧ loafP g b k = some z) → ∃ z, MinP g S n k z
  | 0, h => by
    obtain ⟨b, z, hb, _⟩ := h
    omega
  | n + 1, h => by
    by_cases h0 : ∃ b z, b < n ∧ S b ∧ loafP g b k = some z
    · obtain ⟨z, ⟨b, hb, hs, hz⟩, hle⟩ := exists_min n h0
      by_cases hn : S n ∧ ∃ y, loafP g n k = some y ∧ y < z
      · obtain ⟨sn, y, hy, hyz⟩ := hn
        refine ⟨y, ⟨n, by omega, sn, hy⟩, fun b' hb' hs' y' hy' => ?_⟩
        by_cases e : b' = n
        · subst e
          rw [hy] at hy'
          have := Option.some.inj hy'
          omega
        · have := hle b' (by omega) hs' y' hy'
          omega
      · refine ⟨z, ⟨b, by omega, hs, hz⟩, fun b' hb' hs' y' hy' => ?_⟩
        by_cases e : b' = n
        · subst e
          by_cases hh : z ≤ y'
          · exact hh
          · exact absurd ⟨hs', y', hy', by omega⟩ hn
        · exact hle b' (by omega) hs' y' hy'
    · obtain ⟨b, z, hb, hs, hz⟩ := h
      have e : b = n := by
        by_cases e : b = n
        · exact e
        · exact absurd ⟨b, z, by omega, hs, hz⟩ h0
      subst e
      refine ⟨z, ⟨b, by omega, hs, hz⟩, fun b' hb' hs' y' hy' => ?_⟩
      by_cases e : b' = b
      · subst e
        rw [hz] at hy'
        have := Option.some.inj hy'
        omega
      · exact absurd ⟨b', y', by omega, hs', hy'⟩ h0
theorem wantP_inv {g : Good} {b k : Nat} {z : Int} (h : wantP g b k = some z) : (wantN g k = 0 ∧ z = 0) ∨ ∃ y, loafP g b k = some y ∧ z = wantN g k * y := by
  unfold wantP at h
  unfold wantN
  cases hd : g.days[k]? with
  | none => rw [hd] at h; cases h
  | some d =>
    rw [hd] at h
    dsimp only at h ⊢
    split at h
    · exact .inl ⟨by assumption, (Option.some.inj h).symm⟩
    · cases hp : loafP g b k with
      | none => rw [hp] at h; cases h
      | some y =>
        rw [hp] at h
        exact .inr ⟨y, rfl, (Option.some.inj h).symm⟩
theorem segP_sum {w : Nat → Option Int} {f : Nat} : ∀ {n : Nat} {s : Int}, segP w f n = some s → ∃ q : Nat → Int, (∀ i, i < n → w (f + i) = some (q (f + i))) ∧ s = sumN (fun i => q (f + i)) n
  | 0, s, h => ⟨fun _ => 0, fun i hi => by omega, (Option.some.inj h).symm⟩
  | n + 1, s, h => by
    obtain ⟨x, y, h1, h2, h3⟩ := segP_succ h
    obtain ⟨q, q1, q2⟩ := segP_sum h1
    refine ⟨fun k => if k = f + n then y else q k, fun i hi => ?_, ?_⟩
    · dsimp only
      by_cases e : i = n
      · subst e
        rw [if_pos rfl]
        exact h2
      · rw [if_neg (by omega)]
        exact q1 i (by omega)
    · show s = sumN (fun i => if f + i = f + n then y else q (f + i)) n + (if f + n = f + n then y else q (f + n))
      rw [if_pos rfl, sumN_congr (f' := fun i => q (f + i)) n fun i hi => if_neg (by omega), ← q2]
      exact h3
open Classical in
/-- some set of lit days costs no more than the row tells -/
theorem set_of_row {g : Good} {lights row : Nat → Int} {M : Nat} (h : IsRow g lights row M) (hM : M ≤ g.days.length) (hl : ∀ b, 0 ≤ lights b) (N : NonNegW g.days) : ∀ n, n ≤ M → ∃ (S : Nat → Prop) (p : Nat → Int) (c : Int), SetC g lights S n p c ∧ c ≤ row n := by
  intro n
  induction n using Nat.strongRecOn with
  | ind n ih =>
    intro hn
    cases n with
    | zero => exact ⟨fun _ => False, fun _ => 0, 0, ⟨fun k hk => by omega, rfl⟩, by rw [h.zero]; exact Int.le_refl 0⟩
    | succ m =>
      rcases h.some m (by omega) with ⟨b, f, s, hb, hf, hs, hv⟩ | ⟨⟨d, hd, hw⟩, hv⟩
      · obtain ⟨S, p, c, hc, hle⟩ := ih f (by omega) (by omega)
        obtain ⟨q, q1, q2⟩ := segP_sum hs
        let S' : Nat → Prop := fun x => (x < f ∧ S x) ∨ x = b
        have ex : ∀ k, ∃ z, k < m + 1 → wantN g k ≠ 0 → MinP g S' (m + 1) k z := by
          intro k
          by_cases hk : k < m + 1 ∧ wantN g k ≠ 0
          · have : ∃ z, MinP g S' (m + 1) k z := exists_min (m + 1) (by
              by_cases hkf : k < f
              · obtain ⟨b', h1, h2, h3⟩ := (hc.min k hkf hk.2).ex
                exact ⟨b', _, by omega, .inl ⟨h1, h2⟩, h3⟩
              · have e := q1 (k - f) (by omega)
                rw [show f + (k - f) = k by omega] at e
                rcases wantP_inv e with ⟨e1, _⟩ | ⟨y, e1, _⟩
                · exact absurd e1 hk.2
                · exact ⟨b, y, by omega, .inr rfl, e1⟩)
            obtain ⟨z, hz⟩ := this
            exact ⟨z, fun _ _ => hz⟩
          · exact ⟨0, fun h1 h2 => absurd ⟨h1, h2⟩ hk⟩
        let p' : Nat → Int := fun k => choose (ex k)
        have hp' : ∀ k, k < m + 1 → wantN g k ≠ 0 → MinP g S' (m + 1) k (p' k) := fun k => choose_spec (ex k)
        refine ⟨S', p', _, ⟨hp', rfl⟩, ?_⟩
        have spl := sumN_split (fun k => wantN g k * p' k) f (m + 1 - f)
        rw [show f + (m + 1 - f) = m + 1 by omega] at spl
        have w1 : sumN (fun k => wantN g k * p' k) f ≤ sumN (fun k => wantN g k * p k) f := sumN_le f fun k hk => by
          by_cases e : wantN g k = 0
          · rw [e, Int.zero_mul, Int.zero_mul]
            exact Int.le_refl 0
          · obtain ⟨b', h1, h2, h3⟩ := (hc.min k hk e).ex
            exact Int.mul_le_mul_of_nonneg_left ((hp' k (by omega) e).le b' (by omega) (.inl ⟨h1, h2⟩) _ h3) (wantN_nonneg N k)
        have w2 : sumN (fun i => wantN g (f + i) * p' (f + i)) (m + 1 - f) ≤ s := by
          rw [q2]
          refine sumN_le _ fun i hi => ?_
          have e := q1 i hi
          by_cases ew : wantN g (f + i) = 0
          · have := wantP_nonneg N e
            rw [ew, Int.zero_mul]
            exact this
          · rcases wantP_inv e with ⟨e1, _⟩ | ⟨y, e1, e2⟩
            · exact absurd e1 ew
            · rw [e2]
              exact Int.mul_le_mul_of_nonneg_left ((hp' (f + i) (by omega) ew).le b (by omega) (.inr rfl) _ e1) (wantN_nonneg N _)
        have l1 : litSum lights S' (m + 1) ≤ litSum lights S f + lights b := by
          have e1 : litSum lights S f = litSum lights (fun x => x < f ∧ S x) (m + 1) := by
            have e := sumN_split (fun x => if x < f ∧ S x then lights x else 0) f (m + 1 - f)
            rw [show f + (m + 1 - f) = m + 1 by omega, sumN_zero (f := fun i => if f + i < f ∧ S (f + i) then lights (f + i) else 0) _ fun i _ => if_neg fun z => by omega] at e
            unfold litSum
            rw [sumN_congr (f' := fun x => if x < f ∧ S x then lights x else 0) f fun k hk => by
              by_cases e : S k
              · rw [if_pos e, if_pos ⟨hk, e⟩]
              · rw [if_neg e, if_neg fun z => e z.2]]
            have e2 : ∀ A : Int, A + 0 = A := Int.add_zero
            rw [e2] at e
            rw [← e]
            refine sumN_congr _ fun k _ => ?_
            by_cases e : k < f ∧ S k
            · rw [if_pos e, if_pos e]
            · rw [if_neg e, if_neg e]
          have e2 := sumN_one (L := lights) (m + 1) (show b < m + 1 by omega)
          rw [e1, ← e2]
          unfold litSum
          rw [← sumN_add]
          refine sumN_le _ fun k hk => ?_
          have lk := hl k
          dsimp only
          by_cases e3 : k = b
          · rw [if_pos (show S' k from .inr e3), if_pos e3]
            split <;> omega
          · by_cases e4 : k < f ∧ S k
            · rw [if_pos (show S' k from .inl e4), if_pos e4, if_neg e3]
              omega
            · rw [if_neg (show ¬ S' k from fun z => z.elim e4 e3), if_neg e4, if_neg e3]
              omega
        have cc := hc.cost
        omega
      · obtain ⟨S, p, c, hc, hle⟩ := ih m (by omega) (by omega)
        have ew : wantN g m = 0 := by
          unfold wantN
          rw [hd]
          exact hw
        refine ⟨fun x => x < m ∧ S x, p, c, ⟨fun k hk wk => ?_, ?_⟩, by rw [hv]; exact hle⟩
        · have hkm : k < m := by
            by_cases e : k = m
            · subst e; exact absurd ew wk
            · omega
          have mk := hc.min k hkm wk
          obtain ⟨b, h1, h2, h3⟩ := mk.ex
          exact ⟨⟨b, by omega, ⟨h1, h2⟩, h3⟩, fun b' hb' hs y hy => mk.le b' hs.1 hs.2 y hy⟩
        · have e1 : litSum lights (fun x => x < m ∧ S x) (m + 1) = litSum lights S m := by
            have e0 : litSum lights (fun x => x < m ∧ S x) (m + 1) = litSum lights (fun x => x < m ∧ S x) m + 0 := by
              refine congrArg (litSum lights (fun x => x < m ∧ S x) m + ·) ?_
              exact if_neg fun z => absurd z.1 (by omega)
            rw [e0, Int.add_zero]
            refine sumN_congr _ fun k hk => ?_
            dsimp only
            by_cases e : S k
            · rw [if_pos e, if_pos ⟨hk, e⟩]
            · rw [if_neg e, if_neg fun z => e z.2]
          rw [e1, hc.cost]
          show _ = litSum lights S m + (sumN (fun k => wantN g k * p k) m + wantN g m * p m)
          rw [ew, Int.zero_mul, Int.add_zero]
theorem setC_uniq {g : Good} {lights : Nat → Int} {S : Nat → Prop} {n : Nat} {p p' : Nat → Int} {c c' : Int} (h : SetC g lights S n p c) (h' : SetC g lights S n p' c') : c = c' := by
  rw [h.cost, h'.cost, sumN_congr (f' := fun k => wantN g k * p' k) n fun k hk => ?_]
  by_cases e : wantN g k = 0
  · rw [e, Int.zero_mul, Int.zero_mul]
  · have a := h.min k hk e
    have b := h'.min k hk e
    obtain ⟨b1, h1, h2, h3⟩ := a.ex
    obtain ⟨b2, h4, h5, h6⟩ := b.ex
    have := a.le b2 h4 h5 _ h6
    have := b.le b1 h1 h2 _ h3
    rw [show p k = p' k by omega]
end Bk

namespace Bk
open PySem PySem.Spec PyProof.Rows L2
def rShr : R2 := fun x y H Q => ∃ (i : Int) (k : Nat), x = .int i ∧ y = .int (k : Int) ∧ Q (.int (i / 2 ^ k)) H
def rOdd : R2 := fun x y H Q => ∃ n : Nat, x = .int (n : Int) ∧ y = .int 1 ∧ Q (.int ((n % 2 : Nat) : Int)) H
theorem op_shrK {X : Cx} : OpR X (binaryOp .RShift) rShr := op_shrN
theorem op_oddK {X : Cx} : OpR X (binaryOp .BitAnd) rOdd := op_odd
theorem rShr_i {i j : Int} {H : Hp} {Q : VK} : rShr (.int i) (.int j) H Q = ∃ k : Nat, j = (k : Int) ∧ Q (.int (i / 2 ^ k)) H := propext ⟨fun ⟨_, k, e1, e2, h⟩ => by cases e1; cases e2; exact ⟨k, rfl, h⟩, fun ⟨k, e, h⟩ => ⟨i, k, rfl, by rw [e], h⟩⟩
theorem rOdd_i {i : Int} {H : Hp} {Q : VK} : rOdd (.int i) (.int 1) H Q = ∃ n : Nat, i = (n : Int) ∧ Q (.int ((n % 2 : Nat) : Int)) H := propext ⟨fun ⟨n, e1, e2, h⟩ => by cases e1; exact ⟨n, rfl, h⟩, fun ⟨n, e, h⟩ => ⟨n, by rw [e], rfl, h⟩⟩
def litL (S : Nat → Bool) (n : Nat) : List Nat := (List.range n).filter S
def inS (S : Nat → Bool) (b : Nat) : Prop := S b = true
theorem litL_mem {S : Nat → Bool} {n b : Nat} : b ∈ litL S n ↔ b < n ∧ inS S b := by
  unfold litL inS
  rw [List.mem_filter, List.mem_range]
theorem litL_length (S : Nat → Bool) (n : Nat) : (litL S n).length ≤ n := by
  have : ((List.range n).filter S).length ≤ (List.range n).length := List.length_filter_le ..
  rw [List.length_range] at this
  exact this
theorem sum_lit (L : Nat → Int) (S : Nat → Bool) : ∀ n, ((litL S n).map L).sum = litSum L (inS S) n
  | 0 => rfl
  | n + 1 => by
    have ih := sum_lit L S n
    have e : litSum L (inS S) (n + 1) = litSum L (inS S) n + (if S n = true then L n else 0) := by
      refine congrArg (litSum L (inS S) n + ·) ?_
      unfold inS
      by_cases h : S n = true
      · rw [if_pos h]; exact if_pos h
      · rw [if_neg h]; exact if_neg h
    rw [e, ← ih]
    unfold litL
    rw [List.range_succ, List.filter_append, List.map_append, sum_append']
    congr 1
    by_cases h : S n = true
    · rw [if_pos h]
      simp [h]
    · rw [if_neg h]
      simp [h]
theorem minP_of {g : Good} {S : Nat → Bool} {n k : Nat} {z : Int} (h : z ∈ ((litL S n).map fun b => loafP g b k).filterMap id) (hle : ∀ y, y ∈ ((litL S n).map fun b => loafP g b k).filterMap id → z ≤ y) : MinP g (inS S) n k z := by
  have mem : ∀ y, y ∈ ((litL S n).map fun b => loafP g b k).filterMap id ↔ ∃ b, b < n ∧ inS S b ∧ loafP g b k = some y := by
    intro y
    rw [List.mem_filterMap]
    constructor
    · rintro ⟨o, ho, e⟩
      obtain ⟨b, hb, rfl⟩ := List.mem_map.mp ho
      exact ⟨b, (litL_mem.mp hb).1, (litL_mem.mp hb).2, e⟩
    · rintro ⟨b, h1, h2, h3⟩
      exact ⟨_, List.mem_map.mpr ⟨b, litL_mem.mpr ⟨h1, h2⟩, rfl⟩, h3⟩
  exact ⟨(mem z).mp h, fun b hb hs y hy => hle y ((mem y).mpr ⟨b, hb, hs, hy⟩)⟩
theorem no_minP {g : Good} {S : Nat → Bool} {n k : Nat} {z : Int} (h : ((litL S n).map fun b => loafP g b k).filterMap id = []) (m : MinP g (inS S) n k z) : False := by
  obtain ⟨b, h1, h2, h3⟩ := m.ex
  have : z ∈ ((litL S n).map fun b => loafP g b k).filterMap id := List.mem_filterMap.mpr ⟨_, List.mem_map.mpr ⟨b, litL_mem.mpr ⟨h1, h2⟩, rfl⟩, h3⟩
  rw [h] at this
  cases this
/-- ints == [] -/
theorem eq_nil_ints {K : PySem.W.Frag} {H : Hp} {a b : Addr} {ns : List Int} {Q : VK} (h1 : SqL K H a (ns.map V.int)) (h3 : SqL K H b []) (q : Q (.bl (decide (ns = []))) H) : rEqD K (.ref a) (.ref b) H Q := by
  refine ⟨_, .list [], .lst h1 (dp_ints ns), .lst h3 .nil, shaped_ints ns, by simp [SeqAt.shaped, PyData.canLay0, PyData.canLayAll0, PyData.depth, PyData.depthAll], ?_⟩
  cases ns with
  | nil => exact q
  | cons d r => exact q
def bitS (num b : Nat) : Bool := decide (num / 2 ^ b % 2 = 1)
theorem bits_ex : ∀ (n : Nat) (S : Nat → Prop), ∃ num, num < 2 ^ n ∧ ∀ b, b < n → (inS (bitS num) b ↔ S b)
  | 0, S => ⟨0, by decide, fun b hb => by omega⟩
  | n + 1, S => by
    obtain ⟨num, h1, h2⟩ := bits_ex n fun b => S (b + 1)
    have key : ∀ e : Nat, e < 2 → ∀ b, inS (bitS (e + 2 * num)) b ↔ (b = 0 ∧ e = 1) ∨ (0 < b ∧ inS (bitS num) (b - 1)) := by
      intro e he b
      unfold inS bitS
      simp only [decide_eq_true_eq]
      cases b with
      | zero =>
        rw [Nat.pow_zero, Nat.div_one]
        omega
      | succ b =>
        rw [show 2 ^ (b + 1) = 2 * 2 ^ b by rw [Nat.pow_succ, Nat.mul_comm], ← Nat.div_div_eq_div_mul, show (e + 2 * num) / 2 = num by omega, Nat.add_sub_cancel]
        constructor
        · intro h
          exact .inr ⟨Nat.succ_pos _, h⟩
        · rintro (⟨h, _⟩ | ⟨_, h⟩)
          · exact absurd h (Nat.succ_ne_zero _)
          · exact h
    by_cases h0 : S 0
    · refine ⟨1 + 2 * num, by rw [Nat.pow_succ]; omega, fun b hb => ?_⟩
      rw [key 1 (by decide)]
      cases b with
      | zero => exact ⟨fun _ => h0, fun _ => .inl ⟨rfl, rfl⟩⟩
      | succ b =>
        rw [Nat.add_sub_cancel, ← h2 b (by omega)]
        constructor
        · rintro (⟨h, _⟩ | ⟨_, h⟩)
          · exact absurd h (Nat.succ_ne_zero _)
          · exact h
        · intro h
          exact .inr ⟨Nat.succ_pos _, h⟩
    · refine ⟨0 + 2 * num, by rw [Nat.pow_succ]; omega, fun b hb => ?_⟩
      rw [key 0 (by decide)]
      cases b with
      | zero =>
        constructor
        · rintro (⟨_, h⟩ | ⟨h, _⟩)
          · exact absurd h (by decide)
          · exact absurd h (by decide)
        · intro h
          exact absurd h h0
      | succ b =>
        rw [Nat.add_sub_cancel, ← h2 b (by omega)]
        constructor
        · rintro (⟨h, _⟩ | ⟨_, h⟩)
          · exact absurd h (Nat.succ_ne_zero _)
          · exact h
        · intro h
          exact .inr ⟨Nat.succ_pos _, h⟩
theorem setC_congr {g : Good} {lights : Nat → Int} {S S' : Nat → Prop} {n : Nat} {p : Nat → Int} {c : Int} (e : ∀ b, b < n → (S b ↔ S' b)) (h : SetC g lights S n p c) : SetC g lights S' n p c := by
  refine ⟨fun k hk wk => ?_, ?_⟩
  · have m := h.min k hk wk
    obtain ⟨b, h1, h2, h3⟩ := m.ex
    exact ⟨⟨b, h1, (e b h1).mp h2, h3⟩, fun b' hb' hs y hy => m.le b' hb' ((e b' hb').mpr hs) y hy⟩
  · rw [h.cost]
    congr 1
    unfold litSum
    refine sumN_congr n fun b hb => ?_
    by_cases h1 : S b
    · rw [if_pos h1, if_pos ((e b hb).mp h1)]
    · rw [if_neg h1, if_neg fun z => h1 ((e b hb).mpr z)]
/-- what the best of the first so many sets is -/
structure Best (g : Good) (lights : Nat → Int) (n i : Nat) (o : Option Int) : Prop where
  from_ : ∀ c, o = some c → ∃ S p, SetC g lights S n p c
  upto : ∀ num, num < i → num < 2 ^ n → ∀ p c, SetC g lights (inS (bitS num)) n p c → ∃ c0, o = some c0 ∧ c0 ≤ c
theorem Best.done {g : Good} {lights row : Nat → Int} {n i M : Nat} {o : Option Int} (h : Best g lights n i o) (hi : 2 ^ n ≤ i) (hR : IsRow g lights row M) (hn : n ≤ M) (hM : M ≤ g.days.length) (hl : ∀ b, 0 ≤ lights b) (N : NonNegW g.days) (hlf : ∀ l, g.life = some l → 0 ≤ l) : o = some (row n) := by
  obtain ⟨S, p, c, hc, hle⟩ := set_of_row hR hM hl N n hn
  obtain ⟨num, h1, h2⟩ := bits_ex n S
  obtain ⟨c0, rfl, hc0⟩ := h.upto num (by omega) h1 p c (setC_congr (fun b hb => (h2 b hb).symm) hc)
  obtain ⟨S', p', h'⟩ := h.from_ c0 rfl
  have := row_le_set hR hM hl N hlf n hn S' p' c0 h'
  congr 1
  omega
theorem rSetL_r {p : Addr} {k : Int} {v : V} {H : Hp} {Q : Hp → Prop} : rSetL (.ref p) (.int k) v H Q = ∃ xs j, H p = some (.lst xs) ∧ ixN xs.length k = some j ∧ Q (upd H p (.lst (xs.set j v))) := propext ⟨fun ⟨_, xs, _, j, e1, e2, h⟩ => by cases e1; cases e2; exact ⟨xs, j, h⟩, fun ⟨xs, j, h⟩ => ⟨p, xs, k, j, rfl, rfl, h⟩⟩
theorem due_row {g : Good} {ls rs : List Int} {os : List (Option Int)} (hb : ∀ j o, os[j]? = some o → Best g (rowF ls) j 64 o) (hl : os.length = ls.length + 1) (h6 : ls.length ≤ 6) (hg : g.days.length = ls.length) (hR : IsRow g (rowF ls) (rowF rs) ls.length) (hrl : rs.length = ls.length + 1) (hn : ∀ b, 0 ≤ rowF ls b) (N : NonNegW g.days) (hlf : ∀ l, g.life = some l → 0 ≤ l) : os.map optV = rs.map V.int := by
  apply List.ext_getElem?
  intro j
  by_cases hj : j < ls.length + 1
  · have e := List.getElem?_eq_getElem (show j < os.length by omega)
    have b := hb j _ e
    have hp : 2 ^ j ≤ 64 := Nat.pow_le_pow_right (by decide) (show j ≤ 6 by omega)
    have k := b.done hp hR (by omega) (by omega) hn N hlf
    rw [List.getElem?_map, e, k, rowF_get (by omega)]
    rfl
  · rw [List.getElem?_eq_none (by rw [List.length_map]; omega), List.getElem?_eq_none (by rw [List.length_map]; omega)]
end Bk

namespace Bk
open PySem PySem.Spec PyProof.Rows L2
/-! ### the row of least costs where wants may be baked on any of all days, and its steps as prices -/
structure IsAny (g : Good) (lights ar : Nat → Int) (c n : Nat) : Prop where
  zero : ar 0 = 0
  unw : ∀ m, m < n → wantN g m = 0 → ar (m + 1) = ar m
  some : ∀ m, m < n → wantN g m ≠ 0 → ChC ar lights (wantP g) c m (ar (m + 1))
  least : ∀ m, m < n → wantN g m ≠ 0 → ∀ v, ChC ar lights (wantP g) c m v → ar (m + 1) ≤ v
theorem wantN_at {g : Good} {k : Nat} {d : Day} (h : g.days[k]? = some d) : wantN g k = d.want := by
  unfold wantN
  rw [h]
theorem wantP_unw {g : Good} {b k : Nat} (hk : k < g.days.length) (h : wantN g k = 0) : wantP g b k = some 0 := by
  have e := wantP_of (g := g) (b := b) (k := k) (z := 0) hk fun z => absurd h z
  rw [e, h, Int.zero_mul]
theorem any_lets {g : Good} {lights ar : Nat → Int} {c n : Nat} (h : IsAny g lights ar c n) (hn : n ≤ g.days.length) (hl : ∀ b, 0 ≤ lights b) {b f : Nat} (hb : b < c) : ∀ (m : Nat) (s : Int), f + m ≤ n → segP (wantP g b) f m = some s → ar (f + m) ≤ ar f + lights b + s
  | 0, s, _, hs => by
    rw [segP_zero] at hs
    have e := Option.some.inj hs
    have := hl b
    rw [Nat.add_zero]
    omega
  | m + 1, s, hm, hs => by
    by_cases hw : wantN g (f + m) = 0
    · obtain ⟨x, y, h1, h2, h3⟩ := segP_succ hs
      have ih := any_lets h hn hl hb m x (by omega) h1
      rw [wantP_unw (by omega) hw] at h2
      have e2 := Option.some.inj h2
      have e3 := h.unw (f + m) (by omega) hw
      rw [show f + (m + 1) = f + m + 1 by omega, e3]
      omega
    · exact h.least (f + m) (by omega) hw _ ⟨b, f, s, hb, by omega, by rw [show f + m + 1 - f = m + 1 by omega]; exact hs, rfl⟩
theorem any_le_row {g : Good} {lights ar row : Nat → Int} {c n : Nat} (h : IsAny g lights ar c n) (hr : IsRow g lights row n) (hc : n ≤ c) (hn : n ≤ g.days.length) (hl : ∀ b, 0 ≤ lights b) : ∀ m, m ≤ n → ar m ≤ row m := by
  intro m
  induction m using Nat.strongRecOn with
  | ind m ih =>
    intro hm
    cases m with
    | zero => rw [h.zero, hr.zero]; exact Int.le_refl 0
    | succ m =>
      rcases hr.some m (by omega) with ⟨b, f, s, hb, hf, hs, hv⟩ | ⟨⟨d, hd, hw⟩, hv⟩
      · have a := any_lets h hn hl (show b < c by omega) (m + 1 - f) s (by omega) hs
        rw [show f + (m + 1 - f) = m + 1 by omega] at a
        have := ih f (by omega) (by omega)
        omega
      · have e := h.unw m (by omega) ((wantN_at hd).trans hw)
        have := ih m (by omega) (by omega)
        omega
/-- lit days and prices of loaves by which the first m days' wants cost no more than v -/
structure Cov (g : Good) (lights : Nat → Int) (c m : Nat) (S : Nat → Prop) (p : Nat → Int) (v : Int) : Prop where
  ex : ∀ k, k < m → wantN g k ≠ 0 → ∃ b, b < c ∧ S b ∧ loafP g b k = some (p k)
  le : litSum lights S c + sumN (fun k => wantN g k * p k) m ≤ v
theorem litSum_add {lights : Nat → Int} (hl : ∀ b, 0 ≤ lights b) {S : Nat → Prop} {b c : Nat} (hb : b < c) : litSum lights (fun x => S x ∨ x = b) c ≤ litSum lights S c + lights b := by
  have e2 := sumN_one (L := lights) c hb
  rw [← e2]
  unfold litSum
  rw [← sumN_add]
  refine sumN_le _ fun k hk => ?_
  have lk := hl k
  dsimp only
  by_cases e3 : k = b
  · rw [if_pos (show S k ∨ k = b from .inr e3), if_pos e3]
    split <;> omega
  · by_cases e4 : S k
    · rw [if_pos (show S k ∨ k = b from .inl e4), if_pos e4, if_neg e3]
      omega
    · rw [if_neg (show ¬ (S k ∨ k = b) from fun z => z.elim e4 e3), if_neg e4, if_neg e3]
      omega
theorem any_cov {g : Good} {lights ar : Nat → Int} {c n : Nat} (h : IsAny g lights ar c n) (hl : ∀ b, 0 ≤ lights b) (N : NonNegW g.days) : ∀ m, m ≤ n → ∃ (S : Nat → Prop) (p : Nat → Int), Cov g lights c m S p (ar m) := by
  intro m
  induction m using Nat.strongRecOn with
  | ind m ih =>
    intro hm
    cases m with
    | zero =>
      refine ⟨fun _ => False, fun _ => 0, ⟨fun k hk => by omega, ?_⟩⟩
      rw [h.zero]
      have e : litSum lights (fun _ => False) c = 0 := by
        unfold litSum
        exact sumN_zero c fun k _ => if_neg id
      rw [e]
      exact Int.le_refl 0
    | succ m =>
      by_cases hw : wantN g m = 0
      · obtain ⟨S, p, hc⟩ := ih m (by omega) (by omega)
        refine ⟨S, p, ⟨fun k hk wk => hc.ex k ?_ wk, ?_⟩⟩
        · by_cases e : k = m
          · subst e; exact absurd hw wk
          · omega
        · have e := h.unw m (by omega) hw
          have le := hc.le
          show litSum lights S c + (sumN (fun k => wantN g k * p k) m + wantN g m * p m) ≤ _
          rw [hw, Int.zero_mul, Int.add_zero, e]
          exact le
      · obtain ⟨b, f, s, hb, hf, hs, hv⟩ := h.some m (by omega) hw
        obtain ⟨S, p, hc⟩ := ih f (by omega) (by omega)
        obtain ⟨q, q1, q2⟩ := segP_sum hs
        have ey : ∀ k, ∃ y : Int, f ≤ k → k < m + 1 → wantN g k ≠ 0 → loafP g b k = some y ∧ q k = wantN g k * y := by
          intro k
          by_cases hk : f ≤ k ∧ k < m + 1 ∧ wantN g k ≠ 0
          · have e := q1 (k - f) (by omega)
            rw [show f + (k - f) = k by omega] at e
            rcases wantP_inv e with ⟨e1, _⟩ | ⟨y, e1, e2⟩
            · exact absurd e1 hk.2.2
            · exact ⟨y, fun _ _ _ => ⟨e1, e2⟩⟩
          · exact ⟨0, fun h1 h2 h3 => absurd ⟨h1, h2, h3⟩ hk⟩
        let py : Nat → Int := fun k => Classical.choose (ey k)
        have hpy : ∀ k, f ≤ k → k < m + 1 → wantN g k ≠ 0 → loafP g b k = some (py k) ∧ q k = wantN g k * py k := fun k => Classical.choose_spec (ey k)
        refine ⟨fun x => S x ∨ x = b, fun k => if k < f then p k else py k, ⟨fun k hk wk => ?_, ?_⟩⟩
        · by_cases hkf : k < f
          · obtain ⟨b', h1, h2, h3⟩ := hc.ex k hkf wk
            exact ⟨b', h1, .inl h2, by rw [if_pos hkf]; exact h3⟩
          · exact ⟨b, hb, .inr rfl, by rw [if_neg hkf]; exact (hpy k (by omega) hk wk).1⟩
        · have l1 := litSum_add hl (S := S) hb
          have spl := sumN_split (fun k => wantN g k * (if k < f then p k else py k)) f (m + 1 - f)
          rw [show f + (m + 1 - f) = m + 1 by omega] at spl
          have w1 : sumN (fun k => wantN g k * (if k < f then p k else py k)) f = sumN (fun k => wantN g k * p k) f := sumN_congr f fun k hk => by
            rw [if_pos hk]
          have w2 : sumN (fun i => wantN g (f + i) * (if f + i < f then p (f + i) else py (f + i))) (m + 1 - f) ≤ s := by
            rw [q2]
            refine sumN_le _ fun i hi => ?_
            rw [if_neg (by omega)]
            by_cases ew : wantN g (f + i) = 0
            · rw [ew, Int.zero_mul]
              exact wantP_nonneg N (q1 i hi)
            · rw [(hpy (f + i) (by omega) (by omega) ew).2]
              exact Int.le_refl _
          have le := hc.le
          omega
/-- a cover of all days costs no less than the row tells -/
theorem row_le_cov {g : Good} {lights row : Nat → Int} {n : Nat} (hr : IsRow g lights row n) (hn : n ≤ g.days.length) (hl : ∀ b, 0 ≤ lights b) (N : NonNegW g.days) (hlf : ∀ l, g.life = some l → 0 ≤ l) {S : Nat → Prop} {p : Nat → Int} {v : Int} (h : Cov g lights n n S p v) : row n ≤ v := by
  have ex : ∀ k, ∃ z, k < n → wantN g k ≠ 0 → MinP g S n k z := by
    intro k
    by_cases hk : k < n ∧ wantN g k ≠ 0
    · obtain ⟨b, h1, h2, h3⟩ := h.ex k hk.1 hk.2
      obtain ⟨z, hz⟩ := exists_min (g := g) (S := S) (k := k) n ⟨b, _, h1, h2, h3⟩
      exact ⟨z, fun _ _ => hz⟩
    · exact ⟨0, fun h1 h2 => absurd ⟨h1, h2⟩ hk⟩
  let p' : Nat → Int := fun k => Classical.choose (ex k)
  have hp' : ∀ k, k < n → wantN g k ≠ 0 → MinP g S n k (p' k) := fun k => Classical.choose_spec (ex k)
  have a := row_le_set hr hn hl N hlf n (Nat.le_refl n) S p' _ ⟨hp', rfl⟩
  have w : sumN (fun k => wantN g k * p' k) n ≤ sumN (fun k => wantN g k * p k) n := sumN_le n fun k hk => by
    by_cases e : wantN g k = 0
    · rw [e, Int.zero_mul, Int.zero_mul]
      exact Int.le_refl 0
    · obtain ⟨b, h1, h2, h3⟩ := h.ex k hk e
      exact Int.mul_le_mul_of_nonneg_left ((hp' k hk e).le b h1 h2 _ h3) (wantN_nonneg N k)
  have le := h.le
  omega
theorem any_eq_row {g : Good} {lights ar row : Nat → Int} {n : Nat} (h : IsAny g lights ar n n) (hr : IsRow g lights row n) (hn : n ≤ g.days.length) (hl : ∀ b, 0 ≤ lights b) (N : NonNegW g.days) (hlf : ∀ l, g.life = some l → 0 ≤ l) : ar n = row n := by
  have a := any_le_row h hr (Nat.le_refl n) hn hl n (Nat.le_refl n)
  obtain ⟨S, p, hc⟩ := any_cov h hl N n (Nat.le_refl n)
  have b := row_le_cov hr hn hl N hlf hc
  omega
/-! ### prices that are let by -/
/-- by the document's words: whatever day of baking, whatever stretch -/
def Lets (g : Good) (lights pr : Nat → Int) (n : Nat) : Prop := ∀ b f m s, b < n → f + m ≤ n → segP (wantP g b) f m = some s → sumN (fun i => pr (f + i)) m ≤ lights b + s
theorem sumN_tele (r : Nat → Int) (f : Nat) : ∀ m, sumN (fun i => r (f + i + 1) - r (f + i)) m = r (f + m) - r f
  | 0 => by show (0 : Int) = r (f + 0) - r f; rw [Nat.add_zero]; omega
  | m + 1 => by
    show sumN (fun i => r (f + i + 1) - r (f + i)) m + (r (f + m + 1) - r (f + m)) = _
    rw [sumN_tele r f m, show f + (m + 1) = f + m + 1 by omega]
    omega
theorem any_prices {g : Good} {lights ar : Nat → Int} {n : Nat} (h : IsAny g lights ar n n) (hn : n ≤ g.days.length) (hl : ∀ b, 0 ≤ lights b) : Lets g lights (fun k => ar (k + 1) - ar k) n := by
  intro b f m s hb hm hs
  have a := any_lets h hn hl hb m s hm hs
  have e := sumN_tele ar f m
  show sumN (fun i => ar (f + i + 1) - ar (f + i)) m ≤ _
  rw [e]
  omega
end Bk

namespace Bk
open PySem PySem.Spec PyProof.Rows L2
/-! ### lists of larger ints, shown -/
theorem log40 {n : Nat} (h : n < 10 ^ 40) : n.log2 < 140 := by
  by_cases h0 : n = 0
  · subst h0
    decide
  · exact (Nat.log2_lt h0).mpr (Nat.lt_of_lt_of_le h (by decide))
theorem ints_facts : ∀ ns : List Int, (∀ z ∈ ns, z.natAbs < 10 ^ 40) → PyData.hasDictAll (ns.map PyData.int) = false ∧ PyData.showableAll (ns.map PyData.int) = true ∧ PyData.leavesShortAll 41 (ns.map PyData.int) = true ∧ PyData.weightAll (ns.map PyData.int) ≤ ns.length * 141
  | [], _ => by simp only [List.map, PyData.hasDictAll, PyData.showableAll, PyData.leavesShortAll, PyData.weightAll, and_self, true_and, List.length_nil, Nat.zero_mul, Nat.le_refl]
  | n :: r, h => by
    obtain ⟨h1, h2, h3, h4⟩ := ints_facts r fun z hz => h z (List.mem_cons_of_mem _ hz)
    have hn := h n List.mem_cons_self
    have hg := log40 hn
    have e : (PyData.shown (.int n)).length ≤ 41 := by
      have e := int_text_length_le10 (k := 40) (by decide) hn
      show (Str.ofString (toString n)).length ≤ 41
      rw [PySem.ofString_length]
      exact e
    refine ⟨?_, ?_, ?_, ?_⟩
    · simp only [List.map, PyData.hasDictAll, PyData.hasDict, h1, Bool.or_self]
    · simp only [List.map, PyData.showableAll, PyData.showable, h2, Bool.and_true, decide_eq_true_eq]
      omega
    · simp only [List.map, PyData.leavesShortAll, PyData.leavesShort, h3, Bool.and_true, decide_eq_true_eq]
      exact e
    · simp only [List.map, PyData.weightAll, PyData.weight, List.length_cons, Nat.add_mul, Nat.one_mul]
      split <;> omega
theorem shows_ints {ns : List Int} (h : ∀ z ∈ ns, z.natAbs < 10 ^ 40) (hl : ns.length ≤ 1000) : Shows (.list (ns.map PyData.int)) := by
  obtain ⟨h1, h2, h3, h4⟩ := ints_facts ns h
  refine ⟨by simp only [PyData.hasDict, h1], by simp only [PyData.showable, h2], by simp only [PyData.depth, depth_ints]; decide, ?_⟩
  have e := PyData.shown_le 41 (by decide) (.list (ns.map PyData.int)) (by simp only [PyData.leavesShort, h3])
  have w : (PyData.list (ns.map PyData.int)).weight ≤ 141000 := by
    simp only [PyData.weight]
    have : ns.length * 141 ≤ 1000 * 141 := Nat.mul_le_mul_right _ hl
    omega
  rw [sizeLine_eq]
  have : (41 + 2) * (PyData.list (ns.map PyData.int)).weight ≤ 43 * 141000 := Nat.mul_le_mul (by decide) w
  omega
/-! ### the row anywhere, number by number -/
theorem ChC.congr {row row' lights : Nat → Int} {w : Nat → Nat → Option Int} {c m : Nat} {v : Int} (e : ∀ f, f ≤ m → row f = row' f) (h : ChC row lights w c m v) : ChC row' lights w c m v := by
  obtain ⟨b, f, s, hb, hf, hs, hv⟩ := h
  exact ⟨b, f, s, hb, hf, hs, by rw [← e f hf]; exact hv⟩
theorem IsAny.init (g : Good) (lights : Nat → Int) (c : Nat) : IsAny g lights (rowF [0]) c 0 := ⟨rfl, fun m h => by omega, fun m h => by omega, fun m h => by omega⟩
theorem IsAny.snoc {g : Good} {lights : Nat → Int} {rs : List Int} {c n : Nat} {v : Int} (h : IsAny g lights (rowF rs) c n) (hl : rs.length = n + 1) (h0 : wantN g n = 0 → v = rowF rs n) (h1 : wantN g n ≠ 0 → ChC (rowF rs) lights (wantP g) c n v ∧ ∀ u, ChC (rowF rs) lights (wantP g) c n u → v ≤ u) :
    IsAny g lights (rowF (rs ++ [v])) c (n + 1) := by
  have e : ∀ f, f ≤ n → rowF rs f = rowF (rs ++ [v]) f := fun f hf => (rowF_snoc (by omega)).symm
  have e' : ∀ f, f ≤ n → rowF (rs ++ [v]) f = rowF rs f := fun f hf => rowF_snoc (by omega)
  have el : rowF (rs ++ [v]) (n + 1) = v := rowF_last hl
  refine ⟨by rw [e' 0 (by omega)]; exact h.zero, fun m hm hw => ?_, fun m hm hw => ?_, fun m hm hw u hu => ?_⟩
  · by_cases hlt : m < n
    · rw [e' (m + 1) (by omega), e' m (by omega)]
      exact h.unw m hlt hw
    · have : m = n := by omega
      subst this
      rw [el, e' m (by omega)]
      exact h0 hw
  · by_cases hlt : m < n
    · rw [e' (m + 1) (by omega)]
      exact (h.some m hlt hw).congr fun f hf => e f (by omega)
    · have : m = n := by omega
      subst this
      rw [el]
      exact (h1 hw).1.congr e
  · by_cases hlt : m < n
    · rw [e' (m + 1) (by omega)]
      exact h.least m hlt hw u (hu.congr fun f hf => e' f (by omega))
    · have : m = n := by omega
      subst this
      rw [el]
      exact (h1 hw).2 u (hu.congr e')
theorem IsAny.ext {g : Good} {lights ar ar' : Nat → Int} {c n : Nat} (h : IsAny g lights ar c n) (h' : IsAny g lights ar' c n) : ∀ m, m ≤ n → ar m = ar' m := by
  intro m
  induction m using Nat.strongRecOn with
  | ind m ih =>
    intro hm
    cases m with
    | zero => rw [h.zero, h'.zero]
    | succ m =>
      by_cases hw : wantN g m = 0
      · rw [h.unw m (by omega) hw, h'.unw m (by omega) hw]
        exact ih m (by omega) (by omega)
      · have e : ∀ f, f ≤ m → ar f = ar' f := fun f hf => ih f (by omega) (by omega)
        have a := h.least m (by omega) hw _ ((h'.some m (by omega) hw).congr fun f hf => (e f hf).symm)
        have b := h'.least m (by omega) hw _ ((h.some m (by omega) hw).congr e)
        omega
theorem any_bounds {g : Good} {lights ar : Nat → Int} {c n : Nat} (h : IsAny g lights ar c n) (hn : n ≤ g.days.length) (hc : n ≤ c) (hl : ∀ b, 0 ≤ lights b) (hu : ∀ b, lights b ≤ 1000000000) (hok : ∀ d ∈ g.days, dayB (dayD d) = true) (hlf : ∀ l, g.life = some l → 0 ≤ l) : ∀ m, m ≤ n → 0 ≤ ar m ∧ ar m ≤ (m : Int) * 2000000000000000000 := by
  have N := nonNegW_of hok
  intro m
  induction m using Nat.strongRecOn with
  | ind m ih =>
    intro hm
    cases m with
    | zero => rw [h.zero]; omega
    | succ m =>
      obtain ⟨i1, i2⟩ := ih m (by omega) (by omega)
      by_cases hw : wantN g m = 0
      · rw [h.unw m (by omega) hw]
        omega
      · have hd : g.days[m]? = some g.days[m] := List.getElem?_eq_getElem (by omega)
        have hdb := hok _ (List.mem_of_getElem? hd)
        generalize g.days[m] = d at hd hdb
        have a := h.least m (by omega) hw _ (own_chC (show m < c by omega) hd hlf)
        obtain ⟨b, f, s, hb, hf, hs, hv⟩ := h.some m (by omega) hw
        have j1 := (ih f (by omega) (by omega)).1
        have j2 := segP_nonneg (fun k z e => wantP_nonneg N e) hs
        have j3 := hl b
        have j4 := hu m
        simp only [dayD, dayB, Bool.and_eq_true] at hdb
        have k1 := hdb.1.1.1
        have k2 := hdb.1.1.2
        simp only [numD, Bool.and_eq_true, decide_eq_true_eq] at k1 k2
        have k3 : d.want * d.loaf ≤ 1000000000 * 1000000000 := Int.mul_le_mul k1.2 k2.2 k2.1 (by omega)
        omega
/-- the steps of the row anywhere, as told prices -/
structure IsPrices (g : Good) (lights : Nat → Int) (ps : List Int) (n : Nat) : Prop where
  len : ps.length = n
  row : ∃ ar, IsAny g lights ar n n ∧ ∀ k, k < n → rowF ps k = ar (k + 1) - ar k
theorem IsPrices.ext {g : Good} {lights : Nat → Int} {ps ps' : List Int} {n : Nat} (h : IsPrices g lights ps n) (h' : IsPrices g lights ps' n) : ps = ps' := by
  obtain ⟨ar, h1, h2⟩ := h.row
  obtain ⟨ar', h3, h4⟩ := h'.row
  have e := h1.ext h3
  apply List.ext_getElem
  · rw [h.len, h'.len]
  · intro i hi hi'
    have a := h2 i (by rw [← h.len]; exact hi)
    have b := h4 i (by rw [← h.len]; exact hi)
    rw [e (i + 1) (by have := h.len; omega), e i (by have := h.len; omega)] at a
    unfold rowF at a b
    rw [List.getD_eq_getElem?_getD, List.getElem?_eq_getElem hi] at a
    rw [List.getD_eq_getElem?_getD, List.getElem?_eq_getElem hi'] at b
    simp only [Option.getD_some] at a b
    omega
theorem sum_rowF : ∀ ns : List Int, ns.sum = sumN (rowF ns) ns.length
  | ns => by
    have key : ∀ k, k ≤ ns.length → (ns.take k).sum = sumN (rowF ns) k := by
      intro k
      induction k with
      | zero => intro _; rfl
      | succ k ih =>
        intro hk
        have hlt : k < ns.length := hk
        show _ = sumN (rowF ns) k + rowF ns k
        rw [← ih (by omega), List.take_add_one, List.getElem?_eq_getElem hlt, Option.toList_some, sum_append', List.sum_cons, List.sum_nil, Int.add_zero]
        congr 1
        unfold rowF
        rw [List.getD_eq_getElem?_getD, List.getElem?_eq_getElem hlt]
        rfl
    have := key ns.length (Nat.le_refl _)
    rw [List.take_length] at this
    exact this
theorem IsPrices.facts {g : Good} {lights : Nat → Int} {ps : List Int} {n : Nat} (h : IsPrices g lights ps n) (hn : n ≤ g.days.length) (hl : ∀ b, 0 ≤ lights b) (hu : ∀ b, lights b ≤ 1000000000) (hok : ∀ d ∈ g.days, dayB (dayD d) = true) (hlf : ∀ l, g.life = some l → 0 ≤ l) :
    Lets g lights (rowF ps) n ∧ (∀ k, k < n → wantN g k = 0 → rowF ps k = 0) ∧ (∀ row, IsRow g lights row n → ps.sum = row n) ∧ (n ≤ 1000 → ∀ z ∈ ps, z.natAbs < 10 ^ 40) := by
  obtain ⟨ar, h1, h2⟩ := h.row
  have N := nonNegW_of hok
  refine ⟨fun b f m s hb hm hs => ?_, fun k hk hw => ?_, fun row hr => ?_, fun hn1 z hz => ?_⟩
  · have a := any_prices h1 hn hl b f m s hb hm hs
    rw [sumN_congr (f' := fun i => ar (f + i + 1) - ar (f + i)) m fun i hi => h2 (f + i) (by omega)]
    exact a
  · rw [h2 k hk, h1.unw k hk hw]
    omega
  · rw [sum_rowF, h.len, sumN_congr (f' := fun i => ar (0 + i + 1) - ar (0 + i)) n fun i hi => by rw [h2 i hi, Nat.zero_add], sumN_tele, Nat.zero_add, h1.zero, any_eq_row h1 hr hn hl N hlf]
    omega
  · obtain ⟨i, hi, e⟩ := List.mem_iff_getElem.mp hz
    have hin : i < n := by rw [← h.len]; exact hi
    have a := h2 i hin
    unfold rowF at a
    rw [List.getD_eq_getElem?_getD, List.getElem?_eq_getElem hi, e] at a
    simp only [Option.getD_some] at a
    obtain ⟨b1, b2⟩ := any_bounds h1 hn (Nat.le_refl n) hl hu hok hlf i (by omega)
    obtain ⟨b3, b4⟩ := any_bounds h1 hn (Nat.le_refl n) hl hu hok hlf (i + 1) (by omega)
    have c1 : (i : Int) * 2000000000000000000 ≤ 1000 * 2000000000000000000 := Int.mul_le_mul_of_nonneg_right (by omega) (by omega)
    have c2 : ((i + 1 : Nat) : Int) * 2000000000000000000 ≤ 1000 * 2000000000000000000 := Int.mul_le_mul_of_nonneg_right (by omega) (by omega)
    have : z.natAbs ≤ 2000000000000000000000 := by omega
    exact Nat.lt_of_le_of_lt this (by decide)
theorem cutV_from (xs : List V) (i : Nat) : cutV xs (some (i : Int)) none = xs.drop i := by
  unfold cutV
  rw [HT.sIx_nat]
  show (xs.drop (min i xs.length)).take (xs.length - min i xs.length) = xs.drop i
  by_cases hi : i ≤ xs.length
  · rw [Nat.min_eq_left hi, List.take_of_length_le (by rw [List.length_drop]; omega)]
  · rw [Nat.min_eq_right (by omega), List.drop_of_length_le (Nat.le_refl _), List.drop_of_length_le (show xs.length ≤ i by omega), List.take_nil]
end Bk

namespace Bk
open PySem PySem.Spec PyProof.Rows L2
/-! ### by how much the prices of stretches that end with a day are more than they cost -/
def kad (w : Nat → Option Int) (pr : Nat → Int) : Nat → Int
  | 0 => 0
  | k + 1 => match w k with
    | none => 0
    | some c => if kad w pr k + pr k - c > 0 then kad w pr k + pr k - c else 0
theorem kad_nonneg (w : Nat → Option Int) (pr : Nat → Int) : ∀ k, 0 ≤ kad w pr k
  | 0 => Int.le_refl 0
  | k + 1 => by
    unfold kad
    cases w k with
    | none => exact Int.le_refl 0
    | some c =>
      dsimp only
      split <;> omega
theorem kad_some {w : Nat → Option Int} {pr : Nat → Int} {k : Nat} {c : Int} (h : w k = some c) : kad w pr (k + 1) = if kad w pr k + pr k - c > 0 then kad w pr k + pr k - c else 0 := by
  show (match w k with
    | none => (0 : Int)
    | some c => if kad w pr k + pr k - c > 0 then kad w pr k + pr k - c else 0) = _
  rw [h]
theorem kad_none {w : Nat → Option Int} {pr : Nat → Int} {k : Nat} (h : w k = none) : kad w pr (k + 1) = 0 := by
  show (match w k with
    | none => (0 : Int)
    | some c => if kad w pr k + pr k - c > 0 then kad w pr k + pr k - c else 0) = _
  rw [h]
theorem kad_ge {w : Nat → Option Int} {pr : Nat → Int} {f : Nat} : ∀ (m : Nat) (s : Int), segP w f m = some s → sumN (fun i => pr (f + i)) m - s ≤ kad w pr (f + m)
  | 0, s, h => by
    rw [segP_zero] at h
    have e := Option.some.inj h
    have := kad_nonneg w pr (f + 0)
    show (0 : Int) - s ≤ _
    omega
  | m + 1, s, h => by
    obtain ⟨x, y, h1, h2, h3⟩ := segP_succ h
    have ih := kad_ge (pr := pr) m x h1
    have e := kad_some (pr := pr) h2
    show sumN (fun i => pr (f + i)) m + pr (f + m) - s ≤ kad w pr (f + m + 1)
    rw [e]
    split <;> omega
theorem kad_ex {w : Nat → Option Int} {pr : Nat → Int} : ∀ k, ∃ f m s, f + m = k ∧ segP w f m = some s ∧ kad w pr k = sumN (fun i => pr (f + i)) m - s
  | 0 => ⟨0, 0, 0, rfl, segP_zero _ _, rfl⟩
  | k + 1 => by
    have z : ∃ f m s, f + m = k + 1 ∧ segP w f m = some s ∧ (0 : Int) = sumN (fun i => pr (f + i)) m - s := ⟨k + 1, 0, 0, rfl, segP_zero _ _, rfl⟩
    cases hw : w k with
    | none =>
      rw [kad_none hw]
      exact z
    | some c =>
      rw [kad_some hw]
      split
      · obtain ⟨f, m, s, h1, h2, h3⟩ := kad_ex (w := w) (pr := pr) k
        refine ⟨f, m + 1, s + c, by omega, segP_add h2 (by rw [h1]; exact hw), ?_⟩
        show _ = sumN (fun i => pr (f + i)) m + pr (f + m) - (s + c)
        rw [h1, h3]
        omega
      · exact z
theorem lets_kad {g : Good} {lights pr : Nat → Int} {n : Nat} : (∀ b, b < n → ∀ k, k ≤ n → kad (wantP g b) pr k ≤ lights b) ↔ Lets g lights pr n := by
  constructor
  · intro h b f m s hb hm hs
    have a := kad_ge (pr := pr) m s hs
    have b' := h b hb (f + m) hm
    omega
  · intro h b hb k hk
    obtain ⟨f, m, s, h1, h2, h3⟩ := kad_ex (w := wantP g b) (pr := pr) k
    have a := h b f m s hb (by omega) h2
    omega
/-- prices of a good's first n days -/
def IsPr (g : Good) (n : Nat) (d : PyData) (ns : List Int) : Prop := d = .list (ns.map PyData.int) ∧ ns.length = n ∧ ∀ k, k < n → wantN g k = 0 → rowF ns k = 0
theorem all_wholeD : ∀ {ds : List PyData}, ds.all wholeD = true → ∃ ns : List Int, ds = ns.map PyData.int
  | [], _ => ⟨[], rfl⟩
  | d :: r, h => by
    rw [List.all_cons, Bool.and_eq_true] at h
    obtain ⟨ns, e⟩ := all_wholeD h.2
    cases d with
    | int i => exact ⟨i :: ns, by rw [e]; rfl⟩
    | _ => cases h.1
theorem wholeD_ints (ns : List Int) : (ns.map PyData.int).all wholeD = true := by
  rw [List.all_eq_true]
  intro x hx
  obtain ⟨i, _, rfl⟩ := List.mem_map.mp hx
  rfl
theorem pyint_inj {ns ms : List Int} (h : ns.map PyData.int = ms.map PyData.int) : ns = ms := by
  induction ns generalizing ms with
  | nil =>
    cases ms with
    | nil => rfl
    | cons m r => cases h
  | cons n r ih =>
    cases ms with
    | nil => cases h
    | cons m t =>
      injection h with h1 h2
      injection h1 with h1
      rw [h1, ih h2]
/-- the days without a want, and whether the prices there are 0 -/
def zeros (g : Good) (ns : List Int) (i : Nat) : List Bool := (List.range i).filterMap fun k => if wantN g k = 0 then some (decide (rowF ns k = 0)) else none
theorem zeros_succ (g : Good) (ns : List Int) (i : Nat) : zeros g ns (i + 1) = zeros g ns i ++ (if wantN g i = 0 then [decide (rowF ns i = 0)] else []) := by
  unfold zeros
  rw [List.range_succ, List.filterMap_append]
  congr 1
  by_cases h : wantN g i = 0
  · rw [if_pos h]
    simp [h]
  · rw [if_neg h]
    simp [h]
theorem zeros_length (g : Good) (ns : List Int) (i : Nat) : (zeros g ns i).length ≤ i := by
  have : (zeros g ns i).length ≤ (List.range i).length := List.length_filterMap_le ..
  rw [List.length_range] at this
  exact this
theorem zeros_all (g : Good) (ns : List Int) (n : Nat) : (zeros g ns n).all id = true ↔ ∀ k, k < n → wantN g k = 0 → rowF ns k = 0 := by
  rw [List.all_eq_true]
  constructor
  · intro h k hk hw
    have := h (decide (rowF ns k = 0)) (List.mem_filterMap.mpr ⟨k, List.mem_range.mpr hk, if_pos hw⟩)
    exact of_decide_eq_true this
  · intro h b hb
    obtain ⟨k, hk, e⟩ := List.mem_filterMap.mp hb
    by_cases hw : wantN g k = 0
    · rw [if_pos hw] at e
      cases e
      exact decide_eq_true (h k (List.mem_range.mp hk) hw)
    · rw [if_neg hw] at e
      cases e
end Bk

namespace Bk
open PySem PySem.Spec PyProof.Rows L2
/-! ### a block cut in two: what holds between the parts -/
section
variable {A1 A2 A3 A4 A5 A6 B : TS} {D : Ends} {σ : L2.St} {H : Hp} (Pm : L2.St → Hp → Prop)
theorem seq1 (hB : ∀ σ' H', Pm σ' H' → B D σ' H') (hA : ∀ N : L2.St → Hp → Prop, (∀ σ' H', Pm σ' H' → N σ' H') → A1 { D with nx := N } σ H) : tSeq A1 B D σ H := hA _ hB
theorem seq2 (hB : ∀ σ' H', Pm σ' H' → B D σ' H') (hA : ∀ N : L2.St → Hp → Prop, (∀ σ' H', Pm σ' H' → N σ' H') → tSeq A1 A2 { D with nx := N } σ H) : tSeq A1 (tSeq A2 B) D σ H := hA _ hB
theorem seq3 (hB : ∀ σ' H', Pm σ' H' → B D σ' H') (hA : ∀ N : L2.St → Hp → Prop, (∀ σ' H', Pm σ' H' → N σ' H') → tSeq A1 (tSeq A2 A3) { D with nx := N } σ H) : tSeq A1 (tSeq A2 (tSeq A3 B)) D σ H := hA _ hB
theorem seq4 (hB : ∀ σ' H', Pm σ' H' → B D σ' H') (hA : ∀ N : L2.St → Hp → Prop, (∀ σ' H', Pm σ' H' → N σ' H') → tSeq A1 (tSeq A2 (tSeq A3 A4)) { D with nx := N } σ H) : tSeq A1 (tSeq A2 (tSeq A3 (tSeq A4 B))) D σ H := hA _ hB
theorem seq5 (hB : ∀ σ' H', Pm σ' H' → B D σ' H') (hA : ∀ N : L2.St → Hp → Prop, (∀ σ' H', Pm σ' H' → N σ' H') → tSeq A1 (tSeq A2 (tSeq A3 (tSeq A4 A5))) { D with nx := N } σ H) : tSeq A1 (tSeq A2 (tSeq A3 (tSeq A4 (tSeq A5 B)))) D σ H := hA _ hB
theorem seq6 (hB : ∀ σ' H', Pm σ' H' → B D σ' H') (hA : ∀ N : L2.St → Hp → Prop, (∀ σ' H', Pm σ' H' → N σ' H') → tSeq A1 (tSeq A2 (tSeq A3 (tSeq A4 (tSeq A5 A6)))) { D with nx := N } σ H) : tSeq A1 (tSeq A2 (tSeq A3 (tSeq A4 (tSeq A5 (tSeq A6 B))))) D σ H := hA _ hB
end
theorem map_set_int (ns : List Int) (j : Nat) (v : Int) : (ns.map V.int).set j (V.int v) = (ns.set j v).map V.int := by rw [List.map_set]
theorem ixN_nat {n j : Nat} (h : j < n) : ixN n (j : Int) = some j := by
  unfold ixN
  rw [if_pos (by omega), if_pos (by omega)]
  rfl
theorem rowF_set {ns : List Int} {j k : Nat} {v : Int} (hk : k < ns.length) : rowF (ns.set j v) k = if j = k then v else rowF ns k := by
  unfold rowF
  rw [List.getD_eq_getElem?_getD, List.getD_eq_getElem?_getD, List.getElem?_set]
  by_cases e : j = k
  · subst e
    rw [if_pos rfl, if_pos hk, if_pos rfl]
    rfl
  · rw [if_neg e, if_neg e]
theorem mem_rowF {ns : List Int} {k : Nat} (hk : k < ns.length) : rowF ns k ∈ ns := by
  unfold rowF
  rw [List.getD_eq_getElem?_getD, List.getElem?_eq_getElem hk]
  exact List.getElem_mem hk
theorem set_bd {ns : List Int} {j : Nat} {v M : Int} (h : ∀ z ∈ ns, -M ≤ z ∧ z ≤ M) (hv : -M ≤ v ∧ v ≤ M) : ∀ z ∈ ns.set j v, -M ≤ z ∧ z ≤ M := by
  intro z hz
  rcases List.mem_or_eq_of_mem_set hz with e | e
  · exact h z e
  · rw [e]
    exact hv
theorem pick3 {a b c i : Int} (h0 : 0 ≤ i) (h1 : i < 3) : ∃ z : Int, atI [V.int a, V.int b, V.int c] i = some (.int z) ∧ (z = a ∨ z = b ∨ z = c) := by
  by_cases e0 : i = 0
  · subst e0
    exact ⟨a, atI_nat (j := 0) rfl, .inl rfl⟩
  · by_cases e1 : i = 1
    · subst e1
      exact ⟨b, atI_nat (j := 1) rfl, .inr (.inl rfl)⟩
    · rw [show i = 2 by omega]
      exact ⟨c, atI_nat (j := 2) rfl, .inr (.inr rfl)⟩
end Bk

namespace Bk
open PySem PySem.Spec PyProof.Rows L2
/-! ### 1 << k -/
def rOne : R2 := fun x y H Q => ∃ k : Nat, x = .int 1 ∧ y = .int (k : Int) ∧ k ≤ 134217727 ∧ Q (.int (2 ^ k)) H
theorem op_oneK {X : Cx} : OpR X (binaryOp .LShift) rOne := op_oneShl
theorem rOne_i {j : Int} {H : Hp} {Q : VK} : rOne (.int 1) (.int j) H Q = ∃ k : Nat, j = (k : Int) ∧ k ≤ 134217727 ∧ Q (.int (2 ^ k)) H := propext ⟨fun ⟨k, _, e2, h⟩ => by cases e2; exact ⟨k, rfl, h⟩, fun ⟨k, e, h⟩ => ⟨k, rfl, by rw [e], h⟩⟩
theorem rIsB_b {a b : Bool} {H : Hp} {Q : VK} : rIsB (.bl a) (.bl b) H Q = Q (.bl (decide (a = b))) H := propext ⟨fun ⟨_, _, e1, e2, h⟩ => by cases e1; cases e2; exact h, fun h => ⟨a, b, rfl, rfl, h⟩⟩
theorem rNotB_b {a b : Bool} {H : Hp} {Q : VK} : rNotB (.bl a) (.bl b) H Q = Q (.bl (!decide (a = b))) H := propext ⟨fun ⟨_, _, e1, e2, h⟩ => by cases e1; cases e2; exact h, fun h => ⟨a, b, rfl, rfl, h⟩⟩
/-! ### dicts whose keys are days -/
def keyN (ns : List Nat) : List Key := ns.map fun n => Sum.inl ((n : Nat) : Int)
theorem keyN_mem {ns : List Nat} {n : Nat} : (Sum.inl ((n : Nat) : Int) : Key) ∈ keyN ns ↔ n ∈ ns := by
  unfold keyN
  rw [List.mem_map]
  constructor
  · rintro ⟨m, hm, e⟩
    injection e with e
    rw [show n = m by omega]
    exact hm
  · intro h
    exact ⟨n, h, rfl⟩
theorem any_key {kvs : List (Key × V)} {k : Key} : (kvs.any fun kv => decide (kv.1 = k)) = true ↔ k ∈ kvs.map (·.1) := by
  rw [List.any_eq_true, List.mem_map]
  constructor
  · rintro ⟨kv, h1, h2⟩
    exact ⟨kv, h1, of_decide_eq_true h2⟩
  · rintro ⟨kv, h1, h2⟩
    exact ⟨kv, h1, decide_eq_true h2⟩
theorem keys_put_in {kvs : List (Key × V)} {k : Key} {v : V} (h : k ∈ kvs.map (·.1)) : (putK kvs k v).map (·.1) = kvs.map (·.1) := by
  unfold putK
  rw [if_pos (any_key.mpr h), List.map_map]
  apply List.map_congr_left
  intro kv _
  show (if kv.1 = k then (kv.1, v) else kv).1 = kv.1
  split <;> rfl
theorem keys_put_new {kvs : List (Key × V)} {k : Key} {v : V} (h : k ∉ kvs.map (·.1)) : (putK kvs k v).map (·.1) = kvs.map (·.1) ++ [k] := by
  unfold putK
  rw [if_neg (fun z => h (any_key.mp z)), List.map_append]
  rfl
def addN (ns : List Nat) (n : Nat) : List Nat := if n ∈ ns then ns else ns ++ [n]
theorem keyN_put {kvs : List (Key × V)} {ns : List Nat} {n : Nat} {v : V} (h : kvs.map (·.1) = keyN ns) : (putK kvs (Sum.inl (n : Int)) v).map (·.1) = keyN (addN ns n) := by
  unfold addN
  by_cases e : n ∈ ns
  · rw [keys_put_in (by rw [h]; exact keyN_mem.mpr e), h, if_pos e]
  · rw [keys_put_new (by rw [h]; exact fun z => e (keyN_mem.mp z)), h, if_neg e]
    unfold keyN
    rw [List.map_append]
    rfl
theorem addN_mem {ns : List Nat} {n m : Nat} : m ∈ addN ns n ↔ m ∈ ns ∨ m = n := by
  unfold addN
  split
  · rename_i h
    exact ⟨.inl, fun z => z.elim id fun e => by rw [e]; exact h⟩
  · rw [List.mem_append, List.mem_singleton]
theorem addN_nodup {ns : List Nat} {n : Nat} (h : ns.Nodup) : (addN ns n).Nodup := by
  unfold addN
  split
  · exact h
  · rename_i hn
    rw [List.nodup_append]
    refine ⟨h, by simp, fun a ha b hb => ?_⟩
    rw [List.mem_singleton.mp hb]
    intro e
    rw [e] at ha
    exact hn ha
/-- the lights of different days, summed -/
theorem litSum_nodup (L : Nat → Int) (n : Nat) : ∀ ns : List Nat, ns.Nodup → (∀ m ∈ ns, m < n) → (ns.map L).sum = litSum L (fun m => m ∈ ns) n
  | [], _, _ => by
    have e : litSum L (fun m => m ∈ ([] : List Nat)) n = 0 := by
      unfold litSum
      exact sumN_zero n fun k _ => if_neg (by simp)
    rw [e]
    rfl
  | b :: r, h, hb => by
    have ih := litSum_nodup L n r (List.nodup_cons.mp h).2 fun m hm => hb m (List.mem_cons_of_mem _ hm)
    have e2 := sumN_one (L := L) n (hb b List.mem_cons_self)
    rw [List.map_cons, List.sum_cons, ih, ← e2]
    unfold litSum
    rw [← sumN_add]
    refine sumN_congr _ fun k hk => ?_
    dsimp only
    by_cases e : k = b
    · subst e
      rw [if_pos rfl, if_neg (List.nodup_cons.mp h).1, if_pos List.mem_cons_self]
      omega
    · rw [if_neg e]
      by_cases e3 : k ∈ r
      · rw [if_pos e3, if_pos (List.mem_cons_of_mem _ e3)]
        omega
      · rw [if_neg e3, if_neg fun z => (List.mem_cons.mp z).elim e e3]
        omega
theorem nodup_len {n : Nat} {ns : List Nat} (h : ns.Nodup) (hb : ∀ m ∈ ns, m < n) : ns.length ≤ n := by
  have e := litSum_nodup (fun _ => 1) n ns h hb
  have e1 : (ns.map fun _ => (1 : Int)).sum = (ns.length : Int) := by
    clear e h hb
    induction ns with
    | nil => rfl
    | cons a r ih =>
      rw [List.map_cons, List.sum_cons, ih, List.length_cons]
      omega
  have e2 : litSum (fun _ => 1) (fun m => m ∈ ns) n ≤ (n : Int) := by
    have a : sumN (fun _ => (1 : Int)) n = (n : Int) := by
      clear e e1 h hb
      induction n with
      | zero => rfl
      | succ n ih =>
        show sumN (fun _ => (1 : Int)) n + 1 = _
        rw [ih]
        omega
    rw [← a]
    unfold litSum
    exact sumN_le n fun k _ => by dsimp only; split <;> omega
  omega
theorem litSum_congr {L : Nat → Int} {S S' : Nat → Prop} {n : Nat} (h : ∀ k, k < n → (S k ↔ S' k)) : litSum L S n = litSum L S' n := by
  unfold litSum
  refine sumN_congr _ fun k hk => ?_
  by_cases e : S k
  · rw [if_pos e, if_pos ((h k hk).mp e)]
  · rw [if_neg e, if_neg fun z => e ((h k hk).mpr z)]
/-- a permutation of days, as ints, is a list of days -/
theorem perm_days {ys : List Int} {ns : List Nat} (h : ys.Perm (ns.map fun n => ((n : Nat) : Int))) : ∃ ms : List Nat, ys = ms.map (fun n => ((n : Nat) : Int)) ∧ ms.Perm ns := by
  refine ⟨ys.map Int.toNat, ?_, ?_⟩
  · rw [List.map_map]
    have : ∀ y ∈ ys, ((Int.toNat y : Nat) : Int) = y := fun y hy => by
      obtain ⟨n, _, e⟩ := List.mem_map.mp (h.mem_iff.mp hy)
      omega
    have e : ys.map ((fun n => ((n : Nat) : Int)) ∘ Int.toNat) = ys.map id := List.map_congr_left fun y hy => this y hy
    rw [e, List.map_id]
  · have := h.map Int.toNat
    rw [List.map_map] at this
    have e : ns.map (Int.toNat ∘ fun n => ((n : Nat) : Int)) = ns := by
      have : ns.map (Int.toNat ∘ fun n => ((n : Nat) : Int)) = ns.map id := List.map_congr_left fun n _ => by show Int.toNat (n : Int) = n; omega
      rw [this, List.map_id]
    rw [e] at this
    exact this
/-- there is a row of least costs -/
theorem exists_min_int {P : Int → Prop} {lo : Int} (hlo : ∀ v, P v → lo ≤ v) (h : ∃ v, P v) : ∃ v, P v ∧ ∀ u, P u → v ≤ u := by
  obtain ⟨v, hv⟩ := h
  obtain ⟨n, hn, hmin⟩ := exists_least (P := fun n : Nat => P (lo + (n : Int))) ⟨(v - lo).toNat, by
    have := hlo v hv
    show P (lo + ((v - lo).toNat : Int))
    rw [show lo + ((v - lo).toNat : Int) = v by omega]
    exact hv⟩
  refine ⟨_, hn, fun u hu => ?_⟩
  have hl := hlo u hu
  by_cases e : lo + (n : Int) ≤ u
  · exact e
  · exfalso
    refine hmin (u - lo).toNat (by omega) ?_
    show P (lo + ((u - lo).toNat : Int))
    rw [show lo + ((u - lo).toNat : Int) = u by omega]
    exact hu
theorem row_exists (g : Good) (lights : Nat → Int) : ∀ (n : Nat), n ≤ g.days.length → (∀ l, g.life = some l → 0 ≤ l) → (∀ b, 0 ≤ lights b) → NonNegW g.days → ∃ row, IsRow g lights row n ∧ ∀ m, m ≤ n → 0 ≤ row m
  | 0, _, _, _, _ => ⟨fun _ => 0, ⟨rfl, fun m h => by omega, fun m h => by omega⟩, fun m _ => Int.le_refl 0⟩
  | n + 1, hn, hl, hp, N => by
    obtain ⟨row, hR, h0⟩ := row_exists g lights n (by omega) hl hp N
    have hd : g.days[n]? = some g.days[n] := List.getElem?_eq_getElem (by omega)
    have ch := own_choice (lights := lights) (row := row) hd hl
    have lo : ∀ v, Choice g lights row n v → 0 ≤ v := by
      rintro v (⟨b, f, s, hb, hf, hs, hv⟩ | ⟨_, hv⟩)
      · have a1 := h0 f hf
        have a2 := hp b
        have a3 := segP_nonneg (fun k z e => wantP_nonneg N e) hs
        omega
      · rw [hv]
        exact h0 n (Nat.le_refl n)
    obtain ⟨v, hv, hmin⟩ := exists_min_int lo ⟨_, ch⟩
    obtain ⟨row', e, el⟩ : ∃ row' : Nat → Int, (∀ f, f ≤ n → row' f = row f) ∧ row' (n + 1) = v := ⟨fun k => if k = n + 1 then v else row k, fun f hf => if_neg (by omega), if_pos rfl⟩
    refine ⟨row', ⟨?_, fun m hm => ?_, fun m hm u hu => ?_⟩, fun m hm => ?_⟩
    · rw [e 0 (by omega)]
      exact hR.zero
    · by_cases hmn : m = n
      · subst hmn
        rw [el]
        exact hv.congr fun f hf => (e f hf).symm
      · rw [e (m + 1) (by omega)]
        exact (hR.some m (by omega)).congr fun f hf => (e f (by omega)).symm
    · by_cases hmn : m = n
      · subst hmn
        rw [el]
        exact hmin u (hu.congr fun f hf => e f hf)
      · rw [e (m + 1) (by omega)]
        exact hR.least m (by omega) u (hu.congr fun f hf => e f (by omega))
    · by_cases hmn : m = n + 1
      · rw [hmn, el]
        exact lo v hv
      · rw [e m (by omega)]
        exact h0 m (by omega)
theorem rSetD_r {p : Addr} {k : Int} {v : V} {H : Hp} {Q : Hp → Prop} {kvs : List (Key × V)} (h : H p = some (.dK kvs)) (hl : kvs.length < sizeLine) (q : Q (upd H p (.dK (putK kvs (.inl k) v)))) : rSetD (.ref p) (.int k) v H Q := ⟨p, _, rfl, DPut.k (k := .inl k) h hl, q⟩
def rSorD : List V → Hp → VK → Prop := fun xs H Q => ∃ (a : Addr) (kvs : List (Key × V)) (ks : List Int), xs = [.ref a] ∧ Rd H a (.dK kvs) ∧ kvs.map (·.1) = ks.map Sum.inl ∧ ks.length < 64 ∧ ∀ (ys : List Int) (p : Addr), ys.Perm ks → ys.Pairwise (· ≤ ·) → H p = none → Q (.ref p) (upd H p (.lst (ys.map V.int)))
theorem cr_sorD {X : Cx} (hc : X.calm = true) : CallR X (.builtin "sorted") rSorD := call_sortedDI hc
theorem rSorD_r {p : Addr} {H : Hp} {Q : VK} : rSorD [.ref p] H Q = ∃ (kvs : List (Key × V)) (ks : List Int), Rd H p (.dK kvs) ∧ kvs.map (·.1) = ks.map Sum.inl ∧ ks.length < 64 ∧ ∀ (ys : List Int) (q : Addr), ys.Perm ks → ys.Pairwise (· ≤ ·) → H q = none → Q (.ref q) (upd H q (.lst (ys.map V.int))) :=
  propext ⟨fun ⟨_, kvs, ks, e, h⟩ => by cases e; exact ⟨kvs, ks, h⟩, fun ⟨kvs, ks, h⟩ => ⟨p, kvs, ks, rfl, h⟩⟩
end Bk

namespace Bk
open PySem PySem.Spec PyProof.Rows L2
/-! ### a def of the text that may let an exception out -/
structure DefX (P : Program) (w : World) (K : PySem.W.Frag) (mg : Str → Option Value) (base : Heap) (x : Str) (k : Nat) (ps : List Str) (sp : Sp) : Prop where
  ex : ∃ (f : Addr) (fd : FuncData), mg x = some (.ref f) ∧ PySem.W.keepIn K (.ref f) = true ∧ Binds K fd ps [] ∧ FnOk P w K mg base (L2.CX P w) k f fd ps sp
theorem pe_callDX {X : Cx} {x : Str} {k j : Nat} {ps : List Str} {sp : Sp} {W : WX} {e : Expr} {es : List Expr} {t : TA} {p pos : Pos} (D : DefX X.prog X.w X.K X.mg X.base x k ps sp) (tk : Takes X W) (hr : Room j X.A) (hg : Gl X x) (ha : PA X (e :: es) t)
    (hkj : k ≤ j := by omega) (hdb : (x == ("__debug__" : Str)) = false := by decide) (he : starEach (e :: es) X.env = (false, eval e X.env) :: starEach es X.env := by rfl) (hpl : (backTo pos (starEach es X.env)).any (·.1) = false := by rfl) :
    PE X (.Call (.Name x p) (e :: es) [] pos) (tCallS sp (WE W) t) := by
  obtain ⟨f, fd, hm, hk, hb, F⟩ := D.ex
  exact pe_callS F (hr.mono hkj) hg hm hk hb (passAt tk) ha hdb he hpl
/-! ### {x} of a number or None -/
def smV : V → Prop
  | .non => True
  | .int i => i.natAbs < 10 ^ 60
  | _ => False
def tFmtO (te : TE) : TE := fun σ H Q => te σ H fun x H1 => smV x ∧ ∀ y : Str, y.length ≤ 70 → Q (.str y) H1
theorem log60 {n : Nat} (h : n < 10 ^ 60) : n.log2 < 1920 := by
  by_cases h0 : n = 0
  · subst h0
    decide
  · have : n.log2 < 200 := (Nat.log2_lt h0).mpr (Nat.lt_of_lt_of_le h (by decide))
    omega
theorem pe_fmtO {X : Cx} {e : Expr} {te : TE} {pos : Pos} (he : PE X e te) : PE X (.FormattedValue e (-1) none pos) (tFmtO te) := by
  refine ⟨fun pins s σ H Q I h => wpAny_FormattedValue_plain (thn (he.run pins s σ H _ I h) fun v s1 hv => ?_)⟩
  obtain ⟨x, H1, I1, r1, hs, q⟩ := hv
  cases x with
  | non =>
    obtain rfl : v = Value.none := r1
    exact wpAny_formatField_none ⟨.str "None", H1, I1.tok _, ⟨_, rfl⟩, q _ (by decide)⟩
  | int i =>
    have hs : i.natAbs < 10 ^ 60 := hs
    obtain ⟨t, rfl⟩ := (show ∃ t, v = Value.int i t from r1)
    refine wpAny_formatField_int (log60 hs) ⟨.str (toString i), H1, I1.tok _, ⟨_, rfl⟩, q _ ?_⟩
    have z := int_text_length_le10 (k := 60) (by decide) hs
    rw [PySem.ofString_length]
    omega
  | _ => exact hs.elim
/-! ### the __init__ of an error with two fields -/
def spInit2 (K : PySem.W.Frag) (C : Addr) (f1 f2 : Str) : Sp := fun vs H Q _ => ∃ (a : Addr) (u v : V), vs = [.ref a, u, v] ∧ smV u ∧ smV v ∧ H a = some (exo a C none) ∧ ∀ dx, H dx = none → dx ≠ a → Q .non (upd (upd (upd H dx (exd dx [(f1, u)])) a (exo a C (some dx))) dx (exd dx [(f2, v), (f1, u)]))
theorem mk_init2 {K : PySem.W.Frag} {C a : Addr} {f1 f2 : Str} {H1 : Hp} {u v : V} {Q : XK} (hu : smV u) (hv : smV v) (ha : H1 a = none) (q : ∀ d, H1 d = none → Q (.ref C) (some d) (upd H1 d (.xd [(f2, v), (f1, u)]))) :
    spInit2 K C f1 f2 (.ref a :: ([u, v] ++ [])) (upd H1 a (exo a C none)) (fun x H2 => x = .non ∧ ∃ (d : Addr) (fs : List (Str × V)), H2 a = some (exo a C (some d)) ∧ H2 d = some (exd d fs) ∧ H1 d = none ∧ Q (.ref C) (some d) (upd (del H2 a) d (.xd fs))) (fun _ _ _ => False) := by
  refine ⟨a, u, v, rfl, hu, hv, upd_same, fun dx hdx hne => ⟨rfl, dx, _, ?_, upd_same, ?_, ?_⟩⟩
  · rw [upd_ne (Ne.symm hne), upd_same]
  · rw [upd_ne hne] at hdx
    exact hdx
  · have hd : H1 dx = none := by rw [upd_ne hne] at hdx; exact hdx
    have e : upd (del (upd (upd (upd (upd H1 a (exo a C none)) dx (exd dx [(f1, u)])) a (exo a C (some dx))) dx (exd dx [(f2, v), (f1, u)])) a) dx (.xd [(f2, v), (f1, u)]) = upd H1 dx (.xd [(f2, v), (f1, u)]) := by
      funext b
      by_cases hb : b = dx
      · rw [hb, upd_same, upd_same]
      · rw [upd_ne hb, upd_ne hb]
        by_cases hba : b = a
        · rw [hba, del_same, ha]
        · rw [del_ne hba, upd_ne hb, upd_ne hba, upd_ne hb, upd_ne hba]
    rw [e]
    exact q dx hd
end Bk

namespace Bk
open PySem PySem.Spec PyProof.Rows L2
/-! ### what is wrong with what is no bakery: the first thing -/
def fbD : Nat → List PyData → Option Nat
  | _, [] => none
  | i, d :: r => if dayB d = true then fbD (i + 1) r else some i
def badG (n : Nat) (d : PyData) : Option (Option Nat) := if goodFormB n d = true then (match d with
    | .tuple [.list ds, _] => (fbD 0 ds).map some
    | _ => some none) else some none
def wgD (n : Nat) : Nat → List PyData → Option (Nat × Option Nat)
  | _, [] => none
  | i, g :: r => match badG n g with
    | none => wgD n (i + 1) r
    | some o => some (i, o)
def wrongD (d : PyData) : Option (Option Nat × Option Nat) := if bakFormB d = true then (match d with
    | .tuple [.list ls, _, .list gs] => (wgD ls.length 0 gs).map fun p => (some p.1, p.2)
    | _ => some (none, none)) else some (none, none)
theorem fbD_none : ∀ {ds : List PyData} {i : Nat}, fbD i ds = none ↔ ds.all dayB = true
  | [], i => by simp [fbD]
  | d :: r, i => by
    rw [List.all_cons, Bool.and_eq_true]
    unfold fbD
    by_cases h : dayB d = true
    · rw [if_pos h, fbD_none (ds := r) (i := i + 1)]
      exact ⟨fun z => ⟨h, z⟩, fun z => z.2⟩
    · rw [if_neg h]
      exact ⟨fun z => (by cases z), fun z => absurd z.1 h⟩
theorem goodForm_inv {n : Nat} {d : PyData} (h : goodFormB n d = true) : ∃ ds l, d = .tuple [.list ds, l] ∧ ds.length = n ∧ lifeB l = true := by
  unfold goodFormB at h
  split at h
  · rename_i ds l
    rw [Bool.and_eq_true] at h
    cases ds with
    | list ds =>
      have h1 := Bool.and_eq_true_iff.mp h.1
      have a := of_decide_eq_true h1.1
      have b := of_decide_eq_true h1.2
      exact ⟨ds, l, rfl, by omega, h.2⟩
    | _ => cases h.1
  · cases h
theorem badG_none {n : Nat} {d : PyData} : badG n d = none ↔ goodB n d = true := by
  unfold badG
  by_cases h : goodFormB n d = true
  · rw [if_pos h]
    obtain ⟨ds, l, rfl, h1, h2⟩ := goodForm_inv h
    dsimp only
    rw [Option.map_eq_none_iff, fbD_none]
    simp only [goodB, h1, h2, decide_true, Bool.true_and, Bool.and_true]
  · rw [if_neg h]
    refine ⟨fun z => (by cases z), fun z => ?_⟩
    obtain ⟨ds, l, rfl, h1, h2, _⟩ := goodB_inv z
    exact absurd (by simp only [goodFormB, listB, h1, h2, Nat.le_refl, decide_true, Bool.and_self]) h
theorem wgD_none {n : Nat} : ∀ {gs : List PyData} {i : Nat}, wgD n i gs = none ↔ gs.all (goodB n) = true
  | [], i => by simp [wgD]
  | g :: r, i => by
    rw [List.all_cons, Bool.and_eq_true, ← badG_none]
    unfold wgD
    cases h : badG n g with
    | none =>
      dsimp only
      rw [wgD_none (gs := r) (i := i + 1)]
      exact ⟨fun z => ⟨rfl, z⟩, fun z => z.2⟩
    | some o => exact ⟨fun z => (by cases z), fun z => (by cases z.1)⟩
theorem bakForm_inv {d : PyData} (h : bakFormB d = true) : ∃ ls b gs, d = .tuple [.list ls, b, .list gs] ∧ lightsB (.list ls) = true ∧ boundB b = true ∧ listB 1 2 (.list gs) = true := by
  unfold bakFormB at h
  split at h
  · rename_i l b g
    rw [Bool.and_eq_true, Bool.and_eq_true] at h
    cases l with
    | list ls =>
      cases g with
      | list gs => exact ⟨ls, b, gs, rfl, h.1, h.2.1, h.2.2⟩
      | _ => cases h.2.2
    | _ => cases h.1
  · cases h
theorem wrongD_none {d : PyData} : wrongD d = none ↔ bakB d = true := by
  unfold wrongD
  by_cases h : bakFormB d = true
  · rw [if_pos h]
    obtain ⟨ls, b, gs, rfl, h1, h2, h3⟩ := bakForm_inv h
    dsimp only
    rw [Option.map_eq_none_iff, wgD_none]
    simp only [bakB, h1, h2, h3, Bool.true_and]
  · rw [if_neg h]
    refine ⟨fun z => (by cases z), fun z => ?_⟩
    obtain ⟨ls, b, gs, rfl, h1, h2, h3, _⟩ := bakB_inv z
    exact absurd (by simp only [bakFormB, h1, h2, h3, Bool.and_self]) h
theorem wgD_lt {n : Nat} : ∀ {gs : List PyData} {i j : Nat} {o : Option Nat}, wgD n i gs = some (j, o) → j < i + gs.length
  | [], i, j, o, h => by cases h
  | g :: r, i, j, o, h => by
    unfold wgD at h
    cases e : badG n g with
    | none =>
      rw [e] at h
      have := wgD_lt (gs := r) (i := i + 1) h
      rw [List.length_cons]
      omega
    | some o' =>
      rw [e] at h
      cases h
      rw [List.length_cons]
      omega
/-! ### raising -/
def clsBody : Stmt → List Stmt
  | .ClassDef (body := b) .. => b
  | _ => []
def clsM (st : Stmt) (j : Nat) : Stmt := (clsBody st).getD j (.Pass ⟨0, 0, 0, 0⟩)
/-- an error class with two fields, as the top has written it -/
structure Err2 (P : Program) (w : World) (K : PySem.W.Frag) (mg : Str → Option Value) (base : Heap) (x : Str) (C : Addr) (f1 f2 : Str) : Prop where
  g : mg x = some (.ref C)
  T : OexC K C
  init : ∃ (fI : Addr) (fd : FuncData), PySem.W.findIn K (.ref C) "__init__" = some (some (.ref fI)) ∧ PySem.W.typeIn K (.ref fI) = some (.type "function") ∧ Binds K fd ["self", f1, f2] [] ∧ FnOk P w K mg base CX0 1 fI fd ["self", f1, f2] (spInit2 K C f1 f2)
def rRaise2 (K : PySem.W.Frag) (C : Addr) (f1 f2 : Str) (W : WX) (σ : L2.St) (vs : List V) (H1 : Hp) : Prop := vs.length ≤ 1000 ∧ ∀ a, H1 a = none → spInit2 K C f1 f2 (.ref a :: (vs ++ [])) (upd H1 a (exo a C none))
  (fun v H2 => v = .non ∧ ∃ (d : Addr) (fs : List (Str × V)), H2 a = some (exo a C (some d)) ∧ H2 d = some (exd d fs) ∧ H1 d = none ∧ W (.ref C) (some d) σ (upd (del H2 a) d (.xd fs))) (fun _ _ _ => False)
def tRaise2 (K : PySem.W.Frag) (C : Addr) (f1 f2 : Str) (W : WX) (ta : TA) : TS := fun _ σ H => ta σ H fun vs H1 => rRaise2 K C f1 f2 W σ vs H1
theorem raise2_of {K : PySem.W.Frag} {C : Addr} {f1 f2 : Str} {W : WX} {σ : L2.St} {u v : V} {H1 : Hp} (hu : smV u) (hv : smV v) (hd : ∀ d, H1 d = none → W (.ref C) (some d) σ (upd H1 d (.xd [(f2, v), (f1, u)]))) : rRaise2 K C f1 f2 W σ [u, v] H1 :=
  ⟨by show 2 ≤ 1000; decide, fun a hn => mk_init2 (Q := fun cls d H' => W cls d σ H') hu hv hn hd⟩
theorem ps_raise2 {X : Cx} {x : Str} {C : Addr} {f1 f2 : Str} {W : WX} {ta : TA} {e : Expr} {es : List Expr} {k : Nat} {p pos pos2 : Pos} (R : Err2 X.prog X.w X.K X.mg X.base x C f1 f2) (hc : X.calm = true) (tk : Takes X W) (hr : Room k X.A) (hg : Gl X x) (ha : PA X (e :: es) ta) (hk : 2 ≤ k := by omega)
    (hdb : (x == ("__debug__" : Str)) = false := by decide) (he : starEach (e :: es) X.env = (false, eval e X.env) :: starEach es X.env := by rfl) (hpl : (backTo pos (starEach es X.env)).any (·.1) = false := by rfl) :
    PS X (.Raise (some (.Call (.Name x p) (e :: es) [] pos)) none pos2) (tRaise2 X.K C f1 f2 W ta) := by
  obtain ⟨fI, fd, h1, h2, h3, h4⟩ := R.init
  have M := pmk_oex (pos := pos) (p := p) R.T h1 h2 h4 (hr.mono hk) h3 .nil pass0 hg R.g ha hdb he hpl
  exact ps_raise (pos := pos2) hc tk M
end Bk

namespace Bk
open PySem PySem.Spec PyProof.Rows L2
/-! ### + of any two lists that can be read -/
def rCatL (K : PySem.W.Frag) : R2 := fun x y H Q => ∃ (l b : Addr) (xs zs : List V), x = .ref l ∧ y = .ref b ∧ SqL K H l xs ∧ SqL K H b zs ∧ xs.length + zs.length ≤ sizeLine ∧ ∀ p, H p = none → Q (.ref p) (upd H p (.lst (xs ++ zs)))
theorem op_catL {X : Cx} : OpR X (binaryOp .Add) (rCatL X.K) := by
  intro pins s σ H x y v u Q I rx ry h
  obtain ⟨l, b, xs, zs, rfl, rfl, hl, hb, hz, q⟩ := h
  cases rx
  cases ry
  obtain ⟨i1, r1, p1, z1⟩ := I.list hl
  obtain ⟨i2, r2, p2, z2⟩ := I.list hb
  have e1 := r1.length
  have e2 := r2.length
  obtain ⟨⟨k1, d1, t1, s1⟩, n1, g1, c1, f1, w1⟩ := p1
  obtain ⟨⟨k2, d2, t2, s2⟩, n2, g2, c2, f2, w2⟩ := p2
  simp only at c1 f1 w1 c2 f2 w2
  subst c1 f1 w1 c2 f2 w2
  refine concat_meets ⟨_, g1, rfl⟩ ⟨_, g2, rfl⟩ noFill_list_add seq_list_add PySem.F.slot_list_add PySem.F.entry_list_add (PySem.F.args_list_add_2 _ _) (list_addW l b i1.toArray i2.toArray n1 n2 none none s1 s2 (by rw [List.size_toArray, List.size_toArray]; omega)) ⟨g1, g2, ?_⟩
  rw [show i1.toArray ++ i2.toArray = (i1 ++ i2).toArray by simp]
  exact ⟨.ref _, _, I.lnew (t' := s.toks) (r1.append r2) (by rw [List.length_append]; omega), rfl, q _ I.fresh⟩
theorem rCatL_r {K : PySem.W.Frag} {l b : Addr} {H : Hp} {Q : VK} : rCatL K (.ref l) (.ref b) H Q = ∃ xs zs, SqL K H l xs ∧ SqL K H b zs ∧ xs.length + zs.length ≤ sizeLine ∧ ∀ p, H p = none → Q (.ref p) (upd H p (.lst (xs ++ zs))) := propext ⟨fun ⟨_, _, xs, zs, e1, e2, h⟩ => by cases e1; cases e2; exact ⟨xs, zs, h⟩, fun ⟨xs, zs, h⟩ => ⟨l, b, xs, zs, rfl, rfl, h⟩⟩
theorem rSlT_r {K : PySem.W.Frag} {a : Addr} {lo hi : Option Int} {H : Hp} {Q : VK} : rSlT K (.ref a) lo hi H Q = ∃ xs, SqT K H a xs ∧ ¬ (HT.sIx xs.length 0 lo = 0 ∧ HT.sIx xs.length xs.length hi = xs.length) ∧ ∀ p, H p = none → Q (.ref p) (upd H p (.tup (cutV xs lo hi))) := propext ⟨fun ⟨_, xs, e, h⟩ => by cases e; exact ⟨xs, h⟩, fun ⟨xs, h⟩ => ⟨a, xs, rfl, h⟩⟩
def rListOf (K : PySem.W.Frag) : List V → Hp → VK → Prop := fun xs H Q => ∃ p ys, xs = [.ref p] ∧ (SqL K H p ys ∨ SqT K H p ys) ∧ ∀ l, H l = none → Q (.ref l) (upd H l (.lst ys))
theorem call_listOf {X : Cx} : CallR X (.type "list") (rListOf X.K) := call_list_of
theorem rListOf_r {K : PySem.W.Frag} {p : Addr} {H : Hp} {Q : VK} : rListOf K [.ref p] H Q = ∃ ys, (SqL K H p ys ∨ SqT K H p ys) ∧ ∀ l, H l = none → Q (.ref l) (upd H l (.lst ys)) := propext ⟨fun ⟨_, ys, e, h⟩ => by cases e; exact ⟨ys, h⟩, fun ⟨ys, h⟩ => ⟨p, ys, rfl, h⟩⟩
theorem seq7 {A1 A2 A3 A4 A5 A6 A7 B : TS} {D : Ends} {σ : L2.St} {H : Hp} (Pm : L2.St → Hp → Prop) (hB : ∀ σ' H', Pm σ' H' → B D σ' H') (hA : ∀ N : L2.St → Hp → Prop, (∀ σ' H', Pm σ' H' → N σ' H') → tSeq A1 (tSeq A2 (tSeq A3 (tSeq A4 (tSeq A5 (tSeq A6 A7))))) { D with nx := N } σ H) : tSeq A1 (tSeq A2 (tSeq A3 (tSeq A4 (tSeq A5 (tSeq A6 (tSeq A7 B)))))) D σ H := hA _ hB
/-- the class's own clause takes its own errors -/
theorem exm_own {K : PySem.W.Frag} {S : Addr} (h1 : PySem.W.subIn K (.ref S) (.type "BaseException") = some true) (h2 : PySem.W.isClsIn K S = true) (h3 : PySem.W.typeIn K (.ref S) = some (.type "type")) (h4 : PySem.W.subIn K (.ref S) (.ref S) = some true) : PySem.W.exmOne K (.ref S) (.ref S) = some true := by
  unfold PySem.W.isClsIn at h2
  simp only [PySem.W.exmOne, PySem.W.kitCls, h1, h2, h3, h4, beq_self_eq_true, Bool.and_self, if_true]
end Bk

namespace Bk
open PySem PySem.Spec PyProof.Rows L2
/-! ### steady bakeries -/
structure Steady (g : Good) : Prop where
  nofine : ∀ d ∈ g.days, d.fine = none
  never : ∀ k d e, g.days[k]? = some d → g.days[k + 1]? = some e → e.loaf ≤ d.loaf + d.keep
theorem keepsL_zero (ds : List Day) (k : Nat) : keepsL ds k k = 0 := by
  unfold keepsL
  rw [Nat.sub_self]
  rfl
theorem keepsL_head {ds : List Day} {b k : Nat} {d : Day} (hb : ds[b]? = some d) (hk : b < k) : keepsL ds b k = d.keep + keepsL ds (b + 1) k := by
  unfold keepsL
  obtain ⟨hi, e⟩ := List.getElem?_eq_some_iff.mp hb
  rw [List.drop_eq_getElem_cons hi, e, show k - b = (k - (b + 1)) + 1 by omega, List.take_succ_cons, List.map_cons, List.sum_cons]
/-- a loaf baked later, for a day behind both, costs no more -/
theorem loaf_later {g : Good} (S : Steady g) {k : Nat} (hk : k < g.days.length) : ∀ (n b : Nat), b + n ≤ k → ∀ z, loafP g b k = some z → ∃ y, loafP g (b + n) k = some y ∧ y ≤ z
  | 0, b, _, z, h => ⟨z, h, Int.le_refl z⟩
  | n + 1, b, hn, z, h => by
    have hd : g.days[b]? = some g.days[b] := List.getElem?_eq_getElem (by omega)
    have he : g.days[b + 1]? = some g.days[b + 1] := List.getElem?_eq_getElem (by omega)
    have st := S.never b _ _ hd he
    generalize g.days[b] = d at hd st
    generalize g.days[b + 1] = e at he st
    have step : ∃ y, loafP g (b + 1) k = some y ∧ y ≤ z := by
      obtain ⟨x, hx, hxz⟩ := loafP_ext' hd h
      obtain ⟨hl, hkp⟩ := (ext_keep (show b ≤ k by omega)).mp hx
      have e2 : extP g (b + 1) k = some (keepsL g.days (b + 1) k) := (ext_keep (show b + 1 ≤ k by omega)).mpr ⟨fun l hl' => by have := hl l hl'; omega, rfl⟩
      refine ⟨e.loaf + keepsL g.days (b + 1) k, by rw [loafP_ext he, e2]; rfl, ?_⟩
      have := keepsL_head hd (show b < k by omega)
      omega
    obtain ⟨y, hy, hyz⟩ := step
    obtain ⟨y2, hy2, h2⟩ := loaf_later S hk n (b + 1) (by omega) y hy
    exact ⟨y2, by rw [show b + (n + 1) = b + 1 + n by omega]; exact hy2, by omega⟩
theorem want_later {g : Good} (S : Steady g) (N : NonNegW g.days) {b c k : Nat} (hk : k < g.days.length) (hbc : b ≤ c) (hck : c ≤ k) {z : Int} (h : wantP g b k = some z) : ∃ y, wantP g c k = some y ∧ y ≤ z := by
  by_cases hw : wantN g k = 0
  · rw [wantP_unw hk hw] at h ⊢
    exact ⟨_, h, Int.le_refl _⟩
  · rcases wantP_inv h with ⟨e, _⟩ | ⟨y, e1, e2⟩
    · exact absurd e hw
    · obtain ⟨y2, h1, h2⟩ := loaf_later S hk (c - b) b (by omega) y e1
      rw [show b + (c - b) = c by omega] at h1
      refine ⟨wantN g k * y2, wantP_of hk fun _ => h1, ?_⟩
      rw [e2]
      exact Int.mul_le_mul_of_nonneg_left h2 (wantN_nonneg N k)
theorem seg_later {g : Good} (S : Steady g) (N : NonNegW g.days) {b c f : Nat} (hbc : b ≤ c) (hcf : c ≤ f) : ∀ (m : Nat) (s : Int), f + m ≤ g.days.length → segP (wantP g b) f m = some s → ∃ t, segP (wantP g c) f m = some t ∧ t ≤ s
  | 0, s, _, h => by
    rw [segP_zero] at h
    exact ⟨0, segP_zero _ _, by have := Option.some.inj h; omega⟩
  | m + 1, s, hm, h => by
    obtain ⟨x, y, h1, h2, h3⟩ := segP_succ h
    obtain ⟨t, h4, h5⟩ := seg_later S N hbc hcf m x (by omega) h1
    obtain ⟨u, h6, h7⟩ := want_later S N (show f + m < g.days.length by omega) hbc (by omega) h2
    exact ⟨t + u, segP_add h4 h6, by omega⟩
theorem segP_split {w : Nat → Option Int} {f : Nat} : ∀ (n m : Nat) {s : Int}, segP w f (m + n) = some s → ∃ x y, segP w f m = some x ∧ segP w (f + m) n = some y ∧ s = x + y
  | 0, m, s, h => ⟨s, 0, h, segP_zero _ _, by omega⟩
  | n + 1, m, s, h => by
    obtain ⟨x, y, h1, h2, h3⟩ := segP_succ (show segP w f (m + n + 1) = some s from h)
    obtain ⟨u, v, h4, h5, h6⟩ := segP_split n m h1
    exact ⟨u, v + y, h4, segP_add h5 (by rw [show f + m + n = f + (m + n) by omega]; exact h2), by omega⟩
theorem segP_join {w : Nat → Option Int} {f : Nat} : ∀ (n m : Nat) {x y : Int}, segP w f m = some x → segP w (f + m) n = some y → segP w f (m + n) = some (x + y)
  | 0, m, x, y, h1, h2 => by
    rw [segP_zero] at h2
    have := Option.some.inj h2
    rw [Nat.add_zero, h1]
    congr 1
    omega
  | n + 1, m, x, y, h1, h2 => by
    obtain ⟨u, v, h3, h4, h5⟩ := segP_succ h2
    have := segP_add (segP_join n m h1 h3) (show w (f + (m + n)) = some v by rw [show f + (m + n) = f + m + n by omega]; exact h4)
    rw [show m + (n + 1) = m + n + 1 by omega, this]
    congr 1
    omega
/-- any last stretch may as well begin with the day it is baked on -/
theorem diag {g : Good} {lights row : Nat → Int} {n : Nat} (h : IsRow g lights row n) (hn : n ≤ g.days.length) (hl : ∀ b, 0 ≤ lights b) (N : NonNegW g.days) (S : Steady g) {m : Nat} (hm : m < n) : ∀ (f b : Nat) (s : Int), b ≤ m → f ≤ m → segP (wantP g b) f (m + 1 - f) = some s →
    ∃ d t, d ≤ m ∧ segP (wantP g d) d (m + 1 - d) = some t ∧ row d + lights d + t ≤ row f + lights b + s := by
  intro f
  induction f using Nat.strongRecOn with
  | ind f ih =>
    intro b s hb hf hs
    by_cases hbf : b = f
    · subst hbf
      exact ⟨b, s, hb, hs, Int.le_refl _⟩
    · by_cases hlt : f < b
      · -- what would wait is not wanted
        have e : m + 1 - f = (b - f) + (m + 1 - b) := by omega
        rw [e] at hs
        obtain ⟨x, y, h1, h2, h3⟩ := segP_split _ _ hs
        rw [show f + (b - f) = b by omega] at h2
        have fl := row_flat h (f := f) b (by omega) (by omega) fun k hk1 hk2 => by
          obtain ⟨z, hz⟩ := segP_all h1 (k - f) (by omega)
          rw [show f + (k - f) = k by omega] at hz
          exact wantP_late S.nofine hk2 hz
        have nx := segP_nonneg (fun k z e => wantP_nonneg N e) h1
        exact ⟨b, y, hb, h2, by omega⟩
      · have hbf : b < f := by omega
        obtain ⟨f1, rfl⟩ : ∃ f1, f = f1 + 1 := ⟨f - 1, by omega⟩
        rcases h.some f1 (by omega) with ⟨b', f', s', hb', hf', hs', hv⟩ | ⟨⟨d, hd, hw⟩, hv⟩
        · by_cases hbb : b ≤ b'
          · obtain ⟨t, h1, h2⟩ := seg_later S N (f := f1 + 1) hbb (by omega) (m + 1 - (f1 + 1)) s (by omega) hs
            have e : m + 1 - f' = (f1 + 1 - f') + (m + 1 - (f1 + 1)) := by omega
            have j := segP_join (w := wantP g b') (f := f') (m + 1 - (f1 + 1)) (f1 + 1 - f') hs' (by rw [show f' + (f1 + 1 - f') = f1 + 1 by omega]; exact h1)
            rw [← e] at j
            obtain ⟨d, t', h3, h4, h5⟩ := ih f' (by omega) b' _ (by omega) (by omega) j
            have := hl b
            exact ⟨d, t', h3, h4, by omega⟩
          · by_cases hfb : b ≤ f'
            · obtain ⟨t, h1, h2⟩ := seg_later S N (b := b') (c := b) (f := f') (by omega) hfb (f1 + 1 - f') s' (by omega) hs'
              have e : m + 1 - f' = (f1 + 1 - f') + (m + 1 - (f1 + 1)) := by omega
              have j := segP_join (w := wantP g b) (f := f') (m + 1 - (f1 + 1)) (f1 + 1 - f') h1 (by rw [show f' + (f1 + 1 - f') = f1 + 1 by omega]; exact hs)
              rw [← e] at j
              obtain ⟨d, t', h3, h4, h5⟩ := ih f' (by omega) b _ (by omega) (by omega) j
              have := hl b'
              exact ⟨d, t', h3, h4, by omega⟩
            · -- the days from b on are baked on b
              have e1 : f1 + 1 - f' = (b - f') + (f1 + 1 - b) := by omega
              rw [e1] at hs'
              obtain ⟨x, y, h1, h2, h3⟩ := segP_split _ _ hs'
              rw [show f' + (b - f') = b by omega] at h2
              have hrb : row b ≤ row f' + lights b' + x := by
                have := h.least (b - 1) (by omega) (row f' + lights b' + x) (.inl ⟨b', f', x, by omega, by omega, by rw [show b - 1 + 1 - f' = b - f' by omega]; exact h1, rfl⟩)
                rw [show b - 1 + 1 = b by omega] at this
                exact this
              obtain ⟨t, h4, h5⟩ := seg_later S N (b := b') (c := b) (f := b) (by omega) (Nat.le_refl b) (f1 + 1 - b) y (by omega) h2
              have e : m + 1 - b = (f1 + 1 - b) + (m + 1 - (f1 + 1)) := by omega
              have j := segP_join (w := wantP g b) (f := b) (m + 1 - (f1 + 1)) (f1 + 1 - b) h4 (by rw [show b + (f1 + 1 - b) = f1 + 1 by omega]; exact hs)
              rw [← e] at j
              exact ⟨b, _, hb, j, by omega⟩
        · have hw0 : wantN g f1 = 0 := (wantN_at hd).trans hw
          have j := segP_join (w := wantP g b) (f := f1) (m + 1 - (f1 + 1)) 1 (x := 0) (by
            have := segP_add (segP_zero (wantP g b) f1) (show wantP g b (f1 + 0) = some 0 from wantP_unw (by omega) hw0)
            exact this) hs
          rw [show 1 + (m + 1 - (f1 + 1)) = m + 1 - f1 by omega] at j
          obtain ⟨d, t', h3, h4, h5⟩ := ih f1 (by omega) b _ (by omega) (by omega) j
          exact ⟨d, t', h3, h4, by omega⟩
/-! ### the last lit day -/
/-- a cheapest plan for the first j days bakes all from d on, something, on d -/
def EndsAt (g : Good) (lights row : Nat → Int) (j d : Nat) : Prop := d < j ∧ 0 < sumN (fun i => wantN g (d + i)) (j - d) ∧ ∃ s, segP (wantP g d) d (j - d) = some s ∧ row d + lights d + s = row j
def IsLast (g : Good) (lights row : Nat → Int) (j : Nat) : Option Nat → Prop
  | none => ∀ d, ¬ EndsAt g lights row j d
  | some d => EndsAt g lights row j d ∧ ∀ e, d < e → ¬ EndsAt g lights row j e
theorem IsLast.uniq {g : Good} {lights row : Nat → Int} {j : Nat} {o o' : Option Nat} (h : IsLast g lights row j o) (h' : IsLast g lights row j o') : o = o' := by
  cases o with
  | none =>
    cases o' with
    | none => rfl
    | some d => exact absurd h'.1 (h d)
  | some d =>
    cases o' with
    | none => exact absurd h.1 (h' d)
    | some e =>
      congr 1
      by_cases h1 : d < e
      · exact absurd h'.1 (h.2 e h1)
      · by_cases h2 : e < d
        · exact absurd h.1 (h'.2 d h2)
        · omega
theorem wsum_zero {g : Good} {d : Nat} (N : NonNegW g.days) : ∀ m, sumN (fun i => wantN g (d + i)) m = 0 → ∀ i, i < m → wantN g (d + i) = 0
  | 0, _, i, hi => by omega
  | m + 1, h, i, hi => by
    have h : sumN (fun i => wantN g (d + i)) m + wantN g (d + m) = 0 := h
    have a := sumN_nonneg (f := fun i => wantN g (d + i)) m fun k _ => wantN_nonneg N _
    have b := wantN_nonneg N (d + m)
    by_cases e : i = m
    · subst e
      omega
    · exact wsum_zero N m (by omega) i (by omega)
theorem wsum_pos {g : Good} {d m i : Nat} (N : NonNegW g.days) (hi : i < m) (h : 0 < wantN g (d + i)) : 0 < sumN (fun i => wantN g (d + i)) m := by
  have a := sumN_nonneg (f := fun i => wantN g (d + i)) m fun k _ => wantN_nonneg N _
  by_cases e : sumN (fun i => wantN g (d + i)) m = 0
  · have := wsum_zero N m e i hi
    omega
  · omega
section
variable {g : Good} {lights row : Nat → Int} {n : Nat}
/-- of a day without a want nothing changes -/
theorem last_unw (h : IsRow g lights row n) (hn : n ≤ g.days.length) (hl : ∀ b, 0 ≤ lights b) (N : NonNegW g.days) (S : Steady g) {m : Nat} (hm : m < n) (hw : wantN g m = 0) (d : Nat) : EndsAt g lights row (m + 1) d ↔ EndsAt g lights row m d := by
  have er : row (m + 1) = row m := by
    have a := row_up h hl N S.nofine hm
    have b := row_flat h (f := m) (m + 1) (by omega) (by omega) fun k h1 h2 => by
      rw [show k = m by omega]
      exact wantN_zero (by omega) hw
    omega
  constructor
  · rintro ⟨h1, h2, s, h3, h4⟩
    have hdm : d < m := by
      by_cases e : d = m
      · subst e
        rw [show d + 1 - d = 1 by omega] at h2
        have h2 : 0 < 0 + wantN g (d + 0) := h2
        rw [Nat.add_zero, hw] at h2
        omega
      · omega
    rw [show m + 1 - d = (m - d) + 1 by omega] at h2 h3
    obtain ⟨x, y, a1, a2, a3⟩ := segP_succ h3
    rw [show d + (m - d) = m by omega, wantP_unw (by omega) hw] at a2
    have a2 := Option.some.inj a2
    have h2 : 0 < sumN (fun i => wantN g (d + i)) (m - d) + wantN g (d + (m - d)) := h2
    rw [show d + (m - d) = m by omega, hw] at h2
    exact ⟨hdm, by omega, x, a1, by omega⟩
  · rintro ⟨h1, h2, s, h3, h4⟩
    refine ⟨by omega, ?_, s, ?_, by omega⟩
    · rw [show m + 1 - d = (m - d) + 1 by omega]
      show 0 < sumN (fun i => wantN g (d + i)) (m - d) + wantN g (d + (m - d))
      rw [show d + (m - d) = m by omega, hw]
      omega
    · rw [show m + 1 - d = (m - d) + 1 by omega]
      have := segP_add h3 (show wantP g d (d + (m - d)) = some 0 by rw [show d + (m - d) = m by omega]; exact wantP_unw (by omega) hw)
      rw [this, Int.add_zero]
theorem last_wanted (h : IsRow g lights row n) (hn : n ≤ g.days.length) (hl : ∀ b, 0 ≤ lights b) (N : NonNegW g.days) (S : Steady g) {m : Nat} (hm : m < n) (hw : wantN g m ≠ 0) : ∃ d, EndsAt g lights row (m + 1) d := by
  have hp : 0 < wantN g m := by have := wantN_nonneg N m; omega
  rcases h.some m hm with ⟨b, f, s, hb, hf, hs, hv⟩ | ⟨⟨d, hd, hw'⟩, _⟩
  · obtain ⟨d, t, h1, h2, h3⟩ := diag h hn hl N S hm f b s hb hf hs
    have h4 := h.least m hm _ (.inl ⟨d, d, t, h1, h1, h2, rfl⟩)
    refine ⟨d, by omega, wsum_pos N (i := m - d) (by omega) (by rw [show d + (m - d) = m by omega]; exact hp), t, h2, by omega⟩
  · exact absurd ((wantN_at hd).trans hw') hw
/-- it never goes back -/
theorem last_up (h : IsRow g lights row n) (hn : n ≤ g.days.length) (hl : ∀ b, 0 ≤ lights b) (N : NonNegW g.days) (S : Steady g) {m d e : Nat} (hm : m < n) (hw : wantN g m ≠ 0) (hd : EndsAt g lights row m d) (he : IsLast g lights row (m + 1) (some e)) : d ≤ e := by
  by_cases hlt : e < d
  · exfalso
    obtain ⟨d1, d2, s, d3, d4⟩ := hd
    obtain ⟨⟨e1, e2, t, e3, e4⟩, e5⟩ := he
    rw [show m + 1 - e = (m - e) + 1 by omega] at e3
    obtain ⟨x, y, a1, a2, a3⟩ := segP_succ e3
    rw [show e + (m - e) = m by omega] at a2
    obtain ⟨y', b1, b2⟩ := want_later S N (show m < g.days.length by omega) (show e ≤ d by omega) (by omega) a2
    have le : row m ≤ row e + lights e + x := by
      have := h.least (m - 1) (by omega) (row e + lights e + x) (.inl ⟨e, e, x, by omega, by omega, by rw [show m - 1 + 1 - e = m - e by omega]; exact a1, rfl⟩)
      rw [show m - 1 + 1 = m by omega] at this
      exact this
    have sg : segP (wantP g d) d (m + 1 - d) = some (s + y') := by
      rw [show m + 1 - d = (m - d) + 1 by omega]
      exact segP_add d3 (by rw [show d + (m - d) = m by omega]; exact b1)
    have ge := h.least m hm _ (.inl ⟨d, d, _, by omega, by omega, sg, rfl⟩)
    have hp : 0 < wantN g m := by have := wantN_nonneg N m; omega
    exact e5 d hlt ⟨by omega, wsum_pos N (i := m - d) (by omega) (by rw [show d + (m - d) = m by omega]; exact hp), _, sg, by omega⟩
  · omega
end
end Bk

namespace Bk
open PySem PySem.Spec PyProof.Rows L2
def natO (o : Option Nat) : Option Int := o.map fun d => (d : Int)
def natV (o : Option Nat) : V := optV (natO o)
/-- the last lit days of a bakery's first days -/
structure Lasts (g : Good) (ls : List Int) (os : List (Option Nat)) : Prop where
  len : os.length = ls.length + 1
  row : ∃ row, IsRow g (rowF ls) row ls.length ∧ ∀ j o, os[j]? = some o → IsLast g (rowF ls) row j o
theorem EndsAt.congr {g : Good} {lights lights' row row' : Nat → Int} {j d : Nat} (e : ∀ k, k ≤ j → row k = row' k) (el : ∀ k, k < j → lights k = lights' k) (h : EndsAt g lights row j d) : EndsAt g lights' row' j d := by
  obtain ⟨h1, h2, s, h3, h4⟩ := h
  exact ⟨h1, h2, s, h3, by rw [← e d (by omega), ← e j (Nat.le_refl j), ← el d h1]; exact h4⟩
theorem IsLast.of_iff {g g' : Good} {lights lights' row row' : Nat → Int} {j j' : Nat} {o : Option Nat} (e : ∀ d, EndsAt g lights row j d ↔ EndsAt g' lights' row' j' d) (h : IsLast g lights row j o) : IsLast g' lights' row' j' o := by
  cases o with
  | none => exact fun d z => h d ((e d).mpr z)
  | some d => exact ⟨(e d).mp h.1, fun x hx z => h.2 x hx ((e x).mpr z)⟩
theorem Lasts.at_ {g : Good} {ls : List Int} {os : List (Option Nat)} (h : Lasts g ls os) {row : Nat → Int} (hR : IsRow g (rowF ls) row ls.length) {j : Nat} {o : Option Nat} (ho : os[j]? = some o) : IsLast g (rowF ls) row j o := by
  obtain ⟨row', h1, h2⟩ := h.row
  have hj : j < os.length := (List.getElem?_eq_some_iff.mp ho).1
  have hl := h.len
  have e := h1.ext hR
  exact (h2 j o ho).of_iff fun d => ⟨fun z => z.congr (fun k hk => e k (by omega)) fun _ _ => rfl, fun z => z.congr (fun k hk => (e k (by omega)).symm) fun _ _ => rfl⟩
theorem Lasts.uniq {g : Good} {ls : List Int} {os os' : List (Option Nat)} (h : Lasts g ls os) (h' : Lasts g ls os') : os = os' := by
  obtain ⟨row, h1, h2⟩ := h.row
  apply List.ext_getElem?
  intro j
  by_cases hj : j < ls.length + 1
  · have e := List.getElem?_eq_getElem (show j < os.length by rw [h.len]; exact hj)
    have e' := List.getElem?_eq_getElem (show j < os'.length by rw [h'.len]; exact hj)
    rw [e, e', (h2 j _ e).uniq (h'.at_ h1 e')]
  · rw [List.getElem?_eq_none (by rw [h.len]; omega), List.getElem?_eq_none (by rw [h'.len]; omega)]
theorem wantN_take {g : Good} {m k : Nat} (hk : k < m) : wantN ⟨g.days.take m, g.life⟩ k = wantN g k := by
  unfold wantN
  dsimp only
  rw [List.getElem?_take_of_lt hk]
theorem ends_take {g : Good} {lights lights' row : Nat → Int} {m j d : Nat} (hj : j ≤ m) (el : ∀ k, k < m → lights' k = lights k) : EndsAt g lights row j d ↔ EndsAt ⟨g.days.take m, g.life⟩ lights' row j d := by
  have key : d < j → sumN (fun i => wantN ⟨g.days.take m, g.life⟩ (d + i)) (j - d) = sumN (fun i => wantN g (d + i)) (j - d) := fun hd => sumN_congr _ fun i hi => wantN_take (by omega)
  constructor
  · rintro ⟨h1, h2, s, h3, h4⟩
    exact ⟨h1, by rw [key h1]; exact h2, s, by rw [segP_take (by omega) (by omega)]; exact h3, by rw [el d (by omega)]; exact h4⟩
  · rintro ⟨h1, h2, s, h3, h4⟩
    exact ⟨h1, by rw [← key h1]; exact h2, s, by rw [← segP_take (j := m) (by omega) (by omega)]; exact h3, by rw [← el d (by omega)]; exact h4⟩
theorem Lasts.take {g : Good} {ls : List Int} {os : List (Option Nat)} (h : Lasts g ls os) {m : Nat} (hm : m ≤ ls.length) : Lasts ⟨g.days.take m, g.life⟩ (ls.take m) (os.take (m + 1)) := by
  obtain ⟨row, h1, h2⟩ := h.row
  have el : (ls.take m).length = m := by rw [List.length_take]; omega
  refine ⟨by rw [List.length_take, h.len, el]; omega, row, ?_, fun j o ho => ?_⟩
  · rw [el]
    exact row_lights (fun b hb => (rowF_take hb).symm) (h1.take hm)
  · have hj : j < m + 1 := by
      have := (List.getElem?_eq_some_iff.mp ho).1
      rw [List.length_take] at this
      omega
    rw [List.getElem?_take_of_lt hj] at ho
    exact (h2 j o ho).of_iff fun d => ends_take (by omega) fun k hk => rowF_take hk
theorem Steady.take {g : Good} (h : Steady g) (m : Nat) : Steady ⟨g.days.take m, g.life⟩ := by
  refine ⟨fun d hd => h.nofine d (List.mem_of_mem_take hd), fun k d e hd he => ?_⟩
  have hk : k + 1 < m := by
    have := (List.getElem?_eq_some_iff.mp he).1
    rw [List.length_take] at this
    omega
  have hd : (g.days.take m)[k]? = some d := hd
  have he : (g.days.take m)[k + 1]? = some e := he
  rw [List.getElem?_take_of_lt (by omega)] at hd
  rw [List.getElem?_take_of_lt hk] at he
  exact h.never k d e hd he
/-! ### lists of days or None, compared -/
theorem dp_opts {K : PySem.W.Frag} {H : Hp} : ∀ l : List (Option Int), DpAll K H (l.map optV) (l.map optD)
  | [] => .nil
  | none :: r => .cons .non (dp_opts r)
  | some i :: r => .cons (.int i) (dp_opts r)
theorem lay_opts : ∀ l : List (Option Int), PyData.canLayAll0 (l.map optD) = true
  | [] => by simp only [List.map, PyData.canLayAll0]
  | none :: r => by simp only [List.map, PyData.canLayAll0, optD, PyData.canLay0, lay_opts r, Bool.and_self]
  | some i :: r => by simp only [List.map, PyData.canLayAll0, optD, PyData.canLay0, lay_opts r, Bool.and_self]
theorem depth_opts : ∀ l : List (Option Int), PyData.depthAll (l.map optD) = 0
  | [] => by simp only [List.map, PyData.depthAll]
  | none :: r => by simp only [List.map, PyData.depthAll, optD, PyData.depth, depth_opts r]; decide
  | some i :: r => by simp only [List.map, PyData.depthAll, optD, PyData.depth, depth_opts r]; decide
theorem shaped_opts (l : List (Option Int)) : SeqAt.shaped (.list (l.map optD)) = true := by
  simp only [SeqAt.shaped, PyData.canLay0, lay_opts, PyData.depth, depth_opts, Bool.true_and]
  decide
theorem natV_map (os : List (Option Nat)) : (os.map natV) = (os.map natO).map optV := by rw [List.map_map]; rfl
theorem ne_nats {K : PySem.W.Frag} {H : Hp} {a b : Addr} {os : List (Option Nat)} {Q : VK} (h1 : SqL K H a (os.map natV)) (h2 : SqL K H b (os.map natV)) (q : Q (.bl false) H) : rNeD K (.ref a) (.ref b) H Q := by
  rw [natV_map] at h1 h2
  refine ⟨_, _, .lst h1 (dp_opts _), .lst h2 (dp_opts _), shaped_opts _, shaped_opts _, ?_⟩
  rw [SeqAt.eqv_refl _ (by simp only [PyData.canLay0, lay_opts])]
  exact q
theorem ne_nilnil {K : PySem.W.Frag} {H : Hp} {a b : Addr} {Q : VK} (h1 : SqL K H a []) (h2 : SqL K H b []) (q : Q (.bl false) H) : rNeD K (.ref a) (.ref b) H Q := by
  refine ⟨.list [], .list [], .lst h1 .nil, .lst h2 .nil, shaped_opts [], shaped_opts [], ?_⟩
  rw [SeqAt.eqv_refl _ (by simp only [PyData.canLay0, PyData.canLayAll0])]
  exact q
theorem atI_last {α : Type} {xs : List α} {m : Nat} {v : α} (h : xs.length = m + 1) (e : xs[m]? = some v) : atI xs (-1) = some v := by
  have k : ixN xs.length (-1) = some m := by
    rw [h]
    unfold ixN
    rw [if_neg (by decide), if_pos (by omega)]
    congr 1
    omega
  unfold atI
  rw [k]
  exact e
end Bk

namespace Bk
open PySem PySem.Spec PyProof.Rows L2
/-! ### list != []: whatever the list holds -/
def rNeN (K : PySem.W.Frag) : R2 := fun x y H Q => ∃ (l b : Addr) (xs : List V), x = .ref l ∧ y = .ref b ∧ SqL K H l xs ∧ SqL K H b [] ∧ Q (.bl (!decide (xs.length = 0))) H
theorem op_neNil {X : Cx} (hu : X.A.units + 64 < cLine) : OpR X (compareOp .NotEq) (rNeN X.K) := by
  intro pins s σ H x y v u Q I rx ry h
  obtain ⟨l, b, xs, rfl, rfl, hl, hb, q⟩ := h
  by_cases e : xs.length = 0
  · have e' := List.eq_nil_of_length_eq_zero e
    subst e'
    exact op_neD hu pins s σ H _ _ v u Q I rx ry (ne_nilnil hl hb q)
  · cases rx
    cases ry
    obtain ⟨i1, r1, p1, z1⟩ := I.list hl
    obtain ⟨i2, r2, p2, z2⟩ := I.list hb
    have e1 := r1.length
    have e2 := r2.length
    rw [decide_eq_false e] at q
    exact PySem.SeqAt.RcNeAt.lists_lengths p1.isList p2.isList (by rw [List.size_toArray, List.size_toArray, ← e1, ← e2]; exact bne_iff_ne.mpr e) (by omega) _ _ _ _ ⟨.bl _, H, I, rfl, q⟩
theorem rNeN_r {K : PySem.W.Frag} {l b : Addr} {H : Hp} {Q : VK} : rNeN K (.ref l) (.ref b) H Q = ∃ xs, SqL K H l xs ∧ SqL K H b [] ∧ Q (.bl (!decide (xs.length = 0))) H := propext ⟨fun ⟨_, _, xs, e1, e2, h⟩ => by cases e1; cases e2; exact ⟨xs, h⟩, fun ⟨xs, h⟩ => ⟨l, b, xs, rfl, rfl, h⟩⟩
/-- [x for x in .. if ..], of which only is asked whether it is empty -/
theorem lcNil {J : It} {n : Nat} {G : Hp → Prop} {Y : Nat → Hp → V → Hp → Prop} (w : Walk J n G Y) {g : TG} {tt : TT} {te : TE} {vs : List Nat} {σ : L2.St} {H1 : Hp} {D : Addr} {Qd : Hp → Prop} (bs : Nat → Bool) (hD : H1 D = none) (hz : n ≤ 10000)
    (hG : ∀ H, Same H1 H → G H) (hY : ∀ i H x H', Y i H x H' → Same H H')
    (hs : ∀ i x H H', i < n → Same H1 H' → Y i H x H' → ∀ (R1 : V → Hp → Prop) (R0 : Hp → Prop), (bs i = true → ∀ y H4, Same H' H4 → R1 y H4) → (bs i = false → ∀ H4, Same H' H4 → R0 H4) → g x (wipe σ vs) H' fun σ2 H2 => wipe σ2 vs = wipe σ vs ∧ tt σ2 H2 fun b H3 => if b = true then te σ2 H3 R1 else R0 H3)
    (hd : ∀ H acc, Same H1 H → H D = some (.lst acc) → (acc.length = 0 ↔ ∀ j, j < n → bs j = false) → Qd H) : LcR J g tt te vs σ D H1 Qd := by
  refine LcR.by w (fun i H => Same H1 H ∧ ∃ acc, H D = some (.lst acc) ∧ acc.length ≤ i ∧ (acc.length = 0 ↔ ∀ j, j < i → bs j = false)) ⟨same_upd hD, [], upd_same, Nat.le_refl _, ⟨fun _ j hj => by omega, fun _ => rfl⟩⟩ (fun i H _ h => hG H h.1) (fun i x H H' hi h y => ?_) (fun H h => ?_)
  · obtain ⟨s0, acc, ea, hl, hacc⟩ := h
    have sy := hY _ _ _ _ y
    refine hs i x H H' hi (s0.trans sy) y _ _ (fun hb z H4 s4 => ?_) (fun hb H4 s4 => ?_)
    · refine ⟨acc, s4 _ _ (sy _ _ ea), sz100l (by omega), same_mut ((s0.trans sy).trans s4) hD, acc ++ [z], upd_same, by rw [List.length_append, List.length_singleton]; omega, ⟨fun e => ?_, fun e => ?_⟩⟩
      · rw [List.length_append, List.length_singleton] at e
        omega
      · have := e i (by omega)
        rw [hb] at this
        cases this
    · refine ⟨(s0.trans sy).trans s4, acc, s4 _ _ (sy _ _ ea), by omega, hacc.trans ⟨fun e j hj => ?_, fun e j hj => e j (by omega)⟩⟩
      by_cases ej : j = i
      · subst ej
        exact hb
      · exact e j (by omega)
  · obtain ⟨s0, acc, ea, _, hacc⟩ := h
    exact hd H acc s0 ea hacc
end Bk

namespace Bk
open PySem PySem.Spec PyProof.Rows L2
/-! ### i not in range(lo, hi) -/
def rNinr : R2 := fun x y H Q => ∃ (i : Int) (p : Addr) (m n : Int), x = .int i ∧ y = .ref p ∧ H p = some (.rng m n) ∧ Q (.bl (!decide (m ≤ i ∧ i < n))) H
theorem op_ninr {X : Cx} : OpR X (compareOp .NotIn) rNinr := by
  intro pins s σ H x y v u Q I rv ru hh
  obtain ⟨i, p, m, n, e1, e2, hp, q⟩ := hh
  subst e1
  subst e2
  obtain ⟨tk, rfl⟩ := rv
  have eu : u = Value.ref p := ru
  subst eu
  obtain ⟨w1, w2, w3, hob⟩ := I.hok p _ hp
  show wpAny _ _ (do return Value.bool (!(← contains (Value.ref p) (Value.int i tk)))) _ _ s
  have ty : s.TypeIs (Value.ref p) "range" := ⟨_, hob, rfl⟩
  refine wpAny_bind (wpAny_contains_slot ty F.slot_range_contains ?_)
  refine call_meets F.slot_range_contains ty F.entry_range_contains (F.args_range_contains_2 _ _) (q_contains p m n i w1 w2 w3 tk) ⟨hob, ?_⟩
  refine wpAny_truthy_bool (wpAny_pure ?_)
  refine ⟨.bl _, H, I, rfl, ?_⟩
  rw [place1]
  exact q
theorem rNinr_r {i : Int} {a : Addr} {H : Hp} {Q : VK} : rNinr (.int i) (.ref a) H Q = ∃ lo hi, H a = some (.rng lo hi) ∧ Q (.bl (!decide (lo ≤ i ∧ i < hi))) H := propext ⟨fun ⟨_, _, lo, hi, e1, e2, h⟩ => by cases e1; cases e2; exact ⟨lo, hi, h⟩, fun ⟨lo, hi, h⟩ => ⟨i, a, lo, hi, rfl, rfl, h⟩⟩
end Bk

namespace Bk
open PySem PySem.Spec PyProof.Rows L2
/-! ### what is a bakery by the looks has its shape -/
theorem numD_int {d : PyData} (h : numD d = true) : ∃ i, d = .int i := by
  cases d with
  | int i => exact ⟨i, rfl⟩
  | _ => cases h
theorem numsD_of : ∀ ls : List PyData, ls.all numD = true → ∃ ns : List Int, ls = ns.map PyData.int
  | [], _ => ⟨[], rfl⟩
  | d :: r, h => by
    rw [List.all_cons, Bool.and_eq_true] at h
    obtain ⟨i, rfl⟩ := numD_int h.1
    obtain ⟨ns, rfl⟩ := numsD_of r h.2
    exact ⟨i :: ns, rfl⟩
theorem bound_of {d : PyData} (h : boundB d = true) : ∃ o, d = optD o := by
  cases d with
  | none => exact ⟨none, rfl⟩
  | int i => exact ⟨some i, rfl⟩
  | _ => cases h
theorem life_of {d : PyData} (h : lifeB d = true) : ∃ o, d = optD o := by
  cases d with
  | none => exact ⟨none, rfl⟩
  | int i => exact ⟨some i, rfl⟩
  | _ => cases h
theorem day_of {d : PyData} (h : dayB d = true) : ∃ x, d = dayD x := by
  cases d with
  | tuple ds =>
    match ds, h with
    | [d1, d2, d3, d4], h =>
      simp only [dayB, Bool.and_eq_true, Bool.or_eq_true] at h
      obtain ⟨⟨⟨h1, h2⟩, h3⟩, h4⟩ := h
      obtain ⟨i1, rfl⟩ := numD_int h1
      obtain ⟨i2, rfl⟩ := numD_int h2
      obtain ⟨i3, rfl⟩ := numD_int h3
      rcases h4 with h4 | h4
      · cases d4 with
        | none => exact ⟨⟨i1, i2, i3, none⟩, rfl⟩
        | _ => cases h4
      · obtain ⟨i4, rfl⟩ := numD_int h4
        exact ⟨⟨i1, i2, i3, some i4⟩, rfl⟩
  | _ => cases h
theorem days_of : ∀ ls : List PyData, ls.all dayB = true → ∃ ns : List Day, ls = ns.map dayD
  | [], _ => ⟨[], rfl⟩
  | d :: r, h => by
    rw [List.all_cons, Bool.and_eq_true] at h
    obtain ⟨i, rfl⟩ := day_of h.1
    obtain ⟨ns, rfl⟩ := days_of r h.2
    exact ⟨i :: ns, rfl⟩
theorem good_of {n : Nat} {d : PyData} (h : goodB n d = true) : ∃ g, d = goodD g := by
  obtain ⟨ds, l, rfl, _, h2, h3⟩ := goodB_inv h
  obtain ⟨ns, rfl⟩ := days_of ds h3
  obtain ⟨o, rfl⟩ := life_of h2
  exact ⟨⟨ns, o⟩, rfl⟩
theorem goods_of {n : Nat} : ∀ ls : List PyData, ls.all (goodB n) = true → ∃ ns : List Good, ls = ns.map goodD
  | [], _ => ⟨[], rfl⟩
  | d :: r, h => by
    rw [List.all_cons, Bool.and_eq_true] at h
    obtain ⟨i, rfl⟩ := good_of h.1
    obtain ⟨ns, rfl⟩ := goods_of r h.2
    exact ⟨i :: ns, rfl⟩
theorem bakB_bak {d : PyData} (h : bakB d = true) : ∃ b, d = bakD b := by
  obtain ⟨ls, bo, gs, rfl, h1, h2, _, h4⟩ := bakB_inv h
  obtain ⟨ns, rfl⟩ := numsD_of ls (Bool.and_eq_true_iff.mp h1).2
  obtain ⟨o, rfl⟩ := bound_of h2
  obtain ⟨g, rfl⟩ := goods_of gs h4
  exact ⟨⟨ns, o, g⟩, rfl⟩
/-! ### t[::-1] of a tuple -/
def backV {α : Type} (xs : List α) : List α := ((List.range xs.length).map fun (k : Nat) => ((xs.length : Int) - 1 + (k : Int) * -1).toNat).filterMap (xs[·]?)
theorem backV_length {α : Type} (xs : List α) : (backV xs).length = xs.length := by
  unfold backV
  rw [pick_length, List.length_map, List.length_range]
  intro i hi
  obtain ⟨k, hk, rfl⟩ := List.mem_map.mp hi
  have := List.mem_range.mp hk
  omega
section
variable {prog : Program} {w : World} {A : Around} {E : Value → Shared → Prop} {s : Shared}
theorem sliceApplied_back {sl : Addr} {vs : Value} {n : Nat} {Q : Int × Int × Nat → Shared → Prop} (hs : s.heap.IsSliceOf sl .none .none vs) (ps : IsPart vs (some (-1)))
    (h : Q ((n : Int) - 1, -1, n) s) : wpAny (model prog w) A (Builtin.Slice.sliceApplied (.ref sl) (pure (n : Int))) Q E s := by
  obtain ⟨os, hos, hcs, hds⟩ := id hs
  unfold Builtin.Slice.sliceApplied Builtin.Slice.sliceFields
  refine wpAny_bind (wpAny_bind (wpAny_field hos hds (x := .none) rfl (wpAny_bind (wpAny_field hos hds (x := .none) rfl (wpAny_bind (wpAny_field hos hds (x := vs) rfl (wpAny_pure ?_)))))))
  refine wpAny_bind (HT.slicePart_ ps ?_)
  show wpAny _ _ (if ((-1 : Int) == 0) = true then _ else _) _ _ s
  rw [if_neg (by decide)]
  refine wpAny_bind (HT.slicePart_ .none (wpAny_bind (HT.slicePart_ .none (wpAny_bind (wpAny_pure ?_)))))
  show wpAny _ _ (match Builtin.Slice.sliceAdjust none none (-1) (n : Int) with | (lo, hi) => pure (lo, (-1 : Int), Builtin.Slice.slicePlaces lo hi (-1))) _ _ s
  rw [show Builtin.Slice.sliceAdjust none none (-1) (n : Int) = ((n : Int) - 1, -1) from rfl]
  show wpAny _ _ (pure ((n : Int) - 1, (-1 : Int), Builtin.Slice.slicePlaces ((n : Int) - 1) (-1) (-1))) _ _ s
  rw [show Builtin.Slice.slicePlaces ((n : Int) - 1) (-1) (-1) = n by
    unfold Builtin.Slice.slicePlaces
    rw [if_neg (by decide)]
    by_cases h0 : (n : Int) - 1 > -1
    · rw [if_pos h0, show (- -1 : Int) = 1 by decide, Int.ediv_one]
      omega
    · rw [if_neg h0]
      omega]
  exact wpAny_pure h
theorem getItem_tuple_back {t sl : Addr} {items : Array Value} {vs : Value} {Q : Value → Shared → Prop} (ht : IsTup s.heap t items) (hs : s.heap.IsSliceOf sl .none .none vs) (ps : IsPart vs (some (-1)))
    (h : Q (.ref s.heap.objs.size) { s with heap := s.heap.push { cls := .type "tuple", data := .seq (backV items.toList).toArray } })
    (hsz : items.size ≤ sizeLine) : wpAny (model prog w) A (getItem (.ref t) (.ref sl)) Q E s := by
  have htake : sizeOk (.seq (backV items.toList).toArray) := by
    show (backV items.toList).toArray.size ≤ sizeLine
    rw [List.size_toArray, backV_length, Array.length_toList]
    exact hsz
  obtain ⟨os, hos, hcs, hds⟩ := id hs
  have hTs : s.TypeIs (.ref sl) "slice" := ⟨os, hos, hcs⟩
  unfold getItem
  try with_reducible refine wpAny_holding ?_
  first | refine wpAny_bind (wpAny_pure ?_) | skip
  refine wpAny_bind (wpAny_sequenceKey ht.typeIs (by decide) ?_)
  refine wpAny_bind (wpAny_callSpecial?_slot (name := Str.ofString "__getitem__") ht.typeIs PyProof.Rows.slot_tuple_getitem
    (wpAny_call_entry PyProof.Rows.slot_tuple_getitem ht.typeIs entry_tuple_getitem ?_ (args_tuple_getitem _ _)))
  show wpAny _ _ (Builtin.Tuple.tupleItemsOf (.ref t) >>= _) _ _ s
  refine wpAny_bind (tupleItemsOf_ ht ?_)
  refine wpAny_bind (wpAny_typeOf hTs ?_)
  rw [if_pos (by decide)]
  refine wpAny_bind (sliceApplied_back hs ps ?_)
  have hno : ¬ ((((items.size : Int) - 1) == 0 && (-1 : Int) == 1 && items.size == items.size) = true) := by
    intro q
    rw [Bool.and_eq_true, Bool.and_eq_true] at q
    exact absurd q.1.2 (by decide)
  show wpAny _ _ (if (((items.size : Int) - 1) == 0 && (-1 : Int) == 1 && items.size == items.size) = true then _ else _) _ _ s
  have epick : ((List.range items.size).filterMap fun (k : Nat) => items[((items.size : Int) - 1 + (k : Int) * -1).toNat]?).toArray = (backV items.toList).toArray := by
    unfold backV
    rw [List.filterMap_map, Array.length_toList]
    congr 1
    congr 1
    funext k
    simp
  rw [if_neg hno, epick]
  first
    | exact wpAny_bind (m := Builtin.Tuple.tupleExact _) (wpAny_newObj_type (wpAny_pure ⟨_, rfl, wpAny_pure h⟩) htake)
    | exact wpAny_bind (m := Builtin.Tuple.tupleExact _) (wpAny_newObj_type (wpAny_bind (wpAny_pure (wpAny_pure ⟨_, rfl, wpAny_pure h⟩))) htake)
    | exact wpAny_bind (wpAny_bind (m := Builtin.Tuple.tupleExact _) (wpAny_newObj_type (wpAny_pure (wpAny_pure ⟨_, rfl, wpAny_pure h⟩)) htake))
    | exact wpAny_bind (wpAny_bind (m := Builtin.Tuple.tupleExact _) (wpAny_newObj_type (wpAny_pure ⟨_, rfl, wpAny_pure h⟩) htake))
end
def tBackT (K : PySem.W.Frag) (te : TE) (tl th ts : TO) : TE := fun σ H Q => te σ H fun x H1 => tl σ H1 fun l H2 => th σ H2 fun u H3 => ts σ H3 fun st H4 => ∃ a xs, x = .ref a ∧ SqT K H4 a xs ∧ l = none ∧ u = none ∧ st = some (-1) ∧
  ∀ p, H4 p = none → Q (.ref p) (upd H4 p (.tup (backV xs)))
theorem pe_backT {X : Cx} {e : Expr} {lo hi st : Option Expr} {te : TE} {tl th ts : TO} {p3 pos : Pos} (he : PE X e te) (hl : PO X lo tl) (hu : PO X hi th) (hst : PO X st ts)
    (hsub : ∀ a i, subscripted (.Slice lo hi st p3) false a i = operate [a, i] (getItem a i) := by intro _ _; with_unfolding_all rfl) : PE X (.Subscript e (.Slice lo hi st p3) pos) (tBackT X.K te tl th ts) := by
  refine ⟨fun pins s σ H Q I h => ?_⟩
  refine Subscript_ (thn (he.run pins s σ H _ I h) fun v s1 ⟨x, H1, I1, r1, q1⟩ => ?_)
  refine wpAny_Slice (thn (hl.run pins s1 σ H1 _ I1 q1) fun vl s2 ⟨l, H2, I2, pl, q2⟩ => ?_)
  refine thn (hu.run pins s2 σ H2 _ I2 q2) fun vu s3 ⟨u, H3, I3, pu, q3⟩ => ?_
  refine thn (hst.run pins s3 σ H3 _ I3 q3) fun vs s4 ⟨o, H4, I4, ps, q4⟩ => ?_
  obtain ⟨a, xs, ex, hx, e1, e2, e3, q⟩ := q4
  subst ex e1 e2 e3
  cases r1
  cases pl
  cases pu
  have I5 : Inv X pins σ H4 { s4 with heap := s4.heap.push { cls := .type "slice", data := .fields #[.none, .none, vs] } } := I4.kept (t' := s4.toks) fun b ob q => Heap.get?_push_of_some _ q
  obtain ⟨its, r, ht, hz⟩ := I5.tuple hx
  have hlen := r.length
  show wpAny (model X.prog X.w) X.A (subscriptTail e (.Slice lo hi st p3) (.ref a) (.ref s4.heap.objs.size)) (EP X pins σ Q) X.xe { s4 with heap := s4.heap.push { cls := .type "slice", data := .fields #[.none, .none, vs] } }
  refine tail_any (ops := [.ref a, .ref s4.heap.objs.size]) ht.typeIs (PyProof.Rows.slot_tuple_getitem.lookup) ?_ (hsub _ _)
  refine getItem_tuple_back ht (Heap.IsSliceOf.new _ .none .none vs) ps ?_ (by rw [List.size_toArray]; omega)
  have rp : Vals (backV xs) (backV its) := by
    have := vals_pick r ((List.range xs.length).map fun (k : Nat) => ((xs.length : Int) - 1 + (k : Int) * -1).toNat)
    unfold backV
    rw [← hlen]
    exact this
  show EP X pins σ Q _ { s4 with heap := (s4.heap.push { cls := .type "slice", data := .fields #[.none, .none, vs] }).push { cls := .type "tuple", data := .seq (backV its).toArray } }
  refine ⟨.ref _, _, I5.laid (t' := s4.toks) (o := .tup (backV xs)) (fun b ob q => Heap.get?_push_of_some _ q) (Nat.le_refl _) ?_, rfl, q _ (I5.hok.fresh (Nat.le_refl _))⟩
  exact ⟨by rw [backV_length]; omega, _, rp, IsTup.new _ _⟩
/-! ### expressions that tell some data, whatever they are -/
def Grow (R : Hp → V → Prop) : Prop := ∀ H H' y, Same H H' → R H y → R H' y
def Ye (R : Hp → V → Prop) (te : TE) (σ : L2.St) (H : Hp) : Prop := ∀ H1, Same H H1 → ∀ Q : VK, (∀ H2 y, Same H1 H2 → R H2 y → Q y H2) → te σ H1 Q
def Ya (R : Hp → List V → Prop) (ta : TA) (σ : L2.St) (H : Hp) : Prop := ∀ H1, Same H H1 → ∀ Q : List V → Hp → Prop, (∀ H2 ys, Same H1 H2 → R H2 ys → Q ys H2) → ta σ H1 Q
def Yo (to : TO) (σ : L2.St) (H : Hp) : Prop := ∀ H1, Same H H1 → ∀ Q : Option Int → Hp → Prop, (∀ H2 o, Same H1 H2 → Q o H2) → to σ H1 Q
def Yt (tt : TT) (σ : L2.St) (H : Hp) : Prop := ∀ H1, Same H H1 → ∀ Q : Bool → Hp → Prop, (∀ H2 b, Same H1 H2 → Q b H2) → tt σ H1 Q
def AnyD (K : PySem.W.Frag) : Hp → V → Prop := fun H y => ∃ d, Th K H y d
def TupD (K : PySem.W.Frag) (n : Nat) : Hp → V → Prop := fun H y => ∃ ds, ds.length ≤ n ∧ Th K H y (.tuple ds)
def LstD (K : PySem.W.Frag) (n : Nat) : Hp → V → Prop := fun H y => ∃ ds, ds.length ≤ n ∧ Th K H y (.list ds)
def LstE (K : PySem.W.Frag) (n : Nat) : Hp → V → Prop := fun H y => ∃ ds, ds.length = n ∧ Th K H y (.list ds)
def AllD (K : PySem.W.Frag) (n : Nat) : Hp → List V → Prop := fun H ys => ∃ ds, ds.length = n ∧ ThAll K H ys ds
def IntD (P : Int → Prop) : Hp → V → Prop := fun _ y => ∃ i, y = .int i ∧ P i
section
variable {K : PySem.W.Frag} {σ : L2.St} {H : Hp} {te ta tb : TE} {R R' : Hp → V → Prop}
theorem Ye.at (h : Ye R te σ H) {H1 : Hp} (S : Same H H1) {Q : VK} (q : ∀ H2 y, Same H1 H2 → R H2 y → Q y H2) : te σ H1 Q := h H1 S Q q
theorem Ye.same (h : Ye R te σ H) {H1 : Hp} (S : Same H H1) : Ye R te σ H1 := fun H2 S2 => h H2 (S.trans S2)
theorem Ye.weak (h : Ye R te σ H) (w : ∀ H y, R H y → R' H y) : Ye R' te σ H := fun H1 S Q q => h H1 S Q fun H2 y S2 r => q H2 y S2 (w _ _ r)
theorem Ye.tup {n : Nat} (h : Ye (TupD K n) te σ H) : Ye (AnyD K) te σ H := h.weak fun _ _ ⟨ds, _, t⟩ => ⟨_, t⟩
theorem Ye.lst {n : Nat} (h : Ye (LstD K n) te σ H) : Ye (AnyD K) te σ H := h.weak fun _ _ ⟨ds, _, t⟩ => ⟨_, t⟩
theorem Ye.lstE {n : Nat} (h : Ye (LstE K n) te σ H) : Ye (AnyD K) te σ H := h.weak fun _ _ ⟨ds, _, t⟩ => ⟨_, t⟩
theorem Ye.exact {n : Nat} (h : Ye (LstE K n) te σ H) : Ye (LstD K n) te σ H := h.weak fun _ _ ⟨ds, e, t⟩ => ⟨_, Nat.le_of_eq e, t⟩
theorem Ye.int {P : Int → Prop} (h : Ye (IntD P) te σ H) : Ye (AnyD K) te σ H := h.weak fun _ _ ⟨i, e, _⟩ => ⟨.int i, by rw [e]; exact .int i⟩
theorem grow_any : Grow (AnyD K) := fun _ _ _ S ⟨d, t⟩ => ⟨d, t.same S⟩
theorem grow_tup {n : Nat} : Grow (TupD K n) := fun _ _ _ S ⟨d, e, t⟩ => ⟨d, e, t.same S⟩
theorem grow_lst {n : Nat} : Grow (LstD K n) := fun _ _ _ S ⟨d, e, t⟩ => ⟨d, e, t.same S⟩
theorem grow_lstE {n : Nat} : Grow (LstE K n) := fun _ _ _ S ⟨d, e, t⟩ => ⟨d, e, t.same S⟩
theorem ye_var {i : Nat} {v : V} (hm : Grow R) (e : σ[i]? = some (some v)) (h : R H v) : Ye R (tVar i) σ H := fun H1 S Q q => ⟨v, e, q H1 v (Same.refl _) (hm _ _ _ S h)⟩
theorem ye_vI {i : Nat} {z : Int} {P : Int → Prop} (e : σ[i]? = some (some (.int z))) (h : P z) : Ye (IntD P) (tVar i) σ H := fun H1 S Q q => ⟨_, e, q H1 _ (Same.refl _) ⟨z, rfl, h⟩⟩
theorem ye_i {z : Int} {P : Int → Prop} (h : P z) : Ye (IntD P) (tC (.int z)) σ H := fun H1 _ Q q => q H1 _ (Same.refl _) ⟨z, rfl, h⟩
theorem ye_ci {z : Int} : Ye (AnyD K) (tC (.int z)) σ H := fun H1 _ Q q => q H1 _ (Same.refl _) ⟨_, .int z⟩
theorem ye_cb {z : Bool} : Ye (AnyD K) (tC (.bl z)) σ H := fun H1 _ Q q => q H1 _ (Same.refl _) ⟨_, .bl z⟩
theorem ye_cn : Ye (AnyD K) (tC .non) σ H := fun H1 _ Q q => q H1 _ (Same.refl _) ⟨_, .non⟩
theorem ye_cs {z : Str} : Ye (AnyD K) (tC (.str z)) σ H := fun H1 _ Q q => q H1 _ (Same.refl _) ⟨_, .str z⟩
theorem ye_neg {P P' : Int → Prop} (h : Ye (IntD P) te σ H) (hp : ∀ i, P i → P' (-i)) : Ye (IntD P') (tUn (rU fun i => .int (-i)) te) σ H := fun H1 S Q q => h H1 S _ fun H2 y S2 ⟨i, e, p⟩ => ⟨i, e, q H2 _ S2 ⟨_, rfl, hp i p⟩⟩
theorem ye_I0 {f : Int → Int → Int} {P P1 P2 : Int → Prop} (ha : Ye (IntD P1) ta σ H) (hb : Ye (IntD P2) tb σ H) (hp : ∀ i j, P1 i → P2 j → P (f i j)) : Ye (IntD P) (tOp (rI0 fun i j => .int (f i j)) ta tb) σ H :=
  fun H1 S Q q => ha H1 S _ fun H2 y S2 ⟨i, e, p1⟩ => hb H2 (S.trans S2) _ fun H3 z S3 ⟨j, e2, p2⟩ => ⟨i, j, e, e2, q H3 _ (S2.trans S3) ⟨_, rfl, hp i j p1 p2⟩⟩
theorem ye_I {C : Int → Int → Prop} {f : Int → Int → Int} {P P1 P2 : Int → Prop} (ha : Ye (IntD P1) ta σ H) (hb : Ye (IntD P2) tb σ H) (hp : ∀ i j, P1 i → P2 j → C i j ∧ P (f i j)) : Ye (IntD P) (tOp (rI C fun i j => .int (f i j)) ta tb) σ H :=
  fun H1 S Q q => ha H1 S _ fun H2 y S2 ⟨i, e, p1⟩ => hb H2 (S.trans S2) _ fun H3 z S3 ⟨j, e2, p2⟩ => ⟨i, j, e, e2, (hp i j p1 p2).1, q H3 _ (S2.trans S3) ⟨_, rfl, (hp i j p1 p2).2⟩⟩
theorem ye_mod {n : Int} {P : Int → Prop} (h : Ye (IntD P) te σ H) (hn : 0 < n) : Ye (IntD fun i => 0 ≤ i ∧ i < n) (tOp (rI (fun _ j => 0 < j) fun i j => .int (i % j)) te (tC (.int n))) σ H :=
  ye_I h (ye_i (P := fun j => j = n) rfl) fun i j _ e => by subst e; exact ⟨hn, Int.emod_nonneg _ (by omega), Int.emod_lt_of_pos _ hn⟩
theorem ye_pow {a b : Int} (h : CPow a b) : Ye (IntD fun _ => True) (tOp (rI CPow fun i j => .int (i ^ j.toNat)) (tC (.int a)) (tC (.int b))) σ H :=
  ye_I (ye_i (P := fun j => j = a) rfl) (ye_i (P := fun j => j = b) rfl) fun i j e1 e2 => by subst e1 e2; exact ⟨h, trivial⟩
theorem ye_dict : Ye (AnyD K) tDNewK σ H := fun H1 S Q q p hp => q _ _ (same_upd hp) ⟨_, .dic upd_same⟩
theorem ya_nil : Ya (AllD K 0) tNil σ H := fun H1 _ Q q => q H1 _ (Same.refl _) ⟨[], rfl, .nil⟩
theorem ya_cons {n : Nat} {ts : TA} (he : Ye (AnyD K) te σ H) (ha : Ya (AllD K n) ts σ H) : Ya (AllD K (n + 1)) (tCons te ts) σ H :=
  fun H1 S Q q => he H1 S _ fun H2 y S2 ⟨d, t⟩ => ha H2 (S.trans S2) _ fun H3 ys S3 ⟨ds, e, ts⟩ => q H3 _ (S2.trans S3) ⟨d :: ds, by rw [List.length_cons, e], .cons (t.same S3) ts⟩
theorem ye_lst {n : Nat} {ts : TA} (ha : Ya (AllD K n) ts σ H) (hn : n ≤ 100000 := by decide) : Ye (LstE K n) (tLst ts) σ H :=
  fun H1 S Q q => ha H1 S _ fun H2 ys S2 ⟨ds, e, t⟩ => ⟨sz100 (by rw [t.length, e]; exact hn), fun p hp => q _ _ (S2.trans (same_upd hp)) ⟨ds, e, .lst (SqL.of upd_same) (t.same (same_upd hp))⟩⟩
theorem ye_tup {n : Nat} {ts : TA} (ha : Ya (AllD K n) ts σ H) (hn : n ≤ 100000 := by decide) : Ye (TupD K n) (tTup ts) σ H :=
  fun H1 S Q q => ha H1 S _ fun H2 ys S2 ⟨ds, e, t⟩ => ⟨sz100 (by rw [t.length, e]; exact hn), fun p hp => q _ _ (S2.trans (same_upd hp)) ⟨ds, Nat.le_of_eq e, .tup (SqT.of upd_same) (t.same (same_upd hp))⟩⟩
theorem ye_ixE {n : Nat} {m : Int} (ha : Ye (LstE K n) ta σ H) (hb : Ye (IntD fun i => 0 ≤ i ∧ i < m) tb σ H) (hm : m ≤ (n : Int) := by decide) : Ye (AnyD K) (tOp (rIxL K) ta tb) σ H := by
  refine fun H1 S Q q => ha H1 S _ fun H2 y S2 ⟨ds, e, t⟩ => hb H2 (S.trans S2) _ fun H3 z S3 ⟨j, e2, p1, p2⟩ => ?_
  subst e2
  have t3 := t.same S3
  cases t3 with
  | @lst a xs _ hs ha =>
    have hl := ha.length
    have hj : xs[j.toNat]? = some xs[j.toNat] := List.getElem?_eq_getElem (by omega)
    obtain ⟨d, _, hd⟩ := ha.get hj
    exact ⟨a, xs, j, _, rfl, rfl, hs, atI_of p1 hj, q H3 _ (S2.trans S3) ⟨d, hd⟩⟩
theorem ye_dig {k : Nat} {pd : Addr} {fs : List Int} {i : Nat} {f : Int} (e : σ[k]? = some (some (.ref pd))) (h : SqL K H pd (fs.map V.int)) (hf : fs[i]? = some f) : Ye (IntD fun z => z = f) (tOp (rIxL K) (tVar k) (tC (.int (i : Int)))) σ H :=
  fun H1 S Q q => ⟨_, e, ⟨pd, fs.map V.int, (i : Int), .int f, rfl, rfl, S.seq h, atI_nat (by rw [List.getElem?_map, hf]; rfl), q H1 _ (Same.refl _) ⟨f, rfl, rfl⟩⟩⟩
theorem yo_none : Yo tNoPart σ H := fun H1 _ Q q => q H1 _ (Same.refl _)
theorem yo_some {P : Int → Prop} (h : Ye (IntD P) te σ H) : Yo (tPart te) σ H := fun H1 S Q q => h H1 S _ fun H2 y S2 ⟨i, e, _⟩ => ⟨i, e, q H2 _ S2⟩
theorem thAll_cut {H : Hp} {xs : List V} {ds : List PyData} (h : ThAll K H xs ds) (a b : Nat) : ThAll K H ((xs.drop a).take b) ((ds.drop a).take b) := (h.drop a).take b
theorem ye_slT {n : Nat} {tl th : TO} (h : Ye (TupD K n) te σ H) (hl : Yo tl σ H) (hh : Yo th σ H) : Ye (TupD K n) (tSl (rSlA K) te tl th) σ H := by
  refine fun H1 S Q q => h H1 S _ fun H2 y S2 ⟨ds, e, t⟩ => hl H2 (S.trans S2) _ fun H3 lo S3 => hh H3 (S.trans (S2.trans S3)) _ fun H4 hi S4 => ?_
  have S24 := S2.trans (S3.trans S4)
  have t3 := t.same (S3.trans S4)
  cases t3 with
  | @tup a xs _ hs ha =>
    refine ⟨a, xs, rfl, hs, fun _ => q _ _ S24 ⟨ds, e, .tup hs ha⟩, fun _ p hp => q _ _ (S24.trans (same_upd hp)) ⟨_, ?_, .tup (SqT.of upd_same) ((thAll_cut ha _ _).same (same_upd hp))⟩⟩
    rw [List.length_take, List.length_drop]
    omega
theorem ye_slL {n : Nat} {tl th : TO} (h : Ye (LstD K n) te σ H) (hl : Yo tl σ H) (hh : Yo th σ H) : Ye (LstD K n) (tSl (rSlL K) te tl th) σ H := by
  refine fun H1 S Q q => h H1 S _ fun H2 y S2 ⟨ds, e, t⟩ => hl H2 (S.trans S2) _ fun H3 lo S3 => hh H3 (S.trans (S2.trans S3)) _ fun H4 hi S4 => ?_
  have S24 := S2.trans (S3.trans S4)
  have t3 := t.same (S3.trans S4)
  cases t3 with
  | @lst a xs _ hs ha =>
    refine ⟨a, xs, rfl, hs, fun p hp => q _ _ (S24.trans (same_upd hp)) ⟨_, ?_, .lst (SqL.of upd_same) ((thAll_cut ha _ _).same (same_upd hp))⟩⟩
    rw [List.length_take, List.length_drop]
    omega
theorem thAll_app2 {H : Hp} {ys : List V} {es : List PyData} (h2 : ThAll K H ys es) : ∀ {xs : List V} {ds : List PyData}, ThAll K H xs ds → ThAll K H (xs ++ ys) (ds ++ es)
  | _, _, .nil => h2
  | _, _, .cons a b => .cons a (thAll_app2 h2 b)
theorem ye_catL {n m : Nat} (ha : Ye (LstD K n) ta σ H) (hb : Ye (LstD K m) tb σ H) (hz : n + m ≤ 100000 := by decide) : Ye (LstD K (n + m)) (tOp (rCatL K) ta tb) σ H := by
  refine fun H1 S Q q => ha H1 S _ fun H2 y S2 ⟨ds, e, t⟩ => hb H2 (S.trans S2) _ fun H3 z S3 ⟨es, e2, t2⟩ => ?_
  have t3 := t.same S3
  cases t3 with
  | @lst a xs _ hs ha =>
    cases t2 with
    | @lst b ys _ hs2 ha2 =>
      refine ⟨a, b, xs, ys, rfl, rfl, hs, hs2, sz100 (by rw [ha.length, ha2.length]; omega), fun p hp => q _ _ ((S2.trans S3).trans (same_upd hp)) ⟨ds ++ es, by rw [List.length_append]; omega, .lst (SqL.of upd_same) ((thAll_app2 ha2 ha).same (same_upd hp))⟩⟩
theorem ye_catE {n m : Nat} (ha : Ye (LstE K n) ta σ H) (hb : Ye (LstE K m) tb σ H) (hz : n + m ≤ 100000 := by decide) : Ye (LstE K (n + m)) (tOp (rCatL K) ta tb) σ H := by
  refine fun H1 S Q q => ha H1 S _ fun H2 y S2 ⟨ds, e, t⟩ => hb H2 (S.trans S2) _ fun H3 z S3 ⟨es, e2, t2⟩ => ?_
  have t3 := t.same S3
  cases t3 with
  | @lst a xs _ hs ha =>
    cases t2 with
    | @lst b ys _ hs2 ha2 =>
      refine ⟨a, b, xs, ys, rfl, rfl, hs, hs2, sz100 (by rw [ha.length, ha2.length]; omega), fun p hp => q _ _ ((S2.trans S3).trans (same_upd hp)) ⟨ds ++ es, by rw [List.length_append]; omega, .lst (SqL.of upd_same) ((thAll_app2 ha2 ha).same (same_upd hp))⟩⟩
theorem ye_catT {n m : Nat} (ha : Ye (TupD K n) ta σ H) (hb : Ye (TupD K m) tb σ H) (hz : n + m ≤ 100000 := by decide) : Ye (TupD K (n + m)) (tOp (rCatA K) ta tb) σ H := by
  refine fun H1 S Q q => ha H1 S _ fun H2 y S2 ⟨ds, e, t⟩ => hb H2 (S.trans S2) _ fun H3 z S3 ⟨es, e2, t2⟩ => ?_
  have t3 := t.same S3
  cases t3 with
  | @tup a xs _ hs ha =>
    cases t2 with
    | @tup b ys _ hs2 ha2 =>
      refine ⟨a, b, xs, ys, rfl, rfl, hs, hs2, sz100 (by rw [ha.length, ha2.length]; omega), fun _ => q _ _ (S2.trans S3) ⟨es, by omega, .tup hs2 ha2⟩, fun _ _ => q _ _ (S2.trans S3) ⟨ds, by omega, .tup hs ha⟩, fun _ _ p hp => q _ _ ((S2.trans S3).trans (same_upd hp)) ⟨ds ++ es, by rw [List.length_append]; omega, .tup (SqT.of upd_same) ((thAll_app2 ha2 ha).same (same_upd hp))⟩⟩
theorem thAll_pick {H : Hp} {xs : List V} {ds : List PyData} (r : ThAll K H xs ds) : ∀ is : List Nat, ThAll K H (is.filterMap (xs[·]?)) (is.filterMap (ds[·]?))
  | [] => .nil
  | i :: is => by
    have ih := thAll_pick r is
    have hl := r.length
    by_cases hi : i < xs.length
    · obtain ⟨d, e2, r2⟩ := r.get (List.getElem?_eq_getElem hi)
      rw [List.filterMap_cons_some (List.getElem?_eq_getElem hi), List.filterMap_cons_some e2]
      exact .cons r2 ih
    · rw [List.filterMap_cons_none (List.getElem?_eq_none (by omega)), List.filterMap_cons_none (List.getElem?_eq_none (by omega))]
      exact ih
theorem ye_backT {n : Nat} (h : Ye (TupD K n) te σ H) : Ye (TupD K n) (tBackT K te tNoPart tNoPart (tPart (tUn (rU fun i => .int (-i)) (tC (.int 1))))) σ H := by
  refine fun H1 S Q q => h H1 S _ fun H2 y S2 ⟨ds, e, t⟩ => ⟨1, rfl, _, rfl, ?_⟩
  cases t with
  | @tup a xs _ hs ha =>
    refine ⟨a, xs, rfl, hs, rfl, rfl, rfl, fun p hp => q _ _ (S2.trans (same_upd hp)) ⟨backV ds, by rw [backV_length]; exact e, .tup (SqT.of upd_same) ?_⟩⟩
    have := thAll_pick ha ((List.range xs.length).map fun (k : Nat) => ((xs.length : Int) - 1 + (k : Int) * -1).toNat)
    unfold backV
    rw [← ha.length]
    exact this.same (same_upd hp)
theorem ye_listOf {n : Nat} (h : Ye (TupD K n) te σ H) : Ye (LstD K n) (tCB (rListOf K) (tCons te tNil)) σ H := by
  refine fun H1 S Q q => h H1 S _ fun H2 y S2 ⟨ds, e, t⟩ => ?_
  cases t with
  | tup hs ha =>
    exact ⟨_, _, rfl, .inr hs, fun l hl => q _ _ (S2.trans (same_upd hl)) ⟨ds, e, .lst (SqL.of upd_same) (ha.same (same_upd hl))⟩⟩
def rTupOf (K : PySem.W.Frag) : List V → Hp → VK → Prop := fun xs H Q => ∃ p ys, xs = [.ref p] ∧ ((SqL K H p ys ∧ ∀ l, H l = none → Q (.ref l) (upd H l (.tup ys))) ∨ (SqT K H p ys ∧ Q (.ref p) H))
theorem call_tupOf {X : Cx} : CallR X (.type "tuple") (rTupOf X.K) := call_tuple_of
theorem ye_tupOf {n : Nat} (h : Ye (LstD K n) te σ H) : Ye (TupD K n) (tCB (rTupOf K) (tCons te tNil)) σ H := by
  refine fun H1 S Q q => h H1 S _ fun H2 y S2 ⟨ds, e, t⟩ => ?_
  cases t with
  | lst hs ha =>
    exact ⟨_, _, rfl, .inl ⟨hs, fun l hl => q _ _ (S2.trans (same_upd hl)) ⟨ds, e, .tup (SqT.of upd_same) (ha.same (same_upd hl))⟩⟩⟩
def LstT (K : PySem.W.Frag) (n : Nat) : Hp → V → Prop := fun H y => ∃ a xs ds, y = .ref a ∧ H a = some (.lst xs) ∧ ThAll K H xs ds ∧ ds.length ≤ n
theorem grow_lstT {n : Nat} : Grow (LstT K n) := fun _ _ _ S ⟨a, xs, ds, e, h, t, l⟩ => ⟨a, xs, ds, e, S _ _ h, t.same S, l⟩
theorem Ye.trk {n : Nat} (h : Ye (LstT K n) te σ H) : Ye (LstD K n) te σ H := h.weak fun _ _ ⟨a, xs, ds, e, h, t, l⟩ => ⟨ds, l, by rw [e]; exact .lst (SqL.of h) t⟩
theorem ye_slLT {n : Nat} {tl th : TO} (h : Ye (LstD K n) te σ H) (hl : Yo tl σ H) (hh : Yo th σ H) : Ye (LstT K n) (tSl (rSlL K) te tl th) σ H := by
  refine fun H1 S Q q => h H1 S _ fun H2 y S2 ⟨ds, e, t⟩ => hl H2 (S.trans S2) _ fun H3 lo S3 => hh H3 (S.trans (S2.trans S3)) _ fun H4 hi S4 => ?_
  have S24 := S2.trans (S3.trans S4)
  have t3 := t.same (S3.trans S4)
  cases t3 with
  | @lst a xs _ hs ha =>
    refine ⟨a, xs, rfl, hs, fun p hp => q _ _ (S24.trans (same_upd hp)) ⟨p, _, _, rfl, upd_same, (thAll_cut ha _ _).same (same_upd hp), ?_⟩⟩
    rw [List.length_take, List.length_drop]
    omega
theorem thAll_rep {H : Hp} {vs : List V} {ds : List PyData} (h : ThAll K H vs ds) : ∀ n : Nat, ThAll K H (List.replicate n vs).flatten (List.replicate n ds).flatten
  | 0 => .nil
  | n + 1 => by
    rw [List.replicate_succ, List.replicate_succ, List.flatten_cons, List.flatten_cons]
    exact thAll_app2 (thAll_rep h n) h
theorem len_rep {α : Type} (xs : List α) : ∀ k : Nat, (List.replicate k xs).flatten.length = xs.length * k
  | 0 => rfl
  | k + 1 => by
    rw [List.replicate_succ, List.flatten_cons, List.length_append, len_rep xs k, Nat.mul_succ, Nat.add_comm]
theorem ye_rep {n k : Nat} (h : Ye (LstT K n) te σ H) (hz : n * k ≤ 100000 := by decide) (hk : (k : Int) < 2 ^ 63 := by decide) : Ye (LstT K (n * k)) (tOp rRep te (tC (.int (k : Int)))) σ H := by
  refine fun H1 S Q q => h H1 S _ fun H2 y S2 ⟨a, xs, ds, e, h, t, l⟩ => ?_
  subst e
  have hl := t.length
  have hz' : ds.length * k ≤ n * k := Nat.mul_le_mul_right k l
  refine ⟨a, _, xs, rfl, rfl, h, by omega, hk, sz100 (by rw [Int.toNat_natCast, hl]; omega), fun p hp => q _ _ (S2.trans (same_upd hp)) ⟨p, _, _, rfl, upd_same, (thAll_rep t _).same (same_upd hp), ?_⟩⟩
  rw [Int.toNat_natCast, len_rep]
  exact hz'
theorem ye_add {P1 P2 : Int → Prop} (ha : Ye (IntD P1) ta σ H) (hb : Ye (IntD P2) tb σ H) : Ye (IntD fun _ => True) (tOp (rI0 fun i j => .int (i + j)) ta tb) σ H := ye_I0 ha hb fun _ _ _ _ => trivial
theorem ye_call {sp : Sp} {ts : TA} {Rs : Hp → List V → Prop} (ha : Ya Rs ts σ H) (hs : ∀ H1 vs Q, Same H H1 → Rs H1 vs → (∀ H2 y, Same H1 H2 → R H2 y → Q y H2) → sp (vs ++ []) H1 Q E0) : Ye R (tCall sp [] E0 ts) σ H :=
  fun H1 S Q q => ha H1 S _ fun H2 ys S2 h => hs H2 ys Q (S.trans S2) h fun H3 y S3 r => q H3 y (S2.trans S3) r
theorem yt_cmp {g : Int → Int → Bool} {P1 P2 : Int → Prop} (ha : Ye (IntD P1) ta σ H) (hb : Ye (IntD P2) tb σ H) : Yt (tTest (tOp (rI0 fun i j => .bl (g i j)) ta tb)) σ H :=
  fun H1 S Q q => ha H1 S _ fun H2 y S2 ⟨i, e, _⟩ => hb H2 (S.trans S2) _ fun H3 z S3 ⟨j, e2, _⟩ => ⟨i, j, e, e2, _, rfl, q H3 _ (S2.trans S3)⟩
theorem yt_eq {P1 P2 : Int → Prop} (ha : Ye (IntD P1) ta σ H) (hb : Ye (IntD P2) tb σ H) : Yt (tTest (tOp rEq ta tb)) σ H :=
  fun H1 S Q q => ha H1 S _ fun H2 y S2 ⟨i, e, _⟩ => hb H2 (S.trans S2) _ fun H3 z S3 ⟨j, e2, _⟩ => ⟨by rw [e, e2]; rfl, _, rfl, q H3 _ (S2.trans S3)⟩
/-! ### rows of a block, one by one -/
section
variable {A B C : TS} {D : Ends} {tt : TT}
theorem s_asg {i : Nat} (h : Ye R te σ H) (k : ∀ H2 y, Same H H2 → R H2 y → B D (σ.set i (some y)) H2) : tSeq (tAsg te (gName i)) B D σ H := h H (Same.refl _) _ fun H2 y S r => k H2 y S r
theorem s_ret (h : Ye R te σ H) (k : ∀ H2 y, Same H H2 → R H2 y → D.rt y H2) : tRet te D σ H := h H (Same.refl _) _ fun H2 y S r => k H2 y S r
theorem s_if (h : Yt tt σ H) (k1 : ∀ H2, Same H H2 → A { D with nx := C D } σ H2) (k2 : ∀ H2, Same H H2 → C D σ H2) : tSeq (tIfS tt A tNext) C D σ H := h H (Same.refl _) _ fun H2 b S => by
  cases b with
  | true => exact k1 H2 S
  | false => exact k2 H2 S
theorem s_unp2 {i a b : Nat} {p : Addr} {x y : V} (e : σ[i]? = some (some (.ref p))) (h : SqT K H p [x, y]) (k : C D ((σ.set a (some x)).set b (some y)) H) : tSeq (tAsg (tVar i) (gTup K 2 (gCons (gName a) (gCons (gName b) gNil)))) C D σ H := ⟨_, e, ⟨p, _, rfl, h, rfl, ⟨_, _, rfl, _, _, rfl, rfl, k⟩⟩⟩
theorem s_unp3 {i a b c : Nat} {p : Addr} {x y z : V} (e : σ[i]? = some (some (.ref p))) (h : SqT K H p [x, y, z]) (k : C D (((σ.set a (some x)).set b (some y)).set c (some z)) H) : tSeq (tAsg (tVar i) (gTup K 3 (gCons (gName a) (gCons (gName b) (gCons (gName c) gNil))))) C D σ H := ⟨_, e, ⟨p, _, rfl, h, rfl, ⟨_, _, rfl, _, _, rfl, _, _, rfl, rfl, k⟩⟩⟩
end
end
end Bk

namespace Bk
open PySem PySem.Spec PyProof.Rows L2 RZ
/-! ### len and zip of lists or tuples -/
def rLnS (K : PySem.W.Frag) : List V → Hp → VK → Prop := fun xs H Q => ∃ p ys, xs = [.ref p] ∧ (SqL K H p ys ∨ SqT K H p ys) ∧ Q (.int ys.length) H
theorem call_lnS {X : Cx} : CallR X (.builtin "len") (rLnS X.K) := call_len_seq
theorem rLnS_r {K : PySem.W.Frag} {p : Addr} {H : Hp} {Q : VK} : rLnS K [.ref p] H Q = ∃ ys, (SqL K H p ys ∨ SqT K H p ys) ∧ Q (.int ys.length) H := propext ⟨fun ⟨a, ys, e, h⟩ => by cases e; exact ⟨ys, h⟩, fun ⟨ys, h⟩ => ⟨p, ys, rfl, h⟩⟩
def rZipA (K : PySem.W.Frag) (vs : List V) (H1 : Hp) (R : It → Hp → Prop) : Prop := ∃ a b xs ys, vs = [.ref a, .ref b] ∧ ((SqL K H1 a xs ∧ SqL K H1 b ys ∧ R (Itz K a b) H1) ∨ (SqT K H1 a xs ∧ SqT K H1 b ys ∧ R (ItzT K a b) H1))
theorem iZipA_eq {K : PySem.W.Frag} {ta : TA} {σ : L2.St} {H : Hp} {R : It → Hp → Prop} : iZipA K ta σ H R = ta σ H fun vs H1 => rZipA K vs H1 R := rfl
theorem rZipA_r {K : PySem.W.Frag} {a b : Addr} {H : Hp} {R : It → Hp → Prop} : rZipA K [.ref a, .ref b] H R = ∃ xs ys, (SqL K H a xs ∧ SqL K H b ys ∧ R (Itz K a b) H) ∨ (SqT K H a xs ∧ SqT K H b ys ∧ R (ItzT K a b) H) := propext ⟨fun ⟨_, _, xs, ys, e, h⟩ => by cases e; exact ⟨xs, ys, h⟩, fun ⟨xs, ys, h⟩ => ⟨a, b, xs, ys, rfl, h⟩⟩
theorem walk_zipT {K : PySem.W.Frag} {a b : Addr} {xs ys : List V} {n : Nat} (hn : n = min xs.length ys.length) : Walk (ItzT K a b) n (fun H => SqT K H a xs ∧ SqT K H b ys) (YPair (fun i => xs[i]?) (fun i => ys[i]?)) := by
  subst hn
  refine ⟨fun i _ hi q => ?_, fun _ q => ⟨xs, ys, q.1, q.2, by omega⟩, fun i H v H' _ q y => ?_⟩
  · have g1 : i < xs.length := by omega
    have g2 : i < ys.length := by omega
    exact ⟨xs, ys, xs[i], ys[i], q.1, q.2, by simp [g1], by simp [g2]⟩
  · obtain ⟨T, x, z, g1, g2, g3, g4, g5⟩ := y
    exact ⟨T, x, z, g1, g2, g3, g4 xs q.1, g5 ys q.2⟩
/-! ### data that is alike: so deep, no dicts -/
def sameOk : Nat → PyData → Bool
  | _, .none => true
  | _, .bool _ => true
  | _, .int _ => true
  | _, .str _ => true
  | 0, .list _ => false
  | 0, .tuple _ => false
  | k + 1, .list ds => decide (ds.length ≤ 1000) && ds.all (sameOk k)
  | k + 1, .tuple ds => decide (ds.length ≤ 1000) && ds.all (sameOk k)
  | _, .dict _ => false
theorem sameOk_opt (k : Nat) (o : Option Int) : sameOk k (optD o) = true := by cases k <;> cases o <;> rfl
theorem sameOk_int (k : Nat) (i : Int) : sameOk k (.int i) = true := by cases k <;> rfl
theorem sameOk_opts (k : Nat) (os : List (Option Int)) (h : os.length ≤ 1000) : sameOk (k + 1) (.list (os.map optD)) = true := by
  unfold sameOk
  rw [Bool.and_eq_true, decide_eq_true_eq, List.length_map, List.all_eq_true]
  refine ⟨h, fun d hd => ?_⟩
  obtain ⟨o, _, rfl⟩ := List.mem_map.mp hd
  exact sameOk_opt k o
theorem sameOk_ints (k : Nat) (ns : List Int) (h : ns.length ≤ 1000) : sameOk (k + 1) (.list (ns.map PyData.int)) = true := by
  unfold sameOk
  rw [Bool.and_eq_true, decide_eq_true_eq, List.length_map, List.all_eq_true]
  refine ⟨h, fun d hd => ?_⟩
  obtain ⟨o, _, rfl⟩ := List.mem_map.mp hd
  exact sameOk_int k o
theorem thAll_opts {K : PySem.W.Frag} {H : Hp} : ∀ l : List (Option Int), ThAll K H (l.map optV) (l.map optD)
  | [] => .nil
  | o :: r => .cons (Th.optV o) (thAll_opts r)
end Bk

namespace Bk
open PySem PySem.Spec PyProof.Rows L2
/-! ### comprehensions with two fors -/
def Lc1R (J : It) (g : TG) (tt : TT) (te : TE) (vs : List Nat) (σ : L2.St) (D : Addr) (H1 : Hp) (Qd : Hp → Prop) : Prop := ∃ W : Nat → Nat → Hp → Prop, (∃ m, W 0 m H1) ∧ ∀ i m H, W i m H →
  (J.stop i H ∧ Qd H) ∨ (J.go i H ∧ ∃ Nx : Hp → Prop, (∀ H', Nx H' → ∃ m', m' < m ∧ W (i + 1) m' H') ∧ ∀ x H', J.yld i H x H' → g x (wipe σ vs) H' fun σ2 H2 => wipe σ2 vs = wipe σ vs ∧ tt σ2 H2 fun b H3 =>
    if b = true then te σ2 H3 fun y H4 => ∃ acc, H4 D = some (.lst acc) ∧ acc.length < sizeLine ∧ Nx (upd H4 D (.lst (acc ++ [y]))) else Nx H3)
def Lc2R (J : It) (g : TG) (tt : TT) (wi1 : TI) (g1 : TG) (tt1 : TT) (te : TE) (vs vs1 : List Nat) (σ : L2.St) (D : Addr) (H1 : Hp) (Qd : Hp → Prop) : Prop := ∃ W : Nat → Nat → Hp → Prop, (∃ m, W 0 m (upd H1 D (.lst []))) ∧ ∀ i m H, W i m H →
  (J.stop i H ∧ Qd H) ∨ (J.go i H ∧ ∃ Nx : Hp → Prop, (∀ H', Nx H' → ∃ m', m' < m ∧ W (i + 1) m' H') ∧ ∀ x H', J.yld i H x H' → g x (wipe σ vs) H' fun σ2 H2 => wipe σ2 vs = wipe σ vs ∧ tt σ2 H2 fun b H3 =>
    if b = true then wi1 σ2 H3 fun J1 H4 => Lc1R J1 g1 tt1 te vs1 σ2 D H4 Nx else Nx H3)
theorem tLc2_eq {wi wi1 : TI} {g g1 : TG} {tt tt1 : TT} {te : TE} {vs vs1 : List Nat} {σ : L2.St} {H : Hp} {Q : VK} : tLc2 wi g tt wi1 g1 tt1 te vs vs1 σ H Q = wi σ H fun J H1 => ∀ D, H1 D = none → Lc2R J g tt wi1 g1 tt1 te vs vs1 σ D H1 (fun H => Q (.ref D) H) := rfl
section
variable {J : It} {n : Nat} {G : Hp → Prop} {Y : Nat → Hp → V → Hp → Prop} {g g1 : TG} {tt tt1 : TT} {wi1 : TI} {te : TE} {vs vs1 : List Nat} {σ : L2.St} {H1 : Hp} {D : Addr} {Qd : Hp → Prop}
theorem Lc1R.by (w : Walk J n G Y) (Pv : Nat → Hp → Prop) (h0 : Pv 0 H1) (hG : ∀ i H, i ≤ n → Pv i H → G H)
    (hs : ∀ i x H H', i < n → Pv i H → Y i H x H' → g x (wipe σ vs) H' fun σ2 H2 => wipe σ2 vs = wipe σ vs ∧ tt σ2 H2 fun b H3 =>
      if b = true then te σ2 H3 fun y H4 => ∃ acc, H4 D = some (.lst acc) ∧ acc.length < sizeLine ∧ Pv (i + 1) (upd H4 D (.lst (acc ++ [y]))) else Pv (i + 1) H3) (hd : ∀ H, Pv n H → Qd H) : Lc1R J g tt te vs σ D H1 Qd := by
  refine ⟨fun i m H => m = n - i ∧ i ≤ n ∧ Pv i H, ⟨n, by simp, Nat.zero_le _, h0⟩, ?_⟩
  rintro i m H ⟨rfl, hi, p⟩
  have q := hG i H hi p
  by_cases hlt : i < n
  · refine .inr ⟨w.goes i H hlt q, Pv (i + 1), fun H' p' => ⟨n - (i + 1), by omega, rfl, hlt, p'⟩, fun x H' y => hs i x H H' hlt p (w.yields i H x H' hlt q y)⟩
  · have e : i = n := by omega
    subst e
    exact .inl ⟨w.stops H q, hd H p⟩
theorem Lc2R.by (w : Walk J n G Y) (Pv : Nat → Hp → Prop) (h0 : Pv 0 (upd H1 D (.lst []))) (hG : ∀ i H, i ≤ n → Pv i H → G H)
    (hs : ∀ i x H H', i < n → Pv i H → Y i H x H' → g x (wipe σ vs) H' fun σ2 H2 => wipe σ2 vs = wipe σ vs ∧ tt σ2 H2 fun b H3 =>
      if b = true then wi1 σ2 H3 fun J1 H4 => Lc1R J1 g1 tt1 te vs1 σ2 D H4 (Pv (i + 1)) else Pv (i + 1) H3) (hd : ∀ H, Pv n H → Qd H) : Lc2R J g tt wi1 g1 tt1 te vs vs1 σ D H1 Qd := by
  refine ⟨fun i m H => m = n - i ∧ i ≤ n ∧ Pv i H, ⟨n, by simp, Nat.zero_le _, h0⟩, ?_⟩
  rintro i m H ⟨rfl, hi, p⟩
  have q := hG i H hi p
  by_cases hlt : i < n
  · refine .inr ⟨w.goes i H hlt q, Pv (i + 1), fun H' p' => ⟨n - (i + 1), by omega, rfl, hlt, p'⟩, fun x H' y => hs i x H H' hlt p (w.yields i H x H' hlt q y)⟩
  · have e : i = n := by omega
    subst e
    exact .inl ⟨w.stops H q, hd H p⟩
end
theorem get_list {X : Cx} : PGet X (rIxL X.K) := by
  intro pins s σ H o i ov iv Q I rx ry h
  obtain ⟨p, xs, i, z, rfl, rfl, hq, he, q⟩ := h
  cases rx
  obtain ⟨t, rfl⟩ := ry
  obtain ⟨its, r, pl, hz⟩ := I.list hq
  obtain ⟨j, h1, h2, h3, h4, h5⟩ := atI_get he
  obtain ⟨w, ew, rw'⟩ := r.get h2
  have hl := r.length
  have hn := line63
  have fin : EP X pins σ Q w s := ⟨z, H, I, rw', q⟩
  by_cases h0 : 0 ≤ i
  · have hj : i.toNat = j := by
      rw [seqIndex_of h0 h5] at h1
      exact Option.some.inj h1
    exact wpAny_getItem_list pl.isList h0 (by omega) (by rw [hj]; simpa using ew) fin
  · have hj : (i + (its.toArray.size : Int)).toNat = j := by
      rw [seqIndex_neg (by omega) h4] at h1
      rw [List.size_toArray, ← hl]
      exact Option.some.inj h1
    exact wpAny_getItem_list_neg pl.isList (by omega) (by rw [List.size_toArray] <;> omega) (by omega) (by rw [hj]; simpa using ew) fin
/-! ### triples of numbers on the heap -/
/-- a reach and how many -/
abbrev Tr := Int × Int × Int
def trV (t : Tr) : List V := [.int t.1, .int t.2.1, .int t.2.2]
inductive Trs (H : Hp) : List V → List Tr → Prop
  | nil : Trs H [] []
  | cons {p : Addr} {t : Tr} {vs : List V} {ts : List Tr} : H p = some (.tup (trV t)) → Trs H vs ts → Trs H (.ref p :: vs) (t :: ts)
theorem Trs.same {H H' : Hp} (s : Same H H') : ∀ {vs : List V} {ts : List Tr}, Trs H vs ts → Trs H' vs ts
  | _, _, .nil => .nil
  | _, _, .cons e h => .cons (s _ _ e) (h.same s)
theorem Trs.mut {H : Hp} {D : Addr} {xs : List V} {o : HO} (hD : H D = some (.lst xs)) : ∀ {vs : List V} {ts : List Tr}, Trs H vs ts → Trs (upd H D o) vs ts
  | _, _, .nil => .nil
  | _, _, .cons (p := p) e h => .cons (by rw [upd_ne (fun z => by rw [z, hD] at e; cases e)]; exact e) (h.mut hD)
theorem Trs.app {H : Hp} : ∀ {vs ws : List V} {ts us : List Tr}, Trs H vs ts → Trs H ws us → Trs H (vs ++ ws) (ts ++ us)
  | _, _, _, _, .nil, h => h
  | _, _, _, _, .cons e h, h2 => .cons e (h.app h2)
theorem Trs.length {H : Hp} : ∀ {vs : List V} {ts : List Tr}, Trs H vs ts → vs.length = ts.length
  | _, _, .nil => rfl
  | _, _, .cons _ h => by rw [List.length_cons, List.length_cons, h.length]
theorem Trs.get {H : Hp} : ∀ {vs : List V} {ts : List Tr} {i : Nat} {v : V}, Trs H vs ts → vs[i]? = some v → ∃ p t, v = .ref p ∧ ts[i]? = some t ∧ H p = some (.tup (trV t))
  | _, _, 0, v, .cons e h, q => by cases q; exact ⟨_, _, rfl, rfl, e⟩
  | _, _, i + 1, v, .cons e h, q => h.get (i := i) q
/-- a list of such -/
def TrL (H : Hp) (v : V) (ts : List Tr) : Prop := ∃ a vs, v = .ref a ∧ H a = some (.lst vs) ∧ Trs H vs ts
theorem TrL.same {H H' : Hp} {v : V} {ts : List Tr} (h : TrL H v ts) (s : Same H H') : TrL H' v ts := by
  obtain ⟨a, vs, e, h1, h2⟩ := h
  exact ⟨a, vs, e, s _ _ h1, h2.same s⟩
end Bk

namespace Bk
open PySem PySem.Spec PyProof.Rows L2
/-! ### what a stretch wants, and its room -/
def needOf (t : Tr) (c : Bool) : Int := if c = true then t.2.2 else 0
/-- what must be baked from day f up to day l -/
def needW (W : List Tr) (f l : Nat) : Int := (W.map fun t => needOf t (decide ((f : Int) ≤ t.1) && decide (t.2.1 ≤ (l : Int)))).sum
/-- .. whose last day is e -/
def endsF (W : List Tr) (f e : Nat) : Int := (W.map fun t => needOf t (decide ((f : Int) ≤ t.1) && decide (t.2.1 = (e : Int)))).sum
def roomS (rs : List Int) (f l : Nat) : Int := ((rs.drop f).take (l + 1 - f)).sum
def Over (W : List Tr) (rs : List Int) (f l : Nat) : Prop := roomS rs f l < needW W f l
/-- the loaves left over, day by day -/
def overF (W : List Tr) (rs : List Int) (f : Nat) : Nat → Int
  | 0 => 0
  | j + 1 => overF W rs f j + (endsF W f (f + j) - rs.getD (f + j) 0)
theorem sum_map_add {α : Type} (g h : α → Int) : ∀ l : List α, (l.map fun t => g t + h t).sum = (l.map g).sum + (l.map h).sum
  | [] => rfl
  | a :: r => by
    simp only [List.map_cons, List.sum_cons, sum_map_add g h r]
    omega
theorem endsF_need {W : List Tr} {f : Nat} (hW : ∀ t ∈ W, t.1 ≤ t.2.1) (j : Nat) : needW W f (f + j) + endsF W f (f + j + 1) = needW W f (f + j + 1) := by
  unfold needW endsF
  rw [← sum_map_add]
  congr 1
  refine List.map_congr_left fun t ht => ?_
  have := hW t ht
  unfold needOf
  by_cases h1 : (f : Int) ≤ t.1
  · rw [decide_eq_true h1, Bool.true_and, Bool.true_and, Bool.true_and]
    by_cases h2 : t.2.1 ≤ ((f + j : Nat) : Int)
    · rw [decide_eq_true h2, decide_eq_false (show ¬ t.2.1 = ((f + j + 1 : Nat) : Int) by omega), decide_eq_true (show t.2.1 ≤ ((f + j + 1 : Nat) : Int) by omega)]
      simp
    · rw [decide_eq_false h2]
      by_cases h3 : t.2.1 = ((f + j + 1 : Nat) : Int)
      · rw [decide_eq_true h3, decide_eq_true (show t.2.1 ≤ ((f + j + 1 : Nat) : Int) by omega)]
        simp
      · rw [decide_eq_false h3, decide_eq_false (show ¬ t.2.1 ≤ ((f + j + 1 : Nat) : Int) by omega)]
        simp
  · rw [decide_eq_false h1]
    simp
theorem endsF_first {W : List Tr} {f : Nat} (hW : ∀ t ∈ W, t.1 ≤ t.2.1) : endsF W f f = needW W f f := by
  unfold needW endsF
  congr 1
  refine List.map_congr_left fun t ht => ?_
  have := hW t ht
  unfold needOf
  by_cases h1 : (f : Int) ≤ t.1
  · rw [decide_eq_true h1, Bool.true_and, Bool.true_and]
    have : decide (t.2.1 = (f : Int)) = decide (t.2.1 ≤ (f : Int)) := decide_eq_decide.mpr (by omega)
    rw [this]
  · rw [decide_eq_false h1]
    simp
theorem roomS_succ {rs : List Int} {f j : Nat} (h : f + j < rs.length) : ((rs.drop f).take (j + 1)).sum = ((rs.drop f).take j).sum + rs.getD (f + j) 0 := by
  rw [List.take_succ, List.sum_append, List.getElem?_drop, List.getD_eq_getElem?_getD, List.getElem?_eq_getElem h]
  simp
theorem over_eq {W : List Tr} {rs : List Int} {f : Nat} (hW : ∀ t ∈ W, t.1 ≤ t.2.1) : ∀ j : Nat, f + j < rs.length → overF W rs f (j + 1) = needW W f (f + j) - roomS rs f (f + j)
  | 0, h => by
    show 0 + (endsF W f (f + 0) - _) = _
    unfold roomS
    rw [show f + 0 + 1 - f = 0 + 1 by omega, roomS_succ (j := 0) h, Nat.add_zero, endsF_first hW]
    simp
  | j + 1, h => by
    have ih := over_eq (rs := rs) (f := f) hW j (by omega)
    show overF W rs f (j + 1) + (endsF W f (f + (j + 1)) - _) = _
    have e := endsF_need (f := f) hW j
    unfold roomS at ih ⊢
    rw [show f + (j + 1) + 1 - f = (j + 1) + 1 by omega, roomS_succ (j := j + 1) h, ih, show f + j + 1 - f = j + 1 by omega]
    rw [show f + (j + 1) = f + j + 1 by omega]
    omega
theorem over_iff {W : List Tr} {rs : List Int} {f l : Nat} (hW : ∀ t ∈ W, t.1 ≤ t.2.1) (h1 : f ≤ l) (h2 : l < rs.length) : 0 < overF W rs f (l - f + 1) ↔ Over W rs f l := by
  have := over_eq (rs := rs) (f := f) hW (l - f) (by omega)
  rw [this, show f + (l - f) = l by omega]
  unfold Over
  omega
theorem endsF_snoc {W : List Tr} {t : Tr} {f e : Nat} : endsF (W ++ [t]) f e = endsF W f e + needOf t (decide ((f : Int) ≤ t.1) && decide (t.2.1 = (e : Int))) := by
  unfold endsF
  rw [List.map_append, List.sum_append]
  simp
/-- the list of ends, one want more -/
theorem ends_set {W : List Tr} {t : Tr} {f n : Nat} (h0 : 0 ≤ t.2.1) (h1 : t.2.1 < (n : Int)) (hf : (f : Int) ≤ t.1) : ((List.range n).map (endsF W f)).set t.2.1.toNat (endsF W f t.2.1.toNat + t.2.2) = (List.range n).map (endsF (W ++ [t]) f) := by
  refine List.ext_getElem? fun i => ?_
  rw [List.getElem?_set, List.getElem?_map, List.getElem?_map]
  by_cases hi : i < n
  · rw [List.getElem?_range hi]
    by_cases e : t.2.1.toNat = i
    · rw [if_pos e, if_pos (by rw [List.length_map, List.length_range]; omega)]
      show _ = some _
      rw [endsF_snoc, ← e, decide_eq_true hf, decide_eq_true (show t.2.1 = ((t.2.1.toNat : Nat) : Int) by omega)]
      rfl
    · rw [if_neg e]
      show some _ = some _
      rw [endsF_snoc, decide_eq_false (show ¬ t.2.1 = (i : Int) by omega), Bool.and_false]
      simp [needOf]
  · rw [List.getElem?_eq_none (by rw [List.length_range]; omega)]
    rw [if_neg (by omega)]
    rfl
theorem ends_skip {W : List Tr} {t : Tr} {f n : Nat} (hf : ¬ (f : Int) ≤ t.1) : (List.range n).map (endsF W f) = (List.range n).map (endsF (W ++ [t]) f) := by
  refine List.map_congr_left fun e _ => ?_
  rw [endsF_snoc, decide_eq_false hf]
  simp [needOf]
/-- the first last day from f on that wants too much -/
def IsLm (W : List Tr) (rs : List Int) (f : Nat) : Option Nat → Prop
  | some l => f ≤ l ∧ l < rs.length ∧ Over W rs f l ∧ ∀ m, f ≤ m → m < l → ¬ Over W rs f m
  | none => ∀ m, f ≤ m → m < rs.length → ¬ Over W rs f m
/-- the first stretch -/
def IsFs (W : List Tr) (rs : List Int) : Option (Nat × Nat) → Prop
  | some (f, l) => f < rs.length ∧ IsLm W rs f (some l) ∧ ∀ e, e < f → IsLm W rs e none
  | none => ∀ e, e < rs.length → IsLm W rs e none
end Bk

namespace Bk
open PySem PySem.Spec PyProof.Rows L2
/-! ### set(xs) of a list of ints -/
abbrev emp0 (w : World) : Obj := { cls := .type "set", dict := none, data := .set #[] 0 (.fresh 0 0 (!w.params.followText "set-order")) }
section
variable {P : Program} {w : World} {A : Around} {E : Value → Shared → Prop} {s : Shared}
set_option maxHeartbeats 3200000 in
theorem set_ofList {l : Addr} {its : Array Value} (zs : List Int) {Q : Value → Shared → Prop} (ah : A.handled = none) (il : s.heap.IsList l its) (ia : IntsAre its.toList zs) (few : zs.length + 1 < scanBound)
    (go : ∀ (h' : Heap) (tk c : Nat), SetR w h' s.heap.objs.size (fun j => decide (j ∈ zs)) c → c ≤ zs.length → (∀ b o, s.heap.get? b = some o → h'.get? b = some o) → Q (.ref s.heap.objs.size) { s with heap := h', toks := tk }) : wpAny (model P w) A (call (.type "set") [.ref l]) Q E s := by
  have isz : its.size = zs.length := by have z := IntsAre.length ia; rw [Array.length_toList] at z; exact z
  obtain ⟨c, tl, m1⟩ := F.called_set.mro
  have m2 := F.called_set.made
  have m3 := F.called_set.sub
  refine wpAny_call (codeAny_of_tree ?_); show wpAny _ _ (callAny (.type "set") _) _ _ _
  refine wpAny_pure ⟨Code.quiet_builtin _ (by decide +kernel), codeAny_builtin F.entry_type_call ?_⟩; rw [Around.under_plain (weight_type_call_type "set" [.ref l] []) rfl]
  have m4 := F.called_set.notType
  have m5 := F.called_set.canCreate
  have m6 := F.typeCall_set_1 (.ref l)
  repeat (any_goals (first | assumption | wp_step))
  refine codeAny_mono (code_set_led1 (.ref l) (E := E) (Q₁ := fun u t => u = .ref s.heap.objs.size ∧ t = { s with heap := s.heap.push (emp0 w) }) ⟨rfl, rfl⟩) fun r t hr => ?_
  cases r with
  | error e => exact hr
  | ok fl =>
    cases fl with
    | ret u =>
      obtain ⟨rfl, rfl⟩ := hr
      have eS : (s.heap.push (emp0 w)).get? s.heap.objs.size = some (emp0 w) := Heap.get?_push_size _ rfl
      have eT : Shared.TypeIs { s with heap := s.heap.push (emp0 w) } (.ref s.heap.objs.size) "set" := ⟨_, eS, rfl⟩
      have m7 := F.called_set.init.lookup
      have m8 := F.called_set.init.bind (.ref s.heap.objs.size)
      repeat (any_goals (first | assumption | wp_step))
      refine codeAny_mono (codeAny_call_builtin (R := wants (fun r t2 => r = .none ∧ ∃ h' tk c, t2 = { s with heap := h', toks := tk } ∧ SetR w h' s.heap.objs.size (fun j => decide (j ∈ zs)) c ∧ c ≤ zs.length ∧ (∀ b o, s.heap.get? b = some o → h'.get? b = some o)) E) F.called_set.init.plain F.entry_set_init (check_set_init_1 eT ?_)) fun r2 t2 hr2 => ?_
      · obtain ⟨ob, eb, ec, nl, ed⟩ := il
        obtain ⟨b1, b2, b3, b4⟩ := ob
        simp only at ec ed
        subst ec
        subst ed
        have eb' : (s.heap.push (emp0 w)).get? l = some { cls := .type "list", dict := b2, data := .seq its nl, slots := b4 } := Heap.get?_push_of_some _ eb
        have m9 := F.sub_list_set
        have ma := F.sub_list_frozenset
        have mb : (Value.type "list" == Value.type "dict") = false := by decide
        have il1 : (s.heap.push (emp0 w)).IsList l its := ⟨_, eb', rfl, nl, rfl⟩
        unfold Builtin.«set.__init__» noKeywords Builtin.Frozenset.updateFrom
        generalize hI : pyIter = PI
        wp_walk
        subst hI
        refine wpAny_pyIter_list il1 ?_
        refine wpAny_bind (wpAny_runValue ?_)
        have ll : l < s.heap.objs.size := Heap.lt_size eb
        have ah3 : A.in1.in1.in1.handled = none := by simp [ah]
        have nI : l ≠ (s.heap.push (emp0 w)).objs.size := by rw [Heap.size_push]; exact Nat.ne_of_lt (Nat.lt_succ_of_lt ll)
        have nS : s.heap.objs.size ∉ [(s.heap.push (emp0 w)).objs.size, l] := by
          rw [Heap.size_push]; simp only [List.mem_cons, List.mem_singleton, List.not_mem_nil, or_false, not_or]; exact ⟨Nat.ne_of_lt (Nat.lt_succ_self _), Nat.ne_of_gt ll⟩
        have at_ : ∀ (i : Nat) (v : Value), its[i]? = some v → ∃ k t, zs[i]? = some k ∧ v = .int k t := fun i v hv => by
          have hi : i < zs.length := by rw [← isz]; exact (Array.getElem?_eq_some_iff.mp hv).1
          obtain ⟨t, e⟩ := PyProof.Rows.IntsAre.int_at ia i v (by rw [Array.getElem?_toList]; exact hv)
          refine ⟨zs[i], t, List.getElem?_eq_getElem hi, ?_⟩; rw [e, List.getD_eq_getElem?_getD, List.getElem?_eq_getElem hi] <;> rfl
        refine set_update_ints ((Walks.list ah3 _ l nI its).toS) s.heap.objs.size nS zs isz few at_ (its.size - 0) 0 _ (by omega) (Nat.zero_le _) ⟨⟨_, Heap.get?_push_size _ rfl, rfl, rfl⟩, (il1.push _)⟩ ?z0 ?z1
        case z0 => exact ⟨0, Nat.le_refl 0, setR_new_at (Heap.get?_push_of_some _ eS)⟩
        case z1 =>
          intro t3 c3 mv lc hS'
          obtain ⟨h', g2, d', tk', os'⟩ := t3
          have z1 : g2 = s.gens := mv.gens
          have z2 : d' = s.drawn := mv.drawn
          have z3 : os' = s.os := mv.os
          subst z1
          subst z2
          subst z3
          show wpAny _ _ _ _ _ _; refine wpAny_pure ?_
          show wpAny _ _ (ret Value.none) _ _ _; rw [isz] at lc
          refine wpAny_pure ⟨rfl, h', tk', c3, rfl, hS', lc, fun b o e => ?_⟩
          have y0 : b < s.heap.objs.size := Heap.lt_size e
          have y2 : b ≠ (s.heap.push (emp0 w)).objs.size := by rw [Heap.size_push]; exact Nat.ne_of_lt (Nat.lt_succ_of_lt y0)
          exact mv.heap b o (by simp only [List.mem_cons, List.mem_singleton, List.not_mem_nil, or_false, not_or]; exact ⟨Nat.ne_of_lt y0, y2⟩) (Heap.get?_push_of_some _ (Heap.get?_push_of_some _ e))
      · cases r2 with
        | error e => exact hr2
        | ok fl2 =>
          cases fl2 with
          | ret r =>
            obtain ⟨rfl, h', tk, c', rfl, hS', lc, hk'⟩ := hr2
            repeat (any_goals (first | assumption | wp_step))
            exact go _ _ _ hS' lc hk'
          | _ => exact hr2.elim
    | _ => exact hr.elim
end
def rSetOf (K : PySem.W.Frag) (w : World) : List V → Hp → VK → Prop := fun xs H Q => ∃ (l : Addr) (ns : List Int), xs = [.ref l] ∧ SqL K H l (ns.map V.int) ∧ ns.length < 60 ∧ ∀ p c, H p = none → c ≤ ns.length → Q (.ref p) (upd H p (SetO w p (fun j => decide (j ∈ ns)) c))
theorem cr_setOf {X : Cx} (hc : X.calm = true) : CallR X (.type "set") (rSetOf X.K X.w) := by
  intro pins s σ H xs us Q I r h
  obtain ⟨l, ns, rfl, hl, hn, q⟩ := h
  obtain rfl := Vals.ref1 r
  obtain ⟨its, rv, il, _⟩ := I.list hl
  refine set_ofList ns (I.ok.hd hc) il.isList (by simpa using rv.ints) (Nat.lt_of_lt_of_le (show ns.length + 1 < 61 by omega) (by decide)) fun h' tk c hS lc hk => ?_
  exact ⟨.ref _, upd H s.heap.objs.size (SetO X.w s.heap.objs.size (fun j => decide (j ∈ ns)) c), I.laid (t' := tk) (fun b u e => hk b u e) (Nat.le_refl _) (setO_new hS), rfl, q _ _ (I.hok.fresh (Nat.le_refl _)) lc⟩
theorem rSetOf_r {K : PySem.W.Frag} {w : World} {l : Addr} {H : Hp} {Q : VK} : rSetOf K w [.ref l] H Q = ∃ ns : List Int, SqL K H l (ns.map V.int) ∧ ns.length < 60 ∧ ∀ p c, H p = none → c ≤ ns.length → Q (.ref p) (upd H p (SetO w p (fun j => decide (j ∈ ns)) c)) := propext ⟨fun ⟨_, ns, e, h⟩ => by cases e; exact ⟨ns, h⟩, fun ⟨ns, h⟩ => ⟨l, ns, rfl, h⟩⟩
theorem rSortedSet_r {w : World} {a : Addr} {H : Hp} {Q : VK} : rSortedSet w [.ref a] H Q = ∃ (S : Int → Bool) (n : Nat), H a = some (SetO w a S n) ∧ n < 64 ∧ ∀ (ns : List Int) (p : Addr), ns.Pairwise (· < ·) → (∀ k : Int, k ∈ ns ↔ S k = true) → ns.length = n → H p = none → Q (.ref p) (upd H p (.lst (ns.map V.int))) := propext ⟨fun ⟨_, S, n, e, h⟩ => by cases e; exact ⟨S, n, h⟩, fun ⟨S, n, h⟩ => ⟨a, S, n, rfl, h⟩⟩
end Bk

namespace Bk
open PySem PySem.Spec PyProof.Rows L2
/-! ### where a last stretch begins -/
def fbo (row : Nat → Int) (w : Nat → Option Int) (T : Int) : Nat → Int → Option Nat
  | 0, _ => none
  | m + 1, cost => match w m with
    | none => none
    | some p => if row m + (cost + p) = T then some m else fbo row w T m (cost + p)
theorem segP_one {w : Nat → Option Int} {m : Nat} {p : Int} (h : w m = some p) : segP w m 1 = some p := by
  unfold segP
  simp only [List.range_one, List.map_cons, List.map_nil, Nat.add_zero, h, sumO, Option.map_some]
  rw [Int.add_zero]
theorem fbo_some {row : Nat → Int} {w : Nat → Option Int} {T : Int} : ∀ {m : Nat} {c : Int} {f : Nat}, fbo row w T m c = some f → f < m ∧ ∃ s, segP w f (m - f) = some s ∧ row f + c + s = T
  | 0, c, f, h => by cases h
  | m + 1, c, f, h => by
    unfold fbo at h
    cases hw : w m with
    | none => rw [hw] at h; cases h
    | some p =>
      rw [hw] at h
      simp only at h
      by_cases e : row m + (c + p) = T
      · rw [if_pos e] at h
        cases h
        exact ⟨by omega, p, by rw [show m + 1 - m = 1 by omega]; exact segP_one hw, by omega⟩
      · rw [if_neg e] at h
        obtain ⟨h1, s, h2, h3⟩ := fbo_some h
        refine ⟨by omega, s + p, ?_, by omega⟩
        rw [show m + 1 - f = m - f + 1 by omega]
        exact segP_join 1 (m - f) h2 (by rw [show f + (m - f) = m by omega]; exact segP_one hw)
theorem fbo_ex {row : Nat → Int} {w : Nat → Option Int} {T : Int} : ∀ {m : Nat} {c : Int} {f : Nat} {s : Int}, f < m → segP w f (m - f) = some s → row f + c + s = T → ∃ f', fbo row w T m c = some f'
  | 0, c, f, s, h, _, _ => by omega
  | m + 1, c, f, s, h, h1, h2 => by
    rw [show m + 1 - f = m - f + 1 by omega] at h1
    obtain ⟨x, y, e1, e2, e3⟩ := segP_succ h1
    rw [show f + (m - f) = m by omega] at e2
    unfold fbo
    rw [e2]
    simp only
    by_cases e : row m + (c + y) = T
    · rw [if_pos e]
      exact ⟨_, rfl⟩
    · rw [if_neg e]
      by_cases hf : f = m
      · subst hf
        rw [Nat.sub_self] at e1
        have : x = 0 := (Option.some.inj e1).symm
        exact absurd (by omega) e
      · exact fbo_ex (by omega) e1 (by omega)
/-- rows of a plan: day of baking, day given -/
structure PlanOk (g : Good) (lights : Nat → Int) (n m : Nat) (es : List (Nat × Nat)) : Prop where
  days : (es.map Prod.snd).Perm ((List.range n).filter fun k => decide (m ≤ k ∧ wantN g k ≠ 0))
  price : ∀ e ∈ es, e.1 < n ∧ ∃ p, loafP g e.1 e.2 = some p
/-- what the loaves of a plan cost -/
def loavesE (g : Good) (es : List (Nat × Nat)) : Int := (es.map fun e => wantN g e.2 * (loafP g e.1 e.2).getD 0).sum
structure CheapI (g : Good) (lights row : Nat → Int) (n m : Nat) (es : List (Nat × Nat)) : Prop extends PlanOk g lights n m es where
  cost : litSum lights (fun d => ∃ e ∈ es, e.1 = d) n + loavesE g es + row m ≤ row n
theorem litSum_mono {lights : Nat → Int} (hl : ∀ b, 0 ≤ lights b) {S S' : Nat → Prop} {n : Nat} (h : ∀ d, S d → S' d) : litSum lights S n ≤ litSum lights S' n := by
  unfold litSum
  refine sumN_le n fun k _ => ?_
  by_cases a : S k
  · rw [if_pos a, if_pos (h k a)]
    exact Int.le_refl _
  · rw [if_neg a]
    split
    · exact hl k
    · exact Int.le_refl _
/-- the rows of a stretch -/
def strE (g : Good) (b f m : Nat) : List (Nat × Nat) := (((List.range (m - f)).map fun i => f + i).filter fun k => decide (wantN g k ≠ 0)).map fun k => (b, k)
theorem loavesE_app (g : Good) (es fs : List (Nat × Nat)) : loavesE g (es ++ fs) = loavesE g es + loavesE g fs := by
  unfold loavesE
  rw [List.map_append, List.sum_append]
theorem wantP_loaf {g : Good} {b k : Nat} {z : Int} (h : wantP g b k = some z) : z = wantN g k * (loafP g b k).getD 0 ∧ (wantN g k ≠ 0 → ∃ p, loafP g b k = some p) := by
  unfold wantP at h
  unfold wantN
  cases hd : g.days[k]? with
  | none => rw [hd] at h; cases h
  | some d =>
    rw [hd] at h
    simp only at h ⊢
    by_cases e : d.want = 0
    · rw [if_pos e] at h
      cases h
      rw [e]
      exact ⟨by omega, fun z => absurd rfl z⟩
    · rw [if_neg e] at h
      cases hp : loafP g b k with
      | none => rw [hp] at h; cases h
      | some p =>
        rw [hp] at h
        cases h
        exact ⟨rfl, fun _ => ⟨p, rfl⟩⟩
theorem strE_seg {g : Good} {b f : Nat} : ∀ (n : Nat) {s : Int}, segP (wantP g b) f n = some s → loavesE g (strE g b f (f + n)) = s ∧ ∀ e ∈ strE g b f (f + n), ∃ p, loafP g e.1 e.2 = some p
  | 0, s, h => by
    cases h
    unfold strE loavesE
    rw [Nat.add_zero, Nat.sub_self]
    exact ⟨rfl, fun e he => by cases he⟩
  | n + 1, s, h => by
    obtain ⟨x, y, h1, h2, rfl⟩ := segP_succ h
    obtain ⟨i1, i2⟩ := strE_seg n h1
    have hs : strE g b f (f + (n + 1)) = strE g b f (f + n) ++ (if wantN g (f + n) ≠ 0 then [(b, f + n)] else []) := by
      unfold strE
      rw [show f + (n + 1) - f = n + 1 by omega, show f + n - f = n by omega, List.range_succ, List.map_append, List.filter_append, List.map_append]
      congr 1
      by_cases e : wantN g (f + n) ≠ 0
      · rw [if_pos e]
        simp [e]
      · rw [if_neg e]
        simp only [List.map_cons, List.map_nil]
        rw [List.filter_cons_of_neg (by simpa using e)]
        rfl
    obtain ⟨w1, w2⟩ := wantP_loaf h2
    rw [hs]
    by_cases e : wantN g (f + n) ≠ 0
    · rw [if_pos e, loavesE_app, i1]
      refine ⟨?_, fun z hz => ?_⟩
      · show x + ([wantN g (f + n) * (loafP g b (f + n)).getD 0]).sum = x + y
        rw [List.sum_singleton, ← w1]
      · rcases List.mem_append.mp hz with z1 | z1
        · exact i2 z z1
        · rw [List.mem_singleton.mp z1]
          exact w2 e
    · rw [if_neg e, List.append_nil]
      have e' : wantN g (f + n) = 0 := Classical.not_not.mp e
      rw [e', Int.zero_mul] at w1
      exact ⟨by rw [i1, w1]; omega, i2⟩
theorem perm_range_split {g : Good} {n f m : Nat} (hf : f ≤ m) (hm : m ≤ n) : (((List.range n).filter fun k => decide (m ≤ k ∧ wantN g k ≠ 0)) ++ (((List.range (m - f)).map fun i => f + i).filter fun k => decide (wantN g k ≠ 0))).Perm ((List.range n).filter fun k => decide (f ≤ k ∧ wantN g k ≠ 0)) := by
  have e1 : List.range n = List.range f ++ ((List.range (m - f)).map fun i => f + i) ++ ((List.range (n - m)).map fun i => m + i) := by
    apply List.ext_getElem
    · simp only [List.length_append, List.length_map, List.length_range]
      omega
    · intro i h1 h2
      rw [List.length_range] at h1
      rw [List.getElem_range]
      by_cases a : i < f
      · rw [List.getElem_append_left (by simp only [List.length_append, List.length_range, List.length_map]; omega), List.getElem_append_left (by rw [List.length_range]; exact a), List.getElem_range]
      · by_cases b : i < m
        · rw [List.getElem_append_left (by simp only [List.length_append, List.length_range, List.length_map]; omega), List.getElem_append_right (by rw [List.length_range]; omega), List.getElem_map, List.getElem_range, List.length_range]
          omega
        · rw [List.getElem_append_right (by simp only [List.length_append, List.length_range, List.length_map]; omega), List.getElem_map, List.getElem_range]
          simp only [List.length_append, List.length_range, List.length_map]
          omega
  have fA : ∀ (q : Nat), q ≤ n → ((List.range f).filter fun k => decide (f ≤ k ∧ wantN g k ≠ 0)) = [] := fun _ _ => by
    rw [List.filter_eq_nil_iff]
    intro k hk
    have := List.mem_range.mp hk
    simp only [decide_eq_true_eq]
    omega
  have fA2 : ((List.range f).filter fun k => decide (m ≤ k ∧ wantN g k ≠ 0)) = [] := by
    rw [List.filter_eq_nil_iff]
    intro k hk
    have := List.mem_range.mp hk
    simp only [decide_eq_true_eq]
    omega
  have fB : (((List.range (m - f)).map fun i => f + i).filter fun k => decide (m ≤ k ∧ wantN g k ≠ 0)) = [] := by
    rw [List.filter_eq_nil_iff]
    intro k hk
    obtain ⟨i, hi, rfl⟩ := List.mem_map.mp hk
    have := List.mem_range.mp hi
    simp only [decide_eq_true_eq]
    omega
  have fB2 : (((List.range (m - f)).map fun i => f + i).filter fun k => decide (f ≤ k ∧ wantN g k ≠ 0)) = (((List.range (m - f)).map fun i => f + i).filter fun k => decide (wantN g k ≠ 0)) := by
    apply List.filter_congr
    intro k hk
    obtain ⟨i, hi, rfl⟩ := List.mem_map.mp hk
    apply decide_eq_decide.mpr
    exact ⟨fun z => z.2, fun z => ⟨by omega, z⟩⟩
  have fC : (((List.range (n - m)).map fun i => m + i).filter fun k => decide (m ≤ k ∧ wantN g k ≠ 0)) = (((List.range (n - m)).map fun i => m + i).filter fun k => decide (f ≤ k ∧ wantN g k ≠ 0)) := by
    apply List.filter_congr
    intro k hk
    obtain ⟨i, hi, rfl⟩ := List.mem_map.mp hk
    apply decide_eq_decide.mpr
    exact ⟨fun z => ⟨by omega, z.2⟩, fun z => ⟨by omega, z.2⟩⟩
  rw [e1, List.filter_append, List.filter_append, List.filter_append, List.filter_append, fA n (Nat.le_refl _), fA2, fB, fB2, fC]
  simp only [List.nil_append]
  exact List.perm_append_comm
theorem cheap_step {g : Good} {lights row : Nat → Int} (hl : ∀ b, 0 ≤ lights b) {n m f b : Nat} {s : Int} {es : List (Nat × Nat)} (h : CheapI g lights row n m es) (hb : b < n) (hf : f < m) (hm : m ≤ n) (hs : segP (wantP g b) f (m - f) = some s) (he : row f + lights b + s = row m) : CheapI g lights row n f (es ++ strE g b f m) := by
  have hse := strE_seg (m - f) hs
  rw [show f + (m - f) = m by omega] at hse
  refine ⟨⟨?_, fun e hem => ?_⟩, ?_⟩
  · rw [List.map_append]
    refine (List.Perm.append h.days ?_).trans (perm_range_split (Nat.le_of_lt hf) hm)
    unfold strE
    rw [List.map_map]
    have : (Prod.snd ∘ fun k : Nat => (b, k)) = id := rfl
    rw [this, List.map_id]
  · rcases List.mem_append.mp hem with z | z
    · exact h.price e z
    · refine ⟨?_, hse.2 e z⟩
      unfold strE at z
      obtain ⟨k, _, rfl⟩ := List.mem_map.mp z
      exact hb
  · rw [loavesE_app, hse.1]
    have h1 : litSum lights (fun d => ∃ e ∈ es ++ strE g b f m, e.1 = d) n ≤ litSum lights (fun d => (∃ e ∈ es, e.1 = d) ∨ d = b) n := litSum_mono hl fun d ⟨e, hem, ed⟩ => by
      rcases List.mem_append.mp hem with z | z
      · exact .inl ⟨e, z, ed⟩
      · unfold strE at z
        obtain ⟨k, _, rfl⟩ := List.mem_map.mp z
        exact .inr ed.symm
    have h2 := litSum_add hl (S := fun d => ∃ e ∈ es, e.1 = d) hb
    have h3 := h.cost
    omega
theorem rExtend_r {l b : Addr} {H : Hp} {Q : VK} : rExtend (.ref l) [.ref b] H Q = ∃ xs zs, H l = some (.lst xs) ∧ H b = some (.lst zs) ∧ xs.length + zs.length ≤ sizeLine ∧ Q .non (upd H l (.lst (xs ++ zs))) := propext ⟨fun ⟨_, _, xs, zs, e1, e2, h⟩ => by cases e1; cases e2; exact ⟨xs, zs, h⟩, fun ⟨xs, zs, h⟩ => ⟨l, b, xs, zs, rfl, rfl, h⟩⟩
theorem rSortU_r {K : PySem.W.Frag} {d : Nat} {B : Int} {a : Addr} {H : Hp} {Q : VK} : rSortU K d B [.ref a] H Q = ∃ xs : List V, SqL K H a xs ∧ xs.length < 64 ∧ (∀ x ∈ xs, ∃ ns, TupI K H x ns ∧ ns.length = d ∧ TS.Bd B ns) ∧ ∀ (ys : List V) (p : Addr), ys.Perm xs → ys.Pairwise (fun x y => ∀ n m, TupI K H x n → TupI K H y m → TS.code B n ≤ TS.code B m) → H p = none → Q (.ref p) (upd H p (.lst ys)) := propext ⟨fun ⟨_, xs, e, h⟩ => by cases e; exact ⟨xs, h⟩, fun ⟨xs, h⟩ => ⟨a, xs, rfl, h⟩⟩
theorem perm_map_inv {α β : Type} {f : α → β} : ∀ {l1 l2 : List β}, l1.Perm l2 → ∀ zs : List α, zs.map f = l1 → ∃ zs', zs.Perm zs' ∧ zs'.map f = l2 := by
  intro l1 l2 h
  induction h with
  | nil => exact fun zs e => ⟨zs, List.Perm.refl _, e⟩
  | cons x _ ih =>
    intro zs e
    cases zs with
    | nil => cases e
    | cons z zs =>
      obtain ⟨e1, e2⟩ := List.cons.inj e
      obtain ⟨zs', h1, h2⟩ := ih zs e2
      exact ⟨z :: zs', h1.cons z, by rw [List.map_cons, e1, h2]⟩
  | swap x y l =>
    intro zs e
    match zs, e with
    | a :: b :: zs, e =>
      obtain ⟨e1, e2⟩ := List.cons.inj e
      obtain ⟨e3, e4⟩ := List.cons.inj e2
      exact ⟨b :: a :: zs, List.Perm.swap b a zs, by rw [List.map_cons, List.map_cons, e1, e3, e4]⟩
  | trans _ _ ih1 ih2 =>
    intro zs e
    obtain ⟨z1, h1, h2⟩ := ih1 zs e
    obtain ⟨z2, h3, h4⟩ := ih2 z1 h2
    exact ⟨z2, h1.trans h3, h4⟩
end Bk

namespace Bk
open PySem PySem.Spec PyProof.Rows L2
theorem cxW {CX : CXT} {P : Program} {w : World} {K : PySem.W.Frag} {mg : Str → Option Value} {base : Heap} {N : List Str} {qual : Str} {scope : Scope} {f : Addr} {cd : Value} {A : Around} {outer : List Env} {s : Shared} {H : Hp} {E : XK} :
    (cxOf CX P w K mg base N qual scope f cd A outer s H E).w = w := rfl
theorem perm_sum {l1 l2 : List Int} (h : l1.Perm l2) : l1.sum = l2.sum := by
  induction h with
  | nil => rfl
  | cons x _ ih => rw [List.sum_cons, List.sum_cons, ih]
  | swap x y l => rw [List.sum_cons, List.sum_cons, List.sum_cons, List.sum_cons]; omega
  | trans _ _ h1 h2 => exact h1.trans h2
theorem sumN_two (f : Nat → Int) (a : Nat) : ∀ b, sumN f (a + b) = sumN f a + sumN (fun i => f (a + i)) b
  | 0 => by show sumN f (a + 0) = sumN f a + 0; rw [Nat.add_zero]; omega
  | b + 1 => by
    show sumN f (a + b) + f (a + b) = sumN f a + (sumN (fun i => f (a + i)) b + f (a + b))
    rw [sumN_two f a b]
    omega
theorem sumN_cong {f g : Nat → Int} : ∀ n, (∀ k, k < n → f k = g k) → sumN f n = sumN g n
  | 0, _ => rfl
  | n + 1, h => by
    show sumN f n + f n = sumN g n + g n
    rw [sumN_cong n fun k hk => h k (by omega), h n (by omega)]
/-- prices that are let by come to no more than the least cost -/
theorem lets_row {g : Good} {lights pr row : Nat → Int} {n : Nat} (hL : Lets g lights pr n) (h0 : ∀ k, k < n → wantN g k = 0 → pr k = 0) (hR : IsRow g lights row n) : ∀ m, m ≤ n → sumN pr m ≤ row m := by
  intro m
  induction m using Nat.strongRecOn with
  | ind m ih =>
    intro hm
    cases m with
    | zero => rw [hR.zero]; exact Int.le_refl _
    | succ m =>
      rcases hR.some m (by omega) with ⟨b, f, s, h1, h2, h3, h4⟩ | ⟨⟨d, hd, h1⟩, h2⟩
      · have a := ih f (by omega) (by omega)
        have b' := hL b f (m + 1 - f) s (by omega) (by omega) h3
        have c := sumN_two pr f (m + 1 - f)
        rw [show f + (m + 1 - f) = m + 1 by omega] at c
        omega
      · have a := ih m (by omega) (by omega)
        have b := h0 m (by omega) (by rw [wantN_at hd]; exact h1)
        show sumN pr m + pr m ≤ row (m + 1)
        omega
theorem sum_filter {f : Nat → Int} {p : Nat → Bool} : ∀ n, (∀ k, k < n → p k = false → f k = 0) → (((List.range n).filter p).map f).sum = sumN f n
  | 0, _ => rfl
  | n + 1, h => by
    have ih := sum_filter n fun k hk => h k (by omega)
    rw [List.range_succ, List.filter_append, List.map_append, List.sum_append, ih]
    show sumN f n + _ = sumN f n + f n
    congr 1
    by_cases e : p n = true
    · rw [List.filter_cons_of_pos e]
      exact List.sum_singleton ..
    · rw [List.filter_cons_of_neg e, h n (by omega) (by simpa using e)]
      rfl
theorem nodup_find {es : List (Nat × Nat)} (hn : (es.map Prod.snd).Nodup) {e : Nat × Nat} (he : e ∈ es) : es.find? (fun x => decide (x.2 = e.2)) = some e := by
  induction es with
  | nil => cases he
  | cons x r ih =>
    rw [List.map_cons, List.nodup_cons] at hn
    rcases List.mem_cons.mp he with rfl | h
    · exact List.find?_cons_of_pos (decide_eq_true rfl)
    · have : ¬ x.2 = e.2 := fun z => hn.1 (z ▸ List.mem_map.mpr ⟨e, h, rfl⟩)
      rw [List.find?_cons_of_neg (by simpa using this)]
      exact ih hn.2 h
/-- the told plan costs the least -/
theorem CheapI.eq {g : Good} {lights row : Nat → Int} {n : Nat} {es : List (Nat × Nat)} (h : CheapI g lights row n 0 es) (hR : IsRow g lights row n) (hn : n ≤ g.days.length) (hl : ∀ b, 0 ≤ lights b) (N : NonNegW g.days) (hlf : ∀ l, g.life = some l → 0 ≤ l) : litSum lights (fun d => ∃ e ∈ es, e.1 = d) n + loavesE g es = row n := by
  have hc := h.cost
  rw [hR.zero] at hc
  have hnd : (es.map Prod.snd).Nodup := h.days.nodup_iff.mpr (List.nodup_range.sublist List.filter_sublist)
  let p : Nat → Int := fun k => ((es.find? fun x => decide (x.2 = k)).map fun e => (loafP g e.1 e.2).getD 0).getD 0
  have hp : ∀ e ∈ es, p e.2 = (loafP g e.1 e.2).getD 0 := fun e he => by
    show ((es.find? fun x => decide (x.2 = e.2)).map _).getD 0 = _
    rw [nodup_find hnd he]
    rfl
  have e1 : loavesE g es = ((es.map Prod.snd).map fun k => wantN g k * p k).sum := by
    unfold loavesE
    rw [List.map_map]
    congr 1
    apply List.map_congr_left
    intro e he
    show _ = wantN g e.2 * p e.2
    rw [hp e he]
  have e2 : ((es.map Prod.snd).map fun k => wantN g k * p k).sum = sumN (fun k => wantN g k * p k) n := by
    rw [perm_sum (h.days.map _)]
    refine sum_filter n fun k _ hk => ?_
    have : wantN g k = 0 := by
      have := of_decide_eq_false hk
      by_cases z : wantN g k = 0
      · exact z
      · exact absurd ⟨Nat.zero_le _, z⟩ this
    rw [this, Int.zero_mul]
  have hcov : Cov g lights n n (fun d => ∃ e ∈ es, e.1 = d) p (litSum lights (fun d => ∃ e ∈ es, e.1 = d) n + loavesE g es) := by
    refine ⟨fun k hk hw => ?_, by rw [e1, e2]; exact Int.le_refl _⟩
    have hm : k ∈ (List.range n).filter fun k => decide (0 ≤ k ∧ wantN g k ≠ 0) := List.mem_filter.mpr ⟨List.mem_range.mpr hk, decide_eq_true ⟨Nat.zero_le _, hw⟩⟩
    obtain ⟨e, he, rfl⟩ := List.mem_map.mp (h.days.mem_iff.mpr hm)
    obtain ⟨hb, z, hz⟩ := h.price e he
    exact ⟨e.1, hb, ⟨e, he, rfl⟩, by rw [hp e he, hz]; rfl⟩
  have := row_le_cov hR hn hl N hlf hcov
  omega
/-! ### days alike, nights for nothing -/
def flatG (ws : List Int) : Good := ⟨ws.map fun w => ⟨w, 5, 0, some 0⟩, none⟩
theorem sumO_zero : ∀ l : List (Option Int), (∀ o ∈ l, o = some 0) → sumO l = some 0
  | [], _ => rfl
  | o :: r, h => by
    rw [h o List.mem_cons_self]
    show (sumO r).map (0 + ·) = some 0
    rw [sumO_zero r fun x hx => h x (List.mem_cons_of_mem _ hx)]
    rfl
theorem sum_zero' : ∀ l : List Int, (∀ o ∈ l, o = 0) → l.sum = 0
  | [], _ => rfl
  | o :: r, h => by
    rw [List.sum_cons, h o List.mem_cons_self, sum_zero' r fun x hx => h x (List.mem_cons_of_mem _ hx)]
    rfl
theorem flat_loaf (ws : List Int) {b k : Nat} (hb : b < ws.length) : loafP (flatG ws) b k = some 5 := by
  unfold loafP flatG
  simp only
  rw [List.getElem?_map, List.getElem?_eq_getElem hb]
  simp only [Option.map_some]
  split
  · rw [show finesL (ws.map fun w => (⟨w, 5, 0, some 0⟩ : Day)) k b = some 0 by
      unfold finesL
      refine sumO_zero _ fun o ho => ?_
      obtain ⟨d, hd, rfl⟩ := List.mem_map.mp ho
      obtain ⟨w, _, rfl⟩ := List.mem_map.mp (List.mem_of_mem_drop (List.mem_of_mem_take hd))
      rfl]
    rfl
  · rw [show keepsL (ws.map fun w => (⟨w, 5, 0, some 0⟩ : Day)) b k = 0 by
      unfold keepsL
      refine sum_zero' _ fun o ho => ?_
      obtain ⟨d, hd, rfl⟩ := List.mem_map.mp ho
      obtain ⟨w, _, rfl⟩ := List.mem_map.mp (List.mem_of_mem_drop (List.mem_of_mem_take hd))
      rfl]
    rfl
theorem flat_wantN (ws : List Int) {k : Nat} (hk : k < ws.length) : wantN (flatG ws) k = rowF ws k := by
  unfold wantN flatG rowF
  simp only
  rw [List.getElem?_map, List.getElem?_eq_getElem hk, List.getD_eq_getElem?_getD, List.getElem?_eq_getElem hk]
  rfl
theorem flat_wantP (ws : List Int) {b k : Nat} (hb : b < ws.length) (hk : k < ws.length) : wantP (flatG ws) b k = some (rowF ws k * 5) := by
  unfold wantP
  rw [flat_loaf ws hb]
  have : (flatG ws).days[k]? = some ⟨rowF ws k, 5, 0, some 0⟩ := by
    unfold flatG rowF
    simp only
    rw [List.getElem?_map, List.getElem?_eq_getElem hk, List.getD_eq_getElem?_getD, List.getElem?_eq_getElem hk]
    rfl
  rw [this]
  simp only
  split
  · rename_i e
    rw [e]
    rfl
  · rfl
theorem flat_seg (ws : List Int) {b f : Nat} (hb : b < ws.length) : ∀ m, f + m ≤ ws.length → segP (wantP (flatG ws) b) f m = some (sumN (fun i => rowF ws (f + i) * 5) m)
  | 0, _ => rfl
  | m + 1, h => segP_join 1 m (flat_seg ws hb m (by omega)) (segP_one (flat_wantP ws hb (by omega)))
theorem sumN_ind (f c : Nat) (v : Int) : ∀ m, sumN (fun i => if f + i = c then v else 0) m = if f ≤ c ∧ c < f + m then v else 0
  | 0 => by rw [if_neg (by omega)]; rfl
  | m + 1 => by
    show sumN (fun i => if f + i = c then v else 0) m + (if f + m = c then v else 0) = _
    rw [sumN_ind f c v m]
    by_cases a : f + m = c
    · rw [if_neg (by omega), if_pos a, if_pos (by omega), Int.zero_add]
    · rw [if_neg a, Int.add_zero]
      by_cases b : f ≤ c ∧ c < f + m
      · rw [if_pos b, if_pos (by omega)]
      · rw [if_neg b, if_neg (by omega)]
theorem sumN_plus (f g : Nat → Int) : ∀ m, sumN (fun i => f i + g i) m = sumN f m + sumN g m
  | 0 => rfl
  | m + 1 => by
    show sumN (fun i => f i + g i) m + (f m + g m) = sumN f m + f m + (sumN g m + g m)
    rw [sumN_plus f g m]
    omega
/-- the first wanted day's price bears the light -/
theorem far_lets {ws ps : List Int} {L : Nat → Int} {c : Nat} (hL : ∀ b, b < ws.length → L b = 7) (hl : ps.length = ws.length) (hp : ∀ k, k < ws.length → rowF ps k = rowF ws k * 5 + (if 0 + k = c then 7 else 0)) : Lets (flatG ws) L (rowF ps) ws.length := by
  intro b f m s hb hm hs
  rw [flat_seg ws hb m hm] at hs
  cases hs
  have e : sumN (fun i => rowF ps (f + i)) m = sumN (fun i => rowF ws (f + i) * 5) m + sumN (fun i => if f + i = c then 7 else 0) m := by
    rw [← sumN_plus]
    refine sumN_cong m fun k hk => ?_
    rw [hp (f + k) (by omega), Nat.zero_add]
  rw [e, sumN_ind, hL b hb]
  split <;> omega
theorem far_sum {ws ps : List Int} {c : Nat} {v : Int} (hl : ps.length = ws.length) (hc : c < ws.length) (hp : ∀ k, k < ws.length → rowF ps k = rowF ws k * 5 + (if 0 + k = c then v else 0)) : sumN (rowF ps) ws.length = sumN (fun i => rowF ws i * 5) ws.length + v := by
  have e : sumN (rowF ps) ws.length = sumN (fun i => rowF ws i * 5) ws.length + sumN (fun i => if 0 + i = c then v else 0) ws.length := by
    rw [← sumN_plus]
    exact sumN_cong _ hp
  rw [e, sumN_ind, if_pos (by omega)]
theorem far_row {ws : List Int} {L row : Nat → Int} (hL : ∀ b, b < ws.length → L b = 7) (h1 : 1 ≤ ws.length) (hR : IsRow (flatG ws) L row ws.length) : row ws.length ≤ 7 + sumN (fun i => rowF ws i * 5) ws.length := by
  have hs := flat_seg ws (b := 0) (f := 0) (by omega) ws.length (by omega)
  have := hR.least (ws.length - 1) (by omega) (row 0 + 7 + sumN (fun i => rowF ws (0 + i) * 5) ws.length) (.inl ⟨0, 0, _, by omega, by omega, by rw [show ws.length - 1 + 1 - 0 = ws.length by omega]; exact hs, by rw [hL 0 (by omega)]⟩)
  rw [show ws.length - 1 + 1 = ws.length by omega, hR.zero] at this
  have e : sumN (fun i => rowF ws (0 + i) * 5) ws.length = sumN (fun i => rowF ws i * 5) ws.length := sumN_cong _ fun k _ => by rw [Nat.zero_add]
  omega
end Bk

namespace Bk
open PySem PySem.Spec PyProof.Rows L2
/-! ### one price for all loaves: known costs -/
theorem seg_c {g : Good} {b f : Nat} {c : Int} : ∀ {m : Nat} {s : Int}, (∀ i z, i < m → loafP g b (f + i) = some z → z = c) → segP (wantP g b) f m = some s → s = c * sumN (fun i => wantN g (f + i)) m
  | 0, s, _, h => by
    cases h
    show (0 : Int) = c * 0
    omega
  | m + 1, s, hp, h => by
    obtain ⟨x, y, h1, h2, rfl⟩ := segP_succ h
    have ih := seg_c (fun i z hi => hp i z (by omega)) h1
    show x + y = c * (sumN (fun i => wantN g (f + i)) m + wantN g (f + m))
    rw [Int.mul_add, ← ih]
    rcases wantP_inv h2 with ⟨e1, e2⟩ | ⟨z, e1, e2⟩
    · rw [e1, e2, Int.mul_zero]
    · rw [e2, hp m z (by omega) e1, Int.mul_comm]
theorem seg_mk {g : Good} {b f : Nat} {c : Int} : ∀ {m : Nat}, f + m ≤ g.days.length → (∀ i, i < m → wantN g (f + i) ≠ 0 → loafP g b (f + i) = some c) → segP (wantP g b) f m = some (c * sumN (fun i => wantN g (f + i)) m)
  | 0, _, _ => by
    show some 0 = some (c * 0)
    rw [Int.mul_zero]
  | m + 1, hl, hp => by
    have ih := seg_mk (m := m) (by omega) fun i hi => hp i (by omega)
    show _ = some (c * (sumN (fun i => wantN g (f + i)) m + wantN g (f + m)))
    rw [Int.mul_add, Int.mul_comm c (wantN g (f + m))]
    exact segP_add ih (wantP_of (by omega) (hp m (by omega)))
theorem IsRow.cut {g : Good} {lights row : Nat → Int} {n m : Nat} (h : IsRow g lights row n) (hm : m ≤ n) : IsRow g lights row m := ⟨h.zero, fun k hk => h.some k (by omega), fun k hk => h.least k (by omega)⟩
theorem known_zero {g : Good} {L row : Nat → Int} {n m : Nat} (hR : IsRow g L row n) (hn : n ≤ g.days.length) (hl : ∀ b, 0 ≤ L b) (N : NonNegW g.days) (hm : m ≤ n) (h0 : ∀ k, k < m → wantN g k = 0) : row m = 0 := by
  have h1 := row_flat hR (f := 0) m (by omega) hm fun k _ hk => wantN_zero (by omega) (h0 k hk)
  rw [hR.zero] at h1
  have h2 := lets_row (pr := fun _ => 0) (n := m) (fun b f k s hb hk hs => by
    have e := sumN_zero (f := fun i : Nat => (0 : Int)) k fun _ _ => rfl
    have := segP_nonneg (fun k z h => wantP_nonneg N h) hs
    have := hl b
    show sumN (fun _ => 0) k ≤ _
    omega) (fun _ _ _ => rfl) (hR.cut hm) m (Nat.le_refl _)
  rw [sumN_zero m fun _ _ => rfl] at h2
  omega
theorem sumN_mul (c : Int) (f : Nat → Int) : ∀ m, sumN (fun i => c * f i) m = c * sumN f m
  | 0 => by show (0 : Int) = c * 0; omega
  | m + 1 => by
    show sumN (fun i => c * f i) m + c * f m = c * (sumN f m + f m)
    rw [sumN_mul c f m, Int.mul_add]
theorem known_one {g : Good} {L row : Nat → Int} {n m k0 b0 : Nat} {c : Int} (hR : IsRow g L row n) (hn : n ≤ g.days.length) (hl : ∀ b, 0 ≤ L b) (hm : m ≤ n) (hp : ∀ b k z, b < n → k < n → loafP g b k = some z → z = c) (hk : k0 < m) (hw : wantN g k0 ≠ 0) (hb : b0 < m)
    (ha : ∀ k, k < m → wantN g k ≠ 0 → loafP g b0 k = some c) (hmin : ∀ b z, b < m → loafP g b k0 = some z → L b0 ≤ L b) : row m = c * sumN (wantN g) m + L b0 := by
  have up := hR.least (m - 1) (by omega) _ (.inl ⟨b0, 0, _, by omega, by omega, seg_mk (c := c) (by omega) fun i hi => ?_, rfl⟩)
  · rw [show m - 1 + 1 = m by omega, hR.zero, show m - 0 = m by omega] at up
    have e : sumN (fun i => wantN g (0 + i)) m = sumN (wantN g) m := sumN_cong m fun k _ => by rw [Nat.zero_add]
    rw [e] at up
    have lo := lets_row (pr := fun k => c * wantN g k + (if 0 + k = k0 then L b0 else 0)) (n := m) (fun b f k s hb1 hk1 hs => by
      have hs2 := seg_c (c := c) (fun i z hi hz => hp b (f + i) z (by omega) (by omega) hz) hs
      have e2 : sumN (fun i => c * wantN g (f + i) + (if 0 + (f + i) = k0 then L b0 else 0)) k = c * sumN (fun i => wantN g (f + i)) k + sumN (fun i => if f + i = k0 then L b0 else 0) k := by
        rw [sumN_plus, sumN_mul]
        congr 1
        exact sumN_cong k fun i _ => by rw [Nat.zero_add]
      show sumN (fun i => c * wantN g (f + i) + (if 0 + (f + i) = k0 then L b0 else 0)) k ≤ _
      rw [e2, ← hs2, sumN_ind]
      by_cases a : f ≤ k0 ∧ k0 < f + k
      · rw [if_pos a]
        obtain ⟨z, hz⟩ := segP_all hs (k0 - f) (by omega)
        rw [show f + (k0 - f) = k0 by omega] at hz
        rcases wantP_inv hz with ⟨e1, _⟩ | ⟨y, e1, _⟩
        · exact absurd e1 hw
        · have := hmin b y hb1 e1
          omega
      · rw [if_neg a]
        have := hl b
        omega) (fun k hk1 h0 => by
      show c * wantN g k + (if 0 + k = k0 then L b0 else 0) = 0
      rw [h0, if_neg (fun e => hw (by rw [← e, Nat.zero_add]; exact h0))]
      omega) (hR.cut hm) m (Nat.le_refl _)
    have e3 : sumN (fun k => c * wantN g k + (if 0 + k = k0 then L b0 else 0)) m = c * sumN (wantN g) m + L b0 := by
      rw [sumN_plus, sumN_mul, sumN_ind, if_pos (by omega)]
    rw [e3] at lo
    omega
  · rw [Nat.zero_add]
    exact ha i (by omega)
theorem sumN_ind2 (f c : Nat) (v : Nat → Int) : ∀ m, (∀ i, i < m → f + i ≠ c → v (f + i) = 0) → sumN (fun i => v (f + i)) m = if f ≤ c ∧ c < f + m then v c else 0
  | 0, _ => by rw [if_neg (by omega)]; rfl
  | m + 1, h => by
    show sumN (fun i => v (f + i)) m + v (f + m) = _
    rw [sumN_ind2 f c v m fun i hi => h i (by omega)]
    by_cases a : f + m = c
    · rw [if_neg (by omega), if_pos (by omega), a, Int.zero_add]
    · rw [h m (by omega) a, Int.add_zero]
      by_cases b : f ≤ c ∧ c < f + m
      · rw [if_pos b, if_pos (by omega)]
      · rw [if_neg b, if_neg (by omega)]
/-- the light of a wanted day, else nothing -/
def litW (g : Good) (L : Nat → Int) (k : Nat) : Int := if wantN g k = 0 then 0 else L k
theorem known_each {g : Good} {L row : Nat → Int} {n : Nat} {c : Int} (hR : IsRow g L row n) (hn : n ≤ g.days.length) (hl : ∀ b, 0 ≤ L b) (hp : ∀ b k z, b < n → k < n → loafP g b k = some z → z = c ∧ b = k) (hs : ∀ k, k < n → loafP g k k = some c) : ∀ m, m ≤ n → row m = c * sumN (wantN g) m + sumN (litW g L) m := by
  have up : ∀ m, m ≤ n → row m ≤ c * sumN (wantN g) m + sumN (litW g L) m := by
    intro m
    induction m with
    | zero =>
      intro _
      rw [hR.zero]
      show (0 : Int) ≤ c * 0 + 0
      omega
    | succ m ih =>
      intro hm
      have ih := ih (by omega)
      show row (m + 1) ≤ c * (sumN (wantN g) m + wantN g m) + (sumN (litW g L) m + litW g L m)
      rw [Int.mul_add]
      by_cases e : wantN g m = 0
      · have := hR.least m (by omega) _ (.inr ⟨wantN_zero (by omega) e, rfl⟩)
        unfold litW at ih ⊢
        rw [if_pos e, e, Int.mul_zero]
        omega
      · have := hR.least m (by omega) _ (.inl ⟨m, m, _, Nat.le_refl _, Nat.le_refl _, seg_mk (c := c) (m := m + 1 - m) (by omega) fun i hi _ => by
          rw [show m + i = m by omega]
          exact hs m (by omega), rfl⟩)
        rw [show m + 1 - m = 0 + 1 by omega] at this
        have e2 : sumN (fun i => wantN g (m + i)) (0 + 1) = wantN g m := by
          show 0 + wantN g (m + 0) = wantN g m
          rw [Int.zero_add, Nat.add_zero]
        rw [e2] at this
        have e3 : litW g L m = L m := if_neg e
        rw [e3]
        omega
  intro m hm
  have up := up m hm
  have lo := lets_row (pr := fun k => c * wantN g k + litW g L k) (n := m) (fun b f k s hb1 hk1 hs => by
    have hs2 := seg_c (c := c) (fun i z hi hz => (hp b (f + i) z (by omega) (by omega) hz).1) hs
    show sumN (fun i => c * wantN g (f + i) + litW g L (f + i)) k ≤ _
    rw [sumN_plus, sumN_mul, ← hs2, sumN_ind2 f b (litW g L) k fun i hi hne => ?_]
    · have := hl b
      unfold litW
      split
      · split <;> omega
      · omega
    · obtain ⟨z, hz⟩ := segP_all hs i (by omega)
      rcases wantP_inv hz with ⟨e1, _⟩ | ⟨y, e1, _⟩
      · exact if_pos e1
      · exact absurd (hp b (f + i) y (by omega) (by omega) e1).2.symm hne) (fun k hk1 h0 => by
    show c * wantN g k + litW g L k = 0
    unfold litW
    rw [h0, if_pos rfl]
    omega) (hR.cut hm) m (Nat.le_refl _)
  rw [sumN_plus, sumN_mul] at lo
  omega
/-! ### the told plan -/
theorem plan_wants {g : Good} {L row : Nat → Int} {n : Nat} {es : List (Nat × Nat)} (h : CheapI g L row n 0 es) : (es.map fun e => wantN g e.2).sum = sumN (wantN g) n := by
  have e1 : (es.map fun e => wantN g e.2) = (es.map Prod.snd).map (wantN g) := by rw [List.map_map]; rfl
  rw [e1, perm_sum (h.days.map _)]
  refine sum_filter n fun k _ hk => ?_
  have := of_decide_eq_false hk
  by_cases z : wantN g k = 0
  · exact z
  · exact absurd ⟨Nat.zero_le _, z⟩ this
theorem plan_mem {g : Good} {L row : Nat → Int} {n : Nat} {es : List (Nat × Nat)} (h : CheapI g L row n 0 es) {e : Nat × Nat} (he : e ∈ es) : e.1 < n ∧ e.2 < n ∧ wantN g e.2 ≠ 0 := by
  have h1 : e.2 ∈ es.map Prod.snd := List.mem_map.mpr ⟨e, he, rfl⟩
  have h2 := List.mem_filter.mp (h.days.mem_iff.mp h1)
  exact ⟨(h.price _ he).1, List.mem_range.mp h2.1, (of_decide_eq_true h2.2).2⟩
theorem plan_day {g : Good} {L row : Nat → Int} {n : Nat} {es : List (Nat × Nat)} (h : CheapI g L row n 0 es) {k : Nat} (hk : k < n) (hw : wantN g k ≠ 0) : ∃ e ∈ es, e.2 = k := by
  have hm : k ∈ (List.range n).filter fun k => decide (0 ≤ k ∧ wantN g k ≠ 0) := List.mem_filter.mpr ⟨List.mem_range.mpr hk, decide_eq_true ⟨Nat.zero_le _, hw⟩⟩
  obtain ⟨e, he, e2⟩ := List.mem_map.mp (h.days.mem_iff.mpr hm)
  exact ⟨e, he, e2⟩
theorem plan_loaves {g : Good} {L row : Nat → Int} {n : Nat} {c : Int} {es : List (Nat × Nat)} (h : CheapI g L row n 0 es) (hp : ∀ b k z, b < n → k < n → loafP g b k = some z → z = c) : loavesE g es = c * sumN (wantN g) n := by
  rw [← plan_wants h]
  unfold loavesE
  have key : ∀ fs : List (Nat × Nat), (∀ e ∈ fs, (loafP g e.1 e.2).getD 0 = c) → (fs.map fun e => wantN g e.2 * (loafP g e.1 e.2).getD 0).sum = c * (fs.map fun e => wantN g e.2).sum := by
    intro fs
    induction fs with
    | nil => intro _; show (0 : Int) = c * 0; omega
    | cons e r ih =>
      intro hh
      rw [List.map_cons, List.map_cons, List.sum_cons, List.sum_cons, ih fun x hx => hh x (List.mem_cons_of_mem _ hx), hh e List.mem_cons_self, Int.mul_add, Int.mul_comm]
  refine key es fun e he => ?_
  obtain ⟨h1, h2, _⟩ := plan_mem h he
  obtain ⟨_, z, hz⟩ := h.price e he
  rw [hz]
  exact hp _ _ _ h1 h2 hz
theorem litSum_two {L : Nat → Int} (hl : ∀ b, 0 ≤ L b) {S : Nat → Prop} {n a b : Nat} (ha : a < n) (hb : b < n) (hab : a ≠ b) (sa : S a) (sb : S b) : L a + L b ≤ litSum L S n := by
  have h1 := sumN_one (L := L) n ha
  have h2 := sumN_one (L := L) n hb
  rw [← h1, ← h2, ← sumN_add]
  unfold litSum
  refine sumN_le n fun k _ => ?_
  by_cases e1 : k = a
  · rw [if_pos e1, if_neg (by omega), e1, if_pos sa]
    omega
  · by_cases e2 : k = b
    · rw [if_neg e1, if_pos e2, e2, if_pos sb]
      omega
    · rw [if_neg e1, if_neg e2]
      split
      · have := hl k
        omega
      · omega
theorem plan_one {g : Good} {L row : Nat → Int} {n k0 b0 : Nat} {c : Int} {es : List (Nat × Nat)} (h : CheapI g L row n 0 es) (hR : IsRow g L row n) (hn : n ≤ g.days.length) (hl : ∀ b, 0 ≤ L b) (hpos : ∀ b, b < n → 0 < L b) (N : NonNegW g.days) (hlf : ∀ l, g.life = some l → 0 ≤ l) (hp : ∀ b k z, b < n → k < n → loafP g b k = some z → z = c)
    (hk : k0 < n) (hw : wantN g k0 ≠ 0) (hmin : ∀ b z, b < n → loafP g b k0 = some z → L b0 ≤ L b) (hr : row n = c * sumN (wantN g) n + L b0) : ∃ b, b < n ∧ ∀ d, (∃ e ∈ es, e.1 = d) ↔ d = b := by
  obtain ⟨e0, he0, ek⟩ := plan_day h hk hw
  refine ⟨e0.1, (plan_mem h he0).1, fun d => ⟨fun ⟨e, he, hd⟩ => ?_, fun hd => ⟨e0, he0, hd.symm⟩⟩⟩
  apply Classical.byContradiction
  intro hne
  have hc := h.eq hR hn hl N hlf
  rw [plan_loaves h hp, hr] at hc
  have hd1 := (plan_mem h he).1
  rw [hd] at hd1
  have h0 := (plan_mem h he0).1
  have := litSum_two hl (S := fun d => ∃ e ∈ es, e.1 = d) hd1 h0 hne ⟨e, he, hd⟩ ⟨e0, he0, rfl⟩
  obtain ⟨_, z, hz⟩ := h.price e0 he0
  rw [ek] at hz
  have := hmin _ _ h0 hz
  have := hpos _ hd1
  omega
/-! ### the three families -/
def famG (ws : List Int) (c : Int) (f l : Option Int) : Good := ⟨ws.map fun w => ⟨w, c, 0, f⟩, l⟩
theorem fam_len (ws : List Int) (c : Int) (f l : Option Int) : (famG ws c f l).days.length = ws.length := List.length_map _
theorem fam_wantN (ws : List Int) (c : Int) (f l : Option Int) (k : Nat) : wantN (famG ws c f l) k = rowF ws k := by
  unfold wantN famG rowF
  simp only
  rw [List.getElem?_map, List.getD_eq_getElem?_getD]
  cases ws[k]? with
  | none => rfl
  | some w => rfl
theorem fam_keeps (ws : List Int) (c : Int) (f : Option Int) (b k : Nat) : keepsL (ws.map fun w => (⟨w, c, 0, f⟩ : Day)) b k = 0 := by
  unfold keepsL
  refine sum_zero' _ fun o ho => ?_
  obtain ⟨d, hd, rfl⟩ := List.mem_map.mp ho
  obtain ⟨w, _, rfl⟩ := List.mem_map.mp (List.mem_of_mem_drop (List.mem_of_mem_take hd))
  rfl
theorem sumO_nones {l : List (Option Int)} (h : none ∈ l) : sumO l = none := by
  induction l with
  | nil => cases h
  | cons o r ih =>
    cases o with
    | none => rfl
    | some x =>
      show (sumO r).map (x + ·) = none
      rw [ih (by rcases List.mem_cons.mp h with e | e; exact absurd e (by simp); exact e)]
      rfl
/-- which days may bake for which, by the way -/
def May (way : Nat) (b k : Nat) : Prop := way = 0 ∨ way = 1 ∧ b ≤ k ∨ way = 2 ∧ b = k
def famF (way : Nat) : Option Int := if way = 0 then some 0 else none
def famL (way : Nat) : Option Int := if way = 2 then some 0 else none
theorem fam_loaf (ws : List Int) (c : Int) {way b k : Nat} (hway : way < 3) (hb : b < ws.length) (hk : k < ws.length) : (May way b k → loafP (famG ws c (famF way) (famL way)) b k = some c) ∧ (¬ May way b k → loafP (famG ws c (famF way) (famL way)) b k = none) := by
  have hd : (ws.map fun w => (⟨w, c, 0, famF way⟩ : Day))[b]? = some ⟨ws[b], c, 0, famF way⟩ := by
    rw [List.getElem?_map, List.getElem?_eq_getElem hb]
    rfl
  unfold loafP famG
  simp only
  rw [hd, fam_keeps]
  simp only
  by_cases hkb : k < b
  · rw [if_pos hkb]
    by_cases h0 : way = 0
    · subst h0
      have : finesL (ws.map fun w => (⟨w, c, 0, famF 0⟩ : Day)) k b = some 0 := by
        unfold finesL
        refine sumO_zero _ fun o ho => ?_
        obtain ⟨d, hd, rfl⟩ := List.mem_map.mp ho
        obtain ⟨w, _, rfl⟩ := List.mem_map.mp (List.mem_of_mem_drop (List.mem_of_mem_take hd))
        rfl
      rw [this]
      refine ⟨fun _ => ?_, fun h => absurd (.inl rfl) h⟩
      show some (c + 0) = some c
      rw [Int.add_zero]
    · have : finesL (ws.map fun w => (⟨w, c, 0, famF way⟩ : Day)) k b = none := by
        unfold finesL
        refine sumO_nones ?_
        refine List.mem_map.mpr ⟨⟨ws[k], c, 0, famF way⟩, ?_, if_neg h0⟩
        refine List.mem_iff_getElem?.mpr ⟨0, ?_⟩
        rw [List.getElem?_take_of_lt (by omega), List.getElem?_drop, Nat.add_zero, List.getElem?_map, List.getElem?_eq_getElem hk]
        rfl
      rw [this]
      refine ⟨fun h => ?_, fun _ => rfl⟩
      unfold May at h
      omega
  · rw [if_neg hkb]
    by_cases h2 : way = 2
    · subst h2
      show (May 2 b k → (if (0 : Int) < (k : Int) - (b : Int) then none else some (c + 0)) = some c) ∧ (¬ May 2 b k → (if (0 : Int) < (k : Int) - (b : Int) then none else some (c + 0)) = none)
      unfold May
      by_cases e : b = k
      · rw [if_neg (by omega), Int.add_zero]
        exact ⟨fun _ => rfl, fun h => absurd (.inr (.inr ⟨rfl, e⟩)) h⟩
      · rw [if_pos (by omega)]
        exact ⟨fun h => by omega, fun _ => rfl⟩
    · have : famL way = none := if_neg h2
      rw [this]
      simp only
      rw [Int.add_zero]
      refine ⟨fun _ => rfl, fun h => ?_⟩
      unfold May at h
      omega
theorem fam_may {ws : List Int} {c : Int} {way b k : Nat} {z : Int} (hway : way < 3) (hb : b < ws.length) (hk : k < ws.length) (h : loafP (famG ws c (famF way) (famL way)) b k = some z) : z = c ∧ May way b k := by
  by_cases m : May way b k
  · rw [(fam_loaf ws c hway hb hk).1 m] at h
    exact ⟨(Option.some.inj h).symm, m⟩
  · rw [(fam_loaf ws c hway hb hk).2 m] at h
    cases h
/-- what the law's own row holds at m -/
structure KRow (way : Nat) (ws ls : List Int) (c : Int) (m : Nat) (v : Int) : Prop where
  none : way < 2 → (∀ k, k < m → rowF ws k = 0) → v = 0
  some : way < 2 → ∀ k0, k0 < m → rowF ws k0 ≠ 0 → (∀ k, k < k0 → rowF ws k = 0) → ∃ b, b < m ∧ (way = 1 → b ≤ k0) ∧ (∀ b', b' < m → (way = 1 → b' ≤ k0) → rowF ls b ≤ rowF ls b') ∧ v = c * sumN (rowF ws) m + rowF ls b
  each : way = 2 → v = c * sumN (rowF ws) m + sumN (fun k => if rowF ws k = 0 then 0 else rowF ls k) m
theorem known_row {ws ls : List Int} {c : Int} {way m : Nat} {v : Int} {row : Nat → Int} (hway : way < 3) (hR : IsRow (famG ws c (famF way) (famL way)) (rowF ls) row ws.length) (hl : ∀ b, 0 ≤ rowF ls b) (N : NonNegW (famG ws c (famF way) (famL way)).days) (hm : m ≤ ws.length) (h : KRow way ws ls c m v) : row m = v := by
  have eN := fam_wantN ws c (famF way) (famL way)
  have eW : wantN (famG ws c (famF way) (famL way)) = rowF ws := funext eN
  have hlen := fam_len ws c (famF way) (famL way)
  by_cases h2 : way = 2
  · rw [h.each h2]
    rw [known_each (c := c) hR (by omega) hl (fun b k z hb hk hz => ?_) (fun k hk => ?_) m hm]
    · rw [eW]
      congr 1
      exact sumN_cong m fun k _ => by unfold litW; rw [eN]
    · obtain ⟨e1, e2⟩ := fam_may hway hb hk hz
      refine ⟨e1, ?_⟩
      unfold May at e2
      omega
    · exact (fam_loaf ws c hway hk hk).1 (by unfold May; omega)
  · by_cases hz : ∀ k, k < m → rowF ws k = 0
    · rw [h.none (by omega) hz]
      exact known_zero hR (by omega) hl N hm fun k hk => by rw [eN]; exact hz k hk
    · have hex : ∃ k, k < m ∧ rowF ws k ≠ 0 := by
        apply Classical.byContradiction
        intro hh
        exact hz fun k hk => Classical.byContradiction fun e => hh ⟨k, hk, e⟩
      obtain ⟨k0, ⟨hk0, hw0⟩, hfirst⟩ := exists_least hex
      have hfirst : ∀ k, k < k0 → rowF ws k = 0 := fun k hk => Classical.byContradiction fun e => hfirst k hk ⟨by omega, e⟩
      obtain ⟨b, hb, hb1, hmin, rfl⟩ := h.some (by omega) k0 hk0 hw0 hfirst
      rw [known_one (c := c) hR (by omega) hl hm (fun b k z hb hk hz => (fam_may hway (by omega) (by omega) hz).1) hk0 (by rw [eN]; exact hw0) hb (fun k hk hw => ?_) (fun b' z hb' hz => ?_), eW]
      · refine (fam_loaf ws c hway (by omega) (by omega)).1 ?_
        unfold May
        by_cases h1 : way = 1
        · rw [eN] at hw
          have : k0 ≤ k := by
            by_cases z : k < k0
            · exact absurd (hfirst k z) hw
            · omega
          have := hb1 h1
          omega
        · omega
      · have := (fam_may hway (by omega) (by omega) hz).2
        refine hmin b' hb' fun h1 => ?_
        unfold May at this
        omega
theorem known_plan {ws ls : List Int} {c : Int} {way : Nat} {v : Int} {row : Nat → Int} {es : List (Nat × Nat)} (hway : way < 2) (hR : IsRow (famG ws c (famF way) (famL way)) (rowF ls) row ws.length) (hl : ∀ b, 0 ≤ rowF ls b) (hpos : ∀ b, b < ws.length → 0 < rowF ls b) (N : NonNegW (famG ws c (famF way) (famL way)).days)
    (h : KRow way ws ls c ws.length v) (hC : CheapI (famG ws c (famF way) (famL way)) (rowF ls) row ws.length 0 es) (hex : ∃ k, k < ws.length ∧ rowF ws k ≠ 0) : ∃ b, b < ws.length ∧ ∀ d, (∃ e ∈ es, e.1 = d) ↔ d = b := by
  have eN := fam_wantN ws c (famF way) (famL way)
  have eW : wantN (famG ws c (famF way) (famL way)) = rowF ws := funext eN
  have hlen := fam_len ws c (famF way) (famL way)
  have hv := known_row (by omega) hR hl N (Nat.le_refl _) h
  obtain ⟨k0, ⟨hk0, hw0⟩, hfirst⟩ := exists_least hex
  have hfirst : ∀ k, k < k0 → rowF ws k = 0 := fun k hk => Classical.byContradiction fun e => hfirst k hk ⟨by omega, e⟩
  obtain ⟨b, hb, hb1, hmin, rfl⟩ := h.some (by omega) k0 hk0 hw0 hfirst
  refine plan_one (b0 := b) (c := c) hC hR (by omega) hl hpos N (fun l e => ?_) (fun b k z hb hk hz => (fam_may (by omega) (by omega) (by omega) hz).1) hk0 (by rw [eN]; exact hw0) (fun b' z hb' hz => ?_) (by rw [eW]; exact hv)
  · have : (famG ws c (famF way) (famL way)).life = none := if_neg (by omega)
    rw [this] at e
    cases e
  · have := (fam_may (by omega) (by omega) (by omega) hz).2
    refine hmin b' hb' fun h1 => ?_
    unfold May at this
    omega
/-- the wanted days among the first ones -/
def wantK (ws : List Int) (i : Nat) : List Nat := (List.range i).filter fun k => decide (0 < rowF ws k)
def natK (n : Nat) : V := .int (n : Int)
theorem wantK_succ (ws : List Int) (i : Nat) : wantK ws (i + 1) = wantK ws i ++ (if 0 < rowF ws i then [i] else []) := by
  unfold wantK
  rw [List.range_succ, List.filter_append]
  congr 1
  by_cases e : 0 < rowF ws i
  · rw [if_pos e]
    exact List.filter_cons_of_pos (decide_eq_true e)
  · rw [if_neg e]
    exact List.filter_cons_of_neg (by simpa using e)
theorem wantK_len (ws : List Int) (i : Nat) : (wantK ws i).length ≤ i := by
  unfold wantK
  refine Nat.le_trans (List.length_filter_le _ _) ?_
  rw [List.length_range]
  exact Nat.le_refl _
theorem mem_wantK {ws : List Int} {i k : Nat} : k ∈ wantK ws i ↔ k < i ∧ 0 < rowF ws k := by
  unfold wantK
  rw [List.mem_filter, List.mem_range, decide_eq_true_eq]
theorem wantK_pw (ws : List Int) (i : Nat) : (wantK ws i).Pairwise (· < ·) := List.pairwise_lt_range.sublist List.filter_sublist
theorem wantK_first {ws : List Int} {i k : Nat} {r : List Nat} (h : wantK ws i = k :: r) : k < i ∧ 0 < rowF ws k ∧ ∀ j, j < k → ¬ 0 < rowF ws j := by
  have h1 := mem_wantK.mp (show k ∈ wantK ws i by rw [h]; exact List.mem_cons_self)
  refine ⟨h1.1, h1.2, fun j hj hw => ?_⟩
  have h2 := mem_wantK.mpr ⟨show j < i by omega, hw⟩
  have h3 := wantK_pw ws i
  rw [h] at h2 h3
  rcases List.mem_cons.mp h2 with e | e
  · omega
  · have := (List.pairwise_cons.mp h3).1 j e
    omega
theorem sum_take_rowF (ns : List Int) {k : Nat} (h : k ≤ ns.length) : (ns.take k).sum = sumN (rowF ns) k := by
  rw [sum_rowF, List.length_take, Nat.min_eq_left h]
  exact sumN_cong k fun i hi => rowF_take hi
theorem wantK_sum (ws : List Int) (L : Nat → Int) (hw : ∀ k, 0 ≤ rowF ws k) (i : Nat) : ((wantK ws i).map L).sum = sumN (fun k => if rowF ws k = 0 then 0 else L k) i := by
  have e : ((wantK ws i).map L).sum = ((wantK ws i).map fun k => if rowF ws k = 0 then 0 else L k).sum := by
    congr 1
    refine List.map_congr_left fun k hk => ?_
    have := (mem_wantK.mp hk).2
    rw [if_neg (by omega)]
  rw [e]
  refine sum_filter i fun k _ hk => ?_
  have := of_decide_eq_false hk
  have := hw k
  rw [if_pos (by omega)]
theorem ints_eq {as bs : List Int} (h : as.length = bs.length) (he : ∀ k, k < as.length → rowF as k = rowF bs k) : as = bs := by
  apply List.ext_getElem h
  intro i h1 h2
  have := he i h1
  unfold rowF at this
  rw [List.getD_eq_getElem?_getD, List.getD_eq_getElem?_getD, List.getElem?_eq_getElem h1, List.getElem?_eq_getElem h2] at this
  exact this
theorem rising_eq {as bs : List Int} (h1 : as.Pairwise (· < ·)) (h2 : bs.Pairwise (· < ·)) (h : ∀ k, k ∈ as ↔ k ∈ bs) : as = bs := by
  have n1 : as.Nodup := by rw [List.nodup_iff_pairwise_ne]; exact h1.imp fun h => by omega
  have n2 : bs.Nodup := by rw [List.nodup_iff_pairwise_ne]; exact h2.imp fun h => by omega
  exact List.Perm.eq_of_pairwise (fun a b _ _ k1 k2 => by omega) h1 h2 ((List.perm_ext_iff_of_nodup n1 n2).mpr h)
/-- != of two lists of the same ints -/
theorem ne_intsK {K : PySem.W.Frag} {H : Hp} {a b : Addr} {ns : List Int} {Q : VK} (h1 : SqL K H a (ns.map V.int)) (h2 : SqL K H b (ns.map V.int)) (q : Q (.bl false) H) : rNeD K (.ref a) (.ref b) H Q := by
  refine ⟨_, _, .lst h1 (dp_ints ns), .lst h2 (dp_ints ns), shaped_ints ns, shaped_ints ns, ?_⟩
  rw [SeqAt.eqv_refl _ (by simp only [PyData.canLay0, lay_ints])]
  exact q
end Bk

namespace Bk
/-! ### day by day, the nearest last day first -/
theorem sumN_swap (F : Nat → Nat → Int) (n : Nat) : ∀ m, sumN (fun j => sumN (fun x => F j x) n) m = sumN (fun x => sumN (fun j => F j x) m) n
  | 0 => (sumN_zero _ fun _ _ => rfl).symm
  | m + 1 => by
    show sumN (fun j => sumN (fun x => F j x) n) m + sumN (fun x => F m x) n = _
    rw [sumN_swap F n m, ← sumN_plus]
    rfl
theorem sumN_mono {f g : Nat → Int} (m : Nat) (h : ∀ k, k < m → f k ≤ g k) : sumN f m ≤ sumN g m := sumN_le m h
theorem sumN_lt {f g : Nat → Int} {m j : Nat} (hj : j < m) (h : ∀ k, k < m → f k ≤ g k) (hl : f j < g j) : sumN f m < sumN g m := by
  have h1 : sumN (fun k => f k + if k = j then g j - f j else 0) m ≤ sumN g m := sumN_le m fun k hk => by
    by_cases e : k = j
    · rw [if_pos e, e]
      omega
    · rw [if_neg e]
      have := h k hk
      omega
  rw [sumN_plus, sumN_one (L := fun _ => g j - f j) _ hj] at h1
  omega
def rm (want : Nat → Int) (S : Nat → Nat → Int) (d j : Nat) : Int := want j - sumN (fun x => S x j) d
theorem rm_succ (want : Nat → Int) (S : Nat → Nat → Int) (d j : Nat) : rm want S (d + 1) j = rm want S d j - S d j := by
  unfold rm
  show want j - (sumN (fun x => S x j) d + S d j) = _
  omega
structure DayP (m : Nat) (e b : Nat → Nat) (d : Nat) (ρ : Int) (rem s : Nat → Int) : Prop where
  lo : ∀ j, j < m → 0 ≤ s j ∧ s j ≤ rem j
  av : ∀ j, j < m → 0 < s j → b j ≤ d ∧ d ≤ e j
  tot : sumN s m ≤ ρ
  ex : ∀ j, j < m → b j ≤ d → d ≤ e j → s j < rem j → sumN s m = ρ ∧ ∀ k, k < m → e j < e k → s k = 0
section
variable {m n t : Nat} {e b : Nat → Nat} {want rho rs : Nat → Int} {S : Nat → Nat → Int}
theorem rm_anti (h : ∀ d, d < t → DayP m e b d (rho d) (rm want S d) (S d)) {j : Nat} (hj : j < m) {c : Nat} : ∀ k, c + k ≤ t → rm want S (c + k) j ≤ rm want S c j
  | 0, _ => Int.le_refl _
  | k + 1, hk => by
    have h1 := rm_anti h hj (c := c) k (by omega)
    have h2 := (h (c + k) (by omega)).lo j hj
    rw [show c + (k + 1) = c + k + 1 by omega, rm_succ]
    omega
theorem rm_nonneg (h : ∀ d, d < t → DayP m e b d (rho d) (rm want S d) (S d)) {j : Nat} (hj : j < m) (hw : 0 ≤ want j) : ∀ d, d ≤ t → 0 ≤ rm want S d j
  | 0, _ => by
    unfold rm
    show 0 ≤ want j - 0
    omega
  | d + 1, hd => by
    have h2 := (h d (by omega)).lo j hj
    rw [rm_succ]
    omega
/-- served on the days of a stretch, of a job -/
def sv (S : Nat → Nat → Int) (f l j n : Nat) : Int := sumN (fun x => if f ≤ x ∧ x ≤ l then S x j else 0) n
theorem edf_true (he : ∀ j, j < m → e j < n) (h : ∀ d, d < n → DayP m e b d (rho d) (rm want S d) (S d)) (ok : ∀ d, d < n → ∀ j, j < m → e j = d → rm want S (d + 1) j ≤ 0) (hr : ∀ d, d < n → rho d ≤ rs d) {f l : Nat} (hl : l < n) : sumN (fun j => if f ≤ b j ∧ e j ≤ l then want j else 0) m ≤ sumN (fun x => if f ≤ x ∧ x ≤ l then rs x else 0) n := by
  have h1 : sumN (fun j => if f ≤ b j ∧ e j ≤ l then want j else 0) m ≤ sumN (fun j => sv S f l j n) m := sumN_le m fun j hj => by
    have hnn : ∀ x, x < n → 0 ≤ (if f ≤ x ∧ x ≤ l then S x j else 0) := fun x hx => by
      have := ((h x hx).lo j hj).1
      split <;> omega
    by_cases c : f ≤ b j ∧ e j ≤ l
    · rw [if_pos c]
      have hej := he j hj
      have h2 := ok (e j) hej j hj rfl
      have h3 : sumN (fun x => S x j) (e j + 1) ≤ sumN (fun x => if f ≤ x ∧ x ≤ l then S x j else 0) (e j + 1) := sumN_le _ fun x hx => by
        by_cases hs : 0 < S x j
        · have := (h x (by omega)).av j hj hs
          rw [if_pos ⟨by omega, by omega⟩]
          exact Int.le_refl _
        · have h0 := ((h x (by omega)).lo j hj).1
          split <;> omega
      have h4 : sumN (fun x => if f ≤ x ∧ x ≤ l then S x j else 0) (e j + 1) ≤ sv S f l j n := sumN_grow (by omega) hnn
      unfold rm at h2
      omega
    · rw [if_neg c]
      exact sumN_nonneg _ hnn
  refine Int.le_trans h1 ?_
  unfold sv
  rw [sumN_swap]
  refine sumN_le n fun x hx => ?_
  by_cases c : f ≤ x ∧ x ≤ l
  · rw [if_pos c]
    have e1 : sumN (fun j => if f ≤ x ∧ x ≤ l then S x j else 0) m = sumN (S x) m := sumN_cong _ fun j _ => if_pos c
    rw [e1]
    have := (h x hx).tot
    have := hr x hx
    omega
  · rw [if_neg c]
    have e1 : sumN (fun j => if f ≤ x ∧ x ≤ l then S x j else 0) m = 0 := sumN_zero _ fun j _ => if_neg c
    rw [e1]
    exact Int.le_refl 0
theorem least_from {G : Nat → Prop} {t : Nat} : ∀ f, f ≤ t → (∀ x, f ≤ x → x ≤ t → G x) → ∃ g, g ≤ t ∧ (∀ x, g ≤ x → x ≤ t → G x) ∧ (g = 0 ∨ ¬ G (g - 1))
  | 0, h0, h => ⟨0, h0, h, .inl rfl⟩
  | f + 1, h0, h => by
    by_cases hg : G f
    · exact least_from f (by omega) fun x h1 h2 => by
        by_cases e : x = f
        · rw [e]
          exact hg
        · exact h x (by omega) h2
    · exact ⟨f + 1, h0, h, .inr hg⟩
theorem edf_false (hbe : ∀ j, j < m → b j ≤ e j) (hw : ∀ j, j < m → 0 ≤ want j) (ht : t < n) (h : ∀ d, d < t + 1 → DayP m e b d (rho d) (rm want S d) (S d)) (ok : ∀ d, d < t → ∀ j, j < m → e j = d → rm want S (d + 1) j ≤ 0) (hr : ∀ d, d < t + 1 → rho d = rs d ∨ rho d = sumN (rm want S d) m) {j0 : Nat} (hj0 : j0 < m) (he0 : e j0 = t) (hf : 0 < rm want S (t + 1) j0) :
    ∃ f, f ≤ t ∧ sumN (fun x => if f ≤ x ∧ x ≤ t then rs x else 0) n < sumN (fun j => if f ≤ b j ∧ e j ≤ t then want j else 0) m := by
  have hGt : sumN (S t) m = rho t ∧ ∀ k, k < m → t < e k → S t k = 0 := by
    have h1 := (h t (by omega)).ex j0 hj0 (by rw [← he0]; exact hbe j0 hj0) (by omega) (by rw [rm_succ] at hf; omega)
    rw [he0] at h1
    exact h1
  obtain ⟨f, hft, hG, hleast⟩ := least_from (G := fun x => sumN (S x) m = rho x ∧ ∀ k, k < m → t < e k → S x k = 0) t (Nat.le_refl t) fun x h1 h2 => by
    have : x = t := by omega
    rw [this]
    exact hGt
  refine ⟨f, hft, ?_⟩
  have nn : ∀ j, j < m → ∀ d, d ≤ t + 1 → 0 ≤ rm want S d j := fun j hj => rm_nonneg h hj (hw j hj)
  have anti : ∀ j, j < m → ∀ c d, c ≤ d → d ≤ t + 1 → rm want S d j ≤ rm want S c j := fun j hj c d h1 h2 => by
    have := rm_anti h hj (c := c) (d - c) (by omega)
    rw [show c + (d - c) = d by omega] at this
    exact this
  -- jobs that could begin ahead of f are served whole by then
  have whole : ∀ j, j < m → e j ≤ t → b j < f → rm want S f j ≤ 0 := fun j hj h1 h2 => by
    by_cases hc : e j < f - 1
    · have := ok (e j) (by omega) j hj rfl
      have := anti j hj (e j + 1) f (by omega) (by omega)
      omega
    · have hday := h (f - 1) (by omega)
      have hlo := hday.lo j hj
      have hs : ¬ S (f - 1) j < rm want S (f - 1) j := fun hlt => by
        obtain ⟨g1, g2⟩ := hday.ex j hj (by omega) (by omega) hlt
        rcases hleast with z | z
        · omega
        · exact z ⟨g1, fun k hk hek => g2 k hk (by omega)⟩
      have := rm_succ want S (f - 1) j
      rw [show f - 1 + 1 = f by omega] at this
      omega
  have h0f : f ≤ b j0 := by
    by_cases c : b j0 < f
    · have h1 := whole j0 hj0 (by omega) c
      have h2 := anti j0 hj0 f (t + 1) (by omega) (by omega)
      omega
    · omega
  -- the rooms of these days are all used
  have room : ∀ x, f ≤ x → x ≤ t → rs x = sumN (S x) m := fun x h1 h2 => by
    obtain ⟨g1, _⟩ := hG x h1 h2
    rcases hr x (by omega) with z | z
    · rw [← z]
      exact g1.symm
    · exfalso
      have hlo := (h x (by omega)).lo
      have : ¬ S x j0 < rm want S x j0 := fun hlt => by
        have := sumN_lt (f := S x) (g := rm want S x) hj0 (fun k hk => (hlo k hk).2) hlt
        omega
      have h3 := anti j0 hj0 (x + 1) (t + 1) (by omega) (by omega)
      rw [rm_succ want S x] at h3
      omega
  have e1 : sumN (fun x => if f ≤ x ∧ x ≤ t then rs x else 0) n = sumN (fun j => sv S f t j n) m := by
    unfold sv
    rw [sumN_swap]
    refine sumN_cong _ fun x hx => ?_
    by_cases c : f ≤ x ∧ x ≤ t
    · rw [if_pos c, room x c.1 c.2]
      exact sumN_cong _ fun j _ => (if_pos c).symm
    · rw [if_neg c]
      exact (sumN_zero _ fun j _ => if_neg c).symm
  rw [e1]
  have inside : ∀ j, j < m → f ≤ b j → e j ≤ t → sv S f t j n ≤ want j - rm want S (t + 1) j := fun j hj h1 h2 => by
    have h3 : sv S f t j n ≤ sumN (fun x => if x < t + 1 then S x j else 0) n := sumN_le _ fun x hx => by
      by_cases c : f ≤ x ∧ x ≤ t
      · rw [if_pos c, if_pos (by omega)]
        exact Int.le_refl _
      · rw [if_neg c]
        by_cases c2 : x < t + 1
        · rw [if_pos c2]
          exact ((h x c2).lo j hj).1
        · rw [if_neg c2]
          exact Int.le_refl _
    have h4 : sumN (fun x => if x < t + 1 then S x j else 0) n = sumN (fun x => S x j) (t + 1) := by
      have hz : ∀ i, (fun i => (fun x => if x < t + 1 then S x j else 0) (t + 1 + i)) i = 0 := fun i => by
        show (if t + 1 + i < t + 1 then S (t + 1 + i) j else 0) = 0
        rw [if_neg (by omega)]
      have h5 := sumN_split (fun x => if x < t + 1 then S x j else 0) (t + 1) (n - (t + 1))
      rw [show t + 1 + (n - (t + 1)) = n by omega, sumN_zero (f := fun i => (fun x => if x < t + 1 then S x j else 0) (t + 1 + i)) _ fun k _ => hz k, Int.add_zero] at h5
      rw [h5]
      exact sumN_cong _ fun x hx => if_pos hx
    unfold rm
    omega
  have each : ∀ j, j < m → sv S f t j n ≤ if f ≤ b j ∧ e j ≤ t then want j else 0 := fun j hj => by
    by_cases c : f ≤ b j ∧ e j ≤ t
    · rw [if_pos c]
      have h1 := inside j hj c.1 c.2
      have h2 := nn j hj (t + 1) (Nat.le_refl _)
      omega
    · rw [if_neg c]
      have : sv S f t j n = 0 := sumN_zero _ fun x hx => by
        by_cases cx : f ≤ x ∧ x ≤ t
        · rw [if_pos cx]
          by_cases ce : t < e j
          · exact (hG x cx.1 cx.2).2 j hj ce
          · have h1 := whole j hj (by omega) (by omega)
            have h2 := anti j hj f x cx.1 (by omega)
            have h3 := (h x (by omega)).lo j hj
            omega
        · exact if_neg cx
      omega
  refine sumN_lt hj0 each ?_
  rw [if_pos ⟨h0f, by omega⟩]
  have h1 := inside j0 hj0 h0f (by omega)
  omega
end
end Bk

namespace Bk
/-! ### one day: jobs in a row, the nearest last day first -/
structure StepI (m : Nat) (e b : Nat → Nat) (d : Nat) (ρ : Int) (rem : Nat → Int) (π : List Nat) (i : Nat) (s : Nat → Int) (r : Int) : Prop where
  tot : r = ρ - sumN s m
  nn : 0 ≤ r
  out : ∀ j, j ∉ π.take i → s j = 0
  lo : ∀ j ∈ π.take i, 0 ≤ s j ∧ s j ≤ rem j ∧ (0 < s j → b j ≤ d ∧ d ≤ e j)
  ex : ∀ j ∈ π.take i, b j ≤ d → d ≤ e j → s j < rem j → r = 0
  ord : ∀ a c j k, π[a]? = some j → π[c]? = some k → a < c → c < i → b j ≤ d → d ≤ e j → s j < rem j → s k = 0
section
variable {m d i j : Nat} {e b : Nat → Nat} {ρ r : Int} {rem s : Nat → Int} {π : List Nat}
theorem StepI.init (h : 0 ≤ ρ) : StepI m e b d ρ rem π 0 (fun _ => 0) ρ :=
  ⟨by rw [sumN_zero m fun _ _ => rfl]; omega, h, (fun _ _ => rfl), (fun j hj => nomatch hj), (fun j hj => nomatch hj), fun a c j k _ _ _ h => absurd h (Nat.not_lt_zero c)⟩
theorem take_mem {k : Nat} (hj : π[i]? = some j) : k ∈ π.take (i + 1) ↔ k ∈ π.take i ∨ k = j := by
  rw [List.take_add_one, hj, List.mem_append]
  show k ∈ π.take i ∨ k ∈ [j] ↔ _
  rw [List.mem_singleton]
theorem take_new (hn : π.Nodup) (hj : π[i]? = some j) : j ∉ π.take i := by
  have h := hn.sublist (List.take_sublist (i + 1) π)
  rw [List.take_add_one, hj, List.nodup_append] at h
  exact fun z => h.2.2 j z j (by simp) rfl
theorem StepI.skip (h : StepI m e b d ρ rem π i s r) (hn : π.Nodup) (hj : π[i]? = some j) (hrem : 0 ≤ rem j) (hav : ¬ (b j ≤ d ∧ d ≤ e j)) : StepI m e b d ρ rem π (i + 1) s r := by
  have hs := h.out j (take_new hn hj)
  refine ⟨h.tot, h.nn, fun k hk => h.out k fun z => hk ((take_mem hj).mpr (.inl z)), fun k hk => ?_, fun k hk h1 h2 h3 => ?_, fun a c x k ha hc hac hci h1 h2 h3 => ?_⟩
  · rcases (take_mem hj).mp hk with z | rfl
    · exact h.lo k z
    · exact ⟨by omega, by omega, fun z => by omega⟩
  · rcases (take_mem hj).mp hk with z | rfl
    · exact h.ex k z h1 h2 h3
    · exact absurd ⟨h1, h2⟩ hav
  · by_cases hc2 : c = i
    · rw [hc2, hj] at hc
      cases hc
      exact hs
    · exact h.ord a c x k ha hc hac (by omega) h1 h2 h3
theorem StepI.take (h : StepI m e b d ρ rem π i s r) (hn : π.Nodup) (hj : π[i]? = some j) (hjm : j < m) (hrem : 0 ≤ rem j) (hav : b j ≤ d ∧ d ≤ e j) {x : Int} (hx : x = if rem j < r then rem j else r) : StepI m e b d ρ rem π (i + 1) (fun k => if k = j then x else s k) (r - x) := by
  have hs := h.out j (take_new hn hj)
  have hnn := h.nn
  have hx0 : 0 ≤ x ∧ x ≤ rem j ∧ x ≤ r ∧ (x < rem j → x = r) := by
    rw [hx]
    split <;> omega
  have hnew : ∀ k, k ∈ π.take i → k ≠ j := fun k hk z => take_new hn hj (z ▸ hk)
  refine ⟨?_, by omega, fun k hk => ?_, fun k hk => ?_, fun k hk h1 h2 h3 => ?_, fun a c y k ha hc hac hci h1 h2 h3 => ?_⟩
  · have e1 : sumN (fun k => if k = j then x else s k) m = sumN (fun k => s k + if k = j then x else 0) m := sumN_cong _ fun k _ => by
      by_cases z : k = j
      · rw [if_pos z, if_pos z, z, hs]
        omega
      · rw [if_neg z, if_neg z]
        omega
    rw [e1, sumN_plus, sumN_one (L := fun _ => x) _ hjm, h.tot]
    omega
  · have z1 : k ≠ j := fun z => hk ((take_mem hj).mpr (.inr z))
    show (if k = j then x else s k) = 0
    rw [if_neg z1]
    exact h.out k fun z => hk ((take_mem hj).mpr (.inl z))
  · show 0 ≤ (if k = j then x else s k) ∧ (if k = j then x else s k) ≤ rem k ∧ (0 < (if k = j then x else s k) → b k ≤ d ∧ d ≤ e k)
    rcases (take_mem hj).mp hk with z | rfl
    · rw [if_neg (hnew k z)]
      exact h.lo k z
    · rw [if_pos rfl]
      exact ⟨by omega, by omega, fun _ => hav⟩
  · have h3 : (if k = j then x else s k) < rem k := h3
    rcases (take_mem hj).mp hk with z | rfl
    · rw [if_neg (hnew k z)] at h3
      have := h.ex k z h1 h2 h3
      omega
    · rw [if_pos rfl] at h3
      omega
  · have h3 : (if y = j then x else s y) < rem y := h3
    show (if k = j then x else s k) = 0
    have hya : y ∈ π.take i := List.mem_of_getElem? (i := a) (by rw [List.getElem?_take, if_pos (by omega)]; exact ha)
    rw [if_neg (hnew y hya)] at h3
    by_cases hc2 : c = i
    · rw [hc2, hj] at hc
      cases hc
      rw [if_pos rfl]
      have := h.ex y hya h1 h2 h3
      omega
    · have hkc : k ∈ π.take i := List.mem_of_getElem? (i := c) (by rw [List.getElem?_take, if_pos (by omega)]; exact hc)
      rw [if_neg (hnew k hkc)]
      exact h.ord a c y k ha hc hac (by omega) h1 h2 h3
theorem StepI.done (h : StepI m e b d ρ rem π π.length s r) (hp : π.Perm (List.range m)) (hs : π.Pairwise fun j k => e j ≤ e k) : DayP m e b d ρ rem s := by
  rw [show π.length = π.length from rfl] at h
  have hm : ∀ j, j ∈ π ↔ j < m := fun j => by rw [hp.mem_iff, List.mem_range]
  have hlo := h.lo
  have hex := h.ex
  rw [List.take_length] at hlo hex
  have htot := h.tot
  have hnn := h.nn
  refine ⟨fun j hj => ⟨(hlo j ((hm j).mpr hj)).1, (hlo j ((hm j).mpr hj)).2.1⟩, fun j hj => (hlo j ((hm j).mpr hj)).2.2, by omega, fun j hj h1 h2 h3 => ⟨?_, fun k hk hek => ?_⟩⟩
  · have := hex j ((hm j).mpr hj) h1 h2 h3
    omega
  · obtain ⟨a, ha, ea⟩ := List.getElem_of_mem ((hm j).mpr hj)
    obtain ⟨c, hc, ec⟩ := List.getElem_of_mem ((hm k).mpr hk)
    have hac : a < c := by
      rcases Nat.lt_trichotomy a c with z | z | z
      · exact z
      · subst z
        rw [ea] at ec
        subst ec
        omega
      · have := List.pairwise_iff_getElem.mp hs c a hc ha z
        rw [ec, ea] at this
        omega
    exact h.ord a c j k (by rw [List.getElem?_eq_getElem ha, ea]) (by rw [List.getElem?_eq_getElem hc, ec]) hac hc h1 h2 h3
end
end Bk

namespace Bk
open PySem PySem.Spec PyProof.Rows L2
/-! ### max(xs, default=d) of a list of ints -/
theorem args_mxd (x d : Value) : argsOk "max" ⟨[x], [(Str.ofString "default", d)]⟩ := by unfold argsOk; kernel_rfl
section
variable {prog : Program} {w : World} {A : Around} {E : Value → Shared → Prop} {s : Shared}
theorem call_kwTree {id : String} {f : Builtin} {xs : List Value} {kw : List (Str × Value)} {Q : Value → Shared → Prop} (h1 : builtinKind id = none) (h2 : plainId id = true) (h3 : entryFor table id = some f) (h4 : argsOk id ⟨xs, kw⟩)
    (go : wpAny (model prog w) A.in1 (f ⟨xs, kw⟩) (fun z t => match z with
      | .done u => (match (Except.ok u : Result) with | .ok (.ret y) => Q y t | .ok _ => False | .error x => E x t)
      | .again c => c.quiet = true ∧ codeAny (model prog w) A c (fun u t => match u with | .ok (.ret y) => Q y t | .ok _ => False | .error x => E x t) t) E s) : wpAny (model prog w) A (call (.builtin id) xs kw) Q E s := by
  refine wpAny_call (codeAny_call_builtin h2 h3 ?_)
  simp only [checkBuiltinCall, h1]
  cases g : Manifest.signature? id with
  | none => exact wpAny_pure go
  | some sg =>
    have h5 : Bind.checkArgs id sg ⟨xs, kw⟩ = pure () := by simpa only [argsOk, g] using h4
    simp only [h5]
    exact wpAny_pure go
variable {R : Result → Shared → Prop} {J : Addr} {fp wr : List Addr} {n : Nat} {P : Nat → Value → Prop} {St : Nat → Heap → Prop} {kw : List (Str × Value)}
theorem mxd_go (W : Walks prog w A.in1 J fp wr n P St) (bt : Nat → Nat → Bool) (cmp : CmpOf prog w A.in1 .Gt P bt) (L : Addr) (nf : L ∉ fp) : ∀ (k j : Nat) (s : Shared) (vb : Value) (c : Nat), n - (j + 1) = k → j + 1 ≤ n → St (j + 1) s.heap → P (argBest bt j) vb →
    s.heap.get? L = some { cls := .type "list", dict := none, data := .seq #[vb, vb] c, slots := #[] } → (∀ y h' tk, P (argBest bt (n - 1)) y → (∀ b o, b ∉ wr → b ≠ L → s.heap.get? b = some o → h'.get? b = some o) → R (.ok (.ret y)) { s with heap := h', toks := tk }) →
    codeAny (model prog w) A (.builtin "max.loop" ⟨[.ref J, .none, .ref L], kw⟩) R s := by
  have nw : L ∉ wr := fun z => nf (W.sub _ z)
  have nm : (toString "max" ++ toString ".loop" : String) = "max.loop" := by decide
  intro k
  induction k with
  | zero =>
    intro j s vb c ek ej es eb eL go
    have en : j + 1 = n := by omega
    refine codeAny_builtin F.entry_max_loop ?_; rw [Around.under_plainId F.plain_max_loop _]
    show wpAny _ A.in1 (seqItems? (.ref L) >>= _) _ _ s; refine wpAny_bind (wpAny_seqItems eL rfl ?_)
    show wpAny _ A.in1 (tryCatch (pyNext (.ref J)) _ >>= _) _ _ s; refine wpAny_bind (wpAny_tryCatch (W.done s _ _ (en ▸ es) fun h' tk kp => ?_))
    have eL' := kp L _ nw eL
    show wpAny _ A.in1 (updateSeq L (fun _ => #[]) >>= _) _ _ _; refine wpAny_bind ?_
    refine wpAny_updateSeq eL' rfl (wpAny_bind (wpAny_letGo (wpAny_pure ?_))); refine go vb _ tk (by rw [← en]; exact eb) fun b o z1 z2 e => (Heap.get?_update_other _ _ (Ne.symm z2)).trans (kp b o z1 e)
  | succ k ih =>
    intro j s vb c ek ej es eb eL go
    have lt : j + 1 < n := by omega
    refine codeAny_builtin F.entry_max_loop ?_; rw [Around.under_plainId F.plain_max_loop _]
    show wpAny _ A.in1 (seqItems? (.ref L) >>= _) _ _ s; refine wpAny_bind (wpAny_seqItems eL rfl ?_)
    show wpAny _ A.in1 (tryCatch (pyNext (.ref J)) _ >>= _) _ _ s; refine wpAny_bind (wpAny_tryCatch (W.item (j + 1) s _ _ lt es fun y h' tk ep es' kp => ?_))
    have eL' := kp L _ nw eL
    show wpAny _ A.in1 (tryCatch (holding [y, y] (richCompare .Gt y vb >>= _)) _ >>= _) _ _ _; refine wpAny_bind (wpAny_tryCatch (wpAny_holding (wpAny_bind (cmp (j + 1) (argBest bt j) y vb _ _ _ ep eb ?_))))
    refine wpAny_bind (wpAny_holding (wpAny_truthy_bool ?_)); refine wpAny_bind (wpAny_letGo (wpAny_pure ?_))
    cases yes : bt (j + 1) (argBest bt j) with
    | true =>
      simp only [if_true]; refine wpAny_bind ?_
      refine wpAny_updateSeq eL' rfl (wpAny_bind (wpAny_letGo ?_)); rw [nm]
      refine wpAny_pure ⟨plainId_quiet F.plain_max_loop _, ih (j + 1) _ y _ (by omega) lt (W.frame _ _ _ es' fun b zb o e => (Heap.get?_update_other _ _ (fun z : L = b => nf (by rw [z]; exact zb))).trans e) (by simp only [argBest, yes, if_true]; exact ep) (Heap.get?_update_self _ eL' rfl) fun y' h2 tk2 ep2 kp2 => ?_⟩
      exact go y' h2 tk2 ep2 fun b o z1 z2 e => kp2 b o z1 z2 ((Heap.get?_update_other _ _ (Ne.symm z2)).trans (kp b o z1 e))
    | false =>
      simp only [Bool.false_eq_true, if_false]; refine wpAny_bind (wpAny_letGo ?_); rw [nm]
      refine wpAny_pure ⟨plainId_quiet F.plain_max_loop _, ih (j + 1) _ vb c (by omega) lt es' (by simp only [argBest, yes, Bool.false_eq_true, if_false]; exact eb) eL' fun y' h2 tk2 ep2 kp2 => ?_⟩
      exact go y' h2 tk2 ep2 fun b o z1 z2 e => kp2 b o z1 z2 (kp b o z1 e)
theorem mxd_first (W : Walks prog w A.in1 J fp wr n P St) (bt : Nat → Nat → Bool) (cmp : CmpOf prog w A.in1 .Gt P bt) (L : Addr) (nf : L ∉ fp) (hn : 0 < n) {s : Shared} {c : Nat} (es : St 0 s.heap) (eL : s.heap.get? L = some { cls := .type "list", dict := none, data := .seq #[] c, slots := #[] })
    (go : ∀ y h' tk, P (argBest bt (n - 1)) y → (∀ b o, b ∉ wr → b ≠ L → s.heap.get? b = some o → h'.get? b = some o) → R (.ok (.ret y)) { s with heap := h', toks := tk }) : codeAny (model prog w) A (.builtin "max.loop" ⟨[.ref J, .none, .ref L], kw⟩) R s := by
  have nw : L ∉ wr := fun z => nf (W.sub _ z)
  have nm : (toString "max" ++ toString ".loop" : String) = "max.loop" := by decide
  refine codeAny_builtin F.entry_max_loop ?_; rw [Around.under_plainId F.plain_max_loop _]
  show wpAny _ A.in1 (seqItems? (.ref L) >>= _) _ _ s; refine wpAny_bind (wpAny_seqItems eL rfl ?_)
  show wpAny _ A.in1 (tryCatch (pyNext (.ref J)) _ >>= _) _ _ s; refine wpAny_bind (wpAny_tryCatch (W.item 0 s _ _ hn es fun y h' tk ep es' kp => ?_))
  have eL' := kp L _ nw eL
  show wpAny _ A.in1 (updateSeq L (fun _ => #[y, y]) >>= _) _ _ _; refine wpAny_bind ?_
  refine wpAny_updateSeq eL' rfl ?_; rw [nm]
  refine wpAny_pure ⟨plainId_quiet F.plain_max_loop _, mxd_go W bt cmp L nf _ 0 _ y _ rfl hn (W.frame _ _ _ es' fun b zb o e => (Heap.get?_update_other _ _ (fun z : L = b => nf (by rw [z]; exact zb))).trans e) ep (Heap.get?_update_self _ eL' rfl) fun y' h2 tk2 ep2 kp2 => ?_⟩
  exact go y' h2 tk2 ep2 fun b o z1 z2 e => kp2 b o z1 z2 ((Heap.get?_update_other _ _ (Ne.symm z2)).trans (kp b o z1 e))
theorem mxd_none {d : Value} (W : Walks prog w A.in1 J fp wr 0 P St) (L : Addr) (nf : L ∉ fp) {s : Shared} {c : Nat} (es : St 0 s.heap) (eL : s.heap.get? L = some { cls := .type "list", dict := none, data := .seq #[] c, slots := #[] })
    (go : ∀ h' tk, (∀ b o, b ∉ wr → s.heap.get? b = some o → h'.get? b = some o) → R (.ok (.ret d)) { s with heap := h', toks := tk }) : codeAny (model prog w) A (.builtin "max.loop" ⟨[.ref J, .none, .ref L], [(Str.ofString "default", d)]⟩) R s := by
  refine codeAny_builtin F.entry_max_loop ?_; rw [Around.under_plainId F.plain_max_loop _]
  show wpAny _ A.in1 (seqItems? (.ref L) >>= _) _ _ s; refine wpAny_bind (wpAny_seqItems eL rfl ?_)
  show wpAny _ A.in1 (tryCatch (pyNext (.ref J)) _ >>= _) _ _ s; refine wpAny_bind (wpAny_tryCatch (W.done s _ _ es fun h' tk kp => ?_))
  show wpAny _ A.in1 (rule _ >>= _) _ _ _
  exact wpAny_bind (wpAny_rule (wpAny_pure (go h' tk kp)))
theorem mxd_ints {l : Addr} {xs : Array (Int × Tok)} {d : Value} {Q : Value → Shared → Prop} (hh : A.handled = none) (hl : s.heap.IsList l (intItems xs))
    (h0 : xs.size = 0 → ∀ h' tk, (∀ b o, s.heap.get? b = some o → h'.get? b = some o) → Q d { s with heap := h', toks := tk })
    (h1 : 0 < xs.size → ∀ v h' tk, (intItems xs)[argBest (fun i j => decide (numAt xs i > numAt xs j)) (xs.size - 1)]? = some v → (∀ b o, s.heap.get? b = some o → h'.get? b = some o) → Q v { s with heap := h', toks := tk }) :
    wpAny (model prog w) A (call (.builtin "max") [.ref l] [(Str.ofString "default", d)]) Q E s := by
  have nm : (toString "max" ++ toString ".loop" : String) = "max.loop" := by decide
  refine call_kwTree F.kind_max F.plain_max F.entry_max (args_mxd _ _) ?_
  show wpAny _ A.in1 (Builtin.Builtins.bindParams "max" ["key", "default"] 0 ⟨[], [(Str.ofString "default", d)]⟩ >>= _) _ _ s
  refine wpAny_bind (wpAny_of_eq (show Builtin.Builtins.bindParams "max" ["key", "default"] 0 ⟨[], [(Str.ofString "default", d)]⟩ = pure [none, some d] from rfl) ?_)
  refine wpAny_bind (wpAny_pure ?_)
  refine wpAny_bind (iter_intList hl fun s2 e st hfp hlI => ?_)
  subst e
  refine wpAny_bind (wpAny_newObj_type ?_)
  have nf : (s.heap.push { cls := .type "list_iterator", data := .fields #[.ref l, .int 0 0] }).objs.size ∉ [s.heap.objs.size, l] := fun hm => Nat.lt_irrefl _ (hfp _ hm)
  have W := Walks.list (prog := prog) (w := w) (A := A.in1) hh _ l hlI (intItems xs)
  rw [nm]
  by_cases hz : xs.size = 0
  · have hz' : (intItems xs).size = 0 := by simpa [intItems] using hz
    rw [hz'] at W
    refine wpAny_pure ⟨plainId_quiet F.plain_max_loop _, mxd_none W _ nf (W.frame _ _ _ st fun b _ o e => Heap.get?_push_of_some _ e) (Heap.get?_push_size _ rfl) fun h' tk kp => ?_⟩
    exact h0 hz h' tk (old_kept fun b o zb e => kp b o zb (Heap.get?_push_of_some _ e))
  · have hp : 0 < xs.size := Nat.pos_of_ne_zero hz
    refine wpAny_pure ⟨plainId_quiet F.plain_max_loop _, mxd_first W _ (CmpOf.ints_gt (numAt xs) (fun _ _ => intItems_at)) _ nf (by simpa [intItems] using hp) (W.frame _ _ _ st fun b _ o e => Heap.get?_push_of_some _ e) (Heap.get?_push_size _ rfl) fun v h' tk ep kp => ?_⟩
    exact h1 hp v h' tk (by simpa [intItems] using ep) (old_kept fun b o zb e => kp b o zb (Nat.ne_of_lt (Heap.lt_size e)) (Heap.get?_push_of_some _ e))
end
def rMaxD (K : PySem.W.Frag) : List V → List V → Hp → VK → Prop := fun vs zs H Q => ∃ (a : Addr) (ns : List Int) (d : Int), vs = [V.ref a] ∧ zs = [V.int d] ∧ SqL K H a (ns.map V.int) ∧ (ns = [] → Q (.int d) H) ∧ ∀ m, m ∈ ns → (∀ y, y ∈ ns → y ≤ m) → Q (.int m) H
theorem cr_maxDef {X : Cx} (hc : X.calm = true) : CallRK X (.builtin "max") [Str.ofString "default"] (rMaxD X.K) := by
  intro pins s σ H vs zs us ws Q I r rz h
  obtain ⟨a, ns, d, rfl, rfl, hs, q0, q1⟩ := h
  obtain rfl := Vals.ref1 r
  obtain ⟨its, rv, hl, hz⟩ := I.list hs
  have hi := rv.ints
  cases rz with
  | cons rd rr =>
  cases rr
  obtain ⟨t, rfl⟩ := rd
  have hl := hl.isList
  obtain ⟨xs, e⟩ := hi.allInts.items
  have hn : numsOf (intItems xs).toList = ns := by rw [← e]; exact hi.numsOf
  rw [nums_intItems] at hn
  subst hn
  rw [e] at hl
  refine mxd_ints (I.ok.hd hc) hl (fun h0 h' tk hk => ⟨.int d, H, I.kept hk, ⟨_, rfl⟩, q0 ?_⟩) (fun h0 v h' tk hv hk => ?_)
  · have : xs = #[] := Array.eq_empty_of_size_eq_zero h0
    subst this
    rfl
  · obtain ⟨t, rfl⟩ := intItems_at hv
    obtain ⟨g1, g2⟩ := argBest_gt (numAt xs) (xs.size - 1)
    refine ⟨.int _, H, I.kept hk, ⟨_, rfl⟩, q1 _ ?_ fun y hy => ?_⟩
    · rw [numAt_eq]
      exact PySem.getD_mem (by rw [List.length_map, Array.length_toList]; omega)
    · obtain ⟨j, hj, rfl⟩ := mem_getD hy
      rw [List.length_map, Array.length_toList] at hj
      rw [← numAt_eq]
      exact g2 j (by omega)
theorem rMaxD_r {K : PySem.W.Frag} {a : Addr} {d : Int} {H : Hp} {Q : VK} : rMaxD K [.ref a] [.int d] H Q = ∃ ns : List Int, SqL K H a (ns.map V.int) ∧ (ns = [] → Q (.int d) H) ∧ ∀ m, m ∈ ns → (∀ y, y ∈ ns → y ≤ m) → Q (.int m) H :=
  propext ⟨fun ⟨_, ns, _, e1, e2, h⟩ => by cases e1; cases e2; exact ⟨ns, h⟩, fun ⟨ns, h⟩ => ⟨a, ns, d, rfl, rfl, h⟩⟩
theorem rSortedI_r {K : PySem.W.Frag} {a : Addr} {H : Hp} {Q : VK} : rSortedI K [.ref a] H Q = ∃ ns : List Int, SqL K H a (ns.map V.int) ∧ ∀ (ns' : List Int) (p : Addr), ns'.Perm ns → ns'.Pairwise (· ≤ ·) → H p = none → Q (.ref p) (upd H p (.lst (ns'.map V.int))) :=
  propext ⟨fun ⟨_, ns, e, h⟩ => by cases e; exact ⟨ns, h⟩, fun ⟨ns, h⟩ => ⟨a, ns, rfl, h⟩⟩
end Bk

namespace Bk
open PySem PySem.Spec PyProof.Rows L2
/-! ### chains of last lit days -/
def Down (os : List (Option Nat)) : Prop := ∀ (j d : Nat), os[j]? = some (some d) → d < j
def chainN (os : List (Option Nat)) : Nat → Nat → List Nat
  | 0, j => [j]
  | f + 1, j => j :: (match os[j]? with | some (some d) => chainN os f d | _ => [])
def chain (os : List (Option Nat)) (j : Nat) : List Nat := chainN os j j
section
variable {os : List (Option Nat)}
theorem chainN_zero (h : Down os) (f : Nat) : chainN os f 0 = [0] := by
  cases f with
  | zero => rfl
  | succ f =>
    unfold chainN
    split
    · rename_i d e
      have := h 0 d e
      omega
    · rfl
theorem chainN_fuel (h : Down os) : ∀ f g j, j ≤ f → j ≤ g → chainN os f j = chainN os g j
  | 0, g, j, h1, _ => by
    have : j = 0 := by omega
    subst this
    rw [chainN_zero h, chainN_zero h]
  | f + 1, 0, j, _, h2 => by
    have : j = 0 := by omega
    subst this
    rw [chainN_zero h, chainN_zero h]
  | f + 1, g + 1, j, h1, h2 => by
    unfold chainN
    split
    · rename_i d e
      have := h j d e
      rw [chainN_fuel h f g d (by omega) (by omega)]
    · rfl
theorem chain_some (h : Down os) {j d : Nat} (e : os[j]? = some (some d)) : chain os j = j :: chain os d := by
  have hd := h j d e
  unfold chain
  cases j with
  | zero => omega
  | succ j =>
    conv => lhs; unfold chainN
    rw [e]
    simp only
    rw [chainN_fuel h j d d (by omega) (Nat.le_refl _)]
theorem chain_none {j : Nat} (e : ∀ d, os[j]? ≠ some (some d)) : chain os j = [j] := by
  unfold chain
  cases j with
  | zero => rfl
  | succ j =>
    unfold chainN
    split
    · rename_i d z
      exact absurd z (e d)
    · rfl
theorem chain_cases (h : Down os) (j : Nat) : (∃ d, os[j]? = some (some d) ∧ d < j ∧ chain os j = j :: chain os d) ∨ ((∀ d, os[j]? ≠ some (some d)) ∧ chain os j = [j]) := by
  by_cases e : ∃ d, os[j]? = some (some d)
  · obtain ⟨d, e⟩ := e
    exact .inl ⟨d, e, h j d e, chain_some h e⟩
  · exact .inr ⟨fun d z => e ⟨d, z⟩, chain_none fun d z => e ⟨d, z⟩⟩
theorem chain_le (h : Down os) : ∀ (n j : Nat), j ≤ n → ∀ m ∈ chain os j, m ≤ j := by
  intro n
  induction n with
  | zero =>
    intro j hj m hm
    have : j = 0 := by omega
    subst this
    rw [show chain os 0 = [0] from rfl] at hm
    rw [List.mem_singleton.mp hm]
    exact Nat.le_refl _
  | succ n ih =>
    intro j hj m hm
    rcases chain_cases h j with ⟨d, e, hd, ec⟩ | ⟨_, ec⟩
    · rw [ec] at hm
      rcases List.mem_cons.mp hm with z | z
      · omega
      · have := ih d (by omega) m z
        omega
    · rw [ec] at hm
      rw [List.mem_singleton.mp hm]
      exact Nat.le_refl _
theorem chain_self (j : Nat) : j ∈ chain os j := by
  unfold chain
  cases j with
  | zero => exact List.mem_singleton.mpr rfl
  | succ j => unfold chainN; exact List.mem_cons_self
theorem chain_suffix (h : Down os) : ∀ (n j m : Nat), j ≤ n → m ∈ chain os j → ∃ pre, chain os j = pre ++ chain os m := by
  intro n
  induction n with
  | zero =>
    intro j m hj hm
    have : j = 0 := by omega
    subst this
    rw [show chain os 0 = [0] from rfl] at hm
    rw [List.mem_singleton.mp hm]
    exact ⟨[], rfl⟩
  | succ n ih =>
    intro j m hj hm
    rcases chain_cases h j with ⟨d, e, hd, ec⟩ | ⟨_, ec⟩
    · rw [ec] at hm
      rcases List.mem_cons.mp hm with z | z
      · rw [z]
        exact ⟨[], rfl⟩
      · obtain ⟨pre, ep⟩ := ih d m (by omega) z
        exact ⟨j :: pre, by rw [ec, ep]; rfl⟩
    · rw [ec] at hm
      rw [List.mem_singleton.mp hm]
      exact ⟨[], rfl⟩
theorem chain_desc (h : Down os) : ∀ (n j : Nat), j ≤ n → (chain os j).Pairwise (· > ·) := by
  intro n
  induction n with
  | zero =>
    intro j hj
    have : j = 0 := by omega
    subst this
    exact List.pairwise_singleton _ _
  | succ n ih =>
    intro j hj
    rcases chain_cases h j with ⟨d, e, hd, ec⟩ | ⟨_, ec⟩
    · rw [ec]
      refine List.Pairwise.cons (fun m hm => ?_) (ih d (by omega))
      have := chain_le h d d (Nat.le_refl _) m hm
      show m < j
      omega
    · rw [ec]
      exact List.pairwise_singleton _ _
theorem chain_both (h : Down os) {j m m' : Nat} (hm : m ∈ chain os j) (hm' : m' ∈ chain os j) (hle : m ≤ m') : m ∈ chain os m' := by
  obtain ⟨pre, ep⟩ := chain_suffix h j j m' (Nat.le_refl _) hm'
  have hd := chain_desc h j j (Nat.le_refl _)
  rw [ep] at hm hd
  rcases List.mem_append.mp hm with z | z
  · have := (List.pairwise_append.mp hd).2.2 m z m' (chain_self m')
    omega
  · exact z
theorem chain_trans (h : Down os) {j m k : Nat} (hm : m ∈ chain os j) (hk : k ∈ chain os m) : k ∈ chain os j := by
  obtain ⟨pre, ep⟩ := chain_suffix h j j m (Nat.le_refl _) hm
  rw [ep]
  exact List.mem_append_right _ hk
/-- in the chains of all numbers from the last lit day on -/
def SharedM (os : List (Option Nat)) (n m : Nat) : Prop := ∃ l, os[n]? = some (some l) ∧ ∀ k, l ≤ k → k < n → m ∈ chain os k
structure IsMany (os : List (Option Nat)) (n m : Nat) : Prop where
  most : ∀ m', SharedM os n m' → m' ≤ m
  at_ : m = 0 ∨ SharedM os n m
theorem IsMany.uniq {n m m' : Nat} (h : IsMany os n m) (h' : IsMany os n m') : m = m' := by
  rcases h.at_ with e | e <;> rcases h'.at_ with e' | e'
  · omega
  · have := h.most m' e'
    omega
  · have := h'.most m e
    omega
  · have := h.most m' e'
    have := h'.most m e
    omega
theorem isMany_none {n : Nat} (e : os[n]? = some none) : IsMany os n 0 := ⟨fun m' ⟨l, z, _⟩ => absurd (e.symm.trans z) (by simp), .inl rfl⟩
def litOf (os : List (Option Nat)) (m : Nat) : List Nat := (chain os m).tail.reverse
theorem chain_head (j : Nat) : chain os j = j :: (chain os j).tail := by
  unfold chain
  cases j with
  | zero => rfl
  | succ j => unfold chainN; rfl
theorem litOf_rise (h : Down os) (m : Nat) : (litOf os m).Pairwise (· < ·) := by
  unfold litOf
  rw [List.pairwise_reverse]
  have := chain_desc h m m (Nat.le_refl _)
  rw [chain_head] at this
  exact (List.pairwise_cons.mp this).2
/-- what the first numbers' chains are -/
theorem chain_take (h : Down os) {n : Nat} : ∀ (f j : Nat), j ≤ n → chainN (os.take (n + 1)) f j = chainN os f j
  | 0, _, _ => rfl
  | f + 1, j, hj => by
    unfold chainN
    rw [List.getElem?_take_of_lt (by omega)]
    split
    · rename_i d e
      have := h j d e
      rw [chain_take h f d (by omega)]
    · rfl
theorem shared_take (h : Down os) {n m : Nat} : SharedM (os.take (n + 1)) n m ↔ SharedM os n m := by
  unfold SharedM
  rw [List.getElem?_take_of_lt (by omega)]
  have e : ∀ k, k < n → chain (os.take (n + 1)) k = chain os k := fun k hk => chain_take h k k (by omega)
  constructor
  · rintro ⟨l, h1, h2⟩
    exact ⟨l, h1, fun k a b => by rw [← e k b]; exact h2 k a b⟩
  · rintro ⟨l, h1, h2⟩
    exact ⟨l, h1, fun k a b => by rw [e k b]; exact h2 k a b⟩
theorem isMany_take (h : Down os) {n m : Nat} : IsMany (os.take (n + 1)) n m ↔ IsMany os n m :=
  ⟨fun z => ⟨fun m' s => z.most m' ((shared_take h).mpr s), z.at_.imp_right fun s => (shared_take h).mp s⟩, fun z => ⟨fun m' s => z.most m' ((shared_take h).mp s), z.at_.imp_right fun s => (shared_take h).mpr s⟩⟩
theorem down_take (h : Down os) (n : Nat) : Down (os.take n) := fun j d e => by
  by_cases hj : j < n
  · rw [List.getElem?_take_of_lt hj] at e
    exact h j d e
  · rw [List.getElem?_eq_none (by rw [List.length_take]; omega)] at e
    cases e
/-- a day more: what is settled stays settled -/
theorem shared_more (h : Down os) {n m l l' : Nat} (e : os[n]? = some (some l)) (e' : os[n + 1]? = some (some l')) (hl : l ≤ l') (hs : SharedM os n m) : SharedM os (n + 1) m := by
  obtain ⟨l2, e2, hk⟩ := hs
  rw [e] at e2
  cases e2
  refine ⟨l', e', fun k h1 h2 => ?_⟩
  by_cases hkn : k = n
  · subst hkn
    rw [chain_some h e]
    exact List.mem_cons_of_mem _ (hk l (Nat.le_refl _) (h k l e))
  · exact hk k (by omega) (by omega)
theorem lit_prefix (h : Down os) {m m' : Nat} (hm : m ∈ chain os m') : ∃ r, litOf os m' = litOf os m ++ r := by
  obtain ⟨pre, ep⟩ := chain_suffix h m' m' m (Nat.le_refl _) hm
  unfold litOf
  rw [ep]
  cases pre with
  | nil => exact ⟨[], by rw [List.nil_append, List.append_nil]⟩
  | cons x r =>
    rw [List.cons_append, List.tail_cons, List.reverse_append]
    rw [chain_head m, List.reverse_cons, List.tail_cons, List.append_assoc]
    exact ⟨_, rfl⟩
theorem many_more (h : Down os) {n m m' l l' : Nat} (e : os[n]? = some (some l)) (e' : os[n + 1]? = some (some l')) (hl : l ≤ l') (h1 : IsMany os n m) (h2 : IsMany os (n + 1) m') : m ≤ m' ∧ ∃ r, litOf os m' = litOf os m ++ r := by
  rcases h1.at_ with z | hs
  · subst z
    exact ⟨Nat.zero_le _, _, rfl⟩
  · have hs' := shared_more h e e' hl hs
    have hle := h2.most m hs'
    refine ⟨hle, ?_⟩
    rcases h2.at_ with z | hs2
    · have : m = m' := by omega
      subst this
      exact ⟨[], by rw [List.append_nil]⟩
    · obtain ⟨l3, e3, k3⟩ := hs'
      obtain ⟨l4, e4, k4⟩ := hs2
      rw [e'] at e3 e4
      cases e3
      cases e4
      exact lit_prefix h (chain_both h (k3 l' (Nat.le_refl _) (h _ _ e')) (k4 l' (Nat.le_refl _) (h _ _ e')) hle)
theorem chain_len (h : Down os) : ∀ j, (chain os j).length ≤ j + 1 := by
  suffices ∀ n j, j ≤ n → (chain os j).length ≤ j + 1 from fun j => this j j (Nat.le_refl _)
  intro n
  induction n with
  | zero =>
    intro j hj
    have : j = 0 := by omega
    subst this
    exact Nat.le_refl _
  | succ n ih =>
    intro j hj
    rcases chain_cases h j with ⟨d, e, hd, ec⟩ | ⟨_, ec⟩
    · rw [ec, List.length_cons]
      have := ih d (by omega)
      omega
    · rw [ec]
      show 1 ≤ j + 1
      omega
theorem chain_lt (h : Down os) {j m : Nat} (hj : j < os.length) (hm : m ∈ chain os j) : m < os.length := by
  have := chain_le h j j (Nat.le_refl _) m hm
  omega
end
theorem Lasts.down {g : Good} {ls : List Int} {os : List (Option Nat)} (h : Lasts g ls os) : Down os := fun j d e => by
  obtain ⟨row, h1, h2⟩ := h.row
  exact (h2 j _ e).1.1
def natI (n : Nat) : V := .int (n : Int)
theorem natI_map (l : List Nat) : l.map natI = (l.map fun (n : Nat) => (n : Int)).map V.int := by rw [List.map_map]; rfl
end Bk

namespace Bk
open PySem PySem.Spec PyProof.Rows L2
/-! ### dict(pairs), walks over a dict that is locked -/
def rDictP (K : PySem.W.Frag) : List V → Hp → VK → Prop := fun xs H Q => ∃ (a : Addr) (ps : List Addr) (kvs : List (Key × V)), xs = [.ref a] ∧ SqL K H a (ps.map V.ref) ∧ Paired (fun p kv => SqT K H p [kV kv.1, kv.2]) ps kvs ∧ ∀ p, H p = none → Q (.ref p) (upd H p (.dK (mergeK [] kvs)))
theorem call_dictPn {X : Cx} (hc : X.calm = true) : CallR X (.type "dict") (rDictP X.K) := call_dictP hc
theorem rDictP_r {K : PySem.W.Frag} {a : Addr} {H : Hp} {Q : VK} : rDictP K [.ref a] H Q = ∃ (ps : List Addr) (kvs : List (Key × V)), SqL K H a (ps.map V.ref) ∧ Paired (fun p kv => SqT K H p [kV kv.1, kv.2]) ps kvs ∧ ∀ p, H p = none → Q (.ref p) (upd H p (.dK (mergeK [] kvs))) :=
  propext ⟨fun ⟨_, ps, kvs, e, h⟩ => by cases e; exact ⟨ps, kvs, h⟩, fun ⟨ps, kvs, h⟩ => ⟨a, ps, kvs, rfl, h⟩⟩
theorem lock_same {H H' : Hp} {d : Addr} {u : HO} {od : Obj} (hd : H d = some u) (s : Same (upd H d (.frz od u)) H') : Same H (upd H' d u) := fun b o e => by
  by_cases z : b = d
  · subst z
    rw [upd_same, ← e, hd]
  · rw [upd_ne z]
    refine s b o ?_
    rw [upd_ne z]
    exact e
/-- a dict whose keys are just these days -/
structure DictN (H : Hp) (p : Addr) (ns : List Nat) : Prop where
  ex : ∃ kvs : List (Key × V), H p = some (.dK kvs) ∧ kvs.map (·.1) = keyN ns
theorem DictN.same {H H' : Hp} {p : Addr} {ns : List Nat} (h : DictN H p ns) (s : Same H H') : DictN H' p ns := by
  obtain ⟨kvs, e, k⟩ := h.ex
  exact ⟨kvs, s _ _ e, k⟩
theorem addN_le (ns : List Nat) (n : Nat) : (addN ns n).length ≤ ns.length + 1 := by
  unfold addN
  split
  · omega
  · rw [List.length_append, List.length_singleton]
    omega
theorem mergeK_keys : ∀ (more : List (Key × V)) (kvs : List (Key × V)) (ns ms : List Nat), kvs.map (·.1) = keyN ns → more.map (·.1) = keyN ms → ∃ rs, (mergeK kvs more).map (·.1) = keyN rs ∧ rs.length ≤ ns.length + ms.length ∧ ∀ m, m ∈ rs ↔ m ∈ ns ∨ m ∈ ms
  | [], kvs, ns, ms, h1, h2 => by
    cases ms with
    | nil => exact ⟨ns, h1, Nat.le_refl _, fun m => ⟨.inl, fun z => z.elim id fun y => (by cases y)⟩⟩
    | cons x r => cases h2
  | kv :: more, kvs, ns, ms, h1, h2 => by
    cases ms with
    | nil => cases h2
    | cons x r =>
      have e1 : kv.1 = Sum.inl ((x : Nat) : Int) := (List.cons.inj h2).1
      have e2 : more.map (·.1) = keyN r := (List.cons.inj h2).2
      obtain ⟨rs, h3, h5, h4⟩ := mergeK_keys more (putK kvs kv.1 kv.2) (addN ns x) r (by rw [e1]; exact keyN_put h1) e2
      have h6 := addN_le ns x
      refine ⟨rs, h3, by rw [List.length_cons]; omega, fun m => ?_⟩
      rw [h4, addN_mem, List.mem_cons, or_assoc]
theorem valV_some {kvs : List (Key × V)} {ns : List Nat} {n : Nat} (h : kvs.map (·.1) = keyN ns) : (valV kvs (Sum.inl (n : Int))).isSome = decide (n ∈ ns) := by
  apply Bool.eq_iff_iff.mpr
  rw [decide_eq_true_iff, ← keyN_mem, ← h]
  unfold valV
  rw [Option.isSome_map, List.find?_isSome, List.mem_map]
  constructor
  · rintro ⟨kv, h1, h2⟩
    exact ⟨kv, h1, of_decide_eq_true h2⟩
  · rintro ⟨kv, h1, h2⟩
    exact ⟨kv, h1, decide_eq_true h2⟩
theorem keyN_at {kvs : List (Key × V)} {ns : List Nat} {i : Nat} {k : Key} {v : V} (h : kvs.map (·.1) = keyN ns) (e : kvs[i]? = some (k, v)) : ∃ n, ns[i]? = some n ∧ k = Sum.inl (n : Int) := by
  have h1 : (kvs.map (·.1))[i]? = some k := by rw [List.getElem?_map, e]; rfl
  rw [h] at h1
  unfold keyN at h1
  rw [List.getElem?_map] at h1
  cases hn : ns[i]? with
  | none => rw [hn] at h1; cases h1
  | some n =>
    rw [hn] at h1
    exact ⟨n, rfl, (Option.some.inj h1).symm⟩
theorem keyN_len {kvs : List (Key × V)} {ns : List Nat} (h : kvs.map (·.1) = keyN ns) : kvs.length = ns.length := by
  have := congrArg List.length h
  unfold keyN at this
  rw [List.length_map, List.length_map] at this
  exact this
end Bk

namespace Bk
open PySem PySem.Spec PyProof.Rows L2
/-! ### d == {}, and dicts of days with whole numbers -/
def rEqDE : R2 := fun x y H Q => ∃ a b ks, x = .ref a ∧ y = .ref b ∧ H a = some (.dK ks) ∧ H b = some (.dK []) ∧ Q (.bl (decide (ks.length = 0))) H
theorem op_eqDE {X : Cx} (hu : X.A.units < cLine) : OpR X (compareOp .Eq) rEqDE := by
  intro pins s σ H x y v u Q I rx ry h
  obtain ⟨a, b, ks, rfl, rfl, ea, eb, q⟩ := h
  obtain rfl : v = Value.ref a := rx
  obtain rfl : u = Value.ref b := ry
  obtain ⟨_, ya, va, ra, da⟩ := (show ObjOk X.prog X.w H s.heap a (.dK ks) from I.hok a _ ea)
  obtain ⟨_, yb, vb, rb, db⟩ := (show ObjOk X.prog X.w H s.heap b (.dK []) from I.hok b _ eb)
  have h1 := ra.length
  have h2 := rb.length
  have h2 : vb.length = 0 := h2.symm
  refine PySem.W.keq_eq (knd := mixKind X.prog X.w) (r := true) ya yb da db hu (fun hl => hits_all rb ra ?_) (fin_bl I q ?_)
  · intro p hp
    have hl : va.length = vb.length := by simpa using hl
    have e : ks = [] := List.length_eq_zero_iff.mp (by omega)
    rw [e] at hp
    cases hp
  · rw [h2, ← h1]
    simp
    cases ks <;> simp
theorem rEqDE_r {a b : Addr} {H : Hp} {Q : VK} : rEqDE (.ref a) (.ref b) H Q = ∃ ks, H a = some (.dK ks) ∧ H b = some (.dK []) ∧ Q (.bl (decide (ks.length = 0))) H := propext ⟨fun ⟨_, _, ks, e1, e2, h⟩ => by cases e1; cases e2; exact ⟨ks, h⟩, fun ⟨ks, h⟩ => ⟨a, b, ks, rfl, rfl, h⟩⟩
def mkE (es : List (Nat × Int)) : List (Key × V) := es.map fun e => (Sum.inl ((e.1 : Nat) : Int), V.int e.2)
def putE (es : List (Nat × Int)) (d : Nat) (v : Int) : List (Nat × Int) := if (es.any fun e => decide (e.1 = d)) = true then es.map (fun e => if e.1 = d then (d, v) else e) else es ++ [(d, v)]
theorem keyE {n d : Nat} : (Sum.inl ((n : Nat) : Int) : Key) = Sum.inl ((d : Nat) : Int) ↔ n = d := ⟨fun h => by injection h with h; omega, fun h => by rw [h]⟩
theorem mkE_put (es : List (Nat × Int)) (d : Nat) (v : Int) : putK (mkE es) (Sum.inl (d : Int)) (.int v) = mkE (putE es d v) := by
  unfold putK putE
  have e : ((mkE es).any fun kv => decide (kv.1 = Sum.inl (d : Int))) = es.any fun e => decide (e.1 = d) := by
    unfold mkE
    rw [List.any_map]
    congr 1
    funext x
    exact decide_eq_decide.mpr keyE
  rw [e]
  by_cases h : (es.any fun e => decide (e.1 = d)) = true
  · rw [if_pos h, if_pos h]
    unfold mkE
    rw [List.map_map, List.map_map]
    congr 1
    funext x
    show (if (Sum.inl ((x.1 : Nat) : Int) : Key) = Sum.inl (d : Int) then _ else _) = _
    by_cases hx : x.1 = d
    · rw [if_pos (keyE.mpr hx)]
      show _ = (Sum.inl (((if x.1 = d then (d, v) else x).1 : Nat) : Int), V.int (if x.1 = d then (d, v) else x).2)
      rw [if_pos hx]
      subst hx
      rfl
    · rw [if_neg (fun z => hx (keyE.mp z))]
      show _ = (Sum.inl (((if x.1 = d then (d, v) else x).1 : Nat) : Int), V.int (if x.1 = d then (d, v) else x).2)
      rw [if_neg hx]
  · rw [if_neg h, if_neg h]
    unfold mkE
    rw [List.map_append]
    rfl
theorem mkE_len (es : List (Nat × Int)) : (mkE es).length = es.length := by unfold mkE; rw [List.length_map]
theorem mkE_vals (es : List (Nat × Int)) : (mkE es).map (·.2) = (es.map (·.2)).map V.int := by unfold mkE; rw [List.map_map, List.map_map]; rfl
def lookE (es : List (Nat × Int)) (d : Nat) : Option Int := (es.find? fun e => decide (e.1 = d)).map (·.2)
theorem mkE_val (es : List (Nat × Int)) (d : Nat) : valV (mkE es) (Sum.inl (d : Int)) = (lookE es d).map V.int := by
  unfold valV lookE
  induction es with
  | nil => rfl
  | cons e r ih =>
    by_cases h : e.1 = d
    · show Option.map _ (List.find? _ ((Sum.inl ((e.1 : Nat) : Int), V.int e.2) :: mkE r)) = _
      rw [List.find?_cons_of_pos (p := fun kv : Key × V => decide (kv.1 = (Sum.inl (d : Int) : Key))) (decide_eq_true (keyE.mpr h)), List.find?_cons_of_pos (p := fun e : Nat × Int => decide (e.1 = d)) (decide_eq_true h)]
      rfl
    · show Option.map _ (List.find? _ ((Sum.inl ((e.1 : Nat) : Int), V.int e.2) :: mkE r)) = _
      rw [List.find?_cons_of_neg (p := fun kv : Key × V => decide (kv.1 = (Sum.inl (d : Int) : Key))) (fun z => h (keyE.mp (of_decide_eq_true z))), List.find?_cons_of_neg (p := fun e : Nat × Int => decide (e.1 = d)) (fun z => h (of_decide_eq_true z))]
      exact ih
theorem lookE_some {es : List (Nat × Int)} {d : Nat} {v : Int} (h : lookE es d = some v) : (d, v) ∈ es := by
  unfold lookE at h
  obtain ⟨e, he, ev⟩ := Option.map_eq_some_iff.mp h
  have h1 := List.find?_some he
  have h2 := List.mem_of_find?_eq_some he
  have h1 : e.1 = d := of_decide_eq_true h1
  rw [← h1, ← ev]
  exact h2
theorem lookE_none {es : List (Nat × Int)} {d : Nat} (h : lookE es d = none) : ∀ v, (d, v) ∉ es := fun v hv => by
  unfold lookE at h
  have h := Option.map_eq_none_iff.mp h
  have := List.find?_eq_none.mp h _ hv
  exact this (decide_eq_true rfl)
theorem lookE_mem {es : List (Nat × Int)} {d : Nat} {v : Int} (hn : (es.map (·.1)).Nodup) (h : (d, v) ∈ es) : lookE es d = some v := by
  induction es with
  | nil => cases h
  | cons e r ih =>
    rw [List.map_cons, List.nodup_cons] at hn
    unfold lookE
    by_cases he : e.1 = d
    · rw [List.find?_cons_of_pos (p := fun e : Nat × Int => decide (e.1 = d)) (decide_eq_true he)]
      rcases List.mem_cons.mp h with h | h
      · rw [← h]; rfl
      · exact absurd (List.mem_map.mpr ⟨_, h, he.symm⟩) hn.1
    · rw [List.find?_cons_of_neg (p := fun e : Nat × Int => decide (e.1 = d)) (fun z => he (of_decide_eq_true z))]
      rcases List.mem_cons.mp h with h | h
      · rw [← h] at he
        exact absurd rfl he
      · exact ih hn.2 h
theorem putE_keys (es : List (Nat × Int)) (d : Nat) (v : Int) : (putE es d v).map (·.1) = addN (es.map (·.1)) d := by
  unfold putE addN
  by_cases h : (es.any fun e => decide (e.1 = d)) = true
  · have hm : d ∈ es.map (·.1) := by
      obtain ⟨e, he, hd⟩ := List.any_eq_true.mp h
      exact List.mem_map.mpr ⟨e, he, of_decide_eq_true hd⟩
    rw [if_pos h, if_pos hm, List.map_map]
    congr 1
    funext x
    show (if x.1 = d then (d, v) else x).1 = x.1
    by_cases hx : x.1 = d
    · rw [if_pos hx, hx]
    · rw [if_neg hx]
  · have hm : d ∉ es.map (·.1) := fun z => by
      obtain ⟨e, he, hd⟩ := List.mem_map.mp z
      exact h (List.any_eq_true.mpr ⟨e, he, decide_eq_true hd⟩)
    rw [if_neg h, if_neg hm, List.map_append]
    rfl
theorem putE_mem {es : List (Nat × Int)} {d d' : Nat} {v v' : Int} (h : (d', v') ∈ putE es d v) : (d' = d ∧ v' = v) ∨ (d' ≠ d ∧ (d', v') ∈ es) := by
  unfold putE at h
  by_cases ha : (es.any fun e => decide (e.1 = d)) = true
  · rw [if_pos ha] at h
    obtain ⟨x, hx, e⟩ := List.mem_map.mp h
    by_cases hd : x.1 = d
    · rw [if_pos hd] at e
      cases e
      exact .inl ⟨rfl, rfl⟩
    · rw [if_neg hd] at e
      subst e
      exact .inr ⟨hd, hx⟩
  · rw [if_neg ha] at h
    rcases List.mem_append.mp h with h | h
    · refine .inr ⟨fun z => ha (List.any_eq_true.mpr ⟨_, h, decide_eq_true z⟩), h⟩
    · cases List.mem_singleton.mp h
      exact .inl ⟨rfl, rfl⟩
theorem putE_own (es : List (Nat × Int)) (d : Nat) (v : Int) : (d, v) ∈ putE es d v := by
  unfold putE
  by_cases ha : (es.any fun e => decide (e.1 = d)) = true
  · rw [if_pos ha]
    obtain ⟨e, he, hd⟩ := List.any_eq_true.mp ha
    exact List.mem_map.mpr ⟨e, he, if_pos (of_decide_eq_true hd)⟩
  · rw [if_neg ha]
    exact List.mem_append.mpr (.inr List.mem_cons_self)
theorem putE_old {es : List (Nat × Int)} {d d' : Nat} {v v' : Int} (h : (d', v') ∈ es) (hd : d' ≠ d) : (d', v') ∈ putE es d v := by
  unfold putE
  by_cases ha : (es.any fun e => decide (e.1 = d)) = true
  · rw [if_pos ha]
    exact List.mem_map.mpr ⟨_, h, if_neg hd⟩
  · rw [if_neg ha]
    exact List.mem_append.mpr (.inl h)
end Bk

namespace Bk
open PySem PySem.Spec PyProof.Rows L2
/-! ### sorted(..) of tuples of whole numbers, of any number: a dict's keys, a list's items -/
def encT (b : Addr × List Int) : PyData := .tuple (b.2.map PyData.int)
theorem leT (p q : Addr × List Int) : PySem.W.dataLe false encT p q = decide (p.2 ≤ q.2) := by
  show (!PySem.W.dataLt (.tuple (q.2.map .int)) (.tuple (p.2.map .int))) = _
  have e : PySem.W.dataLt (.tuple (q.2.map .int)) (.tuple (p.2.map .int)) = PySem.W.rowLt (q.2.map .int) (p.2.map .int) := rfl
  rw [e, PySem.W.dataLt_ints]
  by_cases h : q.2 < p.2
  · rw [decide_eq_true h]
    symm
    exact decide_eq_false fun z => List.not_lt.mpr z h
  · rw [decide_eq_false h]
    symm
    exact decide_eq_true (List.not_lt.mp h)
theorem sortT_perm (L : List (Addr × List Int)) : (L.mergeSort (PySem.W.dataLe false encT)).Perm L := List.mergeSort_perm L _
theorem sortT_sorted (L : List (Addr × List Int)) : (L.mergeSort (PySem.W.dataLe false encT)).Pairwise (fun p q => p.2 ≤ q.2) := by
  have h := List.pairwise_mergeSort (le := PySem.W.dataLe false encT) (fun a b c h1 h2 => by
    rw [leT] at h1 h2 ⊢
    exact decide_eq_true (List.le_trans (of_decide_eq_true h1) (of_decide_eq_true h2))) (fun a b => by
    rw [leT, leT]
    rcases List.le_total a.2 b.2 with h | h
    · rw [decide_eq_true h]; rfl
    · rw [decide_eq_true h, Bool.or_true]) L
  exact h.imp fun {x y} z => by rw [leT] at z; exact of_decide_eq_true z
theorem reads_ints {h : Heap} : ∀ {ns : List Int} {us : List Value}, Vals (ns.map V.int) us → ReadsAll h us (ns.map PyData.int) []
  | [], us, r => by
    cases r
    exact .nil
  | n :: ns, us, r => by
    cases r with
    | cons h1 h2 =>
      obtain ⟨t, rfl⟩ := h1
      exact ReadsAll.cons (.int n t) (reads_ints h2)
/-- a tracked tuple of whole numbers, read -/
theorem reads_tupI {X : Cx} {pins : List (Addr × Obj)} {σ : L2.St} {H : Hp} {s : Shared} (I : Inv X pins σ H s) {a : Addr} {ns : List Int} (h : H a = some (.tup (ns.map V.int))) : Reads s.heap (.ref a) (.tuple (ns.map PyData.int)) [] := by
  obtain ⟨_, its, rv, o, ho, hc, n, hd⟩ := (show ObjOk X.prog X.w H s.heap a (.tup _) from I.hok a _ h)
  exact Reads.tuple ho hc hd (by simpa using reads_ints rv)
theorem alikeT {L : List (Addr × List Int)} : PySem.W.AllAlike (L.map encT) := PySem.W.AllAlike.of fun b b' => by
  show PySem.W.alikeAll _ _ = true
  exact PySem.W.alike_ints b.2 b'.2
theorem sortableT {L : List (Addr × List Int)} (h : ∀ p ∈ L, p.2 ≠ []) : PySem.W.Sortable (L.map encT) := .inl fun d hd => by
  obtain ⟨b, hb, rfl⟩ := List.mem_map.mp hd
  obtain ⟨a, ns⟩ := b
  cases ns with
  | nil => exact absurd rfl (h _ hb)
  | cons x r => exact ⟨.int x, r.map .int, rfl⟩
theorem depthT (b : Addr × List Int) : (encT b).depth = 1 := by
  show PyData.depth (.tuple _) = 1
  rw [PyData.depth, PySem.W.depth_ints]
def rSorDT : List V → Hp → VK → Prop := fun xs H Q => ∃ (a : Addr) (kvs : List (List Key × V)) (ks : List (List Int)), xs = [.ref a] ∧ H a = some (.dT kvs) ∧ kvs.map (·.1) = ks.map (fun k => k.map Sum.inl) ∧ (∀ k ∈ ks, k ≠ []) ∧
  ∀ (L : List (Addr × List Int)) (p : Addr), (L.map (·.2)).Perm ks → L.Pairwise (fun p q => p.2 ≤ q.2) → (∀ q ∈ L, H q.1 = some (.tup (q.2.map V.int))) → H p = none → Q (.ref p) (upd H p (.lst (L.map fun q => V.ref q.1)))
theorem each_refs : ∀ (L : List (Addr × List Int)), PySem.W.EachIs (fun (v : Value) (b : Addr × List Int) => v = .ref b.1) (L.map fun b => Value.ref b.1) L
  | [] => .nil
  | b :: r => .cons rfl (each_refs r)
theorem of_each_refs : ∀ {vs : List Value} {L : List (Addr × List Int)}, PySem.W.EachIs (fun (v : Value) (b : Addr × List Int) => v = .ref b.1) vs L → vs = L.map fun b => Value.ref b.1
  | _, _, .nil => rfl
  | _, _, .cons h t => by rw [List.map_cons, ← of_each_refs t, h]
theorem each_of {R : Value → (Addr × List Int) → Prop} : ∀ (L : List (Addr × List Int)), (∀ b ∈ L, R (.ref b.1) b) → PySem.W.EachIs R (L.map fun b => Value.ref b.1) L
  | [], _ => .nil
  | b :: r, h => .cons (h b List.mem_cons_self) (each_of r fun c hc => h c (List.mem_cons_of_mem _ hc))
theorem keys_int {ks : List Int} : (ks.map Sum.inl : List Key).map kV = ks.map V.int := by
  rw [List.map_map]
  rfl
theorem cr_sorDT {X : Cx} (hc : X.calm = true) (hu : X.A.units + 64 < cLine) : CallR X (.builtin "sorted") rSorDT := by
  intro pins s σ H xs us Q I r q
  obtain ⟨a, kvs, ks, rfl, hd, hks, hne, q⟩ := q
  rw [Vals.ref1 r]
  obtain ⟨z, hs, xs, pr, o, es, ep, ho, hx, hdt, he, hn⟩ := (show ObjOk X.prog X.w H s.heap a (.dT kvs) from I.hok a _ hd)
  have l1 : es.size = xs.length := size_of_entries he
  have l2 : kvs.length = xs.length := Paired.length pr
  -- the keys, each with its address
  have hL : ∃ L : List (Addr × List Int), L.map (·.2) = ks ∧ (xs.map fun x => x.2.1) = L.map (·.1) ∧ ∀ b ∈ L, H b.1 = some (.tup (b.2.map V.int)) := by
    clear he hn l1 l2 hd hne q z
    induction pr generalizing ks with
    | nil =>
      cases ks with
      | nil => exact ⟨[], rfl, rfl, fun b hb => by cases hb⟩
      | cons k r => cases hks
    | cons h t ih =>
      cases ks with
      | nil => cases hks
      | cons k r =>
        rw [List.map_cons, List.map_cons] at hks
        obtain ⟨e1, e2⟩ := List.cons.inj hks
        obtain ⟨L, g1, g2, g3⟩ := ih r e2
        refine ⟨(_, k) :: L, by rw [List.map_cons, g1], by rw [List.map_cons, List.map_cons, g2], fun b hb => ?_⟩
        rcases List.mem_cons.mp hb with e | hb
        · rw [e]
          have h2 := h.2.1
          rw [e1, keys_int] at h2
          exact h2
        · exact g3 b hb
  obtain ⟨L, g1, g2, g3⟩ := hL
  have hlen : L.length = xs.length := by
    have := congrArg List.length g2
    rw [List.length_map, List.length_map] at this
    omega
  refine Calls.call_function_entry PyProof.Rows.kind_sorted PyProof.Rows.plain_sorted PyProof.Rows.entry_sorted (PyProof.Rows.args_sorted1 _) ?_
  unfold Builtin.«sorted»
  refine wpAny_bind (m := checkCount "sorted" 1 1 _) (wpAny_pure ?_)
  refine wpAny_bind (PySem.W.kdu_collect (A := X.A.in1) (kdl_raw hs hx hdt) (I.ok.hd hc) ho (by omega) fun h' tk acc kp hacc => ?_)
  have ea : acc.toList = L.map fun b => Value.ref b.1 := by
    have e0 : (L.map fun b => Value.ref b.1) = xs.map fun x => Value.ref x.2.1 := by
      have := congrArg (List.map Value.ref) g2
      rw [List.map_map, List.map_map] at this
      exact this.symm
    rw [e0]
    have hl : acc.toList.length = xs.length := by rw [Array.length_toList, hacc.1]; exact l1
    apply List.ext_getElem?
    intro j
    rw [List.getElem?_map]
    by_cases hj : j < xs.length
    · obtain ⟨v, hv⟩ : ∃ v, acc.toList[j]? = some v := ⟨_, List.getElem?_eq_getElem (by omega)⟩
      obtain ⟨en, hen, rfl⟩ := hacc.2 j v (by rw [← Array.getElem?_toList]; exact hv)
      have qe := entry_at he j
      rw [hen, List.getElem?_eq_getElem hj] at qe
      rw [hv, List.getElem?_eq_getElem hj]
      cases Option.some.inj qe
      rfl
    · rw [List.getElem?_eq_none (by omega), List.getElem?_eq_none (by omega)]
      rfl
  have I1 : Inv X pins σ H { s with heap := h', toks := tk } := I.kept kp
  rw [ea]
  refine wpAny_bind (wpAny_newList ?_ (by rw [List.length_map]; omega))
  have hoL : (h'.push (seqObj "list" (L.map fun b => Value.ref b.1).toArray 0)).get? h'.objs.size = some (seqObj "list" (L.map fun b => Value.ref b.1).toArray 0) := Heap.get?_push_size _ rfl
  show wpAny _ _ _ _ _ { s with heap := h'.push (seqObj "list" (L.map fun b => Value.ref b.1).toArray 0), toks := tk }
  refine wpAny_bind (wpAny_holding (PySem.W.list_sort_data (s := { s with heap := h'.push (seqObj "list" (L.map fun b => Value.ref b.1).toArray 0), toks := tk }) (enc := encT) (bs := L) hoL (each_refs L) (each_of L fun b hb => ?_) alikeT (sortableT fun p hp => hne _ (by rw [← g1]; exact List.mem_map.mpr ⟨_, hp, rfl⟩)) (by omega) (fun b hb => ?_) fun out hlo hout => ?_))
  · exact ⟨[], PyProof.Rows.Reads.keeps (fun _ _ e => Heap.get?_push_of_some _ e) (reads_tupI I1 (g3 b hb)), by simp⟩
  · rw [depthT]
    show X.A.in1.units + 1 + 1 < cLine
    have : X.A.in1.units = X.A.units + 1 := rfl
    omega
  · have eo := of_each_refs hout
    obtain ⟨e', he'⟩ := PyProof.Rows.sortedHeap_at (vs := L.map fun b => Value.ref b.1) (out := out.toArray) hoL
    refine wpAny_pure ⟨_, rfl, .ref h'.objs.size, upd H h'.objs.size (.lst ((L.mergeSort (PySem.W.dataLe false encT)).map fun q => V.ref q.1)), I1.laid (t' := tk) (fun b u e => ?_) (Nat.le_refl _) ⟨?_, out, e', ?_, he'⟩, rfl, q _ _ ?_ (sortT_sorted L) (fun b hb => g3 b ((sortT_perm L).mem_iff.mp hb)) (I1.hok.fresh (Nat.le_refl _))⟩
    · rw [PyProof.Rows.sortedHeap_old (Nat.ne_of_lt (Heap.lt_size e)) (by
        show b < (h'.push _).objs.size
        rw [size_push']
        exact Nat.lt_succ_of_lt (Heap.lt_size e))]
      exact Heap.get?_push_of_some _ e
    · rw [List.length_map, (sortT_perm L).length_eq]
      omega
    · rw [eo]
      have := vals_refs ((L.mergeSort (PySem.W.dataLe false encT)).map (·.1))
      rw [List.map_map, List.map_map] at this
      exact this
    · rw [← g1]
      exact (sortT_perm L).map _
end Bk

namespace Bk
open PySem PySem.Spec PyProof.Rows L2
/-! ### sorted(..) of a list of tuples of whole numbers, of any number -/
theorem refs_are : ∀ {L : List Addr} {us : List Value}, Vals (L.map V.ref) us → us = L.map Value.ref
  | [], us, r => by
    cases r
    rfl
  | a :: L, us, r => by
    cases r with
    | cons h1 h2 =>
      have e : _ = Value.ref a := h1
      rw [refs_are h2, e]
      rfl
def rSorTL (K : PySem.W.Frag) : List V → Hp → VK → Prop := fun xs H Q => ∃ (a : Addr) (L : List (Addr × List Int)), xs = [.ref a] ∧ SqL K H a (L.map fun q => V.ref q.1) ∧ (∀ q ∈ L, H q.1 = some (.tup (q.2.map V.int))) ∧ (∀ q ∈ L, q.2 ≠ []) ∧
  ∀ (L' : List (Addr × List Int)) (p : Addr), L'.Perm L → L'.Pairwise (fun p q => p.2 ≤ q.2) → H p = none → Q (.ref p) (upd H p (.lst (L'.map fun q => V.ref q.1)))
theorem rSorTL_r {K : PySem.W.Frag} {a : Addr} {H : Hp} {Q : VK} : rSorTL K [.ref a] H Q = ∃ (L : List (Addr × List Int)), SqL K H a (L.map fun q => V.ref q.1) ∧ (∀ q ∈ L, H q.1 = some (.tup (q.2.map V.int))) ∧ (∀ q ∈ L, q.2 ≠ []) ∧
  ∀ (L' : List (Addr × List Int)) (p : Addr), L'.Perm L → L'.Pairwise (fun p q => p.2 ≤ q.2) → H p = none → Q (.ref p) (upd H p (.lst (L'.map fun q => V.ref q.1))) := propext ⟨fun ⟨_, L, e, h⟩ => by cases e; exact ⟨L, h⟩, fun ⟨L, h⟩ => ⟨a, L, rfl, h⟩⟩
theorem cr_sorTL {X : Cx} {K : PySem.W.Frag} (hK : X.K = K) (hu : X.A.units + 64 < cLine) : CallR X (.builtin "sorted") (rSorTL K) := by
  subst hK
  intro pins s σ H xs us Q I r h
  obtain ⟨a, L, rfl, hs, hT, hne, q⟩ := h
  obtain ⟨its, rv, hl, hz⟩ := I.list hs
  rw [Vals.ref1 r]
  have ei : its = L.map fun b => Value.ref b.1 := by
    have e : (L.map fun q => V.ref q.1) = (L.map (·.1)).map V.ref := by rw [List.map_map]; rfl
    rw [e] at rv
    rw [refs_are rv, List.map_map]
    rfl
  subst ei
  rw [List.length_map] at hz
  refine PySem.W.sorted_data (enc := encT) (bs := L) hl.isList (each_refs L) (each_of L fun b hb => ⟨[], reads_tupI I (hT b hb)⟩) alikeT (sortableT hne) hz (fun b hb => ?_) fun out hlo hout => ?_
  · rw [depthT]
    omega
  · have eo := of_each_refs hout
    obtain ⟨ep, he'⟩ := PyProof.Rows.sortedAll_at s.heap (L.map fun b => Value.ref b.1) out.toArray
    refine ⟨.ref _, upd H (s.heap.objs.size + 1) (.lst ((L.mergeSort (PySem.W.dataLe false encT)).map fun q => V.ref q.1)), I.laid (t' := s.toks) (fun _ _ => PyProof.Rows.sortedAll_old) (Nat.le_succ _) ⟨?_, out, ep, ?_, he'⟩, rfl, q _ _ (sortT_perm L) (sortT_sorted L) (I.hok.fresh (Nat.le_succ _))⟩
    · rw [List.length_map, (sortT_perm L).length_eq]
      exact hz
    · rw [eo]
      have := vals_refs ((L.mergeSort (PySem.W.dataLe false encT)).map (·.1))
      rw [List.map_map, List.map_map] at this
      exact this
end Bk

namespace Bk
open PySem PySem.Spec PyProof.Rows L2
/-! ### sorted(..) of a list of lists of whole numbers, of any number -/
def encL (b : Addr × List Int) : PyData := .list (b.2.map PyData.int)
theorem leL (p q : Addr × List Int) : PySem.W.dataLe false encL p q = decide (p.2 ≤ q.2) := by
  show (!PySem.W.dataLt (.list (q.2.map .int)) (.list (p.2.map .int))) = _
  have e : PySem.W.dataLt (.list (q.2.map .int)) (.list (p.2.map .int)) = PySem.W.rowLt (q.2.map .int) (p.2.map .int) := rfl
  rw [e, PySem.W.dataLt_ints]
  by_cases h : q.2 < p.2
  · rw [decide_eq_true h]
    symm
    exact decide_eq_false fun z => List.not_lt.mpr z h
  · rw [decide_eq_false h]
    symm
    exact decide_eq_true (List.not_lt.mp h)
theorem sortL_perm (L : List (Addr × List Int)) : (L.mergeSort (PySem.W.dataLe false encL)).Perm L := List.mergeSort_perm L _
theorem sortL_sorted (L : List (Addr × List Int)) : (L.mergeSort (PySem.W.dataLe false encL)).Pairwise (fun p q => p.2 ≤ q.2) := by
  have h := List.pairwise_mergeSort (le := PySem.W.dataLe false encL) (fun a b c h1 h2 => by
    rw [leL] at h1 h2 ⊢
    exact decide_eq_true (List.le_trans (of_decide_eq_true h1) (of_decide_eq_true h2))) (fun a b => by
    rw [leL, leL]
    rcases List.le_total a.2 b.2 with h | h
    · rw [decide_eq_true h]; rfl
    · rw [decide_eq_true h, Bool.or_true]) L
  exact h.imp fun {x y} z => by rw [leL] at z; exact of_decide_eq_true z
theorem alikeL {L : List (Addr × List Int)} : PySem.W.AllAlike (L.map encL) := PySem.W.AllAlike.of fun b b' => by
  show PySem.W.alikeAll _ _ = true
  exact PySem.W.alike_ints b.2 b'.2
theorem depthL (b : Addr × List Int) : (encL b).depth = 1 := by
  show PyData.depth (.list _) = 1
  rw [PyData.depth, PySem.W.depth_ints]
theorem reads_lstI {X : Cx} {pins : List (Addr × Obj)} {σ : L2.St} {H : Hp} {s : Shared} (I : Inv X pins σ H s) {a : Addr} {ns : List Int} (h : H a = some (.lst (ns.map V.int))) : Reads s.heap (.ref a) (.list (ns.map PyData.int)) [a] := by
  obtain ⟨_, its, n, rv, ho⟩ := (show ObjOk X.prog X.w H s.heap a (.lst _) from I.hok a _ h)
  exact Reads.list ho rfl rfl (by simpa using reads_ints rv)
theorem sortableL {L : List (Addr × List Int)} : PySem.W.Sortable (L.map encL) := .inr fun d hd => by
  obtain ⟨b, _, rfl⟩ := List.mem_map.mp hd
  exact ⟨fun z => (by cases z), fun xs z => (by cases z)⟩
theorem of_each_L : ∀ {vs : List Value} {L : List (Addr × List Int)}, PySem.W.EachIs (fun (v : Value) (b : Addr × List Int) => v = .ref b.1) vs L → vs = L.map fun b => Value.ref b.1 := of_each_refs
def rSorLL (K : PySem.W.Frag) : List V → Hp → VK → Prop := fun xs H Q => ∃ (a : Addr) (L : List (Addr × List Int)), xs = [.ref a] ∧ SqL K H a (L.map fun q => V.ref q.1) ∧ (∀ q ∈ L, H q.1 = some (.lst (q.2.map V.int))) ∧
  ∀ (L' : List (Addr × List Int)) (p : Addr), L'.Perm L → L'.Pairwise (fun p q => p.2 ≤ q.2) → H p = none → Q (.ref p) (upd H p (.lst (L'.map fun q => V.ref q.1)))
theorem rSorLL_r {K : PySem.W.Frag} {a : Addr} {H : Hp} {Q : VK} : rSorLL K [.ref a] H Q = ∃ (L : List (Addr × List Int)), SqL K H a (L.map fun q => V.ref q.1) ∧ (∀ q ∈ L, H q.1 = some (.lst (q.2.map V.int))) ∧
  ∀ (L' : List (Addr × List Int)) (p : Addr), L'.Perm L → L'.Pairwise (fun p q => p.2 ≤ q.2) → H p = none → Q (.ref p) (upd H p (.lst (L'.map fun q => V.ref q.1))) := propext ⟨fun ⟨_, L, e, h⟩ => by cases e; exact ⟨L, h⟩, fun ⟨L, h⟩ => ⟨a, L, rfl, h⟩⟩
theorem cr_sorLL {X : Cx} {K : PySem.W.Frag} (hK : X.K = K) (hu : X.A.units + 64 < cLine) : CallR X (.builtin "sorted") (rSorLL K) := by
  subst hK
  intro pins s σ H xs us Q I r h
  obtain ⟨a, L, rfl, hs, hT, q⟩ := h
  obtain ⟨its, rv, hl, hz⟩ := I.list hs
  rw [Vals.ref1 r]
  have ei : its = L.map fun b => Value.ref b.1 := by
    have e : (L.map fun q => V.ref q.1) = (L.map (·.1)).map V.ref := by rw [List.map_map]; rfl
    rw [e] at rv
    rw [refs_are rv, List.map_map]
    rfl
  subst ei
  rw [List.length_map] at hz
  refine PySem.W.sorted_data (enc := encL) (bs := L) hl.isList (each_refs L) (each_of L fun b hb => ⟨[b.1], reads_lstI I (hT b hb)⟩) alikeL sortableL hz (fun b hb => ?_) fun out hlo hout => ?_
  · rw [depthL]
    omega
  · have eo := of_each_refs hout
    obtain ⟨ep, he'⟩ := PyProof.Rows.sortedAll_at s.heap (L.map fun b => Value.ref b.1) out.toArray
    refine ⟨.ref _, upd H (s.heap.objs.size + 1) (.lst ((L.mergeSort (PySem.W.dataLe false encL)).map fun q => V.ref q.1)), I.laid (t' := s.toks) (fun _ _ => PyProof.Rows.sortedAll_old) (Nat.le_succ _) ⟨?_, out, ep, ?_, he'⟩, rfl, q _ _ (sortL_perm L) (sortL_sorted L) (I.hok.fresh (Nat.le_succ _))⟩
    · rw [List.length_map, (sortL_perm L).length_eq]
      exact hz
    · rw [eo]
      have := vals_refs ((L.mergeSort (PySem.W.dataLe false encL)).map (·.1))
      rw [List.map_map, List.map_map] at this
      exact this
end Bk

namespace Bk
open PySem PySem.Spec PyProof.Rows L2
/-! ### the least of four whole numbers -/
theorem args4 (a b c d : Value) : argsOk "min" ⟨[a, b, c, d], []⟩ := by
  unfold argsOk
  kernel_rfl
def rMin4 : List V → Hp → VK → Prop := fun xs H Q => ∃ a b c d : Int, xs = [.int a, .int b, .int c, .int d] ∧ ∀ m : Int, (m = a ∨ m = b ∨ m = c ∨ m = d) → Q (.int m) H
theorem rMin4_r {a b c d : Int} {H : Hp} {Q : VK} : rMin4 [.int a, .int b, .int c, .int d] H Q = ∀ m : Int, (m = a ∨ m = b ∨ m = c ∨ m = d) → Q (.int m) H :=
  propext ⟨fun ⟨_, _, _, _, e, h⟩ => by cases e; exact h, fun h => ⟨a, b, c, d, rfl, h⟩⟩
theorem call_min4 {X : Cx} (hc : X.calm = true) : CallR X (.builtin "min") rMin4 := by
  intro pins s σ H xs us Q I r q
  obtain ⟨a, b, c, d, rfl, q⟩ := q
  cases r with
  | cons h1 r => cases r with
  | cons h2 r => cases r with
  | cons h3 r => cases r with
  | cons h4 r =>
  cases r
  obtain ⟨ta, rfl⟩ := h1
  obtain ⟨tb, rfl⟩ := h2
  obtain ⟨tc, rfl⟩ := h3
  obtain ⟨td, rfl⟩ := h4
  generalize hz : (#[(a, ta), (b, tb), (c, tc), (d, td)] : Array (Int × Tok)) = zs
  have hzi : intItems zs = #[.int a ta, .int b tb, .int c tc, .int d td] := by
    rw [← hz]
    simp [intItems]
  have hzn : (intItems zs).size = 4 := by rw [hzi]; rfl
  refine call_function_tree F.kind_min F.plain_min F.entry_min (args4 _ _ _ _) ?_
  refine wpAny_bind (m := Builtin.Builtins.bindParams "min" ["key", "default"] 0 ⟨[], []⟩) (wpAny_of_eq (a := [none, none]) rfl ?_)
  refine wpAny_bind (m := newTuple [.int a ta, .int b tb, .int c tc, .int d td]) (wpAny_newObj_type ?_)
  have hT : (s.heap.push { cls := .type "tuple", data := .seq #[.int a ta, .int b tb, .int c tc, .int d td] }).IsTuple s.heap.objs.size (intItems zs) := ⟨_, Heap.get?_push_size _ rfl, rfl, 0, by rw [hzi]⟩
  refine wpAny_bind (wpAny_pyIter_tuple hT ?_)
  refine wpAny_bind (m := newList []) (wpAny_newObj_type ?_)
  have nm : (toString "min" ++ toString ".loop" : String) = "min.loop" := by decide
  rw [nm]
  have s1 : (s.heap.push { cls := .type "tuple", data := .seq #[.int a ta, .int b tb, .int c tc, .int d td] }).objs.size = s.heap.objs.size + 1 := Heap.size_push ..
  have k1 : ∀ x o, s.heap.get? x = some o → (s.heap.push { cls := .type "tuple", data := .seq #[.int a ta, .int b tb, .int c tc, .int d td] }).get? x = some o := fun x o e => Heap.get?_push_of_some _ e
  generalize s.heap.push { cls := .type "tuple", data := .seq #[.int a ta, .int b tb, .int c tc, .int d td] } = h1 at hT s1 k1 ⊢
  have k2 : ∀ b o, h1.get? b = some o → (h1.push { cls := .type "tuple_iterator", data := .fields #[.ref s.heap.objs.size, .int 0 0] }).get? b = some o := fun b o e => Heap.get?_push_of_some _ e
  have s2 : (h1.push { cls := .type "tuple_iterator", data := .fields #[.ref s.heap.objs.size, .int 0 0] }).objs.size = s.heap.objs.size + 2 := by
    rw [Heap.size_push, s1]
  have hIt : (h1.push { cls := .type "tuple_iterator", data := .fields #[.ref s.heap.objs.size, .int 0 0] }).IsTupleIter h1.objs.size s.heap.objs.size 0 := ⟨_, Heap.get?_push_size _ rfl, rfl, rfl⟩
  have hT2 := hT.push { cls := .type "tuple_iterator", data := .fields #[.ref s.heap.objs.size, .int 0 0] }
  generalize h1.push { cls := .type "tuple_iterator", data := .fields #[.ref s.heap.objs.size, .int 0 0] } = h2 at hIt hT2 s2 k2 ⊢
  refine wpAny_pure ⟨plainId_quiet F.plain_min_loop _, ?_⟩
  have nT : s.heap.objs.size ≠ h1.objs.size := by omega
  have W := Walks.tuple (prog := X.prog) (w := X.w) (A := X.A.in1) (I.ok.hd hc) h1.objs.size s.heap.objs.size nT (intItems zs)
  have hS : h2.objs.size ∉ [h1.objs.size, s.heap.objs.size] := fun m => by
    simp only [List.mem_cons, List.not_mem_nil, or_false] at m
    omega
  have cmp := CmpOf.ints_lt (prog := X.prog) (w := X.w) (A := X.A.in1) (P := fun i v => (intItems zs)[i]? = some v) (numAt zs) (fun _ _ => intItems_at)
  have st0 : (h2.push { cls := .type "list", data := .seq #[] }).IsTupleIter h1.objs.size s.heap.objs.size 0 ∧ (h2.push { cls := .type "list", data := .seq #[] }).IsTuple s.heap.objs.size (intItems zs) := ⟨by
    obtain ⟨o, e, r⟩ := hIt
    exact ⟨o, Heap.get?_push_of_some _ e, r⟩, hT2.push _⟩
  refine codeAny_min_loop_first W _ cmp h2.objs.size hS (by rw [hzn]; decide) st0 (Heap.get?_push_size _ rfl) fun v h' tk hP hk => ?_
  rw [hzn] at hP
  have ht := (argBest_lt (numAt zs) 3).1
  have kp : ∀ x o, s.heap.get? x = some o → h'.get? x = some o := fun (x : Nat) o e => by
    have hb : x < s.heap.objs.size := Heap.lt_size e
    refine hk x o (fun m => ?_) (Nat.ne_of_lt (show x < h2.objs.size by omega)) (Heap.get?_push_of_some _ (k2 x o (k1 x o e)))
    have : x = h1.objs.size := List.mem_singleton.mp m
    omega
  generalize argBest (fun i j => decide (numAt zs i < numAt zs j)) 3 = j at ht hP
  obtain ⟨t, rfl⟩ := intItems_at hP
  refine ⟨.int (numAt zs j), H, I.kept kp, ⟨t, rfl⟩, q _ ?_⟩
  rw [← hz]
  have hj : j = 0 ∨ j = 1 ∨ j = 2 ∨ j = 3 := by omega
  rcases hj with rfl | rfl | rfl | rfl
  · exact .inl rfl
  · exact .inr (.inl rfl)
  · exact .inr (.inr (.inl rfl))
  · exact .inr (.inr (.inr rfl))
end Bk

namespace Bk
open PySem PySem.Spec PyProof.Rows L2
local macro_rules | `(tactic| walk_at "wp") => `(tactic| try simp only [tNever, tFor_eq, tLc_eq, iList, iTup, iRng1_eq, rRng1_i, iRng2_eq, rRng2_i, iEnum_eq, rEnum_r, iZip_eq, rZip_r, tSl, tPart, tNoPart, rSlL_r, rCat_r, rIn_r, gTup_r, gUnl_r, rInt1_b, rInt1_i, rRep_r, tStep_r, scal, tSeq, tNext, tAsg, tRet, tRetN, tIfS, tDrop, tCB, tCons, tNil, tVar, tOp, tUn, tC, rU_i, rI_ii, rI0_ii, rEq, rNe, tTest, tB, tAnd, tOr, tNot, tAndV, tOrV, tNotV, tIf, tChain, tLst, tTup, tBM, tBM0, rAppend_r, rIxL_r, rIxT_r, rMx_ii, rMn_ii, rLnL_r, rLnT_r, rIsD_int, rIsD_bool, rIsD_list, rIsD_tuple, tCall, gName, gNil_n, gCons_c, cxK, L2.start, List.map, List.replicate, List.length_cons, List.length_nil, List.cons_append, List.nil_append, List.append_nil, List.getElem?_cons_zero, List.getElem?_cons_succ, Option.some.injEq, exists_eq_left', exists_eq_left, V.int.injEq, V.bl.injEq, V.str.injEq, V.ref.injEq, List.cons.injEq, and_true, true_and, and_self, List.set, wipe, rAll_r, rSum_r, reduceCtorEq, decide_true, decide_false, reduceIte, ite_true, ite_false, if_true, if_false, Bool.false_eq_true, Bool.not_true, Bool.not_false])
local macro_rules | `(tactic| walk_at "shaped") => `(tactic| (simp only [SeqAt.shaped, PyData.canLay0, PyData.canLayAll0, PyData.depth, PyData.depthAll]; rfl))
local macro_rules | `(tactic| walk_at "lay") => `(tactic| (simp only [PyData.canLay0, PyData.canLayAll0]; rfl))
def top (i : Nat) : Stmt := PySem.Challenge.pw_bakeahead_k45_whole_none_just_where_a_pl.main.body.getD i (.Pass ⟨0, 0, 0, 0⟩)
structure Bi (mg : Str → Option Value) : Prop where
  len : mg "len" = none
  max : mg "max" = none
  min : mg "min" = none
  range : mg "range" = none
  isinstance : mg "isinstance" = none
  int : mg "int" = none
  bool : mg "bool" = none
  list : mg "list" = none
  tuple : mg "tuple" = none
  all : mg "all" = none
  sum : mg "sum" = none
  repr : mg "repr" = none
  enumerate : mg "enumerate" = none
section
variable {P : Program} {w : World} {K : PySem.W.Frag} {mg : Str → Option Value} {base : Heap}
abbrev s_is_whole : Stmt := top 6
theorem sc_is_whole : FnScope ["thing"] ["thing"] (defScope s_is_whole) := ⟨rfl, rfl, rfl, by decide +kernel, rfl, by decide +kernel, by decide +kernel⟩
def spWhole (K : PySem.W.Frag) : Sp := fun vs H Q _ => ∃ x d, vs = [x] ∧ Th K H x d ∧ Q (.bl (wholeD d)) H
theorem ok_is_whole {f : Addr} {fd : FuncData} {k : Nat} (F : Fun K "is_whole" "is_whole" s_is_whole f fd) (B : Bi mg) : FnOk P w K mg base CX0 (k + 1) f fd ["thing"] (spWhole K) := by
  refine F.ok sc_is_whole (fun vs H Q E h => ?_) (fun cdv A outer s H vs Q E hr h => ?_)
  · obtain ⟨x, d, rfl, _⟩ := h
    rfl
  · obtain ⟨x, d, rfl, hx, q⟩ := h
    refine ⟨_, (pss_one (ps_ret (pe_and (pe_callB (call_isD .int) (by rfl) B.isinstance (by decide +kernel) (pa_cons (pv 0) (pa_cons (pe_bltn (v := .ty "int") (by rfl) B.int (by decide +kernel) rfl) pa_nil))) (pe_one (pe_not (pe_callB (call_isD .bool) (by rfl) B.isinstance (by decide +kernel) (pa_cons (pv 0) (pa_cons (pe_bltn (v := .ty "bool") (by rfl) B.bool (by decide +kernel) rfl) pa_nil)))))))), ?_⟩
    walk_at "wp"
    refine ⟨d, hx, ite2 (fun h => ⟨d, hx, ?_⟩) (fun h => ?_)⟩
    · rw [← wholeD_is, h] at q
      exact q
    · rw [← wholeD_is, Bool.eq_false_iff.mpr h] at q
      exact q
abbrev s_is_number : Stmt := top 7
theorem sc_is_number : FnScope ["thing"] ["thing"] (defScope s_is_number) := ⟨rfl, rfl, rfl, by decide +kernel, rfl, by decide +kernel, by decide +kernel⟩
def spNum (K : PySem.W.Frag) : Sp := fun vs H Q _ => ∃ x d, vs = [x] ∧ Th K H x d ∧ Q (.bl (numD d)) H
theorem ok_is_number {f : Addr} {fd : FuncData} {k : Nat} (F : Fun K "is_number" "is_number" s_is_number f fd) (B : Bi mg) {t : Tok} (M_GREATEST : mg "GREATEST" = some (.int 1000000000 t)) (D_is_whole : Def P w K mg base "is_whole" (k + 1) ["thing"] (spWhole K)) :
    FnOk P w K mg base CX0 (k + 2) f fd ["thing"] (spNum K) := by
  refine F.ok sc_is_number (fun vs H Q E h => ?_) (fun cdv A outer s H vs Q E hr h => ?_)
  · obtain ⟨x, d, rfl, _⟩ := h
    rfl
  · obtain ⟨x, d, rfl, hx, q⟩ := h
    refine ⟨_, (pss_one (ps_ret (pe_and (pe_callD D_is_whole hr (by rfl) (pa_cons (pv 0) pa_nil)) (pe_one (pe_chain op_le op_le pe_int (pv 0) (pe_globI rfl M_GREATEST)))))), ?_⟩
    walk_at "wp"
    refine ⟨x, d, rfl, hx, ?_⟩
    walk_at "wp"
    cases hx with
    | int i =>
      simp only [wholeD]
      walk_at "wp"
      refine ite2 (fun h => ?_) (fun h => ?_)
      · show Q (.bl (decide (i ≤ 1000000000))) H
        simp only [numD, h, Bool.true_and] at q
        exact q
      · simp only [numD, Bool.eq_false_iff.mpr h, Bool.false_and] at q
        exact q
    | _ => exact q

abbrev s_is_tuple_of : Stmt := top 12
theorem sc_is_tuple_of : FnScope ["thing", "many"] ["thing", "many"] (defScope s_is_tuple_of) := ⟨rfl, rfl, rfl, by decide +kernel, rfl, by decide +kernel, by decide +kernel⟩
def spTupleOf (K : PySem.W.Frag) : Sp := fun vs H Q _ => ∃ x d, ∃ n : Nat, vs = [x, .int (n : Int)] ∧ Th K H x d ∧ Q (.bl (tupB n d)) H
theorem ok_is_tuple_of {f : Addr} {fd : FuncData} (F : Fun K "is_tuple_of" "is_tuple_of" s_is_tuple_of f fd) (B : Bi mg) : FnOk P w K mg base CX0 1 f fd ["thing", "many"] (spTupleOf K) := by
  refine F.ok sc_is_tuple_of (fun vs H Q E h => ?_) (fun cdv A outer s H vs Q E hr h => ?_)
  · obtain ⟨x, d, n, rfl, _⟩ := h
    rfl
  · obtain ⟨x, d, n, rfl, hx, q⟩ := h
    refine ⟨_, (pss_one (ps_ret (pe_and (pe_callB (call_isD .tuple) (by rfl) B.isinstance (by decide +kernel) (pa_cons (pv 0) (pa_cons (pe_bltn (v := .ty "tuple") (by rfl) B.tuple (by decide +kernel) rfl) pa_nil))) (pe_one (pe_cmpR op_eq (pe_callB call_lnT (by rfl) B.len (by decide +kernel) (pa_cons (pv 0) pa_nil)) (pv 1) (nomark _)))))), ?_⟩
    walk_at "wp"
    refine ⟨d, hx, ?_⟩
    cases hx with
    | tup ht ha =>
      simp only [isD]
      walk_at "wp"
      refine ⟨_, ht, qb ?_ q⟩
      rw [ha.length]
      exact decide_eq_decide.mpr (by omega)
    | _ => exact q
abbrev s_is_list_of : Stmt := top 13
theorem sc_is_list_of : FnScope ["thing", "fewest", "most"] ["thing", "fewest", "most"] (defScope s_is_list_of) := ⟨rfl, rfl, rfl, by decide +kernel, rfl, by decide +kernel, by decide +kernel⟩
def spListOf (K : PySem.W.Frag) : Sp := fun vs H Q _ => ∃ x d, ∃ n m : Nat, vs = [x, .int (n : Int), .int (m : Int)] ∧ Th K H x d ∧ Q (.bl (listB n m d)) H
theorem ok_is_list_of {f : Addr} {fd : FuncData} (F : Fun K "is_list_of" "is_list_of" s_is_list_of f fd) (B : Bi mg) : FnOk P w K mg base CX0 1 f fd ["thing", "fewest", "most"] (spListOf K) := by
  refine F.ok sc_is_list_of (fun vs H Q E h => ?_) (fun cdv A outer s H vs Q E hr h => ?_)
  · obtain ⟨x, d, n, m, rfl, _⟩ := h
    rfl
  · obtain ⟨x, d, n, m, rfl, hx, q⟩ := h
    refine ⟨_, (pss_one (ps_ret (pe_and (pe_callB (call_isD .list) (by rfl) B.isinstance (by decide +kernel) (pa_cons (pv 0) (pa_cons (pe_bltn (v := .ty "list") (by rfl) B.list (by decide +kernel) rfl) pa_nil))) (pe_one (pe_chain op_le op_le (pv 1) (pe_callB call_lnL (by rfl) B.len (by decide +kernel) (pa_cons (pv 0) pa_nil)) (pv 2)))))), ?_⟩
    walk_at "wp"
    refine ⟨d, hx, ?_⟩
    cases hx with
    | lst ht ha =>
      simp only [isD]
      walk_at "wp"
      refine ⟨_, ht, ?_⟩
      have e1 : ∀ a b : Nat, decide ((a : Int) ≤ (b : Int)) = decide (a ≤ b) := fun a b => decide_eq_decide.mpr (by omega)
      rw [ha.length, e1, e1]
      refine ite2 (fun h => qb ?_ q) (fun h => qb ?_ q)
      · simp only [listB, h, Bool.true_and]
      · simp only [listB, Bool.eq_false_iff.mpr h, Bool.false_and]
    | _ => exact q
abbrev s_are_lights : Stmt := top 14
theorem sc_are_lights : FnScope ["thing", "light"] ["thing"] (defScope s_are_lights) := ⟨rfl, rfl, rfl, by decide +kernel, rfl, by decide +kernel, by decide +kernel⟩
def spPred (K : PySem.W.Frag) (p : PyData → Bool) : Sp := fun vs H Q _ => ∃ x d, vs = [x] ∧ Th K H x d ∧ ∀ H', Same H H' → Q (.bl (p d)) H'
theorem ok_are_lights {f : Addr} {fd : FuncData} (F : Fun K "are_lights" "are_lights" s_are_lights f fd) (B : Bi mg) {t : Tok} (M_MOST_DAYS : mg "MOST_DAYS" = some (.int 40 t)) (D_is_list_of : Def P w K mg base "is_list_of" 1 ["thing", "fewest", "most"] (spListOf K)) (D_is_number : Def P w K mg base "is_number" 2 ["thing"] (spNum K)) :
    FnOk P w K mg base CX0 3 f fd ["thing"] (spPred K lightsB) := by
  refine F.ok sc_are_lights (fun vs H Q E h => ?_) (fun cdv A outer s H vs Q E hr h => ?_)
  · obtain ⟨x, d, rfl, _⟩ := h
    rfl
  · obtain ⟨x, d, rfl, hx, q⟩ := h
    refine ⟨_, (pss_one (ps_ret (pe_and (pe_callD D_is_list_of hr (by rfl) (pa_cons (pv 0) (pa_cons pe_int (pa_cons (pe_globI rfl M_MOST_DAYS) pa_nil)))) (pe_one (pe_callB (cr_all rfl) (by rfl) B.all (by decide +kernel) (pa_cons (pe_lc (own := [("light", 1)]) (g := (gName 1)) rfl sc_are_lights.nd (pi_list (pv 0)) (blkOk_by (own := [("light", 1)]) (N := ["thing", "light"]) (sc := defScope s_are_lights) (by decide +kernel)) (fun _ _ _ _ _ => (pg_name (i := 1) sc_are_lights.nd rfl (Or.inl rfl))) (fun _ _ _ _ _ => pts_nil) (fun _ _ _ _ _ => (pe_callD D_is_number hr (by rfl) (pa_cons (pv 1) pa_nil)))) pa_nil)))))), ?_⟩
    walk_at "wp"
    refine ⟨x, d, 1, 40, rfl, hx, ?_⟩
    walk_at "wp"
    cases hx with
    | lst hs ha =>
      refine ite2 (fun h => ?_) (fun h => ?_)
      · have hl := ha.length
        have h40 : _ ≤ 40 := of_decide_eq_true (Bool.and_eq_true_iff.mp h).2
        walk_at "wp"
        refine ⟨⟨_, hs⟩, fun D hD => ?_⟩
        rename_i ds
        refine LcR.map (walk_list (xs := _)) ((ds.map numD).map V.bl) hD (by rw [List.length_map, List.length_map, hl]) (by omega) (fun H s => s.seq hs) (fun _ _ _ _ y => yat_same y) (fun i x y H0 H1 hi s1 yy hy R hR => ?_) (fun H1 s1 hH => ?_)
        · obtain ⟨rfl, hx⟩ := yy
          obtain ⟨d, hd, hxd⟩ := ha.get hx
          walk_at "wp"
          refine ⟨x, d, rfl, hxd.same s1, ?_⟩
          rw [List.getElem?_map, List.getElem?_map, hd] at hy
          cases hy
          exact hR _ (Same.refl _)
        · refine ⟨ds.map numD, SqL.of hH, qb ?_ (q _ s1)⟩
          simp only [lightsB, h, Bool.true_and, List.all_map]
          rfl
      · exact qb (by simp only [lightsB, Bool.eq_false_iff.mpr h, Bool.false_and]) (q H (Same.refl _))
    | _ => exact q H (Same.refl _)
abbrev s_is_bound : Stmt := top 15
theorem sc_is_bound : FnScope ["thing"] ["thing"] (defScope s_is_bound) := ⟨rfl, rfl, rfl, by decide +kernel, rfl, by decide +kernel, by decide +kernel⟩
theorem ok_is_bound {f : Addr} {fd : FuncData} (F : Fun K "is_bound" "is_bound" s_is_bound f fd) (D_is_number : Def P w K mg base "is_number" 2 ["thing"] (spNum K)) :
    FnOk P w K mg base CX0 3 f fd ["thing"] (spPred K boundB) := by
  refine F.ok sc_is_bound (fun vs H Q E h => ?_) (fun cdv A outer s H vs Q E hr h => ?_)
  · obtain ⟨x, d, rfl, _⟩ := h
    rfl
  · obtain ⟨x, d, rfl, hx, q⟩ := h
    refine ⟨_, (pss_one (ps_ret (pe_or (pe_cmpR op_isN (pv 0) pe_non (nomark _)) (pe_one (pe_and (pe_callD D_is_number hr (by rfl) (pa_cons (pv 0) pa_nil)) (pe_one (pe_cmpR op_ge (pv 0) pe_int (nomark _)))))))), ?_⟩
    have hy := hx
    have q0 := q H (Same.refl _)
    cases hx with
    | non =>
      walk_at "wp"
      exact q0
    | int i =>
      walk_at "wp"
      refine ⟨_, _, rfl, hy, ?_⟩
      walk_at "wp"
      refine ite2 (fun h => qb ?_ q0) (fun h => qb ?_ q0)
      · simp only [boundB, h, Bool.true_and]
      · simp only [boundB, Bool.eq_false_iff.mpr h, Bool.false_and]
    | _ =>
      walk_at "wp"
      refine ⟨_, _, rfl, hy, ?_⟩
      exact ⟨_, rfl, iteF q0⟩
abbrev s_is_life : Stmt := top 16
theorem sc_is_life : FnScope ["thing"] ["thing"] (defScope s_is_life) := ⟨rfl, rfl, rfl, by decide +kernel, rfl, by decide +kernel, by decide +kernel⟩
theorem ok_is_life {f : Addr} {fd : FuncData} (F : Fun K "is_life" "is_life" s_is_life f fd) {t : Tok} (M_LONGEST_LIFE : mg "LONGEST_LIFE" = some (.int 40 t)) (D_is_whole : Def P w K mg base "is_whole" 1 ["thing"] (spWhole K)) :
    FnOk P w K mg base CX0 3 f fd ["thing"] (spPred K lifeB) := by
  refine F.ok sc_is_life (fun vs H Q E h => ?_) (fun cdv A outer s H vs Q E hr h => ?_)
  · obtain ⟨x, d, rfl, _⟩ := h
    rfl
  · obtain ⟨x, d, rfl, hx, q⟩ := h
    refine ⟨_, (pss_one (ps_ret (pe_or (pe_cmpR op_isN (pv 0) pe_non (nomark _)) (pe_one (pe_and (pe_callD D_is_whole hr (by rfl) (pa_cons (pv 0) pa_nil)) (pe_one (pe_chain op_le op_le pe_int (pv 0) (pe_globI rfl M_LONGEST_LIFE)))))))), ?_⟩
    have hy := hx
    have q0 := q H (Same.refl _)
    cases hx with
    | non =>
      walk_at "wp"
      exact q0
    | int i =>
      walk_at "wp"
      refine ⟨_, _, rfl, hy, ?_⟩
      simp only [wholeD]
      walk_at "wp"
      refine ite2 (fun h => qb ?_ q0) (fun h => qb ?_ q0)
      · simp only [lifeB, h, Bool.true_and]
      · simp only [lifeB, Bool.eq_false_iff.mpr h, Bool.false_and]
    | _ =>
      walk_at "wp"
      refine ⟨_, _, rfl, hy, ?_⟩
      exact ⟨_, rfl, iteF q0⟩
abbrev s_is_day : Stmt := top 17
theorem sc_is_day : FnScope ["thing", "want", "loaf", "keep", "fine", "part"] ["thing"] (defScope s_is_day) := ⟨rfl, rfl, rfl, by decide +kernel, rfl, by decide +kernel, by decide +kernel⟩
theorem ok_is_day {f : Addr} {fd : FuncData} (F : Fun K "is_day" "is_day" s_is_day f fd) (B : Bi mg) (D_is_tuple_of : Def P w K mg base "is_tuple_of" 1 ["thing", "many"] (spTupleOf K)) (D_is_number : Def P w K mg base "is_number" 2 ["thing"] (spNum K)) :
    FnOk P w K mg base CX0 3 f fd ["thing"] (spPred K dayB) := by
  refine F.ok sc_is_day (fun vs H Q E h => ?_) (fun cdv A outer s H vs Q E hr h => ?_)
  · obtain ⟨x, d, rfl, _⟩ := h
    rfl
  · obtain ⟨x, d, rfl, hx, q⟩ := h
    refine ⟨_, (pss_cons (ps_if (pt_not (pt_val (pe_callD D_is_tuple_of hr (by rfl) (pa_cons (pv 0) (pa_cons pe_int pa_nil))))) (pss_one (ps_ret pe_bl)) pss_nil)
 (pss_cons (ps_asg (pv 0) (pg_tup rfl (pgs_cons (pg_name (i := 1) sc_is_day.nd rfl (Or.inl rfl)) (pgs_cons (pg_name (i := 2) sc_is_day.nd rfl (Or.inl rfl)) (pgs_cons (pg_name (i := 3) sc_is_day.nd rfl (Or.inl rfl)) (pgs_cons (pg_name (i := 4) sc_is_day.nd rfl (Or.inl rfl)) pgs_nil))))))
 (pss_one (ps_ret (pe_and (pe_callB (cr_all rfl) (by rfl) B.all (by decide +kernel) (pa_cons (pe_lc (own := [("part", 5)]) (g := (gName 5)) rfl sc_is_day.nd (pi_tup (pe_tup (pa_cons (pv 1) (pa_cons (pv 2) (pa_cons (pv 3) pa_nil))))) (blkOk_by (own := [("part", 5)]) (N := ["thing", "want", "loaf", "keep", "fine", "part"]) (sc := defScope s_is_day) (by decide +kernel)) (fun _ _ _ _ _ => (pg_name (i := 5) sc_is_day.nd rfl (Or.inl rfl))) (fun _ _ _ _ _ => pts_nil) (fun _ _ _ _ _ => (pe_callD D_is_number hr (by rfl) (pa_cons (pv 5) pa_nil)))) pa_nil)) (pe_one (pe_or (pe_cmpR op_isN (pv 4) pe_non (nomark _)) (pe_one (pe_callD D_is_number hr (by rfl) (pa_cons (pv 4) pa_nil)))))))))), ?_⟩
    walk_at "wp"
    refine ⟨x, d, 4, rfl, hx, ?_⟩
    walk_at "wp"
    cases hx with
    | tup hs ha =>
      rename_i a xs ds
      refine ite2 (fun h => ?_) (fun h => ?_)
      · refine qb ?_ (q H (Same.refl _))
        have h4 : ¬ ds.length = 4 := of_decide_eq_false (Bool.eq_false_iff.mpr fun z => by rw [show tupB 4 (.tuple ds) = true from z] at h; cases h)
        symm
        match ds, h4 with
        | [], _ => rfl
        | [_], _ => rfl
        | [_, _], _ => rfl
        | [_, _, _], _ => rfl
        | [_, _, _, _], h4 => exact absurd rfl h4
        | _ :: _ :: _ :: _ :: _ :: _, _ => rfl
      · have h4 : ds.length = 4 := of_decide_eq_true (show tupB 4 (.tuple ds) = true by cases e : tupB 4 (.tuple ds) with | true => rfl | false => rw [e] at h; exact absurd rfl h)
        obtain ⟨d1, d2, d3, d4, rfl⟩ := four h4
        cases ha with
        | cons t1 ha => cases ha with
        | cons t2 ha => cases ha with
        | cons t3 ha => cases ha with
        | cons t4 ha =>
        cases ha
        rename_i v1 v2 v3 v4
        walk_at "wp"
        refine ⟨_, hs, rfl, ?_⟩
        walk_at "wp"
        refine ⟨sz100 (by decide), fun p hp => ⟨⟨_, SqT.of upd_same⟩, fun D hD => ?_⟩⟩
        have sp : Same H (upd H p (.tup [v1, v2, v3])) := same_upd hp
        have hT : SqT K (upd H p (.tup [v1, v2, v3])) p [v1, v2, v3] := SqT.of upd_same
        generalize upd H p (.tup [v1, v2, v3]) = Hb at sp hT hD ⊢
        have ta : ThAll K Hb [v1, v2, v3] [d1, d2, d3] := .cons (t1.same sp) (.cons (t2.same sp) (.cons (t3.same sp) .nil))
        refine LcR.map (walk_tup (xs := [v1, v2, v3])) (([d1, d2, d3].map numD).map V.bl) hD rfl (by show 3 ≤ 100000; decide) (fun H s => Same.tup s hT) (fun _ _ _ _ y => yat_same y) (fun i x y H0 H1 hi s1 yy hy R hR => ?_) (fun H1 s1 hH => ?_)
        · obtain ⟨rfl, hx⟩ := yy
          obtain ⟨d, hd, hxd⟩ := ta.get hx
          walk_at "wp"
          refine ⟨x, d, rfl, hxd.same s1, ?_⟩
          rw [List.getElem?_map, List.getElem?_map, hd] at hy
          cases hy
          exact hR _ (Same.refl _)
        · have q1 := q _ (sp.trans s1)
          refine ⟨[d1, d2, d3].map numD, SqL.of hH, ?_⟩
          have e3 : ([d1, d2, d3].map numD).all id = (numD d1 && numD d2 && numD d3) := by
            simp only [List.map, List.all_cons, List.all_nil, id, Bool.and_true, Bool.and_assoc]
          rw [e3]
          refine ite2 (fun h => ?_) (fun h => qb ?_ q1)
          · have t4' := t4.same (sp.trans s1)
            rw [t4'.isNon]
            refine ite2 (fun hn => qb ?_ q1) (fun hn => ⟨_, _, rfl, t4', qb ?_ q1⟩)
            · simp only [dayB, h, hn, Bool.true_or, Bool.true_and]
            · simp only [dayB, h, Bool.eq_false_iff.mpr hn, Bool.false_or, Bool.true_and]
          · simp only [dayB, Bool.eq_false_iff.mpr h, Bool.false_and]
    | _ => exact q H (Same.refl _)
abbrev s_has_bakery_form : Stmt := top 18
theorem sc_has_bakery_form : FnScope ["thing", "lights", "bound", "goods"] ["thing"] (defScope s_has_bakery_form) := ⟨rfl, rfl, rfl, by decide +kernel, rfl, by decide +kernel, by decide +kernel⟩
theorem ok_has_bakery_form {f : Addr} {fd : FuncData} (F : Fun K "has_bakery_form" "has_bakery_form" s_has_bakery_form f fd) (D_is_tuple_of : Def P w K mg base "is_tuple_of" 1 ["thing", "many"] (spTupleOf K)) (D_are_lights : Def P w K mg base "are_lights" 3 ["thing"] (spPred K lightsB))
    (D_is_bound : Def P w K mg base "is_bound" 3 ["thing"] (spPred K boundB)) (D_is_list_of : Def P w K mg base "is_list_of" 1 ["thing", "fewest", "most"] (spListOf K)) {t : Tok} (M_MOST_GOODS : mg "MOST_GOODS" = some (.int 2 t)) :
    FnOk P w K mg base CX0 4 f fd ["thing"] (spPred K bakFormB) := by
  refine F.ok sc_has_bakery_form (fun vs H Q E h => ?_) (fun cdv A outer s H vs Q E hr h => ?_)
  · obtain ⟨x, d, rfl, _⟩ := h
    rfl
  · obtain ⟨x, d, rfl, hx, q⟩ := h
    refine ⟨_, (pss_cons (ps_if (pt_not (pt_val (pe_callD D_is_tuple_of hr (by rfl) (pa_cons (pv 0) (pa_cons pe_int pa_nil))))) (pss_one (ps_ret pe_bl)) pss_nil)
 (pss_cons (ps_asg (pv 0) (pg_tup rfl (pgs_cons (pg_name (i := 1) sc_has_bakery_form.nd rfl (Or.inl rfl)) (pgs_cons (pg_name (i := 2) sc_has_bakery_form.nd rfl (Or.inl rfl)) (pgs_cons (pg_name (i := 3) sc_has_bakery_form.nd rfl (Or.inl rfl)) pgs_nil)))))
 (pss_one (ps_ret (pe_and (pe_callD D_are_lights hr (by rfl) (pa_cons (pv 1) pa_nil)) (pe_and (pe_callD D_is_bound hr (by rfl) (pa_cons (pv 2) pa_nil)) (pe_one (pe_callD D_is_list_of hr (by rfl) (pa_cons (pv 3) (pa_cons pe_int (pa_cons (pe_globI rfl M_MOST_GOODS) pa_nil))))))))))), ?_⟩
    walk_at "wp"
    refine ⟨x, d, 3, rfl, hx, ?_⟩
    walk_at "wp"
    cases hx with
    | tup hs ha =>
      rename_i a xs ds
      refine ite2 (fun h => ?_) (fun h => ?_)
      · refine qb ?_ (q H (Same.refl _))
        have h4 : ¬ ds.length = 3 := of_decide_eq_false (Bool.eq_false_iff.mpr fun z => by rw [show tupB 3 (.tuple ds) = true from z] at h; cases h)
        symm
        match ds, h4 with
        | [], _ => rfl
        | [_], _ => rfl
        | [_, _], _ => rfl
        | [_, _, _], h4 => exact absurd rfl h4
        | _ :: _ :: _ :: _ :: _, _ => rfl
      · have h4 : ds.length = 3 := of_decide_eq_true (show tupB 3 (.tuple ds) = true by cases e : tupB 3 (.tuple ds) with | true => rfl | false => rw [e] at h; exact absurd rfl h)
        obtain ⟨d1, d2, d3, rfl⟩ := three h4
        cases ha with
        | cons t1 ha => cases ha with
        | cons t2 ha => cases ha with
        | cons t3 ha =>
        cases ha
        rename_i v1 v2 v3
        walk_at "wp"
        refine ⟨_, hs, rfl, ?_⟩
        walk_at "wp"
        refine ⟨_, _, rfl, t1, fun H1 s1 => ?_⟩
        walk_at "wp"
        refine ite2 (fun h1 => ⟨_, _, rfl, t2.same s1, fun H2 s2 => ?_⟩) (fun h1 => qb ?_ (q H1 s1))
        · walk_at "wp"
          refine ite2 (fun h2 => ⟨_, _, 1, 2, rfl, t3.same (s1.trans s2), qb ?_ (q H2 (s1.trans s2))⟩) (fun h2 => qb ?_ (q H2 (s1.trans s2)))
          · simp only [bakFormB, h1, h2, Bool.true_and]
          · simp only [bakFormB, h1, Bool.eq_false_iff.mpr h2, Bool.true_and, Bool.false_and]
        · simp only [bakFormB, Bool.eq_false_iff.mpr h1, Bool.false_and]
    | _ => exact q H (Same.refl _)
abbrev s_has_good_form : Stmt := top 19
theorem sc_has_good_form : FnScope ["thing", "many", "days", "life"] ["thing", "many"] (defScope s_has_good_form) := ⟨rfl, rfl, rfl, by decide +kernel, rfl, by decide +kernel, by decide +kernel⟩
def spGoodForm (K : PySem.W.Frag) : Sp := fun vs H Q _ => ∃ x d, ∃ n : Nat, vs = [x, .int (n : Int)] ∧ Th K H x d ∧ ∀ H', Same H H' → Q (.bl (goodFormB n d)) H'
theorem ok_has_good_form {f : Addr} {fd : FuncData} (F : Fun K "has_good_form" "has_good_form" s_has_good_form f fd) (D_is_tuple_of : Def P w K mg base "is_tuple_of" 1 ["thing", "many"] (spTupleOf K)) (D_is_life : Def P w K mg base "is_life" 3 ["thing"] (spPred K lifeB))
    (D_is_list_of : Def P w K mg base "is_list_of" 1 ["thing", "fewest", "most"] (spListOf K)) :
    FnOk P w K mg base CX0 4 f fd ["thing", "many"] (spGoodForm K) := by
  refine F.ok sc_has_good_form (fun vs H Q E h => ?_) (fun cdv A outer s H vs Q E hr h => ?_)
  · obtain ⟨x, d, n, rfl, _⟩ := h
    rfl
  · obtain ⟨x, d, n, rfl, hx, q⟩ := h
    refine ⟨_, (pss_cons (ps_if (pt_not (pt_val (pe_callD D_is_tuple_of hr (by rfl) (pa_cons (pv 0) (pa_cons pe_int pa_nil))))) (pss_one (ps_ret pe_bl)) pss_nil)
 (pss_cons (ps_asg (pv 0) (pg_tup rfl (pgs_cons (pg_name (i := 2) sc_has_good_form.nd rfl (Or.inl rfl)) (pgs_cons (pg_name (i := 3) sc_has_good_form.nd rfl (Or.inl rfl)) pgs_nil))))
 (pss_one (ps_ret (pe_and (pe_callD D_is_list_of hr (by rfl) (pa_cons (pv 2) (pa_cons (pv 1) (pa_cons (pv 1) pa_nil)))) (pe_one (pe_callD D_is_life hr (by rfl) (pa_cons (pv 3) pa_nil)))))))), ?_⟩
    walk_at "wp"
    refine ⟨x, d, 2, rfl, hx, ?_⟩
    walk_at "wp"
    cases hx with
    | tup hs ha =>
      rename_i a xs ds
      refine ite2 (fun h => ?_) (fun h => ?_)
      · refine qb ?_ (q H (Same.refl _))
        have h4 : ¬ ds.length = 2 := of_decide_eq_false (Bool.eq_false_iff.mpr fun z => by rw [show tupB 2 (.tuple ds) = true from z] at h; cases h)
        symm
        match ds, h4 with
        | [], _ => rfl
        | [_], _ => rfl
        | [_, _], h4 => exact absurd rfl h4
        | _ :: _ :: _ :: _, _ => rfl
      · have h4 : ds.length = 2 := of_decide_eq_true (show tupB 2 (.tuple ds) = true by cases e : tupB 2 (.tuple ds) with | true => rfl | false => rw [e] at h; exact absurd rfl h)
        obtain ⟨d1, d2, rfl⟩ := two h4
        cases ha with
        | cons t1 ha => cases ha with
        | cons t2 ha =>
        cases ha
        rename_i v1 v2
        walk_at "wp"
        refine ⟨_, hs, rfl, ?_⟩
        walk_at "wp"
        refine ⟨_, _, n, n, rfl, t1, ?_⟩
        walk_at "wp"
        refine ite2 (fun h1 => ⟨_, _, rfl, t2, fun H2 s2 => qb ?_ (q H2 s2)⟩) (fun h1 => qb ?_ (q H (Same.refl _)))
        · simp only [goodFormB, h1, Bool.true_and]
        · simp only [goodFormB, Bool.eq_false_iff.mpr h1, Bool.false_and]
    | _ => exact q H (Same.refl _)
abbrev s_look_at_goods : Stmt := top 20
theorem sc_look_at_goods : FnScope ["goods", "many", "number", "good", "days", "life", "at", "day"] ["goods", "many"] (defScope s_look_at_goods) := ⟨rfl, rfl, rfl, by decide +kernel, rfl, by decide +kernel, by decide +kernel⟩
def spLookGoods (K : PySem.W.Frag) : Sp := fun vs H Q _ => ∃ x, ∃ n : Nat, ∃ gs, vs = [x, .int (n : Int)] ∧ Th K H x (.list gs) ∧ gs.all (goodB n) = true ∧ ∀ H', Same H H' → Q .non H'
def LgI (x : V) (n : Nat) (H : Hp) (_ : Nat) (σ : L2.St) (H' : Hp) : Prop := (∃ y2 y3 y4 y5 y6 y7, σ = [some x, some (.int (n : Int)), y2, y3, y4, y5, y6, y7]) ∧ Same H H'
def LgJ (x : V) (n : Nat) (v2 v3 v4 v5 : V) (H : Hp) (_ : Nat) (σ : L2.St) (H' : Hp) : Prop := (∃ y6 y7, σ = [some x, some (.int (n : Int)), some v2, some v3, some v4, some v5, y6, y7]) ∧ Same H H'
theorem ok_look_at_goods {f : Addr} {fd : FuncData} (F : Fun K "look_at_goods" "look_at_goods" s_look_at_goods f fd) (B : Bi mg) (D_has_good_form : Def P w K mg base "has_good_form" 4 ["thing", "many"] (spGoodForm K)) (D_is_day : Def P w K mg base "is_day" 3 ["thing"] (spPred K dayB)) :
    FnOk P w K mg base CX0 5 f fd ["goods", "many"] (spLookGoods K) := by
  refine F.ok sc_look_at_goods (fun vs H Q E h => ?_) (fun cdv A outer s H vs Q E hr h => ?_)
  · obtain ⟨x, n, gs, rfl, _⟩ := h
    rfl
  · obtain ⟨x, n, gs, rfl, hx, hg, q⟩ := h
    refine ⟨_, (pss_one (ps_for PassesOwn.never rfl (pi_enum (by rfl) B.enumerate (pa_cons (pv 0) pa_nil)) (pg_tup rfl (pgs_cons (pg_name (i := 2) sc_look_at_goods.nd rfl (Or.inl rfl)) (pgs_cons (pg_name (i := 3) sc_look_at_goods.nd rfl (Or.inl rfl)) pgs_nil))) (pss_cons (ps_if (pt_not (pt_val (pe_callD D_has_good_form hr (by rfl) (pa_cons (pv 3) (pa_cons (pv 1) pa_nil))))) (pss_one ps_never) pss_nil)
 (pss_cons (ps_asg (pv 3) (pg_tup rfl (pgs_cons (pg_name (i := 4) sc_look_at_goods.nd rfl (Or.inl rfl)) (pgs_cons (pg_name (i := 5) sc_look_at_goods.nd rfl (Or.inl rfl)) pgs_nil))))
 (pss_one (ps_for PassesOwn.never rfl (pi_enum (by rfl) B.enumerate (pa_cons (pv 4) pa_nil)) (pg_tup rfl (pgs_cons (pg_name (i := 6) sc_look_at_goods.nd rfl (Or.inl rfl)) (pgs_cons (pg_name (i := 7) sc_look_at_goods.nd rfl (Or.inl rfl)) pgs_nil))) (pss_one (ps_if (pt_not (pt_val (pe_callD D_is_day hr (by rfl) (pa_cons (pv 7) pa_nil)))) (pss_one ps_never) pss_nil)))))))), ?_⟩
    cases hx with
    | lst hs ha =>
    rename_i a xs
    walk_at "wp"
    refine ⟨_, hs, LoopR.by walk_enum (LgI (.ref a) n H) ⟨⟨_, _, _, _, _, _, rfl⟩, Same.refl _⟩ (fun i σ H' _ hI => hI.2.seq hs) (fun i v σ H0 H1 hi hI hY => ?_) (fun σ H' hI => q _ hI.2)⟩
    obtain ⟨⟨y2, y3, y4, y5, y6, y7, rfl⟩, S0⟩ := hI
    have S1 := S0.trans (ypair_same hY)
    obtain ⟨T, z1, z2, rfl, hT, rfl, e1, e2⟩ := hY
    cases e1
    have e2 : xs[i]? = some z2 := e2
    obtain ⟨d, hd, hz⟩ := ha.get e2
    have hdg : goodB n d = true := List.all_eq_true.mp hg d (List.mem_of_getElem? hd)
    obtain ⟨ds, l, rfl, hdl, hlf, hda⟩ := goodB_inv hdg
    walk_at "wp"
    refine ⟨_, SqT.of upd_same, rfl, ?_⟩
    walk_at "wp"
    refine ⟨_, _, n, rfl, hz.same S1, fun H2 S2 => ?_⟩
    rw [show goodFormB n (.tuple [.list ds, l]) = true by simp only [goodFormB, listB, hdl, hlf]; simp]
    walk_at "wp"
    have S3 := S1.trans S2
    have hz3 := hz.same S3
    cases hz3 with
    | tup ht hta =>
    rename_i b ys
    cases hta with
    | cons t1 hta => cases hta with
    | cons t2 hta =>
    cases hta
    rename_i v1 v2
    cases t1 with
    | lst hl1 hl2 =>
    rename_i c zs
    walk_at "wp"
    refine ⟨_, ht, rfl, ?_⟩
    walk_at "wp"
    refine ⟨_, hl1, LoopR.by walk_enum (LgJ (.ref a) n _ _ _ _ H2) ⟨⟨_, _, rfl⟩, Same.refl _⟩ (fun i σ H' _ hI => hI.2.seq hl1) (fun j v σ H4 H5 hj hI hY => ?_) (fun σ H' hI => ?_)⟩
    · obtain ⟨⟨y6, y7, rfl⟩, S4⟩ := hI
      have S5 := S4.trans (ypair_same hY)
      obtain ⟨T2, z3, z4, rfl, hT2, rfl, e3, e4⟩ := hY
      cases e3
      have e4 : zs[j]? = some z4 := e4
      obtain ⟨d2, hd2, hz2⟩ := hl2.get e4
      have hdd : dayB d2 = true := List.all_eq_true.mp hda d2 (List.mem_of_getElem? hd2)
      walk_at "wp"
      refine ⟨_, SqT.of upd_same, rfl, ?_⟩
      walk_at "wp"
      refine ⟨_, _, rfl, hz2.same S5, fun H6 S6 => ?_⟩
      rw [hdd]
      walk_at "wp"
      exact ⟨⟨_, _, rfl⟩, S5.trans S6⟩
    · obtain ⟨⟨y6, y7, rfl⟩, S4⟩ := hI
      exact ⟨⟨_, _, _, _, _, _, rfl⟩, S3.trans S4⟩
abbrev s_look_at_bakery : Stmt := top 21
theorem sc_look_at_bakery : FnScope ["thing", "lights", "bound", "goods"] ["thing"] (defScope s_look_at_bakery) := ⟨rfl, rfl, rfl, by decide +kernel, rfl, by decide +kernel, by decide +kernel⟩
def spLook (K : PySem.W.Frag) : Sp := fun vs H Q _ => ∃ x d, vs = [x] ∧ Th K H x d ∧ bakB d = true ∧ ∀ H', Same H H' → Q .non H'
theorem ok_look_at_bakery {f : Addr} {fd : FuncData} (F : Fun K "look_at_bakery" "look_at_bakery" s_look_at_bakery f fd) (B : Bi mg) (D_has_bakery_form : Def P w K mg base "has_bakery_form" 4 ["thing"] (spPred K bakFormB)) (D_look_at_goods : Def P w K mg base "look_at_goods" 5 ["goods", "many"] (spLookGoods K)) :
    FnOk P w K mg base CX0 6 f fd ["thing"] (spLook K) := by
  refine F.ok sc_look_at_bakery (fun vs H Q E h => ?_) (fun cdv A outer s H vs Q E hr h => ?_)
  · obtain ⟨x, d, rfl, _⟩ := h
    rfl
  · obtain ⟨x, d, rfl, hx, hb, q⟩ := h
    refine ⟨_, (pss_cons (ps_if (pt_not (pt_val (pe_callD D_has_bakery_form hr (by rfl) (pa_cons (pv 0) pa_nil)))) (pss_one ps_never) pss_nil)
 (pss_cons (ps_asg (pv 0) (pg_tup rfl (pgs_cons (pg_name (i := 1) sc_look_at_bakery.nd rfl (Or.inl rfl)) (pgs_cons (pg_name (i := 2) sc_look_at_bakery.nd rfl (Or.inl rfl)) (pgs_cons (pg_name (i := 3) sc_look_at_bakery.nd rfl (Or.inl rfl)) pgs_nil)))))
 (pss_one (ps_expr (pe_callD D_look_at_goods hr (by rfl) (pa_cons (pv 3) (pa_cons (pe_callB call_lnL (by rfl) B.len (by decide +kernel) (pa_cons (pv 1) pa_nil)) pa_nil))))))), ?_⟩
    walk_at "wp"
    refine ⟨_, _, rfl, hx, fun H1 S1 => ?_⟩
    obtain ⟨ls, b, gs, rfl, h1, h2, h3, h4⟩ := bakB_inv hb
    rw [show bakFormB (.tuple [.list ls, b, .list gs]) = true by simp only [bakFormB, h1, h2, h3, Bool.and_self]]
    walk_at "wp"
    have hx1 := hx.same S1
    cases hx1 with
    | tup ht hta =>
    cases hta with
    | cons t1 hta => cases hta with
    | cons t2 hta => cases hta with
    | cons t3 hta =>
    cases hta
    cases t1 with
    | lst hl1 hl2 =>
    walk_at "wp"
    refine ⟨_, ht, rfl, ?_⟩
    walk_at "wp"
    refine ⟨_, hl1, _, ls.length, gs, by rw [hl2.length], t3, h4, fun H2 S2 => q _ (S1.trans S2)⟩
abbrev s_is_place : Stmt := top 22
theorem sc_is_place : FnScope ["thing", "many"] ["thing", "many"] (defScope s_is_place) := ⟨rfl, rfl, rfl, by decide +kernel, rfl, by decide +kernel, by decide +kernel⟩
def spPlace (K : PySem.W.Frag) : Sp := fun vs H Q _ => ∃ i : Int, ∃ n : Nat, vs = [.int i, .int (n : Int)] ∧ Q (.bl (decide (0 ≤ i) && decide (i < (n : Int)))) H
theorem ok_is_place {f : Addr} {fd : FuncData} (F : Fun K "is_place" "is_place" s_is_place f fd) (D_is_whole : Def P w K mg base "is_whole" 1 ["thing"] (spWhole K)) : FnOk P w K mg base CX0 2 f fd ["thing", "many"] (spPlace K) := by
  refine F.ok sc_is_place (fun vs H Q E h => ?_) (fun cdv A outer s H vs Q E hr h => ?_)
  · obtain ⟨i, n, rfl, _⟩ := h
    rfl
  · obtain ⟨i, n, rfl, q⟩ := h
    refine ⟨_, (pss_one (ps_ret (pe_and (pe_callD D_is_whole hr (by rfl) (pa_cons (pv 0) pa_nil)) (pe_one (pe_chain op_le op_lt pe_int (pv 0) (pv 1)))))), ?_⟩
    walk_at "wp"
    refine ⟨_, _, rfl, .int i, ?_⟩
    simp only [wholeD]
    walk_at "wp"
    refine ite2 (fun h => qb ?_ q) (fun h => qb ?_ q)
    · rw [h, Bool.true_and]
    · rw [Bool.eq_false_iff.mpr h, Bool.false_and]
end
end Bk

namespace Bk
open PySem PySem.Spec PyProof.Rows L2
local macro_rules | `(tactic| walk_at "wp") => `(tactic| try simp only [tNever, tFor_eq, tLc_eq, iList, iTup, iRng1_eq, rRng1_i, iRng2_eq, rRng2_i, iEnum_eq, rEnum_r, iZip_eq, rZip_r, tSl, tPart, tNoPart, rSlL_r, rCat_r, rIn_r, gTup_r, gUnl_r, rInt1_b, rInt1_i, rRep_r, tStep_r, scal, tSeq, tNext, tAsg, tRet, tRetN, tIfS, tDrop, tCB, tCons, tNil, tVar, tOp, tUn, tC, rU_i, rI_ii, rI0_ii, rEq, rNe, tTest, tB, tAnd, tOr, tNot, tAndV, tOrV, tNotV, tIf, tChain, tLst, tTup, tBM, tBM0, rAppend_r, rIxL_r, rIxT_r, rMx_ii, rMn_ii, rLnL_r, rLnT_r, rIsD_int, rIsD_bool, rIsD_list, rIsD_tuple, tCall, gName, gNil_n, gCons_c, cxK, L2.start, List.map, List.replicate, List.length_cons, List.length_nil, List.cons_append, List.nil_append, List.append_nil, List.getElem?_cons_zero, List.getElem?_cons_succ, Option.some.injEq, exists_eq_left', exists_eq_left, V.int.injEq, V.bl.injEq, V.str.injEq, V.ref.injEq, List.cons.injEq, and_true, true_and, and_self, List.set, wipe, rAll_r, rSum_r, reduceCtorEq, decide_true, decide_false, reduceIte, ite_true, ite_false, if_true, if_false, Bool.false_eq_true, Bool.not_true, Bool.not_false])
local macro_rules | `(tactic| walk_at "shaped") => `(tactic| (simp only [SeqAt.shaped, PyData.canLay0, PyData.canLayAll0, PyData.depth, PyData.depthAll]; rfl))
local macro_rules | `(tactic| walk_at "lay") => `(tactic| (simp only [PyData.canLay0, PyData.canLayAll0]; rfl))
section
variable {P : Program} {w : World} {K : PySem.W.Frag} {mg : Str → Option Value} {base : Heap}
abbrev s_numbers : Stmt := top 36
theorem sc_numbers : FnScope ["_law_cell", "_law_salt", "_law_sizes", "_law_number", "_law_left", "_law_found", "_law_k", "_law_one"] ["_law_cell", "_law_salt", "_law_sizes"] (defScope s_numbers) := ⟨rfl, rfl, rfl, by decide +kernel, rfl, by decide +kernel, by decide +kernel⟩
/-- digits: one below each size -/
def Digs (zs fs : List Int) : Prop := fs.length = zs.length ∧ ∀ (i : Nat) (f z : Int), fs[i]? = some f → zs[i]? = some z → 0 ≤ f ∧ f < z
def spNumbers (K : PySem.W.Frag) : Sp := fun vs H Q _ => ∃ (c s : Int) (a : Addr) (zs : List Int), vs = [.int c, .int s, .ref a] ∧ SqL K H a (zs.map V.int) ∧ 0 ≤ s ∧ s ≤ 1000000 ∧ zs.length ≤ 1000 ∧ (∀ z ∈ zs, 0 < z ∧ z.natAbs < 2 ^ 200) ∧
  ∀ H' p fs, Same H H' → H p = none → Digs zs fs → H' p = some (.lst (fs.map V.int)) → Q (.ref p) H'
def NumI (H : Hp) (c s n : Int) (a p : Addr) (zs : List Int) (i : Nat) (σ : L2.St) (H' : Hp) : Prop := ∃ (l : Int) (fs : List Int) (y6 y7 : Option V), σ = [some (.int c), some (.int s), some (.ref a), some (.int n), some (.int l), some (.ref p), y6, y7] ∧ 0 ≤ l ∧ Same H H' ∧ H' p = some (.lst (fs.map V.int)) ∧ fs.length = i ∧
  ∀ (j : Nat) (f z : Int), fs[j]? = some f → zs[j]? = some z → 0 ≤ f ∧ f < z
theorem NumI.next {H H' : Hp} {c s n l x z : Int} {a p : Addr} {zs fs : List Int} {y6 y7 : Option V} (hp : H p = none) (hl : 0 ≤ l) (sm : Same H H') (hb : ∀ (j : Nat) (f z : Int), fs[j]? = some f → zs[j]? = some z → 0 ≤ f ∧ f < z) (g : zs[fs.length]? = some z) (h0 : 0 ≤ x) (h1 : x < z) :
    NumI H c s n a p zs (fs.length + 1) [some (.int c), some (.int s), some (.ref a), some (.int n), some (.int l), some (.ref p), y6, y7] (upd H' p (.lst (fs.map V.int ++ [.int x]))) := by
  refine ⟨l, fs ++ [x], y6, y7, rfl, hl, same_mut sm hp, by rw [upd_same, List.map_append]; rfl, by rw [List.length_append]; rfl, fun j f w e1 e2 => ?_⟩
  by_cases hj : j < fs.length
  · rw [List.getElem?_append_left hj] at e1
    exact hb j f w e1 e2
  · rw [List.getElem?_append_right (by omega)] at e1
    have ej : j - fs.length = 0 := by
      cases q : j - fs.length with
      | zero => rfl
      | succ m => rw [q] at e1; simp at e1
    have ej2 : j = fs.length := by omega
    subst ej2
    rw [ej] at e1
    have e3 : x = f := Option.some.inj e1
    have e4 : z = w := Option.some.inj (g.symm.trans e2)
    subst e3 e4
    exact ⟨h0, h1⟩
theorem ok_numbers {f : Addr} {fd : FuncData} {k : Nat} (F : Fun K "_law_numbers" "_law_numbers" s_numbers f fd) (B : Bi mg) : FnOk P w K mg base CX0 (k + 1) f fd ["_law_cell", "_law_salt", "_law_sizes"] (spNumbers K) := by
  refine F.ok sc_numbers (fun vs H Q E h => ?_) (fun cdv A outer s H vs Q E hr h => ?_)
  · obtain ⟨c, s, a, zs, rfl, _⟩ := h
    rfl
  · obtain ⟨c, s, a, zs, rfl, hS, hs0, hs1, hlen, hz, q⟩ := h
    refine ⟨_, (pss_cons (ps_set (i := 3) sc_numbers.nd rfl (Or.inl rfl) (pe_callB (call_mx rfl) (by rfl) B.max (by decide +kernel) (pa_cons (pv 0) (pa_cons (pe_op op_sub (pe_un un_neg pe_int) (pv 0)) pa_nil))))
 (pss_cons (ps_set (i := 4) sc_numbers.nd rfl (Or.inl rfl) (pv 3))
 (pss_cons (ps_set (i := 5) sc_numbers.nd rfl (Or.inl rfl) (pe_lst pa_nil))
 (pss_cons (ps_for PassesOwn.never rfl (pi_range1 (by rfl) B.range (pa_cons (pe_callB call_lnL (by rfl) B.len (by decide +kernel) (pa_cons (pv 2) pa_nil)) pa_nil)) (pg_name (i := 6) sc_numbers.nd rfl (Or.inl rfl)) (pss_one (ps_if (PW.pt (pw_and (pt_cmpR op_ge (pv 3) (pe_op op_pow pe_int pe_int) (nomark _)) (pw_and1 (pt_cmpR op_gt (pv 4) pe_int (nomark _))))) (pss_cons (ps_expr (pe_bm PySem.F.plainAttrs_list PySem.F.slot_list_append PySem.F.type_list_append mt_append (pv 5) (pa_cons (pe_op op_mod (pv 4) (pe_ix ix_list (pv 2) (pv 6) (fun _ _ => rfl))) pa_nil)))
 (pss_one (ps_set (i := 4) sc_numbers.nd rfl (Or.inl rfl) (pe_op op_fdivW (pv 4) (pe_ix ix_list (pv 2) (pv 6) (fun _ _ => rfl)))))) (pss_cons (ps_set (i := 7) sc_numbers.nd rfl (Or.inl rfl) (pe_op op_mod (pe_op op_pow (pe_op op_add (pe_op op_add (pe_op op_mod (pv 3) pe_int) (pe_op op_mul pe_int (pv 1))) pe_int) pe_int) pe_int))
 (pss_cons (ps_set (i := 7) sc_numbers.nd rfl (Or.inl rfl) (pe_op op_mod (pe_op op_mul (pe_op op_add (pv 7) (pe_op op_mul pe_int (pe_op op_add (pv 6) pe_int))) (pe_op op_add (pv 6) pe_int)) pe_int))
 (pss_cons (ps_set (i := 7) sc_numbers.nd rfl (Or.inl rfl) (pe_op op_mod (pe_op op_mul (pe_op op_mod (pe_op op_pow (pv 7) pe_int) pe_int) pe_int) pe_int))
 (pss_one (ps_expr (pe_bm PySem.F.plainAttrs_list PySem.F.slot_list_append PySem.F.type_list_append mt_append (pv 5) (pa_cons (pe_op op_mod (pe_op op_fdivW (pv 7) pe_int) (pe_ix ix_list (pv 2) (pv 6) (fun _ _ => rfl))) pa_nil))))))))))
 (pss_one (ps_ret (pv 5))))))), ?_⟩
    walk_at "wp"
    refine ⟨Nat.zero_le _, fun p hp => ?_⟩
    have hn0 : 0 ≤ (if -1 - c > c then -1 - c else c) := by split <;> omega
    generalize (if -1 - c > c then -1 - c else c) = n at hn0 ⊢
    refine ⟨_, hS.upd_ hp, by omega, by rw [List.length_map]; omega, ?_⟩
    rw [show (((zs.map V.int).length : Nat) : Int).toNat = zs.length by rw [List.length_map]; omega]
    refine LoopR.by walk_range (NumI H c s n a p zs) ⟨n, [], none, none, rfl, hn0, same_upd hp, upd_same, rfl, fun j f z e => by simp at e⟩ (fun _ _ _ _ _ => trivial) (fun i v σ H0 H' hi hI hY => ?_) (fun σ H' hI => ?_)
    · obtain ⟨l, fs, y6, y7, e, hl, sm, hf, hfl, hb⟩ := hI
      subst e
      obtain ⟨rfl, rfl⟩ := hY
      have g : zs[i]? = some zs[i] := List.getElem?_eq_getElem hi
      obtain ⟨hz0, hz1⟩ := hz _ (List.getElem_mem hi)
      generalize zs[i] = z at g hz0 hz1
      subst hfl
      have hA : SqL K H' a (zs.map V.int) := sm.seq hS
      have ga : atI (zs.map V.int) (0 + (fs.length : Int)) = some (.int z) := atI_map (by omega) (by rw [show (0 + (fs.length : Int)).toNat = fs.length by omega]; exact g)
      have sz : (fs.map V.int).length < sizeLine := sz100l (by rw [List.length_map]; omega)
      have hz9 : CDivW l z := wide_div hz0 hz1 (by decide) (by decide)
      walk_at "wp"
      refine ⟨⟨by decide, by decide, by decide⟩, ?_⟩
      have hB : ∀ o, SqL K (upd H' p o) a (zs.map V.int) := fun o => (same_mut sm hp).seq hS
      have p2 : NumI H c s n a p zs (fs.length + 1) [some (.int c), some (.int s), some (.ref a), some (.int n), some (.int (l / z)), some (.ref p), some (.int (0 + (fs.length : Int))), y7] (upd H' p (.lst (fs.map V.int ++ [.int (l % z)]))) :=
        NumI.next hp (Int.ediv_nonneg hl (by omega)) sm hb g (Int.emod_nonneg _ (by omega)) (Int.emod_lt_of_pos _ hz0)
      have p1 : ∀ (x : Int) (y7 : Option V), NumI H c s n a p zs (fs.length + 1) [some (.int c), some (.int s), some (.ref a), some (.int n), some (.int l), some (.ref p), some (.int (0 + (fs.length : Int))), y7] (upd H' p (.lst (fs.map V.int ++ [.int (x % z)]))) := fun x y7 =>
        NumI.next hp hl sm hb g (Int.emod_nonneg _ (by omega)) (Int.emod_lt_of_pos _ hz0)
      have m1 : 0 ≤ n % 2147483629 ∧ n % 2147483629 < 2147483629 := ⟨Int.emod_nonneg _ (by decide), Int.emod_lt_of_pos _ (by decide)⟩
      have m2 : ∀ x : Int, 0 ≤ x % 2147483629 ∧ x % 2147483629 < 2147483629 := fun x => ⟨Int.emod_nonneg _ (by decide), Int.emod_lt_of_pos _ (by decide)⟩
      have cp : ∀ x : Int, CPow (x % 2147483629) 5 := fun x => ⟨by decide, by decide, by have := m2 x; omega⟩
      have key : ∀ {R : Prop}, (∀ x : Int, ∃ xs v, SqL K H' a xs ∧ atI xs (0 + (fs.length : Int)) = some v ∧ R) → True := fun _ => trivial
      refine ite2 (fun _ => ite2 (fun _ => ?_) (fun _ => ?_)) (fun _ => ?_)
      · refine ⟨tyL (SqL.of hf), _, _, hA, ga, ?_⟩
        walk_at "wp"
        refine ⟨hz0, _, hf, sz, _, _, hB _, ga, ?_⟩
        walk_at "wp"
        exact ⟨hz9, p2⟩
      all_goals
        refine ⟨by decide, .inl ⟨by decide, by decide⟩, ⟨by decide, by decide, by omega⟩, by decide, .inl ⟨by decide, by decide⟩, .inr ⟨by omega, by omega⟩, by decide, cp _, by decide, .inr ⟨by decide, by decide⟩, by decide, tyL (SqL.of hf), wide_div (b := 10) (by decide) (by decide) (by decide) (by decide), _, _, hA, ga, ?_⟩
        walk_at "wp"
        exact ⟨hz0, _, hf, sz, p1 _ _⟩
    · obtain ⟨l, fs, y6, y7, e, hl, sm, hf, hfl, hb⟩ := hI
      subst e
      exact ⟨_, rfl, q H' p fs sm hp ⟨hfl, hb⟩ hf⟩
abbrev s_cell_at : Stmt := top 35
theorem sc_cell_at : FnScope ["_law_script", "_law_k"] ["_law_script", "_law_k"] (defScope s_cell_at) := ⟨rfl, rfl, rfl, by decide +kernel, rfl, by decide +kernel, by decide +kernel⟩
def spCellAt (K : PySem.W.Frag) : Sp := fun vs H Q _ => ∃ (a : Addr) (ns : List Int) (i : Nat), vs = [.ref a, .int (i : Int)] ∧ SqL K H a (ns.map V.int) ∧ ∀ c : Int, Q (.int c) H
theorem ok_cell_at {f : Addr} {fd : FuncData} (F : Fun K "_law_cell_at" "_law_cell_at" s_cell_at f fd) (B : Bi mg) : FnOk P w K mg base CX0 1 f fd ["_law_script", "_law_k"] (spCellAt K) := by
  refine F.ok sc_cell_at (fun vs H Q E h => ?_) (fun cdv A outer s H vs Q E hr h => ?_)
  · obtain ⟨a, ns, i, rfl, _⟩ := h
    rfl
  · obtain ⟨a, ns, i, rfl, hS, q⟩ := h
    refine ⟨_, (pss_cons (ps_if (pt_cmpR op_lt (pv 1) (pe_callB call_lnL (by rfl) B.len (by decide +kernel) (pa_cons (pv 0) pa_nil)) (nomark _)) (pss_one (ps_ret (pe_ix ix_list (pv 0) (pv 1) (fun _ _ => rfl)))) pss_nil)
 (pss_one (ps_ret pe_int))), ?_⟩
    walk_at "wp"
    refine ⟨_, hS, ite2 (fun h => ?_) (fun h => q _)⟩
    have hi : i < ns.length := by have := of_decide_eq_true h; rw [List.length_map] at this; omega
    exact ⟨_, _, hS, atI_map (by omega) (by rw [Int.toNat_natCast]; exact List.getElem?_eq_getElem hi), q _⟩
abbrev s_day : Stmt := top 37
theorem sc_day : FnScope ["_law_digits", "_law_late", "_law_want", "_law_light", "_law_loaf", "_law_keep", "_law_fine", "_law_none", "_law_far"] ["_law_digits", "_law_late"] (defScope s_day) := ⟨rfl, rfl, rfl, by decide +kernel, rfl, by decide +kernel, by decide +kernel⟩
def spDay (K : PySem.W.Frag) : Sp := fun vs H Q _ => ∃ (a : Addr) (fs zs : List Int) (late : Bool), vs = [.ref a, .bl late] ∧ SqL K H a (fs.map V.int) ∧ fs.length = 7 ∧ (∀ f ∈ fs, 0 ≤ f ∧ f ≤ 1000000000) ∧
  ∀ H' p t (d : Day) (l : Int), Same H H' → H p = none → H t = none → H' p = some (.tup [.int l, .ref t]) → H' t = some (.tup [.int d.want, .int d.loaf, .int d.keep, optV d.fine]) → numD (.int l) = true → dayB (dayD d) = true → Q (.ref p) H'
theorem numD_of {i : Int} (h : 0 ≤ i ∧ i ≤ 1000000000) : numD (.int i) = true := by
  simp only [numD, Bool.and_eq_true, decide_eq_true_eq]
  exact h
theorem ok_day {f : Addr} {fd : FuncData} (F : Fun K "_law_day" "_law_day" s_day f fd) : FnOk P w K mg base CX0 1 f fd ["_law_digits", "_law_late"] (spDay K) := by
  refine F.ok sc_day (fun vs H Q E h => ?_) (fun cdv A outer s H vs Q E hr h => ?_)
  · obtain ⟨a, fs, zs, late, rfl, _⟩ := h
    rfl
  · obtain ⟨a, fs, zs, late, rfl, hS, h7, hb, q⟩ := h
    refine ⟨_, (pss_cons (ps_asg (pv 0) (pg_unl rfl (pgs_cons (pg_name (i := 2) sc_day.nd rfl (Or.inl rfl)) (pgs_cons (pg_name (i := 3) sc_day.nd rfl (Or.inl rfl)) (pgs_cons (pg_name (i := 4) sc_day.nd rfl (Or.inl rfl)) (pgs_cons (pg_name (i := 5) sc_day.nd rfl (Or.inl rfl)) (pgs_cons (pg_name (i := 6) sc_day.nd rfl (Or.inl rfl)) (pgs_cons (pg_name (i := 7) sc_day.nd rfl (Or.inl rfl)) (pgs_cons (pg_name (i := 8) sc_day.nd rfl (Or.inl rfl)) pgs_nil)))))))))
 (pss_cons (ps_if (pt_cmpR op_eq (pv 7) pe_int (nomark _)) (pss_one (ps_set (i := 2) sc_day.nd rfl (Or.inl rfl) pe_int)) pss_nil)
 (pss_cons (ps_if (PW.pt (pw_or (pt_cmpR op_lt (pv 8) pe_int (nomark _)) (pw_or1 (pt_not (pt_val (pv 1)))))) (pss_one (ps_set (i := 6) sc_day.nd rfl (Or.inl rfl) pe_non)) pss_nil)
 (pss_one (ps_ret (pe_tup (pa_cons (pv 3) (pa_cons (pe_tup (pa_cons (pv 2) (pa_cons (pv 4) (pa_cons (pv 5) (pa_cons (pv 6) pa_nil))))) pa_nil)))))))), ?_⟩
    obtain ⟨w1, l1, f1, k1, n1, o1, r1, rfl⟩ := seven h7
    have b1 := hb w1 (by simp)
    have b2 := hb l1 (by simp)
    have b3 := hb f1 (by simp)
    have b4 := hb k1 (by simp)
    have b5 := hb n1 (by simp)
    have fin : ∀ (w2 : Int) (o : Option Int), (w2 = w1 ∨ w2 = 0) → (o = some n1 ∨ o = none) → ∀ p, H p = none → ∀ p2, upd H p (.tup [.int w2, .int f1, .int k1, optV o]) p2 = none → Q (.ref p2) (upd (upd H p (.tup [.int w2, .int f1, .int k1, optV o])) p2 (.tup [.int l1, .ref p])) := by
      intro w2 o hw ho p hp p2 hp2
      have s2 := same_upd (o := .tup [.int l1, .ref p]) hp2
      refine q _ p2 p ⟨w2, f1, k1, o⟩ l1 ((same_upd hp).trans s2) ((same_upd hp).free hp2) hp upd_same (s2 _ _ upd_same) (numD_of b2) ?_
      have e1 : numD (.int w2) = true := by
        rcases hw with e | e
        · rw [e]
          exact numD_of b1
        · rw [e]
          rfl
      have e2 : (noneB (optD o) || numD (optD o)) = true := by
        rcases ho with e | e
        · rw [e]
          show (false || numD (.int n1)) = true
          rw [numD_of b5]
          rfl
        · rw [e]
          rfl
      simp only [dayD, dayB, e1, e2, numD_of b3, numD_of b4, Bool.and_self]
    walk_at "wp"
    refine ⟨_, hS, rfl, ?_⟩
    walk_at "wp"
    refine ite2 (fun h1 => ite2 (fun h2 => ?_) (fun h2 => ite2 (fun h3 => ?_) (fun h3 => ?_))) (fun h1 => ite2 (fun h2 => ?_) (fun h2 => ite2 (fun h3 => ?_) (fun h3 => ?_)))
    · exact ⟨sz100 (by decide), fun p hp => ⟨sz100 (by decide), fun p2 hp2 => fin 0 none (.inr rfl) (.inr rfl) p hp p2 hp2⟩⟩
    · exact ⟨sz100 (by decide), fun p hp => ⟨sz100 (by decide), fun p2 hp2 => fin 0 none (.inr rfl) (.inr rfl) p hp p2 hp2⟩⟩
    · exact ⟨sz100 (by decide), fun p hp => ⟨sz100 (by decide), fun p2 hp2 => fin 0 (some n1) (.inr rfl) (.inl rfl) p hp p2 hp2⟩⟩
    · exact ⟨sz100 (by decide), fun p hp => ⟨sz100 (by decide), fun p2 hp2 => fin w1 none (.inl rfl) (.inr rfl) p hp p2 hp2⟩⟩
    · exact ⟨sz100 (by decide), fun p hp => ⟨sz100 (by decide), fun p2 hp2 => fin w1 none (.inl rfl) (.inr rfl) p hp p2 hp2⟩⟩
    · exact ⟨sz100 (by decide), fun p hp => ⟨sz100 (by decide), fun p2 hp2 => fin w1 (some n1) (.inl rfl) (.inl rfl) p hp p2 hp2⟩⟩
abbrev s_days : Stmt := top 38
theorem sc_days : FnScope ["_law_script", "_law_first", "_law_upto", "_law_salt", "_law_late", "_law_wide", "_law_sizes", "_law_lights", "_law_days_here", "_law_k", "_law_light", "_law_day_here"] ["_law_script", "_law_first", "_law_upto", "_law_salt", "_law_late"] (defScope s_days) := ⟨rfl, rfl, rfl, by decide +kernel, rfl, by decide +kernel, by decide +kernel⟩
def spDays (K : PySem.W.Frag) : Sp := fun vs H Q _ => ∃ (a : Addr) (ns : List Int) (u : Nat) (s : Int) (late : Bool), vs = [.ref a, .int 1, .int (u : Int), .int s, .bl late] ∧ SqL K H a (ns.map V.int) ∧ ns.length ≤ 1000 ∧ u ≤ 41 ∧ 0 ≤ s ∧ s ≤ 100000 ∧
  ∀ (H' : Hp) (p l d : Addr) (ls : List Int) (ds : List Day), Same H H' → H p = none → H' p = some (.tup [.ref l, .ref d]) → Tk (newOf H H') (.ref l) (.list (ls.map PyData.int)) → Tk (newOf H H') (.ref d) (.list (ds.map dayD)) → ls.length = nDays u ns.length → ds.length = nDays u ns.length →
    (∀ z ∈ ls, numD (.int z) = true) → (∀ z ∈ ds, dayB (dayD z) = true) → Q (.ref p) H'
structure DaysI (K : PySem.W.Frag) (H H0 : Hp) (a sz L D : Addr) (u : Nat) (s : Int) (late wide : Bool) (i : Nat) (σ : L2.St) (H' : Hp) : Prop where
  ex : ∃ (ls : List Int) (ds : List Day) (xs : List V) (y9 y10 y11 : Option V), σ = [some (.ref a), some (.int 1), some (.int (u : Int)), some (.int s), some (.bl late), some (.bl wide), some (.ref sz), some (.ref L), some (.ref D), y9, y10, y11] ∧
    Same H0 H' ∧ H' L = some (.lst (ls.map V.int)) ∧ H' D = some (.lst xs) ∧ TkAll (newBut H L D H') xs (ds.map dayD) ∧ ls.length = i ∧ ds.length = i ∧ (∀ z ∈ ls, numD (.int z) = true) ∧ (∀ z ∈ ds, dayB (dayD z) = true)
theorem ok_days {f : Addr} {fd : FuncData} (F : Fun K "_law_days" "_law_days" s_days f fd) (B : Bi mg) (D_numbers : Def P w K mg base "_law_numbers" 1 ["_law_cell", "_law_salt", "_law_sizes"] (spNumbers K)) (D_cell_at : Def P w K mg base "_law_cell_at" 1 ["_law_script", "_law_k"] (spCellAt K)) (D_day : Def P w K mg base "_law_day" 1 ["_law_digits", "_law_late"] (spDay K)) :
    FnOk P w K mg base CX0 2 f fd ["_law_script", "_law_first", "_law_upto", "_law_salt", "_law_late"] (spDays K) := by
  refine F.ok sc_days (fun vs H Q E h => ?_) (fun cdv A outer s H vs Q E hr h => ?_)
  · obtain ⟨a, ns, u, s, late, rfl, _⟩ := h
    rfl
  · obtain ⟨a, ns, u, s, late, rfl, hS, hn, hu, hs0, hs1, q⟩ := h
    refine ⟨_, (pss_cons (ps_set (i := 5) sc_days.nd rfl (Or.inl rfl) (pe_cmpR op_eq (pe_ix ix_list (pe_callD D_numbers hr (by rfl) (pa_cons (pe_callD D_cell_at hr (by rfl) (pa_cons (pv 0) (pa_cons pe_int pa_nil))) (pa_cons (pv 3) (pa_cons (pe_lst (pa_cons pe_int pa_nil)) pa_nil)))) pe_int (fun _ _ => rfl)) pe_int (nomark _)))
 (pss_cons (ps_set (i := 6) sc_days.nd rfl (Or.inl rfl) (pe_op op_cat (pe_ix ix_list (pe_lst (pa_cons (pe_lst (pa_cons pe_int (pa_cons pe_int (pa_cons pe_int (pa_cons pe_int (pa_cons pe_int pa_nil)))))) (pa_cons (pe_op op_rep (pe_lst (pa_cons (pe_op op_add (pe_op op_pow pe_int pe_int) pe_int) pa_nil)) pe_int) pa_nil))) (pe_callTy call_in1 (by rfl) B.int (by decide +kernel) (pa_cons (pv 5) pa_nil)) (fun _ _ => rfl)) (pe_lst (pa_cons pe_int (pa_cons pe_int pa_nil)))))
 (pss_cons (ps_set (i := 7) sc_days.nd rfl (Or.inl rfl) (pe_lst pa_nil))
 (pss_cons (ps_set (i := 8) sc_days.nd rfl (Or.inl rfl) (pe_lst pa_nil))
 (pss_cons (ps_for PassesOwn.never rfl (pi_range2 (by rfl) B.range (pa_cons (pv 1) (pa_cons (pe_callB (call_mx rfl) (by rfl) B.max (by decide +kernel) (pa_cons (pe_op op_add (pv 1) pe_int) (pa_cons (pe_callB (call_mn rfl) (by rfl) B.min (by decide +kernel) (pa_cons (pv 2) (pa_cons (pe_callB call_lnL (by rfl) B.len (by decide +kernel) (pa_cons (pv 0) pa_nil)) pa_nil))) pa_nil))) pa_nil))) (pg_name (i := 9) sc_days.nd rfl (Or.inl rfl)) (pss_cons (ps_asg (pe_callD D_day hr (by rfl) (pa_cons (pe_callD D_numbers hr (by rfl) (pa_cons (pe_callD D_cell_at hr (by rfl) (pa_cons (pv 0) (pa_cons (pv 9) pa_nil))) (pa_cons (pe_op op_add (pv 3) (pv 9)) (pa_cons (pv 6) pa_nil)))) (pa_cons (pv 4) pa_nil))) (pg_tup rfl (pgs_cons (pg_name (i := 10) sc_days.nd rfl (Or.inl rfl)) (pgs_cons (pg_name (i := 11) sc_days.nd rfl (Or.inl rfl)) pgs_nil))))
 (pss_cons (ps_expr (pe_bm PySem.F.plainAttrs_list PySem.F.slot_list_append PySem.F.type_list_append mt_append (pv 7) (pa_cons (pv 10) pa_nil)))
 (pss_one (ps_expr (pe_bm PySem.F.plainAttrs_list PySem.F.slot_list_append PySem.F.type_list_append mt_append (pv 8) (pa_cons (pv 11) pa_nil)))))))
 (pss_one (ps_ret (pe_tup (pa_cons (pv 7) (pa_cons (pv 8) pa_nil)))))))))), ?_⟩
    walk_at "wp"
    refine ⟨a, ns, 0, rfl, hS, fun c => ⟨sz100 (by decide), fun p1 h1 => ?_⟩⟩
    refine ⟨c, s, p1, [3], rfl, SqL.of upd_same, hs0, by omega, by decide, by decide, fun H1 pd fs S1 hpd hD hfs => ?_⟩
    have S1 := (same_upd h1).trans S1
    obtain ⟨f0, rfl⟩ : ∃ f0, fs = [f0] := by
      match fs, hD.1 with
      | [f0], _ => exact ⟨f0, rfl⟩
    walk_at "wp"
    refine ⟨_, _, SqL.of hfs, atI_nat (j := 0) rfl, ?_⟩
    walk_at "wp"
    generalize decide (f0 = 0) = wide
    refine ⟨sz100 (by decide), fun p2 h2 => ⟨⟨by decide, by decide, by decide⟩, sz100 (by decide), fun p3 h3 => ?_⟩⟩
    have S2 := same_upd (o := .lst [V.int 5, V.int 13, V.int 6, V.int 4, V.int 4]) h2
    have E2 : upd H1 p2 (.lst [V.int 5, V.int 13, V.int 6, V.int 4, V.int 4]) p2 = some (.lst ([5, 13, 6, 4, 4].map V.int)) := upd_same
    generalize upd H1 p2 (.lst [V.int 5, V.int 13, V.int 6, V.int 4, V.int 4]) = H2 at S2 E2 h3 ⊢
    have S3 := same_upd (o := .lst [V.int (10 ^ Int.toNat 9 + 1)]) h3
    have E3 : upd H2 p3 (.lst [V.int (10 ^ Int.toNat 9 + 1)]) p3 = some (.lst [V.int (10 ^ Int.toNat 9 + 1)]) := upd_same
    generalize upd H2 p3 (.lst [V.int (10 ^ Int.toNat 9 + 1)]) = H3 at S3 E3 ⊢
    refine ⟨_, E3, by decide, by decide, sz100 (by show 1 * 5 ≤ 100000; decide), fun p4 h4 => ⟨sz100 (by decide), fun p5 h5 => ?_⟩⟩
    have S4 := same_upd (o := .lst (List.replicate (Int.toNat 5) [V.int (10 ^ Int.toNat 9 + 1)]).flatten) h4
    have E4 : upd H3 p4 (.lst (List.replicate (Int.toNat 5) [V.int (10 ^ Int.toNat 9 + 1)]).flatten) p4 = some (.lst ([1000000001, 1000000001, 1000000001, 1000000001, 1000000001].map V.int)) := upd_same
    generalize upd H3 p4 (.lst (List.replicate (Int.toNat 5) [V.int (10 ^ Int.toNat 9 + 1)]).flatten) = H4 at S4 E4 h5 ⊢
    have S5 := same_upd (o := .lst [V.ref p2, V.ref p4]) h5
    have E5 : upd H4 p5 (.lst [V.ref p2, V.ref p4]) p5 = some (.lst [V.ref p2, V.ref p4]) := upd_same
    generalize upd H4 p5 (.lst [V.ref p2, V.ref p4]) = H5 at S5 E5 ⊢
    have hpick : ∃ (pz : Addr) (z5 : List Int), atI [V.ref p2, V.ref p4] (if wide = true then 1 else 0) = some (V.ref pz) ∧ H5 pz = some (.lst (z5.map V.int)) ∧ z5.length = 5 ∧ ∀ z ∈ z5, 0 < z ∧ z ≤ 1000000001 := by
      cases wide with
      | false => exact ⟨p2, _, rfl, (S3.trans (S4.trans S5)) _ _ E2, rfl, by decide⟩
      | true => exact ⟨p4, _, rfl, S5 _ _ E4, rfl, by decide⟩
    obtain ⟨pz, z5, hz1, hz2, hz3, hz4⟩ := hpick
    refine ⟨_, _, SqL.of E5, hz1, sz100 (by decide), fun p6 h6 => ?_⟩
    have S6 := same_upd (o := .lst [V.int 4, V.int 5]) h6
    have E6 : upd H5 p6 (.lst [V.int 4, V.int 5]) p6 = some (.lst [V.int 4, V.int 5]) := upd_same
    generalize upd H5 p6 (.lst [V.int 4, V.int 5]) = H6 at S6 E6 ⊢
    walk_at "wp"
    refine ⟨_, _, S6 _ _ hz2, E6, sz100 (by rw [List.length_map, hz3]; decide), fun p7 h7 => ?_⟩
    have S7 := same_upd (o := .lst (z5.map V.int ++ [V.int 4, V.int 5])) h7
    have E7 : upd H6 p7 (.lst (z5.map V.int ++ [V.int 4, V.int 5])) p7 = some (.lst ((z5 ++ [4, 5]).map V.int)) := by rw [upd_same, List.map_append]; rfl
    generalize upd H6 p7 (.lst (z5.map V.int ++ [V.int 4, V.int 5])) = H7 at S7 E7 ⊢
    have hz5 : ∀ z ∈ z5 ++ [4, 5], 0 < z ∧ z ≤ 1000000001 := by
      intro z hz
      rcases List.mem_append.mp hz with h | h
      · exact hz4 z h
      · have : z = 4 ∨ z = 5 := by simpa using h
        omega
    have hz6 : (z5 ++ [4, 5]).length = 7 := by rw [List.length_append, hz3]; rfl
    generalize z5 ++ [4, 5] = szs at E7 hz5 hz6
    have SA : Same H H7 := S1.trans (S2.trans (S3.trans (S4.trans (S5.trans (S6.trans S7)))))
    clear S1 S2 S3 S4 S5 S6 S7 E2 E3 E4 E5 E6 hz1 hz2 hz3 hz4 h1 h2 h3 h4 h5 h6 h7 hpd hfs hD
    refine ⟨Nat.zero_le _, fun L hL => ⟨Nat.zero_le _, fun D hD => ?_⟩⟩
    have hLD : L ≠ D := fun z => by rw [z, upd_same] at hD; cases hD
    have hD0 : H7 D = none := (same_upd hL).free hD
    have SB : Same H7 (upd (upd H7 L (.lst [])) D (.lst [])) := (same_upd hL).trans (same_upd hD)
    have EL : upd (upd H7 L (.lst [])) D (.lst []) L = some (.lst []) := by rw [upd_ne hLD, upd_same]
    have ED : upd (upd H7 L (.lst [])) D (.lst []) D = some (.lst []) := upd_same
    generalize upd (upd H7 L (.lst [])) D (.lst []) = H8 at SB EL ED ⊢
    refine ⟨_, (SA.trans SB).seq hS, ⟨by decide, by decide, by omega, ?_⟩, ?_⟩
    · rw [List.length_map]
      split <;> split <;> omega
    · rw [List.length_map, show ((if (if (ns.length : Int) < (u : Int) then (ns.length : Int) else (u : Int)) > 1 + 1 then (if (ns.length : Int) < (u : Int) then (ns.length : Int) else (u : Int)) else 1 + 1) - 1).toNat = nDays u ns.length by unfold nDays; split <;> split <;> omega]
      refine LoopR.by walk_range (DaysI K H H7 a p7 L D u s late wide) ⟨⟨[], [], [], none, none, none, rfl, SB, EL, ED, .nil, rfl, rfl, (by intro _ h; cases h), (by intro _ h; cases h)⟩⟩ (fun _ _ _ _ _ => trivial) (fun i v σ H0 H' hi hI hY => ?_) (fun σ H' hI => ?_)
      · obtain ⟨rfl, rfl⟩ := hY
        obtain ⟨ls, ds, xs, y9, y10, y11, rfl, S9, E9, E10, hT, hll, hdl, hlb, hdb⟩ := hI.ex
        have hi40 : (i : Int) < 41 := by unfold nDays at hi; omega
        walk_at "wp"
        refine ⟨a, ns, 1 + i, congrArg (fun z => [V.ref a, V.int z]) (by omega), (SA.trans S9).seq hS, fun c => ?_⟩
        refine ⟨c, s + (1 + (i : Int)), p7, szs, rfl, S9.seq (SqL.of E7), by omega, by omega, by omega, fun z hz => ⟨(hz5 z hz).1, ?_⟩, fun H9 pd fs T1 hpd hDg hfs => ?_⟩
        · have := hz5 z hz
          exact Nat.lt_of_le_of_lt (show z.natAbs ≤ 1000000001 by omega) (by decide)
        refine ⟨pd, fs, [], late, rfl, SqL.of hfs, hDg.1.trans hz6, fun f hf => ?_, fun HA p t d l T2 hp ht Ep Et hl hd => ?_⟩
        · obtain ⟨j, hj, e⟩ := List.getElem_of_mem hf
          have h1 : j < szs.length := by rw [← hDg.1]; exact hj
          have h2 := hDg.2 j f szs[j] (by rw [List.getElem?_eq_getElem hj, e]) (List.getElem?_eq_getElem h1)
          have h3 := hz5 _ (List.getElem_mem h1)
          omega
        have T3 := T1.trans T2
        have EL2 := T3 _ _ E9
        have ED2 := T3 _ _ E10
        walk_at "wp"
        refine ⟨_, SqT.of Ep, rfl, ?_⟩
        walk_at "wp"
        have ED3 : upd HA L (.lst (ls.map V.int ++ [V.int l])) D = some (.lst xs) := by rw [upd_ne hLD.symm]; exact ED2
        have szl : (ls.map V.int).length < sizeLine := sz100l (by rw [List.length_map, hll]; omega)
        have szd : xs.length < sizeLine := sz100l (by rw [hT.length, List.length_map, hdl]; omega)
        refine ⟨tyL (SqL.of EL2), _, EL2, szl, tyL (SqL.of ED3), _, ED3, szd, ⟨ls ++ [l], ds ++ [d], _, _, _, _, rfl, ?_, ?_, upd_same, ?_, ?_, ?_, ?_, ?_⟩⟩
        · exact same_mut (same_mut (S9.trans T3) hL) hD0
        · rw [upd_ne hLD, upd_same, List.map_append]
          rfl
        · have htL : t ≠ L := ne_of Et EL2 (by intro z; cases z)
          have htD : t ≠ D := ne_of Et ED2 (by intro z; cases z)
          have hnt : H t = none := ((SA.trans S9).trans T1).free ht
          rw [List.map_append]
          refine (hT.same (newBut_mono fun b o h1 h2 e => ?_)).append (.cons ?_ .nil)
          · rw [upd_ne h2, upd_ne h1]
            exact T3 _ _ e
          · have e : newBut H L D (upd (upd HA L (.lst (ls.map V.int ++ [V.int l]))) D (.lst (xs ++ [V.ref t]))) t = some (.tup [.int d.want, .int d.loaf, .int d.keep, optV d.fine]) := newBut_at hnt htL htD (by rw [upd_ne htD, upd_ne htL]; exact Et)
            exact .tup e (.cons (.int _) (.cons (.int _) (.cons (.int _) (.cons (Tk.optV _) .nil))))
        · rw [List.length_append, hll]
          rfl
        · rw [List.length_append, hdl]
          rfl
        · intro z hz
          rcases List.mem_append.mp hz with h | h
          · exact hlb z h
          · rw [List.mem_singleton.mp h]
            exact hl
        · intro z hz
          rcases List.mem_append.mp hz with h | h
          · exact hdb z h
          · rw [List.mem_singleton.mp h]
            exact hd
      · obtain ⟨ls, ds, xs, y9, y10, y11, rfl, S9, E9, E10, hT, hll, hdl, hlb, hdb⟩ := hI.ex
        walk_at "wp"
        refine ⟨sz100 (by decide), fun p hp => ?_⟩
        have SP := same_upd (o := .tup [V.ref L, V.ref D]) hp
        have hL0 : H L = none := SA.free hL
        have hDn : H D = none := SA.free hD0
        refine q _ p L D ls ds ((SA.trans S9).trans SP) ((SA.trans S9).free hp) upd_same ?_ ?_ hll hdl hlb hdb
        · exact .lst (newOf_at hL0 (SP _ _ E9)) (TkAll.ints ls)
        · exact .lst (newOf_at hDn (SP _ _ E10)) (hT.same ((newBut_same _ _ _ _).trans (newOf_mono SP)))
abbrev s_two : Stmt := top 39
theorem sc_two : FnScope ["_law_script", "_law_upto", "_law_salt", "_law_head", "_law_lights", "_law_days_here", "_law_lives", "_law_goods", "_law_others"] ["_law_script", "_law_upto", "_law_salt"] (defScope s_two) := ⟨rfl, rfl, rfl, by decide +kernel, rfl, by decide +kernel, by decide +kernel⟩
def spTwo (K : PySem.W.Frag) : Sp := fun vs H Q _ => ∃ (a : Addr) (ns : List Int) (u : Nat) (s : Int), vs = [.ref a, .int (u : Int), .int s] ∧ SqL K H a (ns.map V.int) ∧ ns.length ≤ 63 ∧ u ≤ 41 ∧ 0 ≤ s ∧ s ≤ 10000 ∧
  ∀ (H' : Hp) (x : V) (b : Bak), Same H H' → Tk (newOf H H') x (bakD b) → bakB (bakD b) = true → b.lights.length = nDays u ns.length → Q x H'
def livesO : List (Option Int) := [none, none, some 0, some 1, some 2, some 3, some 4, some 5, some 7, some 11, some 23, some 40]
theorem lives_at {i : Int} (h0 : 0 ≤ i) (h1 : i < 12) : ∃ o, atI (livesO.map optV) i = some (optV o) ∧ lifeB (optD o) = true := by
  have hi : i.toNat < livesO.length := by
    show i.toNat < 12
    omega
  refine ⟨livesO[i.toNat], atI_of h0 (by rw [List.getElem?_map, List.getElem?_eq_getElem hi]; rfl), ?_⟩
  have : ∀ o ∈ livesO, lifeB (optD o) = true := by decide
  exact this _ (List.getElem_mem hi)
def boundsO : List (Option Int) := [none, some 1, some 2, some 3, some 4, some 5, some 6, some 1000000000, some 12]
theorem bounds_at {i : Int} (h0 : 0 ≤ i) (h1 : i < 9) : ∃ o, atI (boundsO.map optV) i = some (optV o) ∧ boundB (optD o) = true := by
  have hi : i.toNat < boundsO.length := by
    show i.toNat < 9
    omega
  refine ⟨boundsO[i.toNat], atI_of h0 (by rw [List.getElem?_map, List.getElem?_eq_getElem hi]; rfl), ?_⟩
  have : ∀ o ∈ boundsO, boundB (optD o) = true := by decide
  exact this _ (List.getElem_mem hi)
theorem ok_two {f : Addr} {fd : FuncData} (F : Fun K "_law_two" "_law_two" s_two f fd) (D_numbers : Def P w K mg base "_law_numbers" 1 ["_law_cell", "_law_salt", "_law_sizes"] (spNumbers K)) (D_cell_at : Def P w K mg base "_law_cell_at" 1 ["_law_script", "_law_k"] (spCellAt K)) (D_days : Def P w K mg base "_law_days" 2 ["_law_script", "_law_first", "_law_upto", "_law_salt", "_law_late"] (spDays K)) :
    FnOk P w K mg base CX0 3 f fd ["_law_script", "_law_upto", "_law_salt"] (spTwo K) := by
  refine F.ok sc_two (fun vs H Q E h => ?_) (fun cdv A outer s H vs Q E hr h => ?_)
  · obtain ⟨a, ns, u, s, rfl, _⟩ := h
    rfl
  · obtain ⟨a, ns, u, s, rfl, hS, hn, hu, hs0, hs1, q⟩ := h
    refine ⟨_, (pss_cons (ps_set (i := 3) sc_two.nd rfl (Or.inl rfl) (pe_callD D_numbers hr (by rfl) (pa_cons (pe_callD D_cell_at hr (by rfl) (pa_cons (pv 0) (pa_cons pe_int pa_nil))) (pa_cons (pv 2) (pa_cons (pe_lst (pa_cons pe_int (pa_cons pe_int (pa_cons pe_int (pa_cons pe_int (pa_cons pe_int (pa_cons pe_int (pa_cons pe_int pa_nil)))))))) pa_nil)))))
 (pss_cons (ps_asg (pe_callD D_days hr (by rfl) (pa_cons (pv 0) (pa_cons pe_int (pa_cons (pv 1) (pa_cons (pv 2) (pa_cons (pe_cmpR op_eq (pe_ix ix_list (pv 3) pe_int (fun _ _ => rfl)) pe_int (nomark _)) pa_nil)))))) (pg_tup rfl (pgs_cons (pg_name (i := 4) sc_two.nd rfl (Or.inl rfl)) (pgs_cons (pg_name (i := 5) sc_two.nd rfl (Or.inl rfl)) pgs_nil))))
 (pss_cons (ps_set (i := 6) sc_two.nd rfl (Or.inl rfl) (pe_lst (pa_cons pe_non (pa_cons pe_non (pa_cons pe_int (pa_cons pe_int (pa_cons pe_int (pa_cons pe_int (pa_cons pe_int (pa_cons pe_int (pa_cons pe_int (pa_cons pe_int (pa_cons pe_int (pa_cons pe_int pa_nil))))))))))))))
 (pss_cons (ps_set (i := 7) sc_two.nd rfl (Or.inl rfl) (pe_lst (pa_cons (pe_tup (pa_cons (pv 5) (pa_cons (pe_ix ix_list (pv 6) (pe_ix ix_list (pv 3) pe_int (fun _ _ => rfl)) (fun _ _ => rfl)) pa_nil))) pa_nil)))
 (pss_cons (ps_if (pt_cmpR op_gt (pe_ix ix_list (pv 3) pe_int (fun _ _ => rfl)) pe_int (nomark _)) (pss_cons (ps_set (i := 8) sc_two.nd rfl (Or.inl rfl) (pe_ix ix_tup (pe_callD D_days hr (by rfl) (pa_cons (pe_op op_cat (pe_slice sl_list (pv 0) po_none (po_some pe_int)) (pe_step (pv 0) po_none (po_some pe_int) (po_some (pe_un un_neg pe_int)))) (pa_cons pe_int (pa_cons (pv 1) (pa_cons (pe_op op_add (pv 2) pe_int) (pa_cons (pe_cmpR op_eq (pe_ix ix_list (pv 3) pe_int (fun _ _ => rfl)) pe_int (nomark _)) pa_nil)))))) pe_int (fun _ _ => rfl)))
 (pss_one (ps_expr (pe_bm PySem.F.plainAttrs_list PySem.F.slot_list_append PySem.F.type_list_append mt_append (pv 7) (pa_cons (pe_tup (pa_cons (pv 8) (pa_cons (pe_ix ix_list (pv 6) (pe_ix ix_list (pv 3) pe_int (fun _ _ => rfl)) (fun _ _ => rfl)) pa_nil))) pa_nil))))) pss_nil)
 (pss_one (ps_ret (pe_tup (pa_cons (pv 4) (pa_cons (pe_ix ix_list (pe_lst (pa_cons pe_non (pa_cons pe_int (pa_cons pe_int (pa_cons pe_int (pa_cons pe_int (pa_cons pe_int (pa_cons pe_int (pa_cons (pe_op op_pow pe_int pe_int) (pa_cons pe_int pa_nil)))))))))) (pe_ix ix_list (pv 3) pe_int (fun _ _ => rfl)) (fun _ _ => rfl)) (pa_cons (pv 7) pa_nil))))))))))), ?_⟩
    walk_at "wp"
    refine ⟨a, ns, 0, rfl, hS, fun c => ⟨sz100 (by decide), fun p1 h1 => ?_⟩⟩
    refine ⟨c, s, p1, [3, 12, 2, 12, 3, 2, 9], rfl, SqL.of upd_same, hs0, by omega, by decide, by decide, fun H1 pd fs S1 hpd hD hfs => ?_⟩
    have S1 := (same_upd h1).trans S1
    obtain ⟨f0, f1, f2, f3, f4, f5, f6, rfl⟩ := seven hD.1
    have b1 := hD.2 1 f1 _ rfl rfl
    have b3 := hD.2 3 f3 _ rfl rfl
    have b6 := hD.2 6 f6 _ rfl rfl
    have hF : SqL K H1 pd [V.int f0, V.int f1, V.int f2, V.int f3, V.int f4, V.int f5, V.int f6] := SqL.of hfs
    clear hD h1 hpd hfs
    walk_at "wp"
    refine ⟨_, _, hF, atI_nat (j := 2) rfl, ?_⟩
    walk_at "wp"
    refine ⟨a, ns, u, s, decide (f2 = 1), rfl, S1.seq hS, by omega, hu, hs0, by omega, fun H2 p l d ls ds S2 hp Ep hl hd hll hdl hlb hdb => ?_⟩
    walk_at "wp"
    refine ⟨_, SqT.of Ep, rfl, ?_⟩
    walk_at "wp"
    have hF2 := S2.seq hF
    have hnd : 1 ≤ nDays u ns.length ∧ nDays u ns.length ≤ 40 := by unfold nDays; omega
    have fin : ∀ (HX : Hp) (g : Addr) (ts : List V) (gs : List Good), Same H2 HX → H g = none → HX g = some (.lst ts) → TkAll (newOf H HX) ts (gs.map goodD) → 1 ≤ gs.length → gs.length ≤ 2 →
        (∀ g ∈ gs, g.days.length = ls.length ∧ lifeB (optD g.life) = true ∧ ∀ d ∈ g.days, dayB (dayD d) = true) →
        (CPow 10 9 ∧ 0 + 1 + 1 + 1 + 1 + 1 + 1 + 1 + 1 + 1 ≤ sizeLine ∧ ∀ (p : Addr), HX p = none → ∃ xs v, SqL K (upd HX p (HO.lst [V.non, V.int 1, V.int 2, V.int 3, V.int 4, V.int 5, V.int 6, V.int (10 ^ Int.toNat 9), V.int 12])) pd xs ∧ atI xs 6 = some v ∧
          rIxL K (V.ref p) v (upd HX p (HO.lst [V.non, V.int 1, V.int 2, V.int 3, V.int 4, V.int 5, V.int 6, V.int (10 ^ Int.toNat 9), V.int 12])) fun x H1 => 0 + 1 + 1 + 1 ≤ sizeLine ∧ ∀ (p : Addr), H1 p = none → Q (V.ref p) (upd H1 p (HO.tup [V.ref l, x, V.ref g]))) := by
      intro HX g ts gs T1 hg Eg hT hg1 hg2 hgs
      refine ⟨⟨by decide, by decide, by decide⟩, sz100 (by decide), fun pp hpp => ?_⟩
      have T2 := same_upd (o := .lst (boundsO.map optV)) hpp
      have E2 : upd HX pp (.lst (boundsO.map optV)) pp = some (.lst (boundsO.map optV)) := upd_same
      show ∃ xs v, SqL K (upd HX pp (.lst (boundsO.map optV))) pd xs ∧ atI xs 6 = some v ∧ rIxL K (V.ref pp) v (upd HX pp (.lst (boundsO.map optV))) fun x H1 => 0 + 1 + 1 + 1 ≤ sizeLine ∧ ∀ (p : Addr), H1 p = none → Q (V.ref p) (upd H1 p (HO.tup [V.ref l, x, V.ref g]))
      generalize upd HX pp (.lst (boundsO.map optV)) = HY at T2 E2 ⊢
      refine ⟨_, _, (T1.trans T2).seq hF2, atI_nat (j := 6) rfl, ?_⟩
      obtain ⟨o, ho, hob⟩ := bounds_at b6.1 b6.2
      refine ⟨pp, _, f6, _, rfl, rfl, SqL.of E2, ho, sz100 (by decide), fun pf hpf => ?_⟩
      have T3 := same_upd (o := .tup [V.ref l, optV o, V.ref g]) hpf
      have E3 : upd HY pf (.tup [V.ref l, optV o, V.ref g]) pf = some (.tup [V.ref l, optV o, V.ref g]) := upd_same
      generalize upd HY pf (.tup [V.ref l, optV o, V.ref g]) = HF at T3 E3 ⊢
      have T4 := T2.trans T3
      have T5 : Same H HF := (S1.trans S2).trans (T1.trans T4)
      refine q HF (.ref pf) ⟨ls, o, gs⟩ T5 ?_ (bakB_mk (by show 1 ≤ ls.length; omega) (by show ls.length ≤ 40; omega) hlb hob hg1 hg2 hgs) hll
      have hf0 : H pf = none := ((S1.trans S2).trans (T1.trans T2)).free hpf
      exact .tup (newOf_at hf0 E3) (.cons (hl.same (newOf_to S1 fun b o _ e => (T1.trans T4) b o e)) (.cons (Tk.optV o) (.cons (.lst (newOf_at hg (T4 _ _ Eg)) (hT.same (newOf_mono T4))) .nil)))
    refine ⟨sz100 (by decide), fun p3 h3 => ?_⟩
    have S3 := same_upd (o := .lst (livesO.map optV)) h3
    have E3 : upd H2 p3 (.lst (livesO.map optV)) p3 = some (.lst (livesO.map optV)) := upd_same
    change ∃ xs v, SqL K (upd H2 p3 (.lst (livesO.map optV))) pd xs ∧ atI xs 1 = some v ∧ rIxL K (V.ref p3) v (upd H2 p3 (.lst (livesO.map optV))) _
    generalize upd H2 p3 (.lst (livesO.map optV)) = H3 at S3 E3 ⊢
    refine ⟨_, _, S3.seq hF2, atI_nat (j := 1) rfl, ?_⟩
    obtain ⟨o1, ho1, hob1⟩ := lives_at b1.1 b1.2
    refine ⟨p3, _, f1, _, rfl, rfl, SqL.of E3, ho1, sz100 (by decide), fun t1 ht1 => ⟨sz100 (by decide), fun g hg => ?_⟩⟩
    have S4 := same_upd (o := .tup [V.ref d, optV o1]) ht1
    have E4 : upd H3 t1 (.tup [V.ref d, optV o1]) t1 = some (.tup [V.ref d, optV o1]) := upd_same
    generalize upd H3 t1 (.tup [V.ref d, optV o1]) = H4 at S4 E4 hg ⊢
    have S5 := same_upd (o := .lst [V.ref t1]) hg
    have E5 : upd H4 g (.lst [V.ref t1]) g = some (.lst [V.ref t1]) := upd_same
    have N5 : ∀ b, b ≠ g → upd H4 g (.lst [V.ref t1]) b = H4 b := fun b hb => upd_ne hb
    generalize upd H4 g (.lst [V.ref t1]) = H5 at S5 E5 N5 ⊢
    have S25 := S3.trans (S4.trans S5)
    have S05 := (S1.trans S2).trans S25
    have hg0 : H g = none := ((S1.trans S2).trans (S3.trans S4)).free hg
    have ht0 : H t1 = none := ((S1.trans S2).trans S3).free ht1
    have htg : t1 ≠ g := ne_of_none E4 hg
    have hd4 : Tk (newOf H H4) (.ref d) (.list (ds.map dayD)) := hd.same (newOf_to S1 fun b o _ e => (S3.trans S4) b o e)
    have hgood1 : Tk (newOf H H4) (.ref t1) (goodD ⟨ds, o1⟩) := .tup (newOf_at ht0 E4) (.cons hd4 (.cons (Tk.optV o1) .nil))
    have hc1 : ds.length = ls.length ∧ lifeB (optD o1) = true ∧ ∀ d ∈ ds, dayB (dayD d) = true := ⟨hdl.trans hll.symm, hob1, hdb⟩
    refine ⟨_, _, S25.seq hF2, atI_nat (j := 4) rfl, ?_⟩
    walk_at "wp"
    refine ite2 (fun _ => ?_) (fun _ => fin H5 g [V.ref t1] [⟨ds, o1⟩] S25 hg0 E5 (.cons (hgood1.same (newOf_mono S5)) .nil) (by show 1 ≤ 1; decide) (by show 1 ≤ 2; decide) (by intro z hz; rw [List.mem_singleton.mp hz]; exact hc1))
    refine ⟨_, S05.seq hS, fun p4 h4 => ?_⟩
    have S6 := same_upd (o := .lst (cutV (ns.map V.int) none (some 1))) h4
    have E6 : upd H5 p4 (.lst (cutV (ns.map V.int) none (some 1))) p4 = some (.lst (cutV (ns.map V.int) none (some 1))) := upd_same
    generalize upd H5 p4 (.lst (cutV (ns.map V.int) none (some 1))) = H6 at S6 E6 ⊢
    refine ⟨a, _, rfl, (S05.trans S6).seq hS, by decide, fun p5 h5 => ?_⟩
    have S7 := same_upd (o := .lst (stepV (ns.map V.int) none (some 0) (some (-1)))) h5
    have E7 : upd H6 p5 (.lst (stepV (ns.map V.int) none (some 0) (some (-1)))) p5 = some (.lst (stepV (ns.map V.int) none (some 0) (some (-1)))) := upd_same
    generalize upd H6 p5 (.lst (stepV (ns.map V.int) none (some 0) (some (-1)))) = H7 at S7 E7 ⊢
    have hlen2 : (cutV (ns.map V.int) none (some 1) ++ stepV (ns.map V.int) none (some 0) (some (-1))).length = ns.length := by
      rw [List.length_append, stepV_back, show (1 : Int) = ((1 : Nat) : Int) from rfl, cutV_upto, List.length_take, List.length_map]
      omega
    refine ⟨_, _, S7 _ _ E6, E7, sz100 (by rw [← List.length_append, hlen2]; omega), fun p6 h6 => ?_⟩
    obtain ⟨ms, hms⟩ : ∃ ms : List Int, cutV (ns.map V.int) none (some 1) ++ stepV (ns.map V.int) none (some 0) (some (-1)) = ms.map V.int := ints_of fun x hx => by
      have hm : x ∈ ns.map V.int := by
        rcases List.mem_append.mp hx with h | h
        · exact cutV_mem h
        · exact stepV_mem h
      obtain ⟨c, _, e⟩ := List.mem_map.mp hm
      exact ⟨c, e.symm⟩
    rw [hms] at hlen2 ⊢
    rw [List.length_map] at hlen2
    have S8 := same_upd (o := .lst (ms.map V.int)) h6
    have E8 : upd H7 p6 (.lst (ms.map V.int)) p6 = some (.lst (ms.map V.int)) := upd_same
    generalize upd H7 p6 (.lst (ms.map V.int)) = H8 at S8 E8 ⊢
    have S58 := S6.trans (S7.trans S8)
    have S28 := S25.trans S58
    refine ⟨_, _, S28.seq hF2, atI_nat (j := 5) rfl, ?_⟩
    walk_at "wp"
    refine ⟨p6, ms, u, s + 70, decide (f5 = 1), rfl, SqL.of E8, by omega, hu, by omega, by omega, fun H9 p' l' d' ls' ds' S9 hp' Ep' hl' hd' hll' hdl' hlb' hdb' => ?_⟩
    walk_at "wp"
    have S29 := S28.trans S9
    refine ⟨_, _, SqT.of Ep', atI_nat (j := 1) rfl, tyL (SqL.of ((S58.trans S9) _ _ E5)), _, _, S29.seq hF2, atI_nat (j := 3) rfl, ?_⟩
    obtain ⟨o3, ho3, hob3⟩ := lives_at b3.1 b3.2
    walk_at "wp"
    refine ⟨_, _, ((S4.trans S5).trans (S58.trans S9)).seq (SqL.of E3), ho3, sz100 (by decide), fun t2 ht2 => ?_⟩
    have S10 := same_upd (o := .tup [V.ref d', optV o3]) ht2
    have E10 : upd H9 t2 (.tup [V.ref d', optV o3]) t2 = some (.tup [V.ref d', optV o3]) := upd_same
    generalize upd H9 t2 (.tup [V.ref d', optV o3]) = H10 at S10 E10 ⊢
    have S5x := (S58.trans S9).trans S10
    refine ⟨_, S5x _ _ E5, sz100l (by show 1 < 100000; decide), ?_⟩
    have ht2g : t2 ≠ g := fun z => by
      have e := (S58.trans S9) _ _ E5
      rw [z] at ht2
      rw [ht2] at e
      cases e
    have hg2 : H2 g = none := (S3.trans S4).free hg
    have hg4 : H4 g = none := hg
    refine fin (upd H10 g (.lst ([V.ref t1] ++ [V.ref t2]))) g [V.ref t1, V.ref t2] [⟨ds, o1⟩, ⟨ds', o3⟩] (same_mut (S29.trans S10) hg2) hg0 upd_same (.cons ?_ (.cons ?_ .nil)) (by show 1 ≤ 2; decide) (by show 2 ≤ 2; decide) ?_
    · exact hgood1.same (newOf_mono (same_mut (S5.trans S5x) hg4))
    · have hdx : Tk (newOf H (upd H10 g (.lst ([V.ref t1] ++ [V.ref t2])))) (.ref d') (.list (ds'.map dayD)) := hd'.same (newOf_to (S05.trans S58) fun b o hb e => by
        have hbg : b ≠ g := fun z => by
          have e5 := S58 _ _ E5
          rw [z, e5] at hb
          cases hb
        rw [upd_ne hbg]
        exact S10 _ _ e)
      have ht20 : H t2 = none := ((S05.trans S58).trans S9).free ht2
      exact .tup (newOf_at ht20 (by rw [upd_ne ht2g]; exact E10)) (.cons hdx (.cons (Tk.optV o3) .nil))
    · intro z hz
      rcases List.mem_cons.mp hz with e | e
      · rw [e]
        exact hc1
      · rw [List.mem_singleton.mp e]
        exact ⟨by rw [hdl', hlen2, hll], hob3, hdb'⟩
end
end Bk

namespace Bk
open PySem PySem.Spec PyProof.Rows L2
local macro_rules | `(tactic| walk_at "wp") => `(tactic| try simp only [Int.zero_add, tNever, tFor_eq, tLc_eq, iList, iTup, iRng1_eq, rRng1_i, iRng2_eq, rRng2_i, iEnum_eq, rEnum_r, iZip_eq, rZip_r, tSl, tPart, tNoPart, rSlL_r, rCat_r, rIn_r, rNin_r, rRepr_r, rRg1_i, rRg2_i, rInr_r, tAug, ipI_ii, tLstRg, tRg1, tRg2, gTup_r, gUnl_r, rInt1_b, rInt1_i, rRep_r, tStep_r, scal, tSeq, tNext, tAsg, tRet, tRetN, tIfS, tDrop, tCB, tCons, tNil, tVar, tOp, tUn, tC, rU_i, rI_ii, rI0_ii, rEq, rNe, tTest, tB, tAnd, tOr, tNot, tAndV, tOrV, tNotV, tIf, tChain, tLst, tTup, tBM, tBM0, rAppend_r, rIxL_r, rIxT_r, rMx_ii, rMn_ii, rLnL_r, rLnT_r, rIsD_int, rIsD_bool, rIsD_list, rIsD_tuple, tCall, gName, gNil_n, gCons_c, cxK, L2.start, List.map, List.replicate, List.length_cons, List.length_nil, List.cons_append, List.nil_append, List.append_nil, List.getElem?_cons_zero, List.getElem?_cons_succ, Option.some.injEq, exists_eq_left', exists_eq_left, V.int.injEq, V.bl.injEq, V.str.injEq, V.ref.injEq, List.cons.injEq, and_true, true_and, and_self, List.set, wipe, rAll_r, rSum_r, reduceCtorEq, decide_true, decide_false, reduceIte, ite_true, ite_false, if_true, if_false, Bool.false_eq_true, Bool.not_true, Bool.not_false])
local macro_rules | `(tactic| walk_at "shaped") => `(tactic| (simp only [SeqAt.shaped, PyData.canLay0, PyData.canLayAll0, PyData.depth, PyData.depthAll]; rfl))
local macro_rules | `(tactic| walk_at "lay") => `(tactic| (simp only [PyData.canLay0, PyData.canLayAll0]; rfl))
section
variable {P : Program} {w : World} {K : PySem.W.Frag} {mg : Str → Option Value} {base : Heap}
abbrev s_good_reach : Stmt := top 25
theorem sc_good_reach : FnScope ["good", "given", "days", "life", "first", "last"] ["good", "given"] (defScope s_good_reach) := ⟨rfl, rfl, rfl, by decide +kernel, rfl, by decide +kernel, by decide +kernel⟩
def spGReach (K : PySem.W.Frag) : Sp := fun vs H Q _ => ∃ x g, ∃ k : Nat, vs = [x, .int (k : Int)] ∧ Th K H x (goodD g) ∧ k < g.days.length ∧ g.days.length ≤ 1000 ∧ ∀ (H' : Hp) (p : Addr) (last : Nat), Same H H' → H p = none → H' p = some (.tup [.int (reachF g k), .int (last : Int)]) → ReachL g k last → Q (.ref p) H'
def ReI (v0 v1 v6 v7 v8 : V) (g : Good) (k : Nat) (H : Hp) (i : Nat) (σ : L2.St) (H' : Hp) : Prop := σ = [some v0, some v1, some v6, some v7, some v8, some (.int ((k + i : Nat) : Int))] ∧ H' = H ∧ k + i < g.days.length ∧ ∃ z, finesL g.days k (k + i) = some z
theorem ok_good_reach {f : Addr} {fd : FuncData} (F : Fun K "good_reach" "good_reach" s_good_reach f fd) (B : Bi mg) : FnOk P w K mg base CX0 1 f fd ["good", "given"] (spGReach K) := by
  refine F.ok sc_good_reach (fun vs H Q E h => ?_) (fun cdv A outer s H vs Q E hr h => ?_)
  · obtain ⟨x, g, k, rfl, _⟩ := h
    rfl
  · obtain ⟨x, g, k, rfl, hvg, hk, hk1, q⟩ := h
    refine ⟨_, (pss_cons (ps_asg (pv 0) (pg_tup rfl (pgs_cons (pg_name (i := 2) sc_good_reach.nd rfl (Or.inl rfl)) (pgs_cons (pg_name (i := 3) sc_good_reach.nd rfl (Or.inl rfl)) pgs_nil))))
 (pss_cons (ps_set (i := 4) sc_good_reach.nd rfl (Or.inl rfl) (pe_ifExp (pt_cmpR op_isN (pv 3) pe_non (nomark _)) pe_int (pe_callB (call_mx rfl) (by rfl) B.max (by decide +kernel) (pa_cons pe_int (pa_cons (pe_op op_sub (pv 1) (pv 3)) pa_nil)))))
 (pss_cons (ps_set (i := 5) sc_good_reach.nd rfl (Or.inl rfl) (pv 1))
 (pss_cons (ps_while PassesOwn.never (PW.pt (pw_and (pt_cmpR op_lt (pe_op op_add (pv 5) pe_int) (pe_callB call_lnL (by rfl) B.len (by decide +kernel) (pa_cons (pv 2) pa_nil)) (nomark _)) (pw_and1 (pt_cmpR op_notN (pe_ix ix_tup (pe_ix ix_list (pv 2) (pv 5) (fun _ _ => rfl)) pe_int (fun _ _ => rfl)) pe_non (nomark _))))) (pss_one (ps_aug (i := 5) sc_good_reach.nd rfl (Or.inl rfl) pe_int ip_add)))
 (pss_one (ps_ret (pe_tup (pa_cons (pv 4) (pa_cons (pv 5) pa_nil))))))))), ?_⟩
    obtain ⟨t, ad, xs, rfl, htg, hsg, hag⟩ := hvg.good
    walk_at "wp"
    refine ⟨_, htg, rfl, ?_⟩
    have loop : ∀ (fv : V), fv = .int (reachF g k) → tSeq (tWhile (tAnd (tTest (tOp (rI0 fun i j => V.bl (decide (i < j))) (tOp (rI0 fun i j => V.int (i + j)) (tVar 5) (tC (V.int 1))) (tCB (rLnL K) (tCons (tVar 2) tNil)))) (tTest (tOp (fun x y H Q => y = V.non ∧ Q (V.bl (!decide (x = V.non))) H) (tOp (rIxT K) (tOp (rIxL K) (tVar 2) (tVar 5)) (tC (V.int 3))) (tC V.non)))) (tAug 5 (tC (V.int 1)) (ipI fun i j => i + j))) (tRet (tTup (tCons (tVar 4) (tCons (tVar 5) tNil)))) { nx := fun _ H' => Q .non H', rt := Q } [some (V.ref t), some (V.int (k : Int)), some (V.ref ad), some (optV g.life), some fv, some (V.int (k : Int))] H := by
      intro fv hfv
      subst hfv
      refine while_by (g.days.length - 1 - k) (ReI (.ref t) (.int (k : Int)) (.ref ad) (optV g.life) (.int (reachF g k)) g k H) ⟨rfl, rfl, by omega, 0, by rw [Nat.add_zero]; unfold finesL; rw [Nat.sub_self]; rfl⟩ (fun n σ H2 hn hI => ?_)
      obtain ⟨rfl, rfl, hlt, z, hz⟩ := hI
      have hd : g.days[k + n]? = some g.days[k + n] := List.getElem?_eq_getElem hlt
      generalize g.days[k + n] = d at hd
      obtain ⟨vd, hvd, hvdd⟩ := hag.get' (i := k + n) (d := dayD d) (by rw [List.getElem?_map, hd]; rfl)
      obtain ⟨td, rfl, htd⟩ := hvdd.day
      have hxl := hag.length
      rw [List.length_map] at hxl
      walk_at "wp"
      refine ⟨_, hsg, ?_⟩
      rw [hxl]
      have done : (k + n + 1 < g.days.length → ∃ d, g.days[k + n]? = some d ∧ d.fine = none) → ∀ p, H2 p = none → Q (.ref p) (upd H2 p (.tup [.int (reachF g k), .int ((k + n : Nat) : Int)])) := fun hst p hp => q _ p (k + n) (same_upd hp) hp upd_same ⟨by omega, hlt, ⟨z, hz⟩, hst⟩
      refine ite2 (fun h => ?_) (fun h => ?_)
      · have h : k + n + 1 < g.days.length := by have := of_decide_eq_true h; omega
        refine ⟨_, _, hsg, atI_nat hvd, ?_⟩
        walk_at "wp"
        refine ⟨_, _, htd, atI_nat (j := 3) rfl, ?_⟩
        cases hf : d.fine with
        | none =>
          simp only [optV]
          walk_at "wp"
          exact ⟨sz100 (by decide), done fun _ => ⟨d, hd, hf⟩⟩
        | some y =>
          simp only [optV]
          walk_at "wp"
          refine wstep (by omega) ?_
          walk_at "wp"
          refine ⟨?_, rfl, by omega, z + y, ?_⟩
          · rw [show ((k + n : Nat) : Int) + 1 = ((k + (n + 1) : Nat) : Int) by omega]
          · unfold finesL at hz ⊢
            rw [seg_split g.days (show k ≤ k + n by omega) (show k + n ≤ k + (n + 1) by omega), List.map_append]
            refine sumO_join' hz ?_
            rw [show k + (n + 1) - (k + n) = 1 by omega]
            obtain ⟨hlt2, e⟩ := List.getElem?_eq_some_iff.mp hd
            rw [List.drop_eq_getElem_cons hlt2, e]
            show sumO [d.fine] = some y
            rw [hf]
            show some (y + 0) = some y
            rw [Int.add_zero]
      · exact ⟨sz100 (by decide), done fun z => absurd (decide_eq_true (by omega)) h⟩
    have hlf : (g.life = none ∧ reachF g k = 0) ∨ ∃ l, g.life = some l ∧ reachF g k = (if (k : Int) - l > 0 then (k : Int) - l else 0) := by
      unfold reachF
      cases g.life with
      | none => exact .inl ⟨rfl, rfl⟩
      | some l => exact .inr ⟨l, rfl, rfl⟩
    simp only [gCons_c, gNil_n, gName, List.set]
    rcases hlf with ⟨e1, e2⟩ | ⟨l', e1, e2⟩
    · rw [e1] at loop ⊢
      rw [e2] at loop
      exact ⟨_, rfl, rfl, true, rfl, iteT ⟨_, rfl, loop (.int 0) rfl⟩⟩
    · rw [e1] at loop ⊢
      rw [e2] at loop
      refine ⟨_, rfl, rfl, false, rfl, iteF ⟨_, rfl, _, rfl, _, _, rfl, rfl, _, _, rfl, _, rfl, loop _ rfl⟩⟩
end
end Bk

namespace Bk
open PySem PySem.Spec PyProof.Rows L2
local macro_rules | `(tactic| walk_at "wp") => `(tactic| try simp only [tLc2_eq, rNinr_r, rNeN_r, rCatL_r, rSlT_r, rListOf_r, rIsB_b, rNotB_b, tFmtO, tJs, tOst, tCallS, WE, tRaise2, rOne_i, rSorD_r, tDNewK, Int.zero_add, tNever, tFor_eq, tLc_eq, iList, iTup, iRng1_eq, rRng1_i, iRng2_eq, rRng2_i, iEnum_eq, rEnum_r, iZip_eq, rZip_r, tSl, tPart, tNoPart, rSlL_r, rCat_r, rIn_r, rNin_r, rRepr_r, iRevR, rMin_r, rShr_i, rOdd_i, rSetL_r, gSub, rRg1_i, rRg2_i, rInr_r, tAug, ipI_ii, tLstRg, tRg1, tRg2, gTup_r, gUnl_r, rInt1_b, rInt1_i, rRep_r, tStep_r, scal, tSeq, tNext, tAsg, tRet, tRetN, tIfS, tDrop, tCB, tCons, tNil, tVar, tOp, tUn, tC, rU_i, rI_ii, rI0_ii, rEq, rNe, tTest, tB, tAnd, tOr, tNot, tAndV, tOrV, tNotV, tIf, tChain, tLst, tTup, tBM, tBM0, rAppend_r, rIxL_r, rIxT_r, rMx_ii, rMn_ii, rLnL_r, rLnT_r, rIsD_int, rIsD_bool, rIsD_list, rIsD_tuple, tCall, gName, gNil_n, gCons_c, cxK, L2.start, List.map, List.replicate, List.length_cons, List.length_nil, List.cons_append, List.nil_append, List.append_nil, List.getElem?_cons_zero, List.getElem?_cons_succ, Option.some.injEq, exists_eq_left', exists_eq_left, V.int.injEq, V.bl.injEq, V.str.injEq, V.ref.injEq, List.cons.injEq, and_true, true_and, and_self, List.set, wipe, rAll_r, rSum_r, reduceCtorEq, decide_true, decide_false, reduceIte, ite_true, ite_false, if_true, if_false, Bool.false_eq_true, Bool.not_true, Bool.not_false])
local macro_rules | `(tactic| walk_at "shaped") => `(tactic| (simp only [tLc2_eq, SeqAt.shaped, PyData.canLay0, PyData.canLayAll0, PyData.depth, PyData.depthAll]; rfl))
local macro_rules | `(tactic| walk_at "lay") => `(tactic| (simp only [tLc2_eq, PyData.canLay0, PyData.canLayAll0]; rfl))
section
variable {P : Program} {w : World} {K : PySem.W.Frag} {mg : Str → Option Value} {base : Heap}
abbrev s_reached_wants : Stmt := top 27
theorem sc_reached_wants : FnScope ["good", "days", "life", "given"] ["good"] (defScope s_reached_wants) := ⟨rfl, rfl, rfl, by decide +kernel, rfl, by decide +kernel, by decide +kernel⟩
theorem op_catAK {X : Cx} {K : PySem.W.Frag} (hK : X.K = K) : OpR X (binaryOp .Add) (rCatA K) := by subst hK; exact op_catA
theorem reachL_uniq {g : Good} {k l m : Nat} (hl : ∀ l, g.life = some l → 0 ≤ l) (h1 : ReachL g k l) (h2 : ReachL g k m) : l = m := by
  have a := (reach_iff h1 hl h2.lt).mp ((reach_iff h2 hl h2.lt).mpr ⟨Int.le_trans (reachF_le hl) (by have := h2.le; omega), Nat.le_refl _⟩)
  have b := (reach_iff h2 hl h1.lt).mp ((reach_iff h1 hl h1.lt).mpr ⟨Int.le_trans (reachF_le hl) (by have := h1.le; omega), Nat.le_refl _⟩)
  omega
open Classical in
/-- the last day of the reach -/
noncomputable def lastN (g : Good) (k : Nat) : Nat := if h : ∃ l, ReachL g k l then Classical.choose h else 0
theorem lastN_eq {g : Good} {k l : Nat} (hl : ∀ l, g.life = some l → 0 ≤ l) (h : ReachL g k l) : lastN g k = l := by
  unfold lastN
  have e : ∃ l, ReachL g k l := ⟨l, h⟩
  rw [dif_pos e]
  exact reachL_uniq hl (Classical.choose_spec e) h
def wantA (g : Good) (k : Nat) : Int := match g.days[k]? with
  | some d => d.want
  | none => 0
noncomputable def trG (g : Good) (k : Nat) : Tr := (reachF g k, (lastN g k : Int), wantA g k)
noncomputable def wantsG (g : Good) : List Tr := (List.range g.days.length).map (trG g)
def GoodK (g : Good) (n : Nat) : Prop := g.days.length = n ∧ 1 ≤ n ∧ n ≤ 40 ∧ (∀ l, g.life = some l → 0 ≤ l) ∧ ∀ d ∈ g.days, dayB (dayD d) = true
def spRWants (K : PySem.W.Frag) : Sp := fun vs H Q _ => ∃ x g n, vs = [x] ∧ Th K H x (goodD g) ∧ GoodK g n ∧ ∀ H' y, Same H H' → (∀ a, y = .ref a → H a = none) → TrL H' y (wantsG g) → Q y H'
theorem ok_reached_wants {f : Addr} {fd : FuncData} (F : Fun K "reached_wants" "reached_wants" s_reached_wants f fd) (B : Bi mg) (D_good_reach : Def P w K mg base "good_reach" 1 ["good", "given"] (spGReach K)) : FnOk P w K mg base CX0 2 f fd ["good"] (spRWants K) := by
  refine F.ok sc_reached_wants (fun vs H Q E h => ?_) (fun cdv A outer s H vs Q E hr h => ?_)
  · obtain ⟨_, _, _, rfl, _⟩ := h
    rfl
  · obtain ⟨x, g, n, rfl, hx, ⟨hn, n1, n2, hl0, hok⟩, q⟩ := h
    refine ⟨_, (pss_cons (ps_asg (pv 0) (pg_tup rfl (pgs_cons (pg_name (i := 1) sc_reached_wants.nd rfl (Or.inr rfl)) (pgs_cons (pg_name (i := 2) sc_reached_wants.nd rfl (Or.inl rfl)) pgs_nil))))
 (pss_one (ps_ret (pe_lc (own := [("given", 3)]) (g := (gName 3)) (te := (tOp _ _ (tTup (tCons (tOp (rIxT K) (tOp (rIxL K) _ _) _) tNil)))) rfl sc_reached_wants.nd (pi_range1 (by rfl) B.range (pa_cons (pe_callB call_lnL (by rfl) B.len (by decide +kernel) (pa_cons (pv 1) pa_nil)) pa_nil)) (blkOk_by (own := [("given", 3)]) (N := ["good", "days", "life", "given"]) (sc := defScope s_reached_wants) (by decide +kernel)) (fun _ _ _ _ _ => (pg_name (i := 3) sc_reached_wants.nd rfl (Or.inl rfl))) (fun _ _ _ _ _ => pts_nil) (fun _ _ _ _ _ => (pe_op (op_catAK (K := K) rfl) (pe_callD D_good_reach hr (by rfl) (pa_cons (pv 0) (pa_cons (pv 3) pa_nil))) (pe_tup (pa_cons (pe_ix ix_tup (pe_ix ix_list (pv 1) (pv 3) (fun _ _ => rfl)) pe_int (fun _ _ => rfl)) pa_nil)))))))), ?_⟩
    have hx0 := hx
    obtain ⟨t, a, xs, rfl, ht, hs, ha⟩ := hx.good
    have hxl : xs.length = n := by rw [ha.length, List.length_map, hn]
    walk_at "wp"
    refine ⟨_, ht, rfl, ?_⟩
    walk_at "wp"
    refine ⟨_, hs, ?_⟩
    rw [hxl]
    refine ⟨by omega, by omega, fun D hD => ?_⟩
    rw [show (n : Int).toNat = n by omega]
    refine LcR.by walk_range (fun i H' => Same H H' ∧ ∃ acc, H' D = some (.lst acc) ∧ Trs H' acc ((List.range i).map (trG g))) ⟨same_upd hD, [], upd_same, .nil⟩ (fun _ _ _ _ => trivial) (fun i v H0 H2 hi hI yy => ?_) (fun H2 hI => ?_)
    · obtain ⟨rfl, rfl⟩ := yy
      obtain ⟨S2, acc, ea, hacc⟩ := hI
      have hd : g.days[i]? = some g.days[i] := List.getElem?_eq_getElem (by omega)
      generalize g.days[i] = d at hd
      obtain ⟨v, hv, hvd⟩ := ha.get' (i := i) (d := dayD d) (by rw [List.getElem?_map, hd]; rfl)
      obtain ⟨t2, rfl, ht2⟩ := hvd.day
      walk_at "wp"
      refine ⟨_, g, i, rfl, hx0.same S2, by omega, by omega, fun H3 p last S3 hp hpt hR => ?_⟩
      have S23 := S2.trans S3
      walk_at "wp"
      refine ⟨_, _, S23.seq hs, atI_nat hv, ?_⟩
      walk_at "wp"
      refine ⟨_, _, Same.tup S23 ht2, atI_nat (j := 0) rfl, ?_⟩
      refine ⟨sz100 (by decide), fun p1 n1 => ?_⟩
      have S4 := same_upd (o := .tup [V.int d.want]) n1
      have E4 : upd H3 p1 (.tup [V.int d.want]) p1 = some (.tup [V.int d.want]) := upd_same
      generalize upd H3 p1 (.tup [V.int d.want]) = H4 at S4 E4 ⊢
      refine ⟨_, _, _, _, rfl, rfl, SqT.of (S4 _ _ hpt), SqT.of E4, sz100 (by show 3 ≤ 100000; decide), fun z => (by cases z), fun _ z => (by cases z), fun _ _ p2 n2 => ?_⟩
      have S5 := same_upd (o := .tup ([V.int (reachF g i), V.int (last : Int)] ++ [V.int d.want])) n2
      have E5 : upd H4 p2 (.tup ([V.int (reachF g i), V.int (last : Int)] ++ [V.int d.want])) p2 = some (.tup (trV (trG g i))) := by
        rw [upd_same]
        unfold trG wantA
        rw [hd, lastN_eq hl0 hR]
        rfl
      generalize upd H4 p2 (.tup ([V.int (reachF g i), V.int (last : Int)] ++ [V.int d.want])) = H5 at S5 E5 ⊢
      have S25 := S3.trans (S4.trans S5)
      have ea5 := S25 _ _ ea
      have hal := hacc.length
      rw [List.length_map, List.length_range] at hal
      refine ⟨acc, ea5, sz100l (by omega), same_mut (S2.trans S25) hD, _, upd_same, ?_⟩
      rw [List.range_succ, List.map_append]
      exact ((hacc.same S25).app (.cons E5 .nil)).mut ea5
    · obtain ⟨S2, acc, ea, hacc⟩ := hI
      refine q _ _ S2 (fun b e => by cases e; exact hD) ⟨D, acc, rfl, ea, ?_⟩
      unfold wantsG
      rw [hn]
      exact hacc
abbrev s_all_wants : Stmt := top 28
theorem sc_all_wants : FnScope ["bakery", "lights", "bound", "goods", "good", "want"] ["bakery"] (defScope s_all_wants) := ⟨rfl, rfl, rfl, by decide +kernel, rfl, by decide +kernel, by decide +kernel⟩
noncomputable def wantsB (b : Bak) : List Tr := (b.goods.map wantsG).flatten
theorem bak_goodK {b : Bak} (hb : bakB (bakD b) = true) {g : Good} (hg : g ∈ b.goods) : GoodK g b.lights.length := by
  obtain ⟨⟨c1, c2⟩, _, _, _, c7⟩ := bak_parts hb
  obtain ⟨h1, h2, h3⟩ := c7 g hg
  exact ⟨h1, c1, c2, life_nonneg h2, h3⟩
theorem wantsG_len {g : Good} {n : Nat} (h : GoodK g n) : (wantsG g).length = n := by
  unfold wantsG
  rw [List.length_map, List.length_range, h.1]
def spAWants (K : PySem.W.Frag) : Sp := fun vs H Q _ => ∃ x b, vs = [x] ∧ Th K H x (bakD b) ∧ bakB (bakD b) = true ∧ ∀ H' y, Same H H' → TrL H' y (wantsB b) → Q y H'
theorem ok_all_wants {f : Addr} {fd : FuncData} (F : Fun K "all_wants" "all_wants" s_all_wants f fd) (D_reached_wants : Def P w K mg base "reached_wants" 2 ["good"] (spRWants K)) : FnOk P w K mg base CX0 3 f fd ["bakery"] (spAWants K) := by
  refine F.ok sc_all_wants (fun vs H Q E h => ?_) (fun cdv A outer s H vs Q E hr h => ?_)
  · obtain ⟨_, _, rfl, _⟩ := h
    rfl
  · obtain ⟨x, b, rfl, hx, hb, q⟩ := h
    refine ⟨_, (pss_cons (ps_asg (pv 0) (pg_tup rfl (pgs_cons (pg_name (i := 1) sc_all_wants.nd rfl (Or.inl rfl)) (pgs_cons (pg_name (i := 2) sc_all_wants.nd rfl (Or.inl rfl)) (pgs_cons (pg_name (i := 3) sc_all_wants.nd rfl (Or.inl rfl)) pgs_nil)))))
 (pss_one (ps_ret (pe_lc2 (own := [("good", 4), ("want", 5)]) (vs1 := [5]) (g := (gName 4)) (g1 := (gName 5)) (wi1 := (iList K (tCall (spRWants K) [] E0 (tCons (tVar 4) tNil)))) rfl sc_all_wants.nd (pi_list (pv 3)) (blkOk_by (own := [("good", 4), ("want", 5)]) (N := ["bakery", "lights", "bound", "goods", "good", "want"]) (sc := defScope s_all_wants) (by decide +kernel)) (by decide) (fun _ _ _ _ _ => (pg_name (i := 4) sc_all_wants.nd rfl (Or.inl rfl))) (fun _ _ _ _ _ => pts_nil) (fun _ _ _ _ _ => (pi_list (pe_callD D_reached_wants hr (by rfl) (pa_cons (pv 4) pa_nil)))) (fun _ _ _ _ _ => (pg_name (i := 5) sc_all_wants.nd rfl (Or.inl rfl))) (fun _ _ _ _ _ => pts_nil) (fun _ _ _ _ _ => (pv 5)))))), ?_⟩
    obtain ⟨_, _, _, ⟨c5, c6⟩, _⟩ := bak_parts hb
    obtain ⟨a, l, v2, ga, xl, xg, rfl, ht, hl, hla, h2, hgl, hga⟩ := Th.bak hx
    have lenG : xg.length = b.goods.length := by rw [hga.length, List.length_map]
    walk_at "wp"
    refine ⟨_, ht, rfl, ?_⟩
    walk_at "wp"
    refine ⟨⟨_, hgl⟩, fun D hD => ?_⟩
    have small : ∀ i, i ≤ b.goods.length → ((b.goods.take i).map wantsG).flatten.length ≤ 80 := fun i hi => by
      have : ∀ (l : List Good), (∀ g ∈ l, g ∈ b.goods) → (l.map wantsG).flatten.length ≤ l.length * 40 := fun l => by
        induction l with
        | nil => intro _; exact Nat.zero_le _
        | cons g r ih =>
          intro h
          have := ih fun g hg => h g (List.mem_cons_of_mem _ hg)
          have e := bak_goodK hb (h g List.mem_cons_self)
          have e2 := wantsG_len e
          have e3 := e.2.2.1
          simp only [List.map_cons, List.flatten_cons, List.length_append, List.length_cons]
          omega
      have := this (b.goods.take i) fun g hg => List.mem_of_mem_take hg
      rw [List.length_take] at this
      omega
    refine Lc2R.by (walk_list (xs := xg)) (fun i H' => Same H H' ∧ ∃ acc, H' D = some (.lst acc) ∧ Trs H' acc ((b.goods.take i).map wantsG).flatten) ⟨same_upd hD, [], upd_same, .nil⟩ (fun i H' _ hI => hI.1.seq hgl) (fun i x H0 H2 hi hI yy => ?_) (fun H2 hI => ?_)
    · obtain ⟨rfl, hxi⟩ := yy
      obtain ⟨S2, acc, ea, hacc⟩ := hI
      obtain ⟨dd, hdd, hxd⟩ := hga.get hxi
      rw [List.getElem?_map] at hdd
      cases hgi : b.goods[i]? with
      | none => rw [hgi] at hdd; cases hdd
      | some g =>
      rw [hgi] at hdd
      cases hdd
      have hgk := bak_goodK hb (List.mem_of_getElem? hgi)
      have hlen := wantsG_len hgk
      have h40 := hgk.2.2.1
      have hst : ((b.goods.take (i + 1)).map wantsG).flatten = ((b.goods.take i).map wantsG).flatten ++ wantsG g := by
        rw [List.take_succ, hgi, List.map_append, List.flatten_append]
        simp only [Option.toList_some, List.map_cons, List.map_nil, List.flatten_cons, List.flatten_nil, List.append_nil]
      have hsm := small i (by omega)
      walk_at "wp"
      refine ⟨_, g, _, rfl, hxd.same S2, hgk, fun H3 y S3 hny hy => ?_⟩
      obtain ⟨a2, vs2, rfl, ha2, hv2⟩ := hy
      have hne : a2 ≠ D := fun z => by
        have := hny a2 rfl
        rw [z, ea] at this
        cases this
      refine ⟨a2, rfl, ⟨_, SqL.of ha2⟩, ?_⟩
      refine Lc1R.by (walk_list (xs := vs2)) (fun j H' => Same H H' ∧ H' a2 = some (.lst vs2) ∧ Trs H' vs2 (wantsG g) ∧ ∃ acc, H' D = some (.lst acc) ∧ Trs H' acc (((b.goods.take i).map wantsG).flatten ++ (wantsG g).take j)) ⟨S2.trans S3, ha2, hv2, acc, S3 _ _ ea, by rw [List.take_zero, List.append_nil]; exact hacc.same S3⟩ (fun j H' _ hI => SqL.of hI.2.1) (fun j x H4 H5 hj hI yy => ?_) (fun H4 hI => ?_)
      · obtain ⟨rfl, hxj⟩ := yy
        obtain ⟨S4, k1, k2, acc, k3, k4⟩ := hI
        obtain ⟨p, t, rfl, ht, hp⟩ := k2.get hxj
        have hal := k4.length
        rw [List.length_append, List.length_take] at hal
        walk_at "wp"
        refine ⟨acc, k3, sz100l (by omega), same_mut S4 hD, by rw [upd_ne hne]; exact k1, k2.mut k3, _, upd_same, ?_⟩
        rw [List.take_succ, ht, ← List.append_assoc]
        exact (k4.app (.cons hp .nil)).mut k3
      · obtain ⟨S4, k1, k2, acc, k3, k4⟩ := hI
        refine ⟨S4, acc, k3, ?_⟩
        rw [hst]
        rw [hv2.length, List.take_of_length_le (Nat.le_refl _)] at k4
        exact k4
    · obtain ⟨S2, acc, ea, hacc⟩ := hI
      refine q _ _ S2 ⟨D, acc, rfl, ea, ?_⟩
      rw [lenG, List.take_of_length_le (Nat.le_refl _)] at hacc
      exact hacc
abbrev s_room_of_day : Stmt := top 29
theorem sc_room_of_day : FnScope ["bakery", "lights", "bound", "goods", "days", "life", "want", "loaf", "keep", "fine"] ["bakery"] (defScope s_room_of_day) := ⟨rfl, rfl, rfl, by decide +kernel, rfl, by decide +kernel, by decide +kernel⟩
/-- all that is wanted -/
def allWanted (b : Bak) : Int := ((b.goods.map fun g => g.days.map (·.want)).flatten).sum
def roomB (b : Bak) : Int := match b.bound with
  | some z => z
  | none => allWanted b
def spRoom (K : PySem.W.Frag) : Sp := fun vs H Q _ => ∃ x b, vs = [x] ∧ Th K H x (bakD b) ∧ bakB (bakD b) = true ∧ ∀ H', Same H H' → Q (.int (roomB b)) H'
theorem ok_room_of_day {f : Addr} {fd : FuncData} (F : Fun K "room_of_day" "room_of_day" s_room_of_day f fd) (B : Bi mg) : FnOk P w K mg base CX0 1 f fd ["bakery"] (spRoom K) := by
  refine F.ok sc_room_of_day (fun vs H Q E h => ?_) (fun cdv A outer s H vs Q E hr h => ?_)
  · obtain ⟨_, _, rfl, _⟩ := h
    rfl
  · obtain ⟨x, b, rfl, hx, hb, q⟩ := h
    refine ⟨_, (pss_cons (ps_asg (pv 0) (pg_tup rfl (pgs_cons (pg_name (i := 1) sc_room_of_day.nd rfl (Or.inl rfl)) (pgs_cons (pg_name (i := 2) sc_room_of_day.nd rfl (Or.inl rfl)) (pgs_cons (pg_name (i := 3) sc_room_of_day.nd rfl (Or.inl rfl)) pgs_nil)))))
 (pss_cons (ps_if (pt_cmpR op_notN (pv 2) pe_non (nomark _)) (pss_one (ps_ret (pv 2))) pss_nil)
 (pss_one (ps_ret (pe_callB (cr_sum rfl) (by rfl) B.sum (by decide +kernel) (pa_cons (pe_lc2 (own := [("days", 4), ("life", 5), ("want", 6), ("loaf", 7), ("keep", 8), ("fine", 9)]) (vs1 := [6, 7, 8, 9]) (g := (gTup K 2 (gCons (gName 4) (gCons (gName 5) gNil)))) (g1 := (gTup K 4 (gCons (gName 6) (gCons (gName 7) (gCons (gName 8) (gCons (gName 9) gNil)))))) (wi1 := (iList K (tVar 4))) rfl sc_room_of_day.nd (pi_list (pv 3)) (blkOk_by (own := [("days", 4), ("life", 5), ("want", 6), ("loaf", 7), ("keep", 8), ("fine", 9)]) (N := ["bakery", "lights", "bound", "goods", "days", "life", "want", "loaf", "keep", "fine"]) (sc := defScope s_room_of_day) (by decide +kernel)) (by decide) (fun _ _ _ _ _ => (pg_tup rfl (pgs_cons (pg_name (i := 4) sc_room_of_day.nd rfl (Or.inl rfl)) (pgs_cons (pg_name (i := 5) sc_room_of_day.nd rfl (Or.inl rfl)) pgs_nil)))) (fun _ _ _ _ _ => pts_nil) (fun _ _ _ _ _ => (pi_list (pv 4))) (fun _ _ _ _ _ => (pg_tup rfl (pgs_cons (pg_name (i := 6) sc_room_of_day.nd rfl (Or.inl rfl)) (pgs_cons (pg_name (i := 7) sc_room_of_day.nd rfl (Or.inl rfl)) (pgs_cons (pg_name (i := 8) sc_room_of_day.nd rfl (Or.inl rfl)) (pgs_cons (pg_name (i := 9) sc_room_of_day.nd rfl (Or.inl rfl)) pgs_nil)))))) (fun _ _ _ _ _ => pts_nil) (fun _ _ _ _ _ => (pv 6))) pa_nil)))))), ?_⟩
    obtain ⟨⟨c1, c2⟩, _, _, ⟨c5, c6⟩, c7⟩ := bak_parts hb
    obtain ⟨a, l, v2, ga, xl, xg, rfl, ht, hl, hla, h2, hgl, hga⟩ := Th.bak hx
    have lenG : xg.length = b.goods.length := by rw [hga.length, List.length_map]
    have e2 := h2.opt
    subst e2
    walk_at "wp"
    refine ⟨_, ht, rfl, ?_⟩
    cases hbo : b.bound with
    | some z =>
      simp only [optV]
      walk_at "wp"
      refine (show Q (.int z) H → _ from id) ?_
      have := q H (Same.refl _)
      unfold roomB at this
      rw [hbo] at this
      exact this
    | none =>
      simp only [optV]
      walk_at "wp"
      refine ⟨⟨_, hgl⟩, fun D hD => ?_⟩
      have hq := fun H' S => q H' S
      unfold roomB at hq
      rw [hbo] at hq
      have small : ∀ i, i ≤ b.goods.length → ((b.goods.take i).map fun g => g.days.map (·.want)).flatten.length ≤ 80 := fun i hi => by
        have : ∀ (l : List Good), (∀ g ∈ l, g ∈ b.goods) → (l.map fun g => g.days.map (·.want)).flatten.length ≤ l.length * 40 := fun l => by
          induction l with
          | nil => intro _; exact Nat.zero_le _
          | cons g r ih =>
            intro h
            have := ih fun g hg => h g (List.mem_cons_of_mem _ hg)
            have e := (c7 g (h g List.mem_cons_self)).1
            simp only [List.map_cons, List.flatten_cons, List.length_append, List.length_cons, List.length_map]
            omega
        have := this (b.goods.take i) fun g hg => List.mem_of_mem_take hg
        rw [List.length_take] at this
        omega
      refine Lc2R.by (walk_list (xs := xg)) (fun i H' => Same H H' ∧ H' D = some (.lst ((((b.goods.take i).map fun g => g.days.map (·.want)).flatten).map V.int))) ⟨same_upd hD, upd_same⟩ (fun i H' _ hI => hI.1.seq hgl) (fun i x H0 H2 hi hI yy => ?_) (fun H2 hI => ?_)
      · obtain ⟨rfl, hxi⟩ := yy
        obtain ⟨S2, ea⟩ := hI
        obtain ⟨dd, hdd, hxd⟩ := hga.get hxi
        rw [List.getElem?_map] at hdd
        cases hgi : b.goods[i]? with
        | none => rw [hgi] at hdd; cases hdd
        | some g =>
        rw [hgi] at hdd
        cases hdd
        have hsm := small i (by omega)
        have h40 := (c7 g (List.mem_of_getElem? hgi)).1
        obtain ⟨t, ad, xs, rfl, htg, hs, ha⟩ := hxd.good
        have hxs : xs.length = g.days.length := by rw [ha.length, List.length_map]
        have hst : ((b.goods.take (i + 1)).map fun g => g.days.map (·.want)).flatten = ((b.goods.take i).map fun g => g.days.map (·.want)).flatten ++ g.days.map (·.want) := by
          rw [List.take_succ, hgi, List.map_append, List.flatten_append]
          simp only [Option.toList_some, List.map_cons, List.map_nil, List.flatten_cons, List.flatten_nil, List.append_nil]
        walk_at "wp"
        refine ⟨_, Same.tup S2 htg, rfl, ?_⟩
        walk_at "wp"
        refine ⟨⟨_, S2.seq hs⟩, ?_⟩
        refine Lc1R.by (walk_list (xs := xs)) (fun j H' => Same H H' ∧ H' D = some (.lst ((((b.goods.take i).map fun g => g.days.map (·.want)).flatten ++ (g.days.take j).map (·.want)).map V.int))) ⟨S2, by rw [List.take_zero, List.map_nil, List.append_nil]; exact ea⟩ (fun j H' _ hI => hI.1.seq hs) (fun j x H4 H5 hj hI yy => ?_) (fun H4 hI => ?_)
        · obtain ⟨rfl, hxj⟩ := yy
          obtain ⟨S4, k3⟩ := hI
          obtain ⟨dd, hdd, hvd⟩ := ha.get hxj
          rw [List.getElem?_map] at hdd
          cases hdj : g.days[j]? with
          | none => rw [hdj] at hdd; cases hdd
          | some dy =>
          rw [hdj] at hdd
          cases hdd
          obtain ⟨t2, rfl, ht2⟩ := hvd.day
          walk_at "wp"
          refine ⟨_, Same.tup S4 ht2, rfl, ?_⟩
          walk_at "wp"
          refine ⟨_, k3, sz100l (by rw [List.length_map, List.length_append, List.length_map, List.length_take]; omega), same_mut S4 hD, ?_⟩
          rw [upd_same, List.take_succ, hdj]
          simp only [Option.toList_some, List.map_append, List.map_cons, List.map_nil, List.append_assoc]
        · obtain ⟨S4, k3⟩ := hI
          refine ⟨S4, ?_⟩
          rw [hst]
          rw [hxs, List.take_of_length_le (Nat.le_refl _)] at k3
          exact k3
      · obtain ⟨S2, ea⟩ := hI
        rw [lenG, List.take_of_length_le (Nat.le_refl _)] at ea
        exact ⟨_, SqL.of ea, hq _ S2⟩
abbrev s_rooms_beside : Stmt := top 30
theorem sc_rooms_beside : FnScope ["bakery", "dark", "lights", "bound", "goods", "room", "day"] ["bakery", "dark"] (defScope s_rooms_beside) := ⟨rfl, rfl, rfl, by decide +kernel, rfl, by decide +kernel, by decide +kernel⟩
theorem flat_ints : ∀ (ds : List Int), (ds.map V.int).all flatV = true
  | [] => rfl
  | d :: r => by rw [List.map_cons, List.all_cons, flat_ints r]; rfl
theorem inV_ints {i : Int} : ∀ {ds : List Int}, inV (.int i) (ds.map V.int) = decide (i ∈ ds)
  | [] => by rw [decide_eq_false (by simp)]; rfl
  | d :: r => by
    have ih := inV_ints (i := i) (ds := r)
    unfold inV at ih ⊢
    rw [List.map_cons, List.any_cons, ih]
    show (decide (d = i) || _) = _
    by_cases e : d = i
    · subst e
      rw [decide_eq_true (show d ∈ d :: r from List.mem_cons_self), decide_eq_true rfl, Bool.true_or]
    · rw [decide_eq_false e, Bool.false_or]
      exact decide_eq_decide.mpr ⟨fun h => List.mem_cons_of_mem _ h, fun h => (List.mem_cons.mp h).resolve_left fun z => e z.symm⟩
def roomD (b : Bak) (ds : List Int) (i : Nat) : Int := if (i : Int) ∈ ds then 0 else roomB b
def roomsL (b : Bak) (ds : List Int) : List Int := (List.range b.lights.length).map (roomD b ds)
def spRooms (K : PySem.W.Frag) : Sp := fun vs H Q _ => ∃ x b a ds, vs = [x, .ref a] ∧ Th K H x (bakD b) ∧ bakB (bakD b) = true ∧ SqL K H a ((ds : List Int).map V.int) ∧ ∀ H' p, Same H H' → H' p = some (.lst ((roomsL b ds).map V.int)) → Q (.ref p) H'
theorem ok_rooms_beside {f : Addr} {fd : FuncData} (F : Fun K "rooms_beside" "rooms_beside" s_rooms_beside f fd) (B : Bi mg) (D_room_of_day : Def P w K mg base "room_of_day" 1 ["bakery"] (spRoom K)) : FnOk P w K mg base CX0 2 f fd ["bakery", "dark"] (spRooms K) := by
  refine F.ok sc_rooms_beside (fun vs H Q E h => ?_) (fun cdv A outer s H vs Q E hr h => ?_)
  · obtain ⟨_, _, _, _, rfl, _⟩ := h
    rfl
  · obtain ⟨x, b, ad, ds, rfl, hx, hb, hds, q⟩ := h
    refine ⟨_, (pss_cons (ps_asg (pv 0) (pg_tup rfl (pgs_cons (pg_name (i := 2) sc_rooms_beside.nd rfl (Or.inl rfl)) (pgs_cons (pg_name (i := 3) sc_rooms_beside.nd rfl (Or.inl rfl)) (pgs_cons (pg_name (i := 4) sc_rooms_beside.nd rfl (Or.inl rfl)) pgs_nil)))))
 (pss_cons (ps_set (i := 5) sc_rooms_beside.nd rfl (Or.inr rfl) (pe_callD D_room_of_day hr (by rfl) (pa_cons (pv 0) pa_nil)))
 (pss_one (ps_ret (pe_lc (own := [("day", 6)]) (g := (gName 6)) (te := (tIf (tTest (tOp (rIn K false) _ _)) _ _)) rfl sc_rooms_beside.nd (pi_range1 (by rfl) B.range (pa_cons (pe_callB call_lnL (by rfl) B.len (by decide +kernel) (pa_cons (pv 2) pa_nil)) pa_nil)) (blkOk_by (own := [("day", 6)]) (N := ["bakery", "dark", "lights", "bound", "goods", "room", "day"]) (sc := defScope s_rooms_beside) (by decide +kernel)) (fun _ _ _ _ _ => (pg_name (i := 6) sc_rooms_beside.nd rfl (Or.inl rfl))) (fun _ _ _ _ _ => pts_nil) (fun _ _ _ _ _ => (pe_ifExp (pt_cmpR op_in_seq (pv 6) (pv 1) (by rfl)) pe_int (pv 5)))))))), ?_⟩
    obtain ⟨⟨c1, c2⟩, _, _, ⟨c5, c6⟩, c7⟩ := bak_parts hb
    have hx0 := hx
    obtain ⟨a, l, v2, ga, xl, xg, rfl, ht, hl, hla, h2, hgl, hga⟩ := Th.bak hx
    have lenL : xl.length = b.lights.length := by rw [hla.length, List.length_map]
    walk_at "wp"
    refine ⟨_, ht, rfl, ?_⟩
    walk_at "wp"
    refine ⟨_, b, rfl, hx0, hb, fun H1 S1 => ?_⟩
    walk_at "wp"
    refine ⟨_, S1.seq hl, ?_⟩
    rw [lenL]
    refine ⟨by omega, by omega, fun D hD => ?_⟩
    rw [show (b.lights.length : Int).toNat = b.lights.length by omega]
    refine LcR.by walk_range (fun i H' => Same H1 H' ∧ H' D = some (.lst (((List.range i).map (roomD b ds)).map V.int))) ⟨same_upd hD, upd_same⟩ (fun _ _ _ _ => trivial) (fun i v H0 H2 hi hI yy => ?_) (fun H2 hI => ?_)
    · obtain ⟨rfl, rfl⟩ := yy
      obtain ⟨S2, ea⟩ := hI
      walk_at "wp"
      refine ⟨_, .inl ((S1.trans S2).seq hds), rfl, flat_ints _, ?_⟩
      rw [inV_ints]
      have put : ∀ z, roomD b ds i = z → ∃ acc, H2 D = some (.lst acc) ∧ acc.length < sizeLine ∧ Same H1 (upd H2 D (.lst (acc ++ [V.int z]))) ∧ upd H2 D (.lst (acc ++ [V.int z])) D = some (.lst (((List.range (i + 1)).map (roomD b ds)).map V.int)) := fun z e => by
        refine ⟨_, ea, sz100l (by rw [List.length_map, List.length_map, List.length_range]; omega), same_mut S2 hD, ?_⟩
        rw [upd_same, List.range_succ, List.map_append, List.map_append, List.map_singleton, List.map_singleton, e]
      by_cases hm : (i : Int) ∈ ds
      · rw [decide_eq_true hm]
        exact put 0 (by unfold roomD; rw [if_pos hm])
      · rw [decide_eq_false hm]
        exact put _ (by unfold roomD; rw [if_neg hm])
    · obtain ⟨S2, ea⟩ := hI
      exact q _ _ (S1.trans S2) ea
end
end Bk

namespace Bk
open PySem PySem.Spec PyProof.Rows L2
local macro_rules | `(tactic| walk_at "wp") => `(tactic| try simp only [tLc2_eq, tAugS, rNinr_r, rNeN_r, rCatL_r, rSlT_r, rListOf_r, rIsB_b, rNotB_b, tFmtO, tJs, tOst, tCallS, WE, tRaise2, rOne_i, rSorD_r, tDNewK, Int.zero_add, tNever, tFor_eq, tLc_eq, iList, iTup, iRng1_eq, rRng1_i, iRng2_eq, rRng2_i, iEnum_eq, rEnum_r, iZip_eq, rZip_r, tSl, tPart, tNoPart, rSlL_r, rCat_r, rIn_r, rNin_r, rRepr_r, iRevR, rMin_r, rShr_i, rOdd_i, rSetL_r, gSub, rRg1_i, rRg2_i, rInr_r, tAug, ipI_ii, tLstRg, tRg1, tRg2, gTup_r, gUnl_r, rInt1_b, rInt1_i, rRep_r, tStep_r, scal, tSeq, tNext, tAsg, tRet, tRetN, tIfS, tDrop, tCB, tCons, tNil, tVar, tOp, tUn, tC, rU_i, rI_ii, rI0_ii, rEq, rNe, tTest, tB, tAnd, tOr, tNot, tAndV, tOrV, tNotV, tIf, tChain, tLst, tTup, tBM, tBM0, rAppend_r, rIxL_r, rIxT_r, rMx_ii, rMn_ii, rLnL_r, rLnT_r, rIsD_int, rIsD_bool, rIsD_list, rIsD_tuple, tCall, gName, gNil_n, gCons_c, cxK, L2.start, List.map, List.replicate, List.length_cons, List.length_nil, List.cons_append, List.nil_append, List.append_nil, List.getElem?_cons_zero, List.getElem?_cons_succ, Option.some.injEq, exists_eq_left', exists_eq_left, V.int.injEq, V.bl.injEq, V.str.injEq, V.ref.injEq, List.cons.injEq, and_true, true_and, and_self, List.set, wipe, rAll_r, rSum_r, reduceCtorEq, decide_true, decide_false, reduceIte, ite_true, ite_false, if_true, if_false, Bool.false_eq_true, Bool.not_true, Bool.not_false])
local macro_rules | `(tactic| walk_at "shaped") => `(tactic| (simp only [tLc2_eq, tAugS, SeqAt.shaped, PyData.canLay0, PyData.canLayAll0, PyData.depth, PyData.depthAll]; rfl))
local macro_rules | `(tactic| walk_at "lay") => `(tactic| (simp only [tLc2_eq, tAugS, PyData.canLay0, PyData.canLayAll0]; rfl))
local macro_rules | `(tactic| walk_at "wg") => `(tactic| try simp only [gName, gTup_r, gCons_c, gNil_n, cxK, List.set, List.cons.injEq, and_true, true_and, exists_eq_left', exists_eq_left, List.length_cons, List.length_nil])
section
variable {P : Program} {w : World} {K : PySem.W.Frag} {mg : Str → Option Value} {base : Heap}
abbrev s_last_too_much : Stmt := top 31
theorem sc_last_too_much : FnScope ["wants", "rooms", "first", "ends", "start", "end", "many", "over", "last", "room"] ["wants", "rooms", "first"] (defScope s_last_too_much) := ⟨rfl, rfl, rfl, by decide +kernel, rfl, by decide +kernel, by decide +kernel⟩
theorem Trs.mem {H : Hp} : ∀ {vs : List V} {ts : List Tr}, Trs H vs ts → True
  | _, _, _ => trivial
def TrOk (W : List Tr) (n : Nat) : Prop := ∀ t ∈ W, 0 ≤ t.1 ∧ t.1 ≤ t.2.1 ∧ t.2.1 < (n : Int)
def spLtm (K : PySem.W.Frag) : Sp := fun vs H Q _ => ∃ (v : V) (W : List Tr) (a : Addr) (rs : List Int) (f : Nat), vs = [v, .ref a, .int (f : Int)] ∧ TrL H v W ∧ W.length ≤ 1000 ∧ H a = some (.lst (rs.map V.int)) ∧ TrOk W rs.length ∧ f ≤ rs.length ∧ rs.length ≤ 1000 ∧ ∀ H' o, Same H H' → IsLm W rs f o → Q (natV o) H'
theorem ok_last_too_much {f : Addr} {fd : FuncData} (F : Fun K "last_too_much" "last_too_much" s_last_too_much f fd) (B : Bi mg) : FnOk P w K mg base CX0 1 f fd ["wants", "rooms", "first"] (spLtm K) := by
  refine F.ok sc_last_too_much (fun vs H Q E h => ?_) (fun cdv A outer s H vs Q E hr h => ?_)
  · obtain ⟨_, _, _, _, _, rfl, _⟩ := h
    rfl
  · obtain ⟨v, W, a, rs, f0, rfl, ⟨aw, vs, rfl, haw, hvs⟩, hW1, ha, hok, hf, hn, q⟩ := h
    refine ⟨_, (pss_cons (ps_setLc (i := 3) (own := [("room", 9)]) (g := (gName 9)) rfl sc_last_too_much.nd rfl rfl (sw_true rfl rfl rfl (by decide +kernel)) (pi_list (pv 1)) (blkOk_by (own := [("room", 9)]) (N := ["wants", "rooms", "first", "ends", "start", "end", "many", "over", "last", "room"]) (sc := defScope s_last_too_much) (by decide +kernel)) (fun _ _ _ _ _ => (pg_name (i := 9) sc_last_too_much.nd rfl (Or.inl rfl))) (fun _ _ _ _ _ => pts_nil) (fun _ _ _ _ _ => pe_int))
 (pss_cons (ps_for PassesOwn.never rfl (pi_list (pv 0)) (pg_tup rfl (pgs_cons (pg_name (i := 4) sc_last_too_much.nd rfl (Or.inl rfl)) (pgs_cons (pg_name (i := 5) sc_last_too_much.nd rfl (Or.inl rfl)) (pgs_cons (pg_name (i := 6) sc_last_too_much.nd rfl (Or.inl rfl)) pgs_nil)))) (pss_one (ps_if (pt_cmpR op_ge (pv 4) (pv 2) (nomark _)) (pss_one (ps_augS (pv 3) (pv 5) get_list (pv 6) ip_add set_list)) pss_nil)))
 (pss_cons (ps_set (i := 7) sc_last_too_much.nd rfl (Or.inl rfl) pe_int)
 (pss_cons (ps_for PassesOwn.never rfl (pi_range2 (by rfl) B.range (pa_cons (pv 2) (pa_cons (pe_callB call_lnL (by rfl) B.len (by decide +kernel) (pa_cons (pv 1) pa_nil)) pa_nil))) (pg_name (i := 8) sc_last_too_much.nd rfl (Or.inl rfl)) (pss_cons (ps_aug (i := 7) sc_last_too_much.nd rfl (Or.inl rfl) (pe_op op_sub (pe_ix ix_list (pv 3) (pv 8) (fun _ _ => rfl)) (pe_ix ix_list (pv 1) (pv 8) (fun _ _ => rfl))) ip_add)
 (pss_one (ps_if (pt_cmpR op_gt (pv 7) pe_int (nomark _)) (pss_one (ps_ret (pv 8))) pss_nil))))
 (pss_one (ps_ret pe_non)))))), ?_⟩
    walk_at "wp"
    refine ⟨⟨_, SqL.of ha⟩, fun D hD => ?_⟩
    refine LcR.by (walk_list (xs := rs.map V.int)) (fun i H' => Same H H' ∧ H' D = some (.lst (((List.range i).map (endsF [] f0)).map V.int))) ⟨same_upd hD, upd_same⟩ (fun i H' _ hI => hI.1.seq (SqL.of ha)) (fun i x H0 H2 hi hI yy => ?_) (fun H2 hI => ?_)
    · obtain ⟨rfl, hxi⟩ := yy
      obtain ⟨S2, ea⟩ := hI
      rw [List.length_map] at hi
      walk_at "wp"
      refine ⟨_, ea, sz100l (by rw [List.length_map, List.length_map, List.length_range]; omega), same_mut S2 hD, ?_⟩
      rw [upd_same, List.range_succ, List.map_append, List.map_append, List.map_singleton, List.map_singleton]
      rfl
    obtain ⟨S2, ea⟩ := hI
    rw [List.length_map] at ea
    have hvl := hvs.length
    refine ⟨⟨_, SqL.of (S2 _ _ haw)⟩, LoopR.by (walk_list (xs := vs)) (fun i σ H' => (∃ y4 y5 y6, σ = [some (.ref aw), some (.ref a), some (.int (f0 : Int)), some (.ref D), y4, y5, y6, none, none, none]) ∧ Same H H' ∧ H' D = some (.lst (((List.range rs.length).map (endsF (W.take i) f0)).map V.int))) ⟨⟨_, _, _, rfl⟩, S2, by rw [List.take_zero]; exact ea⟩ (fun i σ H' _ hI => SqL.of (hI.2.1 _ _ haw)) (fun i x σ H0 H3 hi hI yy => ?_) (fun σ H3 hI => ?_)⟩
    · obtain ⟨rfl, hxi⟩ := yy
      obtain ⟨⟨y4, y5, y6, rfl⟩, S3, e3⟩ := hI
      obtain ⟨p, t, rfl, ht, hp⟩ := hvs.get hxi
      obtain ⟨o1, o2, o3⟩ := hok t (List.mem_of_getElem? ht)
      have htk : W.take (i + 1) = W.take i ++ [t] := by rw [List.take_succ, ht]; rfl
      walk_at "wp"
      refine ⟨_, SqT.of (S3 _ _ hp), rfl, ?_⟩
      simp only [trV]
      walk_at "wp"
      by_cases hle : (f0 : Int) ≤ t.1
      · rw [if_pos (decide_eq_true hle)]
        have hat : (((List.range rs.length).map (endsF (W.take i) f0)).map V.int)[t.2.1.toNat]? = some (.int (endsF (W.take i) f0 t.2.1.toNat)) := by
          rw [List.getElem?_map, List.getElem?_map, List.getElem?_range (by omega)]
          rfl
        refine ⟨_, _, SqL.of e3, atI_of (by omega) hat, ?_⟩
        walk_at "wp"
        refine ⟨_, _, e3, (show ixN _ t.2.1 = some t.2.1.toNat from ?_), ⟨_, _, _, rfl, rfl, rfl⟩, same_mut S3 hD, ?_⟩
        · have := ixN_nat (n := rs.length) (j := t.2.1.toNat) (by omega)
          rw [List.length_map, List.length_map, List.length_range]
          rwa [show ((t.2.1.toNat : Nat) : Int) = t.2.1 by omega] at this
        · rw [upd_same, htk, ← ends_set (by omega) o3 hle, List.map_set]
      · rw [if_neg (fun z => hle (of_decide_eq_true z))]
        refine ⟨⟨_, _, _, rfl, rfl, rfl⟩, S3, ?_⟩
        rw [htk, ← ends_skip hle]
        exact e3
    · obtain ⟨⟨y4, y5, y6, rfl⟩, S3, e3⟩ := hI
      rw [hvl, List.take_of_length_le (Nat.le_refl _)] at e3
      have hW : ∀ t ∈ W, t.1 ≤ t.2.1 := fun t h => (hok t h).2.1
      walk_at "wp"
      refine ⟨_, SqL.of (S3 _ _ ha), ?_⟩
      rw [List.length_map]
      refine ⟨⟨by omega, by omega, by omega, by omega⟩, ?_⟩
      rw [show ((rs.length : Int) - (f0 : Int)).toNat = rs.length - f0 by omega]
      refine LoopR.by (walk_range (lo := (f0 : Int)) (n := rs.length - f0)) (fun j σ H' => (∃ y8, σ = [some (.ref aw), some (.ref a), some (.int (f0 : Int)), some (.ref D), y4, y5, y6, some (.int (overF W rs f0 j)), y8, none]) ∧ Same H3 H' ∧ ∀ m, f0 ≤ m → m < f0 + j → ¬ Over W rs f0 m) ⟨⟨_, rfl⟩, Same.refl _, fun m h1 h2 => by omega⟩ (fun _ _ _ _ _ => trivial) (fun j x σ H4 H5 hj hI yy => ?_) (fun σ H4 hI => ?_)
      · obtain ⟨rfl, rfl⟩ := yy
        obtain ⟨⟨y8, rfl⟩, S4, hno⟩ := hI
        have hlt : f0 + j < rs.length := by omega
        have hE : (((List.range rs.length).map (endsF W f0)).map V.int)[((f0 : Int) + (j : Int)).toNat]? = some (.int (endsF W f0 (f0 + j))) := by
          rw [show ((f0 : Int) + (j : Int)).toNat = f0 + j by omega, List.getElem?_map, List.getElem?_map, List.getElem?_range hlt]
          rfl
        have hR : (rs.map V.int)[((f0 : Int) + (j : Int)).toNat]? = some (.int (rs.getD (f0 + j) 0)) := by
          rw [show ((f0 : Int) + (j : Int)).toNat = f0 + j by omega, List.getElem?_map, List.getD_eq_getElem?_getD, List.getElem?_eq_getElem hlt]
          rfl
        walk_at "wp"
        refine ⟨_, _, SqL.of (S4 _ _ e3), atI_of (by omega) hE, _, _, SqL.of ((S3.trans S4) _ _ ha), atI_of (by omega) hR, ?_⟩
        walk_at "wp"
        rw [show overF W rs f0 j + (endsF W f0 (f0 + j) - rs.getD (f0 + j) 0) = overF W rs f0 (j + 1) from rfl]
        have hov := over_iff (rs := rs) (f := f0) (l := f0 + j) hW (by omega) hlt
        rw [show f0 + j - f0 + 1 = j + 1 by omega] at hov
        by_cases hpos : 0 < overF W rs f0 (j + 1)
        · rw [if_pos (decide_eq_true hpos)]
          have := q _ (some (f0 + j)) (S3.trans S4) ⟨by omega, hlt, hov.mp hpos, hno⟩
          exact this
        · rw [if_neg (fun z => hpos (of_decide_eq_true z))]
          refine ⟨⟨_, rfl, rfl⟩, S4, fun m h1 h2 => ?_⟩
          by_cases e : m = f0 + j
          · subst e
            exact fun z => hpos (hov.mpr z)
          · exact hno m h1 (by omega)
      · obtain ⟨⟨y8, rfl⟩, S4, hno⟩ := hI
        have := q H4 none (S3.trans S4) (fun m h1 h2 => hno m h1 (by omega))
        exact this
abbrev s_first_stretch : Stmt := top 32
theorem sc_first_stretch : FnScope ["wants", "rooms", "first", "last"] ["wants", "rooms"] (defScope s_first_stretch) := ⟨rfl, rfl, rfl, by decide +kernel, rfl, by decide +kernel, by decide +kernel⟩
def stV : Option (Nat × Nat) → Hp → V → Prop
  | none, _, v => v = .non
  | some (f, l), H, v => ∃ p, v = .ref p ∧ H p = some (.tup [.int (f : Int), .int (l : Int)])
def spFs (K : PySem.W.Frag) : Sp := fun vs H Q _ => ∃ (v : V) (W : List Tr) (a : Addr) (rs : List Int), vs = [v, .ref a] ∧ TrL H v W ∧ W.length ≤ 1000 ∧ H a = some (.lst (rs.map V.int)) ∧ TrOk W rs.length ∧ rs.length ≤ 1000 ∧ ∀ H' o y, Same H H' → IsFs W rs o → stV o H' y → Q y H'
theorem ok_first_stretch {f : Addr} {fd : FuncData} (F : Fun K "first_stretch" "first_stretch" s_first_stretch f fd) (B : Bi mg) (D_last_too_much : Def P w K mg base "last_too_much" 1 ["wants", "rooms", "first"] (spLtm K)) : FnOk P w K mg base CX0 2 f fd ["wants", "rooms"] (spFs K) := by
  refine F.ok sc_first_stretch (fun vs H Q E h => ?_) (fun cdv A outer s H vs Q E hr h => ?_)
  · obtain ⟨_, _, _, _, rfl, _⟩ := h
    rfl
  · obtain ⟨v, W, a, rs, rfl, hv, hW1, ha, hok, hn, q⟩ := h
    refine ⟨_, (pss_cons (ps_for PassesOwn.never rfl (pi_range1 (by rfl) B.range (pa_cons (pe_callB call_lnL (by rfl) B.len (by decide +kernel) (pa_cons (pv 1) pa_nil)) pa_nil)) (pg_name (i := 2) sc_first_stretch.nd rfl (Or.inl rfl)) (pss_cons (ps_set (i := 3) sc_first_stretch.nd rfl (Or.inl rfl) (pe_callD D_last_too_much hr (by rfl) (pa_cons (pv 0) (pa_cons (pv 1) (pa_cons (pv 2) pa_nil)))))
 (pss_one (ps_if (pt_cmpR op_notN (pv 3) pe_non (nomark _)) (pss_one (ps_ret (pe_tup (pa_cons (pv 2) (pa_cons (pv 3) pa_nil))))) pss_nil))))
 (pss_one (ps_ret pe_non))), ?_⟩
    walk_at "wp"
    refine ⟨_, SqL.of ha, ?_⟩
    rw [List.length_map]
    refine ⟨by omega, by omega, ?_⟩
    rw [show (rs.length : Int).toNat = rs.length by omega]
    refine LoopR.by walk_range (fun j σ H' => (∃ y2 y3, σ = [some v, some (.ref a), y2, y3]) ∧ Same H H' ∧ ∀ e, e < j → IsLm W rs e none) ⟨⟨_, _, rfl⟩, Same.refl _, fun e h => by omega⟩ (fun _ _ _ _ _ => trivial) (fun j x σ H4 H5 hj hI yy => ?_) (fun σ H4 hI => ?_)
    · obtain ⟨rfl, rfl⟩ := yy
      obtain ⟨⟨y2, y3, rfl⟩, S4, hno⟩ := hI
      walk_at "wp"
      refine ⟨v, W, a, rs, j, rfl, hv.same S4, hW1, S4 _ _ ha, hok, by omega, hn, fun H6 o S6 ho => ?_⟩
      cases o with
      | none =>
        simp only [natV, natO, optV]
        walk_at "wp"
        refine ⟨⟨_, _, rfl, rfl⟩, S4.trans S6, fun e he => ?_⟩
        by_cases h : e = j
        · rw [h]; exact ho
        · exact hno e (by omega)
      | some l =>
        simp only [natV, natO, optV]
        walk_at "wp"
        refine ⟨sz100 (by decide), fun p hp => ?_⟩
        exact q _ (some (j, l)) _ (S4.trans (S6.trans (same_upd hp))) ⟨hj, ho, hno⟩ ⟨p, rfl, upd_same⟩
    · obtain ⟨⟨y2, y3, rfl⟩, S4, hno⟩ := hI
      exact q _ none _ S4 hno rfl
end
end Bk

namespace Bk
open PySem PySem.Spec PyProof.Rows L2
local macro_rules | `(tactic| walk_at "wp") => `(tactic| try simp only [tLc2_eq, tAugS, rNinr_r, rNeN_r, rCatL_r, rSlT_r, rListOf_r, rIsB_b, rNotB_b, tFmtO, tJs, tOst, tCallS, WE, tRaise2, rOne_i, rSorD_r, tDNewK, Int.zero_add, tNever, tFor_eq, tLc_eq, iList, iTup, iRng1_eq, rRng1_i, iRng2_eq, rRng2_i, iEnum_eq, rEnum_r, iZip_eq, rZip_r, tSl, tPart, tNoPart, rSlL_r, rCat_r, rIn_r, rNin_r, rRepr_r, iRevR, rMin_r, rShr_i, rOdd_i, rSetL_r, gSub, rRg1_i, rRg2_i, rInr_r, tAug, ipI_ii, tLstRg, tRg1, tRg2, gTup_r, gUnl_r, rInt1_b, rInt1_i, rRep_r, tStep_r, scal, tSeq, tNext, tAsg, tRet, tRetN, tIfS, tDrop, tCB, tCons, tNil, tVar, tOp, tUn, tC, rU_i, rI_ii, rI0_ii, rEq, rNe, tTest, tB, tAnd, tOr, tNot, tAndV, tOrV, tNotV, tIf, tChain, tLst, tTup, tBM, tBM0, rAppend_r, rIxL_r, rIxT_r, rMx_ii, rMn_ii, rLnL_r, rLnT_r, rIsD_int, rIsD_bool, rIsD_list, rIsD_tuple, tCall, gName, gNil_n, gCons_c, cxK, L2.start, List.map, List.replicate, List.length_cons, List.length_nil, List.cons_append, List.nil_append, List.append_nil, List.getElem?_cons_zero, List.getElem?_cons_succ, Option.some.injEq, exists_eq_left', exists_eq_left, V.int.injEq, V.bl.injEq, V.str.injEq, V.ref.injEq, List.cons.injEq, and_true, true_and, and_self, List.set, wipe, rAll_r, rSum_r, reduceCtorEq, decide_true, decide_false, reduceIte, ite_true, ite_false, if_true, if_false, Bool.false_eq_true, Bool.not_true, Bool.not_false])
local macro_rules | `(tactic| walk_at "shaped") => `(tactic| (simp only [tLc2_eq, tAugS, SeqAt.shaped, PyData.canLay0, PyData.canLayAll0, PyData.depth, PyData.depthAll]; rfl))
local macro_rules | `(tactic| walk_at "lay") => `(tactic| (simp only [tLc2_eq, tAugS, PyData.canLay0, PyData.canLayAll0]; rfl))
local macro_rules | `(tactic| walk_at "wg") => `(tactic| try simp only [gName, gTup_r, gCons_c, gNil_n, cxK, List.set, List.cons.injEq, and_true, true_and, exists_eq_left', exists_eq_left, List.length_cons, List.length_nil])
section
variable {P : Program} {w : World} {K : PySem.W.Frag} {mg : Str → Option Value} {base : Heap}
abbrev s_look_at_days : Stmt := top 23
theorem sc_look_at_days : FnScope ["bakery", "thing", "lights", "bound", "goods", "day", "following"] ["bakery", "thing"] (defScope s_look_at_days) := ⟨rfl, rfl, rfl, by decide +kernel, rfl, by decide +kernel, by decide +kernel⟩
def Rising : List Int → Prop
  | x :: y :: r => x < y ∧ Rising (y :: r)
  | _ => True
theorem rising_at : ∀ {ds : List Int} {i : Nat} {x y : Int}, Rising ds → ds[i]? = some x → ds[i + 1]? = some y → x < y
  | a :: b :: r, 0, x, y, h, e1, e2 => by cases e1; cases e2; exact h.1
  | a :: b :: r, i + 1, x, y, h, e1, e2 => rising_at (ds := b :: r) (i := i) h.2 e1 e2
  | [a], 0, x, y, h, e1, e2 => by cases e2
  | [a], i + 1, x, y, h, e1, e2 => by cases e1
  | [], i, x, y, h, e1, e2 => by cases e1
def DarkOk (ds : List Int) (n : Nat) : Prop := ds.length ≤ 1000 ∧ (∀ d ∈ ds, 0 ≤ d ∧ d < (n : Int)) ∧ Rising ds
def spLookD (K : PySem.W.Frag) : Sp := fun vs H Q _ => ∃ x b a ds, vs = [x, .ref a] ∧ Th K H x (bakD b) ∧ bakB (bakD b) = true ∧ SqL K H a ((ds : List Int).map V.int) ∧ DarkOk ds b.lights.length ∧ ∀ H', Same H H' → Q .non H'
theorem th_ints {H : Hp} {a : Addr} {ds : List Int} (h : SqL K H a (ds.map V.int)) : Th K H (.ref a) (.list (ds.map PyData.int)) := .lst h (ThAll.ints ds)
theorem ok_look_at_days {f : Addr} {fd : FuncData} (F : Fun K "look_at_days" "look_at_days" s_look_at_days f fd) (B : Bi mg) (Bz : mg "zip" = none) (D_is_place : Def P w K mg base "is_place" 2 ["thing", "many"] (spPlace K)) : FnOk P w K mg base CX0 3 f fd ["bakery", "thing"] (spLookD K) := by
  refine F.ok sc_look_at_days (fun vs H Q E h => ?_) (fun cdv A outer s H vs Q E hr h => ?_)
  · obtain ⟨_, _, _, _, rfl, _⟩ := h
    rfl
  · obtain ⟨x, b, ad, ds, rfl, hx, hb, hds, ⟨hd1, hd2, hd3⟩, q⟩ := h
    refine ⟨_, (pss_cons (ps_asg (pv 0) (pg_tup rfl (pgs_cons (pg_name (i := 2) sc_look_at_days.nd rfl (Or.inr rfl)) (pgs_cons (pg_name (i := 3) sc_look_at_days.nd rfl (Or.inl rfl)) (pgs_cons (pg_name (i := 4) sc_look_at_days.nd rfl (Or.inl rfl)) pgs_nil)))))
 (pss_cons (ps_if (PW.pt (pw_or (pt_not (pt_val (pe_callB (call_isD .list) (by rfl) B.isinstance (by decide +kernel) (pa_cons (pv 1) (pa_cons (pe_bltn (v := .ty "list") (by rfl) B.list (by decide +kernel) rfl) pa_nil))))) (pw_or1 (pt_not (pt_val (pe_callB (cr_all rfl) (by rfl) B.all (by decide +kernel) (pa_cons (pe_lc (own := [("day", 5)]) (g := (gName 5)) (te := (tCall _ _ _ (tCons _ (tCons (tCB (rLnL K) _) tNil)))) rfl sc_look_at_days.nd (pi_list (pv 1)) (blkOk_by (own := [("day", 5)]) (N := ["bakery", "thing", "lights", "bound", "goods", "day", "following"]) (sc := defScope s_look_at_days) (by decide +kernel)) (fun _ _ _ _ _ => (pg_name (i := 5) sc_look_at_days.nd rfl (Or.inl rfl))) (fun _ _ _ _ _ => pts_nil) (fun _ _ _ _ _ => (pe_callD D_is_place hr (by rfl) (pa_cons (pv 5) (pa_cons (pe_callB call_lnL (by rfl) B.len (by decide +kernel) (pa_cons (pv 2) pa_nil)) pa_nil))))) pa_nil))))))) (pss_one ps_never) pss_nil)
 (pss_one (ps_if (pt_not (pt_val (pe_callB (cr_all rfl) (by rfl) B.all (by decide +kernel) (pa_cons (pe_lc (own := [("day", 5), ("following", 6)]) (g := (gTup K 2 (gCons (gName 5) (gCons (gName 6) gNil)))) rfl sc_look_at_days.nd (pi_zip (by rfl) Bz (pa_cons (pv 1) (pa_cons (pe_slice sl_list (pv 1) (po_some pe_int) po_none) pa_nil))) (blkOk_by (own := [("day", 5), ("following", 6)]) (N := ["bakery", "thing", "lights", "bound", "goods", "day", "following"]) (sc := defScope s_look_at_days) (by decide +kernel)) (fun _ _ _ _ _ => (pg_tup rfl (pgs_cons (pg_name (i := 5) sc_look_at_days.nd rfl (Or.inl rfl)) (pgs_cons (pg_name (i := 6) sc_look_at_days.nd rfl (Or.inl rfl)) pgs_nil)))) (fun _ _ _ _ _ => pts_nil) (fun _ _ _ _ _ => (pe_cmpR op_lt (pv 5) (pv 6) (nomark _)))) pa_nil)))) (pss_one ps_never) pss_nil)))), ?_⟩
    obtain ⟨a, l, v2, ga, xl, xg, rfl, ht, hl, hla, h2, hgl, hga⟩ := Th.bak hx
    have lenL : xl.length = b.lights.length := by rw [hla.length, List.length_map]
    have alltrue : ∀ n : Nat, ((List.range n).map fun _ => true).all id = true := fun n => by
      rw [List.all_eq_true]
      intro x hx
      obtain ⟨_, _, rfl⟩ := List.mem_map.mp hx
      rfl
    walk_at "wp"
    refine ⟨_, ht, rfl, ?_⟩
    walk_at "wp"
    refine ⟨_, th_ints hds, ?_⟩
    simp only [isD]
    walk_at "wp"
    refine ⟨⟨_, hds⟩, fun D hD => ?_⟩
    refine LcR.by (walk_list (xs := ds.map V.int)) (fun i H' => Same H H' ∧ H' D = some (.lst (((List.range i).map fun _ => true).map V.bl))) ⟨same_upd hD, upd_same⟩ (fun i H' _ hI => hI.1.seq hds) (fun i x H0 H2 hi hI yy => ?_) (fun H2 hI => ?_)
    · obtain ⟨rfl, hxi⟩ := yy
      obtain ⟨S2, ea⟩ := hI
      rw [List.length_map] at hi
      rw [List.getElem?_map, List.getElem?_eq_getElem hi] at hxi
      cases hxi
      obtain ⟨p1, p2⟩ := hd2 ds[i] (List.getElem_mem hi)
      walk_at "wp"
      refine ⟨_, S2.seq hl, ?_⟩
      rw [lenL]
      refine ⟨_, _, rfl, ?_⟩
      rw [decide_eq_true p1, decide_eq_true p2]
      refine ⟨_, ea, sz100l (by rw [List.length_map, List.length_map, List.length_range]; omega), same_mut S2 hD, ?_⟩
      rw [upd_same, List.range_succ, List.map_append, List.map_append]
      rfl
    obtain ⟨S2, ea⟩ := hI
    refine ⟨_, SqL.of ea, ?_⟩
    rw [alltrue]
    walk_at "wp"
    refine ⟨_, S2.seq hds, fun p np => ?_⟩
    rw [show cutV (ds.map V.int) (some 1) none = (ds.drop 1).map V.int from (cutV_from _ 1).trans (by rw [List.map_drop])]
    have S3 := same_upd (o := .lst ((ds.drop 1).map V.int)) np
    have E3 : upd H2 p (.lst ((ds.drop 1).map V.int)) p = some (.lst ((ds.drop 1).map V.int)) := upd_same
    generalize upd H2 p (.lst ((ds.drop 1).map V.int)) = H3 at S3 E3 ⊢
    refine ⟨_, _, (S2.trans S3).seq hds, SqL.of E3, fun D2 hD2 => ?_⟩
    refine LcR.by (walk_zip (n := ds.length - 1) (xs := ds.map V.int) (ys := (ds.drop 1).map V.int) (by rw [List.length_map, List.length_map, List.length_drop]; omega)) (fun i H' => Same H3 H' ∧ H' D2 = some (.lst (((List.range i).map fun _ => true).map V.bl))) ⟨same_upd hD2, upd_same⟩ (fun i H' _ hI => ⟨(S2.trans (S3.trans hI.1)).seq hds, hI.1.seq (SqL.of E3)⟩) (fun i v H0 H4 hi hI hY => ?_) (fun H4 hI => ?_)
    · obtain ⟨S0, hacc⟩ := hI
      have S4 := S0.trans (ypair_same hY)
      have hacc2 := (ypair_same hY) _ _ hacc
      obtain ⟨T, z1, z2, rfl, hT, rfl, e1, e2⟩ := hY
      have e1 : (ds.map V.int)[i]? = some z1 := e1
      have e2 : ((ds.drop 1).map V.int)[i]? = some z2 := e2
      have g1 : ds[i]? = some ds[i] := List.getElem?_eq_getElem (by omega)
      have g2 : ds[i + 1]? = some ds[i + 1] := List.getElem?_eq_getElem (by omega)
      rw [List.getElem?_map, g1] at e1
      rw [List.getElem?_map, List.getElem?_drop, Nat.add_comm 1 i, g2] at e2
      cases e1
      cases e2
      have hlt := rising_at hd3 g1 g2
      walk_at "wp"
      refine ⟨_, SqT.of upd_same, rfl, ?_⟩
      generalize upd H0 T (.tup [V.int ds[i], V.int ds[i + 1]]) = H4 at S4 hacc2 ⊢
      walk_at "wp"
      rw [decide_eq_true hlt]
      refine ⟨_, hacc2, sz100l (by rw [List.length_map, List.length_map, List.length_range]; omega), same_mut S4 hD2, ?_⟩
      rw [upd_same, List.range_succ, List.map_append, List.map_append]
      rfl
    · obtain ⟨S4, ea⟩ := hI
      refine ⟨_, SqL.of ea, ?_⟩
      rw [alltrue]
      exact q _ (S2.trans (S3.trans S4))
abbrev s_too_much : Stmt := top 33
theorem sc_too_much : FnScope ["bakery", "dark"] ["bakery", "dark"] (defScope s_too_much) := ⟨rfl, rfl, rfl, by decide +kernel, rfl, by decide +kernel, by decide +kernel⟩
def IsTm (b : Bak) (ds : List Int) (o : Option (Nat × Nat)) : Prop := IsFs (wantsB b) (roomsL b ds) o
theorem roomsL_len {b : Bak} {ds : List Int} : (roomsL b ds).length = b.lights.length := by
  unfold roomsL
  rw [List.length_map, List.length_range]
theorem finesL_one {ds : List Day} {l : Nat} {d : Day} {z : Int} (h : ds[l]? = some d) (hf : d.fine = some z) : ∃ y, finesL ds l (l + 1) = some y := by
  unfold finesL
  rw [show l + 1 - l = 1 by omega, show ds.drop l = d :: ds.drop (l + 1) from by rw [List.drop_eq_getElem_cons (List.getElem?_eq_some_iff.mp h).1, (List.getElem?_eq_some_iff.mp h).2], List.take_succ_cons, List.take_zero, List.map_cons, List.map_nil, hf]
  exact ⟨_, rfl⟩
theorem reach_up {g : Good} {k : Nat} : ∀ (d l : Nat), l + d + 1 = g.days.length → k ≤ l → (∃ z, finesL g.days k l = some z) → ∃ m, ReachL g k m
  | 0, l, h, hk, hz => ⟨l, hk, by omega, hz, fun z => by omega⟩
  | d + 1, l, h, hk, ⟨z, hz⟩ => by
    have hd : g.days[l]? = some g.days[l] := List.getElem?_eq_getElem (by omega)
    cases hf : g.days[l].fine with
    | none => exact ⟨l, hk, by omega, ⟨z, hz⟩, fun _ => ⟨_, hd, hf⟩⟩
    | some y =>
      obtain ⟨u, hu⟩ := finesL_one hd hf
      exact reach_up d (l + 1) (by omega) (by omega) ⟨_, finesL_join hk (by omega) hz hu⟩
theorem reachL_ex {g : Good} {n k : Nat} (h : GoodK g n) (hk : k < n) : ∃ l, ReachL g k l :=
  reach_up (n - 1 - k) k (by rw [h.1]; omega) (Nat.le_refl _) ⟨0, by unfold finesL; rw [Nat.sub_self]; rfl⟩
theorem trG_ok {g : Good} {n k : Nat} (h : GoodK g n) (hk : k < n) : 0 ≤ (trG g k).1 ∧ (trG g k).1 ≤ (trG g k).2.1 ∧ (trG g k).2.1 < (n : Int) := by
  obtain ⟨l, hl⟩ := reachL_ex h hk
  unfold trG
  rw [lastN_eq h.2.2.2.1 hl]
  have a := hl.le
  have b := hl.lt
  have c := reachF_le (g := g) (k := k) h.2.2.2.1
  have d := h.1
  refine ⟨reachF_nonneg g k, ?_, ?_⟩
  · show reachF g k ≤ (l : Int)
    omega
  · show (l : Int) < (n : Int)
    omega
theorem wantsB_mem {b : Bak} (hb : bakB (bakD b) = true) {t : Tr} (h : t ∈ wantsB b) : ∃ g ∈ b.goods, ∃ k < b.lights.length, t = trG g k := by
  unfold wantsB at h
  obtain ⟨l, hl, ht⟩ := List.mem_flatten.mp h
  obtain ⟨g, hg, rfl⟩ := List.mem_map.mp hl
  unfold wantsG at ht
  obtain ⟨k, hk, rfl⟩ := List.mem_map.mp ht
  exact ⟨g, hg, k, by rw [List.mem_range] at hk; rw [← (bak_goodK hb hg).1]; exact hk, rfl⟩
theorem wantsB_len {b : Bak} (hb : bakB (bakD b) = true) : ∀ (l : List Good), (∀ g ∈ l, g ∈ b.goods) → (l.map wantsG).flatten.length ≤ l.length * 40
  | [], _ => Nat.zero_le _
  | g :: r, h => by
    have := wantsB_len hb r fun g hg => h g (List.mem_cons_of_mem _ hg)
    have e := bak_goodK hb (h g List.mem_cons_self)
    have e2 := wantsG_len e
    have e3 := e.2.2.1
    simp only [List.map_cons, List.flatten_cons, List.length_append, List.length_cons]
    omega
theorem wantsB_ok {b : Bak} (hb : bakB (bakD b) = true) : TrOk (wantsB b) b.lights.length ∧ (wantsB b).length ≤ 80 := by
  obtain ⟨_, _, _, ⟨c5, c6⟩, _⟩ := bak_parts hb
  refine ⟨fun t ht => ?_, ?_⟩
  · obtain ⟨g, hg, k, hk, rfl⟩ := wantsB_mem hb ht
    exact trG_ok (bak_goodK hb hg) hk
  · have := wantsB_len hb b.goods fun g hg => hg
    unfold wantsB
    omega
def spTm (K : PySem.W.Frag) : Sp := fun vs H Q _ => ∃ x b a ds, vs = [x, .ref a] ∧ Th K H x (bakD b) ∧ bakB (bakD b) = true ∧ SqL K H a ((ds : List Int).map V.int) ∧ DarkOk ds b.lights.length ∧ ∀ H' o y, Same H H' → IsTm b ds o → stV o H' y → Q y H'
theorem ok_too_much {f : Addr} {fd : FuncData} (F : Fun K "too_much" "too_much" s_too_much f fd) (D_look_at_bakery : Def P w K mg base "look_at_bakery" 6 ["thing"] (spLook K)) (D_look_at_days : Def P w K mg base "look_at_days" 3 ["bakery", "thing"] (spLookD K)) (D_first_stretch : Def P w K mg base "first_stretch" 2 ["wants", "rooms"] (spFs K)) (D_all_wants : Def P w K mg base "all_wants" 3 ["bakery"] (spAWants K)) (D_rooms_beside : Def P w K mg base "rooms_beside" 2 ["bakery", "dark"] (spRooms K)) : FnOk P w K mg base CX0 7 f fd ["bakery", "dark"] (spTm K) := by
  refine F.ok sc_too_much (fun vs H Q E h => ?_) (fun cdv A outer s H vs Q E hr h => ?_)
  · obtain ⟨_, _, _, _, rfl, _⟩ := h
    rfl
  · obtain ⟨x, b, ad, ds, rfl, hx, hb, hds, hok, q⟩ := h
    refine ⟨_, (pss_cons (ps_expr (pe_callD D_look_at_bakery hr (by rfl) (pa_cons (pv 0) pa_nil)))
 (pss_cons (ps_expr (pe_callD D_look_at_days hr (by rfl) (pa_cons (pv 0) (pa_cons (pv 1) pa_nil))))
 (pss_one (ps_ret (pe_callD D_first_stretch hr (by rfl) (pa_cons (pe_callD D_all_wants hr (by rfl) (pa_cons (pv 0) pa_nil)) (pa_cons (pe_callD D_rooms_beside hr (by rfl) (pa_cons (pv 0) (pa_cons (pv 1) pa_nil))) pa_nil))))))), ?_⟩
    obtain ⟨w1, w2⟩ := wantsB_ok hb
    obtain ⟨⟨c1, c2⟩, _⟩ := bak_parts hb
    walk_at "wp"
    refine ⟨_, _, rfl, hx, hb, fun H1 S1 => ?_⟩
    walk_at "wp"
    refine ⟨x, b, ad, ds, rfl, hx.same S1, hb, S1.seq hds, hok, fun H2 S2 => ?_⟩
    walk_at "wp"
    have S12 := S1.trans S2
    refine ⟨x, b, rfl, hx.same S12, hb, fun H3 y S3 hy => ?_⟩
    have S13 := S12.trans S3
    refine ⟨x, b, ad, ds, rfl, hx.same S13, hb, S13.seq hds, fun H4 p S4 hp => ?_⟩
    refine ⟨y, _, p, _, rfl, hy.same S4, by omega, hp, by rw [roomsL_len]; exact w1, by rw [roomsL_len]; omega, fun H5 o z S5 ho hz => q _ o z (S13.trans (S4.trans S5)) ho hz⟩
end
end Bk

namespace Bk
open PySem PySem.Spec PyProof.Rows L2
local macro_rules | `(tactic| walk_at "wp") => `(tactic| try simp only [tLc2_eq, tAugS, rNinr_r, rNeN_r, rCatL_r, rSlT_r, rListOf_r, rIsB_b, rNotB_b, tFmtO, tJs, tOst, tCallS, WE, tRaise2, rOne_i, rSorD_r, tDNewK, Int.zero_add, tNever, tFor_eq, tLc_eq, iList, iTup, iRng1_eq, rRng1_i, iRng2_eq, rRng2_i, iEnum_eq, rEnum_r, iZip_eq, rZip_r, tSl, tPart, tNoPart, rSlL_r, rCat_r, rIn_r, rNin_r, rRepr_r, iRevR, rMin_r, rShr_i, rOdd_i, rSetL_r, gSub, rRg1_i, rRg2_i, rInr_r, tAug, ipI_ii, tLstRg, tRg1, tRg2, gTup_r, gUnl_r, rInt1_b, rInt1_i, rRep_r, tStep_r, scal, tSeq, tNext, tAsg, tRet, tRetN, tIfS, tDrop, tCB, tCons, tNil, tVar, tOp, tUn, tC, rU_i, rI_ii, rI0_ii, rEq, rNe, tTest, tB, tAnd, tOr, tNot, tAndV, tOrV, tNotV, tIf, tChain, tLst, tTup, tBM, tBM0, rAppend_r, rIxL_r, rIxT_r, rMx_ii, rMn_ii, rLnL_r, rLnT_r, rIsD_int, rIsD_bool, rIsD_list, rIsD_tuple, tCall, gName, gNil_n, gCons_c, cxK, L2.start, List.map, List.replicate, List.length_cons, List.length_nil, List.cons_append, List.nil_append, List.append_nil, List.getElem?_cons_zero, List.getElem?_cons_succ, Option.some.injEq, exists_eq_left', exists_eq_left, V.int.injEq, V.bl.injEq, V.str.injEq, V.ref.injEq, List.cons.injEq, and_true, true_and, and_self, List.set, wipe, rAll_r, rSum_r, reduceCtorEq, decide_true, decide_false, reduceIte, ite_true, ite_false, if_true, if_false, Bool.false_eq_true, Bool.not_true, Bool.not_false])
local macro_rules | `(tactic| walk_at "shaped") => `(tactic| (simp only [tLc2_eq, tAugS, SeqAt.shaped, PyData.canLay0, PyData.canLayAll0, PyData.depth, PyData.depthAll]; rfl))
local macro_rules | `(tactic| walk_at "lay") => `(tactic| (simp only [tLc2_eq, tAugS, PyData.canLay0, PyData.canLayAll0]; rfl))
local macro_rules | `(tactic| walk_at "wg") => `(tactic| try simp only [gName, gTup_r, gCons_c, gNil_n, cxK, List.set, List.cons.injEq, and_true, true_and, exists_eq_left', exists_eq_left, List.length_cons, List.length_nil])
section
variable {P : Program} {w : World} {K : PySem.W.Frag} {mg : Str → Option Value} {base : Heap}
abbrev s_price : Stmt := top 40
theorem sc_price : FnScope ["_law_good", "_law_baked", "_law_given", "_law_days_here", "_law_life", "_law_fines", "_law_row"] ["_law_good", "_law_baked", "_law_given"] (defScope s_price) := ⟨rfl, rfl, rfl, by decide +kernel, rfl, by decide +kernel, by decide +kernel⟩
def spLPrice (K : PySem.W.Frag) : Sp := fun vs H Q _ => ∃ x g, ∃ j k : Nat, vs = [x, .int (j : Int), .int (k : Int)] ∧ Th K H x (goodD g) ∧ g.days.length ≤ 1000 ∧ j < g.days.length ∧ ∀ H', Same H H' → Q (optV (loafP g j k)) H'
theorem ok_price {f : Addr} {fd : FuncData} (F : Fun K "_law_price" "_law_price" s_price f fd) (B : Bi mg) : FnOk P w K mg base CX0 1 f fd ["_law_good", "_law_baked", "_law_given"] (spLPrice K) := by
  refine F.ok sc_price (fun vs H Q E h => ?_) (fun cdv A outer s H vs Q E hr h => ?_)
  · obtain ⟨x, g, j, k, rfl, _⟩ := h
    rfl
  · obtain ⟨x, g, j, k, rfl, hx, hl, hj, q⟩ := h
    refine ⟨_, (pss_cons (ps_asg (pv 0) (pg_tup rfl (pgs_cons (pg_name (i := 3) sc_price.nd rfl (Or.inl rfl)) (pgs_cons (pg_name (i := 4) sc_price.nd rfl (Or.inl rfl)) pgs_nil))))
 (pss_cons (ps_if (pt_cmpR op_gt (pv 1) (pv 2) (nomark _)) (pss_cons (ps_setLc (i := 5) (own := [("_law_row", 6)]) (g := (gName 6)) (te := (tOp (rIxT K) _ _)) rfl sc_price.nd rfl rfl (sw_true rfl rfl rfl (by decide +kernel)) (pi_list (pe_slice sl_list (pv 3) (po_some (pv 2)) (po_some (pv 1)))) (blkOk_by (own := [("_law_row", 6)]) (N := ["_law_good", "_law_baked", "_law_given", "_law_days_here", "_law_life", "_law_fines", "_law_row"]) (sc := defScope s_price) (by decide +kernel)) (fun _ _ _ _ _ => (pg_name (i := 6) sc_price.nd rfl (Or.inl rfl))) (fun _ _ _ _ _ => pts_nil) (fun _ _ _ _ _ => (pe_ix ix_tup (pv 6) pe_int (fun _ _ => rfl))))
 (pss_one (ps_ret (pe_ifExp (pt_cmpR op_in_seq pe_non (pv 5) (by rfl)) pe_non (pe_op op_add (pe_ix ix_tup (pe_ix ix_list (pv 3) (pv 1) (fun _ _ => rfl)) pe_int (fun _ _ => rfl)) (pe_callB (cr_sum rfl) (by rfl) B.sum (by decide +kernel) (pa_cons (pv 5) pa_nil))))))) pss_nil)
 (pss_cons (ps_if (PW.pt (pw_and (pt_cmpR op_notN (pv 4) pe_non (nomark _)) (pw_and1 (pt_cmpR op_gt (pe_op op_sub (pv 2) (pv 1)) (pv 4) (nomark _))))) (pss_one (ps_ret pe_non)) pss_nil)
 (pss_one (ps_ret (pe_op op_add (pe_ix ix_tup (pe_ix ix_list (pv 3) (pv 1) (fun _ _ => rfl)) pe_int (fun _ _ => rfl)) (pe_callB (cr_sum rfl) (by rfl) B.sum (by decide +kernel) (pa_cons (pe_lc (own := [("_law_row", 6)]) (g := (gName 6)) (te := (tOp (rIxT K) _ _)) rfl sc_price.nd (pi_list (pe_slice sl_list (pv 3) (po_some (pv 1)) (po_some (pv 2)))) (blkOk_by (own := [("_law_row", 6)]) (N := ["_law_good", "_law_baked", "_law_given", "_law_days_here", "_law_life", "_law_fines", "_law_row"]) (sc := defScope s_price) (by decide +kernel)) (fun _ _ _ _ _ => (pg_name (i := 6) sc_price.nd rfl (Or.inl rfl))) (fun _ _ _ _ _ => pts_nil) (fun _ _ _ _ _ => (pe_ix ix_tup (pv 6) pe_int (fun _ _ => rfl)))) pa_nil)))))))), ?_⟩
    obtain ⟨t, a, xs, rfl, ht, hs, ha⟩ := hx.good
    have hd : g.days[j]? = some g.days[j] := List.getElem?_eq_getElem hj
    generalize g.days[j] = d at hd
    obtain ⟨v, hv, hvd⟩ := ha.get' (i := j) (d := dayD d) (by rw [List.getElem?_map, hd]; rfl)
    obtain ⟨t2, rfl, ht2⟩ := hvd.day
    walk_at "wp"
    refine ⟨_, ht, rfl, ?_⟩
    walk_at "wp"
    refine ite2 (fun h => ?_) (fun h => ?_)
    · have hkj : k < j := by have := of_decide_eq_true h; omega
      refine ⟨_, hs, fun p hp => ⟨⟨_, SqL.of upd_same⟩, fun D hD => ?_⟩⟩
      rw [cutV_nat] at hD ⊢
      have sp : Same H (upd H p (.lst ((xs.drop k).take (j - k)))) := same_upd hp
      have hL : SqL K (upd H p (.lst ((xs.drop k).take (j - k)))) p ((xs.drop k).take (j - k)) := SqL.of upd_same
      have hb := ((ha.same sp).drop k).take (j - k)
      rw [← List.map_drop, ← List.map_take] at hb
      generalize upd H p (.lst ((xs.drop k).take (j - k))) = Hb at sp hL hD hb ⊢
      generalize hcut : (g.days.drop k).take (j - k) = cs at hb
      have hcl : cs.length ≤ 1000 := by
        rw [← hcut, List.length_take, List.length_drop]
        omega
      have hbl := hb.length
      rw [List.length_map] at hbl
      refine LcR.map walk_list ((cs.map Day.fine).map optV) hD (by rw [List.length_map, List.length_map, hbl]) (by omega) (fun H s => s.seq hL) (fun _ _ _ _ y => yat_same y) (fun i x y H0 H1 hi s1 yy hy R hR => ?_) (fun H1 s1 hH => ?_)
      · obtain ⟨rfl, hx⟩ := yy
        obtain ⟨dd, hdd, hxd⟩ := hb.get hx
        rw [List.getElem?_map] at hdd hy
        rw [List.getElem?_map] at hy
        cases hc : cs[i]? with
        | none => rw [hc] at hdd; cases hdd
        | some c =>
          rw [hc] at hdd hy
          cases hdd
          cases hy
          obtain ⟨t, rfl, ht⟩ := (hxd.same s1).day
          walk_at "wp"
          refine ⟨_, _, ht, atI_nat (j := 3) rfl, ?_⟩
          exact hR _ (Same.refl _)
      · have S1 := sp.trans s1
        have q1 := q _ S1
        simp only [loafP, hd, hkj, if_true] at q1
        unfold finesL at q1
        rw [hcut] at q1
        walk_at "wp"
        refine ⟨_, .inl (SqL.of hH), rfl, flat_opts _, ite2 (fun h => ?_) (fun h => ?_)⟩
        · rw [sumO_none h] at q1
          exact q1
        · obtain ⟨ns, e1, e2⟩ := sumO_some (Bool.eq_false_iff.mpr h)
          rw [e2] at q1
          rw [e1] at hH
          refine ⟨_, _, S1.seq hs, atI_nat hv, ?_⟩
          walk_at "wp"
          refine ⟨_, _, Same.tup S1 ht2, atI_nat (j := 1) rfl, ?_⟩
          walk_at "wp"
          exact ⟨ns, SqL.of hH, q1⟩
    · have hkj : ¬ k < j := by intro z; exact h (decide_eq_true (by omega))
      have q1 := fun H1 s1 => q H1 s1
      simp only [loafP, hd, hkj, if_false] at q1
      have hkeep : ∀ lv : V, (∀ H1, Same H H1 → Q (.int (d.loaf + keepsL g.days j k)) H1) → ∃ xs v, SqL K H a xs ∧ atI xs (j : Int) = some v ∧ rIxT K v (V.int 1) H fun x H1 => ∃ xs, SqL K H1 a xs ∧ ∀ (p : Addr), H1 p = none → (∃ xs_1, SqL K (upd H1 p (HO.lst (cutV xs (some (j : Int)) (some (k : Int))))) p xs_1) ∧ ∀ (D : Addr), upd H1 p (HO.lst (cutV xs (some (j : Int)) (some (k : Int)))) D = none →
          LcR (Itl K p) (gName 6) tYes (tOp (rIxT K) (tVar 6) (tC (V.int 2))) [6] [some (V.ref t), some (V.int (j : Int)), some (V.int (k : Int)), some (V.ref a), some lv, none, none] D (upd H1 p (HO.lst (cutV xs (some (j : Int)) (some (k : Int))))) fun H => ∃ ns, SqL K H D (List.map V.int ns) ∧ rI0 (fun i j => V.int (i + j)) x (V.int ns.sum) H Q := by
        intro lv q2
        refine ⟨_, _, hs, atI_nat hv, ?_⟩
        walk_at "wp"
        refine ⟨_, _, ht2, atI_nat (j := 1) rfl, _, hs, fun p hp => ⟨⟨_, SqL.of upd_same⟩, fun D hD => ?_⟩⟩
        rw [cutV_nat] at hD ⊢
        have sp : Same H (upd H p (.lst ((xs.drop j).take (k - j)))) := same_upd hp
        have hL : SqL K (upd H p (.lst ((xs.drop j).take (k - j)))) p ((xs.drop j).take (k - j)) := SqL.of upd_same
        have hb := ((ha.same sp).drop j).take (k - j)
        rw [← List.map_drop, ← List.map_take] at hb
        generalize upd H p (.lst ((xs.drop j).take (k - j))) = Hb at sp hL hD hb ⊢
        generalize hcut : (g.days.drop j).take (k - j) = cs at hb
        have hcl : cs.length ≤ 1000 := by
          rw [← hcut, List.length_take, List.length_drop]
          omega
        have hbl := hb.length
        rw [List.length_map] at hbl
        refine LcR.map walk_list (cs.map fun d => V.int d.keep) hD (by rw [List.length_map, hbl]) (by omega) (fun H s => s.seq hL) (fun _ _ _ _ y => yat_same y) (fun i x y H0 H1 hi s1 yy hy R hR => ?_) (fun H1 s1 hH => ?_)
        · obtain ⟨rfl, hx⟩ := yy
          obtain ⟨dd, hdd, hxd⟩ := hb.get hx
          rw [List.getElem?_map] at hdd hy
          cases hc : cs[i]? with
          | none => rw [hc] at hdd; cases hdd
          | some c =>
            rw [hc] at hdd hy
            cases hdd
            cases hy
            obtain ⟨t, rfl, ht⟩ := (hxd.same s1).day
            walk_at "wp"
            exact ⟨_, _, ht, atI_nat (j := 2) rfl, hR _ (Same.refl _)⟩
        · refine ⟨cs.map Day.keep, SqL.of (by rw [List.map_map]; exact hH), ?_⟩
          have q3 := q2 _ (sp.trans s1)
          unfold keepsL at q3
          rw [hcut] at q3
          exact ⟨_, _, rfl, rfl, q3⟩
      cases hlf : g.life with
      | none =>
        simp only [hlf] at q1
        simp only [optV]
        walk_at "wp"
        exact hkeep _ q1
      | some l =>
        simp only [hlf] at q1
        simp only [optV]
        walk_at "wp"
        refine ite2 (fun h2 => ?_) (fun h2 => ?_)
        · have := q1 H (Same.refl _)
          rw [if_pos (of_decide_eq_true h2)] at this
          exact this
        · refine hkeep _ fun H1 s1 => ?_
          have := q1 H1 s1
          rw [if_neg (fun z => h2 (decide_eq_true z))] at this
          exact this
abbrev s_dark : Stmt := top 41
theorem sc_dark : FnScope ["_law_digit", "_law_many", "_law_day_here"] ["_law_digit", "_law_many"] (defScope s_dark) := ⟨rfl, rfl, rfl, by decide +kernel, rfl, by decide +kernel, by decide +kernel⟩
theorem rising_snoc : ∀ {l : List Int} {x : Int}, Rising l → (∀ y ∈ l, y < x) → Rising (l ++ [x])
  | [], x, _, _ => trivial
  | [a], x, _, h => ⟨h a List.mem_cons_self, trivial⟩
  | a :: b :: r, x, h, k => ⟨h.1, rising_snoc (l := b :: r) h.2 fun y hy => k y (List.mem_cons_of_mem _ hy)⟩
def spDark (K : PySem.W.Frag) : Sp := fun vs H Q _ => ∃ m n : Nat, vs = [.int (m : Int), .int (n : Int)] ∧ n ≤ 1000 ∧ ∀ H' p ds, Same H H' → H' p = some (.lst ((ds : List Int).map V.int)) → DarkOk ds n → Q (.ref p) H'
theorem ok_dark {f : Addr} {fd : FuncData} (F : Fun K "_law_dark" "_law_dark" s_dark f fd) (B : Bi mg) : FnOk P w K mg base CX0 1 f fd ["_law_digit", "_law_many"] (spDark K) := by
  refine F.ok sc_dark (fun vs H Q E h => ?_) (fun cdv A outer s H vs Q E hr h => ?_)
  · obtain ⟨_, _, rfl, _⟩ := h
    rfl
  · obtain ⟨m, n, rfl, hn, q⟩ := h
    refine ⟨_, (pss_one (ps_ret (pe_lc (own := [("_law_day_here", 2)]) (g := (gName 2)) rfl sc_dark.nd (pi_range1 (by rfl) B.range (pa_cons (pv 1) pa_nil)) (blkOk_by (own := [("_law_day_here", 2)]) (N := ["_law_digit", "_law_many", "_law_day_here"]) (sc := defScope s_dark) (by decide +kernel)) (fun _ _ _ _ _ => (pg_name (i := 2) sc_dark.nd rfl (Or.inl rfl))) (fun _ _ _ _ _ => (pts_one (pt_cmpR op_eq (pe_op op_oddK (pe_op op_shrK (pv 0) (pv 2)) pe_int) pe_int (nomark _)))) (fun _ _ _ _ _ => (pv 2))))), ?_⟩
    walk_at "wp"
    refine ⟨by omega, by omega, fun D hD => ?_⟩
    rw [show (n : Int).toNat = n by omega]
    refine LcR.by walk_range (fun i H' => Same H H' ∧ ∃ ds : List Int, H' D = some (.lst (ds.map V.int)) ∧ ds.length ≤ i ∧ (∀ d ∈ ds, 0 ≤ d ∧ d < (i : Int)) ∧ Rising ds) ⟨same_upd hD, [], upd_same, Nat.le_refl _, (fun _ h => nomatch h), trivial⟩ (fun _ _ _ _ => trivial) (fun i v H0 H2 hi hI yy => ?_) (fun H2 hI => ?_)
    · obtain ⟨rfl, rfl⟩ := yy
      obtain ⟨S2, ds, ea, h1, h2, h3⟩ := hI
      walk_at "wp"
      refine ⟨i, rfl, m / 2 ^ i, by rw [Int.natCast_ediv]; simp, ?_⟩
      walk_at "wp"
      refine ite2 (fun h => ?_) (fun h => ?_)
      · refine ⟨_, ea, sz100l (by rw [List.length_map]; omega), same_mut S2 hD, ds ++ [(i : Int)], by rw [upd_same, List.map_append]; rfl, by rw [List.length_append, List.length_singleton]; omega, fun d hd => ?_, rising_snoc h3 fun y hy => (h2 y hy).2⟩
        rcases List.mem_append.mp hd with hd | hd
        · have := h2 d hd
          omega
        · rw [List.mem_singleton.mp hd]
          omega
      · exact ⟨S2, ds, ea, by omega, fun d hd => by have := h2 d hd; omega, h3⟩
    · obtain ⟨S2, ds, ea, h1, h2, h3⟩ := hI
      exact q _ _ ds S2 ea ⟨by omega, h2, h3⟩
abbrev s_reach : Stmt := top 42
theorem sc_reach : FnScope ["_law_good", "_law_given", "_law_there", "_law_baked"] ["_law_good", "_law_given"] (defScope s_reach) := ⟨rfl, rfl, rfl, by decide +kernel, rfl, by decide +kernel, by decide +kernel⟩
def thereL (g : Good) (k n : Nat) : List Int := ((List.range n).filter fun j => (loafP g j k).isSome).map fun j => ((j : Nat) : Int)
theorem thereL_succ (g : Good) (k n : Nat) : thereL g k (n + 1) = thereL g k n ++ (if (loafP g n k).isSome then [(n : Int)] else []) := by
  unfold thereL
  rw [List.range_succ, List.filter_append, List.map_append]
  congr 1
  cases h : (loafP g n k).isSome with
  | true =>
    rw [List.filter_cons_of_pos (by rw [h])]
    rfl
  | false =>
    rw [List.filter_cons_of_neg (by rw [h]; exact Bool.false_ne_true)]
    rfl
theorem thereL_len (g : Good) (k n : Nat) : (thereL g k n).length ≤ n := by
  unfold thereL
  rw [List.length_map]
  exact Nat.le_trans (List.length_filter_le _ _) (by rw [List.length_range]; exact Nat.le_refl _)
theorem thereL_eq {g : Good} {k last : Nat} (hl0 : ∀ l, g.life = some l → 0 ≤ l) (R : ReachL g k last) : thereL g k g.days.length = (List.range (last + 1 - (reachF g k).toNat)).map fun m => (((reachF g k).toNat + m : Nat) : Int) := by
  have n0 := reachF_nonneg g k
  obtain ⟨fn, hfn⟩ : ∃ fn : Nat, reachF g k = (fn : Int) := ⟨(reachF g k).toNat, by omega⟩
  rw [hfn, Int.toNat_natCast]
  have hlt := R.lt
  have hfil := filter_range (f := fn) (l := last) (fun j => decide (fn ≤ j) && decide (j ≤ last)) (fun _ => rfl) g.days.length
  rw [show min g.days.length (last + 1) - fn = last + 1 - fn by omega] at hfil
  have e : (List.range g.days.length).filter (fun j => (loafP g j k).isSome) = (List.range (last + 1 - fn)).map (fn + ·) := by
    rw [← hfil]
    apply List.filter_congr
    intro j hj
    have hj := List.mem_range.mp hj
    have hiff := reach_iff R hl0 hj
    rw [hfn] at hiff
    cases hp : loafP g j k with
    | none =>
      rw [hp] at hiff
      have : ¬ ((fn : Int) ≤ (j : Int) ∧ j ≤ last) := fun z => hiff.mpr z rfl
      show false = (decide (fn ≤ j) && decide (j ≤ last))
      refine Eq.symm ?_
      rw [Bool.and_eq_false_iff, decide_eq_false_iff_not, decide_eq_false_iff_not]
      omega
    | some z =>
      rw [hp] at hiff
      have := hiff.mp (by intro z; cases z)
      show true = (decide (fn ≤ j) && decide (j ≤ last))
      refine Eq.symm ?_
      rw [Bool.and_eq_true, decide_eq_true_eq, decide_eq_true_eq]
      omega
  unfold thereL
  rw [e, List.map_map]
  rfl
def spLReach (K : PySem.W.Frag) : Sp := fun vs H Q _ => ∃ x g, ∃ n k : Nat, vs = [x, .int (k : Int)] ∧ Th K H x (goodD g) ∧ GoodK g n ∧ k < n ∧ ∀ H' p, Same H H' → H' p = some (.tup [.int (reachF g k), .int (lastN g k : Int)]) → Q (.ref p) H'
theorem ok_reach {f : Addr} {fd : FuncData} (F : Fun K "_law_reach" "_law_reach" s_reach f fd) (B : Bi mg) (D_price : Def P w K mg base "_law_price" 1 ["_law_good", "_law_baked", "_law_given"] (spLPrice K)) : FnOk P w K mg base CX0 2 f fd ["_law_good", "_law_given"] (spLReach K) := by
  refine F.ok sc_reach (fun vs H Q E h => ?_) (fun cdv A outer s H vs Q E hr h => ?_)
  · obtain ⟨_, _, _, _, rfl, _⟩ := h
    rfl
  · obtain ⟨x, g, n, k, rfl, hx, hgk, hk, q⟩ := h
    refine ⟨_, (pss_cons (ps_setLc (i := 2) (own := [("_law_baked", 3)]) (g := (gName 3)) rfl sc_reach.nd rfl rfl (sw_true rfl rfl rfl (by decide +kernel)) (pi_range1 (by rfl) B.range (pa_cons (pe_callB call_lnL (by rfl) B.len (by decide +kernel) (pa_cons (pe_ix ix_tup (pv 0) pe_int (fun _ _ => rfl)) pa_nil)) pa_nil)) (blkOk_by (own := [("_law_baked", 3)]) (N := ["_law_good", "_law_given", "_law_there", "_law_baked"]) (sc := defScope s_reach) (by decide +kernel)) (fun _ _ _ _ _ => (pg_name (i := 3) sc_reach.nd rfl (Or.inl rfl))) (fun _ _ _ _ _ => (pts_one (pt_cmpR op_notN (pe_callD D_price hr (by rfl) (pa_cons (pv 0) (pa_cons (pv 3) (pa_cons (pv 1) pa_nil)))) pe_non (nomark _)))) (fun _ _ _ _ _ => (pv 3)))
 (pss_one (ps_ret (pe_tup (pa_cons (pe_ix ix_list (pv 2) pe_int (fun _ _ => rfl)) (pa_cons (pe_ix ix_list (pv 2) (pe_un un_neg pe_int) (fun _ _ => rfl)) pa_nil)))))), ?_⟩
    obtain ⟨hn, n1, n2, hl0, hok⟩ := hgk
    obtain ⟨last, R⟩ := reachL_ex ⟨hn, n1, n2, hl0, hok⟩ hk
    have hx0 := hx
    obtain ⟨t, a, xs, rfl, ht, hs, ha⟩ := hx.good
    have hxl : xs.length = n := by rw [ha.length, List.length_map, hn]
    walk_at "wp"
    refine ⟨_, _, ht, atI_nat (j := 0) rfl, ?_⟩
    walk_at "wp"
    refine ⟨_, hs, ?_⟩
    rw [hxl]
    refine ⟨by omega, by omega, fun D hD => ?_⟩
    rw [show (n : Int).toNat = n by omega]
    refine LcR.by walk_range (fun i H' => Same H H' ∧ H' D = some (.lst ((thereL g k i).map V.int))) ⟨same_upd hD, upd_same⟩ (fun _ _ _ _ => trivial) (fun i v H0 H2 hi hI yy => ?_) (fun H2 hI => ?_)
    · obtain ⟨rfl, rfl⟩ := yy
      obtain ⟨S2, ea⟩ := hI
      have es := thereL_succ g k i
      have el := thereL_len g k i
      walk_at "wp"
      refine ⟨_, g, i, k, rfl, hx0.same S2, by omega, by omega, fun H3 S3 => ?_⟩
      cases hp : loafP g i k with
      | none =>
        simp only [optV]
        walk_at "wp"
        refine ⟨S2.trans S3, ?_⟩
        rw [es, hp]
        simp only [Option.isSome_none, Bool.false_eq_true, if_false, List.append_nil]
        exact S3 _ _ ea
      | some z =>
        simp only [optV]
        walk_at "wp"
        refine ⟨_, S3 _ _ ea, sz100l (by rw [List.length_map]; omega), same_mut (S2.trans S3) hD, ?_⟩
        rw [upd_same, es, hp, List.map_append]
        rfl
    · obtain ⟨S2, ea⟩ := hI
      have n0 := reachF_nonneg g k
      have n1' := reachF_le (g := g) (k := k) hl0
      have hle := R.le
      have hlt := R.lt
      rw [← hn, thereL_eq hl0 R] at ea
      have hfl : (((List.range (last + 1 - (reachF g k).toNat)).map fun m => (((reachF g k).toNat + m : Nat) : Int)).map V.int).length = (last - (reachF g k).toNat) + 1 := by
        rw [List.length_map, List.length_map, List.length_range]
        omega
      have h0 : (((List.range (last + 1 - (reachF g k).toNat)).map fun m => (((reachF g k).toNat + m : Nat) : Int)).map V.int)[0]? = some (.int (reachF g k)) := by
        rw [List.getElem?_map, List.getElem?_map, List.getElem?_range (by omega)]
        show some (V.int (((reachF g k).toNat + 0 : Nat) : Int)) = _
        rw [show (((reachF g k).toNat + 0 : Nat) : Int) = reachF g k by omega]
      have h1 : (((List.range (last + 1 - (reachF g k).toNat)).map fun m => (((reachF g k).toNat + m : Nat) : Int)).map V.int)[last - (reachF g k).toNat]? = some (.int (last : Int)) := by
        rw [List.getElem?_map, List.getElem?_map, List.getElem?_range (by omega)]
        show some (V.int (((reachF g k).toNat + (last - (reachF g k).toNat) : Nat) : Int)) = _
        rw [show (((reachF g k).toNat + (last - (reachF g k).toNat) : Nat) : Int) = (last : Int) by omega]
      walk_at "wp"
      refine ⟨_, _, SqL.of ea, atI_nat (j := 0) h0, _, _, SqL.of ea, atI_last hfl h1, ?_⟩
      refine ⟨sz100 (by decide), fun p hp => ?_⟩
      refine q _ p (S2.trans (same_upd hp)) ?_
      rw [upd_same, lastN_eq hl0 R]
end
end Bk

namespace Bk
open PySem PySem.Spec PyProof.Rows L2
theorem sum_rangeN (f : Nat → Int) : ∀ n, ((List.range n).map f).sum = sumN f n
  | 0 => rfl
  | n + 1 => by
    rw [List.range_succ, List.map_append, List.sum_append, sum_rangeN f n]
    show sumN f n + (f n + 0) = sumN f n + f n
    omega
def tJ (W : List Tr) (j : Nat) : Tr := W.getD j (0, 0, 0)
def eJ (W : List Tr) (j : Nat) : Nat := (tJ W j).2.1.toNat
def bJ (W : List Tr) (j : Nat) : Nat := (tJ W j).1.toNat
def wJ (W : List Tr) (j : Nat) : Int := (tJ W j).2.2
theorem tJ_at {W : List Tr} {j : Nat} (h : j < W.length) : tJ W j = W[j] := by
  unfold tJ
  rw [List.getD_eq_getElem?_getD, List.getElem?_eq_getElem h]
  rfl
theorem tJ_all (W : List Tr) : (List.range W.length).map (tJ W) = W := by
  refine List.ext_getElem (by simp) fun j h1 h2 => ?_
  rw [List.getElem_map, List.getElem_range, tJ_at h2]
theorem sum_tJ (W : List Tr) (f : Tr → Int) : (W.map f).sum = sumN (fun j => f (tJ W j)) W.length := by
  rw [← sum_rangeN]
  conv => lhs; rw [← tJ_all W]
  rw [List.map_map]
  rfl
theorem tJ_mem {W : List Tr} {j : Nat} (h : j < W.length) : tJ W j ∈ W := by
  rw [tJ_at h]
  exact List.getElem_mem h
theorem need_sum {W : List Tr} {n : Nat} (hok : TrOk W n) (f l : Nat) : needW W f l = sumN (fun j => if f ≤ bJ W j ∧ eJ W j ≤ l then wJ W j else 0) W.length := by
  unfold needW
  rw [sum_tJ]
  refine sumN_cong _ fun j hj => ?_
  obtain ⟨k1, k2, k3⟩ := hok _ (tJ_mem hj)
  unfold needOf bJ eJ wJ
  by_cases c : f ≤ (tJ W j).1.toNat ∧ (tJ W j).2.1.toNat ≤ l
  · rw [if_pos c, if_pos (by rw [Bool.and_eq_true, decide_eq_true_eq, decide_eq_true_eq]; omega)]
  · rw [if_neg c, if_neg (by rw [Bool.and_eq_true, decide_eq_true_eq, decide_eq_true_eq]; omega)]
theorem take_sumN {rs : List Int} {f : Nat} : ∀ k, f + k ≤ rs.length → ((rs.drop f).take k).sum = sumN (fun i => rs.getD (f + i) 0) k
  | 0, _ => by simp [sumN]
  | k + 1, h => by
    rw [roomS_succ (by omega), take_sumN k (by omega)]
    rfl
theorem room_sum {rs : List Int} {f l : Nat} (hf : f ≤ l) (hl : l < rs.length) : roomS rs f l = sumN (fun x => if f ≤ x ∧ x ≤ l then rs.getD x 0 else 0) rs.length := by
  unfold roomS
  rw [take_sumN _ (by omega)]
  have h1 := sumN_split (fun x => if f ≤ x ∧ x ≤ l then rs.getD x 0 else 0) f (rs.length - f)
  have h2 := sumN_split (fun i => (fun x => if f ≤ x ∧ x ≤ l then rs.getD x 0 else 0) (f + i)) (l + 1 - f) (rs.length - (l + 1))
  rw [show f + (rs.length - f) = rs.length by omega] at h1
  rw [show l + 1 - f + (rs.length - (l + 1)) = rs.length - f by omega] at h2
  rw [h1, h2]
  have z1 : sumN (fun x => if f ≤ x ∧ x ≤ l then rs.getD x 0 else 0) f = 0 := sumN_zero _ fun x hx => if_neg (by omega)
  have z2 : sumN (fun i => (fun i => (fun x => if f ≤ x ∧ x ≤ l then rs.getD x 0 else 0) (f + i)) (l + 1 - f + i)) (rs.length - (l + 1)) = 0 := sumN_zero _ fun i _ => by
    show (if f ≤ f + (l + 1 - f + i) ∧ f + (l + 1 - f + i) ≤ l then _ else (0 : Int)) = 0
    exact if_neg (by omega)
  have z3 : sumN (fun i => (fun x => if f ≤ x ∧ x ≤ l then rs.getD x 0 else 0) (f + i)) (l + 1 - f) = sumN (fun i => rs.getD (f + i) 0) (l + 1 - f) := sumN_cong _ fun i hi => by
    show (if f ≤ f + i ∧ f + i ≤ l then rs.getD (f + i) 0 else 0) = _
    exact if_pos (by omega)
  rw [z1, z2, z3]
  omega
/-- the room that is left for the jobs of a day -/
def rhoE (bd : Option Int) (ds : List Int) (m : Nat) (rem : Nat → Int) (d : Nat) : Int := if ((d : Nat) : Int) ∈ ds then 0 else match bd with
  | none => sumN rem m
  | some k => k
theorem rm_ext {want : Nat → Int} {S S' : Nat → Nat → Int} {d j : Nat} (h : ∀ x, x < d → S x j = S' x j) : rm want S d j = rm want S' d j := by
  unfold rm
  rw [sumN_cong (f := fun x => S x j) (g := fun x => S' x j) d h]
structure RunE (bd : Option Int) (ds : List Int) (W : List Tr) (m : Nat) (S : Nat → Nat → Int) (d : Nat) : Prop where
  day : ∀ x, x < d → DayP m (eJ W) (bJ W) x (rhoE bd ds m (rm (wJ W) S x) x) (rm (wJ W) S x) (S x)
  ok : ∀ x, x < d → ∀ j, j < m → eJ W j = x → rm (wJ W) S (x + 1) j ≤ 0
theorem day_ext {bd : Option Int} {ds : List Int} {W : List Tr} {m d x : Nat} {S S' : Nat → Nat → Int} (h : DayP m (eJ W) (bJ W) x (rhoE bd ds m (rm (wJ W) S x) x) (rm (wJ W) S x) (S x)) (hx : x < d) (e : ∀ y, y < d → S y = S' y) : DayP m (eJ W) (bJ W) x (rhoE bd ds m (rm (wJ W) S' x) x) (rm (wJ W) S' x) (S' x) := by
  have h1 : rm (wJ W) S x = rm (wJ W) S' x := funext fun j => rm_ext fun y hy => by rw [e y (by omega)]
  rw [← h1, ← e x hx]
  exact h
def SetD (S : Nat → Nat → Int) (d : Nat) (s : Nat → Int) : Nat → Nat → Int := fun x => if x = d then s else S x
theorem setD_old {S : Nat → Nat → Int} {d : Nat} {s : Nat → Int} {y : Nat} (h : y < d) : S y = SetD S d s y := by
  unfold SetD
  rw [if_neg (by omega)]
theorem setD_new {S : Nat → Nat → Int} {d : Nat} {s : Nat → Int} : SetD S d s d = s := if_pos rfl
theorem rm_set {want : Nat → Int} {S : Nat → Nat → Int} {d : Nat} {s : Nat → Int} {x : Nat} (h : x ≤ d) : rm want (SetD S d s) x = rm want S x := funext fun j => (rm_ext fun y hy => by rw [setD_old (S := S) (d := d) (s := s) (by omega)]).symm
theorem rm_set_next {want : Nat → Int} {S : Nat → Nat → Int} {d : Nat} {s : Nat → Int} (j : Nat) : rm want (SetD S d s) (d + 1) j = rm want S d j - s j := by
  rw [rm_succ, rm_set (Nat.le_refl d), setD_new]
theorem RunE.days {bd : Option Int} {ds : List Int} {W : List Tr} {m d : Nat} {S : Nat → Nat → Int} (h : RunE bd ds W m S d) {s : Nat → Int} (hd : DayP m (eJ W) (bJ W) d (rhoE bd ds m (rm (wJ W) S d) d) (rm (wJ W) S d) s) : ∀ x, x < d + 1 → DayP m (eJ W) (bJ W) x (rhoE bd ds m (rm (wJ W) (SetD S d s) x) x) (rm (wJ W) (SetD S d s) x) (SetD S d s x) := fun x hx => by
  by_cases e : x = d
  · subst e
    rw [rm_set (Nat.le_refl x), setD_new]
    exact hd
  · exact day_ext (h.day x (by omega)) (d := d) (by omega) fun y hy => setD_old hy
theorem RunE.oks {bd : Option Int} {ds : List Int} {W : List Tr} {m d : Nat} {S : Nat → Nat → Int} (h : RunE bd ds W m S d) {s : Nat → Int} : ∀ x, x < d → ∀ j, j < m → eJ W j = x → rm (wJ W) (SetD S d s) (x + 1) j ≤ 0 := fun x hx j hj ej => by
  rw [rm_set (by omega)]
  exact h.ok x hx j hj ej
theorem wants_map (g : Good) : (wantsG g).map (fun t => t.2.2) = g.days.map (·.want) := by
  unfold wantsG
  rw [List.map_map]
  refine List.ext_getElem (by simp) fun j h1 h2 => ?_
  rw [List.getElem_map, List.getElem_range, List.getElem_map]
  rw [List.length_map] at h2
  show wantA g j = _
  unfold wantA
  rw [List.getElem?_eq_getElem h2]
theorem wants_all (b : Bak) : sumN (wJ (wantsB b)) (wantsB b).length = allWanted b := by
  have h := sum_tJ (wantsB b) (fun t => t.2.2)
  have e : sumN (wJ (wantsB b)) (wantsB b).length = sumN (fun j => (tJ (wantsB b) j).2.2) (wantsB b).length := rfl
  rw [e, ← h]
  unfold wantsB allWanted
  rw [List.map_flatten, List.map_map]
  congr 2
  exact List.map_congr_left fun g _ => wants_map g
theorem want_ok0 {d : Day} (k : dayB (dayD d) = true) : 0 ≤ d.want := by
  simp only [dayD, dayB, Bool.and_eq_true] at k
  have k := k.1.1.1
  simp only [numD, Bool.and_eq_true, decide_eq_true_eq] at k
  exact k.1
theorem wJ_nonneg {b : Bak} (hb : bakB (bakD b) = true) {j : Nat} (h : j < (wantsB b).length) : 0 ≤ wJ (wantsB b) j := by
  obtain ⟨g, hg, k, hk, e⟩ := wantsB_mem hb (tJ_mem h)
  unfold wJ
  rw [e]
  show 0 ≤ wantA g k
  unfold wantA
  have hgk := bak_goodK hb hg
  cases hd : g.days[k]? with
  | none => exact Int.le_refl 0
  | some d => exact want_ok0 (hgk.2.2.2.2 d (List.mem_of_getElem? hd))
theorem rooms_at {b : Bak} {ds : List Int} {x : Nat} (h : x < b.lights.length) : (roomsL b ds).getD x 0 = roomD b ds x := by
  unfold roomsL
  rw [List.getD_eq_getElem?_getD, List.getElem?_map, List.getElem?_range h]
  rfl
theorem goes_true {b : Bak} {ds : List Int} (hb : bakB (bakD b) = true) {S : Nat → Nat → Int} (h : RunE b.bound ds (wantsB b) (wantsB b).length S b.lights.length) : IsTm b ds none := by
  have hok := (wantsB_ok hb).1
  have hlen : (roomsL b ds).length = b.lights.length := roomsL_len
  have he : ∀ j, j < (wantsB b).length → eJ (wantsB b) j < b.lights.length := fun j hj => by
    obtain ⟨k1, k2, k3⟩ := hok _ (tJ_mem hj)
    unfold eJ
    omega
  intro f hf l hfl hl
  rw [hlen] at hf hl
  unfold Over
  rw [need_sum hok, room_sum hfl (by omega), hlen]
  have h1 := edf_true (rs := fun x => (roomsL b ds).getD x 0) he h.day h.ok (fun d hd => ?_) (f := f) hl
  · omega
  · rw [rooms_at hd]
    unfold rhoE roomD
    by_cases c : ((d : Nat) : Int) ∈ ds
    · rw [if_pos c, if_pos c]
      exact Int.le_refl 0
    · rw [if_neg c, if_neg c]
      unfold roomB
      cases b.bound with
      | none =>
        dsimp only
        rw [← wants_all]
        refine sumN_le _ fun j hj => ?_
        have hz := rm_anti (t := b.lights.length) h.day hj (c := 0) d (by omega)
        rw [Nat.zero_add] at hz
        have e0 : rm (wJ (wantsB b)) S 0 j = wJ (wantsB b) j := by
          unfold rm
          show _ - 0 = _
          omega
        omega
      | some k => exact Int.le_refl k
theorem goes_false {b : Bak} {ds : List Int} (hb : bakB (bakD b) = true) {S : Nat → Nat → Int} {t : Nat} (ht : t < b.lights.length) (h : RunE b.bound ds (wantsB b) (wantsB b).length S t) {s : Nat → Int} (hd : DayP (wantsB b).length (eJ (wantsB b)) (bJ (wantsB b)) t (rhoE b.bound ds (wantsB b).length (rm (wJ (wantsB b)) S t) t) (rm (wJ (wantsB b)) S t) s) {j : Nat} (hj : j < (wantsB b).length) (he : eJ (wantsB b) j = t) (hf : 0 < rm (wJ (wantsB b)) S t j - s j) : ¬ IsTm b ds none := by
  have hok := (wantsB_ok hb).1
  have hlen : (roomsL b ds).length = b.lights.length := roomsL_len
  have hbe : ∀ j, j < (wantsB b).length → bJ (wantsB b) j ≤ eJ (wantsB b) j := fun j hj => by
    obtain ⟨k1, k2, k3⟩ := hok _ (tJ_mem hj)
    unfold eJ bJ
    omega
  obtain ⟨f, hft, hlt⟩ := edf_false (n := b.lights.length) (rs := fun x => (roomsL b ds).getD x 0) hbe (fun j hj => wJ_nonneg hb hj) ht (h.days hd) h.oks (fun d hdt => by
    show _ = (roomsL b ds).getD d 0 ∨ _
    rw [rooms_at (by omega)]
    unfold rhoE roomD
    by_cases c : ((d : Nat) : Int) ∈ ds
    · rw [if_pos c, if_pos c]
      exact .inl rfl
    · rw [if_neg c, if_neg c]
      unfold roomB
      cases b.bound with
      | none => exact .inr rfl
      | some k => exact .inl rfl) hj he (by rw [rm_set_next]; exact hf)
  intro z
  have := z f (by omega) t hft (by omega)
  unfold Over at this
  rw [need_sum hok, room_sum hft (by omega), hlen] at this
  exact this hlt
end Bk

namespace Bk
open PySem PySem.Spec PyProof.Rows L2
local macro_rules | `(tactic| walk_at "wp") => `(tactic| try simp only [rSorLL_r, rMin4_r, tLc2_eq, tAugS, rNinr_r, rNeN_r, rCatL_r, rSlT_r, rListOf_r, rIsB_b, rNotB_b, tFmtO, tJs, tOst, tCallS, WE, tRaise2, rOne_i, rSorD_r, tDNewK, Int.zero_add, tNever, tFor_eq, tLc_eq, iList, iTup, iRng1_eq, rRng1_i, iRng2_eq, rRng2_i, iEnum_eq, rEnum_r, iZip_eq, rZip_r, tSl, tPart, tNoPart, rSlL_r, rCat_r, rIn_r, rNin_r, rRepr_r, iRevR, rMin_r, rShr_i, rOdd_i, rSetL_r, gSub, rRg1_i, rRg2_i, rInr_r, tAug, ipI_ii, tLstRg, tRg1, tRg2, gTup_r, gUnl_r, rInt1_b, rInt1_i, rRep_r, tStep_r, scal, tSeq, tNext, tAsg, tRet, tRetN, tIfS, tDrop, tCB, tCons, tNil, tVar, tOp, tUn, tC, rU_i, rI_ii, rI0_ii, rEq, rNe, tTest, tB, tAnd, tOr, tNot, tAndV, tOrV, tNotV, tIf, tChain, tLst, tTup, tBM, tBM0, rAppend_r, rIxL_r, rIxT_r, rMx_ii, rMn_ii, rLnL_r, rLnT_r, rIsD_int, rIsD_bool, rIsD_list, rIsD_tuple, tCall, gName, gNil_n, gCons_c, cxK, L2.start, List.map, List.replicate, List.length_cons, List.length_nil, List.cons_append, List.nil_append, List.append_nil, List.getElem?_cons_zero, List.getElem?_cons_succ, Option.some.injEq, exists_eq_left', exists_eq_left, V.int.injEq, V.bl.injEq, V.str.injEq, V.ref.injEq, List.cons.injEq, and_true, true_and, and_self, List.set, wipe, rAll_r, rSum_r, reduceCtorEq, decide_true, decide_false, reduceIte, ite_true, ite_false, if_true, if_false, Bool.false_eq_true, Bool.not_true, Bool.not_false])
local macro_rules | `(tactic| walk_at "shaped") => `(tactic| (simp only [tLc2_eq, tAugS, SeqAt.shaped, PyData.canLay0, PyData.canLayAll0, PyData.depth, PyData.depthAll]; rfl))
local macro_rules | `(tactic| walk_at "lay") => `(tactic| (simp only [tLc2_eq, tAugS, PyData.canLay0, PyData.canLayAll0]; rfl))
local macro_rules | `(tactic| walk_at "wg") => `(tactic| try simp only [gName, gTup_r, gCons_c, gNil_n, cxK, List.set, List.cons.injEq, and_true, true_and, exists_eq_left', exists_eq_left, List.length_cons, List.length_nil])
section
variable {P : Program} {w : World} {K : PySem.W.Frag} {mg : Str → Option Value} {base : Heap}
abbrev s_goes : Stmt := top 43
theorem sc_goes : FnScope ["_law_bakery", "_law_dark_here", "_law_lights", "_law_bound", "_law_goods", "_law_jobs", "_law_good", "_law_given", "_law_begin", "_law_end", "_law_day_here", "_law_room", "_law_job", "_law_many"] ["_law_bakery", "_law_dark_here"] (defScope s_goes) := ⟨rfl, rfl, rfl, by decide +kernel, rfl, by decide +kernel, by decide +kernel⟩
/-- jobs: lists of their own, each with its last day, its first, and what is left to bake -/
structure JobsB (H0 H : Hp) (D : Addr) (zs : List (Addr × Tr)) : Prop where
  same : Same H0 H
  top : H D = some (.lst (zs.map fun z => V.ref z.1))
  each : ∀ z ∈ zs, H0 z.1 = none ∧ z.1 ≠ D ∧ H z.1 = some (.lst [.int z.2.2.1, .int z.2.1, .int z.2.2.2])
  nd : (zs.map (·.1)).Nodup
theorem JobsB.add {H0 H H' : Hp} {D a : Addr} {zs : List (Addr × Tr)} {t : Tr} (h : JobsB H0 H D zs) (hD : H0 D = none) (s : Same H H') (ha : H a = none) (e : H' a = some (.lst [.int t.2.1, .int t.1, .int t.2.2])) : JobsB H0 (upd H' D (.lst ((zs.map fun z => V.ref z.1) ++ [V.ref a]))) D (zs ++ [(a, t)]) := by
  have naD : a ≠ D := fun z => by rw [z, h.top] at ha; cases ha
  refine ⟨same_mut (h.same.trans s) hD, by rw [upd_same, List.map_append]; rfl, fun z hz => ?_, ?_⟩
  · rcases List.mem_append.mp hz with hz | hz
    · obtain ⟨k1, k2, k3⟩ := h.each z hz
      exact ⟨k1, k2, by rw [upd_ne k2]; exact s _ _ k3⟩
    · rw [List.mem_singleton.mp hz]
      exact ⟨h.same.free ha, naD, by rw [upd_ne naD]; exact e⟩
  · rw [List.map_append, List.nodup_append]
    refine ⟨h.nd, by simp, fun x hx y hy => ?_⟩
    obtain ⟨z, hz, rfl⟩ := List.mem_map.mp hx
    have : y = a := by simpa using hy
    rw [this]
    intro z2
    have := (h.each z hz).2.2
    rw [z2, ha] at this
    cases this
theorem op_neNilK {X : Cx} {K : PySem.W.Frag} (hK : X.K = K) (hu : X.A.units + 64 < cLine) : OpR X (compareOp .NotEq) (rNeN K) := by
  subst hK
  exact op_neNil hu
structure JobsS (H0 H : Hp) (D : Addr) (q : Nat → Addr) (e b : Nat → Nat) (rem : Nat → Int) (m : Nat) : Prop where
  same : Same H0 H
  top : H D = some (.lst ((List.range m).map fun j => V.ref (q j)))
  each : ∀ j, j < m → H (q j) = some (.lst [.int (e j : Int), .int (b j : Int), .int (rem j)])
  fr : ∀ j, j < m → H0 (q j) = none
  nD : ∀ j, j < m → q j ≠ D
  inj : ∀ j k, j < m → k < m → q j = q k → j = k
theorem JobsS.on {H0 H H' : Hp} {D : Addr} {q : Nat → Addr} {e b : Nat → Nat} {rem : Nat → Int} {m : Nat} (h : JobsS H0 H D q e b rem m) (s : Same H H') : JobsS H0 H' D q e b rem m :=
  ⟨h.same.trans s, s _ _ h.top, fun j hj => s _ _ (h.each j hj), h.fr, h.nD, h.inj⟩
theorem JobsS.mut {H0 H : Hp} {D : Addr} {q : Nat → Addr} {e b : Nat → Nat} {rem : Nat → Int} {m : Nat} (h : JobsS H0 H D q e b rem m) {j : Nat} (hj : j < m) (x : Int) : JobsS H0 (upd H (q j) (.lst [.int (e j : Int), .int (b j : Int), .int x])) D q e b (fun k => if k = j then x else rem k) m := by
  refine ⟨same_mut h.same (h.fr j hj), by rw [upd_ne fun z => h.nD j hj z.symm]; exact h.top, fun k hk => ?_, h.fr, h.nD, h.inj⟩
  by_cases z : k = j
  · rw [z, upd_same, if_pos rfl]
  · rw [upd_ne fun y => z (h.inj k j hk hj y), if_neg z]
    exact h.each k hk
theorem JobsS.congr {H0 H : Hp} {D : Addr} {q : Nat → Addr} {e b : Nat → Nat} {rem rem' : Nat → Int} {m : Nat} (h : JobsS H0 H D q e b rem m) (c : ∀ j, j < m → rem j = rem' j) : JobsS H0 H D q e b rem' m :=
  ⟨h.same, h.top, fun j hj => by rw [h.each j hj, c j hj], h.fr, h.nD, h.inj⟩
def qJ (zs : List (Addr × Tr)) (j : Nat) : Addr := (zs.map (·.1)).getD j 0
theorem JobsB.start {H0 H : Hp} {D : Addr} {zs : List (Addr × Tr)} {n : Nat} (h : JobsB H0 H D zs) (hok : TrOk (zs.map (·.2)) n) : JobsS H0 H D (qJ zs) (eJ (zs.map (·.2))) (bJ (zs.map (·.2))) (wJ (zs.map (·.2))) zs.length := by
  have hq : ∀ j (hj : j < zs.length), qJ zs j = zs[j].1 := fun j hj => by
    unfold qJ
    rw [List.getD_eq_getElem?_getD, List.getElem?_map, List.getElem?_eq_getElem hj]
    rfl
  have ht : ∀ j (hj : j < zs.length), tJ (zs.map (·.2)) j = zs[j].2 := fun j hj => by
    rw [tJ_at (by rw [List.length_map]; exact hj), List.getElem_map]
  refine ⟨h.same, ?_, fun j hj => ?_, fun j hj => ?_, fun j hj => ?_, fun j k hj hk e => ?_⟩
  · rw [h.top]
    refine congrArg (fun l => some (HO.lst l)) (List.ext_getElem (by simp) fun j h1 h2 => ?_)
    rw [List.length_map] at h1
    rw [List.getElem_map, List.getElem_map, List.getElem_range, hq j h1]
  · have hm := List.getElem_mem hj
    obtain ⟨k1, k2, k3⟩ := hok _ (List.mem_map.mpr ⟨_, hm, rfl⟩)
    unfold eJ bJ wJ
    rw [hq j hj, ht j hj, (h.each _ hm).2.2, Int.toNat_of_nonneg k1, Int.toNat_of_nonneg (by omega)]
  · rw [hq j hj]
    exact (h.each _ (List.getElem_mem hj)).1
  · rw [hq j hj]
    exact (h.each _ (List.getElem_mem hj)).2.1
  · rw [hq j hj, hq k hk] at e
    have hnd := h.nd
    rw [List.nodup_iff_pairwise_ne, List.pairwise_map] at hnd
    rcases Nat.lt_trichotomy j k with z | z | z
    · exact absurd e (List.pairwise_iff_getElem.mp hnd j k hj hk z)
    · exact z
    · exact absurd e.symm (List.pairwise_iff_getElem.mp hnd k j hk hj z)
theorem bound_nonneg {b : Bak} (hb : bakB (bakD b) = true) {k : Int} (h : b.bound = some k) : 0 ≤ k := by
  obtain ⟨_, _, h2, _⟩ := bak_parts hb
  rw [h] at h2
  simp only [optD, boundB, numD, Bool.and_eq_true, decide_eq_true_eq] at h2
  omega
def GdI (σ0 : List (Option V)) (H0 : Hp) (D : Addr) (qq : Nat → Addr) (bd : Option Int) (ds : List Int) (W : List Tr) (m : Nat) (d : Nat) (σ : L2.St) (H' : Hp) : Prop := ∃ S y6 y7 y8 y9 y10 y11 y12 y13, σ = σ0 ++ [y6, y7, y8, y9, y10, y11, y12, y13] ∧ JobsS H0 H' D qq (eJ W) (bJ W) (rm (wJ W) S d) m ∧ RunE bd ds W m S d
def spGoes (K : PySem.W.Frag) : Sp := fun vs H Q _ => ∃ x b a ds, vs = [x, .ref a] ∧ Th K H x (bakD b) ∧ bakB (bakD b) = true ∧ SqL K H a ((ds : List Int).map V.int) ∧ DarkOk ds b.lights.length ∧ ∀ H' c, Same H H' → (c = true ↔ IsTm b ds none) → Q (.bl c) H'
theorem ok_goes {f : Addr} {fd : FuncData} (F : Fun K "_law_goes" "_law_goes" s_goes f fd) (B : Bi mg) (Bs : mg "sorted" = none) (D_reach : Def P w K mg base "_law_reach" 2 ["_law_good", "_law_given"] (spLReach K)) : FnOk P w K mg base CX0 3 f fd ["_law_bakery", "_law_dark_here"] (spGoes K) := by
  refine F.ok sc_goes (fun vs H Q E h => ?_) (fun cdv A outer s H vs Q E hr h => ?_)
  · obtain ⟨_, _, _, _, rfl, _⟩ := h
    rfl
  · obtain ⟨x, b, pd, ds, rfl, hx, hb, hpd, hds, q⟩ := h
    refine ⟨_, (pss_cons (ps_asg (pv 0) (pg_tup rfl (pgs_cons (pg_name (i := 2) sc_goes.nd rfl (Or.inl rfl)) (pgs_cons (pg_name (i := 3) sc_goes.nd rfl (Or.inl rfl)) (pgs_cons (pg_name (i := 4) sc_goes.nd rfl (Or.inl rfl)) pgs_nil)))))
 (pss_cons (ps_set (i := 5) sc_goes.nd rfl (Or.inl rfl) (pe_lst pa_nil))
 (pss_cons (ps_for PassesOwn.never rfl (pi_list (pv 4)) (pg_name (i := 6) sc_goes.nd rfl (Or.inl rfl)) (pss_one (ps_for PassesOwn.never rfl (pi_range1 (by rfl) B.range (pa_cons (pe_callB call_lnL (by rfl) B.len (by decide +kernel) (pa_cons (pv 2) pa_nil)) pa_nil)) (pg_name (i := 7) sc_goes.nd rfl (Or.inl rfl)) (pss_cons (ps_asg (pe_callD D_reach hr (by rfl) (pa_cons (pv 6) (pa_cons (pv 7) pa_nil))) (pg_tup rfl (pgs_cons (pg_name (i := 8) sc_goes.nd rfl (Or.inl rfl)) (pgs_cons (pg_name (i := 9) sc_goes.nd rfl (Or.inl rfl)) pgs_nil))))
 (pss_one (ps_expr (pe_bm PySem.F.plainAttrs_list PySem.F.slot_list_append PySem.F.type_list_append mt_append (pv 5) (pa_cons (pe_lst (pa_cons (pv 9) (pa_cons (pv 8) (pa_cons (pe_ix ix_tup (pe_ix ix_list (pe_ix ix_tup (pv 6) pe_int (fun _ _ => rfl)) (pv 7) (fun _ _ => rfl)) pe_int (fun _ _ => rfl)) pa_nil)))) pa_nil))))))))
 (pss_cons (ps_for PassesOwn.never rfl (pi_range1 (by rfl) B.range (pa_cons (pe_callB call_lnL (by rfl) B.len (by decide +kernel) (pa_cons (pv 2) pa_nil)) pa_nil)) (pg_name (i := 10) sc_goes.nd rfl (Or.inr rfl)) (pss_cons (ps_set (i := 11) sc_goes.nd rfl (Or.inl rfl) (pe_ifExp (pt_cmpR op_isN (pv 3) pe_non (nomark _)) (pe_callB (cr_sum rfl) (by rfl) B.sum (by decide +kernel) (pa_cons (pe_lc (own := [("_law_job", 12)]) (g := (gName 12)) (te := (tOp (rIxL K) _ _)) rfl sc_goes.nd (pi_list (pv 5)) (blkOk_by (own := [("_law_job", 12)]) (N := ["_law_bakery", "_law_dark_here", "_law_lights", "_law_bound", "_law_goods", "_law_jobs", "_law_good", "_law_given", "_law_begin", "_law_end", "_law_day_here", "_law_room", "_law_job", "_law_many"]) (sc := defScope s_goes) (by decide +kernel)) (fun _ _ _ _ _ => (pg_name (i := 12) sc_goes.nd rfl (Or.inl rfl))) (fun _ _ _ _ _ => pts_nil) (fun _ _ _ _ _ => (pe_ix ix_list (pv 12) pe_int (fun _ _ => rfl)))) pa_nil)) (pv 3)))
 (pss_cons (ps_if (pt_cmpR op_in_seq (pv 10) (pv 1) (by rfl)) (pss_one (ps_set (i := 11) sc_goes.nd rfl (Or.inl rfl) pe_int)) pss_nil)
 (pss_cons (ps_for PassesOwn.never rfl (pi_list (pe_callB (cr_sorLL (K := K) rfl hr.units) (by rfl) Bs (by decide +kernel) (pa_cons (pv 5) pa_nil))) (pg_name (i := 12) sc_goes.nd rfl (Or.inl rfl)) (pss_one (ps_if (PW.pt (pw_and (pt_cmpR op_le (pe_ix ix_list (pv 12) pe_int (fun _ _ => rfl)) (pv 10) (nomark _)) (pw_and1 (pt_cmpR op_le (pv 10) (pe_ix ix_list (pv 12) pe_int (fun _ _ => rfl)) (nomark _))))) (pss_cons (ps_set (i := 13) sc_goes.nd rfl (Or.inl rfl) (pe_callB (call_mn rfl) (by rfl) B.min (by decide +kernel) (pa_cons (pv 11) (pa_cons (pe_ix ix_list (pv 12) pe_int (fun _ _ => rfl)) pa_nil))))
 (pss_cons (ps_set (i := 11) sc_goes.nd rfl (Or.inl rfl) (pe_op op_sub (pv 11) (pv 13)))
 (pss_one (ps_asg (pe_op op_sub (pe_ix ix_list (pv 12) pe_int (fun _ _ => rfl)) (pv 13)) (pg_sub (pv 12) pe_int set_list))))) pss_nil)))
 (pss_one (ps_if (pt_cmpR (op_neNilK (K := K) rfl hr.units) (pe_lc (own := [("_law_job", 12)]) (g := (gName 12)) (tt := (tAnd (tTest (tOp _ (tOp (rIxL K) _ _) _)) (tTest (tOp _ (tOp (rIxL K) _ _) _)))) rfl sc_goes.nd (pi_list (pv 5)) (blkOk_by (own := [("_law_job", 12)]) (N := ["_law_bakery", "_law_dark_here", "_law_lights", "_law_bound", "_law_goods", "_law_jobs", "_law_good", "_law_given", "_law_begin", "_law_end", "_law_day_here", "_law_room", "_law_job", "_law_many"]) (sc := defScope s_goes) (by decide +kernel)) (fun _ _ _ _ _ => (pg_name (i := 12) sc_goes.nd rfl (Or.inl rfl))) (fun _ _ _ _ _ => (pts_one (PW.pt (pw_and (pt_cmpR op_eq (pe_ix ix_list (pv 12) pe_int (fun _ _ => rfl)) (pv 10) (nomark _)) (pw_and1 (pt_cmpR op_gt (pe_ix ix_list (pv 12) pe_int (fun _ _ => rfl)) pe_int (nomark _))))))) (fun _ _ _ _ _ => (pv 12))) (pe_lst pa_nil) (nomark _)) (pss_one (ps_ret pe_bl)) pss_nil))))))
 (pss_one (ps_ret pe_bl)))))), ?_⟩
    obtain ⟨⟨c1, c2⟩, c3, _, ⟨c5, c6⟩, c7⟩ := bak_parts hb
    obtain ⟨a, l, v2, ga, xl, xg, rfl, ht, hl, hla, h2, hgl, hga⟩ := Th.bak hx
    have e2 : v2 = optV b.bound := h2.opt
    subst e2
    have lenG : xg.length = b.goods.length := by rw [hga.length, List.length_map]
    have lenL : xl.length = b.lights.length := by rw [hla.length, List.length_map]
    walk_at "wp"
    refine ⟨_, ht, rfl, ?_⟩
    walk_at "wp"
    refine ⟨Nat.zero_le _, fun D hD => ?_⟩
    have S1 := same_upd (o := .lst []) hD
    have J1 : JobsB H (upd H D (.lst [])) D [] := ⟨S1, upd_same, (fun z hz => nomatch hz), List.nodup_nil⟩
    generalize upd H D (.lst []) = H1 at S1 J1 ⊢
    refine ⟨⟨_, S1.seq hgl⟩, LoopR.by (walk_list (xs := xg)) (fun i σ H' => (∃ y6 y7 y8 y9, σ = [some (.ref a), some (.ref pd), some (.ref l), some (optV b.bound), some (.ref ga), some (.ref D), y6, y7, y8, y9, none, none, none, none]) ∧ ∃ zs, JobsB H H' D zs ∧ zs.map (·.2) = ((b.goods.take i).map wantsG).flatten) ⟨⟨none, none, none, none, rfl⟩, [], J1, rfl⟩ (fun i σ H' _ hI => by obtain ⟨_, _, J, _⟩ := hI; exact J.same.seq hgl) (fun i x σ H0 H2 hi hI yy => ?_) (fun σ H2 hI => ?_)⟩
    · obtain ⟨rfl, hxi⟩ := yy
      obtain ⟨⟨y6, y7, y8, y9, rfl⟩, zs, J2, ez⟩ := hI
      obtain ⟨dd, hdd, hxd⟩ := hga.get hxi
      rw [List.getElem?_map] at hdd
      cases hgi : b.goods[i]? with
      | none => rw [hgi] at hdd; cases hdd
      | some g =>
      rw [hgi] at hdd
      cases hdd
      have hgk := bak_goodK hb (List.mem_of_getElem? hgi)
      have hsm := wantsB_len hb (b.goods.take i) fun g hg => List.mem_of_mem_take hg
      rw [List.length_take] at hsm
      have hst : ((b.goods.take (i + 1)).map wantsG).flatten = ((b.goods.take i).map wantsG).flatten ++ wantsG g := by
        rw [List.take_succ, hgi, List.map_append, List.flatten_append]
        simp only [Option.toList_some, List.map_cons, List.map_nil, List.flatten_cons, List.flatten_nil, List.append_nil]
      have hxd0 := hxd
      obtain ⟨t, ad, xs, rfl, htg, hs, ha⟩ := hxd.good
      walk_at "wp"
      refine ⟨_, J2.same.seq hl, ?_⟩
      rw [lenL]
      refine ⟨by omega, by omega, ?_⟩
      rw [show (b.lights.length : Int).toNat = b.lights.length by omega]
      refine LoopR.by walk_range (fun j σ H' => (∃ y7 y8 y9, σ = [some (.ref a), some (.ref pd), some (.ref l), some (optV b.bound), some (.ref ga), some (.ref D), some (.ref t), y7, y8, y9, none, none, none, none]) ∧ ∃ zs, JobsB H H' D zs ∧ zs.map (·.2) = ((b.goods.take i).map wantsG).flatten ++ (List.range j).map (trG g)) ⟨⟨_, _, _, rfl⟩, zs, J2, by rw [List.range_zero, List.map_nil, List.append_nil]; exact ez⟩ (fun _ _ _ _ _ => trivial) (fun j x σ H3 H4 hj hI yy => ?_) (fun σ H4 hI => ?_)
      · obtain ⟨rfl, rfl⟩ := yy
        obtain ⟨⟨y7, y8, y9, rfl⟩, zs, J4, ez⟩ := hI
        have hj' : j < g.days.length := by rw [hgk.1]; exact hj
        have hd : g.days[j]? = some g.days[j] := List.getElem?_eq_getElem hj'
        generalize g.days[j] = d at hd
        obtain ⟨v, hv, hvd⟩ := ha.get' (i := j) (d := dayD d) (by rw [List.getElem?_map, hd]; rfl)
        obtain ⟨t2, rfl, ht2⟩ := hvd.day
        have hal := congrArg List.length ez
        rw [List.length_map, List.length_append, List.length_map, List.length_range] at hal
        walk_at "wp"
        refine ⟨_, g, _, j, rfl, hxd0.same J4.same, hgk, hj, fun H5 p S5 hp => ?_⟩
        have S45 := J4.same.trans S5
        walk_at "wp"
        refine ⟨_, SqT.of hp, rfl, ?_⟩
        walk_at "wp"
        refine ⟨tyL (SqL.of (S5 _ _ J4.top)), _, _, Same.tup S45 htg, atI_nat (j := 0) rfl, ?_⟩
        walk_at "wp"
        refine ⟨_, _, S45.seq hs, atI_nat hv, ?_⟩
        walk_at "wp"
        refine ⟨_, _, Same.tup S45 ht2, atI_nat (j := 0) rfl, ?_⟩
        refine ⟨sz100 (by decide), fun p1 n1 => ?_⟩
        have S6 := same_upd (o := .lst [V.int (lastN g j : Int), V.int (reachF g j), V.int d.want]) n1
        have E6 : upd H5 p1 (.lst [V.int (lastN g j : Int), V.int (reachF g j), V.int d.want]) p1 = some (.lst [.int (trG g j).2.1, .int (trG g j).1, .int (trG g j).2.2]) := by
          rw [upd_same]
          unfold trG wantA
          rw [hd]
        have n1' := S5.free n1
        generalize upd H5 p1 (.lst [V.int (lastN g j : Int), V.int (reachF g j), V.int d.want]) = H6 at S6 E6 ⊢
        have S56 := S5.trans S6
        refine ⟨_, S56 _ _ J4.top, sz100l (by rw [List.length_map]; omega), ⟨_, _, _, rfl, rfl, rfl⟩, _, J4.add hD S56 n1' E6, ?_⟩
        rw [List.map_append, ez, List.range_succ, List.map_append, List.append_assoc]
        rfl
      · obtain ⟨⟨y7, y8, y9, rfl⟩, zs, J4, ez⟩ := hI
        refine ⟨⟨_, _, _, _, rfl⟩, zs, J4, ?_⟩
        rw [ez, hst]
        unfold wantsG
        rw [hgk.1]
    · obtain ⟨⟨y6, y7, y8, y9, rfl⟩, zs, J2, ez⟩ := hI
      rw [lenG, List.take_length] at ez
      have ez : zs.map (·.2) = wantsB b := ez
      walk_at "wp"
      have hok : TrOk (zs.map (·.2)) b.lights.length := by rw [ez]; exact (wantsB_ok hb).1
      have hml := (wantsB_ok hb).2
      rw [← ez, List.length_map] at hml
      have J3 := J2.start hok
      generalize hq : qJ zs = qq at J3
      have hzm : zs.length = (wantsB b).length := by rw [← ez, List.length_map]
      rw [hzm] at J3 hml
      generalize hm : (wantsB b).length = m at J3 hml
      have J3 := J3.congr (rem' := rm (wJ (zs.map (·.2))) (fun _ _ => 0) 0) fun j _ => by unfold rm; show _ = _ - 0; omega
      rw [ez] at J3 hok
      refine ⟨_, J3.same.seq hl, ?_⟩
      rw [lenL]
      refine ⟨by omega, by omega, ?_⟩
      rw [show (b.lights.length : Int).toNat = b.lights.length by omega]
      refine LoopR.by walk_range (GdI [some (.ref a), some (.ref pd), some (.ref l), some (optV b.bound), some (.ref ga), some (.ref D)] H D qq b.bound ds (wantsB b) m) ⟨fun _ _ => 0, y6, y7, y8, y9, none, none, none, none, rfl, J3, (fun x hx => absurd hx (Nat.not_lt_zero x)), (fun x hx => absurd hx (Nat.not_lt_zero x))⟩ (fun _ _ _ _ _ => trivial) (fun d v σ H0 H3 hd hI yy => ?_) (fun σ H3 hI => ?_)
      · obtain ⟨rfl, rfl⟩ := yy
        obtain ⟨S, y6, y7, y8, y9, y10, y11, y12, y13, rfl, J4, hRun⟩ := hI
        generalize hrem : rm (wJ (wantsB b)) S d = rem at J4
        have hwn : ∀ j, j < m → 0 ≤ wJ (wantsB b) j := fun j hj => wJ_nonneg hb (by omega)
        have hrn : ∀ j, j < m → 0 ≤ rem j := fun j hj => by
          rw [← hrem]
          exact rm_nonneg (t := d) hRun.day hj (hwn j hj) d (Nat.le_refl d)
        simp only [Int.zero_add]
        walk_at "wg"
        refine seq2 (fun σ' H' => σ' = [some (.ref a), some (.ref pd), some (.ref l), some (optV b.bound), some (.ref ga), some (.ref D), y6, y7, y8, y9, some (.int (d : Int)), some (.int (rhoE b.bound ds m rem d)), y12, y13] ∧ JobsS H H' D qq (eJ (wantsB b)) (bJ (wantsB b)) rem m) (fun σ' H' hm => ?_) (fun N hN => ?_)
        · obtain ⟨rfl, J5⟩ := hm
          walk_at "wp"
          refine ⟨(List.range m).map fun j => (qq j, [(eJ (wantsB b) j : Int), (bJ (wantsB b) j : Int), rem j]), ?_, fun z hz => ?_, fun L' ps hperm hsrt hps => ?_⟩
          · rw [List.map_map]
            exact SqL.of J5.top
          · obtain ⟨j, hj, rfl⟩ := List.mem_map.mp hz
            exact J5.each j (List.mem_range.mp hj)
          · obtain ⟨π, hπ, rfl⟩ := perm_map_inv hperm.symm (List.range m) rfl
            rw [show List.map (fun q : Addr × List Int => V.ref q.1) (List.map (fun j => (qq j, [(eJ (wantsB b) j : Int), (bJ (wantsB b) j : Int), rem j])) π) = π.map fun j => V.ref (qq j) by rw [List.map_map]; rfl]
            rw [List.pairwise_map] at hsrt
            have hsrt : π.Pairwise fun j k => eJ (wantsB b) j ≤ eJ (wantsB b) k := hsrt.imp fun {j k} h => by
              dsimp only at h
              rw [← List.not_lt] at h
              simp only [List.cons_lt_cons_iff] at h
              omega
            have hnd : π.Nodup := hπ.nodup_iff.mp List.nodup_range
            have hπm : ∀ j, j ∈ π → j < m := fun j hj => List.mem_range.mp (hπ.mem_iff.mpr hj)
            have T1 := same_upd (o := .lst (π.map fun j => V.ref (qq j))) hps
            have G1 : upd H' ps (.lst (π.map fun j => V.ref (qq j))) ps = some (.lst (π.map fun j => V.ref (qq j))) := upd_same
            have nps : ∀ j, j < m → ps ≠ qq j := fun j hj z => by
              have := J5.each j hj
              rw [← z, hps] at this
              cases this
            have J6 := J5.on T1
            generalize upd H' ps (.lst (π.map fun j => V.ref (qq j))) = H6 at G1 J6 ⊢
            have hρ : 0 ≤ rhoE b.bound ds m rem d := by
              unfold rhoE
              by_cases c : ((d : Nat) : Int) ∈ ds
              · rw [if_pos c]
                exact Int.le_refl 0
              · rw [if_neg c]
                cases hbo : b.bound with
                | none => exact sumN_nonneg _ hrn
                | some k =>
                  have := bound_nonneg hb hbo
                  exact this
            refine ⟨⟨_, SqL.of G1⟩, ?_⟩
            refine LoopR.by (walk_list (xs := π.map fun j => V.ref (qq j))) (fun i σ H' => ∃ s r y12 y13, σ = [some (.ref a), some (.ref pd), some (.ref l), some (optV b.bound), some (.ref ga), some (.ref D), y6, y7, y8, y9, some (.int (d : Int)), some (.int r), y12, y13] ∧ JobsS H H' D qq (eJ (wantsB b)) (bJ (wantsB b)) (fun j => rem j - s j) m ∧ H' ps = some (.lst (π.map fun j => V.ref (qq j))) ∧ StepI m (eJ (wantsB b)) (bJ (wantsB b)) d (rhoE b.bound ds m rem d) rem π i s r) ⟨fun _ => 0, _, _, _, rfl, J6.congr (rem' := fun j => rem j - (fun _ => (0 : Int)) j) (fun j _ => (Int.sub_zero _).symm), G1, StepI.init hρ⟩ (fun i σ H' _ hI => by obtain ⟨_, _, _, _, _, _, h, _⟩ := hI; exact SqL.of h) (fun i v σ H0 H7 hi hI yy => ?_) (fun σ H7 hI => ?_)
            · obtain ⟨rfl, hxi⟩ := yy
              rw [List.length_map] at hi
              have hj : π[i]? = some π[i] := List.getElem?_eq_getElem hi
              rw [List.getElem?_map, hj] at hxi
              cases hxi
              generalize π[i] = j at hj
              have hjm := hπm j (List.mem_of_getElem? hj)
              obtain ⟨s, r, y12, y13, rfl, J7, G7, hS⟩ := hI
              have hs0 := hS.out j (take_new hnd hj)
              have ej := J7.each j hjm
              have sq : SqL K H7 (qq j) [.int (eJ (wantsB b) j : Int), .int (bJ (wantsB b) j : Int), .int (rem j - s j)] := SqL.of ej
              walk_at "wp"
              refine ⟨_, _, sq, atI_nat (j := 1) rfl, ?_⟩
              walk_at "wp"
              have skip : ¬ (bJ (wantsB b) j ≤ d ∧ d ≤ eJ (wantsB b) j) → StepI m (eJ (wantsB b)) (bJ (wantsB b)) d (rhoE b.bound ds m rem d) rem π (i + 1) s r := fun hav => hS.skip hnd hj (hrn j hjm) hav
              by_cases h1 : bJ (wantsB b) j ≤ d
              · rw [if_pos (decide_eq_true (by omega))]
                refine ⟨_, _, sq, atI_nat (j := 0) rfl, ?_⟩
                walk_at "wp"
                by_cases h2 : d ≤ eJ (wantsB b) j
                · rw [if_pos (decide_eq_true (by omega))]
                  refine ⟨_, _, sq, atI_nat (j := 2) rfl, ?_⟩
                  walk_at "wp"
                  refine ⟨_, _, sq, atI_nat (j := 2) rfl, ?_⟩
                  walk_at "wp"
                  have hT := hS.take hnd hj hjm (hrn j hjm) ⟨h1, h2⟩ rfl
                  have esub : rem j - s j = rem j := by rw [hs0]; omega
                  rw [esub] at ej ⊢
                  generalize (if rem j < r then rem j else r) = x at hT ⊢
                  have JM := J7.mut hjm (rem j - x)
                  refine ⟨_, 2, ej, ixN_nat (j := 2) (by show 2 < 3; decide), _, _, _, _, ⟨rfl, rfl, rfl⟩, JM.congr (fun k _ => ?_), ?_, hT⟩
                  · by_cases ek : k = j
                    · rw [if_pos ek, if_pos ek, ek]
                    · rw [if_neg ek, if_neg ek]
                  · rw [upd_ne (nps j hjm)]
                    exact G7
                · rw [if_neg (by rw [decide_eq_true_eq]; omega)]
                  exact ⟨s, r, _, _, ⟨rfl, rfl, rfl⟩, J7, G7, skip fun z => h2 z.2⟩
              · rw [if_neg (by rw [decide_eq_true_eq]; omega)]
                exact ⟨s, r, _, _, ⟨rfl, rfl, rfl⟩, J7, G7, skip fun z => h1 z.1⟩
            · obtain ⟨s, r, y12, y13, rfl, J7, G7, hS⟩ := hI
              rw [List.length_map] at hS
              have hday := hS.done hπ.symm hsrt
              walk_at "wp"
              refine ⟨⟨_, SqL.of J7.top⟩, fun D2 hD2 => ?_⟩
              refine lcNil (walk_list (xs := (List.range m).map fun j => V.ref (qq j))) (fun j => decide (eJ (wantsB b) j = d) && decide (0 < rem j - s j)) hD2 (by simp; omega) (fun H s => SqL.of (s _ _ J7.top)) (fun _ _ _ _ y => yat_same y) (fun j x H8 H9 hj s9 yy R1 R0 hR1 hR0 => ?_) (fun H8 acc s8 e8 hacc => ?_)
              · obtain ⟨rfl, hxi⟩ := yy
                rw [List.length_map, List.length_range] at hj
                rw [List.getElem?_map, List.getElem?_range hj] at hxi
                cases hxi
                have sq := SqL.of (K := K) ((J7.on s9).each j hj)
                walk_at "wp"
                refine ⟨_, _, sq, atI_nat (j := 0) rfl, ?_⟩
                walk_at "wp"
                by_cases c1 : eJ (wantsB b) j = d
                · rw [if_pos (decide_eq_true (by omega))]
                  refine ⟨_, _, sq, atI_nat (j := 2) rfl, ?_⟩
                  walk_at "wp"
                  by_cases c2 : 0 < rem j - s j
                  · rw [if_pos (decide_eq_true c2)]
                    exact hR1 (by rw [decide_eq_true c1, decide_eq_true c2]; rfl) _ _ (Same.refl _)
                  · rw [if_neg (by rw [decide_eq_true_eq]; exact c2)]
                    exact hR0 (by rw [decide_eq_false c2, Bool.and_false]) _ (Same.refl _)
                · rw [if_neg (by rw [decide_eq_true_eq]; omega)]
                  exact hR0 (by rw [decide_eq_false c1, Bool.false_and]) _ (Same.refl _)
              · refine ⟨sz100 (by decide), fun p9 hp9 => ?_⟩
                have T9 := same_upd (o := .lst []) hp9
                refine ⟨_, SqL.of (T9 _ _ e8), SqL.of upd_same, ?_⟩
                have J9 := (J7.on s8).on T9
                rw [List.length_map, List.length_range] at hacc
                rw [← hm] at hday hRun hacc
                rw [← hrem] at hday
                by_cases hz : acc.length = 0
                · rw [if_neg (by rw [decide_eq_true hz]; simp)]
                  refine ⟨SetD S d s, y6, y7, y8, y9, _, _, y12, y13, rfl, J9.congr (fun j _ => by rw [rm_set_next, hrem]), ?_⟩
                  rw [← hm]
                  refine ⟨hRun.days hday, fun x hx j hj ej => ?_⟩
                  by_cases hxd : x < d
                  · exact hRun.oks x hxd j hj ej
                  · have hxd : x = d := by omega
                    subst hxd
                    rw [rm_set_next, hrem]
                    have := hacc.mp hz j hj
                    rw [decide_eq_true ej, Bool.true_and, decide_eq_false_iff_not] at this
                    omega
                · rw [if_pos (by rw [decide_eq_false hz]; rfl)]
                  refine q _ false J9.same ⟨fun z => (by cases z), fun z => ?_⟩
                  have hex : ∃ j, j < (wantsB b).length ∧ eJ (wantsB b) j = d ∧ 0 < rem j - s j := Classical.byContradiction fun hno => hz (hacc.mpr fun j hj => by
                    by_cases c1 : eJ (wantsB b) j = d
                    · by_cases c2 : 0 < rem j - s j
                      · exact absurd ⟨j, hj, c1, c2⟩ hno
                      · rw [decide_eq_false c2, Bool.and_false]
                    · rw [decide_eq_false c1, Bool.false_and])
                  obtain ⟨j, hj, ej, hpos⟩ := hex
                  exact absurd z (goes_false hb hd hRun hday hj ej (by rw [hrem]; exact hpos))
        · have hrho : ∀ HX, JobsS H HX D qq (eJ (wantsB b)) (bJ (wantsB b)) rem m → ∀ x, x = (match b.bound with | none => sumN rem m | some k => k) → (∃ xs, (SqL K HX pd xs ∨ SqT K HX pd xs) ∧ flatV (.int (d : Int)) = true ∧ xs.all flatV = true ∧ if inV (.int (d : Int)) xs = true then N [some (.ref a), some (.ref pd), some (.ref l), some (optV b.bound), some (.ref ga), some (.ref D), y6, y7, y8, y9, some (.int (d : Int)), some (.int 0), y12, y13] HX else N [some (.ref a), some (.ref pd), some (.ref l), some (optV b.bound), some (.ref ga), some (.ref D), y6, y7, y8, y9, some (.int (d : Int)), some (.int x), y12, y13] HX) := fun HX J x hx => by
            refine ⟨_, .inl (J.same.seq hpd), rfl, flat_ints ds, ?_⟩
            rw [inV_ints]
            have hN' : ∀ y, y = rhoE b.bound ds m rem d → N [some (.ref a), some (.ref pd), some (.ref l), some (optV b.bound), some (.ref ga), some (.ref D), y6, y7, y8, y9, some (.int (d : Int)), some (.int y), y12, y13] HX := fun y hy => hN _ _ ⟨by rw [hy], J⟩
            by_cases c : ((d : Nat) : Int) ∈ ds
            · rw [if_pos (decide_eq_true c)]
              exact hN' 0 (by unfold rhoE; rw [if_pos c])
            · rw [if_neg (by rw [decide_eq_true_eq]; exact c)]
              exact hN' x (by unfold rhoE; rw [if_neg c]; exact hx)
          walk_at "wp"
          by_cases hbn : b.bound = none
          · rw [if_pos (by rw [hbn]; rfl)]
            refine ⟨⟨_, SqL.of J4.top⟩, fun D2 hD2 => ?_⟩
            refine LcR.map (walk_list (xs := (List.range m).map fun j => V.ref (qq j))) (((List.range m).map rem).map V.int) hD2 (by simp) (by simp; omega) (fun H s => SqL.of (s _ _ J4.top)) (fun _ _ _ _ y => yat_same y) (fun j x y H5 H6 hj s6 yy hy R0 hR0 => ?_) (fun H5 s5 hH5 => ?_)
            · obtain ⟨rfl, hxi⟩ := yy
              rw [List.length_map, List.length_range] at hj
              rw [List.getElem?_map, List.getElem?_range hj] at hxi
              rw [List.getElem?_map, List.getElem?_map, List.getElem?_range hj] at hy
              cases hxi
              cases hy
              walk_at "wp"
              exact ⟨_, _, SqL.of ((J4.on s6).each j hj), atI_nat (j := 2) rfl, hR0 _ (Same.refl _)⟩
            · refine ⟨_, SqL.of hH5, ?_⟩
              rw [sum_rangeN]
              exact hrho _ (J4.on s5) _ (by rw [hbn])
          · obtain ⟨k, hk⟩ := Option.ne_none_iff_exists'.mp hbn
            rw [if_neg (by rw [hk]; simp [optV])]
            have := hrho _ J4 k (by rw [hk])
            have ev : optV b.bound = .int k := by rw [hk]; rfl
            rw [ev] at this ⊢
            exact this
      · obtain ⟨S, y6, y7, y8, y9, y10, y11, y12, y13, rfl, J4, hRun⟩ := hI
        walk_at "wp"
        refine q _ true J4.same ⟨fun _ => ?_, fun _ => rfl⟩
        rw [← hm] at hRun
        exact goes_true hb hRun
end
end Bk

namespace Bk
open PySem PySem.Spec PyProof.Rows L2
local macro_rules | `(tactic| walk_at "wp") => `(tactic| try simp only [rSorLL_r, rMin4_r, tLc2_eq, tAugS, rNinr_r, rNeN_r, rCatL_r, rSlT_r, rListOf_r, rIsB_b, rNotB_b, tFmtO, tJs, tOst, tCallS, WE, tRaise2, rOne_i, rSorD_r, tDNewK, Int.zero_add, tNever, tFor_eq, tLc_eq, iList, iTup, iRng1_eq, rRng1_i, iRng2_eq, rRng2_i, iEnum_eq, rEnum_r, iZip_eq, rZip_r, tSl, tPart, tNoPart, rSlL_r, rCat_r, rIn_r, rNin_r, rRepr_r, iRevR, rMin_r, rShr_i, rOdd_i, rSetL_r, gSub, rRg1_i, rRg2_i, rInr_r, tAug, ipI_ii, tLstRg, tRg1, tRg2, gTup_r, gUnl_r, rInt1_b, rInt1_i, rRep_r, tStep_r, scal, tSeq, tNext, tAsg, tRet, tRetN, tIfS, tDrop, tCB, tCons, tNil, tVar, tOp, tUn, tC, rU_i, rI_ii, rI0_ii, rEq, rNe, tTest, tB, tAnd, tOr, tNot, tAndV, tOrV, tNotV, tIf, tChain, tLst, tTup, tBM, tBM0, rAppend_r, rIxL_r, rIxT_r, rMx_ii, rMn_ii, rLnL_r, rLnT_r, rIsD_int, rIsD_bool, rIsD_list, rIsD_tuple, tCall, gName, gNil_n, gCons_c, cxK, L2.start, List.map, List.replicate, List.length_cons, List.length_nil, List.cons_append, List.nil_append, List.append_nil, List.getElem?_cons_zero, List.getElem?_cons_succ, Option.some.injEq, exists_eq_left', exists_eq_left, V.int.injEq, V.bl.injEq, V.str.injEq, V.ref.injEq, List.cons.injEq, and_true, true_and, and_self, List.set, wipe, rAll_r, rSum_r, reduceCtorEq, decide_true, decide_false, reduceIte, ite_true, ite_false, if_true, if_false, Bool.false_eq_true, Bool.not_true, Bool.not_false])
local macro_rules | `(tactic| walk_at "shaped") => `(tactic| (simp only [tLc2_eq, tAugS, SeqAt.shaped, PyData.canLay0, PyData.canLayAll0, PyData.depth, PyData.depthAll]; rfl))
local macro_rules | `(tactic| walk_at "lay") => `(tactic| (simp only [tLc2_eq, tAugS, PyData.canLay0, PyData.canLayAll0]; rfl))
local macro_rules | `(tactic| walk_at "wg") => `(tactic| try simp only [gName, gTup_r, gCons_c, gNil_n, cxK, List.set, List.cons.injEq, and_true, true_and, exists_eq_left', exists_eq_left, List.length_cons, List.length_nil])
section
variable {P : Program} {w : World} {K : PySem.W.Frag} {mg : Str → Option Value} {base : Heap}
abbrev s_longer : Stmt := top 44
theorem sc_longer : FnScope ["_law_bakery", "_law_lights", "_law_bound", "_law_goods", "_law_days_here", "_law_life"] ["_law_bakery"] (defScope s_longer) := ⟨rfl, rfl, rfl, by decide +kernel, rfl, by decide +kernel, by decide +kernel⟩
def rep40 {α : Type} (l : List α) : List α := (List.replicate 40 l).flatten.take 40
theorem rep40_length {α : Type} {l : List α} (h : 1 ≤ l.length) : (rep40 l).length = 40 := by
  unfold rep40
  rw [List.length_take, List.length_flatten, List.map_replicate, List.sum_replicate_nat]
  omega
theorem rep40_mem {α : Type} {l : List α} {x : α} (h : x ∈ rep40 l) : x ∈ l := by
  obtain ⟨m, hm, hx⟩ := List.mem_flatten.mp (List.mem_of_mem_take h)
  rw [(List.mem_replicate.mp hm).2] at hx
  exact hx
theorem rep40_map {α β : Type} (f : α → β) (l : List α) : rep40 (l.map f) = (rep40 l).map f := by
  unfold rep40
  rw [List.map_take, List.map_flatten, List.map_replicate]
def longB (b : Bak) : Bak := ⟨rep40 b.lights, b.bound, b.goods.map fun g => ⟨rep40 g.days, g.life⟩⟩
theorem longB_ok {b : Bak} (h : bakB (bakD b) = true) : bakB (bakD (longB b)) = true := by
  obtain ⟨⟨a1, _⟩, a2, a3, ⟨a4, a5⟩, a6⟩ := bak_parts h
  refine bakB_mk (by show 1 ≤ (rep40 b.lights).length; rw [rep40_length a1]; decide) (by show (rep40 b.lights).length ≤ 40; rw [rep40_length a1]; decide) (fun z hz => a2 z (rep40_mem hz)) a3 ?_ ?_ ?_
  · show 1 ≤ (b.goods.map _).length
    rw [List.length_map]
    exact a4
  · show (b.goods.map _).length ≤ 2
    rw [List.length_map]
    exact a5
  · intro g hg
    obtain ⟨g0, hg0, rfl⟩ := List.mem_map.mp hg
    obtain ⟨c1, c2, c3⟩ := a6 g0 hg0
    refine ⟨?_, c2, fun d hd => c3 d (rep40_mem hd)⟩
    show (rep40 g0.days).length = (rep40 b.lights).length
    rw [rep40_length a1, rep40_length (by omega)]
def spLonger (K : PySem.W.Frag) : Sp := fun vs H Q _ => ∃ x b, vs = [x] ∧ Tk H x (bakD b) ∧ bakB (bakD b) = true ∧ ∀ H' y, Same H H' → Tk H' y (bakD (longB b)) → Q y H'
theorem cut40 (xs : List V) : cutV xs none (some 40) = xs.take 40 := cutV_upto xs 40
theorem but_same {H H' : Hp} {D : Addr} (s : Same H H') (hD : H D = none) : Same H (newBut (fun _ => none) D D H') := fun b o e => newBut_at rfl (ne_of_none e hD) (ne_of_none e hD) (s b o e)
theorem ok_longer {f : Addr} {fd : FuncData} (F : Fun K "_law_longer" "_law_longer" s_longer f fd) : FnOk P w K mg base CX0 1 f fd ["_law_bakery"] (spLonger K) := by
  refine F.ok sc_longer (fun vs H Q E h => ?_) (fun cdv A outer s H vs Q E hr h => ?_)
  · obtain ⟨x, b, rfl, _⟩ := h
    rfl
  · obtain ⟨x, b, rfl, hx, hb, q⟩ := h
    refine ⟨_, (pss_cons (ps_asg (pv 0) (pg_tup rfl (pgs_cons (pg_name (i := 1) sc_longer.nd rfl (Or.inl rfl)) (pgs_cons (pg_name (i := 2) sc_longer.nd rfl (Or.inl rfl)) (pgs_cons (pg_name (i := 3) sc_longer.nd rfl (Or.inl rfl)) pgs_nil)))))
 (pss_one (ps_ret (pe_tup (pa_cons (pe_slice sl_list (pe_op op_rep (pv 1) pe_int) po_none (po_some pe_int)) (pa_cons (pv 2) (pa_cons (pe_lc (own := [("_law_days_here", 4), ("_law_life", 5)]) (g := (gTup K 2 (gCons (gName 4) (gCons (gName 5) gNil)))) (te := (tTup (tCons (tSl (rSlL K) _ _ _) (tCons _ tNil)))) rfl sc_longer.nd (pi_list (pv 3)) (blkOk_by (own := [("_law_days_here", 4), ("_law_life", 5)]) (N := ["_law_bakery", "_law_lights", "_law_bound", "_law_goods", "_law_days_here", "_law_life"]) (sc := defScope s_longer) (by decide +kernel)) (fun _ _ _ _ _ => (pg_tup rfl (pgs_cons (pg_name (i := 4) sc_longer.nd rfl (Or.inl rfl)) (pgs_cons (pg_name (i := 5) sc_longer.nd rfl (Or.inl rfl)) pgs_nil)))) (fun _ _ _ _ _ => pts_nil) (fun _ _ _ _ _ => (pe_tup (pa_cons (pe_slice sl_list (pe_op op_rep (pv 4) pe_int) po_none (po_some pe_int)) (pa_cons (pv 5) pa_nil))))) pa_nil))))))), ?_⟩
    obtain ⟨⟨a1, a1'⟩, a2, a3, ⟨a4, a5⟩, a6⟩ := bak_parts hb
    obtain ⟨a, ll, g, xl, xg, rfl, ht, hl, hla, hg, hga⟩ := hx.bak
    have hlen := hla.length
    rw [List.length_map] at hlen
    walk_at "wp"
    refine ⟨_, SqT.of ht, rfl, ?_⟩
    walk_at "wp"
    refine ⟨_, hl, by decide, by decide, sz100 (by rw [hlen]; show _ * 40 ≤ _; omega), fun p1 h1 => ?_⟩
    have S1 := same_upd (o := .lst (List.replicate (Int.toNat 40) xl).flatten) h1
    have E1 : upd H p1 (.lst (List.replicate (Int.toNat 40) xl).flatten) p1 = some (.lst (List.replicate 40 xl).flatten) := upd_same
    generalize upd H p1 (.lst (List.replicate (Int.toNat 40) xl).flatten) = H1 at S1 E1 ⊢
    refine ⟨_, SqL.of E1, fun p2 h2 => ?_⟩
    rw [cut40]
    have S2 := same_upd (o := .lst (List.take 40 (List.replicate 40 xl).flatten)) h2
    have E2 : upd H1 p2 (.lst (List.take 40 (List.replicate 40 xl).flatten)) p2 = some (.lst (rep40 xl)) := upd_same
    generalize upd H1 p2 (.lst (List.take 40 (List.replicate 40 xl).flatten)) = H2 at S2 E2 ⊢
    have S02 := S1.trans S2
    refine ⟨⟨_, SqL.of (S02 _ _ hg)⟩, fun D hD => ?_⟩
    have hD0 : H D = none := S02.free hD
    have hgl := hga.length
    rw [List.length_map] at hgl
    refine LcR.build (H := fun _ => none) walk_list ((longB b).goods.map goodD) hD (by show ((b.goods.map _).map _).length = _; rw [List.length_map, List.length_map, hgl]) (by omega) (fun H s => s.seq (SqL.of (S02 _ _ hg))) (fun _ _ _ _ y => yat_same y) (fun i x e H0 H3 hi s3 hacc yy he R hR => ?_) (fun H3 acc s3 ea ta => ?_)
    · obtain ⟨rfl, hxi⟩ := yy
      obtain ⟨acc, hacc⟩ := hacc
      obtain ⟨dd, hdd, hxd⟩ := hga.get hxi
      rw [List.getElem?_map] at hdd
      have he : ((b.goods.map fun g => (⟨rep40 g.days, g.life⟩ : Good)).map goodD)[i]? = some e := he
      rw [List.getElem?_map, List.getElem?_map] at he
      cases hgi : b.goods[i]? with
      | none => rw [hgi] at hdd; cases hdd
      | some g0 =>
      rw [hgi] at hdd he
      cases hdd
      cases he
      obtain ⟨c1, c2, c3⟩ := a6 g0 (List.mem_of_getElem? hgi)
      obtain ⟨t, ad, xs, rfl, ht3, had, hxs⟩ := hxd.good
      have s03 := S02.trans s3
      have hxl := hxs.length
      rw [List.length_map] at hxl
      walk_at "wp"
      refine ⟨_, SqT.of (s03 _ _ ht3), rfl, ?_⟩
      walk_at "wp"
      refine ⟨_, s03 _ _ had, by decide, by decide, sz100 (by rw [hxl, c1]; show _ * 40 ≤ _; omega), fun p3 h3 => ?_⟩
      have S3 := same_upd (o := .lst (List.replicate (Int.toNat 40) xs).flatten) h3
      have E3 : upd H3 p3 (.lst (List.replicate (Int.toNat 40) xs).flatten) p3 = some (.lst (List.replicate 40 xs).flatten) := upd_same
      generalize upd H3 p3 (.lst (List.replicate (Int.toNat 40) xs).flatten) = H4 at S3 E3 ⊢
      refine ⟨_, SqL.of E3, fun p4 h4 => ?_⟩
      rw [cut40]
      have S4 := same_upd (o := .lst (List.take 40 (List.replicate 40 xs).flatten)) h4
      have E4 : upd H4 p4 (.lst (List.take 40 (List.replicate 40 xs).flatten)) p4 = some (.lst (rep40 xs)) := upd_same
      generalize upd H4 p4 (.lst (List.take 40 (List.replicate 40 xs).flatten)) = H5 at S4 E4 ⊢
      refine ⟨sz100 (by decide), fun p5 h5 => ?_⟩
      have S5 := same_upd (o := .tup [V.ref p4, optV g0.life]) h5
      have E5 : upd H5 p5 (.tup [V.ref p4, optV g0.life]) p5 = some (.tup [V.ref p4, optV g0.life]) := upd_same
      generalize upd H5 p5 (.tup [V.ref p4, optV g0.life]) = H6 at S5 E5 ⊢
      have s36 := S3.trans (S4.trans S5)
      have hD4 : p4 ≠ D := fun z => by rw [z, S3 _ _ hacc] at h4; cases h4
      have hD5 : p5 ≠ D := fun z => by rw [z, (S3.trans S4) _ _ hacc] at h5; cases h5
      refine hR _ _ s36 (.tup (newBut_at rfl hD5 hD5 E5) (.cons (.lst (newBut_at rfl hD4 hD4 (S5 _ _ E4)) ?_) (.cons (Tk.optV g0.life) .nil)))
      show TkAll _ (rep40 xs) ((rep40 g0.days).map dayD)
      rw [← rep40_map]
      exact ((hxs.same (but_same (s03.trans s36) hD0)).rep 40).take 40
    · refine ⟨sz100 (by decide), fun p hp => ?_⟩
      have S6 := same_upd (o := .tup [V.ref p2, optV b.bound, V.ref D]) hp
      refine q _ _ ((S02.trans s3).trans S6) (.tup upd_same (.cons (.lst (S6 _ _ (s3 _ _ E2)) ?_) (.cons (Tk.optV b.bound) (.cons (.lst (S6 _ _ ea) (ta.same ?_)) .nil))))
      · show TkAll _ (rep40 xl) ((rep40 b.lights).map PyData.int)
        rw [← rep40_map]
        exact ((hla.same ((S02.trans s3).trans S6)).rep 40).take 40
      · exact (newBut_same _ _ _ _).trans ((newOf_same _ _).trans S6)
end
end Bk

namespace Bk
open PySem PySem.Spec PyProof.Rows L2
local macro_rules | `(tactic| walk_at "wp") => `(tactic| try simp only [rSorLL_r, rMin4_r, tLc2_eq, tAugS, rNinr_r, rNeN_r, rCatL_r, rSlT_r, rListOf_r, rIsB_b, rNotB_b, tFmtO, tJs, tOst, tCallS, WE, tRaise2, rOne_i, rSorD_r, tDNewK, Int.zero_add, tNever, tFor_eq, tLc_eq, iList, iTup, iRng1_eq, rRng1_i, iRng2_eq, rRng2_i, iEnum_eq, rEnum_r, iZip_eq, rZip_r, tSl, tPart, tNoPart, rSlL_r, rCat_r, rIn_r, rNin_r, rRepr_r, iRevR, rMin_r, rShr_i, rOdd_i, rSetL_r, gSub, rRg1_i, rRg2_i, rInr_r, tAug, ipI_ii, tLstRg, tRg1, tRg2, gTup_r, gUnl_r, rInt1_b, rInt1_i, rRep_r, tStep_r, scal, tSeq, tNext, tAsg, tRet, tRetN, tIfS, tDrop, tCB, tCons, tNil, tVar, tOp, tUn, tC, rU_i, rI_ii, rI0_ii, rEq, rNe, tTest, tB, tAnd, tOr, tNot, tAndV, tOrV, tNotV, tIf, tChain, tLst, tTup, tBM, tBM0, rAppend_r, rIxL_r, rIxT_r, rMx_ii, rMn_ii, rLnL_r, rLnT_r, rIsD_int, rIsD_bool, rIsD_list, rIsD_tuple, tCall, gName, gNil_n, gCons_c, cxK, L2.start, List.map, List.replicate, List.length_cons, List.length_nil, List.cons_append, List.nil_append, List.append_nil, List.getElem?_cons_zero, List.getElem?_cons_succ, Option.some.injEq, exists_eq_left', exists_eq_left, V.int.injEq, V.bl.injEq, V.str.injEq, V.ref.injEq, List.cons.injEq, and_true, true_and, and_self, List.set, wipe, rAll_r, rSum_r, reduceCtorEq, decide_true, decide_false, reduceIte, ite_true, ite_false, if_true, if_false, Bool.false_eq_true, Bool.not_true, Bool.not_false])
local macro_rules | `(tactic| walk_at "shaped") => `(tactic| (simp only [tLc2_eq, tAugS, SeqAt.shaped, PyData.canLay0, PyData.canLayAll0, PyData.depth, PyData.depthAll]; rfl))
local macro_rules | `(tactic| walk_at "lay") => `(tactic| (simp only [tLc2_eq, tAugS, PyData.canLay0, PyData.canLayAll0]; rfl))
local macro_rules | `(tactic| walk_at "wg") => `(tactic| try simp only [gName, gTup_r, gCons_c, gNil_n, cxK, List.set, List.cons.injEq, and_true, true_and, exists_eq_left', exists_eq_left, List.length_cons, List.length_nil])
section
variable {P : Program} {w : World} {K : PySem.W.Frag} {mg : Str → Option Value} {base : Heap}
abbrev s_law : Stmt := top 45
theorem sc_law : FnScope ["_law_script", "_law_bakery", "_law_many", "_law_digits", "_law_longer_here", "_law_dark_here", "_law_at", "_law_cell", "_law_day_here"] ["_law_script"] (defScope s_law) := ⟨rfl, rfl, rfl, by decide +kernel, rfl, by decide +kernel, by decide +kernel⟩
theorem isFs_uniq {W : List Tr} {rs : List Int} {o p : Option (Nat × Nat)} (h1 : IsFs W rs o) (h2 : IsFs W rs p) : o = p := by
  match o, p, h1, h2 with
  | none, none, _, _ => rfl
  | none, some (f, l), h1, ⟨a, ⟨b, c, d, _⟩, _⟩ => exact absurd d (h1 f a l b c)
  | some (f, l), none, ⟨a, ⟨b, c, d, _⟩, _⟩, h1 => exact absurd d (h1 f a l b c)
  | some (f, l), some (g, m), ⟨a, ⟨b, c, d, e⟩, k⟩, ⟨a2, ⟨b2, c2, d2, e2⟩, k2⟩ =>
    have : f = g := by
      rcases Nat.lt_trichotomy f g with z | z | z
      · exact absurd d (k2 f z l b c)
      · exact z
      · exact absurd d2 (k g z m b2 c2)
    subst this
    have : l = m := by
      rcases Nat.lt_trichotomy l m with z | z | z
      · exact absurd d (e2 l b z)
      · exact z
      · exact absurd d2 (e m b2 z)
    subst this
    rfl
theorem none_is {b : Bak} {ds : List Int} {o : Option (Nat × Nat)} {H : Hp} {y : V} {c : Bool} (hy : stV o H y) (ho : IsTm b ds o) (hc : c = true ↔ IsTm b ds none) : decide (y = V.non) = c := by
  match o, hy with
  | none, hy =>
    rw [show y = V.non from hy, hc.mpr ho]
    rfl
  | some (f, l), ⟨p, e, _⟩ =>
    rw [e]
    have : ¬ c = true := fun z => by
      have := isFs_uniq (show IsFs (wantsB b) (roomsL b ds) (some (f, l)) from ho) (hc.mp z)
      cases this
    rw [Bool.not_eq_true] at this
    rw [this]
    rfl
theorem bitAnd_nat (m n : Nat) : ∃ k : Nat, Builtin.bitAnd (m : Int) (n : Int) = (k : Int) := by
  refine ⟨m &&& n, ?_⟩
  unfold Builtin.bitAnd
  simp
def L45 (v0 v1 v2 v4 : V) (H : Hp) (_ : Nat) (σ : L2.St) (H' : Hp) : Prop := (∃ y3 y5 y6 y7 y8, σ = [some v0, some v1, some v2, y3, some v4, y5, y6, y7, y8]) ∧ Same H H'
def spLaw (K : PySem.W.Frag) : Sp := fun vs H Q _ => ∃ (a : Addr) (ns : List Int), vs = [.ref a] ∧ SqL K H a (ns.map V.int) ∧ ns.length ≤ 63 ∧ ∀ H', Q (.bl true) H'
theorem ok_law {f : Addr} {fd : FuncData} (F : Fun K "law" "law" s_law f fd) (B : Bi mg) (D_two : Def P w K mg base "_law_two" 3 ["_law_script", "_law_upto", "_law_salt"] (spTwo K)) (D_numbers : Def P w K mg base "_law_numbers" 1 ["_law_cell", "_law_salt", "_law_sizes"] (spNumbers K)) (D_cell_at : Def P w K mg base "_law_cell_at" 1 ["_law_script", "_law_k"] (spCellAt K)) (D_longer : Def P w K mg base "_law_longer" 1 ["_law_bakery"] (spLonger K)) (D_too_much : Def P w K mg base "too_much" 7 ["bakery", "dark"] (spTm K)) (D_goes : Def P w K mg base "_law_goes" 3 ["_law_bakery", "_law_dark_here"] (spGoes K)) (D_dark : Def P w K mg base "_law_dark" 1 ["_law_digit", "_law_many"] (spDark K)) : FnOk P w K mg base CX0 8 f fd ["_law_script"] (spLaw K) := by
  refine F.ok sc_law (fun vs H Q E h => ?_) (fun cdv A outer s H vs Q E hr h => ?_)
  · obtain ⟨a, ns, rfl, _⟩ := h
    rfl
  · obtain ⟨a, ns, rfl, hS, hlen, q⟩ := h
    refine ⟨_, (pss_cons (ps_set (i := 1) sc_law.nd rfl (Or.inl rfl) (pe_callD D_two hr (by rfl) (pa_cons (pv 0) (pa_cons pe_int (pa_cons pe_int pa_nil)))))
 (pss_cons (ps_set (i := 2) sc_law.nd rfl (Or.inl rfl) (pe_callB call_lnL (by rfl) B.len (by decide +kernel) (pa_cons (pe_ix ix_tup (pv 1) pe_int (fun _ _ => rfl)) pa_nil)))
 (pss_cons (ps_set (i := 3) sc_law.nd rfl (Or.inr rfl) (pe_callD D_numbers hr (by rfl) (pa_cons (pe_callD D_cell_at hr (by rfl) (pa_cons (pv 0) (pa_cons pe_int pa_nil))) (pa_cons pe_int (pa_cons (pe_op op_rep (pe_lst (pa_cons pe_int pa_nil)) pe_int) pa_nil)))))
 (pss_cons (ps_set (i := 4) sc_law.nd rfl (Or.inl rfl) (pe_callD D_longer hr (by rfl) (pa_cons (pv 1) pa_nil)))
 (pss_cons (ps_setLc (i := 5) (own := [("_law_day_here", 8)]) (g := (gName 8)) (tt := (tTest (tOp _ (tOp _ (tOp (rIxL K) _ _) (tOp (rIxL K) _ _)) _))) rfl sc_law.nd rfl rfl (sw_true rfl rfl rfl (by decide +kernel)) (pi_range1 (by rfl) B.range (pa_cons pe_int pa_nil)) (blkOk_by (own := [("_law_day_here", 8)]) (N := ["_law_script", "_law_bakery", "_law_many", "_law_digits", "_law_longer_here", "_law_dark_here", "_law_at", "_law_cell", "_law_day_here"]) (sc := defScope s_law) (by decide +kernel)) (fun _ _ _ _ _ => (pg_name (i := 8) sc_law.nd rfl (Or.inl rfl))) (fun _ _ _ _ _ => (pts_one (pt_cmpR op_eq (pe_op op_mul (pe_ix ix_list (pv 3) (pv 8) (fun _ _ => rfl)) (pe_ix ix_list (pv 3) (pe_op op_fdivW (pv 8) pe_int) (fun _ _ => rfl))) pe_int (nomark _)))) (fun _ _ _ _ _ => (pv 8)))
 (pss_cons (ps_if (pt_cmpR op_ne (pe_cmpR op_isN (pe_callD D_too_much hr (by rfl) (pa_cons (pv 4) (pa_cons (pv 5) pa_nil))) pe_non (nomark _)) (pe_callD D_goes hr (by rfl) (pa_cons (pv 4) (pa_cons (pv 5) pa_nil))) (nomark _)) (pss_one (ps_ret pe_bl)) pss_nil)
 (pss_cons (ps_for PassesOwn.never rfl (pi_enum (by rfl) B.enumerate (pa_cons (pe_op op_cat (pe_lst (pa_cons pe_int pa_nil)) (pe_slice sl_list (pv 0) (po_some pe_int) (po_some pe_int))) pa_nil)) (pg_tup rfl (pgs_cons (pg_name (i := 6) sc_law.nd rfl (Or.inl rfl)) (pgs_cons (pg_name (i := 7) sc_law.nd rfl (Or.inl rfl)) pgs_nil))) (pss_cons (ps_set (i := 3) sc_law.nd rfl (Or.inr rfl) (pe_callD D_numbers hr (by rfl) (pa_cons (pv 7) (pa_cons (pe_op op_add pe_int (pv 6)) (pa_cons (pe_lst (pa_cons pe_int (pa_cons pe_int (pa_cons pe_int pa_nil)))) pa_nil)))))
 (pss_cons (ps_set (i := 5) sc_law.nd rfl (Or.inl rfl) (pe_callD D_dark hr (by rfl) (pa_cons (pe_ix ix_list (pe_lst (pa_cons (pe_ix ix_list (pv 3) pe_int (fun _ _ => rfl)) (pa_cons (pe_op op_and (pe_ix ix_list (pv 3) pe_int (fun _ _ => rfl)) (pe_ix ix_list (pv 3) pe_int (fun _ _ => rfl))) (pa_cons pe_int (pa_cons (pe_op op_oneK pe_int (pe_op op_mod (pe_ix ix_list (pv 3) pe_int (fun _ _ => rfl)) pe_int)) pa_nil))))) (pe_ix ix_list (pv 3) pe_int (fun _ _ => rfl)) (fun _ _ => rfl)) (pa_cons (pv 2) pa_nil))))
 (pss_one (ps_if (pt_cmpR op_ne (pe_cmpR op_isN (pe_callD D_too_much hr (by rfl) (pa_cons (pv 1) (pa_cons (pv 5) pa_nil))) pe_non (nomark _)) (pe_callD D_goes hr (by rfl) (pa_cons (pv 1) (pa_cons (pv 5) pa_nil))) (nomark _)) (pss_one (ps_ret pe_bl)) pss_nil)))))
 (pss_one (ps_ret pe_bl))))))))), ?_⟩
    walk_at "wp"
    refine ⟨a, ns, 17, 4500, rfl, hS, hlen, by decide, by decide, by decide, fun H1 x b S1 hx hb hbl => ?_⟩
    have hk := hx.same (newOf_same _ _)
    obtain ⟨⟨c1, c2⟩, c3, c4, ⟨c5, c6⟩, c7⟩ := bak_parts hb
    have hxT := hk.th (K := K)
    obtain ⟨ab, l, v2, ga, xl, xg, rfl, ht, hl, hla, h2, hgl, hga⟩ := Th.bak (hk.th (K := K))
    have lenL : xl.length = b.lights.length := by rw [hla.length, List.length_map]
    walk_at "wp"
    refine ⟨_, _, ht, atI_nat (j := 0) rfl, ?_⟩
    walk_at "wp"
    refine ⟨_, hl, ?_⟩
    rw [lenL]
    refine ⟨a, ns, 1, rfl, S1.seq hS, fun c => ⟨sz100 (by decide), fun p1 n1 => ?_⟩⟩
    have R1 := same_upd (o := .lst [V.int 2]) n1
    have G1 : upd H1 p1 (.lst [V.int 2]) p1 = some (.lst [V.int 2]) := upd_same
    generalize upd H1 p1 (.lst [V.int 2]) = J1 at R1 G1 ⊢
    refine ⟨_, G1, by decide, by decide, sz100 (by decide), fun p2 n2 => ?_⟩
    rw [show (List.replicate (Int.toNat 40) [V.int 2]).flatten = (List.replicate 40 (2 : Int)).map V.int from rfl]
    have R2 := same_upd (o := .lst ((List.replicate 40 (2 : Int)).map V.int)) n2
    have G2 : upd J1 p2 (.lst ((List.replicate 40 (2 : Int)).map V.int)) p2 = some (.lst ((List.replicate 40 (2 : Int)).map V.int)) := upd_same
    generalize upd J1 p2 (.lst ((List.replicate 40 (2 : Int)).map V.int)) = J2 at R2 G2 ⊢
    refine ⟨c, 4590, p2, List.replicate 40 2, rfl, SqL.of G2, by decide, by decide, by rw [List.length_replicate]; decide, fun z hz => by rw [(List.mem_replicate.mp hz).2]; decide, fun H2 pd fs S2 hpd hD hfs => ?_⟩
    have S2 := R1.trans (R2.trans S2)
    have hfl : fs.length = 40 := hD.1.trans (by rw [List.length_replicate])
    have hfb : ∀ k, k < 40 → ∃ f : Int, fs[k]? = some f ∧ 0 ≤ f ∧ f < 2 := fun k hk => by
      have h1 : fs[k]? = some (fs[k]'(by omega)) := List.getElem?_eq_getElem (by omega)
      have h2 := hD.2 k _ 2 h1 (by rw [List.getElem?_replicate, if_pos hk])
      exact ⟨_, h1, h2⟩
    walk_at "wp"
    refine ⟨_, b, rfl, hk.same S2, hb, fun H3 yw S3 hyw => ?_⟩
    walk_at "wp"
    refine ⟨by decide, by decide, fun D hD0 => ?_⟩
    rw [show Int.toNat 40 = 40 from rfl]
    have hbl2 := longB_ok hb
    have hl40 : (longB b).lights.length = 40 := rep40_length c1
    refine LcR.by walk_range (fun i H' => Same H3 H' ∧ ∃ ds : List Int, H' D = some (.lst (ds.map V.int)) ∧ ds.length ≤ i ∧ (∀ d ∈ ds, 0 ≤ d ∧ d < (i : Int)) ∧ Rising ds) ⟨same_upd hD0, [], upd_same, Nat.le_refl _, (fun _ h => nomatch h), trivial⟩ (fun _ _ _ _ => trivial) (fun i v H0 H4 hi hI yy => ?_) (fun H4 hI => ?_)
    · obtain ⟨rfl, rfl⟩ := yy
      obtain ⟨S4, ds, ea, h1, h2, h3⟩ := hI
      obtain ⟨f1, e1, k1, k2⟩ := hfb i hi
      obtain ⟨f2, e2, k3, k4⟩ := hfb (i / 2) (by omega)
      have sq := (S3.trans S4).seq (SqL.of (K := K) hfs)
      walk_at "wp"
      refine ⟨_, _, sq, atI_nat (by rw [List.getElem?_map, e1]; rfl), ?_⟩
      walk_at "wp"
      refine ⟨⟨by decide, by decide +kernel⟩, ?_⟩
      rw [show ((i : Int) / 2) = ((i / 2 : Nat) : Int) by omega]
      refine ⟨_, _, sq, atI_nat (by rw [List.getElem?_map, e2]; rfl), ?_⟩
      walk_at "wp"
      refine ⟨.inl ⟨by omega, by omega⟩, ite2 (fun h => ?_) (fun h => ?_)⟩
      · refine ⟨_, ea, sz100l (by rw [List.length_map]; omega), same_mut S4 hD0, ds ++ [(i : Int)], by rw [upd_same, List.map_append]; rfl, by rw [List.length_append, List.length_singleton]; omega, fun d hd => ?_, rising_snoc h3 fun y hy => (h2 y hy).2⟩
        rcases List.mem_append.mp hd with hd | hd
        · have := h2 d hd
          omega
        · rw [List.mem_singleton.mp hd]
          omega
      · exact ⟨S4, ds, ea, by omega, fun d hd => by have := h2 d hd; omega, h3⟩
    · obtain ⟨S4, ds, ea, h1, h2, h3⟩ := hI
      have hdk : DarkOk ds (longB b).lights.length := by
        rw [hl40]
        exact ⟨by omega, h2, h3⟩
      have hyT := (hyw.same S4).th (K := K)
      refine ⟨_, longB b, D, ds, rfl, hyT, hbl2, SqL.of ea, hdk, fun H5 o y S5 ho hy => ?_⟩
      walk_at "wp"
      refine ⟨_, longB b, D, ds, rfl, hyT.same S5, hbl2, SqL.of (S5 _ _ ea), hdk, fun H6 cc S6 hc => ?_⟩
      rw [none_is hy ho hc]
      walk_at "wp"
      have S16 := S2.trans (S3.trans (S4.trans (S5.trans S6)))
      refine ⟨sz100 (by decide), fun q1 h1 => ⟨_, (S1.trans (S16.trans (same_upd h1))).seq hS, fun q2 h2 => ?_⟩⟩
      rw [show cutV (ns.map V.int) (some 17) (some 37) = ((ns.drop 17).take 20).map V.int by rw [List.map_take, List.map_drop]; exact cutV_nat _ 17 37]
      obtain ⟨cs, hcs, hcl⟩ : ∃ cs : List Int, (ns.drop 17).take 20 = cs ∧ cs.length ≤ 20 := ⟨_, rfl, by rw [List.length_take]; omega⟩
      rw [hcs]
      have R1 := same_upd (o := .lst [V.int 3]) h1
      have G1 : upd H6 q1 (.lst [V.int 3]) q1 = some (.lst [V.int 3]) := upd_same
      generalize upd H6 q1 (.lst [V.int 3]) = J1 at R1 G1 h2 ⊢
      have R2 := same_upd (o := .lst (cs.map V.int)) h2
      have G2 : upd J1 q2 (.lst (cs.map V.int)) q2 = some (.lst (cs.map V.int)) := upd_same
      generalize upd J1 q2 (.lst (cs.map V.int)) = J2 at R2 G2 ⊢
      refine ⟨_, _, R2 _ _ G1, G2, sz100 (by rw [List.length_map]; show 1 + cs.length ≤ 100000; omega), fun q3 h3 => ?_⟩
      have R3 := same_upd (o := .lst ([V.int 3] ++ cs.map V.int)) h3
      have G3 : upd J2 q3 (.lst ([V.int 3] ++ cs.map V.int)) q3 = some (.lst ((3 :: cs).map V.int)) := upd_same
      generalize upd J2 q3 (.lst ([V.int 3] ++ cs.map V.int)) = J3 at R3 G3 ⊢
      have S13 := S16.trans (R1.trans (R2.trans R3))
      have hx3 := hxT.same S13
      refine ⟨_, SqL.of G3, LoopR.by (walk_enum (xs := (3 :: cs).map V.int)) (L45 (.ref a) (.ref ab) (.int (b.lights.length : Int)) yw J3) ⟨⟨_, _, _, _, _, rfl⟩, Same.refl _⟩ (fun i σ H' _ hI => hI.2.seq (SqL.of G3)) (fun i v σ H0 H7 hi hI hY => ?_) (fun σ H7 hI => ?_)⟩
      rotate_left
      · exact q _
      obtain ⟨⟨y3, y5, y6, y7, y8, rfl⟩, S0⟩ := hI
      have S7 := S0.trans (ypair_same hY)
      obtain ⟨T, z1, z2, rfl, hT, rfl, e1, e2⟩ := hY
      cases e1
      have e2 : ((3 :: cs).map V.int)[i]? = some z2 := e2
      rw [List.length_map] at hi
      have hi' : i < cs.length + 1 := hi
      obtain ⟨c, rfl⟩ : ∃ c : Int, z2 = .int c := by
        rw [List.getElem?_map, List.getElem?_eq_getElem hi] at e2
        exact ⟨_, (Option.some.inj e2).symm⟩
      walk_at "wp"
      refine ⟨_, SqT.of upd_same, rfl, ?_⟩
      generalize upd H0 T (.tup [V.int (i : Int), V.int c]) = H8 at S7 ⊢
      walk_at "wp"
      refine ⟨sz100 (by decide), fun r1 k1 => ?_⟩
      have Q4 := same_upd (o := .lst [V.int 65536, V.int 65536, V.int 4]) k1
      refine ⟨c, 4520 + (i : Int), r1, [65536, 65536, 4], rfl, SqL.of upd_same, by omega, by omega, by decide, by decide, fun H9 pd fs S9 hpd hD hfs => ?_⟩
      have S79 := S7.trans (Q4.trans S9)
      clear S9 Q4 hpd
      obtain ⟨f0, f1, f2, rfl⟩ : ∃ f0 f1 f2 : Int, fs = [f0, f1, f2] := by
        match fs, hD.1 with
        | [f0, f1, f2], _ => exact ⟨_, _, _, rfl⟩
      have b0 := hD.2 0 f0 _ rfl rfl
      have b1 := hD.2 1 f1 _ rfl rfl
      have b2 := hD.2 2 f2 _ rfl rfl
      obtain ⟨m0, rfl⟩ : ∃ m : Nat, f0 = (m : Int) := ⟨f0.toNat, by omega⟩
      obtain ⟨m1, rfl⟩ : ∃ m : Nat, f1 = (m : Int) := ⟨f1.toNat, by omega⟩
      obtain ⟨m2, hm2⟩ := bitAnd_nat m0 m1
      walk_at "wp"
      refine ⟨_, _, SqL.of hfs, atI_nat (j := 0) rfl, _, _, SqL.of hfs, atI_nat (j := 0) rfl, _, _, SqL.of hfs, atI_nat (j := 1) rfl, ?_⟩
      walk_at "wp"
      rw [hm2]
      refine ⟨_, _, SqL.of hfs, atI_nat (j := 1) rfl, ?_⟩
      walk_at "wp"
      refine ⟨by decide, m1 % 16, by omega, by omega, ?_⟩
      rw [show ((2 : Int) ^ (m1 % 16)) = ((2 ^ (m1 % 16) : Nat) : Int) by simp]
      generalize 2 ^ (m1 % 16) = m3
      refine ⟨sz100 (by decide), fun p6 n6 => ?_⟩
      have Q6 := same_upd (o := .lst [V.int (m0 : Int), V.int (m2 : Int), V.int 0, V.int (m3 : Int)]) n6
      have E6 : upd H9 p6 (.lst [V.int (m0 : Int), V.int (m2 : Int), V.int 0, V.int (m3 : Int)]) p6 = some (.lst [V.int (m0 : Int), V.int (m2 : Int), V.int 0, V.int (m3 : Int)]) := upd_same
      generalize upd H9 p6 (.lst [V.int (m0 : Int), V.int (m2 : Int), V.int 0, V.int (m3 : Int)]) = H10 at Q6 E6 ⊢
      refine ⟨_, _, SqL.of (Q6 _ _ hfs), atI_nat (j := 2) rfl, ?_⟩
      walk_at "wp"
      obtain ⟨mm, hmm⟩ : ∃ mm : Nat, atI [V.int (m0 : Int), V.int (m2 : Int), V.int 0, V.int (m3 : Int)] f2 = some (.int (mm : Int)) := by
        rcases (show f2 = 0 ∨ f2 = 1 ∨ f2 = 2 ∨ f2 = 3 by omega) with rfl | rfl | rfl | rfl
        · exact ⟨m0, atI_nat (j := 0) rfl⟩
        · exact ⟨m2, atI_nat (j := 1) rfl⟩
        · exact ⟨0, atI_nat (j := 2) rfl⟩
        · exact ⟨m3, atI_nat (j := 3) rfl⟩
      refine ⟨_, _, SqL.of E6, hmm, mm, _, rfl, by omega, fun H11 p7 es S11 h7 hdk2 => ?_⟩
      have S3B := S79.trans (Q6.trans S11)
      have hxB := hx3.same S3B
      refine ⟨_, b, p7, es, rfl, hxB, hb, SqL.of h7, hdk2, fun H12 o2 y2 S12 ho2 hy2 => ?_⟩
      walk_at "wp"
      refine ⟨_, b, p7, es, rfl, hxB.same S12, hb, SqL.of (S12 _ _ h7), hdk2, fun H13 cc2 S13' hc2 => ?_⟩
      rw [none_is hy2 ho2 hc2]
      walk_at "wp"
      exact ⟨⟨_, _, _, _, _, rfl⟩, S3B.trans (S12.trans S13')⟩
end
end Bk

namespace Bk
open PySem PySem.Spec PyProof.Rows L2
theorem all_mk {l : PySem.W.OpenLaw} {w : World} {K : PySem.W.Frag} {h : Heap} {mg : Str → Option Value} {fa f1 f2 f3 f4 f5 f6 f7 f8 f9 f10 f11 f12 f13 f14 f15 f16 f17 f18 f19 f20 f21 f22 f23 f24 f25 f26 f27 f28 f29 f30 f31 f32 f33 : Addr} (X : K.In h) (G : h.Ns mainGlobals mg) (hfa : mg "law" = some (.ref fa))
    {od1 an1 od2 an2 od3 an3 od4 an4 od5 an5 od6 an6 od7 an7 od8 an8 od9 an9 od10 an10 od11 an11 od12 an12 od13 an13 od14 an14 od15 an15 od16 an16 od17 an17 od18 an18 od19 an19 od20 an20 od21 an21 od22 an22 od23 an23 od24 an24 od25 an25 od26 an26 od27 an27 od28 an28 od29 an29 od30 an30 od31 an31 od32 an32 od33 an33 : Option Addr} {sl1 sl2 sl3 sl4 sl5 sl6 sl7 sl8 sl9 sl10 sl11 sl12 sl13 sl14 sl15 sl16 sl17 sl18 sl19 sl20 sl21 sl22 sl23 sl24 sl25 sl26 sl27 sl28 sl29 sl30 sl31 sl32 sl33 : Array (Option Value)} {oc1 kV1 dc1 pm1 cd1 ct1 oc2 kV2 dc2 pm2 cd2 ct2 oc3 kV3 dc3 pm3 cd3 ct3 oc4 kV4 dc4 pm4 cd4 ct4 oc5 kV5 dc5 pm5 cd5 ct5 oc6 kV6 dc6 pm6 cd6 ct6 oc7 kV7 dc7 pm7 cd7 ct7 oc8 kV8 dc8 pm8 cd8 ct8 oc9 kV9 dc9 pm9 cd9 ct9 oc10 kV10 dc10 pm10 cd10 ct10 oc11 kV11 dc11 pm11 cd11 ct11 oc12 kV12 dc12 pm12 cd12 ct12 oc13 kV13 dc13 pm13 cd13 ct13 oc14 kV14 dc14 pm14 cd14 ct14 oc15 kV15 dc15 pm15 cd15 ct15 oc16 kV16 dc16 pm16 cd16 ct16 oc17 kV17 dc17 pm17 cd17 ct17 oc18 kV18 dc18 pm18 cd18 ct18 oc19 kV19 dc19 pm19 cd19 ct19 oc20 kV20 dc20 pm20 cd20 ct20 oc21 kV21 dc21 pm21 cd21 ct21 oc22 kV22 dc22 pm22 cd22 ct22 oc23 kV23 dc23 pm23 cd23 ct23 oc24 kV24 dc24 pm24 cd24 ct24 oc25 kV25 dc25 pm25 cd25 ct25 oc26 kV26 dc26 pm26 cd26 ct26 oc27 kV27 dc27 pm27 cd27 ct27 oc28 kV28 dc28 pm28 cd28 ct28 oc29 kV29 dc29 pm29 cd29 ct29 oc30 kV30 dc30 pm30 cd30 ct30 oc31 kV31 dc31 pm31 cd31 ct31 oc32 kV32 dc32 pm32 cd32 ct32 oc33 kV33 dc33 pm33 cd33 ct33 : Value} {tk_GREATEST tk_MOST_DAYS tk_MOST_GOODS tk_LONGEST_LIFE : Tok}
    (a1 : PySem.W.nsIn K mainGlobals "is_whole" = some (some (.ref f1))) (l1 : K.lookup f1 = some ⟨oc1, od1, .func (PySem.W.fnOf "is_whole" "is_whole" (defArgs s_is_whole) (defBody s_is_whole) (defScope s_is_whole) .none kV1 dc1 pm1 an1 cd1 ct1), sl1⟩) (c1 : PySem.W.codeIn K cd1 "is_whole" = true) (k1 : PySem.W.keepIn K (.ref f1) = true)
    (a2 : PySem.W.nsIn K mainGlobals "is_number" = some (some (.ref f2))) (l2 : K.lookup f2 = some ⟨oc2, od2, .func (PySem.W.fnOf "is_number" "is_number" (defArgs s_is_number) (defBody s_is_number) (defScope s_is_number) .none kV2 dc2 pm2 an2 cd2 ct2), sl2⟩) (c2 : PySem.W.codeIn K cd2 "is_number" = true) (k2 : PySem.W.keepIn K (.ref f2) = true)
    (a3 : PySem.W.nsIn K mainGlobals "is_tuple_of" = some (some (.ref f3))) (l3 : K.lookup f3 = some ⟨oc3, od3, .func (PySem.W.fnOf "is_tuple_of" "is_tuple_of" (defArgs s_is_tuple_of) (defBody s_is_tuple_of) (defScope s_is_tuple_of) .none kV3 dc3 pm3 an3 cd3 ct3), sl3⟩) (c3 : PySem.W.codeIn K cd3 "is_tuple_of" = true) (k3 : PySem.W.keepIn K (.ref f3) = true)
    (a4 : PySem.W.nsIn K mainGlobals "is_list_of" = some (some (.ref f4))) (l4 : K.lookup f4 = some ⟨oc4, od4, .func (PySem.W.fnOf "is_list_of" "is_list_of" (defArgs s_is_list_of) (defBody s_is_list_of) (defScope s_is_list_of) .none kV4 dc4 pm4 an4 cd4 ct4), sl4⟩) (c4 : PySem.W.codeIn K cd4 "is_list_of" = true) (k4 : PySem.W.keepIn K (.ref f4) = true)
    (a5 : PySem.W.nsIn K mainGlobals "are_lights" = some (some (.ref f5))) (l5 : K.lookup f5 = some ⟨oc5, od5, .func (PySem.W.fnOf "are_lights" "are_lights" (defArgs s_are_lights) (defBody s_are_lights) (defScope s_are_lights) .none kV5 dc5 pm5 an5 cd5 ct5), sl5⟩) (c5 : PySem.W.codeIn K cd5 "are_lights" = true) (k5 : PySem.W.keepIn K (.ref f5) = true)
    (a6 : PySem.W.nsIn K mainGlobals "is_bound" = some (some (.ref f6))) (l6 : K.lookup f6 = some ⟨oc6, od6, .func (PySem.W.fnOf "is_bound" "is_bound" (defArgs s_is_bound) (defBody s_is_bound) (defScope s_is_bound) .none kV6 dc6 pm6 an6 cd6 ct6), sl6⟩) (c6 : PySem.W.codeIn K cd6 "is_bound" = true) (k6 : PySem.W.keepIn K (.ref f6) = true)
    (a7 : PySem.W.nsIn K mainGlobals "is_life" = some (some (.ref f7))) (l7 : K.lookup f7 = some ⟨oc7, od7, .func (PySem.W.fnOf "is_life" "is_life" (defArgs s_is_life) (defBody s_is_life) (defScope s_is_life) .none kV7 dc7 pm7 an7 cd7 ct7), sl7⟩) (c7 : PySem.W.codeIn K cd7 "is_life" = true) (k7 : PySem.W.keepIn K (.ref f7) = true)
    (a8 : PySem.W.nsIn K mainGlobals "is_day" = some (some (.ref f8))) (l8 : K.lookup f8 = some ⟨oc8, od8, .func (PySem.W.fnOf "is_day" "is_day" (defArgs s_is_day) (defBody s_is_day) (defScope s_is_day) .none kV8 dc8 pm8 an8 cd8 ct8), sl8⟩) (c8 : PySem.W.codeIn K cd8 "is_day" = true) (k8 : PySem.W.keepIn K (.ref f8) = true)
    (a9 : PySem.W.nsIn K mainGlobals "has_bakery_form" = some (some (.ref f9))) (l9 : K.lookup f9 = some ⟨oc9, od9, .func (PySem.W.fnOf "has_bakery_form" "has_bakery_form" (defArgs s_has_bakery_form) (defBody s_has_bakery_form) (defScope s_has_bakery_form) .none kV9 dc9 pm9 an9 cd9 ct9), sl9⟩) (c9 : PySem.W.codeIn K cd9 "has_bakery_form" = true) (k9 : PySem.W.keepIn K (.ref f9) = true)
    (a10 : PySem.W.nsIn K mainGlobals "has_good_form" = some (some (.ref f10))) (l10 : K.lookup f10 = some ⟨oc10, od10, .func (PySem.W.fnOf "has_good_form" "has_good_form" (defArgs s_has_good_form) (defBody s_has_good_form) (defScope s_has_good_form) .none kV10 dc10 pm10 an10 cd10 ct10), sl10⟩) (c10 : PySem.W.codeIn K cd10 "has_good_form" = true) (k10 : PySem.W.keepIn K (.ref f10) = true)
    (a11 : PySem.W.nsIn K mainGlobals "look_at_goods" = some (some (.ref f11))) (l11 : K.lookup f11 = some ⟨oc11, od11, .func (PySem.W.fnOf "look_at_goods" "look_at_goods" (defArgs s_look_at_goods) (defBody s_look_at_goods) (defScope s_look_at_goods) .none kV11 dc11 pm11 an11 cd11 ct11), sl11⟩) (c11 : PySem.W.codeIn K cd11 "look_at_goods" = true) (k11 : PySem.W.keepIn K (.ref f11) = true)
    (a12 : PySem.W.nsIn K mainGlobals "look_at_bakery" = some (some (.ref f12))) (l12 : K.lookup f12 = some ⟨oc12, od12, .func (PySem.W.fnOf "look_at_bakery" "look_at_bakery" (defArgs s_look_at_bakery) (defBody s_look_at_bakery) (defScope s_look_at_bakery) .none kV12 dc12 pm12 an12 cd12 ct12), sl12⟩) (c12 : PySem.W.codeIn K cd12 "look_at_bakery" = true) (k12 : PySem.W.keepIn K (.ref f12) = true)
    (a13 : PySem.W.nsIn K mainGlobals "is_place" = some (some (.ref f13))) (l13 : K.lookup f13 = some ⟨oc13, od13, .func (PySem.W.fnOf "is_place" "is_place" (defArgs s_is_place) (defBody s_is_place) (defScope s_is_place) .none kV13 dc13 pm13 an13 cd13 ct13), sl13⟩) (c13 : PySem.W.codeIn K cd13 "is_place" = true) (k13 : PySem.W.keepIn K (.ref f13) = true)
    (a14 : PySem.W.nsIn K mainGlobals "look_at_days" = some (some (.ref f14))) (l14 : K.lookup f14 = some ⟨oc14, od14, .func (PySem.W.fnOf "look_at_days" "look_at_days" (defArgs s_look_at_days) (defBody s_look_at_days) (defScope s_look_at_days) .none kV14 dc14 pm14 an14 cd14 ct14), sl14⟩) (c14 : PySem.W.codeIn K cd14 "look_at_days" = true) (k14 : PySem.W.keepIn K (.ref f14) = true)
    (a15 : PySem.W.nsIn K mainGlobals "good_reach" = some (some (.ref f15))) (l15 : K.lookup f15 = some ⟨oc15, od15, .func (PySem.W.fnOf "good_reach" "good_reach" (defArgs s_good_reach) (defBody s_good_reach) (defScope s_good_reach) .none kV15 dc15 pm15 an15 cd15 ct15), sl15⟩) (c15 : PySem.W.codeIn K cd15 "good_reach" = true) (k15 : PySem.W.keepIn K (.ref f15) = true)
    (a16 : PySem.W.nsIn K mainGlobals "reached_wants" = some (some (.ref f16))) (l16 : K.lookup f16 = some ⟨oc16, od16, .func (PySem.W.fnOf "reached_wants" "reached_wants" (defArgs s_reached_wants) (defBody s_reached_wants) (defScope s_reached_wants) .none kV16 dc16 pm16 an16 cd16 ct16), sl16⟩) (c16 : PySem.W.codeIn K cd16 "reached_wants" = true) (k16 : PySem.W.keepIn K (.ref f16) = true)
    (a17 : PySem.W.nsIn K mainGlobals "all_wants" = some (some (.ref f17))) (l17 : K.lookup f17 = some ⟨oc17, od17, .func (PySem.W.fnOf "all_wants" "all_wants" (defArgs s_all_wants) (defBody s_all_wants) (defScope s_all_wants) .none kV17 dc17 pm17 an17 cd17 ct17), sl17⟩) (c17 : PySem.W.codeIn K cd17 "all_wants" = true) (k17 : PySem.W.keepIn K (.ref f17) = true)
    (a18 : PySem.W.nsIn K mainGlobals "room_of_day" = some (some (.ref f18))) (l18 : K.lookup f18 = some ⟨oc18, od18, .func (PySem.W.fnOf "room_of_day" "room_of_day" (defArgs s_room_of_day) (defBody s_room_of_day) (defScope s_room_of_day) .none kV18 dc18 pm18 an18 cd18 ct18), sl18⟩) (c18 : PySem.W.codeIn K cd18 "room_of_day" = true) (k18 : PySem.W.keepIn K (.ref f18) = true)
    (a19 : PySem.W.nsIn K mainGlobals "rooms_beside" = some (some (.ref f19))) (l19 : K.lookup f19 = some ⟨oc19, od19, .func (PySem.W.fnOf "rooms_beside" "rooms_beside" (defArgs s_rooms_beside) (defBody s_rooms_beside) (defScope s_rooms_beside) .none kV19 dc19 pm19 an19 cd19 ct19), sl19⟩) (c19 : PySem.W.codeIn K cd19 "rooms_beside" = true) (k19 : PySem.W.keepIn K (.ref f19) = true)
    (a20 : PySem.W.nsIn K mainGlobals "last_too_much" = some (some (.ref f20))) (l20 : K.lookup f20 = some ⟨oc20, od20, .func (PySem.W.fnOf "last_too_much" "last_too_much" (defArgs s_last_too_much) (defBody s_last_too_much) (defScope s_last_too_much) .none kV20 dc20 pm20 an20 cd20 ct20), sl20⟩) (c20 : PySem.W.codeIn K cd20 "last_too_much" = true) (k20 : PySem.W.keepIn K (.ref f20) = true)
    (a21 : PySem.W.nsIn K mainGlobals "first_stretch" = some (some (.ref f21))) (l21 : K.lookup f21 = some ⟨oc21, od21, .func (PySem.W.fnOf "first_stretch" "first_stretch" (defArgs s_first_stretch) (defBody s_first_stretch) (defScope s_first_stretch) .none kV21 dc21 pm21 an21 cd21 ct21), sl21⟩) (c21 : PySem.W.codeIn K cd21 "first_stretch" = true) (k21 : PySem.W.keepIn K (.ref f21) = true)
    (a22 : PySem.W.nsIn K mainGlobals "too_much" = some (some (.ref f22))) (l22 : K.lookup f22 = some ⟨oc22, od22, .func (PySem.W.fnOf "too_much" "too_much" (defArgs s_too_much) (defBody s_too_much) (defScope s_too_much) .none kV22 dc22 pm22 an22 cd22 ct22), sl22⟩) (c22 : PySem.W.codeIn K cd22 "too_much" = true) (k22 : PySem.W.keepIn K (.ref f22) = true)
    (a23 : PySem.W.nsIn K mainGlobals "_law_cell_at" = some (some (.ref f23))) (l23 : K.lookup f23 = some ⟨oc23, od23, .func (PySem.W.fnOf "_law_cell_at" "_law_cell_at" (defArgs s_cell_at) (defBody s_cell_at) (defScope s_cell_at) .none kV23 dc23 pm23 an23 cd23 ct23), sl23⟩) (c23 : PySem.W.codeIn K cd23 "_law_cell_at" = true) (k23 : PySem.W.keepIn K (.ref f23) = true)
    (a24 : PySem.W.nsIn K mainGlobals "_law_numbers" = some (some (.ref f24))) (l24 : K.lookup f24 = some ⟨oc24, od24, .func (PySem.W.fnOf "_law_numbers" "_law_numbers" (defArgs s_numbers) (defBody s_numbers) (defScope s_numbers) .none kV24 dc24 pm24 an24 cd24 ct24), sl24⟩) (c24 : PySem.W.codeIn K cd24 "_law_numbers" = true) (k24 : PySem.W.keepIn K (.ref f24) = true)
    (a25 : PySem.W.nsIn K mainGlobals "_law_day" = some (some (.ref f25))) (l25 : K.lookup f25 = some ⟨oc25, od25, .func (PySem.W.fnOf "_law_day" "_law_day" (defArgs s_day) (defBody s_day) (defScope s_day) .none kV25 dc25 pm25 an25 cd25 ct25), sl25⟩) (c25 : PySem.W.codeIn K cd25 "_law_day" = true) (k25 : PySem.W.keepIn K (.ref f25) = true)
    (a26 : PySem.W.nsIn K mainGlobals "_law_days" = some (some (.ref f26))) (l26 : K.lookup f26 = some ⟨oc26, od26, .func (PySem.W.fnOf "_law_days" "_law_days" (defArgs s_days) (defBody s_days) (defScope s_days) .none kV26 dc26 pm26 an26 cd26 ct26), sl26⟩) (c26 : PySem.W.codeIn K cd26 "_law_days" = true) (k26 : PySem.W.keepIn K (.ref f26) = true)
    (a27 : PySem.W.nsIn K mainGlobals "_law_two" = some (some (.ref f27))) (l27 : K.lookup f27 = some ⟨oc27, od27, .func (PySem.W.fnOf "_law_two" "_law_two" (defArgs s_two) (defBody s_two) (defScope s_two) .none kV27 dc27 pm27 an27 cd27 ct27), sl27⟩) (c27 : PySem.W.codeIn K cd27 "_law_two" = true) (k27 : PySem.W.keepIn K (.ref f27) = true)
    (a28 : PySem.W.nsIn K mainGlobals "_law_price" = some (some (.ref f28))) (l28 : K.lookup f28 = some ⟨oc28, od28, .func (PySem.W.fnOf "_law_price" "_law_price" (defArgs s_price) (defBody s_price) (defScope s_price) .none kV28 dc28 pm28 an28 cd28 ct28), sl28⟩) (c28 : PySem.W.codeIn K cd28 "_law_price" = true) (k28 : PySem.W.keepIn K (.ref f28) = true)
    (a29 : PySem.W.nsIn K mainGlobals "_law_dark" = some (some (.ref f29))) (l29 : K.lookup f29 = some ⟨oc29, od29, .func (PySem.W.fnOf "_law_dark" "_law_dark" (defArgs s_dark) (defBody s_dark) (defScope s_dark) .none kV29 dc29 pm29 an29 cd29 ct29), sl29⟩) (c29 : PySem.W.codeIn K cd29 "_law_dark" = true) (k29 : PySem.W.keepIn K (.ref f29) = true)
    (a30 : PySem.W.nsIn K mainGlobals "_law_reach" = some (some (.ref f30))) (l30 : K.lookup f30 = some ⟨oc30, od30, .func (PySem.W.fnOf "_law_reach" "_law_reach" (defArgs s_reach) (defBody s_reach) (defScope s_reach) .none kV30 dc30 pm30 an30 cd30 ct30), sl30⟩) (c30 : PySem.W.codeIn K cd30 "_law_reach" = true) (k30 : PySem.W.keepIn K (.ref f30) = true)
    (a31 : PySem.W.nsIn K mainGlobals "_law_goes" = some (some (.ref f31))) (l31 : K.lookup f31 = some ⟨oc31, od31, .func (PySem.W.fnOf "_law_goes" "_law_goes" (defArgs s_goes) (defBody s_goes) (defScope s_goes) .none kV31 dc31 pm31 an31 cd31 ct31), sl31⟩) (c31 : PySem.W.codeIn K cd31 "_law_goes" = true) (k31 : PySem.W.keepIn K (.ref f31) = true)
    (a32 : PySem.W.nsIn K mainGlobals "_law_longer" = some (some (.ref f32))) (l32 : K.lookup f32 = some ⟨oc32, od32, .func (PySem.W.fnOf "_law_longer" "_law_longer" (defArgs s_longer) (defBody s_longer) (defScope s_longer) .none kV32 dc32 pm32 an32 cd32 ct32), sl32⟩) (c32 : PySem.W.codeIn K cd32 "_law_longer" = true) (k32 : PySem.W.keepIn K (.ref f32) = true)
    (a33 : PySem.W.nsIn K mainGlobals "law" = some (some (.ref f33))) (l33 : K.lookup f33 = some ⟨oc33, od33, .func (PySem.W.fnOf "law" "law" (defArgs s_law) (defBody s_law) (defScope s_law) .none kV33 dc33 pm33 an33 cd33 ct33), sl33⟩) (c33 : PySem.W.codeIn K cd33 "law" = true) (k33 : PySem.W.keepIn K (.ref f33) = true)
    (z_len : PySem.W.nsIn K mainGlobals "len" = some none) (z_max : PySem.W.nsIn K mainGlobals "max" = some none) (z_min : PySem.W.nsIn K mainGlobals "min" = some none) (z_range : PySem.W.nsIn K mainGlobals "range" = some none) (z_isinstance : PySem.W.nsIn K mainGlobals "isinstance" = some none) (z_int : PySem.W.nsIn K mainGlobals "int" = some none) (z_bool : PySem.W.nsIn K mainGlobals "bool" = some none) (z_list : PySem.W.nsIn K mainGlobals "list" = some none) (z_tuple : PySem.W.nsIn K mainGlobals "tuple" = some none) (z_all : PySem.W.nsIn K mainGlobals "all" = some none) (z_sum : PySem.W.nsIn K mainGlobals "sum" = some none) (z_repr : PySem.W.nsIn K mainGlobals "repr" = some none) (z_enumerate : PySem.W.nsIn K mainGlobals "enumerate" = some none) (z_sorted : PySem.W.nsIn K mainGlobals "sorted" = some none) (z_zip : PySem.W.nsIn K mainGlobals "zip" = some none) (y_GREATEST : PySem.W.nsIn K mainGlobals "GREATEST" = some (some (.int 1000000000 tk_GREATEST))) (y_MOST_DAYS : PySem.W.nsIn K mainGlobals "MOST_DAYS" = some (some (.int 40 tk_MOST_DAYS))) (y_MOST_GOODS : PySem.W.nsIn K mainGlobals "MOST_GOODS" = some (some (.int 2 tk_MOST_GOODS))) (y_LONGEST_LIFE : PySem.W.nsIn K mainGlobals "LONGEST_LIFE" = some (some (.int 40 tk_LONGEST_LIFE))) :
    ∃ fd : FuncData, (∀ (s : Shared) (v : Value), BindsTo s fd ⟨[v], []⟩ [("_law_script", v)]) ∧ ∀ base : Heap, K.In base → base.Ns mainGlobals mg → FnOk l.prog w K mg base CX0 8 fa fd ["_law_script"] (spLaw K) := by
  have e := hfa.symm.trans (PySem.W.mg_of X G a33)
  cases e
  have F1 := fun_mk (st := s_is_whole) l1 c1 k1
  have b1 := F1.binds (ps := ["thing"]) fun _ _ _ _ _ _ us hl => match us, hl with | [_], _ => rfl
  have F2 := fun_mk (st := s_is_number) l2 c2 k2
  have b2 := F2.binds (ps := ["thing"]) fun _ _ _ _ _ _ us hl => match us, hl with | [_], _ => rfl
  have F3 := fun_mk (st := s_is_tuple_of) l3 c3 k3
  have b3 := F3.binds (ps := ["thing", "many"]) fun _ _ _ _ _ _ us hl => match us, hl with | [_, _], _ => rfl
  have F4 := fun_mk (st := s_is_list_of) l4 c4 k4
  have b4 := F4.binds (ps := ["thing", "fewest", "most"]) fun _ _ _ _ _ _ us hl => match us, hl with | [_, _, _], _ => rfl
  have F5 := fun_mk (st := s_are_lights) l5 c5 k5
  have b5 := F5.binds (ps := ["thing"]) fun _ _ _ _ _ _ us hl => match us, hl with | [_], _ => rfl
  have F6 := fun_mk (st := s_is_bound) l6 c6 k6
  have b6 := F6.binds (ps := ["thing"]) fun _ _ _ _ _ _ us hl => match us, hl with | [_], _ => rfl
  have F7 := fun_mk (st := s_is_life) l7 c7 k7
  have b7 := F7.binds (ps := ["thing"]) fun _ _ _ _ _ _ us hl => match us, hl with | [_], _ => rfl
  have F8 := fun_mk (st := s_is_day) l8 c8 k8
  have b8 := F8.binds (ps := ["thing"]) fun _ _ _ _ _ _ us hl => match us, hl with | [_], _ => rfl
  have F9 := fun_mk (st := s_has_bakery_form) l9 c9 k9
  have b9 := F9.binds (ps := ["thing"]) fun _ _ _ _ _ _ us hl => match us, hl with | [_], _ => rfl
  have F10 := fun_mk (st := s_has_good_form) l10 c10 k10
  have b10 := F10.binds (ps := ["thing", "many"]) fun _ _ _ _ _ _ us hl => match us, hl with | [_, _], _ => rfl
  have F11 := fun_mk (st := s_look_at_goods) l11 c11 k11
  have b11 := F11.binds (ps := ["goods", "many"]) fun _ _ _ _ _ _ us hl => match us, hl with | [_, _], _ => rfl
  have F12 := fun_mk (st := s_look_at_bakery) l12 c12 k12
  have b12 := F12.binds (ps := ["thing"]) fun _ _ _ _ _ _ us hl => match us, hl with | [_], _ => rfl
  have F13 := fun_mk (st := s_is_place) l13 c13 k13
  have b13 := F13.binds (ps := ["thing", "many"]) fun _ _ _ _ _ _ us hl => match us, hl with | [_, _], _ => rfl
  have F14 := fun_mk (st := s_look_at_days) l14 c14 k14
  have b14 := F14.binds (ps := ["bakery", "thing"]) fun _ _ _ _ _ _ us hl => match us, hl with | [_, _], _ => rfl
  have F15 := fun_mk (st := s_good_reach) l15 c15 k15
  have b15 := F15.binds (ps := ["good", "given"]) fun _ _ _ _ _ _ us hl => match us, hl with | [_, _], _ => rfl
  have F16 := fun_mk (st := s_reached_wants) l16 c16 k16
  have b16 := F16.binds (ps := ["good"]) fun _ _ _ _ _ _ us hl => match us, hl with | [_], _ => rfl
  have F17 := fun_mk (st := s_all_wants) l17 c17 k17
  have b17 := F17.binds (ps := ["bakery"]) fun _ _ _ _ _ _ us hl => match us, hl with | [_], _ => rfl
  have F18 := fun_mk (st := s_room_of_day) l18 c18 k18
  have b18 := F18.binds (ps := ["bakery"]) fun _ _ _ _ _ _ us hl => match us, hl with | [_], _ => rfl
  have F19 := fun_mk (st := s_rooms_beside) l19 c19 k19
  have b19 := F19.binds (ps := ["bakery", "dark"]) fun _ _ _ _ _ _ us hl => match us, hl with | [_, _], _ => rfl
  have F20 := fun_mk (st := s_last_too_much) l20 c20 k20
  have b20 := F20.binds (ps := ["wants", "rooms", "first"]) fun _ _ _ _ _ _ us hl => match us, hl with | [_, _, _], _ => rfl
  have F21 := fun_mk (st := s_first_stretch) l21 c21 k21
  have b21 := F21.binds (ps := ["wants", "rooms"]) fun _ _ _ _ _ _ us hl => match us, hl with | [_, _], _ => rfl
  have F22 := fun_mk (st := s_too_much) l22 c22 k22
  have b22 := F22.binds (ps := ["bakery", "dark"]) fun _ _ _ _ _ _ us hl => match us, hl with | [_, _], _ => rfl
  have F23 := fun_mk (st := s_cell_at) l23 c23 k23
  have b23 := F23.binds (ps := ["_law_script", "_law_k"]) fun _ _ _ _ _ _ us hl => match us, hl with | [_, _], _ => rfl
  have F24 := fun_mk (st := s_numbers) l24 c24 k24
  have b24 := F24.binds (ps := ["_law_cell", "_law_salt", "_law_sizes"]) fun _ _ _ _ _ _ us hl => match us, hl with | [_, _, _], _ => rfl
  have F25 := fun_mk (st := s_day) l25 c25 k25
  have b25 := F25.binds (ps := ["_law_digits", "_law_late"]) fun _ _ _ _ _ _ us hl => match us, hl with | [_, _], _ => rfl
  have F26 := fun_mk (st := s_days) l26 c26 k26
  have b26 := F26.binds (ps := ["_law_script", "_law_first", "_law_upto", "_law_salt", "_law_late"]) fun _ _ _ _ _ _ us hl => match us, hl with | [_, _, _, _, _], _ => rfl
  have F27 := fun_mk (st := s_two) l27 c27 k27
  have b27 := F27.binds (ps := ["_law_script", "_law_upto", "_law_salt"]) fun _ _ _ _ _ _ us hl => match us, hl with | [_, _, _], _ => rfl
  have F28 := fun_mk (st := s_price) l28 c28 k28
  have b28 := F28.binds (ps := ["_law_good", "_law_baked", "_law_given"]) fun _ _ _ _ _ _ us hl => match us, hl with | [_, _, _], _ => rfl
  have F29 := fun_mk (st := s_dark) l29 c29 k29
  have b29 := F29.binds (ps := ["_law_digit", "_law_many"]) fun _ _ _ _ _ _ us hl => match us, hl with | [_, _], _ => rfl
  have F30 := fun_mk (st := s_reach) l30 c30 k30
  have b30 := F30.binds (ps := ["_law_good", "_law_given"]) fun _ _ _ _ _ _ us hl => match us, hl with | [_, _], _ => rfl
  have F31 := fun_mk (st := s_goes) l31 c31 k31
  have b31 := F31.binds (ps := ["_law_bakery", "_law_dark_here"]) fun _ _ _ _ _ _ us hl => match us, hl with | [_, _], _ => rfl
  have F32 := fun_mk (st := s_longer) l32 c32 k32
  have b32 := F32.binds (ps := ["_law_bakery"]) fun _ _ _ _ _ _ us hl => match us, hl with | [_], _ => rfl
  have F33 := fun_mk (st := s_law) l33 c33 k33
  have b33 := F33.binds (ps := ["_law_script"]) fun _ _ _ _ _ _ us hl => match us, hl with | [_], _ => rfl
  have B : Bi mg := ⟨PySem.W.mg_none_of X G z_len, PySem.W.mg_none_of X G z_max, PySem.W.mg_none_of X G z_min, PySem.W.mg_none_of X G z_range, PySem.W.mg_none_of X G z_isinstance, PySem.W.mg_none_of X G z_int, PySem.W.mg_none_of X G z_bool, PySem.W.mg_none_of X G z_list, PySem.W.mg_none_of X G z_tuple, PySem.W.mg_none_of X G z_all, PySem.W.mg_none_of X G z_sum, PySem.W.mg_none_of X G z_repr, PySem.W.mg_none_of X G z_enumerate⟩
  have M_GREATEST := PySem.W.mg_of X G y_GREATEST
  have M_MOST_DAYS := PySem.W.mg_of X G y_MOST_DAYS
  have M_MOST_GOODS := PySem.W.mg_of X G y_MOST_GOODS
  have M_LONGEST_LIFE := PySem.W.mg_of X G y_LONGEST_LIFE
  refine ⟨PySem.W.fnOf "law" "law" (defArgs s_law) (defBody s_law) (defScope s_law) .none kV33 dc33 pm33 an33 cd33 ct33, fun s v => .of_eq rfl, fun base _ _ => ?_⟩
  have Bz := PySem.W.mg_none_of X G z_zip
  have Bs := PySem.W.mg_none_of X G z_sorted
  have D1 : Def l.prog w K mg base "is_whole" 1 ["thing"] (spWhole K) := ⟨_, _, PySem.W.mg_of X G a1, k1, b1, ok_is_whole F1 B⟩
  have D2 : Def l.prog w K mg base "is_number" 2 ["thing"] (spNum K) := ⟨_, _, PySem.W.mg_of X G a2, k2, b2, ok_is_number (k := 0) F2 B M_GREATEST D1⟩
  have D3 : Def l.prog w K mg base "is_tuple_of" 1 ["thing", "many"] (spTupleOf K) := ⟨_, _, PySem.W.mg_of X G a3, k3, b3, ok_is_tuple_of F3 B⟩
  have D4 : Def l.prog w K mg base "is_list_of" 1 ["thing", "fewest", "most"] (spListOf K) := ⟨_, _, PySem.W.mg_of X G a4, k4, b4, ok_is_list_of F4 B⟩
  have D5 : Def l.prog w K mg base "are_lights" 3 ["thing"] (spPred K lightsB) := ⟨_, _, PySem.W.mg_of X G a5, k5, b5, ok_are_lights F5 B M_MOST_DAYS D4 D2⟩
  have D6 : Def l.prog w K mg base "is_bound" 3 ["thing"] (spPred K boundB) := ⟨_, _, PySem.W.mg_of X G a6, k6, b6, ok_is_bound F6 D2⟩
  have D7 : Def l.prog w K mg base "is_life" 3 ["thing"] (spPred K lifeB) := ⟨_, _, PySem.W.mg_of X G a7, k7, b7, ok_is_life F7 M_LONGEST_LIFE D1⟩
  have D8 : Def l.prog w K mg base "is_day" 3 ["thing"] (spPred K dayB) := ⟨_, _, PySem.W.mg_of X G a8, k8, b8, ok_is_day F8 B D3 D2⟩
  have D9 : Def l.prog w K mg base "has_bakery_form" 4 ["thing"] (spPred K bakFormB) := ⟨_, _, PySem.W.mg_of X G a9, k9, b9, ok_has_bakery_form F9 D3 D5 D6 D4 M_MOST_GOODS⟩
  have D10 : Def l.prog w K mg base "has_good_form" 4 ["thing", "many"] (spGoodForm K) := ⟨_, _, PySem.W.mg_of X G a10, k10, b10, ok_has_good_form F10 D3 D7 D4⟩
  have D11 : Def l.prog w K mg base "look_at_goods" 5 ["goods", "many"] (spLookGoods K) := ⟨_, _, PySem.W.mg_of X G a11, k11, b11, ok_look_at_goods F11 B D10 D8⟩
  have D12 : Def l.prog w K mg base "look_at_bakery" 6 ["thing"] (spLook K) := ⟨_, _, PySem.W.mg_of X G a12, k12, b12, ok_look_at_bakery F12 B D9 D11⟩
  have D13 : Def l.prog w K mg base "is_place" 2 ["thing", "many"] (spPlace K) := ⟨_, _, PySem.W.mg_of X G a13, k13, b13, ok_is_place F13 D1⟩
  have D14 : Def l.prog w K mg base "look_at_days" 3 ["bakery", "thing"] (spLookD K) := ⟨_, _, PySem.W.mg_of X G a14, k14, b14, ok_look_at_days F14 B Bz D13⟩
  have D15 : Def l.prog w K mg base "good_reach" 1 ["good", "given"] (spGReach K) := ⟨_, _, PySem.W.mg_of X G a15, k15, b15, ok_good_reach F15 B⟩
  have D16 : Def l.prog w K mg base "reached_wants" 2 ["good"] (spRWants K) := ⟨_, _, PySem.W.mg_of X G a16, k16, b16, ok_reached_wants F16 B D15⟩
  have D17 : Def l.prog w K mg base "all_wants" 3 ["bakery"] (spAWants K) := ⟨_, _, PySem.W.mg_of X G a17, k17, b17, ok_all_wants F17 D16⟩
  have D18 : Def l.prog w K mg base "room_of_day" 1 ["bakery"] (spRoom K) := ⟨_, _, PySem.W.mg_of X G a18, k18, b18, ok_room_of_day F18 B⟩
  have D19 : Def l.prog w K mg base "rooms_beside" 2 ["bakery", "dark"] (spRooms K) := ⟨_, _, PySem.W.mg_of X G a19, k19, b19, ok_rooms_beside F19 B D18⟩
  have D20 : Def l.prog w K mg base "last_too_much" 1 ["wants", "rooms", "first"] (spLtm K) := ⟨_, _, PySem.W.mg_of X G a20, k20, b20, ok_last_too_much F20 B⟩
  have D21 : Def l.prog w K mg base "first_stretch" 2 ["wants", "rooms"] (spFs K) := ⟨_, _, PySem.W.mg_of X G a21, k21, b21, ok_first_stretch F21 B D20⟩
  have D22 : Def l.prog w K mg base "too_much" 7 ["bakery", "dark"] (spTm K) := ⟨_, _, PySem.W.mg_of X G a22, k22, b22, ok_too_much F22 D12 D14 D21 D17 D19⟩
  have D23 : Def l.prog w K mg base "_law_cell_at" 1 ["_law_script", "_law_k"] (spCellAt K) := ⟨_, _, PySem.W.mg_of X G a23, k23, b23, ok_cell_at F23 B⟩
  have D24 : Def l.prog w K mg base "_law_numbers" 1 ["_law_cell", "_law_salt", "_law_sizes"] (spNumbers K) := ⟨_, _, PySem.W.mg_of X G a24, k24, b24, ok_numbers F24 B⟩
  have D25 : Def l.prog w K mg base "_law_day" 1 ["_law_digits", "_law_late"] (spDay K) := ⟨_, _, PySem.W.mg_of X G a25, k25, b25, ok_day F25 ⟩
  have D26 : Def l.prog w K mg base "_law_days" 2 ["_law_script", "_law_first", "_law_upto", "_law_salt", "_law_late"] (spDays K) := ⟨_, _, PySem.W.mg_of X G a26, k26, b26, ok_days F26 B D24 D23 D25⟩
  have D27 : Def l.prog w K mg base "_law_two" 3 ["_law_script", "_law_upto", "_law_salt"] (spTwo K) := ⟨_, _, PySem.W.mg_of X G a27, k27, b27, ok_two F27 D24 D23 D26⟩
  have D28 : Def l.prog w K mg base "_law_price" 1 ["_law_good", "_law_baked", "_law_given"] (spLPrice K) := ⟨_, _, PySem.W.mg_of X G a28, k28, b28, ok_price F28 B⟩
  have D29 : Def l.prog w K mg base "_law_dark" 1 ["_law_digit", "_law_many"] (spDark K) := ⟨_, _, PySem.W.mg_of X G a29, k29, b29, ok_dark F29 B⟩
  have D30 : Def l.prog w K mg base "_law_reach" 2 ["_law_good", "_law_given"] (spLReach K) := ⟨_, _, PySem.W.mg_of X G a30, k30, b30, ok_reach F30 B D28⟩
  have D31 : Def l.prog w K mg base "_law_goes" 3 ["_law_bakery", "_law_dark_here"] (spGoes K) := ⟨_, _, PySem.W.mg_of X G a31, k31, b31, ok_goes F31 B Bs D30⟩
  have D32 : Def l.prog w K mg base "_law_longer" 1 ["_law_bakery"] (spLonger K) := ⟨_, _, PySem.W.mg_of X G a32, k32, b32, ok_longer F32 ⟩
  exact ok_law F33 B D27 D24 D23 D32 D22 D31 D29
end Bk
open PySem PySem.W PyProof.Rows
set_option maxHeartbeats 0 in
theorem PySem.Challenge.cw_bakeahead_k45_whole_none_just_where_a_pl_holds : PySem.Challenge.rw_bakeahead_k45_whole_none_just_where_a_pl.Holds := by
  w_on; o_law; k_head; (case hw => w_witness2)
  k_fill
  refine L2.walk_of (l := PySem.Challenge.rw_bakeahead_k45_whole_none_just_where_a_pl) (n := 63) (k := 8) (x := "_law_script") (CX := fun _ => L2.CX0) (sp := fun w => Bk.spLaw _) rfl (by decide) rfl ⟨rfl, by decide, by decide⟩ (fun w h Y => PySem.W.kIn_of Y) ?F (fun _ _ a ns hl _ hS => ⟨a, ns, rfl, hS, hl, fun _ => rfl⟩) (fun _ _ _ _ _ h => h)
  case F =>
    intro w mg fa h KX G hmg
    refine' Bk.all_mk KX G hmg ?a1 ?l1 ?c1 ?k1 ?a2 ?l2 ?c2 ?k2 ?a3 ?l3 ?c3 ?k3 ?a4 ?l4 ?c4 ?k4 ?a5 ?l5 ?c5 ?k5 ?a6 ?l6 ?c6 ?k6 ?a7 ?l7 ?c7 ?k7 ?a8 ?l8 ?c8 ?k8 ?a9 ?l9 ?c9 ?k9 ?a10 ?l10 ?c10 ?k10 ?a11 ?l11 ?c11 ?k11 ?a12 ?l12 ?c12 ?k12 ?a13 ?l13 ?c13 ?k13 ?a14 ?l14 ?c14 ?k14 ?a15 ?l15 ?c15 ?k15 ?a16 ?l16 ?c16 ?k16 ?a17 ?l17 ?c17 ?k17 ?a18 ?l18 ?c18 ?k18 ?a19 ?l19 ?c19 ?k19 ?a20 ?l20 ?c20 ?k20 ?a21 ?l21 ?c21 ?k21 ?a22 ?l22 ?c22 ?k22 ?a23 ?l23 ?c23 ?k23 ?a24 ?l24 ?c24 ?k24 ?a25 ?l25 ?c25 ?k25 ?a26 ?l26 ?c26 ?k26 ?a27 ?l27 ?c27 ?k27 ?a28 ?l28 ?c28 ?k28 ?a29 ?l29 ?c29 ?k29 ?a30 ?l30 ?c30 ?k30 ?a31 ?l31 ?c31 ?k31 ?a32 ?l32 ?c32 ?k32 ?a33 ?l33 ?c33 ?k33 ?z_len ?z_max ?z_min ?z_range ?z_isinstance ?z_int ?z_bool ?z_list ?z_tuple ?z_all ?z_sum ?z_repr ?z_enumerate ?z_sorted ?z_zip ?y_GREATEST ?y_MOST_DAYS ?y_MOST_GOODS ?y_LONGEST_LIFE
    (case a1 => k_is)
    (case l1 => k_is)
    (case c1 => k_is)
    (case k1 => k_is)
    (case a2 => k_is)
    (case l2 => k_is)
    (case c2 => k_is)
    (case k2 => k_is)
    (case a3 => k_is)
    (case l3 => k_is)
    (case c3 => k_is)
    (case k3 => k_is)
    (case a4 => k_is)
    (case l4 => k_is)
    (case c4 => k_is)
    (case k4 => k_is)
    (case a5 => k_is)
    (case l5 => k_is)
    (case c5 => k_is)
    (case k5 => k_is)
    (case a6 => k_is)
    (case l6 => k_is)
    (case c6 => k_is)
    (case k6 => k_is)
    (case a7 => k_is)
    (case l7 => k_is)
    (case c7 => k_is)
    (case k7 => k_is)
    (case a8 => k_is)
    (case l8 => k_is)
    (case c8 => k_is)
    (case k8 => k_is)
    (case a9 => k_is)
    (case l9 => k_is)
    (case c9 => k_is)
    (case k9 => k_is)
    (case a10 => k_is)
    (case l10 => k_is)
    (case c10 => k_is)
    (case k10 => k_is)
    (case a11 => k_is)
    (case l11 => k_is)
    (case c11 => k_is)
    (case k11 => k_is)
    (case a12 => k_is)
    (case l12 => k_is)
    (case c12 => k_is)
    (case k12 => k_is)
    (case a13 => k_is)
    (case l13 => k_is)
    (case c13 => k_is)
    (case k13 => k_is)
    (case a14 => k_is)
    (case l14 => k_is)
    (case c14 => k_is)
    (case k14 => k_is)
    (case a15 => k_is)
    (case l15 => k_is)
    (case c15 => k_is)
    (case k15 => k_is)
    (case a16 => k_is)
    (case l16 => k_is)
    (case c16 => k_is)
    (case k16 => k_is)
    (case a17 => k_is)
    (case l17 => k_is)
    (case c17 => k_is)
    (case k17 => k_is)
    (case a18 => k_is)
    (case l18 => k_is)
    (case c18 => k_is)
    (case k18 => k_is)
    (case a19 => k_is)
    (case l19 => k_is)
    (case c19 => k_is)
    (case k19 => k_is)
    (case a20 => k_is)
    (case l20 => k_is)
    (case c20 => k_is)
    (case k20 => k_is)
    (case a21 => k_is)
    (case l21 => k_is)
    (case c21 => k_is)
    (case k21 => k_is)
    (case a22 => k_is)
    (case l22 => k_is)
    (case c22 => k_is)
    (case k22 => k_is)
    (case a23 => k_is)
    (case l23 => k_is)
    (case c23 => k_is)
    (case k23 => k_is)
    (case a24 => k_is)
    (case l24 => k_is)
    (case c24 => k_is)
    (case k24 => k_is)
    (case a25 => k_is)
    (case l25 => k_is)
    (case c25 => k_is)
    (case k25 => k_is)
    (case a26 => k_is)
    (case l26 => k_is)
    (case c26 => k_is)
    (case k26 => k_is)
    (case a27 => k_is)
    (case l27 => k_is)
    (case c27 => k_is)
    (case k27 => k_is)
    (case a28 => k_is)
    (case l28 => k_is)
    (case c28 => k_is)
    (case k28 => k_is)
    (case a29 => k_is)
    (case l29 => k_is)
    (case c29 => k_is)
    (case k29 => k_is)
    (case a30 => k_is)
    (case l30 => k_is)
    (case c30 => k_is)
    (case k30 => k_is)
    (case a31 => k_is)
    (case l31 => k_is)
    (case c31 => k_is)
    (case k31 => k_is)
    (case a32 => k_is)
    (case l32 => k_is)
    (case c32 => k_is)
    (case k32 => k_is)
    (case a33 => k_is)
    (case l33 => k_is)
    (case c33 => k_is)
    (case k33 => k_is)
    (case z_len => k_is)
    (case z_max => k_is)
    (case z_min => k_is)
    (case z_range => k_is)
    (case z_isinstance => k_is)
    (case z_int => k_is)
    (case z_bool => k_is)
    (case z_list => k_is)
    (case z_tuple => k_is)
    (case z_all => k_is)
    (case z_sum => k_is)
    (case z_repr => k_is)
    (case z_enumerate => k_is)
    (case z_sorted => k_is)
    (case z_zip => k_is)
    (case y_GREATEST => k_is)
    (case y_MOST_DAYS => k_is)
    (case y_MOST_GOODS => k_is)
    (case y_LONGEST_LIFE => k_is)


