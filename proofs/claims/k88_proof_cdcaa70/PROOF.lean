import PyProof.Rows.All
import Wide.All
import OpenK.AllK
import Wide.FinOn
import KE.KExcSuper
import HandS.ForMost
import HandS.ForExc
import HandS.ExcSuper
import HandS.ExcInit
import HandS.FStr
import HandS.ExcIs
import HandS.ExcField
import HandS.Evl
import HandS.Walk
import HandS.Zip
import HandS.IsInst
import KE.GoesEnum
import HandS.Strs
import HandS.SetFor
import HandS.More
import HandS.HeadHook1
import HandS.OwnIter
import HandS.IterVal
import HandS.Words
import HandS.ClsMeth
import HandS.ExcOwn
import HandS.Defaults
import HandS.Style
import PySem.Challenge.RW_guestlives_k88_policies_are_sets
import HandS.Small
set_option Elab.async false
set_option linter.all false
set_option maxRecDepth 100000
set_option maxHeartbeats 4000000
namespace XgSup
open PySem PySem.W PySem.Calls PyProof.Rows
/-! An own error class whose maker first asks its parent for a text that shows one field, then keeps the field. -/
abbrev wrapO (x : Addr) : Obj := kxs_mw "ValueError.__init__" x
section
variable {prog : Program} {w : World} {A : Around} {E : Value → Shared → Prop} {h : Heap} {g : Array GenState} {d : Drawn} {t : Nat} {os : OsState}
variable {nm q : Str} {C N : Addr} {bs bm : List Value} {hdct : Bool} {sn : List Str} {sub : List Value} {ab : Bool} {col : Option Bool} {dd : Option Addr} {k0 k1 k2 k3 k5 : Option Value}
theorem parent_call {u e t0 : Addr} {rest : List Value} {Q : Value → Shared → Prop}
    (hC : h.get? C = some (excClassObj nm q C N bs bm hdct sn sub ab col dd k0 k1 k2 k3 k5 "ValueError.__new__"))
    (he : h.get? e = some (HandSPX.excO C t0)) (hu : h.get? u = some (wrapO e)) (hrest : rest.length ≤ sizeLine)
    (hq : ∀ h' t1, (∀ b o, b ≠ e → h.get? b = some o → h'.get? b = some o) → h'.get? e = some (HandSPX.excO C t1) → Q .none ⟨h', g, d, t, os⟩) :
    wpAny (model prog w) A (call (.ref u) rest) Q E ⟨h, g, d, t, os⟩ := by
  have FB := F.excBase_ValueError
  refine wpAny_call (codeAny_of_tree ?_)
  show wpAny _ A.in1 (callAny (.ref u) ⟨rest, []⟩) _ _ _
  simp only [callAny]
  refine wpAny_bind (wpAny_load hu ?_)
  have hmw : (Value.type "method-wrapper" == Value.type "method" || Value.type "method-wrapper" == Value.type "builtin_function_or_method" || Value.type "method-wrapper" == Value.type "method-wrapper") = true := by decide
  simp only [wrapO, kxs_mw, hmw, if_true]
  refine KFB.if_so (by decide) ?_
  refine wpAny_bind (check_bound_init FB.toExcCallFacts hC he rfl ?_)
  refine wpAny_bind (wpAny_pure (wpAny_pure ?_))
  refine ⟨plainId_quiet FB.init.plain _, codeAny_builtin FB.initEntry ?_⟩
  rw [Around.under_plainId FB.init.plain _]
  wp_walk
  refine hq _ h.objs.size (fun b o hb ho => ?_) ?_
  · rw [Heap.get?_update_other _ _ (Ne.symm hb)]
    exact Heap.get?_push_of_some _ ho
  · rw [Heap.get?_update_self _ (Heap.get?_push_of_some _ he) rfl]
    rfl
end
/-! the maker's text -/
def mA (f : Str) (p1 p2 : Pos) : Arguments := { posonlyargs := [], args := [{ arg := "self", annotation := none, pos := p1 }, { arg := f, annotation := none, pos := p2 }], vararg := none, kwonlyargs := [], kw_defaults := [], kwarg := none, defaults := [] }
def mB (f txt : Str) (a1 a2 a3 a4 a5 b1 b2 b3 b4 c1 c2 c3 c4 : Pos) : List Stmt :=
  [.Expr (.Call (.Attribute (.Call (.Name "super" a1) [] [] a2) "__init__" a3) [.JoinedStr [.Constant (.str txt) 0 b1, .FormattedValue (.Name f b2) (-1) none b3] b4] [] a4) a5,
   .Assign [.Attribute (.Name "self" c1) f c2] (.Name f c3) c4]
def mS (f : Str) : Scope := { kind := .function, names := [(PySem.Str.ofString "self", .local), (f, .local), (PySem.Str.ofString "__class__", .free), (PySem.Str.ofString "super", .globalImplicit)], isGenerator := false, isCoroutine := false, more := [] }
/-- what is asked of the field's name -/
structure FOk (f : Str) : Prop where
  db : (f == ("__debug__" : Str)) = false
  lk : (mS f).names.lookup f = some .local
  ls : (mS f).names.lookup ("self" : Str) = some .local
  lc : (mS f).names.lookup ("__class__" : Str) = some .free
  lp : (mS f).names.lookup ("super" : Str) = some .globalImplicit
  ne : (f == ("self" : Str)) = false
  sn : ("self" == f) = false
  cell : ∀ x ∈ (mS f).names, x.2 ≠ .cell
  bd : ∀ (qual : Str) (p1 p2 : Pos) (body : List Stmt) (doc pm cdv ct : Value) (an : Option Addr) (cc : Addr) (u v : Value), bindArgs (ksFn "__init__" qual (mA f p1 p2) body (mS f) .none .none doc pm an cdv ct cc) ⟨[u, v], []⟩ = pure [(("self" : Str), u), (f, v)]
theorem fok_name : FOk "name" := ⟨by decide, rfl, rfl, rfl, rfl, by decide, by decide, by decide, fun _ _ _ _ _ _ _ _ _ _ _ _ => rfl⟩
theorem fok_field : FOk "field" := ⟨by decide, rfl, rfl, rfl, rfl, by decide, by decide, by decide, fun _ _ _ _ _ _ _ _ _ _ _ _ => rfl⟩
theorem fok_action : FOk "action" := ⟨by decide, rfl, rfl, rfl, rfl, by decide, by decide, by decide, fun _ _ _ _ _ _ _ _ _ _ _ _ => rfl⟩
theorem fok_reason : FOk "reason" := ⟨by decide, rfl, rfl, rfl, rfl, by decide, by decide, by decide, fun _ _ _ _ _ _ _ _ _ _ _ _ => rfl⟩
/-- the parent's call, as the text says it -/
def askE (f txt : Str) (a1 a2 a3 a4 b1 b2 b3 b4 : Pos) : Expr := .Call (.Attribute (.Call (.Name "super" a1) [] [] a2) "__init__" a3) [.JoinedStr [.Constant (.str txt) 0 b1, .FormattedValue (.Name f b2) (-1) none b3] b4] [] a4
def AskOk (qual f txt : Str) (a1 a2 a3 a4 b1 b2 b3 b4 : Pos) (fI cda cc : Addr) : Prop := ∀ L : Addr, ∃ pl : Sem Bool, eval (askE f txt a1 a2 a3 a4 b1 b2 b3 b4) (ksEnv qual (mS f) L fI (.ref cda) cc) = (do
  let ov ← attributeBase (.Call (.Name "super" a1) [] [] a2) "__init__" (ksEnv qual (mS f) L fI (.ref cda) cc) (eval (.Call (.Name "super" a1) [] [] a2) (ksEnv qual (mS f) L fI (.ref cda) cc))
  standAt a3.atName
  let (g, first) ← holding [ov] (getMethod ov "__init__" pl)
  callWith a4 g first (backTo a4 (starEach [.JoinedStr [.Constant (.str txt) 0 b1, .FormattedValue (.Name f b2) (-1) none b3] b4] (ksEnv qual (mS f) L fI (.ref cda) cc))) [])
/-- what the written part says of the class at C and of its maker at fI -/
structure STxt (prog : Program) (K : Frag) (mg : Str → Option Value) (x f txt : Str) (C fI : Addr) : Prop where
  fok : FOk f
  gC : mg x = some (.ref C)
  cls : ∃ nm q N bs bm sn sub ab col dd k0 k1 k2 k3 k5, K.lookup C = some (excClassObj nm q C N bs bm true sn sub ab col dd k0 k1 k2 k3 k5 "ValueError.__new__") ∧ HandSPX.refsVE bm = true
  sa : findIn K (.ref C) "__setattr__" = some (some (.builtin "object.__setattr__"))
  ga : findIn K (.ref C) "__getattribute__" = some (some (.builtin "BaseException.__getattribute__"))
  gg : findIn K (.ref C) "__getattr__" = some none
  noN : findIn K (.ref C) f = some none
  iC : findIn K (.ref C) "__init__" = some (some (.ref fI))
  tC : typeIn K (.ref fI) = some (.type "function")
  kC : keepIn K (.ref C) = true
  exC : subIn K (.ref C) (.type "BaseException") = some true
  veC : subIn K (.ref C) (.type "ValueError") = some true
  tyC : typeIn K (.ref C) = some (.type "type")
  hdC : hasDictIn K C = true
  sup : ks_superIn K C C "__init__" = some (some (.builtin "ValueError.__init__"))
  slf : mroIn K C (.ref C) = some true
  nop : nsIn K cStatics "thirdparty.any" = some none
  gS : mg "super" = none
  tops : (prog.main.scope.names.lookup ("super" : Str)).isSome = false
  fn : ∃ (qual : Str) (oc : Value) (od : Option Addr) (doc pm : Value) (an : Option Addr) (cda cc : Addr) (ct : Value) (osl : Array (Option Value)) (p1 p2 a1 a2 a3 a4 a5 b1 b2 b3 b4 c1 c2 c3 c4 : Pos)
      (ccl : Value) (cdd : Option Addr) (vs : Array Value) (ccs : Array (Option Value)) (file : Str) (tf : Tok) (cl : Value) (cld : Option Addr) (csl : Array (Option Value)),
    K.lookup fI = some ⟨oc, od, .func (ksFn "__init__" qual (mA f p1 p2) (mB f txt a1 a2 a3 a4 a5 b1 b2 b3 b4 c1 c2 c3 c4) (mS f) .none .none doc pm an (.ref cda) ct cc), osl⟩ ∧ codeIn K (.ref cda) qual = true ∧
    K.lookup cda = some ⟨ccl, cdd, .fields vs, ccs⟩ ∧ vs[2]? = some (.str file tf) ∧ ((prog.main.file : Str) == file) = true ∧
    K.lookup cc = some ⟨cl, cld, .cell (some (.ref C)), csl⟩ ∧ AskOk qual f txt a1 a2 a3 a4 b1 b2 b3 b4 fI cda cc
/-- what the maker leaves of a fresh error at x -/
structure MEnd (h h' : Heap) (x C dx : Addr) (f : Str) (v : Value) : Prop where
  keep : ∀ b o, b ≠ x → h.get? b = some o → h'.get? b = some o
  obj : ∃ t1 : Addr, h'.get? x = some { cls := .ref C, dict := some dx, data := .fields #[.ref t1, .none, .none, .none, .bool false, .none] }
  dbig : h.objs.size ≤ dx
  dne : dx ≠ x
  ns : h'.Ns1 dx (fun y => if y = f then some v else none)
section
variable {prog : Program} {w : World} {A : Around} {E : Value → Shared → Prop} {R : Result → Shared → Prop} {s : Shared} {K : Frag} {mg : Str → Option Value} {xn f txt : Str} {C fI : Addr} {base : Heap}
theorem maker_run (T : STxt prog K mg xn f txt C fI) (Mo : L2.Mod K mg base) {x t0 : Addr} {y : Str} {ty : Tok} (bk : ∀ b o, base.get? b = some o → s.heap.get? b = some o) (hx : s.heap.get? x = some (HandSPX.excO C t0))
    (hnx : K.lookup x = none) (hroom : A.depth < recursionLimit) (hz : y.length ≤ sizeLine) (hzt : txt.length ≤ sizeLine) (hzz : (txt ++ y).length ≤ sizeLine)
    (hq : ∀ h' tk dx, MEnd s.heap h' x C dx f (.str y ty) → R (.ok (.ret .none)) { s with heap := h', toks := tk }) :
    codeAny (model prog w) A (.call (.ref fI) ⟨[.ref x, .str y ty], []⟩) R s := by
  obtain ⟨qual, oc, od, doc, pm, an, cda, cc, ct, osl, p1, p2, a1, a2, a3, a4, a5, b1, b2, b3, b4, c1, c2, c3, c4, ccl, cdd, vs, ccs, file, tf, cl, cld, csl, ho, hcd, hcode, hvs, hfile, hcell, hask⟩ := T.fn
  obtain ⟨nm, q, N, bs, bm, sn, sub, ab, col, dd, k0, k1, k2, k3, k5, hC, hbm⟩ := T.cls
  have FO := T.fok
  have X : K.In s.heap := Mo.kin.keeps bk
  have hlim : s.heap.NoLimit := Mo.nolimit.keeps bk
  have hcl : clsIn K C = some { name := nm, bases := bs, mro := .ref C :: bm, ns := N, qualname := q, hasDict := true, slotNames := sn, subclasses := sub, abstract := ab, collection := col, hasDel := false } := by unfold clsIn; rw [hC] <;> rfl
  refine ks_codeAny_call_defAt (fd := ksFn "__init__" qual (mA f p1 p2) (mB f txt a1 a2 a3 a4 a5 b1 b2 b3 b4 c1 c2 c3 c4) (mS f) .none .none doc pm an (.ref cda) ct cc) (binds := [(("self" : Str), .ref x), (f, .str y ty)])
    hroom (X _ _ ho) rfl hlim (codeRec_of X hcd) rfl (BindsTo.of_eq ?_) FO.cell ?_ (fun h₁ hns hk₁ => ?_) rfl rfl rfl
  · exact FO.bd _ _ _ _ _ _ _ _ _ _ _ _
  · intro y hy
    rcases List.mem_cons.mp hy with rfl | hy
    · exact FO.ls
    rcases List.mem_cons.mp hy with rfl | hy
    · exact FO.lk
    · cases hy
  · have X1 : K.In h₁ := X.keeps hk₁
    have bk1 : ∀ b o, base.get? b = some o → h₁.get? b = some o := fun b o e => hk₁ b o (bk b o e)
    have hx1 := hk₁ _ _ hx
    obtain ⟨oD, hD1, hD2⟩ : ∃ oD, h₁.get? C = some oD ∧ oD.data = .cls { name := nm, bases := bs, mro := .ref C :: bm, ns := N, qualname := q, hasDict := true, slotNames := sn, subclasses := sub, abstract := ab, collection := col, hasDel := false } := ⟨_, X1 _ _ hC, rfl⟩
    have hxC : x ≠ C := fun z => by
      rw [z, hC] at hnx
      cases hnx
    have sL : s.heap.get? s.heap.objs.size = none := by
      cases z : s.heap.get? s.heap.objs.size with
      | none => rfl
      | some o => exact absurd (Heap.lt_size z) (Nat.lt_irrefl _)
    obtain ⟨mb, hb1, hb2⟩ := Mo.blt
    refine ks_wpAt_execs_cons (ks_wpAt_Expr_any ?_)
    obtain ⟨pl, hpl⟩ := hask s.heap.objs.size
    refine ks_wpAt_MethodCall (pl := pl) ?_ hpl
    refine ks_wpAt_super_base FO.lp FO.lc (by decide) rfl (X1 _ _ ho) rfl rfl rfl (X1 _ _ hcode) rfl hvs hfile T.tops ?_
    refine ks_loadName_global rfl FO.lp (loadGlobal_builtin (Mo.glob.keeps bk1) T.gS (hb1.keeps bk1) ((hb2 _ (by decide)).trans (by decide +kernel)) ⟨rfl, ?_⟩)
    refine wpAny_loadName_free rfl FO.lc rfl ⟨_, X1 _ _ hcell, rfl⟩ ?_
    refine wpAny_loadName_local rfl FO.ls hns (v := .ref x) ?_ ?_
    · show List.lookup ("self" : Str) [(f, Value.str y ty), (("self" : Str), Value.ref x)] = some (Value.ref x)
      simp [List.lookup, FO.sn]
    refine ks_wpAny_isType_cls hD1 hD2 ⟨rfl, ?_⟩
    refine ks_wpAny_call_super hD1 hD2 hx1 rfl (fun c z => nomatch z) (looks_mroIn X1 T.slf) (fun h2 e2 k2 => ?_)
    have X2 : K.In h2 := X1.keeps k2
    have hx2 := k2 _ _ hx1
    have I2 : InstAt h2 x (HandSPX.excO C t0) C none := ⟨hx2, rfl, rfl, trivial⟩
    have hal : alongIn K "__init__" (((Value.ref C :: bm).dropWhile (· != .ref C)).drop 1) = some (some (.builtin "ValueError.__init__")) := by
      have z := T.sup
      unfold ks_superIn at z
      rw [hcl] at z
      exact z
    refine kxs_getMethod kxs_ValueError e2 (looks_opaque X2 T.nop) (l₀ := .ref C :: bm) (fun A Q E s k q => wpAny_bind ((looks_clsIn X2 hcl) A _ E s k (wpAny_pure q))) rfl X2 hal (I2.type.andThen (looks_subIn X2 T.veC)) hxC (by decide) ?_
    have k3 : ∀ b o, h2.get? b = some o → (h2.push (wrapO x)).get? b = some o := fun b o e => Heap.get?_push_of_some _ e
    have hu3 : (h2.push (wrapO x)).get? h2.objs.size = some (wrapO x) := Heap.get?_push_at rfl rfl
    have k13 : ∀ b o, h₁.get? b = some o → (h2.push (wrapO x)).get? b = some o := fun b o e => k3 b o (k2 b o e)
    have hns3 := hns.keeps k13
    have hx3 := k3 _ _ hx2
    have hC3 := k13 _ _ (X1 _ _ hC)
    refine kxs_callWith (i := "ValueError.__init__") (x := x) rfl (evalArgs_plain ?_)
    refine PyProof.Rows.spliced_more (e := .JoinedStr [.Constant (.str txt) 0 b1, .FormattedValue (.Name f b2) (-1) none b3] b4) (rest := []) (env := ksEnv qual (mS f) s.heap.objs.size fI (.ref cda) cc) (pos := a4) ?_
    refine wpAny_JoinedStr ?_
    show Joins _ _ _ [eval (.Constant (.str txt) 0 b1) _, eval (.FormattedValue (.Name f b2) (-1) none b3) _] Str.empty _ _
    refine Calls.Constant_str ⟨txt, _, rfl, ?_, ?_⟩
    · show (Str.empty ++ txt).length ≤ sizeLine
      have z : (Str.empty ++ txt).length = txt.length := by
        show (Str.empty ++ txt).cps.size = txt.cps.size
        show (Str.empty.cps ++ txt.cps).size = txt.cps.size
        rw [Array.size_append]
        exact Nat.zero_add _
      rw [z]
      exact hzt
    have zz : (Str.empty ++ txt ++ y).length ≤ sizeLine := by
      have e : Str.empty ++ txt = txt := by
        show (⟨Str.empty.cps ++ txt.cps⟩ : Str) = txt
        have e2 : Str.empty.cps ++ txt.cps = txt.cps := Array.empty_append
        rw [e2]
      rw [e]
      exact hzz
    refine wpAny_FormattedValue_plain (ESX.ldL (m := fun y' => [(("self" : Str), Value.ref x), (f, .str y ty)].reverse.lookup y') (hns3) (v := .str y ty) ?_ ?_ rfl FO.lk FO.db)
    · show List.lookup f [(f, Value.str y ty), (("self" : Str), Value.ref x)] = some (Value.str y ty)
      simp [List.lookup]
    refine wpAny_formatField_str ⟨y, _, rfl, zz, zz, ?_⟩ ⟨y, _, rfl, zz, zz, ?_⟩ hz
    all_goals
      refine PyProof.Rows.spliced_none ⟨hu3, ?_⟩
      refine parent_call hC3 hx3 hu3 (by rw [sizeLine_eq]; show 1 ≤ 16777216; decide) (fun h4 t1 k4 hx4 => ?_)
      have Lx : s.heap.objs.size ≠ x := Nat.ne_of_gt (Heap.lt_size hx)
      have hns4 : h4.Ns s.heap.objs.size (fun y' => [(("self" : Str), Value.ref x), (f, Value.str y ty)].reverse.lookup y') := by
        obtain ⟨oL, es, ep, hL, r⟩ := hns3
        exact ⟨oL, es, ep, k4 _ _ Lx hL, r⟩
      have X4 : K.In h4 := fun b o e => k4 b o (fun z => by rw [z, hnx] at e; cases e) (k13 _ _ (X1 b o e))
      refine wpAt_of_wpAny (wpAny_execs_cons (plainObj_wpAny_Assign_Attribute ?_))
      refine ESX.ldL hns4 (v := .str y ty) (by show List.lookup f [(f, Value.str y ty), (("self" : Str), Value.ref x)] = some (Value.str y ty); simp [List.lookup]) ?_ rfl FO.lk FO.db
      refine ESX.ldL hns4 (v := .ref x) (by show List.lookup ("self" : Str) [(f, Value.str y ty), (("self" : Str), Value.ref x)] = some (Value.ref x); simp [List.lookup, FO.sn]) ?_ rfl FO.ls (by decide)
      refine set_plain X4 (ox := HandSPX.excO C t1) (od := none) ⟨hx4, rfl, rfl, trivial⟩ T.sa ?_
      refine HandSPX.exc_osa X4 hx4 hcl (show HandSPX.refsVE (.ref C :: bm) = true from hbm) rfl T.noN (fun h5 tk5 dx k5 dn dne hx5 hn5 => ?_)
      refine wpAny_execs_nil (hq h5 tk5 dx ⟨fun b o hb e => k5 b o hb (k4 b o hb (k13 _ _ (hk₁ b o e))), ⟨t1, hx5⟩, ?_, dne, hn5⟩)
      have z1 : s.heap.objs.size < h4.objs.size := hns4.lt
      exact Nat.le_of_lt (Nat.lt_of_lt_of_le z1 dn)
/-- an error of C that has just been made: at e, its own dict at d -/
structure MMade (h h' : Heap) (e C d : Addr) (f : Str) (v : Value) : Prop where
  keep : ∀ b o, h.get? b = some o → h'.get? b = some o
  new : h.objs.size ≤ e
  obj : ∃ oe vs, h'.get? e = some oe ∧ oe.cls = .ref C ∧ oe.dict = some d ∧ oe.data = .fields vs ∧ vs[1]? = some .none
  dbig : h.objs.size ≤ d
  dne : d ≠ e
  ns : h'.Ns1 d (fun y => if y = f then some v else none)
theorem made_run (T : STxt prog K mg xn f txt C fI) (Mo : L2.Mod K mg base) {y : Str} {ty : Tok} (bk : ∀ b o, base.get? b = some o → s.heap.get? b = some o) (hroom : A.depth + 1 < recursionLimit)
    (hz : y.length ≤ sizeLine) (hzt : txt.length ≤ sizeLine) (hzz : (txt ++ y).length ≤ sizeLine)
    (hq : ∀ h' tk e d, MMade s.heap h' e C d f (.str y ty) → R (.ok (.ret (.ref e))) { s with heap := h', toks := tk }) :
    codeAny (model prog w) A (.call (.ref C) ⟨[.str y ty], []⟩) R s := by
  obtain ⟨nm, q, N, bs, bm, sn, sub, ab, col, dd, k0, k1, k2, k3, k5, hC, hbm⟩ := T.cls
  have X : K.In s.heap := Mo.kin.keeps bk
  obtain ⟨hp, g, dr, tk, os⟩ := s
  have old : ∀ b o, hp.get? b = some o → ((hp.push (kdv_tup [Value.str y ty])).push (HandSPX.excO C hp.objs.size)).get? b = some o := fun b o e => Heap.get?_push_of_some _ (Heap.get?_push_of_some _ e)
  have at_e : ((hp.push (kdv_tup [Value.str y ty])).push (HandSPX.excO C hp.objs.size)).get? (hp.objs.size + 1) = some (HandSPX.excO C hp.objs.size) := by heap_get
  have noK : K.lookup (hp.objs.size + 1) = none := by
    cases e : K.lookup (hp.objs.size + 1) with
    | none => rfl
    | some o =>
      have z : hp.get? (hp.objs.size + 1) = some o := X _ _ e
      exact absurd (Nat.lt_of_succ_lt (Heap.lt_size z)) (Nat.lt_irrefl _)
  refine HandSPX.call_own F.excBase_ValueError (fun X => HandSPX.refsVE_contains X bm hbm) (X _ _ hC) (looks_findIn X T.iC) (fun self => bind_fn X self T.tC) (by rw [sizeLine_eq]; show 1 ≤ 16777216; decide) ?_
  refine maker_run (s := ⟨(hp.push (kdv_tup [Value.str y ty])).push (HandSPX.excO C hp.objs.size), g, dr, tk, os⟩) T Mo (fun b o e => old b o (bk b o e)) at_e noK ?_ hz hzt hzz fun h' tk' dx M => ?_
  · show A.depth + 1 < recursionLimit
    exact hroom
  · have keep : ∀ b o, hp.get? b = some o → h'.get? b = some o := fun b o e => M.keep b o (Nat.ne_of_lt (Nat.lt_succ_of_lt (Heap.lt_size e))) (old b o e)
    have z : hp.objs.size + 1 + 1 ≤ dx := by
      have zz := M.dbig
      rw [Heap.size_push, Heap.size_push] at zz
      exact zz
    obtain ⟨t1, ho⟩ := M.obj
    exact ⟨rfl, hq h' tk' (hp.objs.size + 1) dx ⟨keep, Nat.le_succ _, ⟨_, _, ho, rfl, rfl, rfl, rfl⟩, Nat.le_trans (Nat.le_trans (Nat.le_succ _) (Nat.le_succ _)) z, M.dne, M.ns⟩⟩
end
end XgSup
namespace XgSup
open PySem L2 PySem.Spec PyProof.Rows
theorem relO_one {v : V} {v' : Value} (r : RelV v v') (f g : Str) : RelO (List.lookup g [(f, v)]) (if g = f then some v' else none) := by
  by_cases hw : g = f
  · subst hw
    rw [if_pos rfl]
    have q : List.lookup g [(g, v)] = some v := by simp [List.lookup]
    rw [q]
    exact r
  · rw [if_neg hw]
    have qw : (g == f) = false := by simpa using hw
    have q2 : List.lookup g [(f, v)] = none := by simp [List.lookup, qw]
    rw [q2]
    trivial
section
variable {X : Cx} {C fI : Addr} {xn f txt : Str}
/-- C(e), e a text -/
def tMkS (C : Addr) (f : Str) (ta : TA) : L2.St → Hp → XK → Prop := fun σ H Q => ta σ H fun vs H1 => ∃ y : Str, vs = [.str y] ∧ y.length ≤ 100000 ∧ ∀ d, H1 d = none → Q (.ref C) (some d) (upd H1 d (.xd [(f, .str y)]))
theorem pmk_sup {a : Expr} {ta : TA} {p pos : Pos} {k : Nat} (T : STxt X.prog X.K X.mg xn f txt C fI) (hlt : txt.length ≤ 100000) (hr : Room k X.A) (ha : PA X [a] ta) (hg : Gl X xn)
    (hdb : (xn == ("__debug__" : Str)) = false := by decide)
    (he : starEach (a :: []) X.env = (false, eval a X.env) :: starEach [] X.env := by rfl) (hpl : (backTo pos (starEach [] X.env)).any (·.1) = false := by rfl) :
    PMk X (.Call (.Name xn p) [a] [] pos) (tMkS C f ta) := by
  intro pins s σ H Q I h
  refine wpAny_Call_Name_kw (ld_glob I hg T.gC ?_ hdb)
  refine PySem.W.callWith_K (h₀ := X.base) I.ok.mod.kin T.kC (thn (ha.run pos pins s σ H _ I h) fun us s1 hh => ?_) he hpl
  obtain ⟨vs, H1, I1, r1, y, ev, hy, q1⟩ := hh
  subst ev
  refine ⟨I1.kIn, ?_⟩
  cases r1 with
  | cons rv rn =>
    rename_i v' us'
    cases rn
    obtain ⟨ty, rfl⟩ := rv
    show wpAny _ _ (call (.ref C) [_]) _ _ _
    have bk1 := I1.bk
    obtain ⟨hp, g, dr, tk, os⟩ := s1
    have zy : y.length ≤ sizeLine := by rw [sizeLine_eq]; omega
    have zt : txt.length ≤ sizeLine := by rw [sizeLine_eq]; omega
    have zz : (txt ++ y).length ≤ sizeLine := by
      have e : (txt ++ y).length = txt.length + y.length := by
        show (txt.cps ++ y.cps).size = txt.cps.size + y.cps.size
        exact Array.size_append
      rw [e, sizeLine_eq]
      omega
    refine wpAny_call (made_run T I1.mod bk1 (by have := hr.dp; omega) zy zt zz fun h' tk' e d M => ?_)
    show MkP X pins σ Q (.ref e) ⟨h', g, dr, tk', os⟩
    obtain ⟨oe, fv, hoe, hc, hd, hdat, h1⟩ := M.obj
    have hns := M.ns
    obtain ⟨G', g1, g2⟩ := restrict h' fun b => decide (b ≠ e)
    have gk : ∀ b, b ≠ e → G'.get? b = h'.get? b := fun b hb => g1 b (decide_eq_true hb)
    have ge : G'.get? e = none := g2 e (by simp)
    have old : ∀ b o, hp.get? b = some o → G'.get? b = some o := fun b o q => (gk b (Nat.ne_of_lt (Nat.lt_of_lt_of_le (Heap.lt_size q) M.new))).trans (M.keep b o q)
    have ob : ObjOk X.prog X.w (upd H1 d (.xd [(f, V.str y)])) G' d (.xd [(f, V.str y)]) :=
      ⟨_, hns.at (fun o q => (gk d M.dne).trans q), fun g' => relO_one (v := V.str y) (v' := Value.str y ty) (show RelV (V.str y) (Value.str y ty) from ⟨ty, rfl⟩) f g'⟩
    have J : Inv X pins σ (upd H1 d (.xd [(f, V.str y)])) ⟨G', g, dr, tk', os⟩ := I1.laid (t' := tk') old M.dbig ob
    refine ⟨e, oe, fv, ⟨G', g, dr, tk', os⟩, _, .ref C, some d, rfl, J, fun b o q => ?_, ge, hoe, ⟨hc, hd⟩, hdat, h1, ?_, rfl, I1.bare, raises_own T.exC T.tyC, q1 d (I1.hok.fresh M.dbig)⟩
    · by_cases hb : b = e
      · have q' : G'.get? b = some o := q
        rw [hb, ge] at q'; cases q'
      · exact (gk b hb).symm.trans q
    · rw [upd_ne (Ne.symm M.dne)]
      exact I1.hok.fresh M.new
end
end XgSup
namespace XgIsa
open PySem PySem.W PySem.Spec PySem.Calls PyProof.Rows
section
variable {prog : Program} {w : World} {A : Around} {E : Value → Shared → Prop} {s : Shared} {K : Frag} {x D : Addr} {ox : Obj}
theorem find_cls {C : Addr} {od : Option Obj} {name : Str} {a g : Value} (hc : (clsIn K C).isSome = true) (ha : findIn K (.ref C) name = some (some a)) (hg : specialIn K a "__get__" = some (some g)) (ht : takesIn K a = some true) :
    findObj K C od name = some (.bind g a) := by
  obtain ⟨cd, hc⟩ := Option.isSome_iff_exists.mp hc
  unfold findObj
  rw [hc, Option.bind_some, ha, Option.bind_some]
  simp [hg, ht]
theorem ask_class {od : Option Obj} {Q : Option Value → Shared → Prop} (T : L2.ExcC K D) (X : K.In s.heap) (I : InstAt s.heap x ox D od) (h : Q (some (.ref D)) { s with toks := s.toks + 1 }) : wpAny (model prog w) A (getAttr? (.ref x) "__class__") Q E s := by
  have hf : findObj K D od "__class__" = some (.bind (.builtin "getset_descriptor.__get__") (.builtin "object.__class__")) := find_cls (by obtain ⟨cd, hc, _⟩ := any_some T.hd; rw [hc]; rfl) T.ha T.hn T.ht
  obtain ⟨hp, g, d, t, os⟩ := s
  have l0 := I.type (M := model prog w)
  have l1 := looks_findIn (M := model prog w) X T.hg
  have l2 := looks_findIn (M := model prog w) X T.hk
  have l3 := looks_find (M := model prog w) X I hf
  have sub : Looks (model prog w) hp (isInstance (.ref x) (.type "BaseException")) true := l0.andThen (looks_subIn X T.hs)
  have q0 : (false && onTheHeap (Value.builtin "BaseException.__getattribute__")) = false := rfl
  have q2 : (Value.builtin "BaseException.__getattribute__" == Value.builtin "object.__getattribute__") = false := by decide +kernel
  have q1 : (onTheHeap (Value.ref D) && Value.builtin "BaseException.__getattribute__" == Value.builtin "object.__getattribute__") = false := by rw [q2]; rfl
  unfold getAttr? getAttrBy? getAttrBy
  refine wpAny_bind (wpAny_mkText (wpAny_bind (wpAny_attempt (wpAny_holding (wpAny_bind (l0.at (wpAny_bind (l1.at ?_))))))))
  show wpAny _ _ (if (onTheHeap (Value.ref D) && Value.builtin "BaseException.__getattribute__" == Value.builtin "object.__getattribute__") = true then _ else _) _ _ _
  rw [q1, if_neg Bool.false_ne_true]
  unfold getAttrByItsOwn hookBefore
  refine wpAny_bind ?_
  rw [if_pos (show onTheHeap (Value.ref D) = true from rfl)]
  refine l2.at ?_
  refine wpAny_bind (wpAny_attempt (wpAny_holding ?_))
  unfold callGetattribute
  rw [q0, if_neg Bool.false_ne_true]
  unfold boundAndCalled
  rw [PySem.F.excAttr_ValueError.ga.bind (.ref x)]
  refine wpAny_bind (wpAny_pure ?_)
  show wpAny _ _ (call (.builtin "BaseException.__getattribute__") [.ref x, .str "__class__" t]) _ _ _
  refine wpAny_call (codeAny_call_builtin PySem.F.excAttr_ValueError.ga.plain PySem.F.entry_bexc_ga ?_)
  refine @check_slot (model prog w) _ _ ⟨hp, g, d, t + 1, os⟩ "BaseException.__getattribute__" "BaseException" "__getattribute__" (.ref x) [.str "__class__" t] [] _ (by decide +kernel) (by decide +kernel) sub (PySem.F.args_bexc_ga (.ref x) (.str "__class__" t)) ?_
  unfold Builtin.«object.__getattribute__»
  refine wpAny_bind (wpAny_of_eq (a := ((Value.ref x : Value), [Value.str "__class__" t])) (by first | rfl | (simp only [slotArgs]; rfl)) ?_)
  refine wpAny_bind (wpAny_pure (wpAny_bind (l0.at (wpAny_bind (l3.at ?_)))))
  show wpAny _ _ (holding [Value.builtin "object.__class__"] (call (.builtin "getset_descriptor.__get__") [.builtin "object.__class__", .ref x, .ref D]) >>= ret) _ _ _
  refine wpAny_bind (wpAny_holding (wpAny_call (class_get (s := ⟨hp, g, d, t + 1, os⟩) (ox := ox) (od := od) X I T.hm ?_)))
  refine wpAny_pure ?_
  show wpAny _ _ (handedOut (.ref D)) _ _ _
  rw [handedOut_of (v := .ref D) rfl]
  first
    | exact wpAny_pure (wpAny_pure h)
    | exact wpAny_pure h
    | exact wpAny_pure (wpAny_bind (wpAny_pure (wpAny_pure h)))
theorem kitx_err (T : L2.ExcC K D) : KitX K (.ref x) (.ref D) (fun h => ∃ od, InstAt h x ox D od) where
  ty := fun _ _ _ ⟨_, I⟩ => I.type
  it := fun _ _ X _ => by
    obtain ⟨cdD, hcD, _⟩ := any_some T.hd
    unfold clsIn at hcD
    split at hcD
    · rename_i c' d' cd' sl' ho
      intro A' Q' E' s' k q
      unfold isType loadHead
      exact wpAny_bind (wpAny_loadPart (k _ _ (X _ _ ho)) (wpAny_pure q))
    · cases hcD
  ne := fun h tp dd its n sl X htp => by
    obtain ⟨cdD, hcD, _⟩ := any_some T.hd
    refine Bool.eq_false_iff.mpr fun q => ?_
    have e : D = tp := Value.ref.inj (beq_iff_eq.mp q)
    subst e
    unfold clsIn at hcD
    split at hcD
    · rename_i c' d' cd' sl' ho
      have z := (X _ _ ho).symm.trans htp
      cases z
    · cases hcD
  ca := fun X ⟨_, I⟩ k => ask_class T X I k
end
end XgIsa
namespace XgIsa
open PySem PySem.Spec PyProof.Rows L2
/-- isinstance(e, c), isinstance(e, (c1, c2, ..)), e the error that the suite holds at a (class at D, dict d) -/
def rIsX (K : PySem.W.Frag) (a : Addr) (cls : Value) (d : Option Addr) : List V → Hp → VK → Prop := fun xs H Q => ∃ (D : Addr) (dd : Addr) (fs : List (Str × V)) (y : V) (b : Bool), xs = [.ref a, y] ∧ cls = .ref D ∧ ExcC K D ∧ d = some dd ∧ H dd = some (.xd fs) ∧
  ((∃ u, ClsV y u ∧ PySem.W.kitOne K (.ref D) u = some b) ∨ ∃ tp cs us, y = .ref tp ∧ H tp = some (.tup cs) ∧ Paired ClsV cs us ∧ PySem.W.kitAny K (.ref D) us = some b) ∧ Q (.bl b) H
theorem call_isX {X : Cx} {a : Addr} {cls : Value} {d : Option Addr} {oe : Obj} {pn : List (Addr × Obj)} (hz : Zc cls d oe) (hf : ∃ vs, oe.data = .fields vs) : CallR (X.suite a ((a, oe) :: pn)) (.builtin "isinstance") (rIsX X.K a cls d) := by
  intro pins s σ H xs us Q I r h
  obtain ⟨D, dd, fs, y, b, rfl, ec, T, ed, hd, ho, q⟩ := h
  obtain ⟨u1, u2, rfl, r1, r2⟩ := vals2 r
  cases (show u1 = Value.ref a from r1)
  subst ec
  subst ed
  obtain ⟨hget, _⟩ := I.pin (a, oe) (List.mem_append.mpr (.inl List.mem_cons_self))
  obtain ⟨vs, hv⟩ := hf
  obtain ⟨mA, hns, _⟩ := (show ObjOk X.prog X.w H s.heap dd (.xd fs) from I.hok dd _ hd)
  obtain ⟨od, hod, _⟩ := lookIn_ns hns
  have J : PySem.W.InstAt s.heap a oe D (some od) := ⟨hget, hz.1, by unfold PySem.W.notCls; rw [hv] <;> rfl, by rw [hz.2]; exact hod⟩
  rcases ho with ⟨u, hc, e⟩ | ⟨tp, cs, ws, rfl, hT, k, e⟩
  · have ew := hc.eq r2
    subst ew
    exact PySem.W.kia_one (kitx_err T) I.kIn ⟨_, J⟩ e (fun z => nomatch z) fun tk => ⟨.bl b, H, I.kept (t' := tk) fun _ _ z => z, rfl, q⟩
  · cases (show u2 = Value.ref tp from r2)
    obtain ⟨_, its, rv, o, h1, h2, n, h3⟩ := (show ObjOk X.prog X.w H s.heap tp (.tup cs) from I.hok tp _ hT)
    have e3 := ClsV.all k rv
    subst e3
    obtain ⟨oc, od', dt, sl⟩ := o
    simp only at h2 h3
    subst h2 h3
    exact PySem.W.kia_tup (kitx_err T) I.kIn ⟨_, J⟩ h1 e (fun z => nomatch z) fun tk => ⟨.bl b, H, I.kept (t' := tk) fun _ _ z => z, rfl, q⟩
end XgIsa
namespace XgIter
open PySem PySem.Spec PyProof.Rows L2 PySem.W
/-! Pairs walked: zip of two of (list, tuple, text) in any mix; enumerate of a tuple. -/
/-- what is walked: a list, a tuple, a text -/
inductive Src where
  | L (a : Addr)
  | T (a : Addr)
  | S (z : Str)
/-- its items -/
def Src.rd (K : PySem.W.Frag) : Src → Hp → List V → Prop
  | .L a, H, xs => SqL K H a xs
  | .T a, H, xs => SqT K H a xs
  | .S z, _, xs => xs = z.cps.toList.map fun c => V.str ⟨#[c]⟩
def Src.v : Src → V
  | .L a => .ref a
  | .T a => .ref a
  | .S z => .str z
/-- the same, with the text's token -/
inductive Srm where
  | L (a : Addr)
  | T (a : Addr)
  | S (z : Str) (t : Tok)
def Srm.src : Srm → Src
  | .L a => .L a
  | .T a => .T a
  | .S z _ => .S z
def Srm.ext : Srm → List Addr
  | .L a => [a]
  | .T a => [a]
  | .S _ _ => []
def Srm.val : Srm → Value
  | .L a => .ref a
  | .T a => .ref a
  | .S z t => .str z t
def Srm.it : Srm → Addr → Nat → Heap → Prop
  | .L a, b, i, h => h.IsListIter b a i
  | .T a, b, i, h => h.IsTupleIter b a i
  | .S z t, b, i, h => h.IsStrIter b (strIterType z) z t i
def Srm.beg : Srm → Obj
  | .L a => { cls := .type "list_iterator", data := .fields #[.ref a, .int 0 0] }
  | .T a => { cls := .type "tuple_iterator", data := .fields #[.ref a, .int 0 0] }
  | .S z t => { cls := .type (strIterType z), data := .fields #[.str z t, .int 0 0] }
theorem Srm.itAt {r : Srm} {b : Addr} {i : Nat} {h h' : Heap} (st : r.it b i h) (k : ∀ o, h.get? b = some o → h'.get? b = some o) : r.it b i h' := by
  cases r with
  | L a => exact Heap.IsListIter.at st k
  | T a => exact Heap.IsTupleIter.at st k
  | S z t => obtain ⟨o, e, rest⟩ := st; exact ⟨o, k o e, rest⟩
theorem Srm.itObj {r : Srm} {b : Addr} {i : Nat} {h : Heap} (st : r.it b i h) : ∃ o, h.get? b = some o ∧ ∀ v, o.data ≠ .cell v := by
  cases r with
  | L a => obtain ⟨o, e, _, d⟩ := st; exact ⟨o, e, fun v q => by rw [d] at q; cases q⟩
  | T a => obtain ⟨o, e, _, d⟩ := st; exact ⟨o, e, fun v q => by rw [d] at q; cases q⟩
  | S z t => obtain ⟨o, e, _, d⟩ := st; exact ⟨o, e, fun v q => by rw [d] at q; cases q⟩
theorem Srm.itBeg {r : Srm} {b : Addr} {h : Heap} (e : h.get? b = some r.beg) : r.it b 0 h := by
  cases r with
  | L a => exact ⟨_, e, rfl, rfl⟩
  | T a => exact ⟨_, e, rfl, rfl⟩
  | S z t => exact ⟨_, e, rfl, rfl⟩
section
variable {X : Cx} {pins : List (Addr × Obj)} {σ : L2.St} {H : Hp} {s : Shared}
/-- what its iterator draws -/
theorem drawn (I : Inv X pins σ H s) {A : Around} (hh : A.handled = none) {r : Srm} {b : Addr} {xs : List V} (hq : r.src.rd X.K H xs) (hb : b ∉ r.ext) :
    ∃ (P : Nat → Value → Prop) (St : Nat → Heap → Prop), Draws X.prog X.w A b (b :: r.ext) xs.length P St ∧ (∀ i, r.it b i s.heap → St i s.heap) ∧ (∀ i h, St i h → r.it b i h) ∧ ∀ i v, P i v → ∃ y, xs[i]? = some y ∧ RelV y v := by
  cases r with
  | L a =>
    obtain ⟨its, rv, p, _⟩ := I.list hq
    have hne : a ≠ b := fun z => hb (by rw [z]; exact List.mem_cons_self)
    refine ⟨fun i v => its.toArray[i]? = some v, fun i h => h.IsListIter b a i ∧ h.IsList a its.toArray, ?_, fun i st => ⟨st, p.isList⟩, fun i h st => st.1, fun i v hv => ?_⟩
    · rw [rv.length]
      exact Draws.list hh b a hne its.toArray
    · have hv' : its[i]? = some v := by simpa using hv
      have hl : i < its.length := (List.getElem?_eq_some_iff.mp hv').1
      have hx : i < xs.length := by rw [rv.length]; exact hl
      obtain ⟨u, hu, ru⟩ := rv.get (List.getElem?_eq_getElem hx)
      rw [hv'] at hu
      cases hu
      exact ⟨_, List.getElem?_eq_getElem hx, ru⟩
  | T a =>
    obtain ⟨its, rv, p, _⟩ := I.tuple hq
    have hne : a ≠ b := fun z => hb (by rw [z]; exact List.mem_cons_self)
    refine ⟨fun i v => its.toArray[i]? = some v, fun i h => h.IsTupleIter b a i ∧ h.IsTuple a its.toArray, ?_, fun i st => ⟨st, p⟩, fun i h st => st.1, fun i v hv => ?_⟩
    · rw [rv.length]
      exact Draws.tuple hh b a hne its.toArray
    · have hv' : its[i]? = some v := by simpa using hv
      have hl : i < its.length := (List.getElem?_eq_some_iff.mp hv').1
      have hx : i < xs.length := by rw [rv.length]; exact hl
      obtain ⟨u, hu, ru⟩ := rv.get (List.getElem?_eq_getElem hx)
      rw [hv'] at hu
      cases hu
      exact ⟨_, List.getElem?_eq_getElem hx, ru⟩
  | S z t =>
    have hq' : xs = z.cps.toList.map fun c => V.str ⟨#[c]⟩ := hq
    subst hq'
    refine ⟨fun i v => ∃ c u, z.cps[i]? = some c ∧ v = .str ⟨#[c]⟩ u, fun i h => h.IsStrIter b (strIterType z) z t i, ?_, fun i st => st, fun i h st => st, fun i v hv => ?_⟩
    · rw [List.length_map]
      exact Draws.text hh b z t
    · obtain ⟨c, u, hc, rfl⟩ := hv
      refine ⟨.str ⟨#[c]⟩, ?_, ⟨u, rfl⟩⟩
      rw [List.getElem?_map]
      have hc' : z.cps.toList[i]? = some c := by simpa using hc
      rw [hc']
      rfl
theorem rd_inj (I : Inv X pins σ H s) {r : Src} {xs ys : List V} (h1 : r.rd X.K H xs) (h2 : r.rd X.K H ys) : xs = ys := by
  cases r with
  | L a => exact I.list_inj h1 h2
  | T a => exact I.tuple_inj h1 h2
  | S z =>
    have e1 : xs = z.cps.toList.map fun c => V.str ⟨#[c]⟩ := h1
    have e2 : ys = z.cps.toList.map fun c => V.str ⟨#[c]⟩ := h2
    rw [e1, e2]
theorem begins {r : Srm} {xs : List V} (I : Inv X pins σ H s) (hq : r.src.rd X.K H xs) : ∃ P : Heap → Prop, Begins r.val r.beg P ∧ P s.heap ∧ ∀ b ∈ r.ext, b < s.heap.objs.size := by
  cases r with
  | L a =>
    obtain ⟨its, rv, p, _⟩ := I.list hq
    exact ⟨_, begins_list a its.toArray, p.isList, fun b hb => by rw [List.mem_singleton.mp hb]; exact p.lt⟩
  | T a =>
    obtain ⟨its, rv, p, _⟩ := I.tuple hq
    obtain ⟨o, ho, _⟩ := id p
    exact ⟨_, begins_tuple a its.toArray, p, fun b hb => by rw [List.mem_singleton.mp hb]; exact Heap.lt_size ho⟩
  | S z t => exact ⟨_, begins_text z t, True.intro, fun b hb => absurd hb (by show b ∉ ([] : List Addr); simp)⟩
end
/-- two of them, in new pairs -/
def Itx (K : PySem.W.Frag) (s1 s2 : Src) : It :=
  ⟨fun i H => ∃ xs ys : List V, s1.rd K H xs ∧ s2.rd K H ys ∧ i < min xs.length ys.length,
    fun i H v H' => ∃ T x y, v = .ref T ∧ H T = none ∧ H' = upd H T (.tup [x, y]) ∧ (∀ xs, s1.rd K H xs → xs[i]? = some x) ∧ ∀ ys, s2.rd K H ys → ys[i]? = some y,
    fun i H => ∃ xs ys : List V, s1.rd K H xs ∧ s2.rd K H ys ∧ i = min xs.length ys.length⟩
theorem turn_x {P : Program} {w : World} {K : PySem.W.Frag} {elts : List Expr} {kk : Nat} {tpos : Pos} {r1 r2 : Srm} {z TI TO i1 i2 : Addr} (D : ZipSep2 z TI TO i1 i2 (i1 :: r1.ext) (i2 :: r2.ext)) (n1 : i1 ∉ r1.ext) (n2 : i2 ∉ r2.ext) :
    Turn P w K (.Tuple elts kk tpos) (Itx K r1.src r2.src) [z, TI, TO, i1, i2] z (fun i h => IsZip h z TI TO .none ∧ IsTupOf2 h TI (.ref i1) (.ref i2) ∧ (∃ x y, IsTupOf2 h TO x y) ∧ r1.it i1 i h ∧ r2.it i2 i h) where
  mem := by simp
  obj := fun i h st c hc => by
    obtain ⟨hz, hTI, ⟨x, y, hTO⟩, h1, h2⟩ := st
    have e' : c = z ∨ c = TI ∨ c = TO ∨ c = i1 ∨ c = i2 := by simpa using hc
    rcases e' with q | q | q | q | q
    · rw [q]; exact ⟨_, hz, fun v q => nomatch q⟩
    · rw [q]; exact ⟨_, hTI, fun v q => nomatch q⟩
    · rw [q]; exact ⟨_, hTO, fun v q => nomatch q⟩
    · rw [q]; exact Srm.itObj h1
    · rw [q]; exact Srm.itObj h2
  keep := fun i h h' st k => by
    obtain ⟨hz, hTI, ⟨x, y, hTO⟩, h1, h2⟩ := st
    exact ⟨k z (by simp) _ hz, k TI (by simp) _ hTI, ⟨x, y, k TO (by simp) _ hTO⟩, Srm.itAt h1 fun o q => k i1 (by simp) o q, Srm.itAt h2 fun o q => k i2 (by simp) o q⟩
  item := by
    intro X hP hw hK hc i pins s σ H E I hf st hg
    subst hP hw hK
    obtain ⟨hz, hTI, hTO, h1, h2⟩ := st
    obtain ⟨xs, ys, hqx, hqy, hlt⟩ := hg
    have hh : X.A.in1.handled = none := I.ok.hd hc
    obtain ⟨P1, S1, D1, a1, b1, c1⟩ := drawn I hh hqx n1
    obtain ⟨P2, S2, D2, a2, b2, c2⟩ := drawn I hh hqy n2
    have W := WalksT.zipD2 D D1 D2
    refine W.item i s _ _ hlt ⟨hz, hTI, hTO, a1 i h1, a2 i h2⟩ fun T vals h' tk hv hT hIs hM hk => ⟨.ref T, rfl, ?_⟩
    obtain ⟨v1, v2, p1, p2, rfl⟩ := hv
    obtain ⟨x, hx, rx⟩ := c1 i v1 p1
    obtain ⟨y, hy, ry⟩ := c2 i v2 p2
    refine W.go elts kk tpos i T _ _ _ hM fun h'' hst hk2 => ?_
    have apT := W.apart i T h' hM
    obtain ⟨oT, hoT, hcT, nT, hdT⟩ := hIs
    have hoT2 := hk2 T oT apT hoT
    have new : ObjOk X.prog X.w (upd H T (.tup [x, y])) h'' T (.tup [x, y]) := ⟨by show 2 ≤ sizeLine; decide, [v1, v2], .cons rx (.cons ry .nil), ⟨oT, hoT2, hcT, nT, hdT⟩⟩
    have wr5 : ∀ c, c ∈ [z, TO, i1, i2] → c ∈ [z, TI, TO, i1, i2] := fun c hcm => by
      have e' : c = z ∨ c = TO ∨ c = i1 ∨ c = i2 := by simpa using hcm
      rcases e' with q | q | q | q <;> simp [q]
    have I1 : Inv X pins σ (upd H T (.tup [x, y])) { s with heap := h'', toks := tk } :=
      I.turnedNew (t' := tk) (ch := [z, TI, TO, i1, i2]) (fun c o hb q => hk2 c o (fun z => hb (wr5 c z)) (hk c o (fun z => hb (wr5 c z)) q)) hf hT new
    obtain ⟨gz, gTI, gTO, g1, g2⟩ := hst
    refine ⟨.ref T, _, I1, rfl, ⟨T, x, y, rfl, I.hok.fresh hT, rfl, fun l hl => by rw [rd_inj I hl hqx]; exact hx, fun l hl => by rw [rd_inj I hl hqy]; exact hy⟩, ⟨gz, gTI, gTO, b1 _ _ g1, b2 _ _ g2⟩, fun c hcm => ?_⟩
    have hlt2 : c < s.heap.objs.size := by
      have e' : c = z ∨ c = TI ∨ c = TO ∨ c = i1 ∨ c = i2 := by simpa using hcm
      obtain ⟨_, _, hTO⟩ := hTO
      rcases e' with q | q | q | q | q
      · rw [q]; exact Heap.lt_size hz
      · rw [q]; exact Heap.lt_size hTI
      · rw [q]; exact Heap.lt_size hTO
      · rw [q]; obtain ⟨_, e1, _⟩ := Srm.itObj h1; exact Heap.lt_size e1
      · rw [q]; obtain ⟨_, e2, _⟩ := Srm.itObj h2; exact Heap.lt_size e2
    rw [upd_ne (Nat.ne_of_lt (Nat.lt_of_lt_of_le hlt2 hT))]
    exact (hf c hcm).1
  done := by
    intro X hP hw hK hc i pins s σ H E I hf st hg
    subst hP hw hK
    obtain ⟨hz, hTI, hTO, h1, h2⟩ := st
    obtain ⟨xs, ys, hqx, hqy, rfl⟩ := hg
    have hh : X.A.in1.handled = none := I.ok.hd hc
    obtain ⟨P1, S1, D1, a1, b1, c1⟩ := drawn I hh hqx n1
    obtain ⟨P2, S2, D2, a2, b2, c2⟩ := drawn I hh hqy n2
    have W := WalksT.zipD2 D D1 D2
    have wr5 : ∀ c, c ∈ [z, TO, i1, i2] → c ∈ [z, TI, TO, i1, i2] := fun c hcm => by
      have e' : c = z ∨ c = TO ∨ c = i1 ∨ c = i2 := by simpa using hcm
      rcases e' with q | q | q | q <;> simp [q]
    exact W.done s _ _ ⟨hz, hTI, hTO, a1 _ h1, a2 _ h2⟩ fun h' tk hk => ⟨rfl, I.turnedL (t' := tk) (ch := [z, TI, TO, i1, i2]) (fun c o hb q => hk c o (fun z => hb (wr5 c z)) q) hf⟩
  self := fun A i s Q E st h => wpAny_pyIter_zip st.1 h
def iZipX (K : PySem.W.Frag) (ta : TA) : TI := fun σ H R => ta σ H fun vs H1 => ∃ s1 s2 : Src, vs = [s1.v, s2.v] ∧ (∃ xs, s1.rd K H1 xs) ∧ (∃ ys, s2.rd K H1 ys) ∧ R (Itx K s1 s2) H1
theorem srm_of {s1 : Src} {u : Value} (r : RelV s1.v u) : ∃ r1 : Srm, r1.src = s1 ∧ u = r1.val := by
  cases s1 with
  | L a => exact ⟨.L a, rfl, r⟩
  | T a => exact ⟨.T a, rfl, r⟩
  | S z => obtain ⟨t, e⟩ := (show ∃ t, u = Value.str z t from r); exact ⟨.S z t, rfl, e⟩
theorem pi_zipX {X : Cx} {e e2 : Expr} {ta : TA} {p pos tpos : Pos} {elts : List Expr} {kk : Nat} (hg : Gl X "zip") (hm : X.mg "zip" = none) (ha : PA X [e, e2] ta)
    (hs : starEach [e, e2] X.env = (false, eval e X.env) :: starEach [e2] X.env := by rfl) (hpl : (backTo pos (starEach [e2] X.env)).any (·.1) = false := by rfl) :
    PI X (.Tuple elts kk tpos) (.Call (.Name "zip" p) [e, e2] [] pos) (iZipX X.K ta) := by
  refine ⟨fun pins s σ H R I h => ?_⟩
  refine Call_ (ld_blt I hg hm PyProof.Rows.boot_zip (PyProof.Rows.callWith_type1 (thn (ha.run pos pins s σ H _ I h) fun us s1 ⟨vs, H1, I1, r1, q1⟩ => ?_) hs hpl))
  obtain ⟨sa, sb, ex, ⟨xs, hqx⟩, ⟨ys, hqy⟩, q⟩ := q1
  subst ex
  obtain ⟨u1, u2, rfl, ra, rb⟩ := vals2 r1
  obtain ⟨m1, rfl, rfl⟩ := srm_of ra
  obtain ⟨m2, rfl, rfl⟩ := srm_of rb
  obtain ⟨Pa, Ba, pa, la⟩ := begins I1 hqx
  obtain ⟨Pb, Bb, pb, lb⟩ := begins I1 hqy
  refine zip_begins2 Ba Bb pa pb fun h' hz hTI hTO g1 g2 hsz hk => wpAny_pyIter_zip hz ?_
  have I2 : Inv X pins σ H1 { s1 with heap := h' } := I1.kept (t' := s1.toks) hk
  have fresh5 : ∀ c, c ∈ [s1.heap.objs.size + 4, s1.heap.objs.size + 2, s1.heap.objs.size + 3, s1.heap.objs.size, s1.heap.objs.size + 1] → FpOk X pins H1 c := fun c hcm => by
    have e' : c = s1.heap.objs.size + 4 ∨ c = s1.heap.objs.size + 2 ∨ c = s1.heap.objs.size + 3 ∨ c = s1.heap.objs.size ∨ c = s1.heap.objs.size + 1 := by simpa using hcm
    have hle : s1.heap.objs.size ≤ c := by
      rcases e' with z | z | z | z | z
      · rw [z]; exact Nat.le_add_right _ _
      · rw [z]; exact Nat.le_add_right _ _
      · rw [z]; exact Nat.le_add_right _ _
      · rw [z]; exact Nat.le_refl _
      · rw [z]; exact Nat.le_add_right _ _
    exact I1.fpOk hle (I1.hok.fresh hle)
  exact ⟨s1.heap.objs.size + 4, [s1.heap.objs.size + 4, s1.heap.objs.size + 2, s1.heap.objs.size + 3, s1.heap.objs.size, s1.heap.objs.size + 1], _, _, H1, rfl, I2,
    turn_x (zip_sep2 la lb) (fun hm => absurd (la _ hm) (Nat.lt_irrefl _)) (fun hm => absurd (lb _ hm) (by intro z; exact absurd z (Nat.not_lt.mpr (Nat.le_succ _)))), ⟨hz, hTI, ⟨_, _, hTO⟩, Srm.itBeg g1, Srm.itBeg g2⟩, fresh5, q⟩
theorem walk_x {K : PySem.W.Frag} {s1 s2 : Src} {G : Hp → Prop} {xs ys : List V} (h1 : ∀ H, G H → s1.rd K H xs) (h2 : ∀ H, G H → s2.rd K H ys) :
    L2.Walk (Itx K s1 s2) (min xs.length ys.length) G (L2.YPair (fun i => xs[i]?) fun i => ys[i]?) where
  goes := fun i H hi g => ⟨xs, ys, h1 H g, h2 H g, hi⟩
  stops := fun H g => ⟨xs, ys, h1 H g, h2 H g, rfl⟩
  yields := fun i H v H' hi g ⟨T, x, y, e, n, eh, q1, q2⟩ => ⟨T, x, y, e, n, eh, q1 _ (h1 H g), q2 _ (h2 H g)⟩
/-! enumerate of a list, a tuple, a text -/
set_option maxHeartbeats 4000000 in
theorem enum_new {v : Value} {o : Obj} {P : Heap → Prop} (B : Begins v o P) :
    Meets (Builtin.«enumerate.__new__» ⟨[.type "enumerate", v], []⟩) (fun _ R s => P s.heap ∧
      R (.ok (.ret (.ref (s.heap.push o).objs.size))) { s with heap := (s.heap.push o).push { cls := .type "enumerate", data := .fields #[.none, .bool false, .ref s.heap.objs.size, rawInt 0, .none, .none] } }) :=
  .of_wp fun prog w A R s hyp => by
    obtain ⟨hp, g, d, tk, os⟩ := s
    obtain ⟨h1, hyp⟩ := hyp
    have hsub := sub_enumerate
    have q1 : ∀ {A' : Around} {E : Value → Shared → Prop} {Q : Value → Shared → Prop}, Q (.ref hp.objs.size) ⟨hp.push o, g, d, tk, os⟩ → wpAny (model prog w) A' (pyIter v) Q E ⟨hp, g, d, tk, os⟩ :=
      fun q => B.iter prog w _ _ ⟨hp, g, d, tk, os⟩ _ h1 q
    wp_walk using q1
    refine wpAny_stack_any fun st => wpAny_pure ?_
    split
    · rename_i c _ _ _ _ _
      cases (c == Value.type "enumerate")
      · wp_walk using q1
        exact ⟨_, rfl, hyp⟩
      · wp_walk using q1
        exact ⟨_, rfl, hyp⟩
    · wp_walk using q1
      exact ⟨_, rfl, hyp⟩
theorem enum_call {prog : Program} {w : World} {A : Around} {E : Value → Shared → Prop} {s : Shared} {v : Value} {o : Obj} {P : Heap → Prop} {Q : Value → Shared → Prop} (B : Begins v o P) (h1 : P s.heap)
    (h : ∀ h', IsEnum h' (s.heap.objs.size + 1) s.heap.objs.size 0 .none → h'.get? s.heap.objs.size = some o → (∀ b u, s.heap.get? b = some u → h'.get? b = some u) → Q (.ref (s.heap.objs.size + 1)) { s with heap := h' }) :
    wpAny (model prog w) A (call (.type "enumerate") [v]) Q E s := by
  refine callType_new F.called_enumerate (by decide) (F.typeCall_enumerate_1 _) (F.newCall_enumerate_1 _) (fun obj => F.args_object_init_2 obj _) F.entry_enumerate_new
    (enum_new B) ⟨h1, ?_⟩
  have hz : (s.heap.push o).objs.size = s.heap.objs.size + 1 := Heap.size_push ..
  show _ ∧ _
  rw [hz]
  have he : IsEnum ((s.heap.push o).push { cls := .type "enumerate", data := .fields #[.none, .bool false, .ref s.heap.objs.size, rawInt 0, .none, .none] }) (s.heap.objs.size + 1) s.heap.objs.size 0 .none := by
    have z := Heap.get?_push_size (s.heap.push o) (o := { cls := .type "enumerate", data := .fields #[.none, .bool false, .ref s.heap.objs.size, rawInt 0, .none, .none] }) rfl
    rw [hz] at z
    exact z
  exact ⟨⟨_, he, rfl⟩, h _ he (Heap.get?_push_of_some _ (Heap.get?_push_size _ B.free)) fun b u x => Heap.get?_push_of_some _ (Heap.get?_push_of_some _ x)⟩
def Ity (K : PySem.W.Frag) (s1 : Src) : It :=
  ⟨fun i H => ∃ xs : List V, s1.rd K H xs ∧ i < xs.length,
    fun i H v H' => ∃ T y, v = .ref T ∧ H T = none ∧ H' = upd H T (.tup [.int (i : Nat), y]) ∧ ∀ xs, s1.rd K H xs → xs[i]? = some y,
    fun i H => ∃ xs : List V, s1.rd K H xs ∧ i = xs.length⟩
theorem turn_y {P : Program} {w : World} {K : PySem.W.Frag} {elts : List Expr} {kk : Nat} {tpos : Pos} {r1 : Srm} {e i1 : Addr} (n1 : i1 ∉ r1.ext) (he1 : e ≠ i1) (he2 : e ∉ r1.ext) :
    Turn P w K (.Tuple elts kk tpos) (Ity K r1.src) [e, i1] e (fun i h => (∃ old, IsEnum h e i1 ((0 : Int) + (i : Int)) old) ∧ r1.it i1 i h) where
  mem := by simp
  obj := fun i h st c hc => by
    obtain ⟨⟨old, he⟩, h1⟩ := st
    have e' : c = e ∨ c = i1 := by simpa using hc
    rcases e' with q | q
    · rw [q]; exact ⟨_, he, fun v q => nomatch q⟩
    · rw [q]; exact Srm.itObj h1
  keep := fun i h h' st k => by
    obtain ⟨⟨old, he⟩, h1⟩ := st
    exact ⟨⟨old, k e (by simp) _ he⟩, Srm.itAt h1 fun o q => k i1 (by simp) o q⟩
  item := by
    intro X hP hw hK hc i pins s σ H E I hf st hg
    subst hP hw hK
    obtain ⟨he, h1⟩ := st
    obtain ⟨xs, hqx, hlt⟩ := hg
    have hh : X.A.in1.handled = none := I.ok.hd hc
    obtain ⟨P1, S1, D1, a1, b1, c1⟩ := drawn I hh hqx n1
    have W := WalksT.enumFrom 0 D1 e he1 (by intro z; rcases List.mem_cons.mp z with z | z; exact he1 z; exact he2 z) List.mem_cons_self
    refine W.item i s _ _ hlt ⟨he, a1 i h1⟩ fun T vals h' tk hv hT hIs hM hk => ⟨.ref T, rfl, ?_⟩
    obtain ⟨t1, v1, p1, rfl⟩ := hv
    obtain ⟨x, hx, rx⟩ := c1 i v1 p1
    refine W.go elts kk tpos i T _ _ _ hM fun h'' hst hk2 => ?_
    have apT := W.apart i T h' hM
    obtain ⟨oT, hoT, hcT, nT, hdT⟩ := hIs
    have hoT2 := hk2 T oT apT hoT
    have e0 : (0 : Int) + (i : Int) = ((i : Nat) : Int) := by omega
    rw [e0] at hdT
    have new : ObjOk X.prog X.w (upd H T (.tup [.int (i : Nat), x])) h'' T (.tup [.int (i : Nat), x]) := ⟨by show 2 ≤ sizeLine; decide, [.int (i : Nat) t1, v1], .cons ⟨_, rfl⟩ (.cons rx .nil), ⟨oT, hoT2, hcT, nT, hdT⟩⟩
    have I1 : Inv X pins σ (upd H T (.tup [.int (i : Nat), x])) { s with heap := h'', toks := tk } :=
      I.turnedNew (t' := tk) (ch := [e, i1]) (fun c o hb q => hk2 c o hb (hk c o hb q)) hf hT new
    obtain ⟨ge, g1⟩ := hst
    refine ⟨.ref T, _, I1, rfl, ⟨T, x, rfl, I.hok.fresh hT, rfl, fun l hl => by rw [rd_inj I hl hqx]; exact hx⟩, ⟨ge, b1 _ _ g1⟩, fun c hcm => ?_⟩
    have hlt2 : c < s.heap.objs.size := by
      have e' : c = e ∨ c = i1 := by simpa using hcm
      obtain ⟨_, he⟩ := he
      rcases e' with q | q
      · rw [q]; exact Heap.lt_size he
      · rw [q]; obtain ⟨_, e1, _⟩ := Srm.itObj h1; exact Heap.lt_size e1
    rw [upd_ne (Nat.ne_of_lt (Nat.lt_of_lt_of_le hlt2 hT))]
    exact (hf c hcm).1
  done := by
    intro X hP hw hK hc i pins s σ H E I hf st hg
    subst hP hw hK
    obtain ⟨he, h1⟩ := st
    obtain ⟨xs, hqx, rfl⟩ := hg
    have hh : X.A.in1.handled = none := I.ok.hd hc
    obtain ⟨P1, S1, D1, a1, b1, c1⟩ := drawn I hh hqx n1
    have W := WalksT.enumFrom 0 D1 e he1 (by intro z; rcases List.mem_cons.mp z with z | z; exact he1 z; exact he2 z) List.mem_cons_self
    exact W.done s _ _ ⟨he, a1 _ h1⟩ fun h' tk hk => ⟨rfl, I.turnedL (t' := tk) (ch := [e, i1]) (fun c o hb q => hk c o hb q) hf⟩
  self := fun A i s Q E st h => let ⟨⟨_, he⟩, _⟩ := st; wpAny_pyIter_enum he h
def iEnumX (K : PySem.W.Frag) (ta : TA) : TI := fun σ H R => ta σ H fun vs H1 => ∃ s1 : Src, vs = [s1.v] ∧ (∃ xs, s1.rd K H1 xs) ∧ R (Ity K s1) H1
theorem pi_enumX {X : Cx} {e : Expr} {ta : TA} {p pos tpos : Pos} {elts : List Expr} {kk : Nat} (hg : Gl X "enumerate") (hm : X.mg "enumerate" = none) (ha : PA X [e] ta) (hs : starEach [e] X.env = [(false, eval e X.env)] := by rfl) :
    PI X (.Tuple elts kk tpos) (.Call (.Name "enumerate" p) [e] [] pos) (iEnumX X.K ta) := by
  refine ⟨fun pins s σ H R I h => ?_⟩
  refine Call_ (ld_blt I hg hm boot_enumerate (PyProof.Rows.callWith_type1 (thn (ha.run pos pins s σ H _ I h) fun us s1 ⟨vs, H1, I1, r1, q1⟩ => ?_) hs rfl))
  obtain ⟨sa, ex, ⟨xs, hqx⟩, q⟩ := q1
  subst ex
  cases r1 with
  | cons ra rr =>
    cases rr
    obtain ⟨m1, rfl, rfl⟩ := srm_of ra
    obtain ⟨Pa, Ba, pa, la⟩ := begins I1 hqx
    refine enum_call Ba pa fun h' he g1 hk => wpAny_pyIter_enum he ?_
    have I2 : Inv X pins σ H1 { s1 with heap := h' } := I1.kept (t' := s1.toks) hk
    refine ⟨s1.heap.objs.size + 1, [s1.heap.objs.size + 1, s1.heap.objs.size], _, _, H1, rfl, I2,
      turn_y (fun hm => absurd (la _ hm) (Nat.lt_irrefl _)) (Nat.succ_ne_self _) (fun hm => absurd (la _ hm) (by intro z; exact absurd z (Nat.not_lt.mpr (Nat.le_succ _)))), ⟨⟨.none, he⟩, Srm.itBeg g1⟩, fun b hb => ?_, q⟩
    have e' : b = s1.heap.objs.size + 1 ∨ b = s1.heap.objs.size := by simpa using hb
    have hle : s1.heap.objs.size ≤ b := by
      rcases e' with z | z
      · rw [z]; exact Nat.le_add_right _ _
      · rw [z]; exact Nat.le_refl _
    exact I1.fpOk hle (I1.hok.fresh hle)
theorem walk_y {K : PySem.W.Frag} {s1 : Src} {G : Hp → Prop} {xs : List V} (h1 : ∀ H, G H → s1.rd K H xs) :
    L2.Walk (Ity K s1) xs.length G (L2.YPair (fun i => some (.int (i : Nat))) fun i => xs[i]?) where
  goes := fun i H hi g => ⟨xs, h1 H g, hi⟩
  stops := fun H g => ⟨xs, h1 H g, rfl⟩
  yields := fun i H v H' hi g ⟨T, x, e, n, eh, q1⟩ => ⟨T, _, x, e, n, eh, rfl, q1 _ (h1 H g)⟩
end XgIter
namespace XgSet
open PySem PySem.Spec PyProof.Rows L2
/-- set(t), t a tuple of ints -/
def rSetT (K : PySem.W.Frag) (w : World) : List V → Hp → VK → Prop := fun xs H Q => ∃ (l : Addr) (ns : List Int), xs = [.ref l] ∧ SqT K H l (ns.map V.int) ∧ ns.length ≤ 50 ∧
  ∀ (a : Addr) (c : Nat), H a = none → c ≤ ns.length → Q (.ref a) (upd H a (SetO w a (fun j => decide (j ∈ ns)) c))
theorem cr_setT {X : Cx} (hc : X.calm = true) : CallR X (.type "set") (rSetT X.K X.w) := by
  intro pins s σ H xs us Q I r h
  obtain ⟨l, ns, rfl, hq, hl, q⟩ := h
  cases r with
  | cons r rr =>
    cases rr
    cases r
    obtain ⟨its, rv, pt, hz⟩ := I.tuple hq
    have hi : IntsAre its.toArray.toList ns := ints_of_vals rv
    have hd := I.ok.hd hc
    refine call_set_tupI ns hd (show s.heap.IsTuple l its.toArray from pt) hi (by unfold scanBound; omega) fun h' tk c R1 hcn k => ?_
    have hn : H s.heap.objs.size = none := I.hok.fresh (Nat.le_refl _)
    exact ⟨.ref s.heap.objs.size, _, I.laid (t' := tk) k (Nat.le_refl _) (setO_new R1), rfl, q _ c hn hcn⟩
end XgSet
namespace Xg
open PySem L2
/-! ### tuples of the written part, read by a computation -/
def kTup (K : PySem.W.Frag) (a : Addr) : Option (List Value) := match K.lookup a with
  | some ⟨.type "tuple", _, .seq its _, _⟩ => if its.size ≤ 1000 then some its.toList else none
  | _ => none
theorem kTup_sq {K : PySem.W.Frag} {a : Addr} {us : List Value} (h : kTup K a = some us) {xs : List V} (r : Vals xs us) (H : Hp) : SqT K H a xs := by
  unfold kTup at h
  split at h
  · rename_i d its n sl e
    split at h
    · rename_i hz
      cases h
      exact Or.inr ⟨_, its, n, e, rfl, rfl, Nat.le_trans hz (by decide), r⟩
    · cases h
  · cases h
def strsV : List Value → List Str → Bool
  | [], [] => true
  | .str x _ :: us, z :: zs => decide (x = z) && strsV us zs
  | _, _ => false
theorem strsV_vals : ∀ {us : List Value} {zs : List Str}, strsV us zs = true → Vals (zs.map V.str) us
  | [], [], _ => .nil
  | [], _ :: _, h => by simp [strsV] at h
  | u :: us, [], h => by cases u <;> simp [strsV] at h
  | u :: us, z :: zs, h => by
    cases u with
    | str x t =>
      have h' : (decide (x = z) && strsV us zs) = true := h
      obtain ⟨h1, h2⟩ := Bool.and_eq_true_iff.mp h'
      have e := of_decide_eq_true h1
      subst e
      exact .cons ⟨t, rfl⟩ (strsV_vals h2)
    | _ => simp [strsV] at h
def strsB (K : PySem.W.Frag) (a : Addr) (zs : List Str) : Bool := match kTup K a with
  | some us => strsV us zs
  | none => false
theorem strsB_sq {K : PySem.W.Frag} {a : Addr} {zs : List Str} (h : strsB K a zs = true) (H : Hp) : SqT K H a (zs.map V.str) := by
  unfold strsB at h
  split at h
  · rename_i us e
    exact kTup_sq e (strsV_vals h) H
  · cases h
def pairsV (K : PySem.W.Frag) : List Value → List (Str × Str) → Bool
  | [], [] => true
  | .ref b :: us, z :: zs => strsB K b [z.1, z.2] && pairsV K us zs
  | _, _ => false
theorem pairsV_as {K : PySem.W.Frag} : ∀ {us : List Value} {zs : List (Str × Str)}, pairsV K us zs = true → ∃ as : List Addr, as.length = zs.length ∧ Vals (as.map V.ref) us ∧
    ∀ (i : Nat) (b : Addr) (z : Str × Str), as[i]? = some b → zs[i]? = some z → ∀ H, SqT K H b [V.str z.1, V.str z.2]
  | [], [], _ => ⟨[], rfl, .nil, fun i b z h => by simp at h⟩
  | [], _ :: _, h => by simp [pairsV] at h
  | u :: us, [], h => by cases u <;> simp [pairsV] at h
  | u :: us, z :: zs, h => by
    cases u with
    | ref b =>
      have h' : (strsB K b [z.1, z.2] && pairsV K us zs) = true := h
      obtain ⟨h1, h2⟩ := Bool.and_eq_true_iff.mp h'
      obtain ⟨as, l, v, k⟩ := pairsV_as h2
      refine ⟨b :: as, by simp [l], .cons rfl v, fun i b' z' e1 e2 H => ?_⟩
      cases i with
      | zero =>
        have q1 : b = b' := by simpa using e1
        have q2 : z = z' := by simpa using e2
        subst q1
        subst q2
        exact strsB_sq h1 H
      | succ i => exact k i b' z' (by simpa using e1) (by simpa using e2) H
    | _ => simp [pairsV] at h
def pairsB (K : PySem.W.Frag) (a : Addr) (zs : List (Str × Str)) : Bool := match kTup K a with
  | some us => pairsV K us zs
  | none => false
theorem pairsB_sq {K : PySem.W.Frag} {a : Addr} {zs : List (Str × Str)} (h : pairsB K a zs = true) : ∃ as : List Addr, as.length = zs.length ∧ (∀ H, SqT K H a (as.map V.ref)) ∧
    ∀ (i : Nat) (b : Addr) (z : Str × Str), as[i]? = some b → zs[i]? = some z → ∀ H, SqT K H b [V.str z.1, V.str z.2] := by
  unfold pairsB at h
  split at h
  · rename_i us e
    obtain ⟨as, l, v, k⟩ := pairsV_as h
    exact ⟨as, l, fun H => kTup_sq e v H, k⟩
  · cases h
/-! ### a def of the text as its callers see it -/
structure Df (K : PySem.W.Frag) (mg : Str → Option Value) (x qual : Str) (st : Stmt) (f : Addr) (ps : List Str) : Prop where
  g : mg x = some (.ref f)
  k : PySem.W.keepIn K (.ref f) = true
  ex : ∃ fd, Fun K x qual st f fd ∧ Binds K fd ps []
/-! ### heaps -/
theorem same_new {H H' : Hp} {p : Addr} {o : HO} (e : Same H H') (h : H' p = none) : Same H (upd H' p o) := fun b u q => by
  rw [upd_ne (ne_of_none (e b u q) h)]
  exact e b u q
theorem same_mut {H H' : Hp} {p : Addr} {o : HO} (e : Same H H') (h : H p = none) : Same H (upd H' p o) := fun b u q => by
  rw [upd_ne (ne_of_none q h)]
  exact e b u q
theorem same_sqT {K : PySem.W.Frag} {H H' : Hp} {a : Addr} {xs : List V} (e : Same H H') (h : SqT K H a xs) : SqT K H' a xs := by
  rcases h with (h | ⟨o, h⟩) | h
  · exact .inl (.inl (e _ _ h))
  · exact .inl (.inr ⟨o, e _ _ h⟩)
  · exact .inr h
theorem sz1000 {n : Nat} (h : n ≤ 1000) : n ≤ sizeLine := Nat.le_trans h (by decide)
theorem lt1000 {n : Nat} (h : n ≤ 1000) : n < sizeLine := Nat.lt_of_le_of_lt h (by decide)
/-! ### the row of digits -/
structure Dig (row : List Int) : Prop where
  lo : ∀ v ∈ row, 0 ≤ v ∧ v < 16
def pick (row : List Int) (i : Int) (m : Int) : Int := (row.getD i.toNat 0 + 16 * row.getD (i.toNat + 1) 0) % m
theorem pick_lo {row : List Int} {i m : Int} (h : 0 < m) : 0 ≤ pick row i m := Int.emod_nonneg _ (by omega)
theorem pick_hi {row : List Int} {i m : Int} (h : 0 < m) : pick row i m < m := Int.emod_lt_of_pos _ h
def spRow (K : PySem.W.Frag) : Sp := fun vs H Q _ => ∃ (a : Addr) (ns : List Int) (m : Int), vs = [.ref a, .int m] ∧ SqL K H a (ns.map V.int) ∧ ns.length ≤ 63 ∧ 0 ≤ m ∧ m ≤ 900 ∧
  ∀ (H' : Hp) (p : Addr) (row : List Int), Same H H' → H p = none → H' p = some (.lst (row.map V.int)) → (row.length : Int) ≤ m → Dig row → Q (.ref p) H'
def spPick (K : PySem.W.Frag) : Sp := fun vs H Q _ => ∃ (a : Addr) (row : List Int) (i m : Int), vs = [.ref a, .int i, .int m] ∧ SqL K H a (row.map V.int) ∧ Dig row ∧ 0 ≤ i ∧ i < 100000 ∧ 0 < m ∧ Q (.int (pick row i m)) H
theorem atI_int {row : List Int} {i : Int} (h0 : 0 ≤ i) (h1 : i < (row.length : Int)) : atI (row.map V.int) i = some (.int (row.getD i.toNat 0)) := by
  obtain ⟨k, rfl⟩ := Int.eq_ofNat_of_zero_le h0
  have hk : k < row.length := by omega
  refine (atI_nat (xs := row.map V.int) (j := k) (v := .int (row.getD k 0)) ?_)
  rw [List.getElem?_map, List.getElem?_eq_getElem hk]
  simp [List.getD, List.getElem?_eq_getElem hk]
theorem getD_out {row : List Int} {k : Nat} (h : row.length ≤ k) : row.getD k 0 = 0 := by
  simp [List.getD, List.getElem?_eq_none h]
theorem dig_getD {row : List Int} (d : Dig row) (k : Nat) : 0 ≤ row.getD k 0 ∧ row.getD k 0 < 16 := by
  by_cases h : k < row.length
  · have e : row.getD k 0 = row[k] := by simp [List.getD, List.getElem?_eq_getElem h]
    rw [e]
    exact d.lo _ (List.getElem_mem h)
  · rw [getD_out (by omega)]
    omega
theorem dig_nil : Dig [] := ⟨fun v hv => nomatch hv⟩
theorem dig_more {row : List Int} {v : Int} (d : Dig row) (h0 : 0 ≤ v) (h1 : v < 16) : Dig (row ++ [v]) := ⟨fun u hu => by
  rcases List.mem_append.mp hu with hu | hu
  · exact d.lo u hu
  · rw [List.mem_singleton.mp hu]
    exact ⟨h0, h1⟩⟩
end Xg
namespace Xg
open PySem L2
open PySem.Spec PyProof.Rows
section
variable {X : Cx} {tg : Expr}
/-- a for over a list or a tuple -/
def iSeq (K : PySem.W.Frag) (tl : TE) : TI := fun σ H R => tl σ H fun x H1 => ∃ a, x = .ref a ∧ (((∃ xs, SqL K H1 a xs) ∧ R (Itl K a) H1) ∨ ((∃ xs, SqT K H1 a xs) ∧ R (Itt K a) H1))
theorem pi_seq {l : Expr} {tl : TE} (hl : PE X l tl) : PI X tg l (iSeq X.K tl) := by
  refine ⟨fun pins s σ H R I h => ?_⟩
  refine thn (hl.run pins s σ H _ I h) fun v s1 ⟨x, H1, I1, r1, q1⟩ => ?_
  obtain ⟨a, e, q1⟩ := q1
  subst e
  cases r1
  rcases q1 with ⟨⟨xs, hq⟩, q⟩ | ⟨⟨xs, hq⟩, q⟩
  · obtain ⟨its, rv, p, hz⟩ := I1.list hq
    refine wpAny_pyIter_list p.isList ?_
    refine ⟨s1.heap.objs.size, [s1.heap.objs.size], _, _, H1, rfl, I1.kept (t' := s1.toks) fun b o e => Heap.get?_push_of_some _ e, turn_list a _, ⟨_, Heap.get?_push_size _ rfl, rfl, rfl⟩, fun b hb => ?_, q⟩
    have e : b = s1.heap.objs.size := by simpa using hb
    subst e
    exact I1.fpOk (Nat.le_refl _) (I1.hok.fresh (Nat.le_refl _))
  · obtain ⟨its, rv, p, hz⟩ := I1.tuple hq
    refine wpAny_pyIter_tuple (show s1.heap.IsTuple a its.toArray from p) ?_
    refine ⟨s1.heap.objs.size, [s1.heap.objs.size], _, _, H1, rfl, I1.kept (t' := s1.toks) fun b o e => Heap.get?_push_of_some _ e, turn_tuple a _, ⟨_, Heap.get?_push_size _ rfl, rfl, rfl⟩, fun b hb => ?_, q⟩
    have e : b = s1.heap.objs.size := by simpa using hb
    subst e
    exact I1.fpOk (Nat.le_refl _) (I1.hok.fresh (Nat.le_refl _))
end
/-! ### data -/
theorem dpAll_ints {K : PySem.W.Frag} {H : Hp} : ∀ ns : List Int, DpAll K H (ns.map V.int) (ns.map PyData.int)
  | [] => .nil
  | n :: r => .cons (.int n) (dpAll_ints r)
theorem dp_L {K : PySem.W.Frag} {H : Hp} {a : Addr} {ns : List Int} (h : SqL K H a (ns.map V.int)) : Dp K H (.ref a) (.list (ns.map PyData.int)) := .lst h (dpAll_ints ns)
theorem dp_T {K : PySem.W.Frag} {H : Hp} {a : Addr} {ns : List Int} (h : SqT K H a (ns.map V.int)) : Dp K H (.ref a) (.tuple (ns.map PyData.int)) := .tup h (dpAll_ints ns)
theorem sh_L (ns : List Int) : PySem.SeqAt.shaped (.list (ns.map PyData.int)) = true := PySem.W.shaped_ints ns
theorem sh_T (ns : List Int) : PySem.SeqAt.shaped (.tuple (ns.map PyData.int)) = true := by
  have h1 := PySem.W.depthAll_ints ns
  have h2 : PyData.depth (.tuple (ns.map PyData.int)) ≤ 64 := by simp only [PyData.depth]; omega
  show (PyData.canLay0 (.tuple (ns.map PyData.int)) && decide (PyData.depth (.tuple (ns.map PyData.int)) ≤ 64)) = true
  rw [Bool.and_eq_true]
  exact ⟨by simp only [PyData.canLay0]; exact PySem.W.canLayAll0_ints ns, decide_eq_true h2⟩
theorem ev_L (ns : List Int) : PyData.eqv (.list (ns.map PyData.int)) (.list (ns.map PyData.int)) = true := PySem.SeqAt.eqv_refl _ (PySem.SeqAt.canLay_of_shaped (sh_L ns))
theorem ev_T (ns : List Int) : PyData.eqv (.tuple (ns.map PyData.int)) (.tuple (ns.map PyData.int)) = true := PySem.SeqAt.eqv_refl _ (PySem.SeqAt.canLay_of_shaped (sh_T ns))
end Xg
namespace Xg
open PySem L2
open PySem.Spec PyProof.Rows
/-! ### lists of texts as data -/
theorem dpAll_strs {K : PySem.W.Frag} {H : Hp} : ∀ zs : List Str, DpAll K H (zs.map V.str) (zs.map PyData.str)
  | [] => .nil
  | n :: r => .cons (.str n) (dpAll_strs r)
theorem dp_LS {K : PySem.W.Frag} {H : Hp} {a : Addr} {zs : List Str} (h : SqL K H a (zs.map V.str)) : Dp K H (.ref a) (.list (zs.map PyData.str)) := .lst h (dpAll_strs zs)
theorem lay_strs : ∀ zs : List Str, (∀ z ∈ zs, PyData.strOk z = true) → PyData.canLayAll0 (zs.map PyData.str) = true
  | [], _ => by simp [PyData.canLayAll0]
  | z :: r, h => by simp [PyData.canLayAll0, PyData.canLay0, lay_strs r fun y hy => h y (List.mem_cons_of_mem _ hy), h z List.mem_cons_self]
theorem deep_strs : ∀ zs : List Str, PyData.depthAll (zs.map PyData.str) ≤ 1
  | [] => by simp [PyData.depthAll]
  | _ :: r => by
    have q := deep_strs r
    simp only [List.map_cons, PyData.depthAll, PyData.depth]
    omega
theorem sh_LS {zs : List Str} (h : ∀ z ∈ zs, PyData.strOk z = true) : PySem.SeqAt.shaped (.list (zs.map PyData.str)) = true := by
  have h1 := deep_strs zs
  have h2 : PyData.depth (.list (zs.map PyData.str)) ≤ 64 := by simp only [PyData.depth]; omega
  show (PyData.canLay0 (.list (zs.map PyData.str)) && decide (PyData.depth (.list (zs.map PyData.str)) ≤ 64)) = true
  rw [Bool.and_eq_true]
  exact ⟨by simp only [PyData.canLay0]; exact lay_strs zs h, decide_eq_true h2⟩
theorem ev_LS {zs : List Str} (h : ∀ z ∈ zs, PyData.strOk z = true) : PyData.eqv (.list (zs.map PyData.str)) (.list (zs.map PyData.str)) = true := PySem.SeqAt.eqv_refl _ (PySem.SeqAt.canLay_of_shaped (sh_LS h))
end Xg
namespace Xg
open PySem L2 PySem.Spec PyProof.Rows
/-! ### what the top has left, told by one computation -/
def fnD (x : Str) (st : Stmt) : He.FnD := ⟨(x, none), x, x, defArgs st, defBody st, defScope st⟩
theorem df_mk {K : PySem.W.Frag} {h : Heap} {mg : Str → Option Value} {x : Str} {st : Stmt} {ps : List Str} (X : K.In h) (G : h.Ns mainGlobals mg) {fa : List He.Fa} {fn : List He.FnD} (c : He.SaysE fa fn K) (i : Nat)
    (h1 : fn[i]? = some (fnD x st)) (h2 : fa[2 * i]? = some (.glo x)) (h3 : fa[2 * i + 1]? = some (.keep x))
    (b : ∀ (kV doc pm : Value) (an : Option Addr) (cdv ct : Value) (us : List Value), us.length = ps.length → bindArgs (PySem.W.fnOf x x (defArgs st) (defBody st) (defScope st) .none kV doc pm an cdv ct) ⟨us, []⟩ = pure (ps.zip us)) :
    Df K mg x x st (He.ga K x) ps := by
  obtain ⟨oc, od, osl, kV, doc, pm, an, cdv, ct, l, cd⟩ := c.def_ i h1
  have k := He.keep_ok (c.fact _ h3)
  have F : Fun K x x st (He.ga K x) _ := fun_mk l cd k
  exact ⟨He.glo_ok X G (c.fact _ h2), k, _, F, F.binds b⟩
def kInt (K : PySem.W.Frag) (a : Addr) (x : Str) (i : Int) : Bool := match PySem.W.nsIn K a x with
  | some (some (.int j _)) => decide (j = i)
  | _ => false
theorem kInt_ok {K : PySem.W.Frag} {a : Addr} {x : Str} {i : Int} (h : kInt K a x i = true) : ∃ u, PySem.W.nsIn K a x = some (some u) ∧ RelV (.int i) u := by
  unfold kInt at h
  split at h
  · rename_i j t e
    have q := of_decide_eq_true h
    subst q
    exact ⟨_, e, t, rfl⟩
  · cases h
def dObs (K : PySem.W.Frag) (a : Addr) : Option (Bool × List (Option Str × Int)) := match K.lookup a with
  | some ⟨c, none, .dict es _, sl⟩ => some (decide (c = .type "dict") && decide (sl.size = 0), es.toList.map fun e => ((match e.key with
    | .str x _ => some x
    | _ => none), e.hash))
  | _ => none
theorem keys_of {P : Params} : ∀ {es : List DictEntry} {zs : List Str}, (es.map fun e => ((match e.key with
    | .str x _ => some x
    | _ => none : Option Str), e.hash)) = zs.map (fun x => (some x, PyData.keyHash P x)) → PySem.W.KeysLit P es
  | [], _, _ => True.intro
  | _ :: _, [], h => by cases h
  | e :: es, z :: zs, h => by
    rw [List.map_cons, List.map_cons] at h
    injection h with h1 h2
    injection h1 with h3 h4
    refine ⟨?_, keys_of h2⟩
    cases hk : e.key with
    | str x t =>
      rw [hk] at h3
      have h5 : some x = some z := h3
      cases h5
      exact ⟨z, t, rfl, h4⟩
    | _ =>
      rw [hk] at h3
      cases h3
theorem dObs_ok {K : PySem.W.Frag} {P : Params} {a : Addr} {zs : List Str} (h : dObs K a = some (true, zs.map fun x => (some x, PyData.keyHash P x))) : ∃ es n, K.lookup a = some ⟨.type "dict", none, .dict es n, #[]⟩ ∧ PySem.W.KeysLit P es.toList := by
  unfold dObs at h
  split at h
  · rename_i c es n sl e
    injection h with h
    injection h with h1 h2
    obtain ⟨h3, h4⟩ := Bool.and_eq_true_iff.mp h1
    have h5 := of_decide_eq_true h3
    have h6 := Array.eq_empty_of_size_eq_zero (of_decide_eq_true h4)
    subst h5 h6
    exact ⟨es, n, e, keys_of h2⟩
  · cases h
end Xg
namespace Xg
open PySem L2 PySem.Spec PyProof.Rows
/-- an own error's class and its maker, told by rows that each compute -/
theorem stxt_mk {P : Program} {K : PySem.W.Frag} {h : Heap} {mg : Str → Option Value} {x f txt : Str} {C fI : Addr} (X : K.In h) (G : h.Ns mainGlobals mg) (fok : XgSup.FOk f)
    (gC : PySem.W.nsIn K mainGlobals x = some (some (.ref C)))
    (iC : PySem.W.findIn K (.ref C) "__init__" = some (some (.ref fI)))
    {nm q N bs bm sn sub ab col dd k0 k1 k2 k3 k5} (cl1 : K.lookup C = some (excClassObj nm q C N bs bm true sn sub ab col dd k0 k1 k2 k3 k5 "ValueError.__new__")) (cl2 : HandSPX.refsVE bm = true)
    (sa : PySem.W.findIn K (.ref C) "__setattr__" = some (some (.builtin "object.__setattr__")))
    (ga : PySem.W.findIn K (.ref C) "__getattribute__" = some (some (.builtin "BaseException.__getattribute__")))
    (gg : PySem.W.findIn K (.ref C) "__getattr__" = some none) (noN : PySem.W.findIn K (.ref C) f = some none)
    (tC : PySem.W.typeIn K (.ref fI) = some (.type "function")) (kC : PySem.W.keepIn K (.ref C) = true)
    (exC : PySem.W.subIn K (.ref C) (.type "BaseException") = some true) (veC : PySem.W.subIn K (.ref C) (.type "ValueError") = some true)
    (tyC : PySem.W.typeIn K (.ref C) = some (.type "type")) (hdC : PySem.W.hasDictIn K C = true)
    (sup : PySem.W.ks_superIn K C C "__init__" = some (some (.builtin "ValueError.__init__"))) (slf : PySem.W.mroIn K C (.ref C) = some true)
    (nop : PySem.W.nsIn K cStatics "thirdparty.any" = some none) (gS : PySem.W.nsIn K mainGlobals "super" = some none)
    (tops : (P.main.scope.names.lookup ("super" : Str)).isSome = false)
    {qual : Str} {oc : Value} {od : Option Addr} {doc pm : Value} {an : Option Addr} {cda cc : Addr} {ct : Value} {osl : Array (Option Value)} {p1 p2 a1 a2 a3 a4 a5 b1 b2 b3 b4 c1 c2 c3 c4 : Pos}
    {ccl : Value} {cdd : Option Addr} {vs : Array Value} {ccs : Array (Option Value)} {file : Str} {tf : Tok} {cl : Value} {cld : Option Addr} {csl : Array (Option Value)}
    (g1 : K.lookup fI = some ⟨oc, od, .func (PySem.W.ksFn "__init__" qual (XgSup.mA f p1 p2) (XgSup.mB f txt a1 a2 a3 a4 a5 b1 b2 b3 b4 c1 c2 c3 c4) (XgSup.mS f) .none .none doc pm an (.ref cda) ct cc), osl⟩)
    (g2 : PySem.W.codeIn K (.ref cda) qual = true)
    (g3 : K.lookup cda = some ⟨ccl, cdd, .fields vs, ccs⟩) (g4 : vs[2]? = some (.str file tf)) (g5 : ((P.main.file : Str) == file) = true)
    (g6 : K.lookup cc = some ⟨cl, cld, .cell (some (.ref C)), csl⟩) (g7 : XgSup.AskOk qual f txt a1 a2 a3 a4 b1 b2 b3 b4 fI cda cc) :
    XgSup.STxt P K mg x f txt C fI :=
  ⟨fok, PySem.W.mg_of X G gC, ⟨_, _, _, _, _, _, _, _, _, _, _, _, _, _, _, cl1, cl2⟩, sa, ga, gg, noN, iC, tC, kC, exC, veC, tyC, hdC, sup, slf, nop, PySem.W.mg_none_of X G gS, tops,
    ⟨_, _, _, _, _, _, _, _, _, _, _, _, _, _, _, _, _, _, _, _, _, _, _, _, _, _, _, _, _, _, _, _, _, _, g1, g2, g3, g4, g5, g6, g7⟩⟩
theorem excC_mk {K : PySem.W.Frag} {D : Addr} (h1 : PySem.W.findIn K (.ref D) "__getattribute__" = some (some (.builtin "BaseException.__getattribute__"))) (h2 : PySem.W.findIn K (.ref D) "__getattr__" = some none)
    (h3 : PySem.W.subIn K (.ref D) (.type "BaseException") = some true) (h4 : PySem.W.hasDictIn K D = true) (h5 : PySem.W.findIn K (.ref D) "__class__" = some (some (.builtin "object.__class__")))
    (h6 : PySem.W.specialIn K (.builtin "object.__class__") "__get__" = some (some (.builtin "getset_descriptor.__get__"))) (h7 : PySem.W.takesIn K (.builtin "object.__class__") = some true) (h8 : PySem.W.mroIn K D (.type "object") = some true) : ExcC K D :=
  ⟨h1, h2, h3, h4, h5, h6, h7, h8⟩
end Xg
namespace XgOwn
open PySem PySem.Spec PyProof.Rows L2
/-! ### a def whose promise may know how many objects there are when it starts -/
structure FnS (P : Program) (w : World) (K : PySem.W.Frag) (mg : Str → Option Value) (base : Heap) (k : Nat) (f : Addr) (fd : FuncData) (ps : List Str) (sp : Nat → Sp) : Prop where
  ln : ∀ n vs H Q E, sp n vs H Q E → vs.length = ps.length
  go : ∀ {A : Around} {outer : List Env} {s : Shared} {H : Hp} {args : Args} {us : List Value} {vs : List V} {Q : VK}, Room k A → Env0 P w K mg base A outer s H → BindsTo s fd args (ps.zip us) → Vals vs us → sp s.heap.objs.size vs H Q E0 →
    codeAny (model P w) A (.call (.ref f) args) (CR CX0 outer P w H s Q E0) s
section
variable {P : Program} {w : World} {K : PySem.W.Frag} {mg : Str → Option Value} {base : Heap}
theorem fnS_mk {x qual : Str} {st : Stmt} {f : Addr} {fd : FuncData} {N ps : List Str} {k : Nat} {sp : Nat → Sp} (F : Fun K x qual st f fd) (S : FnScope N ps (defScope st)) (ln : ∀ n vs H Q E, sp n vs H Q E → vs.length = ps.length)
    (hb : ∀ (cdv : Value) (A : Around) (outer : List Env) (s : Shared) (H : Hp) (vs : List V) (Q : VK), Room k (A.deeper (envOfC qual (defScope st) s.heap.objs.size f cdv)) → sp s.heap.objs.size vs H Q E0 →
      ∃ t, PSs (cxOf CX0 P w K mg base N qual (defScope st) f cdv A outer s H E0).nox (defBody st) t ∧ t { nx := fun _ H' => Q .non H', rt := Q } (start N vs) H) : FnS P w K mg base (k + 1) f fd ps sp := by
  obtain ⟨oc, od, kV, doc, pm, an, cdv, ct, osl, rfl, lk, hcd⟩ := F.ex
  refine ⟨ln, fun {A outer s H args us vs Q} hr e0 bt r hsp => ?_⟩
  have hl := ln _ _ _ _ _ hsp
  have kx : K.In s.heap := e0.mod.kin.keeps fun b o e => And.left (e0.bs b o e)
  have nl : s.heap.NoLimit := e0.mod.nolimit.keeps fun b o e => And.left (e0.bs b o e)
  refine codeAny_call_function hr.depth (kx _ _ lk) rfl S.co S.gen rfl (PySem.W.codeRec_of kx hcd) (bt _ _ _ _ ?_)
  refine wpAny_newFunctionEnv_cells S.kind ?_ fun env he s1 x => ?_
  · rintro ⟨n, v⟩ hy
    rcases S.par n (List.of_mem_zip hy).1 with q | q
    · exact Or.inl q
    · exact Or.inr ⟨q, PySem.W.cellsFrom_some _ _ _ (Or.inl q)⟩
  subst he
  refine ⟨nl.keeps x.toInCall.keep, codeAny_func ?_⟩
  obtain ⟨t, ht, hq⟩ := hb cdv A outer s H vs Q (hr.deeper _) hsp
  have I : Inv (cxOf CX0 P w K mg base N qual (defScope st) f cdv A outer s H E0) [] (start N vs) H s1 := inv_start S hr.hd e0 hl r x
  refine wpAny_mono (ht.nox.run [] s1 (start N vs) H _ I hq) (fun fl s' hs => ?_) fun e s' hs => hs
  cases fl with
  | ret u =>
    obtain ⟨v, _, H', J, rv, q⟩ := hs
    exact ⟨v, H', J.os, J.bare, J.base, J.hok, rv, q⟩
  | next =>
    obtain ⟨_, H', J, q⟩ := hs
    exact ⟨V.non, H', J.os, J.bare, J.base, J.hok, rfl, q⟩
  | brk =>
    obtain ⟨_, _, _, q⟩ := hs
    exact q.elim
  | cont =>
    obtain ⟨_, _, _, q⟩ := hs
    exact q.elim
end
section
variable {X : Cx} {k : Nat} {f : Addr} {fd : FuncData} {ps : List Str} {sp : Nat → Sp}
theorem runS {A1 : Around} {pins : List (Addr × Obj)} {σ : L2.St} {H : Hp} {s : Shared} {Q : VK} {us : List Value} {vs : List V} (F : FnS X.prog X.w X.K X.mg X.base k f fd ps sp) (sb : Sub X k A1) (hb : Binds X.K fd ps [])
    (I : Inv X pins σ H s) (r : Vals vs us) (h : sp s.heap.objs.size vs H Q E0) : wpAny (model X.prog X.w) A1 (call (.ref f) us) (EP X pins σ Q) X.xe s := by
  have e := I.env0
  have e0 : Env0 X.prog X.w X.K X.mg X.base A1 X.stack s H := ⟨sb.fr.trans e.frames, e.mod, e.bs, e.bsz, e.funs, e.frf, e.hok, e.bare⟩
  have hl : us.length = ps.length := r.length.symm.trans (F.ln _ _ _ _ _ h)
  have bt := hb s us I.kIn (by simpa using hl)
  rw [List.append_nil] at bt
  refine wpAny_call (codeAny_mono (F.go sb.room e0 bt r h) fun r s' hq => ?_)
  cases r with
  | error e => exact hq.elim
  | ok fl =>
    cases fl with
    | ret u => exact I.after hq
    | _ => exact hq.elim
end
end XgOwn
namespace XgOwn
open PySem PySem.Spec PyProof.Rows L2
/-! ### a tuple's iterator, known by its one object -/
def tiObj (t : Addr) (i : Nat) : Obj := { cls := .type "tuple_iterator", data := .fields #[.ref t, .int i 0] }
def TiO (t it : Addr) : HO := .ext fun h => h.get? it = some (tiObj t 0)
theorem tiO_ok {P : Program} {w : World} {H : Hp} {h : Heap} {t it : Addr} (e : h.get? it = some (tiObj t 0)) : ObjOk P w H h it (TiO t it) := ⟨e, ⟨_, e⟩, fun h1 h2 q k => k _ q⟩
section
variable {X : Cx}
/-- iter(xs), xs a tuple -/
def rIterT (K : PySem.W.Frag) (n : Nat) : List V → Hp → VK → Prop := fun xs H Q => ∃ (t : Addr) (zs : List V), xs = [.ref t] ∧ SqT K H t zs ∧ ∀ it, H it = none → n ≤ it → Q (.ref it) (upd H it (TiO t it))
theorem call_iterT : CallR X (.builtin "iter") (rIterT X.K X.s_0.heap.objs.size) := by
  intro pins s σ H xs us Q I r h
  obtain ⟨t, zs, rfl, hq, q⟩ := h
  obtain ⟨u, rfl, ru⟩ := r.one
  cases ru
  obtain ⟨its, rv, pt, hz⟩ := I.tuple hq
  refine Calls.call_function_entry (by decide +kernel) (by decide +kernel) PySem.W.kdk_entry_iter (PySem.W.kdk_args_iter _) ?_
  unfold Builtin.«iter»
  refine wpAny_bind (m := someArgs "iter" 1 2 _) (wpAny_of_eq (a := [Value.ref t]) (by first | rfl | kernel_rfl!) ?_)
  show wpAny _ _ (pyIter (.ref t) >>= _) _ _ _
  refine wpAny_bind (wpAny_pyIter_tuple (show s.heap.IsTuple t its.toArray from pt) ?_)
  refine wpAny_pure ⟨.ref s.heap.objs.size, rfl, ?_⟩
  exact ⟨.ref s.heap.objs.size, _, I.laid (t' := s.toks) (fun b u e => Heap.get?_push_of_some _ e) (Nat.le_refl _) (tiO_ok (Heap.get?_push_size _ rfl)), rfl, q _ (I.hok.fresh (Nat.le_refl _)) I.sz⟩
end
/-! ### own operators, own in -/
section
variable {X : Cx} {C f a : Addr} {fd : FuncData} {ps : List Str} {sp : Sp} {k : Nat} {E : XK} {CI : CXT}
/-- x OP y, both of the class at C, by its own def: sp is the def's promise -/
def rOpO (C : Addr) (sp : Sp) (E : XK) : R2 := fun x y H Q => ∃ a b dx dy fs gs, x = .ref a ∧ y = .ref b ∧ H a = some (.ins C dx fs) ∧ H b = some (.ins C dy gs) ∧ sp [.ref a, .ref b] H (fun v H' => (∃ p, v = .ref p) ∧ Q v H') E
theorem op_own {op : Operator} (FN : FnOk X.prog X.w X.K X.mg X.base CI k f fd ps sp) (hr : Room k X.A) (hb : Binds X.K fd ps []) (hx : Passes CI X E) (hc : PySem.W.selfFirst X.K C = true)
    (hs : PySem.W.findIn X.K (.ref C) (PySem.dunder op.info.2) = some (some (.ref f))) (hf : PySem.W.isFn X.K (.ref f) = true) : OpR X (binaryOp op) (rOpO C sp E) := by
  intro pins s σ H x y v u Q I rx ry h
  obtain ⟨a, b, dx, dy, fs, gs, rfl, rfl, ha, hb', hsp⟩ := h
  cases rx
  cases ry
  obtain ⟨mA, J, _⟩ := ins_get I.hok ha
  obtain ⟨mB, J', _⟩ := ins_get I.hok hb'
  obtain ⟨od, J, _⟩ := J.look
  obtain ⟨od', J', _⟩ := J'.look
  obtain ⟨m, hF⟩ := I.fr
  refine PySem.W.binop_K hF I.ok.mod.kin J J'.type hc hs hf ?_
  refine thn (run_fn (ds := []) (dvs := []) FN hr hb .nil hx I (vs := [.ref a, .ref b]) (us := [.ref a, .ref b]) (.cons rfl (.cons rfl .nil)) hsp) fun w s' hq => ?_
  obtain ⟨z, H', I', rz, ⟨p, ez⟩, q⟩ := hq
  subst ez
  cases rz
  exact ⟨.ref p, H', I', rfl, q⟩
/-- v in o, o of the class at C, by its own def, whose answer is a bool -/
def rInO (C : Addr) (neg : Bool) (sp : Sp) (E : XK) : R2 := fun x y H Q => ∃ a dx fs, y = .ref a ∧ H a = some (.ins C dx fs) ∧ sp [.ref a, x] H (fun v H' => ∃ c, v = .bl c ∧ Q (.bl (if neg then !c else c)) H') E
theorem op_inO (FN : FnOk X.prog X.w X.K X.mg X.base CI k f fd ps sp) (hr : Room k X.A) (hb : Binds X.K fd ps []) (hx : Passes CI X E)
    (hs : PySem.W.findIn X.K (.ref C) "__contains__" = some (some (.ref f))) (hf : PySem.W.isFn X.K (.ref f) = true) : OpR X (compareOp .In) (rInO C false sp E) := by
  intro pins s σ H x y v u Q I rx ry h
  obtain ⟨a, dx, fs, rfl, ha, hsp⟩ := h
  cases ry
  obtain ⟨mA, J, _⟩ := ins_get I.hok ha
  obtain ⟨od, J, _⟩ := J.look
  obtain ⟨m, hF⟩ := I.fr
  refine PySem.W.in_K hF I.ok.mod.kin J hs hf ?_
  refine thn (run_fn (ds := []) (dvs := []) FN hr hb .nil hx I (vs := [.ref a, x]) (us := [.ref a, v]) (.cons rfl (.cons rx .nil)) hsp) fun w s' hq => ?_
  obtain ⟨z, H', I', rz, c, ez, q⟩ := hq
  subst ez
  cases rz
  exact wpAny_truthy_bool ⟨.bl c, H', I', rfl, q⟩
end
end XgOwn
namespace XgOwn
open PySem PySem.Spec PyProof.Rows L2
/-! ### walking an own object whose __iter__ hands out its tuple's iterator -/
def spIter (K : PySem.W.Frag) (C : Addr) (fld : Str) : Nat → Sp := fun n vs H Q _ => ∃ a dx fs t zs, vs = [.ref a] ∧ H a = some (.ins C dx fs) ∧ fs.lookup fld = some (.ref t) ∧ SqT K H t zs ∧ ∀ it, H it = none → n ≤ it → Q (.ref it) (upd H it (TiO t it))
structure ItsC (K : PySem.W.Frag) (C fi : Addr) : Prop where
  it : PySem.W.findIn K (.ref C) "__iter__" = some (some (.ref fi))
  itF : PySem.W.isFn K (.ref fi) = true
  nolen : PySem.W.findIn K (.ref C) "__len__" = some none
  nohint : PySem.W.findIn K (.ref C) "__length_hint__" = some none
section
variable {X : Cx} {C fi : Addr} {fd : FuncData} {ps : List Str} {k : Nat} {fld : Str}
/-- __iter__ runs, the iterator stands there young and untouched -/
theorem own_iter {A1 : Around} {pins : List (Addr × Obj)} {σ : L2.St} {H : Hp} {s : Shared} {a dx t : Addr} {fs : List (Str × V)} {zs : List V} {Q : Value → Shared → Prop} (sb : Sub X k A1) (hc : ItsC X.K C fi)
    (F : FnS X.prog X.w X.K X.mg X.base k fi fd ps (spIter X.K C fld)) (hb : Binds X.K fd ps []) (I : Inv X pins σ H s) (ha : H a = some (.ins C dx fs)) (hl : fs.lookup fld = some (.ref t)) (ht : SqT X.K H t zs)
    (hq : ∀ (it : Addr) (s' : Shared), Inv X pins σ H s' → s'.heap.IsTupleIter it t 0 → FpOk X pins H it → Q (.ref it) s') : wpAny (model X.prog X.w) A1 (pyIter (.ref a)) Q X.xe s := by
  obtain ⟨mA, J, _⟩ := ins_get I.hok ha
  obtain ⟨od, J, _⟩ := J.look
  obtain ⟨m, hF⟩ := I.fr
  refine PySem.W.owit_iter hF I.ok.mod.kin J hc.it hc.itF ?_
  refine thn (runS (vs := [.ref a]) (us := [.ref a]) (Q := fun v H' => ∃ it, v = .ref it ∧ H it = none ∧ s.heap.objs.size ≤ it ∧ H' = upd H it (TiO t it)) F sb hb I (.cons rfl .nil) ⟨a, dx, fs, t, zs, rfl, ha, hl, ht, fun it h1 h2 => ⟨it, rfl, h1, h2, rfl⟩⟩) fun w s' hh => ?_
  obtain ⟨v, H', I', rv, it, ev, h1, h2, eH⟩ := hh
  subst ev eH
  cases rv
  have eo : s'.heap.get? it = some (tiObj t 0) := (I'.hok it _ upd_same).1
  have st : s'.heap.IsTupleIter it t 0 := ⟨_, eo, rfl, rfl⟩
  have I2 : Inv X pins σ (ItX.dropH (upd H it (TiO t it)) it) s' := ItX.inv_drop I' upd_same
  have fp := ItX.inv_fp I' (a := it) upd_same (Nat.le_trans I.sz h2)
  rw [ItX.dropH_upd h1] at I2 fp
  unfold PySem.W.OwitIt
  exact wpAny_specialOf (s := s') ⟨_, eo, rfl⟩ PyProof.Rows.slot_tupleiter_next.lookup (hq it s' I2 st fp)
/-- a for over a list, a tuple or such an object -/
def iAny (K : PySem.W.Frag) (C : Addr) (fld : Str) (tl : TE) : TI := fun σ H R => tl σ H fun x H1 => ∃ a, x = .ref a ∧ (((∃ xs, SqL K H1 a xs) ∧ R (Itl K a) H1) ∨ ((∃ xs, SqT K H1 a xs) ∧ R (Itt K a) H1) ∨
  ∃ dx fs t zs, H1 a = some (.ins C dx fs) ∧ fs.lookup fld = some (.ref t) ∧ SqT K H1 t zs ∧ R (Itt K t) H1)
theorem pi_any {tg l : Expr} {tl : TE} (hl : PE X l tl) (hr : Room k X.A) (hc : ItsC X.K C fi) (F : FnS X.prog X.w X.K X.mg X.base k fi fd ps (spIter X.K C fld)) (hb : Binds X.K fd ps []) : PI X tg l (iAny X.K C fld tl) := by
  refine ⟨fun pins s σ H R I h => ?_⟩
  refine thn (hl.run pins s σ H _ I h) fun v s1 ⟨x, H1, I1, r1, q1⟩ => ?_
  obtain ⟨a, e, q1⟩ := q1
  subst e
  cases r1
  have young : ∀ b ∈ [s1.heap.objs.size], FpOk X pins H1 b := fun b hb => by
    rw [List.mem_singleton.mp hb]
    exact I1.fpOk (Nat.le_refl _) (I1.hok.fresh (Nat.le_refl _))
  rcases q1 with ⟨⟨xs, hq⟩, q⟩ | ⟨⟨xs, hq⟩, q⟩ | ⟨dx, fs, t, zs, ha, hlk, ht, q⟩
  · obtain ⟨its, rv, p, hz⟩ := I1.list hq
    refine wpAny_pyIter_list p.isList ?_
    exact ⟨s1.heap.objs.size, [s1.heap.objs.size], _, _, H1, rfl, I1.kept (t' := s1.toks) fun b o e => Heap.get?_push_of_some _ e, turn_list a _, ⟨_, Heap.get?_push_size _ rfl, rfl, rfl⟩, young, q⟩
  · obtain ⟨its, rv, p, hz⟩ := I1.tuple hq
    refine wpAny_pyIter_tuple (show s1.heap.IsTuple a its.toArray from p) ?_
    exact ⟨s1.heap.objs.size, [s1.heap.objs.size], _, _, H1, rfl, I1.kept (t' := s1.toks) fun b o e => Heap.get?_push_of_some _ e, turn_tuple a _, ⟨_, Heap.get?_push_size _ rfl, rfl, rfl⟩, young, q⟩
  · refine own_iter ⟨hr, rfl⟩ hc F hb I1 ha hlk ht fun it s2 I2 st fp => ?_
    refine ⟨it, [it], _, _, H1, rfl, I2, turn_tuple t it, st, fun b hb => ?_, q⟩
    rw [List.mem_singleton.mp hb]
    exact fp
end
end XgOwn
namespace XgOwn
open PySem PySem.Spec PyProof.Rows L2
/-! ### list(o) of such an object -/
section
variable {X : Cx} {C fi : Addr} {fd : FuncData} {ps : List Str} {k : Nat} {fld : Str} {pins : List (Addr × Obj)} {σ : L2.St} {H : Hp}
theorem hint_none {M : Model} {A : Around} {E : Value → Shared → Prop} {s : Shared} {Q : Bool → Shared → Prop} {K : PySem.W.Frag} {a : Addr} {ox : Obj} {od : Option Obj} (hc : ItsC K C fi) (hK : K.In s.heap) (J : PySem.W.InstAt s.heap a ox C od) (h : Q true s) :
    wpAny M A (Builtin.List.listLengthHint (.ref a)) Q E s := by
  have q1 := PySem.W.looks_findIn (M := M) hK hc.nolen
  have q2 := PySem.W.looks_findIn (M := M) hK hc.nohint
  unfold Builtin.List.listLengthHint
  refine wpAny_bind (wpAny_bind (J.type.here (q1.here ?_)))
  refine PySem.W.KFB.if_not rfl (PySem.W.KFB.if_not rfl ?_)
  exact wpAny_bind (wpAny_bind (J.type.here (q2.here (wpAny_pure h))))
theorem tup_loop {A1 : Around} {Rs : Result → Shared → Prop} {q it t : Addr} {zs : List V} (hd : A1.in1.handled = none) (hq0 : H q = none) (ht : SqT X.K H t zs) (hdone : ∀ s, Inv X pins σ (upd H q (.lst zs)) s → Rs (.ok (.ret .none)) s) :
    ∀ (m i : Nat) (s : Shared), m + i = zs.length → Inv X pins σ (upd H q (.lst (zs.take i))) s → s.heap.IsTupleIter it t i → FpOk X pins (upd H q (.lst (zs.take i))) it →
      codeAny (model X.prog X.w) A1 (.builtin "list.extend.loop" ⟨[.ref q, .ref it, .none], []⟩) Rs s := by
  intro m
  induction m with
  | zero =>
    intro i s hm I st fp
    have hi : i = zs.length := by omega
    have ht' : SqT X.K (upd H q (.lst (zs.take i))) t zs := Xg.same_sqT (Xg.same_new (Same.refl H) hq0) ht
    obtain ⟨its, rv, p, hz⟩ := I.tuple ht'
    obtain ⟨f0, f1, f2, f3, f4, f5⟩ := fp
    have hl := rv.length
    refine codeAny_builtin PySem.F.entry_extend_loop ?_
    rw [Around.under_plainId PySem.F.plain_extend_loop _]
    show wpAny _ A1.in1 (pyNext (.ref it) >>= _) _ _ s
    refine wpAny_bind (wpAny_pyNext_tuple_end hd st (show s.heap.IsTuple t its.toArray from p) (by simp; omega) fun h' eb => ?_)
    refine wpAny_pure (hdone _ ?_)
    have I1 := I.turned (t' := s.toks) (fun b o hb e => eb b o hb e) f0 f1 f3 f4 f5
    rw [hi, List.take_length] at I1
    exact I1
  | succ m ih =>
    intro i s hm I st fp
    have hi : i < zs.length := by omega
    have ht' : SqT X.K (upd H q (.lst (zs.take i))) t zs := Xg.same_sqT (Xg.same_new (Same.refl H) hq0) ht
    obtain ⟨its, rv, p, hz⟩ := I.tuple ht'
    have hx : zs[i]? = some zs[i] := List.getElem?_eq_getElem hi
    obtain ⟨u, hu, ru⟩ := rv.get hx
    have fp' := fp
    obtain ⟨f0, f1, f2, f3, f4, f5⟩ := fp
    refine codeAny_builtin PySem.F.entry_extend_loop ?_
    rw [Around.under_plainId PySem.F.plain_extend_loop _]
    show wpAny _ A1.in1 (pyNext (.ref it) >>= _) _ _ s
    refine wpAny_bind (wpAny_pyNext_tuple_item st (show s.heap.IsTuple t its.toArray from p) (x := u) (by simpa using hu) fun h' st' sb => ?_)
    have I1 : Inv X pins σ (upd H q (.lst (zs.take i))) { s with heap := h' } := I.turned (t' := s.toks) (fun b o hb e => (sb.2 b hb).trans e) f0 f1 f3 f4 f5
    show wpAny _ A1.in1 (updateSeq q (·.push u) >>= _) _ _ _
    obtain ⟨z, its2, k2, r2, hl2, e⟩ := I1.lstM upd_same
    have hn : it ≠ q := fun z => by rw [z, upd_same] at f0; cases f0
    have hz2 : zs.length ≤ sizeLine := hz
    have l2 : its2.length ≤ sizeLine := by
      have := r2.length
      rw [List.length_take] at this
      omega
    refine wpAny_bind (wpAny_updateSeq e rfl (wpAny_pure ⟨plainId_quiet PySem.F.plain_extend_loop _, ?_⟩) (by rw [List.size_toArray]; omega) (by show (its2.toArray.push u).size ≤ sizeLine + 1; rw [Array.size_push, List.size_toArray]; omega))
    have tk : zs.take (i + 1) = zs.take i ++ [zs[i]] := by
      rw [List.take_succ, hx]
      rfl
    have I2 := I1.lset (f := (·.push u)) (its' := its2 ++ [u]) (ys := zs.take (i + 1)) (t' := s.toks) upd_same e (by simp) (by rw [tk]; exact r2.append (.cons ru .nil)) (by rw [List.length_take]; omega)
    rw [upd_upd] at I2
    refine ih (i + 1) _ (by omega) I2 ?_ ⟨by rw [upd_ne hn]; rw [upd_ne hn] at f0; exact f0, f1, f2, f3, f4, f5⟩
    exact st'.at fun o ho => (Heap.get?_update_other _ _ (Ne.symm hn)).trans ho
end
end XgOwn
namespace XgOwn
open PySem PySem.Spec PyProof.Rows L2
section
variable {X : Cx} {C fi : Addr} {fd : FuncData} {ps : List Str} {k : Nat} {fld : Str} {pins : List (Addr × Obj)} {σ : L2.St} {H : Hp}
theorem tup_extend {A1 : Around} {Rs : Result → Shared → Prop} {s : Shared} {q a dx t : Addr} {fs : List (Str × V)} {zs : List V} (sb : Sub X k A1.in1) (hc : ItsC X.K C fi)
    (F : FnS X.prog X.w X.K X.mg X.base k fi fd ps (spIter X.K C fld)) (hb : Binds X.K fd ps []) (hq0 : H q = none) (I : Inv X pins σ (upd H q (.lst [])) s) (ha : H a = some (.ins C dx fs)) (hlk : fs.lookup fld = some (.ref t)) (ht : SqT X.K H t zs)
    (hdone : ∀ s, Inv X pins σ (upd H q (.lst zs)) s → Rs (.ok (.ret .none)) s) (herr : ∀ e s, X.xe e s → Rs (.error e) s) :
    wpAny (model X.prog X.w) A1.in1 (Builtin.List.listExtendWith (.ref q) (.ref a) .none)
      (fun fin s' => match fin with | .done f => Rs (.ok f) s' | .again c' => c'.quiet = true ∧ codeAny (model X.prog X.w) A1 c' Rs s') (fun e s' => Rs (.error e) s') s := by
  have hne : q ≠ a := (ne_of_none ha hq0).symm
  have ha' : upd H q (.lst []) a = some (.ins C dx fs) := by rw [upd_ne hne.symm]; exact ha
  have ht' : SqT X.K (upd H q (.lst [])) t zs := Xg.same_sqT (Xg.same_new (Same.refl H) hq0) ht
  obtain ⟨mA, J, _⟩ := ins_get I.hok ha'
  obtain ⟨od, J, _⟩ := J.look
  unfold Builtin.List.listExtendWith
  refine wpAny_bind (J.type.here ?_)
  have b1 : Builtin.List.listSameRef (.ref q) (.ref a) = false := by simp [Builtin.List.listSameRef, hne]
  have b2 : (Value.ref C == Value.type "list") = false := rfl
  have b3 : (Value.ref C == Value.type "tuple") = false := rfl
  simp only [b1, b2, b3, Bool.or_false, Bool.false_eq_true, if_false]
  refine wpAny_bind (wpAny_mono (own_iter sb hc F hb I ha' hlk ht' (Q := fun v s' => ∃ it, v = .ref it ∧ Inv X pins σ (upd H q (.lst [])) s' ∧ s'.heap.IsTupleIter it t 0 ∧ FpOk X pins (upd H q (.lst [])) it)
    fun it s' I' st fp => ⟨it, rfl, I', st, fp⟩) (fun w s' hh => ?_) fun e s' he => herr e s' he)
  obtain ⟨it, rfl, I', st, fp⟩ := hh
  obtain ⟨mB, J', _⟩ := ins_get I'.hok ha'
  obtain ⟨od', J', _⟩ := J'.look
  have hn : it ≠ q := fun z => by
    have f0 := fp.1
    rw [z, upd_same] at f0
    cases f0
  refine wpAny_bind (wpAny_holding (hint_none hc I'.kIn J' ?_))
  have go : ∀ s2, Inv X pins σ (upd H q (.lst [])) s2 → s2.heap.IsTupleIter it t 0 → codeAny (model X.prog X.w) A1 (.builtin "list.extend.loop" ⟨[.ref q, .ref it, .none], []⟩) Rs s2 := fun s2 I2 st2 =>
    tup_loop sb.room.hd hq0 ht hdone zs.length 0 s2 (by omega) I2 st2 fp
  obtain ⟨z, its, k0, r3, hl3, e3⟩ := I'.lstM upd_same
  cases r3
  refine wpAny_ite_split (fun _ => ?_) (fun _ => wpAny_pure ⟨plainId_quiet PySem.F.plain_extend_loop _, go s' I' st⟩)
  refine wpAny_bind (wpAny_rule (wpAny_bind ?_))
  show wpAny _ _ (updateSeq q (·.push .none) >>= fun _ => updateSeq q (·.pop)) _ _ _
  refine wpAny_bind (wpAny_updateSeq e3 rfl ?_)
  have I2 := I'.lset (f := (·.push Value.none)) (its' := [Value.none]) (ys := [.non]) (t' := s'.toks) upd_same e3 (by simp) (.cons rfl .nil) (by rw [List.length_singleton, sizeLine_eq]; decide)
  obtain ⟨z4, its4, k4, r4, hl4, e4⟩ := I2.lstM upd_same
  obtain ⟨u4, rfl, ru4⟩ := r4.one
  refine wpAny_updateSeq e4 rfl ?_ (by show 1 ≤ sizeLine; rw [sizeLine_eq]; decide) (by show 0 ≤ sizeLine + 1; exact Nat.zero_le _)
  have I3 := I2.lset (f := (·.pop)) (its := [u4]) (its' := []) (ys := []) (t' := s'.toks) upd_same e4 (by rfl) .nil (Nat.zero_le _)
  rw [upd_upd, upd_upd] at I3
  refine wpAny_pure ⟨plainId_quiet PySem.F.plain_extend_loop _, go _ I3 ?_⟩
  exact (st.at fun o ho => (Heap.get?_update_other _ _ (Ne.symm hn)).trans ho).at fun o ho => (Heap.get?_update_other _ _ (Ne.symm hn)).trans ho
def rListO (K : PySem.W.Frag) (C : Addr) (fld : Str) : List V → Hp → VK → Prop := fun xs H Q => ∃ a dx fs t zs, xs = [.ref a] ∧ H a = some (.ins C dx fs) ∧ fs.lookup fld = some (.ref t) ∧ SqT K H t zs ∧ ∀ q, H q = none → Q (.ref q) (upd H q (.lst zs))
theorem call_listIt (hr : Room (k + 2) X.A) (hc : ItsC X.K C fi) (F : FnS X.prog X.w X.K X.mg X.base k fi fd ps (spIter X.K C fld)) (hb : Binds X.K fd ps []) : CallR X (.type "list") (rListO X.K C fld) := by
  intro pins s σ H xs us Q I rv h
  obtain ⟨a, dx, fs, t, zs, rfl, ha, hlk, ht, hq⟩ := h
  obtain ⟨u, rfl, ru⟩ := rv.one
  cases ru
  have sb : Sub X k X.A.in1.in1 := Sub.in1 (Sub.in1 (⟨hr, rfl⟩ : Sub X (k + 2) X.A))
  refine callType_codes (Q₁ := fun obj s₁ => obj = .ref s.heap.objs.size ∧ s₁ = { s with heap := s.heap.push { cls := .type "list", data := .seq #[] } }) PySem.F.called_list (PySem.F.typeCall_list_1 _) PySem.F.entry_list_init
    (code_list_new _ ⟨rfl, rfl⟩) fun obj s1 hh => ?_
  obtain ⟨rfl, rfl⟩ := hh
  have eS : (s.heap.push { cls := .type "list", data := .seq #[] }).get? s.heap.objs.size = some { cls := .type "list", data := .seq #[] } := Heap.get?_push_size _ rfl
  refine ⟨⟨_, eS, rfl⟩, PySem.F.args_list_init_2 _ _, ?_⟩
  have fr : H s.heap.objs.size = none := I.hok.fresh (Nat.le_refl _)
  have I1 : Inv X pins σ (upd H s.heap.objs.size (.lst [])) { s with heap := s.heap.push { cls := .type "list", data := .seq #[] } } := I.lnew (its := []) (t' := s.toks) .nil (Nat.zero_le _)
  show wpAny _ _ (do let old ← Builtin.List.listItems (.ref s.heap.objs.size); Builtin.List.listUpdate (.ref s.heap.objs.size) (fun _ => #[]); letGo old.toList.reverse; Builtin.List.listExtendWith (.ref s.heap.objs.size) (.ref a) .none) _ _ _
  refine wpAny_bind ?_
  unfold Builtin.List.listItems
  refine wpAny_bind (wpAny_seqItems eS rfl (wpAny_pure ?_))
  show wpAny _ _ (updateSeq s.heap.objs.size (fun _ => #[]) >>= fun _ => letGo (#[] : Array Value).toList.reverse >>= fun _ => Builtin.List.listExtendWith (.ref s.heap.objs.size) (.ref a) .none) _ _ _
  refine wpAny_bind (wpAny_updateSeq eS rfl ?_)
  have I2 := I1.lset (f := fun _ => #[]) (its := []) (its' := []) (ys := []) (t' := s.toks) upd_same eS rfl .nil (Nat.zero_le _)
  rw [upd_upd] at I2
  refine wpAny_bind (wpAny_letGo ?_)
  exact tup_extend (A1 := X.A.in1) (Rs := wants (fun r s₂ => r = .none ∧ EP X pins σ Q (.ref s.heap.objs.size) s₂) X.xe) sb hc F hb fr I2 ha hlk ht
    (fun s' I' => ⟨rfl, .ref s.heap.objs.size, _, I', rfl, hq _ fr⟩) fun e s' he => he
end
end XgOwn
namespace XgOwn
open PySem PySem.Spec PyProof.Rows L2
/-! ### a static method without arguments, called on its class -/
structure SMet (K : PySem.W.Frag) (C : Addr) (mc : Value) (m : Str) (p g : Addr) : Prop where
  at_ : PySem.W.findCls K (.ref C) mc m = some (.get (.builtin "staticmethod.__get__") (.ref p) .none (.ref C))
  rc : ∃ rest, PySem.W.recIn K p "staticmethod" = some (.ref g :: rest)
  kp : PySem.W.keepIn K (.ref g) = true
def tStat0 (C : Addr) (sp : Sp) (E : XK) (ta : TE) : TE := fun σ H Q => ta σ H fun x H1 => x = .ref C ∧ sp [] H1 Q E
theorem pe_stat0 {X : Cx} {CI : CXT} {k : Nat} {C p g : Addr} {mc : Value} {sp : Sp} {E : XK} {fd : FuncData} {ps : List Str} {o : Expr} {m : Str} {pos apos : Pos} {ta : TE} {pl : Sem Bool} (he : PE X o ta) (r : ClX.CRead X.K C mc) (c : SMet X.K C mc m p g)
    (F : FnOk X.prog X.w X.K X.mg X.base CI k g fd ps sp) (hr : Room k X.A) (hb : Binds X.K fd ps []) (hx : Passes CI X E)
    (ht : eval (.Call (.Attribute o m apos) [] [] pos) X.env = (do
      let ov ← eval o X.env
      standAt apos.atName
      let (f, first) ← holding [ov] (getMethod ov m pl)
      callWith pos f first (backTo pos (starEach [] X.env)) (backToKw pos (keywordEach [] X.env))) := by rfl) :
    PE X (.Call (.Attribute o m apos) [] [] pos) (tStat0 C sp E ta) := by
  refine ⟨fun pins s σ H Q I h => ?_⟩
  refine PySem.W.methodCall_KW (pl := pl) (thn (he.run pins s σ H _ I h) fun u s1 ⟨x, H1, I1, rx, ex, q⟩ => ?_) ht
  subst ex
  obtain rfl : u = Value.ref C := rx
  obtain ⟨rest, hp⟩ := c.rc
  refine PySem.W.method_cls I1.kIn r.ga (PySem.W.cls_bind I1.kIn r.rd c.at_ (wpAny_call (PySem.W.sm_get (s := { s1 with toks := s1.toks + 1 }) I1.kIn hp (PySem.W.handed_on rfl ?_))))
  have I2 : Inv X pins σ H1 { s1 with toks := s1.toks + 1 } := I1.tok _
  exact PySem.W.callWith_K0 I2.kIn c.kp (run_fn (us := []) (vs := []) (ds := []) (dvs := []) F hr hb .nil hx I2 .nil q)
end XgOwn
namespace XgOwn
open PySem PySem.Spec PyProof.Rows L2
/-! ### an object made where its maker may raise, inside a try -/
section
variable {X : Cx} {CI : CXT} {k : Nat} {f C : Addr} {fd : FuncData} {ps : List Str} {sp : Sp} {E : L2.St → XK} {x : Str} {p pos : Pos} {e : Expr} {es : List Expr} {t : TA}
def tMakeS (C : Addr) (sp : Sp) (E : L2.St → XK) (t : TA) : TE := fun σ H Q => t σ H fun vs H1 => ∀ x dx, H1 x = none → H1 dx = none → dx ≠ x → sp (.ref x :: vs) (upd (upd H1 dx (.own x)) x (.ins C dx [])) (fun v H2 => v = .non ∧ Q (.ref x) H2) (E σ)
theorem pe_makeS (M : Mk X.K C f) (F : FnOk X.prog X.w X.K X.mg X.base CI k f fd ps sp) (hr : Room (k + 1) X.A) (hg : Gl X x) (hm : X.mg x = some (.ref C)) (hb : Binds X.K fd ps []) (hx : ∀ σ, PassesAt CI X σ (E σ))
    (ha : PA X (e :: es) t) (hdb : (x == ("__debug__" : Str)) = false := by decide) (he : starEach (e :: es) X.env = (false, eval e X.env) :: starEach es X.env := by rfl) (hpl : (backTo pos (starEach es X.env)).any (·.1) = false := by rfl) :
    PE X (.Call (.Name x p) (e :: es) [] pos) (tMakeS C sp E t) := by
  refine ⟨fun pins s σ H Q I h => ?_⟩
  refine wpAny_Call_Name_kw (ld_glob I hg hm ?_ hdb)
  refine PySem.W.callWith_K (h₀ := X.base) I.ok.mod.kin M.kp (thn (ha.run pos pins s σ H _ I h) fun us s1 ⟨vs, H1, I1, r, q⟩ => ⟨I1.kIn, ?_⟩) he hpl
  have hq := q (s1.heap.objs.size + 1) s1.heap.objs.size (I1.hok.fresh (Nat.le_succ _)) (I1.hok.fresh (Nat.le_refl _)) (Nat.ne_of_lt (Nat.lt_succ_self _))
  have I2 := Inv.made (C := C) I1
  have r2 : Vals (V.ref (s1.heap.objs.size + 1) :: vs) (Value.ref (s1.heap.objs.size + 1) :: us) := .cons rfl r
  have hl : (Value.ref (s1.heap.objs.size + 1) :: us).length = ps.length := r2.length.symm.trans (F.len _ _ _ _ hq)
  have bt := hb _ (Value.ref (s1.heap.objs.size + 1) :: us) I2.kIn (by rw [List.append_nil]; exact hl)
  rw [List.append_nil] at bt
  have run := F.run _ X.stack _ _ ⟨Value.ref (s1.heap.objs.size + 1) :: us, []⟩ _ _ _ (E σ) (hr.make C us []) (I2.env0.make C us []) bt r2 hq
  refine wpAny_call (make_map (f := f) I1.kIn M.makes M.init (beq_iff_eq.mp M.fn) (codeAny_mono run fun r s' hq' => ?_))
  cases r with
  | error e => exact hx σ pins _ _ e s' I2 hq'
  | ok fl =>
    cases fl with
    | ret u =>
      obtain ⟨v, H', I3, rv, ev, q3⟩ := I2.after hq'
      subst ev
      exact ⟨rv, V.ref (s1.heap.objs.size + 1), H', I3, rfl, q3⟩
    | _ => exact hq'.elim
end
/-! ### what a loop walks: a list, a tuple, an object that hands out its tuple -/
def SrcOk (K : PySem.W.Frag) (C : Addr) (fld : Str) (H : Hp) (v : V) (xs : List V) : Prop := ∃ a, v = .ref a ∧ (SqL K H a xs ∨ SqT K H a xs ∨ ∃ dx fs t, H a = some (.ins C dx fs) ∧ fs.lookup fld = some (.ref t) ∧ SqT K H t xs)
theorem iAny_var {K : PySem.W.Frag} {C : Addr} {fld : Str} {i : Nat} {σ : L2.St} {H H0 : Hp} {R : It → Hp → Prop} {v : V} {xs : List V} (hv : σ[i]? = some (some v)) (h : SrcOk K C fld H0 v xs) (s : Same H0 H)
    (rest : ∀ J, Walk J xs.length (fun H' => Same H0 H') (YAt xs) → R J H) : iAny K C fld (tVar i) σ H R := by
  obtain ⟨a, rfl, h⟩ := h
  refine ⟨_, hv, a, rfl, ?_⟩
  rcases h with h | h | ⟨dx, fs, t, h1, h2, h3⟩
  · exact .inl ⟨⟨_, s.seq h⟩, rest _ (walk_list.mono (fun H' s => s.seq h) fun _ _ _ _ _ _ y => y)⟩
  · exact .inr (.inl ⟨⟨_, Xg.same_sqT s h⟩, rest _ (walk_tup.mono (fun H' s => Xg.same_sqT s h) fun _ _ _ _ _ _ y => y)⟩)
  · exact .inr (.inr ⟨dx, fs, t, xs, s _ _ h1, h2, Xg.same_sqT s h3, rest _ (walk_tup.mono (fun H' s => Xg.same_sqT s h3) fun _ _ _ _ _ _ y => y)⟩)
end XgOwn
namespace XgOwn
open PySem L2
/-- a for over such a thing that stands in slot i -/
theorem for_any {K : PySem.W.Frag} {C : Addr} {fld : Str} {j : Nat} {g : TG} {tb : TS} {D : Ends} {σ : L2.St} {H H0 : Hp} {v : V} {xs : List V} (hv : σ[j]? = some (some v)) (h : SrcOk K C fld H0 v xs) (s : Same H0 H)
    (Pv : Nat → L2.St → Hp → Prop) (h0 : Pv 0 σ H) (hG : ∀ i σ H', i ≤ xs.length → Pv i σ H' → Same H0 H')
    (hs : ∀ i x σ H', xs[i]? = some x → Pv i σ H' → g x σ H' fun σ2 H2 => tb { D with nx := Pv (i + 1), ct := Pv (i + 1), bk := D.nx } σ2 H2) (hd : ∀ σ H', Pv xs.length σ H' → D.nx σ H') : tFor (iAny K C fld (tVar j)) g tb D σ H :=
  iAny_var (R := fun J H1 => ∃ W : Nat → Nat → L2.St → Hp → Prop, (∃ m, W 0 m σ H1) ∧ ∀ i m σ H, W i m σ H →
      (J.stop i H ∧ D.nx σ H) ∨ (J.go i H ∧ ∃ N : L2.St → Hp → Prop, (∀ σ' H', N σ' H' → ∃ m', m' < m ∧ W (i + 1) m' σ' H') ∧ ∀ x H', J.yld i H x H' → g x σ H' fun σ2 H2 => tb { D with nx := N, ct := N, bk := D.nx } σ2 H2)) hv h s fun J wk =>
    for_it wk Pv h0 hG (fun i x σ H H' _ p y => by
      obtain ⟨e, y⟩ := y
      subst e
      exact hs i x σ _ y p) hd
end XgOwn
namespace XgOwn
open PySem L2
/-- a comprehension over such a thing that stands in slot i -/
theorem lc_any {K : PySem.W.Frag} {C : Addr} {fld : Str} {j : Nat} {g : TG} {tt : TT} {te : TE} {vs : List Nat} {σ : L2.St} {H H0 : Hp} {v : V} {xs : List V} {Q : VK} (hv : σ[j]? = some (some v)) (h : SrcOk K C fld H0 v xs) (s : Same H0 H)
    (k : ∀ D, H D = none → ∃ Pv : Nat → Hp → Prop, Pv 0 (upd H D (.lst [])) ∧ (∀ i H', i ≤ xs.length → Pv i H' → Same H0 H') ∧
      (∀ i x H', xs[i]? = some x → Pv i H' → g x (wipe σ vs) H' fun σ2 H2 => wipe σ2 vs = wipe σ vs ∧ tt σ2 H2 fun b H3 =>
        if b = true then te σ2 H3 fun y H4 => ∃ acc, H4 D = some (.lst acc) ∧ acc.length < sizeLine ∧ Pv (i + 1) (upd H4 D (.lst (acc ++ [y]))) else Pv (i + 1) H3) ∧ ∀ H', Pv xs.length H' → Q (.ref D) H') :
    tLc (iAny K C fld (tVar j)) g tt te vs σ H Q :=
  iAny_var (R := fun J H1 => ∀ D, H1 D = none → ∃ W : Nat → Nat → Hp → Prop, (∃ m, W 0 m (upd H1 D (.lst []))) ∧ ∀ i m H, W i m H →
      (J.stop i H ∧ Q (.ref D) H) ∨ (J.go i H ∧ ∃ Nx : Hp → Prop, (∀ H', Nx H' → ∃ m', m' < m ∧ W (i + 1) m' H') ∧ ∀ x H', J.yld i H x H' → g x (wipe σ vs) H' fun σ2 H2 => wipe σ2 vs = wipe σ vs ∧ tt σ2 H2 fun b H3 =>
        if b = true then te σ2 H3 fun y H4 => ∃ acc, H4 D = some (.lst acc) ∧ acc.length < sizeLine ∧ Nx (upd H4 D (.lst (acc ++ [y]))) else Nx H3)) hv h s fun J wk D hD => by
    obtain ⟨Pv, h0, hG, hs, hd⟩ := k D hD
    exact lc_it (Qd := Q (.ref D)) wk Pv h0 hG (fun i x H H' _ p y => by
      obtain ⟨e, y⟩ := y
      subst e
      exact hs i x _ y p) hd
end XgOwn
namespace P88
open PySem L2 Xg
def top (i : Nat) : Stmt := PySem.Challenge.pw_guestlives_k88_policies_are_sets.main.body.getD i (.Pass ⟨0, 0, 0, 0⟩)
abbrev S_Policy___init__ : Stmt := inClass (top 11) 0
theorem sc_Policy___init__ : FnScope ["self", "names", "told", "name"] ["self", "names"] (defScope S_Policy___init__) := ⟨rfl, rfl, rfl, by decide +kernel, rfl, by decide +kernel, by decide +kernel⟩
abbrev S_Policy_empty : Stmt := inClass (top 11) 1
theorem sc_Policy_empty : FnScope [] [] (defScope S_Policy_empty) := ⟨rfl, rfl, rfl, by decide +kernel, rfl, by decide +kernel, by decide +kernel⟩
abbrev S_Policy_full : Stmt := inClass (top 11) 2
theorem sc_Policy_full : FnScope [] [] (defScope S_Policy_full) := ⟨rfl, rfl, rfl, by decide +kernel, rfl, by decide +kernel, by decide +kernel⟩
abbrev S_Policy_has : Stmt := inClass (top 11) 3
theorem sc_Policy_has : FnScope ["self", "name"] ["self", "name"] (defScope S_Policy_has) := ⟨rfl, rfl, rfl, by decide +kernel, rfl, by decide +kernel, by decide +kernel⟩
abbrev S_Policy___contains__ : Stmt := inClass (top 11) 4
theorem sc_Policy___contains__ : FnScope ["self", "name"] ["self", "name"] (defScope S_Policy___contains__) := ⟨rfl, rfl, rfl, by decide +kernel, rfl, by decide +kernel, by decide +kernel⟩
abbrev S_Policy___iter__ : Stmt := inClass (top 11) 5
theorem sc_Policy___iter__ : FnScope ["self"] ["self"] (defScope S_Policy___iter__) := ⟨rfl, rfl, rfl, by decide +kernel, rfl, by decide +kernel, by decide +kernel⟩
abbrev S_Policy___or__ : Stmt := inClass (top 11) 6
theorem sc_Policy___or__ : FnScope ["self", "other", "name"] ["self", "other"] (defScope S_Policy___or__) := ⟨rfl, rfl, rfl, by decide +kernel, rfl, by decide +kernel, by decide +kernel⟩
abbrev S_Policy___sub__ : Stmt := inClass (top 11) 7
theorem sc_Policy___sub__ : FnScope ["self", "other", "name"] ["self", "other"] (defScope S_Policy___sub__) := ⟨rfl, rfl, rfl, by decide +kernel, rfl, by decide +kernel, by decide +kernel⟩
abbrev S__law_row : Stmt := top 13
theorem sc__law_row : FnScope ["_law_script", "_law_most", "_law_row_here", "_law_cell", "_law_rest", "_law_k"] ["_law_script", "_law_most"] (defScope S__law_row) := ⟨rfl, rfl, rfl, by decide +kernel, rfl, by decide +kernel, by decide +kernel⟩
abbrev S__law_pick : Stmt := top 14
theorem sc__law_pick : FnScope ["_law_row_here", "_law_at", "_law_limit", "_law_value"] ["_law_row_here", "_law_at", "_law_limit"] (defScope S__law_pick) := ⟨rfl, rfl, rfl, by decide +kernel, rfl, by decide +kernel, by decide +kernel⟩
abbrev S__law_rules : Stmt := top 15
theorem sc__law_rules : FnScope ["_law_text"] [] (defScope S__law_rules) := ⟨rfl, rfl, rfl, by decide +kernel, rfl, by decide +kernel, by decide +kernel⟩
abbrev S__law_chosen : Stmt := top 16
theorem sc__law_chosen : FnScope ["_law_row_here", "_law_at", "_law_rules_here", "_law_k"] ["_law_row_here", "_law_at"] (defScope S__law_chosen) := ⟨rfl, rfl, rfl, by decide +kernel, rfl, by decide +kernel, by decide +kernel⟩
abbrev S__law_turned : Stmt := top 17
theorem sc__law_turned : FnScope ["_law_names", "_law_place", "_law_backwards", "_law_turned_here"] ["_law_names", "_law_place", "_law_backwards"] (defScope S__law_turned) := ⟨rfl, rfl, rfl, by decide +kernel, rfl, by decide +kernel, by decide +kernel⟩
abbrev S__law_holds : Stmt := top 18
theorem sc__law_holds : FnScope ["_law_policy", "_law_names", "_law_name"] ["_law_policy", "_law_names"] (defScope S__law_holds) := ⟨rfl, rfl, rfl, by decide +kernel, rfl, by decide +kernel, by decide +kernel⟩
abbrev S__law_refused : Stmt := top 19
theorem sc__law_refused : FnScope ["_law_names", "e", "_law_other_kind"] ["_law_names"] (defScope S__law_refused) := ⟨rfl, rfl, rfl, by decide +kernel, rfl, by decide +kernel, by decide +kernel⟩
abbrev S__law_wrong_names : Stmt := top 20
theorem sc__law_wrong_names : FnScope ["_law_row_here", "_law_names", "_law_wrong", "_law_place", "_law_bad", "_law_first", "_law_double", "_law_late"] ["_law_row_here", "_law_names"] (defScope S__law_wrong_names) := ⟨rfl, rfl, rfl, by decide +kernel, rfl, by decide +kernel, by decide +kernel⟩
abbrev S_law : Stmt := top 21
theorem sc_law : FnScope ["_law_script", "_law_row_here", "_law_names", "_law_others", "_law_handed", "_law_kept", "_law_policy", "_law_other", "_law_rules_here", "_law_both", "_law_first", "_law_second", "_law_name"] ["_law_script"] (defScope S_law) := ⟨rfl, rfl, rfl, by decide +kernel, rfl, by decide +kernel, by decide +kernel⟩
abbrev rulL : List Str := ["invalidate_store", "invalidate_device", "track_frames", "track_prepared", "track_second", "invalidate_map", "invalidate_rights", "key_level", "leave_self", "leave_other", "cut_links", "clear_links", "hold_slot", "check_entry", "stop_page", "stop_store", "no_links", "single", "eager", "flush_exit", "flush_source", "keep_dropped", "map_inspect", "map_fault", "flush_fault", "map_leave", "prompt_store", "poll_entry", "poll_backward"]
structure Ad where
  PE : Addr
  iPE : Addr
  GE : Addr
  TextError : Addr
  InstructionError : Addr
  GuestError : Addr
  ActionError : Addr
  SettingError : Addr
  DebuggerError : Addr
  RULES : Addr
  nil : Addr
  C : Addr
  mc : Value
  init : Addr
  empty : Addr
  pempty : Addr
  full : Addr
  pfull : Addr
  has : Addr
  contains : Addr
  iter : Addr
  or_ : Addr
  sub : Addr
  _law_row : Addr
  _law_pick : Addr
  _law_rules : Addr
  _law_chosen : Addr
  _law_turned : Addr
  _law_holds : Addr
  _law_refused : Addr
  _law_wrong_names : Addr
/-- a method of the class as the text has it -/
def Me (K : PySem.W.Frag) (x qual : Str) (st : Stmt) (f : Addr) (ps : List Str) : Prop := ∃ fd, Fun K x qual st f fd ∧ Binds K fd ps []
structure Tp (P : Program) (w : World) (K : PySem.W.Frag) (mg : Str → Option Value) (A : Ad) : Prop where
  n_len : mg "len" = none
  n_tuple : mg "tuple" = none
  n_list : mg "list" = none
  n_iter : mg "iter" = none
  n_abs : mg "abs" = none
  n_int : mg "int" = none
  n_range : mg "range" = none
  n_isinstance : mg "isinstance" = none
  n_ValueError : mg "ValueError" = none
  g_RULES : mg "RULES" = some (.ref A.RULES)
  g_Policy : mg "Policy" = some (.ref A.C)
  g_PolicyError : mg "PolicyError" = some (.ref A.PE)
  g_TextError : mg "TextError" = some (.ref A.TextError)
  g_InstructionError : mg "InstructionError" = some (.ref A.InstructionError)
  g_GuestError : mg "GuestError" = some (.ref A.GuestError)
  g_ActionError : mg "ActionError" = some (.ref A.ActionError)
  g_SettingError : mg "SettingError" = some (.ref A.SettingError)
  g_DebuggerError : mg "DebuggerError" = some (.ref A.DebuggerError)
  g_GuestlivesError : mg "GuestlivesError" = some (.ref A.GE)
  x_PolicyError : XgSup.STxt P K mg "PolicyError" "name" "the rule cannot be named here: " A.PE A.iPE
  xc_PE : ExcC K A.PE
  xf_PE : XfC K A.PE
  m_PP : PySem.W.exmOne K (.ref A.PE) (.ref A.PE) = some true
  i_PG : PySem.W.kitOne K (.ref A.PE) (.ref A.GE) = some true
  i_PV : PySem.W.kitOne K (.ref A.PE) (.type "ValueError") = some true
  i_six : PySem.W.kitAny K (.ref A.PE) [.ref A.TextError, .ref A.InstructionError, .ref A.GuestError, .ref A.ActionError, .ref A.SettingError, .ref A.DebuggerError] = some false
  i_tup : PySem.W.kitOne K (.type "tuple") (.type "tuple") = some true
  RULES : strsB K A.RULES rulL = true
  nil : strsB K A.nil [] = true
  cl_Policy : Cls K A.C
  na_Policy : NoAttr K A.C "names"
  M_Policy : Mk K A.C A.init
  it_Policy : XgOwn.ItsC K A.C A.iter
  sf_Policy : PySem.W.selfFirst K A.C = true
  or_Policy : PySem.W.findIn K (.ref A.C) (PySem.dunder Operator.BitOr.info.2) = some (some (.ref A.or_))
  orF_Policy : PySem.W.isFn K (.ref A.or_) = true
  sub_Policy : PySem.W.findIn K (.ref A.C) (PySem.dunder Operator.Sub.info.2) = some (some (.ref A.sub))
  subF_Policy : PySem.W.isFn K (.ref A.sub) = true
  in_Policy : PySem.W.findIn K (.ref A.C) "__contains__" = some (some (.ref A.contains))
  inF_Policy : PySem.W.isFn K (.ref A.contains) = true
  m_has : Meth K A.C "has" A.has
  cr_Policy : ClX.CRead K A.C A.mc
  s_full : XgOwn.SMet K A.C A.mc "full" A.pfull A.full
  s_empty : XgOwn.SMet K A.C A.mc "empty" A.pempty A.empty
  d_init : ∃ fd, FunD K "__init__" "Policy.__init__" (defArgs S_Policy___init__) (defBody S_Policy___init__) (defScope S_Policy___init__) [V.ref A.nil] [] A.init fd
  d_empty : Me K "empty" "Policy.empty" S_Policy_empty A.empty []
  d_full : Me K "full" "Policy.full" S_Policy_full A.full []
  d_has : Me K "has" "Policy.has" S_Policy_has A.has ["self", "name"]
  d_contains : Me K "__contains__" "Policy.__contains__" S_Policy___contains__ A.contains ["self", "name"]
  d_iter : Me K "__iter__" "Policy.__iter__" S_Policy___iter__ A.iter ["self"]
  d_or : Me K "__or__" "Policy.__or__" S_Policy___or__ A.or_ ["self", "other"]
  d_sub : Me K "__sub__" "Policy.__sub__" S_Policy___sub__ A.sub ["self", "other"]
  d__law_row : Df K mg "_law_row" "_law_row" S__law_row A._law_row ["_law_script", "_law_most"]
  d__law_pick : Df K mg "_law_pick" "_law_pick" S__law_pick A._law_pick ["_law_row_here", "_law_at", "_law_limit"]
  d__law_rules : Df K mg "_law_rules" "_law_rules" S__law_rules A._law_rules []
  d__law_chosen : Df K mg "_law_chosen" "_law_chosen" S__law_chosen A._law_chosen ["_law_row_here", "_law_at"]
  d__law_turned : Df K mg "_law_turned" "_law_turned" S__law_turned A._law_turned ["_law_names", "_law_place", "_law_backwards"]
  d__law_holds : Df K mg "_law_holds" "_law_holds" S__law_holds A._law_holds ["_law_policy", "_law_names"]
  d__law_refused : Df K mg "_law_refused" "_law_refused" S__law_refused A._law_refused ["_law_names"]
  d__law_wrong_names : Df K mg "_law_wrong_names" "_law_wrong_names" S__law_wrong_names A._law_wrong_names ["_law_row_here", "_law_names"]
/-! ### a policy in the heap -/
structure PolAt (K : PySem.W.Frag) (C : Addr) (H : Hp) (p : Addr) (ns : List Str) : Prop where
  ob : ∃ dx t, H p = some (.ins C dx [("names", V.ref t)]) ∧ SqT K H t (ns.map V.str)
theorem PolAt.same {K : PySem.W.Frag} {C : Addr} {H H' : Hp} {p : Addr} {ns : List Str} (h : PolAt K C H p ns) (s : Same H H') : PolAt K C H' p ns := by
  obtain ⟨dx, t, h1, h2⟩ := h.ob
  exact ⟨dx, t, s _ _ h1, same_sqT s h2⟩
theorem PolAt.src {K : PySem.W.Frag} {C : Addr} {H : Hp} {p : Addr} {ns : List Str} (h : PolAt K C H p ns) : XgOwn.SrcOk K C "names" H (.ref p) (ns.map V.str) := by
  obtain ⟨dx, t, h1, h2⟩ := h.ob
  exact ⟨p, rfl, .inr (.inr ⟨dx, _, t, h1, rfl, h2⟩)⟩
/-- the i-th name is the first that may not stand there, told apart -/
def bad (zs : List Str) (i : Nat) : Prop := ∃ z, zs[i]? = some z ∧ (z ∉ rulL ∨ z ∈ zs.take i)
def sel (zs : List Str) : List Str := rulL.filter fun z => decide (z ∈ zs)
def spInit (K : PySem.W.Frag) (A : Ad) : Sp := fun vs H Q E => ∃ (p dx : Addr) (v : V) (zs : List Str), vs = [.ref p, v] ∧ H p = some (.ins A.C dx []) ∧ XgOwn.SrcOk K A.C "names" H v (zs.map V.str) ∧ zs.length ≤ 100 ∧ (∀ z ∈ zs, z.length ≤ 1000) ∧
  ((∀ i, ¬ bad zs i) → ∀ H', (∀ b o, H b = some o → b ≠ p → H' b = some o) → PolAt K A.C H' p (sel zs) → Q .non H') ∧
  (∀ i z, zs[i]? = some z → bad zs i → (∀ j, j < i → ¬ bad zs j) → ∀ H' d, Same H H' → H d = none → H' d = some (.xd [("name", .str z)]) → E (.ref A.PE) (some d) H')
theorem inV_str (z : Str) (zs : List Str) : inV (.str z) (zs.map V.str) = decide (z ∈ zs) := by
  unfold inV
  rw [Bool.eq_iff_iff, List.any_eq_true, decide_eq_true_eq]
  constructor
  · rintro ⟨v, hv, e⟩
    obtain ⟨y, hy, rfl⟩ := List.mem_map.mp hv
    have e' : y = z := by simpa [eqV] using e
    rw [← e']
    exact hy
  · intro h
    exact ⟨.str z, List.mem_map.mpr ⟨z, h, rfl⟩, by simp [eqV]⟩
theorem flat_strs (zs : List Str) : (zs.map V.str).all flatV = true := by
  rw [List.all_eq_true]
  intro v hv
  obtain ⟨y, _, rfl⟩ := List.mem_map.mp hv
  rfl
theorem take_next {α : Type} {l : List α} {i : Nat} {x : α} (h : l[i]? = some x) : l.take (i + 1) = l.take i ++ [x] := by
  rw [List.take_succ, h]
  rfl
section
variable {P : Program} {w : World} {K : PySem.W.Frag} {mg : Str → Option Value} {base : Heap} {A : Ad}
theorem ok_iter {fd : FuncData} (F : Fun K "__iter__" "Policy.__iter__" S_Policy___iter__ A.iter fd) (T : Tp P w K mg A) : XgOwn.FnS P w K mg base 1 A.iter fd ["self"] (XgOwn.spIter K A.C "names") := by
  refine XgOwn.fnS_mk F sc_Policy___iter__ (fun n vs H Q E h => ?_) (fun cdv A' outer s H vs Q hr h => ?_)
  · obtain ⟨a, dx, fs, t, zs, rfl, _⟩ := h
    rfl
  · obtain ⟨a, dx, fs, t, zs, rfl, ha, hl, ht, q⟩ := h
    refine ⟨_, (pss_one (ps_ret (pe_callB XgOwn.call_iterT (by rfl) T.n_iter (by decide +kernel) (pa_cons (pe_fld (pv 0) rfl) pa_nil)))), ?_⟩
    exact ⟨_, rfl, a, _, dx, fs, _, rfl, ha, T.cl_Policy, T.na_Policy, hl, t, zs, rfl, ht, fun it h1 h2 => q it h1 h2⟩
end
end P88
namespace P88
open PySem L2 Xg
theorem unitsP {k : Nat} {A : Around} (r : Room k A) : A.units + 1 < cLine := by have := r.un; omega
/-- the dict of the names told so far -/
def told (zs : List Str) : List (L2.Key × V) := zs.map fun z => (.inr z, .bl true)
theorem told_len (zs : List Str) : (told zs).length = zs.length := List.length_map ..
theorem told_has (zs : List Str) (z : Str) : (valV (told zs) (.inr z)).isSome = decide (z ∈ zs) := by
  rw [← valV_any, Bool.eq_iff_iff, List.any_eq_true, decide_eq_true_eq]
  unfold told
  constructor
  · rintro ⟨kv, h, e⟩
    obtain ⟨y, hy, rfl⟩ := List.mem_map.mp h
    have e := of_decide_eq_true e
    injection e with e
    exact e ▸ hy
  · intro h
    exact ⟨_, List.mem_map.mpr ⟨z, h, rfl⟩, decide_eq_true rfl⟩
theorem told_more {zs : List Str} {z : Str} (h : z ∉ zs) : putK (told zs) (.inr z) (.bl true) = told (zs ++ [z]) := by
  unfold putK
  rw [valV_any, told_has, decide_eq_false h]
  unfold told
  rw [List.map_append]
  rfl
section
variable {P : Program} {w : World} {K : PySem.W.Frag} {mg : Str → Option Value} {base : Heap} {A : Ad}
theorem ok_init {fd : FuncData} (F : FunD K "__init__" "Policy.__init__" (defArgs S_Policy___init__) (defBody S_Policy___init__) (defScope S_Policy___init__) [V.ref A.nil] [] A.init fd) (T : Tp P w K mg A) : FnOk P w K mg base (L2.CX P w) 4 A.init fd ["self", "names"] (spInit K A) := by
  obtain ⟨fi, Fi, b_iter⟩ := T.d_iter
  have G_iter : XgOwn.FnS P w K mg base 1 A.iter fi ["self"] (XgOwn.spIter K A.C "names") := ok_iter Fi T
  refine F.ok sc_Policy___init__ (fun vs H Q E h => ?_) (fun cdv A' outer s H vs Q E hr h => ?_)
  · obtain ⟨p, dx, v, zs, rfl, _⟩ := h
    rfl
  · obtain ⟨p, dx, v, zs, rfl, hp, hsrc, hl, hz, hok, hbad⟩ := h
    refine ⟨_, (pss_cons (ps_set (i := 2) sc_Policy___init__.nd rfl (Or.inr rfl) pe_dnewK)
  (pss_cons (ps_for (passes_of rfl) rfl (XgOwn.pi_any (pv 1) (hr.mono (by decide)) T.it_Policy G_iter b_iter) (pg_name (i := 3) sc_Policy___init__.nd rfl (Or.inl rfl))
    (pss_cons (ps_if (PW.pt (pw_or (pt_cmpR op_notIn_seq (pv 3) (pe_glob (v := .ref _) (by rfl) T.g_RULES rfl) (by rfl)) (pw_or1 (pt_cmp (pc_din (unitsP hr) (pv 3) (pv 2)) (by rfl)))))
    (pss_one (ps_raise rfl (takes_of rfl rfl rfl rfl) (XgSup.pmk_sup T.x_PolicyError (by decide +kernel) hr (pa_cons (pv 3) pa_nil) (by rfl))))
    pss_nil)
  (pss_one (ps_asg pe_bl (pg_sub (pv 2) (pv 3) (set_dict (unitsP hr)))))))
  (pss_one (ps_fld (pv 0) (pe_callTy call_tuple_of (by rfl) T.n_tuple (by decide +kernel) (pa_cons (by exact (pe_lc (own := [("name", 3)]) (g := gName 3)  rfl sc_Policy___init__.nd (pi_tup (pe_glob (v := .ref _) (by rfl) T.g_RULES rfl)) (blkOk_by (N := ["self", "names", "told", "name"]) (sc := defScope S_Policy___init__) (by decide +kernel)) (fun _ _ _ _ _ => (by exact (pg_name (i := 3) sc_Policy___init__.nd rfl (Or.inl rfl)))) (fun _ _ _ _ _ => (by exact (pts_one (pt_cmp (pc_din (unitsP hr) (pv 3) (pv 2)) (by rfl))))) (fun _ _ _ _ _ => (by exact (pv 3))))) pa_nil)) rfl)))), ?_⟩
    refine fun tl ntl => ?_
    have s0 := same_new (o := .dK []) (Same.refl H) ntl
    refine XgOwn.for_any (K := K) (C := A.C) (fld := "names") (j := 1) (H := upd H tl (.dK [])) rfl hsrc s0
      (fun i σ H' => Same H H' ∧ (∃ v3, σ = [some (.ref p), some v, some (.ref tl), v3]) ∧ H' tl = some (.dK (told (zs.take i))) ∧ ∀ j, j < i → ¬ bad zs j)
      ⟨s0, ⟨_, rfl⟩, upd_same, fun j hj => absurd hj (Nat.not_lt_zero j)⟩ (fun i σ H' _ h => h.1) ?_ ?_
    · rintro i x σ H2 ex ⟨sm, ⟨v3, rfl⟩, htl, hgood⟩
      rw [List.getElem?_map] at ex
      obtain ⟨z, hzi, rfl⟩ := Option.map_eq_some_iff.mp ex
      have hi : i < zs.length := (List.getElem?_eq_some_iff.mp hzi).1
      have zl := hz z (List.mem_of_getElem? hzi)
      have fail : bad zs i → ∀ d, H2 d = none → E (.ref A.PE) (some d) (upd H2 d (.xd [("name", .str z)])) := fun hb d hd => hbad i z hzi hb hgood _ d (same_new sm hd) (sm.free hd) upd_same
      refine ⟨_, rfl, A.RULES, _, rfl, .inr (strsB_sq T.RULES _), rfl, flat_strs _, _, rfl, ?_⟩
      show if (!inV (.str z) (rulL.map V.str)) = true then _ else _
      rw [inV_str]
      refine ite2 (fun c => ?_) (fun c => ?_)
      · have c' : z ∉ rulL := fun h => by rw [decide_eq_true h] at c; cases c
        exact iteT ⟨_, rfl, z, rfl, by omega, fun d hd => fail ⟨z, hzi, .inl c'⟩ d hd⟩
      have c' : z ∈ rulL := Decidable.byContradiction fun h => c (by rw [decide_eq_false h]; rfl)
      refine ⟨_, rfl, _, rfl, tl, _, rfl, DGet.k (k := Sum.inr z) htl, _, rfl, ?_⟩
      show if (valV (told (zs.take i)) (.inr z)).isSome = true then _ else _
      rw [told_has]
      refine ite2 (fun d => ?_) (fun d => ?_)
      · exact ⟨_, rfl, z, rfl, by omega, fun q hq => fail ⟨z, hzi, .inr (of_decide_eq_true d)⟩ q hq⟩
      refine ⟨_, rfl, _, rfl, tl, _, rfl, DPut.k (k := Sum.inr z) htl (lt1000 (by rw [told_len, List.length_take]; omega)), same_mut sm ntl, ⟨_, rfl⟩, ?_, fun j hj => ?_⟩
      · rw [upd_same, take_next hzi, told_more (fun h => d (decide_eq_true h))]
      · rcases Nat.lt_or_eq_of_le (Nat.le_of_lt_succ hj) with h | h
        · exact hgood j h
        · subst h
          rintro ⟨y, hy, h⟩
          rw [hzi] at hy
          cases hy
          rcases h with h | h
          · exact h c'
          · exact d (decide_eq_true h)
    · rintro σ H1 ⟨sm, ⟨v3, rfl⟩, htl, hgood⟩
      rw [List.length_map] at htl hgood
      rw [List.take_length] at htl
      have hall : ∀ i, ¬ bad zs i := fun i hb => by
        obtain ⟨z, hz, _⟩ := id hb
        exact hgood i (List.getElem?_eq_some_iff.mp hz).1 hb
      refine ⟨A.RULES, rfl, ⟨_, strsB_sq T.RULES _⟩, fun D nD => ?_⟩
      refine lc_it (walk_tup (K := K) (xs := rulL.map V.str)) (fun j H' => Same H1 H' ∧ H' D = some (.lst (((rulL.take j).filter fun z => decide (z ∈ zs)).map V.str))) ⟨same_new (Same.refl H1) nD, by rw [upd_same]; rfl⟩ (fun j H' _ h => same_sqT h.1 (strsB_sq T.RULES _)) ?_ ?_
      · rintro j x H2 H3 hj ⟨sm2, hD⟩ ⟨rfl, ex⟩
        rw [List.getElem?_map] at ex
        obtain ⟨z, hzj, rfl⟩ := Option.map_eq_some_iff.mp ex
        refine ⟨rfl, _, rfl, _, rfl, tl, _, rfl, DGet.k (k := Sum.inr z) (sm2 _ _ htl), _, rfl, ?_⟩
        show if (valV (told zs) (.inr z)).isSome = true then _ else _
        rw [told_has]
        refine ite2 (fun c => ?_) (fun c => ?_)
        · refine ⟨_, rfl, _, hD, lt1000 ?_, same_mut sm2 nD, ?_⟩
          · rw [List.length_map]
            refine Nat.le_trans (List.length_filter_le _ _) ?_
            rw [List.length_take]
            have l : rulL.length = 29 := by decide +kernel
            omega
          · rw [upd_same, take_next hzj, List.filter_append, List.map_append]
            simp only [List.filter_cons, c, List.filter_nil, if_true]
            rfl
        · refine ⟨sm2, ?_⟩
          rw [hD, take_next hzj, List.filter_append]
          simp only [List.filter_cons, c, List.filter_nil, Bool.false_eq_true, if_false, List.append_nil]
      · rintro H2 ⟨sm2, hD⟩
        rw [List.length_map, List.take_length] at hD
        refine ⟨D, _, rfl, .inl ⟨SqL.of hD, fun t nt => ?_⟩⟩
        have s3 := same_new (o := .tup ((sel zs).map V.str)) (sm.trans sm2) nt
        have hp3 := s3 _ _ hp
        have npt : p ≠ t := ne_of_none (sm2 _ _ (sm _ _ hp)) nt
        refine ⟨_, rfl, p, A.C, dx, [], rfl, hp3, T.cl_Policy, T.na_Policy, (by show 0 < 1000; decide), ?_⟩
        refine hok hall _ (fun b o e hb => by rw [upd_ne hb]; exact s3 _ _ e) ⟨dx, t, upd_same, SqT.of ?_⟩
        rw [upd_ne (Ne.symm npt), upd_same]
        rfl
end
/-! ### the rest of the class -/
def spHas (K : PySem.W.Frag) (A : Ad) : Sp := fun vs H Q _ => ∃ (p : Addr) (z : Str) (ns : List Str), vs = [.ref p, .str z] ∧ PolAt K A.C H p ns ∧ Q (.bl (decide (z ∈ ns))) H
def spTwo (K : PySem.W.Frag) (A : Ad) (g : List Str → List Str → List Str) : Sp := fun vs H Q _ => ∃ (p q : Addr) (ns ms : List Str), vs = [.ref p, .ref q] ∧ PolAt K A.C H p ns ∧ PolAt K A.C H q ms ∧ ns.Sublist rulL ∧
  ∀ H' r, Same H H' → H r = none → PolAt K A.C H' r (g ns ms) → Q (.ref r) H'
def spFix (K : PySem.W.Frag) (A : Ad) (zs : List Str) : Sp := fun vs H Q _ => vs = [] ∧ ∀ H' r, Same H H' → H r = none → PolAt K A.C H' r zs → Q (.ref r) H'
def orL (ns ms : List Str) : List Str := rulL.filter fun z => decide (z ∈ ns) || decide (z ∈ ms)
def subL (ns ms : List Str) : List Str := ns.filter fun z => !decide (z ∈ ms)
theorem rul_nodup : rulL.Nodup := by decide +kernel
theorem rul_len {z : Str} (h : z ∈ rulL) : z.length ≤ 1000 := by
  have a : ∀ x ∈ rulL, x.length ≤ 1000 := by decide +kernel
  exact a _ h
theorem take_mem {α : Type} {l : List α} {i : Nat} {z : α} (n : l.Nodup) (h : l[i]? = some z) : z ∉ l.take i := fun hm => by
  obtain ⟨j, hj, e⟩ := List.getElem_of_mem hm
  rw [List.length_take] at hj
  obtain ⟨hi, e2⟩ := List.getElem?_eq_some_iff.mp h
  rw [List.getElem_take] at e
  exact absurd (e.trans e2.symm) (List.pairwise_iff_getElem.mp n j i (by omega) hi (by omega))
/-- names that differ, all of them rules -/
theorem good_of {zs : List Str} (n : zs.Nodup) (h : ∀ z ∈ zs, z ∈ rulL) (i : Nat) : ¬ bad zs i := by
  rintro ⟨z, e, h1 | h1⟩
  · exact h1 (h z (List.mem_of_getElem? e))
  · exact take_mem n e h1
theorem sub_len {zs : List Str} (s : zs.Sublist rulL) : zs.length ≤ 29 := by
  have l : rulL.length = 29 := by decide +kernel
  have := s.length_le
  omega
/-- picking the members of a part of a list gives that part -/
theorem pick_sub : ∀ {l L : List Str}, l.Sublist L → L.Nodup → (L.filter fun z => decide (z ∈ l)) = l
  | _, _, .slnil, _ => rfl
  | l, _, .cons a s, n => by
    obtain ⟨n1, n2⟩ := List.nodup_cons.mp n
    have ha : a ∉ l := fun h => n1 (s.subset h)
    rw [List.filter_cons, decide_eq_false ha]
    simp only [Bool.false_eq_true, if_false]
    exact pick_sub s n2
  | _, _, .cons₂ a s, n => by
    obtain ⟨n1, n2⟩ := List.nodup_cons.mp n
    rw [List.filter_cons, decide_eq_true List.mem_cons_self]
    simp only [if_true]
    congr 1
    rename_i l L
    refine Eq.trans (List.filter_congr fun z hz => ?_) (pick_sub s n2)
    have hza : z ≠ a := fun e => n1 (e ▸ hz)
    rw [decide_eq_decide, List.mem_cons]
    exact ⟨fun h => h.resolve_left hza, .inr⟩
theorem sel_sub {zs : List Str} (s : zs.Sublist rulL) : sel zs = zs := pick_sub s rul_nodup
theorem sel_congr {zs ns : List Str} (h : ∀ z, z ∈ zs ↔ z ∈ ns) : sel zs = sel ns := List.filter_congr fun z _ => by rw [decide_eq_decide]; exact h z
section
variable {P : Program} {w : World} {K : PySem.W.Frag} {mg : Str → Option Value} {base : Heap} {A : Ad}
/-- what the maker gives its callers: names that differ, all of them rules -/
theorem made {H : Hp} {Q : VK} {E : XK} {v : V} {zs : List Str} (hs : XgOwn.SrcOk K A.C "names" H v (zs.map V.str)) (n : zs.Nodup) (h : ∀ z ∈ zs, z ∈ rulL) (hl : zs.length ≤ 100)
    (q : ∀ H' x, Same H H' → H x = none → PolAt K A.C H' x (sel zs) → Q (.ref x) H') : ∀ x dx, H x = none → H dx = none → dx ≠ x → spInit K A [.ref x, v] (upd (upd H dx (.own x)) x (.ins A.C dx [])) (fun v H2 => v = .non ∧ Q (.ref x) H2) E := by
  intro x dx hx hdx hne
  have s1 : Same H (upd (upd H dx (.own x)) x (.ins A.C dx [])) := fun b o e => by
    rw [upd_ne (ne_of_none e hx), upd_ne (ne_of_none e hdx)]
    exact e
  refine ⟨x, dx, v, zs, rfl, upd_same, ?_, hl, fun z hz => rul_len (h z hz), fun _ H' fr pa => ⟨rfl, q H' x (fun b o e => fr b o (s1 b o e) (ne_of_none e hx)) hx pa⟩, fun i z _ hb _ => absurd hb (good_of n h i)⟩
  obtain ⟨a, e, hh⟩ := hs
  refine ⟨a, e, ?_⟩
  rcases hh with h | h | ⟨dx, fs, t, h1, h2, h3⟩
  · exact .inl (s1.seq h)
  · exact .inr (.inl (same_sqT s1 h))
  · exact .inr (.inr ⟨dx, fs, t, s1 _ _ h1, h2, same_sqT s1 h3⟩)
theorem ok_has {fd : FuncData} (F : Fun K "has" "Policy.has" S_Policy_has A.has fd) (T : Tp P w K mg A) : FnOk P w K mg base CX0 1 A.has fd ["self", "name"] (spHas K A) := by
  refine F.ok sc_Policy_has (fun vs H Q E h => ?_) (fun cdv A' outer s H vs Q E hr h => ?_)
  · obtain ⟨p, z, ns, rfl, _⟩ := h
    rfl
  · obtain ⟨p, z, ns, rfl, ⟨dx, t, h1, h2⟩, q⟩ := h
    refine ⟨_, (pss_one (ps_ret (pe_cmpR op_in_seq (pv 1) (pe_fld (pv 0) rfl) (by rfl)))), ?_⟩
    refine ⟨_, rfl, _, rfl, p, A.C, dx, _, _, rfl, h1, T.cl_Policy, T.na_Policy, rfl, t, _, rfl, .inr h2, rfl, flat_strs _, ?_⟩
    show Q (.bl (inV (.str z) (ns.map V.str))) H
    rw [inV_str]
    exact q
theorem ok_contains {fd : FuncData} (F : Fun K "__contains__" "Policy.__contains__" S_Policy___contains__ A.contains fd) (T : Tp P w K mg A) : FnOk P w K mg base CX0 1 A.contains fd ["self", "name"] (spHas K A) := by
  refine F.ok sc_Policy___contains__ (fun vs H Q E h => ?_) (fun cdv A' outer s H vs Q E hr h => ?_)
  · obtain ⟨p, z, ns, rfl, _⟩ := h
    rfl
  · obtain ⟨p, z, ns, rfl, ⟨dx, t, h1, h2⟩, q⟩ := h
    refine ⟨_, (pss_one (ps_ret (pe_cmpR op_in_seq (pv 1) (pe_fld (pv 0) rfl) (by rfl)))), ?_⟩
    refine ⟨_, rfl, _, rfl, p, A.C, dx, _, _, rfl, h1, T.cl_Policy, T.na_Policy, rfl, t, _, rfl, .inr h2, rfl, flat_strs _, ?_⟩
    show Q (.bl (inV (.str z) (ns.map V.str))) H
    rw [inV_str]
    exact q
end
end P88
namespace P88
open PySem L2 Xg
def spStrs (zs : List Str) : Sp := fun vs H Q _ => vs = [] ∧ ∀ (H' : Hp) (p : Addr), Same H H' → H p = none → H' p = some (.lst (zs.map V.str)) → Q (.ref p) H'
theorem same_sqL {K : PySem.W.Frag} {H H' : Hp} {a : Addr} {xs : List V} (e : Same H H') (h : SqL K H a xs) : SqL K H' a xs := e.seq h
section
variable {P : Program} {w : World} {K : PySem.W.Frag} {mg : Str → Option Value} {base : Heap} {A : Ad}
abbrev FDi (K : PySem.W.Frag) (A : Ad) (fd : FuncData) : Prop := FunD K "__init__" "Policy.__init__" (defArgs S_Policy___init__) (defBody S_Policy___init__) (defScope S_Policy___init__) [V.ref A.nil] [] A.init fd
theorem init_b {fd : FuncData} (F : FDi K A fd) : Binds K fd ["self", "names"] [] := by
  obtain ⟨ds, v, b⟩ := F.binds1 (ps := ["self", "names"]) 2 1 (fun h => nomatch h) rfl (fun T kV doc pm an cdv ct us its h1 h2 => match us, its, h1, h2 with | [_, _], [_], _, _ => ⟨_, rfl, rfl⟩)
  cases v
  exact b
theorem init_b0 {fd : FuncData} (F : FDi K A fd) : ∃ ds, Vals [V.ref A.nil] ds ∧ Binds K fd ["self", "names"] ds :=
  F.binds1 (ps := ["self", "names"]) 1 0 (fun h => nomatch h) rfl (fun T kV doc pm an cdv ct us its h1 h2 => match us, its, h1, h2 with | [_], [_], _, _ => ⟨_, rfl, rfl⟩)
theorem ok_full {fd : FuncData} (F : Fun K "full" "Policy.full" S_Policy_full A.full fd) (T : Tp P w K mg A) : FnOk P w K mg base CX0 6 A.full fd [] (spFix K A rulL) := by
  obtain ⟨fi, Fi⟩ := T.d_init
  have G_init : FnOk P w K mg base (L2.CX P w) 4 A.init fi ["self", "names"] (spInit K A) := ok_init Fi T
  have b_init := init_b Fi
  refine F.ok sc_Policy_full (fun vs H Q E h => ?_) (fun cdv A' outer s H vs Q E hr h => ?_)
  · obtain ⟨rfl, _⟩ := h
    rfl
  · obtain ⟨rfl, q⟩ := h
    refine ⟨_, (pss_one (ps_ret (pe_make T.M_Policy G_init (hr.mono (by decide)) (by rfl) T.g_Policy b_init .nil passL (pa_cons (pe_glob (v := .ref _) (by rfl) T.g_RULES rfl) pa_nil)))), ?_⟩
    refine made (zs := rulL) ⟨_, rfl, .inr (.inl (strsB_sq T.RULES H))⟩ rul_nodup (fun _ h => h) (by decide +kernel) fun H' x s hx pa => q H' x s hx ?_
    rw [sel_sub (List.Sublist.refl _)] at pa
    exact pa
theorem ok_empty {fd : FuncData} (F : Fun K "empty" "Policy.empty" S_Policy_empty A.empty fd) (T : Tp P w K mg A) : FnOk P w K mg base CX0 6 A.empty fd [] (spFix K A []) := by
  obtain ⟨fi, Fi⟩ := T.d_init
  have G_init : FnOk P w K mg base (L2.CX P w) 4 A.init fi ["self", "names"] (spInit K A) := ok_init Fi T
  obtain ⟨ds0, v_init0, b_init0⟩ := init_b0 Fi
  refine F.ok sc_Policy_empty (fun vs H Q E h => ?_) (fun cdv A' outer s H vs Q E hr h => ?_)
  · obtain ⟨rfl, _⟩ := h
    rfl
  · obtain ⟨rfl, q⟩ := h
    refine ⟨_, (pss_one (ps_ret (pe_make0 T.M_Policy G_init (hr.mono (by decide)) (by rfl) T.g_Policy b_init0 v_init0 passL))), ?_⟩
    refine made (zs := []) ⟨_, rfl, .inr (.inl (strsB_sq T.nil H))⟩ List.nodup_nil (fun _ h => nomatch h) (by decide) fun H' x s hx pa => q H' x s hx ?_
    rw [sel_sub (List.nil_sublist _)] at pa
    exact pa
theorem ok_or {fd : FuncData} (F : Fun K "__or__" "Policy.__or__" S_Policy___or__ A.or_ fd) (T : Tp P w K mg A) : FnOk P w K mg base CX0 6 A.or_ fd ["self", "other"] (spTwo K A orL) := by
  obtain ⟨fi, Fi⟩ := T.d_init
  have G_init : FnOk P w K mg base (L2.CX P w) 4 A.init fi ["self", "names"] (spInit K A) := ok_init Fi T
  have b_init := init_b Fi
  refine F.ok sc_Policy___or__ (fun vs H Q E h => ?_) (fun cdv A' outer s H vs Q E hr h => ?_)
  · obtain ⟨p, r, ns, ms, rfl, _⟩ := h
    rfl
  · obtain ⟨p, r, ns, ms, rfl, hp, hr', hsub, q⟩ := h
    refine ⟨_, (pss_one (ps_ret (pe_make T.M_Policy G_init (hr.mono (by decide)) (by rfl) T.g_Policy b_init .nil passL (pa_cons (by exact (pe_lc (own := [("name", 2)]) (g := gName 2)  rfl sc_Policy___or__.nd (pi_tup (pe_glob (v := .ref _) (by rfl) T.g_RULES rfl)) (blkOk_by (N := ["self", "other", "name"]) (sc := defScope S_Policy___or__) (by decide +kernel)) (fun _ _ _ _ _ => (by exact (pg_name (i := 2) sc_Policy___or__.nd rfl (Or.inl rfl)))) (fun _ _ _ _ _ => (by exact (pts_one (PW.pt (pw_or (pt_cmpR (show OpR _ (compareOp .In) (rIn K false) from op_in_seq) (pv 2) (show PE _ _ (tFld K (tVar 0) "names") from pe_fld (pv 0) rfl) (by rfl)) (pw_or1 (pt_cmpR (show OpR _ (compareOp .In) (rIn K false) from op_in_seq) (pv 2) (show PE _ _ (tFld K (tVar 1) "names") from pe_fld (pv 1) rfl) (by rfl)))))))) (fun _ _ _ _ _ => (by exact (pv 2))))) pa_nil)))), ?_⟩
    refine ⟨A.RULES, rfl, ⟨_, strsB_sq T.RULES _⟩, fun D nD => ?_⟩
    refine lc_it (walk_tup (K := K) (xs := rulL.map V.str)) (fun j H' => Same H H' ∧ H' D = some (.lst (((rulL.take j).filter fun z => decide (z ∈ ns) || decide (z ∈ ms)).map V.str))) ⟨same_new (Same.refl H) nD, by rw [upd_same]; rfl⟩ (fun j H' _ h => same_sqT h.1 (strsB_sq T.RULES _)) ?_ ?_
    · rintro j x H2 H3 hj ⟨sm2, hD⟩ ⟨rfl, ex⟩
      rw [List.getElem?_map] at ex
      obtain ⟨z, hzj, rfl⟩ := Option.map_eq_some_iff.mp ex
      obtain ⟨dx1, t1, g1, k1⟩ := hp.same sm2
      obtain ⟨dx2, t2, g2, k2⟩ := hr'.same sm2
      have room : (((rulL.take j).filter fun z => decide (z ∈ ns) || decide (z ∈ ms)).map V.str).length < sizeLine := by
        refine lt1000 ?_
        rw [List.length_map]
        refine Nat.le_trans (List.length_filter_le _ _) ?_
        rw [List.length_take]
        have l : rulL.length = 29 := by decide +kernel
        omega
      have yes : (decide (z ∈ ns) || decide (z ∈ ms)) = true → ∃ acc, H3 D = some (.lst acc) ∧ acc.length < sizeLine ∧ Same H (upd H3 D (.lst (acc ++ [V.str z]))) ∧ upd H3 D (.lst (acc ++ [V.str z])) D = some (.lst (((rulL.take (j + 1)).filter fun z => decide (z ∈ ns) || decide (z ∈ ms)).map V.str)) := fun c => by
        refine ⟨_, hD, room, same_mut sm2 nD, ?_⟩
        rw [upd_same, take_next hzj, List.filter_append, List.map_append]
        simp only [List.filter_cons, c, List.filter_nil, if_true]
        rfl
      refine ⟨rfl, _, rfl, _, rfl, p, A.C, dx1, _, _, rfl, g1, T.cl_Policy, T.na_Policy, rfl, t1, _, rfl, .inr k1, rfl, flat_strs _, _, rfl, ?_⟩
      show if inV (.str z) (ns.map V.str) = true then _ else _
      rw [inV_str]
      refine ite2 (fun c => ?_) (fun c => ?_)
      · exact ⟨_, rfl, yes (by rw [c, Bool.true_or])⟩
      refine ⟨_, rfl, _, rfl, r, A.C, dx2, _, _, rfl, g2, T.cl_Policy, T.na_Policy, rfl, t2, _, rfl, .inr k2, rfl, flat_strs _, _, rfl, ?_⟩
      show if inV (.str z) (ms.map V.str) = true then _ else _
      rw [inV_str]
      refine ite2 (fun d => ?_) (fun d => ?_)
      · exact ⟨_, rfl, yes (by rw [d, Bool.or_true])⟩
      refine ⟨sm2, ?_⟩
      rw [hD, take_next hzj, List.filter_append]
      simp only [List.filter_cons, c, d, List.filter_nil, Bool.or_false, Bool.false_eq_true, if_false, List.append_nil]
    · rintro H2 ⟨sm2, hD⟩
      rw [List.length_map, List.take_length] at hD
      have sb : (orL ns ms).Sublist rulL := List.filter_sublist
      refine made (zs := orL ns ms) ⟨D, rfl, .inl (SqL.of hD)⟩ (sb.nodup rul_nodup) (fun z h => sb.subset h) (by have := sub_len sb; omega) fun H' x s hx pa => q H' x (sm2.trans s) (sm2.free hx) ?_
      rw [sel_sub sb] at pa
      exact pa
theorem ok_sub {fd : FuncData} (F : Fun K "__sub__" "Policy.__sub__" S_Policy___sub__ A.sub fd) (T : Tp P w K mg A) : FnOk P w K mg base CX0 6 A.sub fd ["self", "other"] (spTwo K A subL) := by
  obtain ⟨fi, Fi⟩ := T.d_init
  have G_init : FnOk P w K mg base (L2.CX P w) 4 A.init fi ["self", "names"] (spInit K A) := ok_init Fi T
  have b_init := init_b Fi
  refine F.ok sc_Policy___sub__ (fun vs H Q E h => ?_) (fun cdv A' outer s H vs Q E hr h => ?_)
  · obtain ⟨p, r, ns, ms, rfl, _⟩ := h
    rfl
  · obtain ⟨p, r, ns, ms, rfl, hp, hr', hsub, q⟩ := h
    refine ⟨_, (pss_one (ps_ret (pe_make T.M_Policy G_init (hr.mono (by decide)) (by rfl) T.g_Policy b_init .nil passL (pa_cons (by exact (pe_lc (own := [("name", 2)]) (g := gName 2)  rfl sc_Policy___sub__.nd (pi_tup (pe_fld (pv 0) rfl)) (blkOk_by (N := ["self", "other", "name"]) (sc := defScope S_Policy___sub__) (by decide +kernel)) (fun _ _ _ _ _ => (by exact (pg_name (i := 2) sc_Policy___sub__.nd rfl (Or.inl rfl)))) (fun _ _ _ _ _ => (by exact (pts_one (pt_cmpR (show OpR _ (compareOp .NotIn) (rIn K true) from op_notIn_seq) (pv 2) (show PE _ _ (tFld K (tVar 1) "names") from pe_fld (pv 1) rfl) (by rfl))))) (fun _ _ _ _ _ => (by exact (pv 2))))) pa_nil)))), ?_⟩
    obtain ⟨dx1, t1, g1, k1⟩ := hp
    refine ⟨_, rfl, p, A.C, dx1, _, _, rfl, g1, T.cl_Policy, T.na_Policy, rfl, t1, rfl, ⟨_, k1⟩, fun D nD => ?_⟩
    refine lc_it (walk_tup (K := K) (xs := ns.map V.str)) (fun j H' => Same H H' ∧ H' D = some (.lst (((ns.take j).filter fun z => !decide (z ∈ ms)).map V.str))) ⟨same_new (Same.refl H) nD, by rw [upd_same]; rfl⟩ (fun j H' _ h => same_sqT h.1 k1) ?_ ?_
    · rintro j x H2 H3 hj ⟨sm2, hD⟩ ⟨rfl, ex⟩
      rw [List.getElem?_map] at ex
      obtain ⟨z, hzj, rfl⟩ := Option.map_eq_some_iff.mp ex
      obtain ⟨dx2, t2, g2, k2⟩ := hr'.same sm2
      refine ⟨rfl, _, rfl, _, rfl, r, A.C, dx2, _, _, rfl, g2, T.cl_Policy, T.na_Policy, rfl, t2, _, rfl, .inr k2, rfl, flat_strs _, _, rfl, ?_⟩
      show if (!inV (.str z) (ms.map V.str)) = true then _ else _
      rw [inV_str]
      refine ite2 (fun c => ?_) (fun c => ?_)
      · refine ⟨_, rfl, _, hD, lt1000 ?_, same_mut sm2 nD, ?_⟩
        · rw [List.length_map]
          refine Nat.le_trans (List.length_filter_le _ _) ?_
          rw [List.length_take]
          have := sub_len hsub
          omega
        · rw [upd_same, take_next hzj, List.filter_append, List.map_append]
          simp only [List.filter_cons, c, List.filter_nil, if_true]
          rfl
      · refine ⟨sm2, ?_⟩
        rw [hD, take_next hzj, List.filter_append]
        simp only [List.filter_cons, c, List.filter_nil, Bool.false_eq_true, if_false, List.append_nil]
    · rintro H2 ⟨sm2, hD⟩
      rw [List.length_map, List.take_length] at hD
      have sb : (subL ns ms).Sublist rulL := List.filter_sublist.trans hsub
      refine made (zs := subL ns ms) ⟨D, rfl, .inl (SqL.of hD)⟩ (sb.nodup rul_nodup) (fun z h => sb.subset h) (by have := sub_len sb; omega) fun H' x s hx pa => q H' x (sm2.trans s) (sm2.free hx) ?_
      rw [sel_sub sb] at pa
      exact pa
theorem ok__law_row {fd : FuncData} (F : Fun K "_law_row" "_law_row" S__law_row A._law_row fd) (T : Tp P w K mg A) : FnOk P w K mg base CX0 1 A._law_row fd ["_law_script", "_law_most"] (spRow K) := by
  refine F.ok sc__law_row (fun vs H Q E h => ?_) (fun cdv A' outer s H vs Q E hr h => ?_)
  · obtain ⟨a, ns, m, rfl, _⟩ := h
    rfl
  · obtain ⟨a, ns, m, rfl, hS, hl, hm0, hm1, hok⟩ := h
    refine ⟨_, (pss_cons (ps_set (i := 2) sc__law_row.nd rfl (Or.inl rfl) (pe_lst pa_nil))
  (pss_cons (ps_for PassesOwn.never rfl (pi_list (pv 0)) (pg_name (i := 3) sc__law_row.nd rfl (Or.inl rfl))
    (pss_cons (ps_set (i := 4) sc__law_row.nd rfl (Or.inl rfl) (pe_callB call_abs (by rfl) T.n_abs (by decide +kernel) (pa_cons (pe_callTy call_int1 (by rfl) T.n_int (by decide +kernel) (pa_cons (pv 3) pa_nil)) pa_nil)))
  (pss_one (ps_for PassesOwn.never rfl (pi_range1 (by rfl) T.n_range (pa_cons pe_int pa_nil)) (pg_name (i := 5) sc__law_row.nd rfl (Or.inl rfl))
    (pss_cons (ps_if (pt_cmpR op_lt (pe_callB call_len_seq (by rfl) T.n_len PySem.boot_len (pa_cons (pv 2) pa_nil)) (pv 1) (nomark _))
    (pss_one (ps_expr (pe_bm PySem.F.plainAttrs_list PySem.F.slot_list_append PySem.F.type_list_append mt_append (pv 2) (pa_cons (pe_op op_mod (pv 4) pe_int) pa_nil))))
    pss_nil)
  (pss_cons (ps_set (i := 4) sc__law_row.nd rfl (Or.inl rfl) (pe_op op_fdiv (pv 4) pe_int))
  (pss_one (ps_if (pt_cmpR op_eq (pv 4) pe_int (nomark _))
    (pss_one ps_break)
    pss_nil))))))))
  (pss_one (ps_ret (pv 2))))), ?_⟩
    refine ⟨(by show 0 ≤ sizeLine; decide), fun p np => ⟨_, rfl, a, rfl, ⟨_, same_sqL (same_new (Same.refl H) np) hS⟩, for_it (walk_list (xs := ns.map V.int)) (fun _ σ H' => Same H H' ∧ (∃ v3 v4 v5, σ = [some (.ref a), some (.int m), some (.ref p), v3, v4, v5]) ∧ ∃ row : List Int, H' p = some (.lst (row.map V.int)) ∧ (row.length : Int) ≤ m ∧ Dig row) ⟨same_new (Same.refl H) np, ⟨_, _, _, rfl⟩, [], upd_same, by simpa using hm0, dig_nil⟩ (fun i σ H' _ h => same_sqL h.1 hS) ?_ ?_⟩⟩
    · rintro i x σ H1 H2 hi ⟨sm, ⟨v3, v4, v5, rfl⟩, row, hp, hlen, hd⟩ ⟨rfl, ex⟩
      rw [List.getElem?_map] at ex
      obtain ⟨n, hn, rfl⟩ := Option.map_eq_some_iff.mp ex
      refine ⟨_, rfl, .inl ⟨n, rfl, n, rfl, 60, rfl, by decide, by decide, ?_⟩⟩
      refine for_it walk_range (fun _ σ H' => Same H H' ∧ (∃ r v5, 0 ≤ r ∧ σ = [some (.ref a), some (.int m), some (.ref p), some (.int n), some (.int r), v5]) ∧ ∃ row : List Int, H' p = some (.lst (row.map V.int)) ∧ (row.length : Int) ≤ m ∧ Dig row) ⟨sm, ⟨_, _, ?_, rfl⟩, row, hp, hlen, hd⟩ (fun _ _ _ _ _ => True.intro) ?_ ?_
      · split <;> omega
      · rintro j x σ H2 H3 hj ⟨sm2, ⟨r, v5, hr0, rfl⟩, row2, hp2, hlen2, hd2⟩ ⟨rfl, rfl⟩
        refine ⟨_, rfl, p, _, rfl, .inl (SqL.of hp2), _, rfl, _, _, rfl, rfl, _, rfl, ?_⟩
        rw [List.length_map]
        refine ite2 (fun c => ?_) (fun c => ?_)
        · have c' : (row2.length : Int) < m := of_decide_eq_true c
          refine ⟨_, rfl, .inl ⟨rfl, _, SqL.of hp2⟩, _, rfl, _, _, rfl, rfl, (by show (0 : Int) < 16; decide), p, _, _, rfl, rfl, hp2, lt1000 (by rw [List.length_map]; omega), ?_⟩
          have s3 := same_mut (o := .lst (row2.map V.int ++ [V.int (r % 16)])) sm2 np
          refine ⟨_, rfl, _, _, rfl, rfl, ⟨by decide, by decide⟩, _, rfl, rfl, _, rfl, ite2 (fun d => ?_) (fun d => ?_)⟩
          · exact ⟨s3, ⟨_, _, _, rfl⟩, row2 ++ [r % 16], (by rw [upd_same, List.map_append]; rfl), (by rw [List.length_append]; show ((row2.length + 1 : Nat) : Int) ≤ m; omega), dig_more hd2 (by omega) (by omega)⟩
          · exact ⟨s3, ⟨_, _, by omega, rfl⟩, row2 ++ [r % 16], (by rw [upd_same, List.map_append]; rfl), (by rw [List.length_append]; show ((row2.length + 1 : Nat) : Int) ≤ m; omega), dig_more hd2 (by omega) (by omega)⟩
        · refine ⟨_, rfl, _, _, rfl, rfl, ⟨by decide, by decide⟩, _, rfl, rfl, _, rfl, ite2 (fun d => ?_) (fun d => ?_)⟩
          · exact ⟨sm2, ⟨_, _, _, rfl⟩, row2, hp2, hlen2, hd2⟩
          · exact ⟨sm2, ⟨_, _, by omega, rfl⟩, row2, hp2, hlen2, hd2⟩
      · rintro σ H2 ⟨sm2, ⟨r, v5, hr0, rfl⟩, h⟩
        exact ⟨sm2, ⟨_, _, _, rfl⟩, h⟩
    · rintro σ H1 ⟨sm, ⟨v3, v4, v5, rfl⟩, row, hp, hlen, hd⟩
      exact ⟨_, rfl, hok H1 p row sm np hp hlen hd⟩
theorem ok__law_pick {fd : FuncData} (F : Fun K "_law_pick" "_law_pick" S__law_pick A._law_pick fd) (T : Tp P w K mg A) : FnOk P w K mg base CX0 1 A._law_pick fd ["_law_row_here", "_law_at", "_law_limit"] (spPick K) := by
  refine F.ok sc__law_pick (fun vs H Q E h => ?_) (fun cdv A' outer s H vs Q E hr h => ?_)
  · obtain ⟨a, row, i, m, rfl, _⟩ := h
    rfl
  · obtain ⟨a, row, i, m, rfl, hS, hd, hi0, hi1, hm, hok⟩ := h
    refine ⟨_, (pss_cons (ps_set (i := 3) sc__law_pick.nd rfl (Or.inl rfl) pe_int)
  (pss_cons (ps_if (pt_cmpR op_lt (pv 1) (pe_callB call_len_seq (by rfl) T.n_len PySem.boot_len (pa_cons (pv 0) pa_nil)) (nomark _))
    (pss_one (ps_set (i := 3) sc__law_pick.nd rfl (Or.inl rfl) (pe_ix ix_list (pv 0) (pv 1) (fun _ _ => rfl))))
    pss_nil)
  (pss_cons (ps_if (pt_cmpR op_lt (pe_op op_add (pv 1) pe_int) (pe_callB call_len_seq (by rfl) T.n_len PySem.boot_len (pa_cons (pv 0) pa_nil)) (nomark _))
    (pss_one (ps_set (i := 3) sc__law_pick.nd rfl (Or.inl rfl) (pe_op op_add (pv 3) (pe_op op_mul pe_int (pe_ix ix_list (pv 0) (pe_op op_add (pv 1) pe_int) (fun _ _ => rfl))))))
    pss_nil)
  (pss_one (ps_ret (pe_op op_mod (pe_callTy call_int1 (by rfl) T.n_int (by decide +kernel) (pa_cons (pv 3) pa_nil)) (pv 2))))))), ?_⟩
    have nn : ∃ k : Nat, i = (k : Int) := Int.eq_ofNat_of_zero_le hi0
    obtain ⟨k, rfl⟩ := nn
    have e0 : ((k : Int)).toNat = k := Int.toNat_natCast k
    unfold pick at hok
    rw [e0] at hok
    refine ⟨_, rfl, _, rfl, a, _, rfl, .inl hS, _, _, rfl, rfl, _, rfl, ?_⟩
    rw [List.length_map]
    refine ite2 (fun c => ?_) (fun c => ?_)
    · have c' : (k : Int) < row.length := of_decide_eq_true c
      refine ⟨_, rfl, _, rfl, a, _, _, _, rfl, rfl, hS, atI_int (by omega) c', ?_⟩
      rw [e0]
      refine ⟨_, rfl, _, _, rfl, rfl, _, rfl, a, _, rfl, .inl hS, _, _, rfl, rfl, _, rfl, ?_⟩
      rw [List.length_map]
      refine ite2 (fun d => ?_) (fun d => ?_)
      · have d' : (k : Int) + 1 < row.length := of_decide_eq_true d
        refine ⟨_, rfl, _, rfl, _, rfl, _, _, rfl, rfl, a, _, _, _, rfl, rfl, hS, atI_int (by omega) d', _, _, rfl, rfl, .inl ⟨by decide, by decide⟩, _, _, rfl, rfl, ?_⟩
        have e1 : ((k : Int) + 1).toNat = k + 1 := by omega
        rw [e1]
        exact ⟨_, rfl, .inl ⟨_, rfl, _, rfl, _, _, rfl, rfl, hm, hok⟩⟩
      · have d' : ¬ (k : Int) + 1 < row.length := fun z => d (decide_eq_true z)
        refine ⟨_, rfl, .inl ⟨_, rfl, _, rfl, _, _, rfl, rfl, hm, ?_⟩⟩
        have z1 : row.getD (k + 1) 0 = 0 := getD_out (by omega)
        rw [z1] at hok
        have e2 : row.getD k 0 + 16 * 0 = row.getD k 0 := by omega
        rw [e2] at hok
        exact hok
    · have c' : ¬ (k : Int) < row.length := fun z => c (decide_eq_true z)
      have z0 : row.getD k 0 = 0 := getD_out (by omega)
      have z1 : row.getD (k + 1) 0 = 0 := getD_out (by omega)
      rw [z0, z1] at hok
      refine ⟨_, rfl, _, _, rfl, rfl, _, rfl, a, _, rfl, .inl hS, _, _, rfl, rfl, _, rfl, ?_⟩
      rw [List.length_map]
      refine ite2 (fun d => ?_) (fun d => ?_)
      · have d' : (k : Int) + 1 < row.length := of_decide_eq_true d
        omega
      · exact ⟨_, rfl, .inl ⟨_, rfl, _, rfl, _, _, rfl, rfl, hm, hok⟩⟩
theorem ok__law_rules {fd : FuncData} (F : Fun K "_law_rules" "_law_rules" S__law_rules A._law_rules fd) (T : Tp P w K mg A) : FnOk P w K mg base CX0 1 A._law_rules fd [] (spStrs rulL) := by
  refine F.ok sc__law_rules (fun vs H Q E h => ?_) (fun cdv A' outer s H vs Q E hr h => ?_)
  · obtain ⟨rfl, _⟩ := h
    rfl
  · obtain ⟨rfl, q⟩ := h
    refine ⟨_, (pss_cons (ps_set (i := 0) sc__law_rules.nd rfl (Or.inl rfl) pe_str)
  (pss_cons (ps_set (i := 0) sc__law_rules.nd rfl (Or.inl rfl) (pe_op op_add_str (pv 0) pe_str))
  (pss_cons (ps_set (i := 0) sc__law_rules.nd rfl (Or.inl rfl) (pe_op op_add_str (pv 0) pe_str))
  (pss_cons (ps_set (i := 0) sc__law_rules.nd rfl (Or.inl rfl) (pe_op op_add_str (pv 0) pe_str))
  (pss_one (ps_ret (pe_split (pv 0) pe_str))))))), ?_⟩
    refine ⟨_, rfl, _, _, rfl, rfl, by decide +kernel, _, rfl, _, _, rfl, rfl, by decide +kernel, _, rfl, _, _, rfl, rfl, by decide +kernel, _, rfl, ⟨_, rfl⟩, _, _, rfl, rfl, by decide +kernel, by decide +kernel, fun p np => ?_⟩
    have e : Txt.split ((("invalidate_store invalidate_device track_frames track_prepared track_second invalidate_map" : Str) ++ (" invalidate_rights key_level leave_self leave_other cut_links clear_links hold_slot check_entry" : Str)) ++ (" stop_page stop_store no_links single eager flush_exit flush_source keep_dropped map_inspect" : Str) ++ (" map_fault flush_fault map_leave prompt_store poll_entry poll_backward" : Str)) " " = rulL := by decide +kernel
    have h := q _ p (same_new (o := .lst (rulL.map V.str)) (Same.refl H) np) np upd_same
    rw [← e] at h
    exact h
end
end P88
namespace P88
open PySem L2 Xg
def chTo (row : List Int) (at_ : Int) (j : Nat) : List Str := ((List.range j).filter fun (k : Nat) => decide (pick row (at_ + (k : Int)) 2 = 1)).map fun (k : Nat) => rulL.getD k ""
def spChosen (K : PySem.W.Frag) : Sp := fun vs H Q _ => ∃ (a : Addr) (row : List Int) (m : Int), vs = [.ref a, .int m] ∧ SqL K H a (row.map V.int) ∧ Dig row ∧ 0 ≤ m ∧ m < 1000 ∧ ∀ H' p, Same H H' → H p = none → H' p = some (.lst ((chTo row m 29).map V.str)) → Q (.ref p) H'
theorem chTo_sub (row : List Int) (m : Int) : (chTo row m 29).Sublist rulL := by
  have e : (List.range 29).map (fun k => rulL.getD k "") = rulL := by decide +kernel
  have h : (chTo row m 29).Sublist ((List.range 29).map (fun k => rulL.getD k "")) := List.Sublist.map _ List.filter_sublist
  rw [e] at h
  exact h
theorem chTo_succ (row : List Int) (m : Int) (j : Nat) : chTo row m (j + 1) = chTo row m j ++ (if decide (pick row (m + (j : Int)) 2 = 1) = true then [rulL.getD j ""] else []) := by
  unfold chTo
  rw [List.range_succ, List.filter_append, List.map_append]
  congr 1
  rw [List.filter_cons, List.filter_nil]
  split <;> rfl
def turn (ns : List Str) (k : Nat) (r : Bool) : List Str := if r = true then (ns.drop k ++ ns.take k).reverse else ns.drop k ++ ns.take k
def spTurned (K : PySem.W.Frag) : Sp := fun vs H Q _ => ∃ (a : Addr) (ns : List Str) (k : Nat) (b : Int), vs = [.ref a, .int (k : Int), .int b] ∧ SqL K H a (ns.map V.str) ∧ k ≤ ns.length ∧ ns.length ≤ 100 ∧
  ∀ H' p, Same H H' → H p = none → H' p = some (.lst ((turn ns k (decide (b = 1))).map V.str)) → Q (.ref p) H'
theorem cut_from {xs : List V} {k : Nat} (h : k ≤ xs.length) : cutV xs (some (k : Int)) none = xs.drop k := by
  unfold cutV
  rw [HT.sIx_none, HT.sIx_nat, Nat.min_eq_left h, List.take_of_length_le (by rw [List.length_drop]; omega)]
theorem cut_to {xs : List V} {k : Nat} (h : k ≤ xs.length) : cutV xs none (some (k : Int)) = xs.take k := by
  unfold cutV
  rw [HT.sIx_none, HT.sIx_nat, Nat.min_eq_left h, List.drop_zero, Nat.sub_zero]
theorem walk_r0 {n : Nat} : Walk (Itr 0 n) n (fun _ => True) (YFn fun i => .int (i : Int)) :=
  walk_range.mono (fun _ _ => True.intro) fun i _ x _ _ _ y => ⟨y.1, by rw [y.2]; show V.int (0 + (i : Int)) = V.int (i : Int); rw [Int.zero_add]⟩
section
variable {P : Program} {w : World} {K : PySem.W.Frag} {mg : Str → Option Value} {base : Heap} {A : Ad}
theorem ok__law_chosen {fd : FuncData} (F : Fun K "_law_chosen" "_law_chosen" S__law_chosen A._law_chosen fd) (T : Tp P w K mg A) : FnOk P w K mg base CX0 2 A._law_chosen fd ["_law_row_here", "_law_at"] (spChosen K) := by
  obtain ⟨fd1, F1, b__law_pick⟩ := T.d__law_pick.ex
  have G__law_pick : FnOk P w K mg base CX0 1 A._law_pick fd1 ["_law_row_here", "_law_at", "_law_limit"] (spPick K) := ok__law_pick F1 T
  obtain ⟨fd2, F2, b__law_rules⟩ := T.d__law_rules.ex
  have G__law_rules : FnOk P w K mg base CX0 1 A._law_rules fd2 [] (spStrs rulL) := ok__law_rules F2 T
  refine F.ok sc__law_chosen (fun vs H Q E h => ?_) (fun cdv A' outer s H vs Q E hr h => ?_)
  · obtain ⟨a, row, m, rfl, _⟩ := h
    rfl
  · obtain ⟨a, row, m, rfl, hS, hd, h0, h1, q⟩ := h
    refine ⟨_, (pss_cons (ps_set (i := 2) sc__law_chosen.nd rfl (Or.inr rfl) (pe_call0 G__law_rules (hr.mono (by decide)) (by rfl) T.d__law_rules.g T.d__law_rules.k b__law_rules .nil pass0))
  (pss_one (ps_ret (by exact (pe_lc (own := [("_law_k", 3)]) (g := gName 3)  rfl sc__law_chosen.nd (pi_range1 (by rfl) T.n_range (pa_cons pe_int pa_nil)) (blkOk_by (N := ["_law_row_here", "_law_at", "_law_rules_here", "_law_k"]) (sc := defScope S__law_chosen) (by decide +kernel)) (fun _ _ _ _ _ => (by exact (pg_name (i := 3) sc__law_chosen.nd rfl (Or.inl rfl)))) (fun _ _ _ _ _ => (by exact (pts_one (pt_cmpR op_eq (pe_call G__law_pick (hr.mono (by decide)) (by rfl) T.d__law_pick.g T.d__law_pick.k b__law_pick .nil pass0 (pa_cons (pv 0) (pa_cons (pe_op op_add (pv 1) (pv 3)) (pa_cons pe_int pa_nil)))) pe_int (nomark _))))) (fun _ _ _ _ _ => (by exact (pe_ix (show IxR _ (rIxL K) from ix_list) (pv 2) (pv 3) (fun _ _ => rfl))))))))), ?_⟩
    refine ⟨rfl, fun H1 p1 s1 n1 e1 => ?_⟩
    refine ⟨29, rfl, by decide, by decide, fun D nD => ?_⟩
    refine lc_it walk_r0 (fun j H' => Same H1 H' ∧ H' D = some (.lst ((chTo row m j).map V.str))) ⟨same_new (Same.refl H1) nD, by rw [upd_same]; rfl⟩ (fun _ _ _ _ => True.intro) ?_ ?_
    · rintro j x H2 H3 hj ⟨sm, hD⟩ ⟨rfl, rfl⟩
      have hj' : j < 29 := hj
      have lr : rulL.length = 29 := by decide +kernel
      have lc : (chTo row m j).length ≤ 29 := by
        unfold chTo
        rw [List.length_map]
        refine Nat.le_trans (List.length_filter_le _ _) ?_
        rw [List.length_range]
        omega
      refine ⟨rfl, ?_⟩
      refine ⟨_, rfl, _, rfl, _, rfl, _, _, rfl, rfl, a, row, _, 2, rfl, same_sqL (s1.trans sm) hS, hd, by omega, by omega, by decide, rfl, _, rfl, ?_⟩
      have e2 : decide (V.int (pick row (m + (j : Int)) 2) = V.int 1) = decide (pick row (m + (j : Int)) 2 = 1) := by simp
      rw [e2]
      refine ite2 (fun c => ?_) (fun c => ?_)
      · have eg : (rulL.map V.str)[j]? = some (.str (rulL.getD j "")) := by
          rw [List.getElem?_map, List.getD, List.getElem?_eq_getElem (by omega)]
          rfl
        refine ⟨_, rfl, _, rfl, p1, _, _, _, rfl, rfl, SqL.of (sm _ _ e1), atI_nat eg, ?_⟩
        refine ⟨_, hD, lt1000 (by rw [List.length_map]; omega), same_mut sm nD, ?_⟩
        rw [upd_same, chTo_succ, if_pos c, List.map_append]
        rfl
      · refine ⟨sm, ?_⟩
        rw [hD, chTo_succ, if_neg c, List.append_nil]
    · rintro H2 ⟨sm, hD⟩
      exact q _ D (s1.trans sm) (s1.free nD) hD
theorem ok__law_turned {fd : FuncData} (F : Fun K "_law_turned" "_law_turned" S__law_turned A._law_turned fd) (T : Tp P w K mg A) : FnOk P w K mg base CX0 1 A._law_turned fd ["_law_names", "_law_place", "_law_backwards"] (spTurned K) := by
  refine F.ok sc__law_turned (fun vs H Q E h => ?_) (fun cdv A' outer s H vs Q E hr h => ?_)
  · obtain ⟨a, ns, k, b, rfl, _⟩ := h
    rfl
  · obtain ⟨a, ns, k, b, rfl, hS, hk, hl, q⟩ := h
    refine ⟨_, (pss_cons (ps_set (i := 3) sc__law_turned.nd rfl (Or.inl rfl) (pe_op op_cat (pe_slice sl_list (pv 0) (po_some (pv 1)) po_none) (pe_slice sl_list (pv 0) po_none (po_some (pv 1)))))
  (pss_cons (ps_if (pt_cmpR op_eq (pv 2) pe_int (nomark _))
    (pss_one (ps_ret (pe_revL (pv 3))))
    pss_nil)
  (pss_one (ps_ret (pv 3))))), ?_⟩
    refine ⟨_, rfl, _, rfl, _, rfl, a, _, rfl, hS, fun p1 n1 => ?_⟩
    have s1 := same_new (o := .lst (cutV (ns.map V.str) (some (k : Int)) none)) (Same.refl H) n1
    refine ⟨_, rfl, _, rfl, _, rfl, a, _, rfl, same_sqL s1 hS, fun p2 n2 => ?_⟩
    rw [cut_from (by rw [List.length_map]; exact hk)] at s1 n2 ⊢
    rw [cut_to (by rw [List.length_map]; exact hk)]
    have s2 := same_new (o := .lst ((ns.map V.str).take k)) s1 n2
    have h21 : p1 ≠ p2 := fun e => by rw [← e, upd_same] at n2; cases n2
    refine ⟨p1, p2, _, _, rfl, rfl, by rw [upd_ne h21, upd_same], upd_same, sz1000 (by rw [List.length_drop, List.length_take, List.length_map]; omega), fun p3 n3 => ?_⟩
    have s3 := same_new (o := .lst ((ns.map V.str).drop k ++ (ns.map V.str).take k)) s2 n3
    have en : (ns.map V.str).drop k ++ (ns.map V.str).take k = (ns.drop k ++ ns.take k).map V.str := by rw [List.map_append, List.map_drop, List.map_take]
    refine ⟨_, rfl, rfl, _, rfl, ite2 (fun c => ?_) (fun c => ?_)⟩
    · have c' : b = 1 := by simpa using c
      refine ⟨_, rfl, p3, _, rfl, SqL.of upd_same, fun p4 n4 => ?_⟩
      refine q _ p4 (same_new s3 n4) (s3.free n4) ?_
      rw [upd_same, en, turn, decide_eq_true c', if_pos rfl, List.map_reverse]
    · have c' : ¬ b = 1 := by simpa using c
      refine ⟨_, rfl, ?_⟩
      refine q _ p3 s3 (s2.free n3) ?_
      rw [upd_same, en, turn, decide_eq_false c']
      rfl
end
end P88
namespace P88
open PySem L2 Xg
theorem tyT {K : PySem.W.Frag} {H : Hp} {a : Addr} {xs : List V} (h : SqT K H a xs) : TyX K H (.ref a) (.type "tuple") := by
  rcases h with (h | ⟨o, h⟩) | ⟨o, its, n, e, c, _⟩
  · exact .base (.tup h)
  · exact .fTuple h
  · exact .kTuple e c
theorem rul_ok {zs : List Str} (s : zs.Sublist rulL) : ∀ z ∈ zs, PyData.strOk z = true := fun z h => by
  have a : ∀ x ∈ rulL, PyData.strOk x = true := by decide +kernel
  exact a z (s.subset h)
theorem eq_self {zs : List Str} (s : zs.Sublist rulL) : ¬ (!PyData.eqv (.list (zs.map PyData.str)) (.list (zs.map PyData.str))) = true := by
  rw [ev_LS (rul_ok s)]
  simp
theorem take_nextS {l : List Str} {i : Nat} {x : V} (h : (l.map V.str)[i]? = some x) : (l.take (i + 1)).map V.str = (l.take i).map V.str ++ [x] := by
  rw [List.map_take, List.map_take, take_next h]
abbrev moreL : List Str := ["", "eage", "Eager"]
def spHolds (K : PySem.W.Frag) (A : Ad) : Sp := fun vs H Q _ => ∃ (p b : Addr) (ns : List Str), vs = [.ref p, .ref b] ∧ PolAt K A.C H p ns ∧ SqL K H b (ns.map V.str) ∧ ns.Sublist rulL ∧ ∀ H', Same H H' → Q (.bl true) H'
section
variable {P : Program} {w : World} {K : PySem.W.Frag} {mg : Str → Option Value} {base : Heap} {A : Ad}
theorem ok__law_holds {fd : FuncData} (F : Fun K "_law_holds" "_law_holds" S__law_holds A._law_holds fd) (T : Tp P w K mg A) : FnOk P w K mg base CX0 4 A._law_holds fd ["_law_policy", "_law_names"] (spHolds K A) := by
  obtain ⟨fi, Fi, b_iter⟩ := T.d_iter
  have G_iter : XgOwn.FnS P w K mg base 1 A.iter fi ["self"] (XgOwn.spIter K A.C "names") := ok_iter Fi T
  obtain ⟨fd1, F1, b__law_rules⟩ := T.d__law_rules.ex
  have G__law_rules : FnOk P w K mg base CX0 1 A._law_rules fd1 [] (spStrs rulL) := ok__law_rules F1 T
  obtain ⟨fd2, F2, b_has⟩ := T.d_has
  have G_has : FnOk P w K mg base CX0 1 A.has fd2 ["self", "name"] (spHas K A) := ok_has F2 T
  obtain ⟨fd3, F3, b_in⟩ := T.d_contains
  have G_in : FnOk P w K mg base CX0 1 A.contains fd3 ["self", "name"] (spHas K A) := ok_contains F3 T
  refine F.ok sc__law_holds (fun vs H Q E h => ?_) (fun cdv A' outer s H vs Q E hr h => ?_)
  · obtain ⟨p, b, ns, rfl, _⟩ := h
    rfl
  · obtain ⟨p, b, ns, rfl, hp, hb, hsub, q⟩ := h
    refine ⟨_, (pss_cons (ps_if (PW.pt (pw_or (pt_not (pt_val (pe_callB call_isi (by rfl) T.n_isinstance (by decide +kernel) (pa_cons (pe_fld (pv 0) rfl) (pa_cons (pe_bltn (v := .ty "tuple") (by rfl) T.n_tuple (by decide +kernel) rfl) pa_nil))))) (pw_or1 (pt_cmpR (op_neD hr.units) (pe_callTy call_list_of (by rfl) T.n_list (by decide +kernel) (pa_cons (pe_fld (pv 0) rfl) pa_nil)) (pv 1) (nomark _)))))
    (pss_one (ps_ret pe_bl))
    pss_nil)
  (pss_cons (ps_if (PW.pt (pw_or (pt_cmpR (op_neD hr.units) (pe_callTy (XgOwn.call_listIt (hr.mono (by decide)) T.it_Policy G_iter b_iter) (by rfl) T.n_list (by decide +kernel) (pa_cons (pv 0) pa_nil)) (pv 1) (nomark _)) (pw_or1 (pt_cmpR (op_neD hr.units) (by exact (pe_lc (own := [("_law_name", 2)]) (g := gName 2) (tt := tYes)  rfl sc__law_holds.nd (XgOwn.pi_any (pv 0) (hr.mono (by decide)) T.it_Policy G_iter b_iter) (blkOk_by (N := ["_law_policy", "_law_names", "_law_name"]) (sc := defScope S__law_holds) (by decide +kernel)) (fun _ _ _ _ _ => (by exact (pg_name (i := 2) sc__law_holds.nd rfl (Or.inl rfl)))) (fun _ _ _ _ _ => (by exact pts_nil)) (fun _ _ _ _ _ => (by exact (pv 2))))) (pv 1) (nomark _)))))
    (pss_one (ps_ret pe_bl))
    pss_nil)
  (pss_cons (ps_for PassesOwn.never rfl (pi_list (pe_op op_cat (pe_call0 G__law_rules (hr.mono (by decide)) (by rfl) T.d__law_rules.g T.d__law_rules.k b__law_rules .nil pass0) (pe_lst (pa_cons pe_str (pa_cons pe_str (pa_cons pe_str pa_nil)))))) (pg_name (i := 2) sc__law_holds.nd rfl (Or.inl rfl))
    (pss_one (ps_if (PW.pt (pw_or (pt_cmpR op_ne (pe_meth (pv 0) T.cl_Policy T.m_has G_has (hr.mono (by decide)) b_has .nil pass0 (pa_cons (pv 2) pa_nil)) (pe_cmpR op_in_seq (pv 2) (pv 1) (by rfl)) (nomark _)) (pw_or1 (pt_cmpR op_ne (pe_cmpR (XgOwn.op_inO G_in (hr.mono (by decide)) b_in pass0 T.in_Policy T.inF_Policy) (pv 2) (pv 0) (by rfl)) (pe_cmpR op_in_seq (pv 2) (pv 1) (by rfl)) (nomark _)))))
    (pss_one (ps_ret pe_bl))
    pss_nil)))
  (pss_one (ps_ret (pe_or (pe_cmpR op_isBl (pe_meth (pv 0) T.cl_Policy T.m_has G_has (hr.mono (by decide)) b_has .nil pass0 (pa_cons pe_str pa_nil)) pe_bl (nomark _)) (pe_one (pe_cmpR op_isBl (pe_meth (pv 0) T.cl_Policy T.m_has G_has (hr.mono (by decide)) b_has .nil pass0 (pa_cons pe_str pa_nil)) pe_bl (nomark _))))))))), ?_⟩
    have so := rul_ok hsub
    have nl : ns.length ≤ 29 := sub_len hsub
    obtain ⟨dx, t, g1, k1⟩ := id hp
    refine ⟨_, rfl, p, A.C, dx, _, _, rfl, g1, T.cl_Policy, T.na_Policy, rfl, _, _, _, _, _, rfl, .ty "tuple", tyT k1, T.i_tup, _, rfl, ?_⟩
    refine ⟨_, rfl, p, A.C, dx, _, _, rfl, g1, T.cl_Policy, T.na_Policy, rfl, t, _, rfl, .inr k1, fun l1 nl1 => ⟨_, rfl, _, _, dp_LS (SqL.of upd_same), dp_LS (same_sqL (same_new (Same.refl H) nl1) hb), sh_LS so, sh_LS so, _, rfl, ite2 (fun h => absurd h (eq_self hsub)) (fun _ => ?_)⟩⟩
    have s1 := same_new (o := .lst (ns.map V.str)) (Same.refl H) nl1
    -- list(policy)
    refine ⟨_, rfl, p, dx, _, t, _, rfl, s1 _ _ g1, rfl, same_sqT s1 k1, fun l2 nl2 => ⟨_, rfl, _, _, dp_LS (SqL.of upd_same), dp_LS (same_sqL (same_new s1 nl2) hb), sh_LS so, sh_LS so, _, rfl, ite2 (fun h => absurd h (eq_self hsub)) (fun _ => ?_)⟩⟩
    have s2 := same_new (o := .lst (ns.map V.str)) s1 nl2
    -- [name for name in policy]
    unfold tTest tOp
    refine XgOwn.lc_any (K := K) (C := A.C) (fld := "names") (j := 0) (σ := L2.start ["_law_policy", "_law_names", "_law_name"] [V.ref p, V.ref b]) (H := upd (upd H l1 (.lst (ns.map V.str))) l2 (.lst (ns.map V.str))) (xs := ns.map V.str) rfl hp.src s2 fun D nD => ⟨fun j H' => Same H H' ∧ H' D = some (.lst ((ns.take j).map V.str)), ⟨same_new s2 nD, by rw [upd_same]; rfl⟩, fun _ _ _ h => h.1, fun j x H' ex h => ?_, fun H' h => ?_⟩
    · obtain ⟨sm, hD⟩ := h
      refine ⟨rfl, _, rfl, _, hD, lt1000 (by rw [List.length_map, List.length_take]; omega), same_mut sm (s2.free nD), ?_⟩
      rw [upd_same, take_nextS ex]
    obtain ⟨s3, hD⟩ := h
    rw [List.length_map, List.take_length] at hD
    refine ⟨_, rfl, _, _, dp_LS (SqL.of hD), dp_LS (same_sqL s3 hb), sh_LS so, sh_LS so, _, rfl, ite2 (fun h => absurd h (eq_self hsub)) (fun _ => ?_)⟩
    -- the loop
    refine ⟨rfl, fun H4 p4 s4 n4 h4 => ⟨(by show 3 ≤ sizeLine; decide), fun p5 n5 => ?_⟩⟩
    have s5 := same_new (o := .lst [V.str "", V.str "eage", V.str "Eager"]) (s3.trans s4) n5
    refine ⟨p4, p5, _, _, rfl, rfl, by rw [upd_ne (ne_of_none h4 n5)]; exact h4, upd_same, (by decide +kernel), fun p6 n6 => ?_⟩
    have s6 := same_new (o := .lst (rulL.map V.str ++ [V.str "", V.str "eage", V.str "Eager"])) s5 n6
    have e6 : rulL.map V.str ++ [V.str "", V.str "eage", V.str "Eager"] = (rulL ++ moreL).map V.str := by rw [List.map_append]; rfl
    refine ⟨p6, rfl, ⟨_, SqL.of upd_same⟩, for_it (walk_list (xs := (rulL ++ moreL).map V.str)) (fun _ σ H' => Same (upd _ p6 (.lst (rulL.map V.str ++ [V.str "", V.str "eage", V.str "Eager"]))) H' ∧ ∃ v2, σ = [some (.ref p), some (.ref b), v2]) ⟨Same.refl _, _, rfl⟩ (fun _ _ _ _ h => same_sqL h.1 (by rw [← e6]; exact SqL.of upd_same)) ?_ ?_⟩
    · rintro j x σ H7 H8 hj ⟨sm, v2, rfl⟩ ⟨rfl, ex⟩
      rw [List.getElem?_map] at ex
      obtain ⟨z, hz, rfl⟩ := Option.map_eq_some_iff.mp ex
      have s7 := s6.trans sm
      have g7 := s7 _ _ g1
      have p7 := hp.same s7
      have b7 := same_sqL s7 hb
      refine ⟨_, rfl, p, dx, _, rfl, g7, rfl, _, rfl, p, z, ns, rfl, p7, ?_⟩
      refine ⟨_, rfl, _, rfl, b, _, rfl, .inl b7, rfl, flat_strs _, rfl, _, rfl, ?_⟩
      show if (!decide (V.bl (decide (z ∈ ns)) = V.bl (inV (.str z) (ns.map V.str)))) = true then _ else _
      rw [inV_str]
      refine ite2 (fun h => absurd h (by simp)) (fun _ => ?_)
      refine ⟨_, rfl, _, rfl, p, dx, _, rfl, g7, p, z, ns, rfl, p7, _, rfl, ?_⟩
      refine ⟨_, rfl, _, rfl, b, _, rfl, .inl b7, rfl, flat_strs _, rfl, _, rfl, ?_⟩
      show if (!decide (V.bl (decide (z ∈ ns)) = V.bl (inV (.str z) (ns.map V.str)))) = true then _ else _
      rw [inV_str]
      refine ite2 (fun h => absurd h (by simp)) (fun _ => ?_)
      exact ⟨sm, _, rfl⟩
    · rintro σ H7 ⟨sm, v2, rfl⟩
      have s7 := s6.trans sm
      have g7 := s7 _ _ g1
      have p7 := hp.same s7
      refine ⟨_, rfl, p, dx, _, rfl, g7, rfl, p, "eager", ns, rfl, p7, _, _, rfl, rfl, _, rfl, ?_⟩
      cases c : decide (("eager" : Str) ∈ ns) with
      | true => exact q _ s7
      | false => exact ⟨_, rfl, p, dx, _, rfl, g7, rfl, p, "eager", ns, rfl, p7, _, _, rfl, rfl, (by rw [c]; exact q _ s7)⟩
end
end P88
namespace P88
open PySem L2 Xg
def spRefu (K : PySem.W.Frag) : Sp := fun vs H Q _ => ∃ (a : Addr) (zs : List Str) (i : Nat) (z : Str), vs = [.ref a] ∧ SqL K H a (zs.map V.str) ∧ zs.length ≤ 100 ∧ (∀ z ∈ zs, z.length ≤ 1000) ∧ zs[i]? = some z ∧ bad zs i ∧ (∀ j, j < i → ¬ bad zs j) ∧ ∀ H', Same H H' → Q (.str z) H'
abbrev wrL : List Str := ["", "Eager", "eager ", "singles", "no link", "flush"]
abbrev extL : List Str := ["stop_pages"]
abbrev allL : List Str := rulL ++ wrL ++ extL
theorem all_len : ∀ z ∈ allL, z.length ≤ 1000 := by decide +kernel
theorem wr_not : ∀ z ∈ wrL, z ∉ rulL := by decide +kernel
theorem in_rul {z : Str} (h : z ∈ rulL) : z ∈ allL := List.mem_append_left _ (List.mem_append_left _ h)
theorem in_wr {z : Str} (h : z ∈ wrL) : z ∈ allL := List.mem_append_left _ (List.mem_append_right _ h)
theorem fb_at {pre post : List Str} {w : Str} (hw : w ∉ rulL ∨ w ∈ pre) : bad (pre ++ w :: post) pre.length := by
  refine ⟨w, ?_, ?_⟩
  · rw [List.getElem?_append_right (Nat.le_refl _), Nat.sub_self]
    rfl
  · rw [List.take_left]
    exact hw
theorem fb_get {pre post : List Str} {w : Str} : (pre ++ w :: post)[pre.length]? = some w := by rw [List.getElem?_append_right (Nat.le_refl _), Nat.sub_self]; rfl
theorem fb_no {pre post : List Str} {w : Str} (n : pre.Nodup) (h : ∀ z ∈ pre, z ∈ rulL) {j : Nat} (hj : j < pre.length) : ¬ bad (pre ++ w :: post) j := by
  rintro ⟨z, e, hb⟩
  rw [List.getElem?_append_left hj] at e
  rw [List.take_append_of_le_length (by omega)] at hb
  exact good_of n h j ⟨z, e, hb⟩
section
variable {P : Program} {w : World} {K : PySem.W.Frag} {mg : Str → Option Value} {base : Heap} {A : Ad}
theorem ok__law_refused {fd : FuncData} (F : Fun K "_law_refused" "_law_refused" S__law_refused A._law_refused fd) (T : Tp P w K mg A) : FnOk P w K mg base CX0 6 A._law_refused fd ["_law_names"] (spRefu K) := by
  obtain ⟨fi, Fi⟩ := T.d_init
  have G_init : FnOk P w K mg base (L2.CX P w) 4 A.init fi ["self", "names"] (spInit K A) := ok_init Fi T
  have b_init := init_b Fi
  refine F.ok sc__law_refused (fun vs H Q E h => ?_) (fun cdv A' outer s H vs Q E hr h => ?_)
  · obtain ⟨a, zs, i, z, rfl, _⟩ := h
    rfl
  · obtain ⟨a, zs, i, z, rfl, hS, hl, hz1, hzi, hb, hfi, q⟩ := h
    refine ⟨_, (pss_cons (ps_try_as (i := 1) rfl rfl sc__law_refused.nd rfl rfl ⟨rfl, by decide, Or.inl T.g_PolicyError⟩ takes0
    (fun W pn xe tk _ => (pss_one (ps_expr (XgOwn.pe_makeS T.M_Policy G_init (hr.mono (by decide)) (by rfl) T.g_Policy b_init (fun σ => passAt tk σ) (pa_cons (pv 0) pa_nil)))))
    (fun a oe cls d pn hz hf => (pss_cons (ps_set (i := 2) sc__law_refused.nd rfl (Or.inl rfl) (pe_callB (XgIsa.call_isX hz hf) (by rfl) T.n_isinstance (by decide +kernel) (pa_cons (pv 1) (pa_cons (pe_tup (pa_cons (pe_glob (v := .ref _) (by rfl) T.g_TextError rfl) (pa_cons (pe_glob (v := .ref _) (by rfl) T.g_InstructionError rfl) (pa_cons (pe_glob (v := .ref _) (by rfl) T.g_GuestError rfl) (pa_cons (pe_glob (v := .ref _) (by rfl) T.g_ActionError rfl) (pa_cons (pe_glob (v := .ref _) (by rfl) T.g_SettingError rfl) (pa_cons (pe_glob (v := .ref _) (by rfl) T.g_DebuggerError rfl) pa_nil))))))) pa_nil))))
  (pss_one (ps_if (PW.pt (pw_and (pt_val (pe_callB (XgIsa.call_isX hz hf) (by rfl) T.n_isinstance (by decide +kernel) (pa_cons (pv 1) (pa_cons (pe_glob (v := .ref _) (by rfl) T.g_GuestlivesError rfl) pa_nil)))) (pw_and (pt_val (pe_callB (XgIsa.call_isX hz hf) (by rfl) T.n_isinstance (by decide +kernel) (pa_cons (pv 1) (pa_cons (pe_bltn (v := .ty "ValueError") (by rfl) T.n_ValueError (by decide +kernel) rfl) pa_nil)))) (pw_and1 (pt_not (pt_val (pv 2)))))))
    (pss_one (ps_ret (pe_xf (C := A.PE) T.xf_PE T.x_PolicyError.noN hz hf (pv 1))))
    pss_nil)))))
  (pss_one (ps_ret pe_str))), ?_⟩
    refine ⟨_, rfl, fun x dx hx hdx hne => ?_⟩
    have s1 : Same H (upd (upd H dx (.own x)) x (.ins A.C dx [])) := fun b o e => by
      rw [upd_ne (ne_of_none e hx), upd_ne (ne_of_none e hdx)]
      exact e
    refine ⟨x, dx, .ref a, zs, rfl, upd_same, ⟨a, rfl, .inl (s1.seq hS)⟩, hl, hz1, fun hg => absurd hb (hg i), fun i' z' e' hb' hf' H2 d sm hd hx' => ?_⟩
    have ei : i' = i := by
      rcases Nat.lt_trichotomy i' i with h | h | h
      · exact absurd hb' (hfi i' h)
      · exact h
      · exact absurd hb (hf' i h)
    subst ei
    rw [hzi] at e'
    cases e'
    refine ⟨true, T.m_PP, fun _ e he => ?_, fun h => nomatch h⟩
    refine ⟨_, rfl, (by show 6 ≤ sizeLine; decide), fun tp ntp => ?_⟩
    have hde : d ≠ tp := fun h => by rw [h, ntp] at hx'; cases hx'
    have s2 := s1.trans (same_new (o := .tup [.ref A.TextError, .ref A.InstructionError, .ref A.GuestError, .ref A.ActionError, .ref A.SettingError, .ref A.DebuggerError]) sm ntp)
    have hx2 : upd H2 tp (.tup [.ref A.TextError, .ref A.InstructionError, .ref A.GuestError, .ref A.ActionError, .ref A.SettingError, .ref A.DebuggerError]) d = some (.xd [("name", .str z)]) := by rw [upd_ne hde]; exact hx'
    refine ⟨A.PE, d, _, _, false, rfl, rfl, T.xc_PE, rfl, hx2, .inr ⟨tp, _, _, rfl, upd_same, .cons (.own _) (.cons (.own _) (.cons (.own _) (.cons (.own _) (.cons (.own _) (.cons (.own _) .nil))))), T.i_six⟩, ?_⟩
    refine ⟨_, rfl, A.PE, d, _, _, true, rfl, rfl, T.xc_PE, rfl, hx2, .inl ⟨_, .own _, T.i_PG⟩, _, rfl, ?_⟩
    refine ⟨_, rfl, A.PE, d, _, _, true, rfl, rfl, T.xc_PE, rfl, hx2, .inl ⟨_, .ty _, T.i_PV⟩, _, rfl, ?_⟩
    refine ⟨_, rfl, _, rfl, ?_⟩
    exact ⟨_, rfl, rfl, rfl, d, _, _, rfl, hx2, rfl, q _ s2⟩
end
end P88
namespace P88
open PySem L2 Xg
def spWN (K : PySem.W.Frag) : Sp := fun vs H Q _ => ∃ (a b : Addr) (row : List Int) (ns : List Str), vs = [.ref a, .ref b] ∧ SqL K H a (row.map V.int) ∧ Dig row ∧ H b = some (.lst (ns.map V.str)) ∧ ns.Nodup ∧ (∀ z ∈ ns, z ∈ rulL) ∧ ns.length ≤ 29 ∧ ∀ H', Same H H' → Q (.bl true) H'
theorem cat3 (ns : List Str) (k : Nat) (w : Str) : ((ns.map V.str).take k ++ [V.str w]) ++ (ns.map V.str).drop k = (ns.take k ++ w :: ns.drop k).map V.str := by
  simp [List.map_take, List.map_drop]
theorem ne_no {z : Str} : ¬ (!decide (V.str z = V.str z)) = true := by simp
section
variable {P : Program} {w : World} {K : PySem.W.Frag} {mg : Str → Option Value} {base : Heap} {A : Ad}
theorem ok__law_wrong_names {fd : FuncData} (F : Fun K "_law_wrong_names" "_law_wrong_names" S__law_wrong_names A._law_wrong_names fd) (T : Tp P w K mg A) : FnOk P w K mg base CX0 7 A._law_wrong_names fd ["_law_row_here", "_law_names"] (spWN K) := by
  obtain ⟨fd1, F1, b__law_pick⟩ := T.d__law_pick.ex
  have G__law_pick : FnOk P w K mg base CX0 1 A._law_pick fd1 ["_law_row_here", "_law_at", "_law_limit"] (spPick K) := ok__law_pick F1 T
  obtain ⟨fd2, F2, b__law_refused⟩ := T.d__law_refused.ex
  have G__law_refused : FnOk P w K mg base CX0 6 A._law_refused fd2 ["_law_names"] (spRefu K) := ok__law_refused F2 T
  refine F.ok sc__law_wrong_names (fun vs H Q E h => ?_) (fun cdv A' outer s H vs Q E hr h => ?_)
  · obtain ⟨a, b, row, ns, rfl, _⟩ := h
    rfl
  · obtain ⟨a, b, row, ns, rfl, hS, hd, hb, nn, nr, nl, q⟩ := h
    refine ⟨_, (pss_cons (ps_set (i := 2) sc__law_wrong_names.nd rfl (Or.inl rfl) (pe_ix ix_list (pe_lst (pa_cons pe_str (pa_cons pe_str (pa_cons pe_str (pa_cons pe_str (pa_cons pe_str (pa_cons pe_str pa_nil))))))) (pe_call G__law_pick (hr.mono (by decide)) (by rfl) T.d__law_pick.g T.d__law_pick.k b__law_pick .nil pass0 (pa_cons (pv 0) (pa_cons pe_int (pa_cons pe_int pa_nil)))) (fun _ _ => rfl)))
  (pss_cons (ps_set (i := 3) sc__law_wrong_names.nd rfl (Or.inl rfl) (pe_call G__law_pick (hr.mono (by decide)) (by rfl) T.d__law_pick.g T.d__law_pick.k b__law_pick .nil pass0 (pa_cons (pv 0) (pa_cons pe_int (pa_cons (pe_op op_add (pe_callB call_len_seq (by rfl) T.n_len PySem.boot_len (pa_cons (pv 1) pa_nil)) pe_int) pa_nil)))))
  (pss_cons (ps_set (i := 4) sc__law_wrong_names.nd rfl (Or.inl rfl) (pe_op op_cat (pe_op op_cat (pe_slice sl_list (pv 1) po_none (po_some (pv 3))) (pe_lst (pa_cons (pv 2) pa_nil))) (pe_slice sl_list (pv 1) (po_some (pv 3)) po_none)))
  (pss_cons (ps_if (PW.pt (pw_or (pt_cmpR op_ne (pe_call G__law_refused (hr.mono (by decide)) (by rfl) T.d__law_refused.g T.d__law_refused.k b__law_refused .nil pass0 (pa_cons (pv 4) pa_nil)) (pv 2) (nomark _)) (pw_or1 (pt_cmpR op_ne (pe_call G__law_refused (hr.mono (by decide)) (by rfl) T.d__law_refused.g T.d__law_refused.k b__law_refused .nil pass0 (pa_cons (pe_op op_cat (pv 4) (pe_lst (pa_cons pe_str pa_nil))) pa_nil)) (pv 2) (nomark _)))))
    (pss_one (ps_ret pe_bl))
    pss_nil)
  (pss_cons (ps_if (pt_cmpR op_eq (pe_callB call_len_seq (by rfl) T.n_len PySem.boot_len (pa_cons (pv 1) pa_nil)) pe_int (nomark _))
    (pss_one (ps_ret pe_bl))
    pss_nil)
  (pss_cons (ps_set (i := 5) sc__law_wrong_names.nd rfl (Or.inl rfl) (pe_call G__law_pick (hr.mono (by decide)) (by rfl) T.d__law_pick.g T.d__law_pick.k b__law_pick .nil pass0 (pa_cons (pv 0) (pa_cons pe_int (pa_cons (pe_callB call_len_seq (by rfl) T.n_len PySem.boot_len (pa_cons (pv 1) pa_nil)) pa_nil)))))
  (pss_cons (ps_set (i := 6) sc__law_wrong_names.nd rfl (Or.inl rfl) (pe_op op_cat (pv 1) (pe_lst (pa_cons (pe_ix ix_list (pv 1) (pv 5) (fun _ _ => rfl)) pa_nil))))
  (pss_cons (ps_if (PW.pt (pw_or (pt_cmpR op_ne (pe_call G__law_refused (hr.mono (by decide)) (by rfl) T.d__law_refused.g T.d__law_refused.k b__law_refused .nil pass0 (pa_cons (pv 6) pa_nil)) (pe_ix ix_list (pv 1) (pv 5) (fun _ _ => rfl)) (nomark _)) (pw_or1 (pt_cmpR op_ne (pe_call G__law_refused (hr.mono (by decide)) (by rfl) T.d__law_refused.g T.d__law_refused.k b__law_refused .nil pass0 (pa_cons (pe_op op_cat (pv 6) (pe_lst (pa_cons (pv 2) pa_nil))) pa_nil)) (pe_ix ix_list (pv 1) (pv 5) (fun _ _ => rfl)) (nomark _)))))
    (pss_one (ps_ret pe_bl))
    pss_nil)
  (pss_cons (ps_set (i := 7) sc__law_wrong_names.nd rfl (Or.inl rfl) (pe_op op_cat (pe_op op_cat (pe_slice sl_list (pv 1) po_none (po_some (pe_op op_add (pv 5) pe_int))) (pe_lst (pa_cons (pe_ix ix_list (pv 1) (pv 5) (fun _ _ => rfl)) pa_nil))) (pe_slice sl_list (pv 1) (po_some (pe_op op_add (pv 5) pe_int)) po_none)))
  (pss_one (ps_ret (pe_and (pe_cmpR op_eq (pe_call G__law_refused (hr.mono (by decide)) (by rfl) T.d__law_refused.g T.d__law_refused.k b__law_refused .nil pass0 (pa_cons (pv 7) pa_nil)) (pe_ix ix_list (pv 1) (pv 5) (fun _ _ => rfl)) (nomark _)) (pe_one (pe_cmpR op_eq (pe_call G__law_refused (hr.mono (by decide)) (by rfl) T.d__law_refused.g T.d__law_refused.k b__law_refused .nil pass0 (pa_cons (pe_op op_cat (pe_lst (pa_cons (pv 2) pa_nil)) (pv 7)) pa_nil)) (pv 2) (nomark _))))))))))))))), ?_⟩
    refine ⟨(by show 6 ≤ sizeLine; decide), fun p1 n1 => ?_⟩
    have s1 := same_new (o := .lst (wrL.map V.str)) (Same.refl H) n1
    refine ⟨_, rfl, a, row, 90, 6, rfl, s1.seq hS, hd, by decide, by decide, by decide, ?_⟩
    have ma := pick_lo (row := row) (i := 90) (m := 6) (by decide)
    have mb := pick_hi (row := row) (i := 90) (m := 6) (by decide)
    obtain ⟨m, hm⟩ := Int.eq_ofNat_of_zero_le ma
    rw [hm]
    have lm : m < wrL.length := by
      have l : wrL.length = 6 := by decide +kernel
      omega
    have hwm := List.getElem_mem lm
    refine ⟨p1, _, _, .str wrL[m], rfl, rfl, SqL.of (xs := wrL.map V.str) upd_same, atI_nat (by rw [List.getElem?_map, List.getElem?_eq_getElem lm]; rfl), ?_⟩
    generalize wrL[m] = w0 at hwm
    have w0r := wr_not _ hwm
    -- the place
    refine ⟨_, rfl, _, rfl, b, _, rfl, .inl (SqL.of (s1 _ _ hb)), _, _, rfl, rfl, a, row, 92, (ns.length : Int) + 1, by rw [List.length_map]; rfl, s1.seq hS, hd, by decide, by decide, by omega, ?_⟩
    have ka := pick_lo (row := row) (i := 92) (m := (ns.length : Int) + 1) (by omega)
    have kb := pick_hi (row := row) (i := 92) (m := (ns.length : Int) + 1) (by omega)
    obtain ⟨k, hk⟩ := Int.eq_ofNat_of_zero_le ka
    rw [hk]
    have kl : k ≤ ns.length := by omega
    -- the bad names
    refine ⟨_, rfl, _, rfl, _, rfl, b, _, rfl, SqL.of (s1 _ _ hb), fun p2 n2 => ?_⟩
    rw [cut_to (by rw [List.length_map]; exact kl)]
    have s2 := same_new (o := .lst ((ns.map V.str).take k)) s1 n2
    refine ⟨_, rfl, (by show 1 ≤ sizeLine; decide), fun p3 n3 => ?_⟩
    have s3 := same_new (o := .lst [V.str w0]) s2 n3
    have h32 : p2 ≠ p3 := fun e => by rw [← e, upd_same] at n3; cases n3
    refine ⟨p2, p3, _, _, rfl, rfl, by rw [upd_ne h32, upd_same], upd_same, sz1000 (by rw [List.length_take]; show min k (ns.map V.str).length + 1 ≤ 1000; rw [List.length_map]; omega), fun p4 n4 => ?_⟩
    have s4 := same_new (o := .lst ((ns.map V.str).take k ++ [V.str w0])) s3 n4
    refine ⟨_, rfl, _, rfl, _, rfl, b, _, rfl, SqL.of (s4 _ _ hb), fun p5 n5 => ?_⟩
    rw [cut_from (by rw [List.length_map]; exact kl)]
    have s5 := same_new (o := .lst ((ns.map V.str).drop k)) s4 n5
    have h54 : p4 ≠ p5 := fun e => by rw [← e, upd_same] at n5; cases n5
    refine ⟨p4, p5, _, _, rfl, rfl, by rw [upd_ne h54, upd_same], upd_same, sz1000 (by rw [List.length_append, List.length_take, List.length_drop, List.length_map]; show min k ns.length + 1 + (ns.length - k) ≤ 1000; omega), fun p6 n6 => ?_⟩
    rw [cat3]
    have s6 := same_new (o := .lst ((ns.take k ++ w0 :: ns.drop k).map V.str)) s5 n6
    have tn : (ns.take k).Nodup := (List.take_sublist k ns).nodup nn
    have tr : ∀ z ∈ ns.take k, z ∈ rulL := fun z hz => nr z (List.mem_of_mem_take hz)
    have l6 : (ns.take k ++ w0 :: ns.drop k).length ≤ 30 := by rw [List.length_append, List.length_cons, List.length_take, List.length_drop]; omega
    have a6 : ∀ z ∈ ns.take k ++ w0 :: ns.drop k, z ∈ allL := fun z hz => by
      rcases List.mem_append.mp hz with h | h
      · exact in_rul (tr z h)
      · rcases List.mem_cons.mp h with h | h
        · rw [h]
          exact in_wr hwm
        · exact in_rul (nr z (List.mem_of_mem_drop h))
    refine ⟨_, rfl, p6, ns.take k ++ w0 :: ns.drop k, (ns.take k).length, w0, rfl, SqL.of upd_same, by omega, fun z hz => all_len z (a6 z hz), fb_get, fb_at (.inl w0r), fun j hj => fb_no tn tr hj, fun H7 s7 => ⟨_, rfl, rfl, _, rfl, ite2 (fun h => absurd h ne_no) (fun _ => ?_)⟩⟩
    have s67 := s6.trans s7
    have c7 := s7 p6 _ upd_same
    refine ⟨_, rfl, (by show 1 ≤ sizeLine; decide), fun p8 n8 => ?_⟩
    have s8 := same_new (o := .lst [V.str "stop_pages"]) s67 n8
    refine ⟨p6, p8, _, _, rfl, rfl, by rw [upd_ne (ne_of_none c7 n8)]; exact c7, upd_same, sz1000 (by rw [List.length_map]; show _ + 1 ≤ 1000; omega), fun p9 n9 => ?_⟩
    have s9 := same_new (o := .lst ((ns.take k ++ w0 :: ns.drop k).map V.str ++ [V.str "stop_pages"])) s8 n9
    have e9 : (ns.take k ++ w0 :: ns.drop k).map V.str ++ [V.str "stop_pages"] = (ns.take k ++ w0 :: (ns.drop k ++ extL)).map V.str := by simp
    have a9 : ∀ z ∈ ns.take k ++ w0 :: (ns.drop k ++ extL), z ∈ allL := fun z hz => by
      have hz' : z ∈ (ns.take k ++ w0 :: ns.drop k) ++ extL := by simpa using hz
      rcases List.mem_append.mp hz' with h | h
      · exact a6 z h
      · exact List.mem_append_right _ h
    have l9 : (ns.take k ++ w0 :: (ns.drop k ++ extL)).length ≤ 31 := by
      rw [List.length_append, List.length_cons] at l6 ⊢
      rw [List.length_append]
      show _ + (_ + 1 + 1) ≤ 31
      omega
    refine ⟨p9, ns.take k ++ w0 :: (ns.drop k ++ extL), (ns.take k).length, w0, rfl, SqL.of (by rw [upd_same, e9]), by omega, fun z hz => all_len z (a9 z hz), fb_get, fb_at (.inl w0r), fun j hj => fb_no tn tr hj, fun H10 s10 => ⟨_, rfl, rfl, _, rfl, ite2 (fun h => absurd h ne_no) (fun _ => ?_)⟩⟩
    have s110 := s9.trans s10
    have hb10 := s110 _ _ hb
    refine ⟨_, rfl, b, _, rfl, .inl (SqL.of hb10), rfl, _, rfl, ?_⟩
    show if decide (V.int ((ns.map V.str).length : Nat) = V.int 0) = true then _ else _
    rw [List.length_map]
    refine ite2 (fun c => ?_) (fun c => ?_)
    · exact q _ s110
    have c' : ¬ ns.length = 0 := by simpa using c
    refine ⟨_, rfl, _, rfl, b, _, rfl, .inl (SqL.of hb10), a, row, 94, (ns.length : Int), by rw [List.length_map]; rfl, s110.seq hS, hd, by decide, by decide, by omega, ?_⟩
    have fa := pick_lo (row := row) (i := 94) (m := (ns.length : Int)) (by omega)
    have fb := pick_hi (row := row) (i := 94) (m := (ns.length : Int)) (by omega)
    obtain ⟨f, hf⟩ := Int.eq_ofNat_of_zero_le fa
    rw [hf]
    have fl : f < ns.length := by omega
    have ev : (ns.map V.str)[f]? = some (.str ns[f]) := by rw [List.getElem?_map, List.getElem?_eq_getElem fl]; rfl
    have vm : ns[f] ∈ ns := List.getElem_mem fl
    have vt : ns[f] ∈ ns.take (f + 1) := List.mem_take_iff_getElem.mpr ⟨f, by omega, rfl⟩
    generalize ns[f] = v at ev vm vt
    have va := in_rul (nr v vm)
    -- one name twice
    refine ⟨_, rfl, _, rfl, _, rfl, b, _, _, _, rfl, rfl, SqL.of hb10, atI_nat ev, (by show 1 ≤ sizeLine; decide), fun p11 n11 => ?_⟩
    have s11 := same_new (o := .lst [V.str v]) s110 n11
    refine ⟨b, p11, _, _, rfl, rfl, s11 _ _ hb, upd_same, sz1000 (by rw [List.length_map]; show ns.length + 1 ≤ 1000; omega), fun p12 n12 => ?_⟩
    have s12 := same_new (o := .lst (ns.map V.str ++ [V.str v])) s11 n12
    have e12 : ns.map V.str ++ [V.str v] = (ns ++ v :: []).map V.str := by simp
    have a12 : ∀ z ∈ ns ++ v :: [], z ∈ allL := fun z hz => by
      rcases List.mem_append.mp hz with h | h
      · exact in_rul (nr z h)
      · rw [List.mem_singleton.mp h]
        exact va
    refine ⟨_, rfl, p12, ns ++ v :: [], ns.length, v, rfl, SqL.of (by rw [upd_same, e12]), by rw [List.length_append]; show ns.length + 1 ≤ 100; omega, fun z hz => all_len z (a12 z hz), fb_get, fb_at (.inr vm), fun j hj => fb_no nn nr hj, fun H13 s13 => ?_⟩
    have s113 := s12.trans s13
    have c12 := s13 p12 _ upd_same
    refine ⟨_, rfl, _, rfl, b, _, _, _, rfl, rfl, SqL.of (s113 _ _ hb), atI_nat ev, rfl, _, rfl, ite2 (fun h => absurd h ne_no) (fun _ => ?_)⟩
    refine ⟨_, rfl, _, rfl, (by show 1 ≤ sizeLine; decide), fun p14 n14 => ?_⟩
    have s14 := same_new (o := .lst [V.str w0]) s113 n14
    refine ⟨p12, p14, _, _, rfl, rfl, by rw [upd_ne (ne_of_none c12 n14)]; exact c12, upd_same, sz1000 (by rw [List.length_append, List.length_map]; show ns.length + 1 + 1 ≤ 1000; omega), fun p15 n15 => ?_⟩
    have s15 := same_new (o := .lst (ns.map V.str ++ [V.str v] ++ [V.str w0])) s14 n15
    have e15 : ns.map V.str ++ [V.str v] ++ [V.str w0] = (ns ++ v :: [w0]).map V.str := by simp
    have a15 : ∀ z ∈ ns ++ v :: [w0], z ∈ allL := fun z hz => by
      have hz' : z ∈ (ns ++ v :: []) ++ [w0] := by simpa using hz
      rcases List.mem_append.mp hz' with h | h
      · exact a12 z h
      · rw [List.mem_singleton.mp h]
        exact in_wr hwm
    refine ⟨p15, ns ++ v :: [w0], ns.length, v, rfl, SqL.of (by rw [upd_same, e15]), by rw [List.length_append]; show ns.length + 2 ≤ 100; omega, fun z hz => all_len z (a15 z hz), fb_get, fb_at (.inr vm), fun j hj => fb_no nn nr hj, fun H16 s16 => ?_⟩
    have s116 := s15.trans s16
    refine ⟨_, rfl, _, rfl, b, _, _, _, rfl, rfl, SqL.of (s116 _ _ hb), atI_nat ev, rfl, _, rfl, ite2 (fun h => absurd h ne_no) (fun _ => ?_)⟩
    -- the name again, behind itself
    have ef : (f : Int) + 1 = ((f + 1 : Nat) : Int) := by omega
    refine ⟨_, rfl, _, rfl, _, _, rfl, rfl, _, rfl, b, _, rfl, SqL.of (s116 _ _ hb), fun p17 n17 => ?_⟩
    rw [ef, cut_to (by rw [List.length_map]; exact fl)]
    have s17 := same_new (o := .lst ((ns.map V.str).take (f + 1))) s116 n17
    refine ⟨_, rfl, _, rfl, b, _, _, _, rfl, rfl, SqL.of (s17 _ _ hb), atI_nat ev, (by show 1 ≤ sizeLine; decide), fun p18 n18 => ?_⟩
    have s18 := same_new (o := .lst [V.str v]) s17 n18
    have h1718 : p17 ≠ p18 := fun e => by rw [← e, upd_same] at n18; cases n18
    refine ⟨p17, p18, _, _, rfl, rfl, by rw [upd_ne h1718, upd_same], upd_same, sz1000 (by rw [List.length_take, List.length_map]; show min (f + 1) ns.length + 1 ≤ 1000; omega), fun p19 n19 => ?_⟩
    have s19 := same_new (o := .lst ((ns.map V.str).take (f + 1) ++ [V.str v])) s18 n19
    refine ⟨_, rfl, _, rfl, _, _, rfl, rfl, _, rfl, b, _, rfl, SqL.of (s19 _ _ hb), fun p20 n20 => ?_⟩
    rw [ef, cut_from (by rw [List.length_map]; exact fl)]
    have s20 := same_new (o := .lst ((ns.map V.str).drop (f + 1))) s19 n20
    have h1920 : p19 ≠ p20 := fun e => by rw [← e, upd_same] at n20; cases n20
    refine ⟨p19, p20, _, _, rfl, rfl, by rw [upd_ne h1920, upd_same], upd_same, sz1000 (by rw [List.length_append, List.length_take, List.length_drop, List.length_map]; show min (f + 1) ns.length + 1 + (ns.length - (f + 1)) ≤ 1000; omega), fun p21 n21 => ?_⟩
    rw [cat3]
    have s21 := same_new (o := .lst ((ns.take (f + 1) ++ v :: ns.drop (f + 1)).map V.str)) s20 n21
    have un : (ns.take (f + 1)).Nodup := (List.take_sublist _ ns).nodup nn
    have ur : ∀ z ∈ ns.take (f + 1), z ∈ rulL := fun z hz => nr z (List.mem_of_mem_take hz)
    have l21 : (ns.take (f + 1) ++ v :: ns.drop (f + 1)).length ≤ 30 := by rw [List.length_append, List.length_cons, List.length_take, List.length_drop]; omega
    have a21 : ∀ z ∈ ns.take (f + 1) ++ v :: ns.drop (f + 1), z ∈ allL := fun z hz => by
      rcases List.mem_append.mp hz with h | h
      · exact in_rul (ur z h)
      · rcases List.mem_cons.mp h with h | h
        · rw [h]
          exact va
        · exact in_rul (nr z (List.mem_of_mem_drop h))
    refine ⟨_, rfl, p21, ns.take (f + 1) ++ v :: ns.drop (f + 1), (ns.take (f + 1)).length, v, rfl, SqL.of upd_same, by omega, fun z hz => all_len z (a21 z hz), fb_get, fb_at (.inr vt), fun j hj => fb_no un ur hj, fun H22 s22 => ?_⟩
    have s122 := s21.trans s22
    have c21 := s22 p21 _ upd_same
    refine ⟨_, rfl, _, rfl, b, _, _, _, rfl, rfl, SqL.of (s122 _ _ hb), atI_nat ev, rfl, _, rfl, ite2 (fun _ => ?_) (fun h => absurd (by simp) h)⟩
    refine ⟨_, rfl, (by show 1 ≤ sizeLine; decide), fun p23 n23 => ?_⟩
    have s23 := same_new (o := .lst [V.str w0]) s122 n23
    refine ⟨_, rfl, p23, p21, _, _, rfl, rfl, upd_same, by rw [upd_ne (ne_of_none c21 n23)]; exact c21, sz1000 (by rw [List.length_map]; show 1 + _ ≤ 1000; omega), fun p24 n24 => ?_⟩
    have s24 := same_new (o := .lst ([V.str w0] ++ (ns.take (f + 1) ++ v :: ns.drop (f + 1)).map V.str)) s23 n24
    have e24 : [V.str w0] ++ (ns.take (f + 1) ++ v :: ns.drop (f + 1)).map V.str = (([] : List Str) ++ w0 :: (ns.take (f + 1) ++ v :: ns.drop (f + 1))).map V.str := by simp
    refine ⟨p24, [] ++ w0 :: (ns.take (f + 1) ++ v :: ns.drop (f + 1)), 0, w0, rfl, SqL.of (by rw [upd_same, e24]), by rw [List.nil_append, List.length_cons]; omega, fun z hz => ?_, rfl, fb_at (pre := []) (.inl w0r), fun j hj => absurd hj (Nat.not_lt_zero j), fun H25 s25 => ?_⟩
    · rcases List.mem_cons.mp hz with h | h
      · rw [h]
        exact all_len _ (in_wr hwm)
      · exact all_len z (a21 z h)
    refine ⟨_, rfl, rfl, ?_⟩
    have e : decide (V.str w0 = V.str w0) = true := by simp
    rw [e]
    exact q _ (s24.trans s25)
end
end P88
namespace P88
open PySem L2 Xg
def spLaw (K : PySem.W.Frag) : Sp := fun vs H Q _ => ∃ (a : Addr) (ns : List Int), vs = [.ref a] ∧ SqL K H a (ns.map V.int) ∧ ns.length ≤ 63 ∧ ∀ H', Q (.bl true) H'
theorem turn_perm (xs : List Str) (k : Nat) (r : Bool) : (turn xs k r).Perm xs := by
  have h : (xs.drop k ++ xs.take k).Perm xs := by
    refine (List.perm_append_comm).trans ?_
    rw [List.take_append_drop]
  unfold turn
  split
  · exact (List.reverse_perm _).trans h
  · exact h
theorem str_ok {zs : List Str} (h : ∀ z ∈ zs, z ∈ rulL) : ∀ z ∈ zs, PyData.strOk z = true := fun z hz => rul_ok (List.Sublist.refl _) z (h z hz)
theorem eq_selfR {zs : List Str} (h : ∀ z ∈ zs, z ∈ rulL) : ¬ (!PyData.eqv (.list (zs.map PyData.str)) (.list (zs.map PyData.str))) = true := by
  rw [ev_LS (str_ok h)]
  simp
theorem PolAt.mut {K : PySem.W.Frag} {C : Addr} {H : Hp} {p q : Addr} {ns : List Str} {xs ys : List V} (h : PolAt K C H p ns) (e : H q = some (.lst xs)) : PolAt K C (upd H q (.lst ys)) p ns := by
  obtain ⟨dx, t, h1, h2⟩ := h.ob
  refine ⟨dx, t, by rw [upd_ne (fun z => by rw [z, e] at h1; cases h1)]; exact h1, ?_⟩
  rcases h2 with (h2 | ⟨o, h2⟩) | h2
  · exact .inl (.inl (by rw [upd_ne (fun z => by rw [z, e] at h2; cases h2)]; exact h2))
  · exact .inl (.inr ⟨o, by rw [upd_ne (fun z => by rw [z, e] at h2; cases h2)]; exact h2⟩)
  · exact .inr h2
theorem made_at {K : PySem.W.Frag} {A : Ad} {H : Hp} {R : Hp → Prop} {E : XK} {v : V} {zs : List Str} {x dx : Addr} (hx : H x = none) (hdx : H dx = none) (hne : dx ≠ x) (hs : XgOwn.SrcOk K A.C "names" H v (zs.map V.str)) (n : zs.Nodup) (h : ∀ z ∈ zs, z ∈ rulL) (hl : zs.length ≤ 100)
    (q : ∀ H', Same H H' → PolAt K A.C H' x (sel zs) → R H') : spInit K A [.ref x, v] (upd (upd H dx (.own x)) x (.ins A.C dx [])) (fun v H2 => v = .non ∧ R H2) E :=
  made (Q := fun v H2 => ∀ y, v = .ref y → y = x → R H2) hs n h hl (fun H' y s hy pa => fun y' e1 e2 => by
    cases e1
    subst e2
    exact q H' s pa) x dx hx hdx hne |> fun w => by
      obtain ⟨p, dx, v, zs, e, h1, h2, h3, h4, h5, h6⟩ := w
      refine ⟨p, dx, v, zs, e, h1, h2, h3, h4, fun g H' fr pa => ?_, h6⟩
      obtain ⟨a1, a2⟩ := h5 g H' fr pa
      exact ⟨a1, a2 _ rfl rfl⟩
theorem or_comm' (xs ys : List Str) : orL ys xs = orL xs ys := List.filter_congr fun z _ => Bool.or_comm _ _
section
variable {P : Program} {w : World} {K : PySem.W.Frag} {mg : Str → Option Value} {base : Heap} {A : Ad}
theorem ok_law {fd : FuncData} {f : Addr} (F : Fun K "law" "law" S_law f fd) (T : Tp P w K mg A) : FnOk P w K mg base CX0 9 f fd ["_law_script"] (spLaw K) := by
  obtain ⟨fi, Fi⟩ := T.d_init
  have G_init : FnOk P w K mg base (L2.CX P w) 4 A.init fi ["self", "names"] (spInit K A) := ok_init Fi T
  have b_init := init_b Fi
  obtain ⟨ds0, v_init0, b_init0⟩ := init_b0 Fi
  obtain ⟨g1, g1F, b_full⟩ := T.d_full
  have G_full : FnOk P w K mg base CX0 6 A.full g1 [] (spFix K A rulL) := ok_full g1F T
  obtain ⟨g2, g2F, b_empty⟩ := T.d_empty
  have G_empty : FnOk P w K mg base CX0 6 A.empty g2 [] (spFix K A []) := ok_empty g2F T
  obtain ⟨g3, g3F, b_BitOr⟩ := T.d_or
  have G_BitOr : FnOk P w K mg base CX0 6 A.or_ g3 ["self", "other"] (spTwo K A orL) := ok_or g3F T
  obtain ⟨g4, g4F, b_Sub⟩ := T.d_sub
  have G_Sub : FnOk P w K mg base CX0 6 A.sub g4 ["self", "other"] (spTwo K A subL) := ok_sub g4F T
  obtain ⟨fd1, F1, b__law_row⟩ := T.d__law_row.ex
  have G__law_row : FnOk P w K mg base CX0 1 A._law_row fd1 ["_law_script", "_law_most"] (spRow K) := ok__law_row F1 T
  obtain ⟨fd2, F2, b__law_pick⟩ := T.d__law_pick.ex
  have G__law_pick : FnOk P w K mg base CX0 1 A._law_pick fd2 ["_law_row_here", "_law_at", "_law_limit"] (spPick K) := ok__law_pick F2 T
  obtain ⟨fd3, F3, b__law_rules⟩ := T.d__law_rules.ex
  have G__law_rules : FnOk P w K mg base CX0 1 A._law_rules fd3 [] (spStrs rulL) := ok__law_rules F3 T
  obtain ⟨fd4, F4, b__law_chosen⟩ := T.d__law_chosen.ex
  have G__law_chosen : FnOk P w K mg base CX0 2 A._law_chosen fd4 ["_law_row_here", "_law_at"] (spChosen K) := ok__law_chosen F4 T
  obtain ⟨fd5, F5, b__law_turned⟩ := T.d__law_turned.ex
  have G__law_turned : FnOk P w K mg base CX0 1 A._law_turned fd5 ["_law_names", "_law_place", "_law_backwards"] (spTurned K) := ok__law_turned F5 T
  obtain ⟨fd6, F6, b__law_holds⟩ := T.d__law_holds.ex
  have G__law_holds : FnOk P w K mg base CX0 4 A._law_holds fd6 ["_law_policy", "_law_names"] (spHolds K A) := ok__law_holds F6 T
  obtain ⟨fd7, F7, b__law_wrong_names⟩ := T.d__law_wrong_names.ex
  have G__law_wrong_names : FnOk P w K mg base CX0 7 A._law_wrong_names fd7 ["_law_row_here", "_law_names"] (spWN K) := ok__law_wrong_names F7 T
  refine F.ok sc_law (fun vs H Q E h => ?_) (fun cdv A' outer s H vs Q E hr h => ?_)
  · obtain ⟨a, ns, rfl, _⟩ := h
    rfl
  · obtain ⟨a, ns, rfl, hS, hl, q⟩ := h
    refine ⟨_, (pss_cons (ps_set (i := 1) sc_law.nd rfl (Or.inl rfl) (pe_call G__law_row (hr.mono (by decide)) (by rfl) T.d__law_row.g T.d__law_row.k b__law_row .nil pass0 (pa_cons (pv 0) (pa_cons pe_int pa_nil))))
  (pss_cons (ps_set (i := 2) sc_law.nd rfl (Or.inr rfl) (pe_call G__law_chosen (hr.mono (by decide)) (by rfl) T.d__law_chosen.g T.d__law_chosen.k b__law_chosen .nil pass0 (pa_cons (pv 1) (pa_cons pe_int pa_nil))))
  (pss_cons (ps_set (i := 3) sc_law.nd rfl (Or.inr rfl) (pe_call G__law_chosen (hr.mono (by decide)) (by rfl) T.d__law_chosen.g T.d__law_chosen.k b__law_chosen .nil pass0 (pa_cons (pv 1) (pa_cons pe_int pa_nil))))
  (pss_cons (ps_set (i := 4) sc_law.nd rfl (Or.inl rfl) (pe_call G__law_turned (hr.mono (by decide)) (by rfl) T.d__law_turned.g T.d__law_turned.k b__law_turned .nil pass0 (pa_cons (pv 2) (pa_cons (pe_call G__law_pick (hr.mono (by decide)) (by rfl) T.d__law_pick.g T.d__law_pick.k b__law_pick .nil pass0 (pa_cons (pv 1) (pa_cons pe_int (pa_cons (pe_op op_add (pe_callB call_len_seq (by rfl) T.n_len PySem.boot_len (pa_cons (pv 2) pa_nil)) pe_int) pa_nil)))) (pa_cons (pe_call G__law_pick (hr.mono (by decide)) (by rfl) T.d__law_pick.g T.d__law_pick.k b__law_pick .nil pass0 (pa_cons (pv 1) (pa_cons pe_int (pa_cons pe_int pa_nil)))) pa_nil)))))
  (pss_cons (ps_set (i := 5) sc_law.nd rfl (Or.inl rfl) (pe_callTy call_list_of (by rfl) T.n_list (by decide +kernel) (pa_cons (pv 4) pa_nil)))
  (pss_cons (ps_set (i := 6) sc_law.nd rfl (Or.inl rfl) (pe_make T.M_Policy G_init (hr.mono (by decide)) (by rfl) T.g_Policy b_init .nil passL (pa_cons (pv 4) pa_nil)))
  (pss_cons (ps_set (i := 7) sc_law.nd rfl (Or.inl rfl) (pe_make T.M_Policy G_init (hr.mono (by decide)) (by rfl) T.g_Policy b_init .nil passL (pa_cons (pe_callTy call_tuple_of (by rfl) T.n_tuple (by decide +kernel) (pa_cons (pe_call G__law_turned (hr.mono (by decide)) (by rfl) T.d__law_turned.g T.d__law_turned.k b__law_turned .nil pass0 (pa_cons (pv 3) (pa_cons (pe_call G__law_pick (hr.mono (by decide)) (by rfl) T.d__law_pick.g T.d__law_pick.k b__law_pick .nil pass0 (pa_cons (pv 1) (pa_cons pe_int (pa_cons (pe_op op_add (pe_callB call_len_seq (by rfl) T.n_len PySem.boot_len (pa_cons (pv 3) pa_nil)) pe_int) pa_nil)))) (pa_cons pe_int pa_nil)))) pa_nil)) pa_nil)))
  (pss_cons (ps_if (PW.pt (pw_or (pt_cmpR (op_neD hr.units) (pv 4) (pv 5) (nomark _)) (pw_or (pt_not (pt_val (pe_call G__law_holds (hr.mono (by decide)) (by rfl) T.d__law_holds.g T.d__law_holds.k b__law_holds .nil pass0 (pa_cons (pv 6) (pa_cons (pv 2) pa_nil))))) (pw_or1 (pt_not (pt_val (pe_call G__law_holds (hr.mono (by decide)) (by rfl) T.d__law_holds.g T.d__law_holds.k b__law_holds .nil pass0 (pa_cons (pv 7) (pa_cons (pv 3) pa_nil)))))))))
    (pss_one (ps_ret pe_bl))
    pss_nil)
  (pss_cons (ps_expr (pe_bm PySem.F.plainAttrs_list PySem.F.slot_list_append PySem.F.type_list_append mt_append (pv 4) (pa_cons pe_str pa_nil)))
  (pss_cons (ps_set (i := 8) sc_law.nd rfl (Or.inl rfl) (pe_call0 G__law_rules (hr.mono (by decide)) (by rfl) T.d__law_rules.g T.d__law_rules.k b__law_rules .nil pass0))
  (pss_cons (ps_setLc (i := 9) (own := [("_law_name", 12)]) (g := gName 12) rfl sc_law.nd rfl rfl (sw_true rfl rfl rfl (by decide +kernel)) (pi_list (pv 8)) (blkOk_by (N := ["_law_script", "_law_row_here", "_law_names", "_law_others", "_law_handed", "_law_kept", "_law_policy", "_law_other", "_law_rules_here", "_law_both", "_law_first", "_law_second", "_law_name"]) (sc := defScope S_law) (by decide +kernel)) (fun _ _ _ _ _ => (by exact (pg_name (i := 12) sc_law.nd rfl (Or.inl rfl)))) (fun _ _ _ _ _ => (by exact (pts_one (PW.pt (pw_or (pt_cmpR (show OpR _ (compareOp .In) (rIn K false) from op_in_seq) (pv 12) (pv 2) (by rfl)) (pw_or1 (pt_cmpR (show OpR _ (compareOp .In) (rIn K false) from op_in_seq) (pv 12) (pv 3) (by rfl)))))))) (fun _ _ _ _ _ => (by exact (pv 12))))
  (pss_cons (ps_if (PW.pt (pw_or (pt_not (pt_val (pe_call G__law_holds (hr.mono (by decide)) (by rfl) T.d__law_holds.g T.d__law_holds.k b__law_holds .nil pass0 (pa_cons (pe_op (XgOwn.op_own G_BitOr (hr.mono (by decide)) b_BitOr pass0 T.sf_Policy T.or_Policy T.orF_Policy) (pv 6) (pv 7)) (pa_cons (pv 9) pa_nil))))) (pw_or1 (pt_not (pt_val (pe_call G__law_holds (hr.mono (by decide)) (by rfl) T.d__law_holds.g T.d__law_holds.k b__law_holds .nil pass0 (pa_cons (pe_op (XgOwn.op_own G_BitOr (hr.mono (by decide)) b_BitOr pass0 T.sf_Policy T.or_Policy T.orF_Policy) (pv 7) (pv 6)) (pa_cons (pv 9) pa_nil))))))))
    (pss_one (ps_ret pe_bl))
    pss_nil)
  (pss_cons (ps_setLc (i := 10) (own := [("_law_name", 12)]) (g := gName 12) rfl sc_law.nd rfl rfl (sw_true rfl rfl rfl (by decide +kernel)) (pi_list (pv 2)) (blkOk_by (N := ["_law_script", "_law_row_here", "_law_names", "_law_others", "_law_handed", "_law_kept", "_law_policy", "_law_other", "_law_rules_here", "_law_both", "_law_first", "_law_second", "_law_name"]) (sc := defScope S_law) (by decide +kernel)) (fun _ _ _ _ _ => (by exact (pg_name (i := 12) sc_law.nd rfl (Or.inl rfl)))) (fun _ _ _ _ _ => (by exact (pts_one (pt_cmpR (show OpR _ (compareOp .NotIn) (rIn K true) from op_notIn_seq) (pv 12) (pv 3) (by rfl))))) (fun _ _ _ _ _ => (by exact (pv 12))))
  (pss_cons (ps_if (PW.pt (pw_or (pt_not (pt_val (pe_call G__law_holds (hr.mono (by decide)) (by rfl) T.d__law_holds.g T.d__law_holds.k b__law_holds .nil pass0 (pa_cons (pe_op (XgOwn.op_own G_Sub (hr.mono (by decide)) b_Sub pass0 T.sf_Policy T.sub_Policy T.subF_Policy) (pv 6) (pv 7)) (pa_cons (pv 10) pa_nil))))) (pw_or1 (pt_not (pt_val (pe_call G__law_holds (hr.mono (by decide)) (by rfl) T.d__law_holds.g T.d__law_holds.k b__law_holds .nil pass0 (pa_cons (pe_make T.M_Policy G_init (hr.mono (by decide)) (by rfl) T.g_Policy b_init .nil passL (pa_cons (pv 6) pa_nil)) (pa_cons (pv 2) pa_nil))))))))
    (pss_one (ps_ret pe_bl))
    pss_nil)
  (pss_cons (ps_setLc (i := 11) (own := [("_law_name", 12)]) (g := gName 12) rfl sc_law.nd rfl rfl (sw_true rfl rfl rfl (by decide +kernel)) (pi_list (pv 3)) (blkOk_by (N := ["_law_script", "_law_row_here", "_law_names", "_law_others", "_law_handed", "_law_kept", "_law_policy", "_law_other", "_law_rules_here", "_law_both", "_law_first", "_law_second", "_law_name"]) (sc := defScope S_law) (by decide +kernel)) (fun _ _ _ _ _ => (by exact (pg_name (i := 12) sc_law.nd rfl (Or.inl rfl)))) (fun _ _ _ _ _ => (by exact (pts_one (pt_cmpR (show OpR _ (compareOp .NotIn) (rIn K true) from op_notIn_seq) (pv 12) (pv 2) (by rfl))))) (fun _ _ _ _ _ => (by exact (pv 12))))
  (pss_cons (ps_if (PW.pt (pw_or (pt_not (pt_val (pe_call G__law_holds (hr.mono (by decide)) (by rfl) T.d__law_holds.g T.d__law_holds.k b__law_holds .nil pass0 (pa_cons (pe_op (XgOwn.op_own G_Sub (hr.mono (by decide)) b_Sub pass0 T.sf_Policy T.sub_Policy T.subF_Policy) (pv 7) (pv 6)) (pa_cons (pv 11) pa_nil))))) (pw_or (pt_not (pt_val (pe_call G__law_holds (hr.mono (by decide)) (by rfl) T.d__law_holds.g T.d__law_holds.k b__law_holds .nil pass0 (pa_cons (pv 6) (pa_cons (pv 2) pa_nil))))) (pw_or1 (pt_not (pt_val (pe_call G__law_holds (hr.mono (by decide)) (by rfl) T.d__law_holds.g T.d__law_holds.k b__law_holds .nil pass0 (pa_cons (pv 7) (pa_cons (pv 3) pa_nil)))))))))
    (pss_one (ps_ret pe_bl))
    pss_nil)
  (pss_cons (ps_if (PW.pt (pw_or (pt_not (pt_val (pe_callB call_isi (by rfl) T.n_isinstance (by decide +kernel) (pa_cons (pe_glob (v := .ref _) (by rfl) T.g_RULES rfl) (pa_cons (pe_bltn (v := .ty "tuple") (by rfl) T.n_tuple (by decide +kernel) rfl) pa_nil))))) (pw_or1 (pt_cmpR (op_neD hr.units) (pe_callTy call_list_of (by rfl) T.n_list (by decide +kernel) (pa_cons (pe_glob (v := .ref _) (by rfl) T.g_RULES rfl) pa_nil)) (pv 8) (nomark _)))))
    (pss_one (ps_ret pe_bl))
    pss_nil)
  (pss_cons (ps_if (PW.pt (pw_or (pt_not (pt_val (pe_call G__law_holds (hr.mono (by decide)) (by rfl) T.d__law_holds.g T.d__law_holds.k b__law_holds .nil pass0 (pa_cons (XgOwn.pe_stat0 (pe_glob (v := .ref _) (by rfl) T.g_Policy rfl) T.cr_Policy T.s_full G_full (hr.mono (by decide)) b_full pass0) (pa_cons (pv 8) pa_nil))))) (pw_or (pt_not (pt_val (pe_call G__law_holds (hr.mono (by decide)) (by rfl) T.d__law_holds.g T.d__law_holds.k b__law_holds .nil pass0 (pa_cons (XgOwn.pe_stat0 (pe_glob (v := .ref _) (by rfl) T.g_Policy rfl) T.cr_Policy T.s_empty G_empty (hr.mono (by decide)) b_empty pass0) (pa_cons (pe_lst pa_nil) pa_nil))))) (pw_or1 (pt_not (pt_val (pe_call G__law_holds (hr.mono (by decide)) (by rfl) T.d__law_holds.g T.d__law_holds.k b__law_holds .nil pass0 (pa_cons (pe_make0 T.M_Policy G_init (hr.mono (by decide)) (by rfl) T.g_Policy b_init0 v_init0 passL) (pa_cons (pe_lst pa_nil) pa_nil)))))))))
    (pss_one (ps_ret pe_bl))
    pss_nil)
  (pss_one (ps_ret (pe_call G__law_wrong_names (hr.mono (by decide)) (by rfl) T.d__law_wrong_names.g T.d__law_wrong_names.k b__law_wrong_names .nil pass0 (pa_cons (pv 1) (pa_cons (pv 5) pa_nil))))))))))))))))))))))), ?_⟩
    refine ⟨_, rfl, a, ns, 100, rfl, hS, hl, by decide, by decide, fun H1 p1 row s1 n1 h1 l1 d1 => ?_⟩
    refine ⟨_, rfl, p1, row, 0, rfl, SqL.of h1, d1, by decide, by decide, fun H2 p2 s2 n2 h2 => ?_⟩
    refine ⟨_, rfl, p1, row, 31, rfl, SqL.of (s2 _ _ h1), d1, by decide, by decide, fun H3 p3 s3 n3 h3 => ?_⟩
    have xsub := chTo_sub row 0
    have ysub := chTo_sub row 31
    generalize chTo row 0 29 = xs at h2 xsub
    generalize chTo row 31 29 = ys at h3 ysub
    have h13 := (s2.trans s3) _ _ h1
    have h23 := s3 _ _ h2
    have xl := sub_len xsub
    have yl := sub_len ysub
    have xn := xsub.nodup rul_nodup
    have yn := ysub.nodup rul_nodup
    -- the names handed in
    refine ⟨_, rfl, _, rfl, _, rfl, p2, _, rfl, .inl (SqL.of h23), _, _, rfl, rfl, p1, row, 62, (xs.length : Int) + 1, by rw [List.length_map]; rfl, SqL.of h13, d1, by decide, by decide, by omega, ?_⟩
    have ka := pick_lo (row := row) (i := 62) (m := (xs.length : Int) + 1) (by omega)
    have kb := pick_hi (row := row) (i := 62) (m := (xs.length : Int) + 1) (by omega)
    obtain ⟨k, hk⟩ := Int.eq_ofNat_of_zero_le ka
    rw [hk]
    refine ⟨_, rfl, p1, row, 64, 2, rfl, SqL.of h13, d1, by decide, by decide, by decide, ?_⟩
    refine ⟨p2, xs, k, _, rfl, SqL.of h23, by omega, by omega, fun H4 p4 s4 n4 h4 => ?_⟩
    have tp := turn_perm xs k (decide (pick row 64 2 = 1))
    generalize turn xs k (decide (pick row 64 2 = 1)) = zs at h4 tp
    have zn : zs.Nodup := tp.nodup_iff.mpr xn
    have zr : ∀ z ∈ zs, z ∈ rulL := fun z h => xsub.subset (tp.subset h)
    have zl : zs.length ≤ 29 := by rw [tp.length_eq]; exact xl
    have zs_x : sel zs = xs := (sel_congr fun z => tp.mem_iff).trans (sel_sub xsub)
    refine ⟨_, rfl, p4, _, rfl, .inl (SqL.of h4), fun p5 n5 => ?_⟩
    have s5 := same_new (o := .lst (zs.map V.str)) (Same.refl H4) n5
    refine ⟨_, rfl, ?_⟩
    intro p6 dx1 hx1 hdx1 hne1
    refine made_at (K := K) (A := A) (E := E0) hx1 hdx1 hne1 (zs := zs) ⟨p4, rfl, .inl (SqL.of (s5 _ _ h4))⟩ zn zr (by omega) (fun H6 s6 pa => ?_)
    rw [zs_x] at pa
    have s46 := s5.trans s6
    have s36 := s4.trans s46
    -- the other policy
    refine ⟨_, rfl, _, rfl, _, rfl, p3, _, rfl, .inl (SqL.of (s36 _ _ h3)), _, _, rfl, rfl, p1, row, 66, (ys.length : Int) + 1, by rw [List.length_map]; rfl, SqL.of (s36 _ _ h13), d1, by decide, by decide, by omega, ?_⟩
    have ja := pick_lo (row := row) (i := 66) (m := (ys.length : Int) + 1) (by omega)
    have jb := pick_hi (row := row) (i := 66) (m := (ys.length : Int) + 1) (by omega)
    obtain ⟨j, hj⟩ := Int.eq_ofNat_of_zero_le ja
    rw [hj]
    refine ⟨p3, ys, j, 1, rfl, SqL.of (s36 _ _ h3), by omega, by omega, fun H7 p7 s7 n7 h7 => ?_⟩
    have up := turn_perm ys j (decide ((1 : Int) = 1))
    generalize turn ys j (decide ((1 : Int) = 1)) = us at h7 up
    have un : us.Nodup := up.nodup_iff.mpr yn
    have ur : ∀ z ∈ us, z ∈ rulL := fun z h => ysub.subset (up.subset h)
    have us_y : sel us = ys := (sel_congr fun z => up.mem_iff).trans (sel_sub ysub)
    refine ⟨p7, _, rfl, .inl ⟨SqL.of h7, fun t8 nt8 => ?_⟩⟩
    have s8 := same_new (o := .tup (us.map V.str)) (Same.refl H7) nt8
    intro p9 dx2 hx2 hdx2 hne2
    refine made_at (K := K) (A := A) (E := E0) hx2 hdx2 hne2 (zs := us) ⟨t8, rfl, .inr (.inl (SqT.of upd_same))⟩ un ur (by rw [up.length_eq]; omega) (fun H9 s9 pb => ?_)
    rw [us_y] at pb
    have s49 := s46.trans (s7.trans (s8.trans s9))
    have s39 := s4.trans s49
    have pa9 := pa.same (s7.trans (s8.trans s9))
    have h49 := s49 _ _ h4
    have h59 := (s6.trans (s7.trans (s8.trans s9))) _ _ (upd_same (H := H4) (o := HO.lst (zs.map V.str)))
    refine ⟨_, rfl, _, rfl, _, _, dp_LS (SqL.of h49), dp_LS (SqL.of h59), sh_LS (str_ok zr), sh_LS (str_ok zr), _, rfl, ite2 (fun h => absurd h (eq_selfR zr)) (fun _ => ?_)⟩
    refine ⟨_, rfl, _, rfl, p6, p2, xs, rfl, pa9, SqL.of (s39 _ _ h23), xsub, fun H10 s10 => ⟨_, rfl, ?_⟩⟩
    refine ⟨_, rfl, _, rfl, p9, p3, ys, rfl, pb.same s10, SqL.of (s10 _ _ (s39 _ _ h3)), ysub, fun H11 s11 => ⟨_, rfl, ?_⟩⟩
    have s911 := s10.trans s11
    have h411 := s911 _ _ h49
    -- the list that was handed in grows
    refine ⟨_, rfl, .inl ⟨rfl, _, SqL.of h411⟩, p4, _, _, rfl, rfl, h411, lt1000 (by rw [List.length_map]; omega), ?_⟩
    have sM := same_mut (o := .lst (zs.map V.str ++ [V.str "quick"])) (s39.trans s911) n4
    have paM := (pa9.same s911).mut (ys := zs.map V.str ++ [V.str "quick"]) h411
    have pbM := (pb.same s911).mut (ys := zs.map V.str ++ [V.str "quick"]) h411
    have h5M : upd H11 p4 (.lst (zs.map V.str ++ [V.str "quick"])) p5 = some (.lst (zs.map V.str)) := by
      rw [upd_ne (Ne.symm (ne_of_none h4 n5))]
      exact s911 _ _ h59
    have r1M := sM _ _ h13
    have x2M := sM _ _ h23
    have y3M := sM _ _ h3
    generalize upd H11 p4 (.lst (zs.map V.str ++ [V.str "quick"])) = HM at sM paM pbM h5M r1M x2M y3M ⊢
    refine ⟨rfl, fun H12 p8 s12 n8 h8 => ?_⟩
    have yes1 : ∀ (q : Str → Bool) (L : List Str) (j : Nat) (z : Str) (H : Hp) (D : Addr), L.length ≤ 29 → L[j]? = some z → H D = some (.lst (((L.take j).filter q).map V.str)) → q z = true → ∃ acc, H D = some (.lst acc) ∧ acc.length < sizeLine ∧ upd H D (.lst (acc ++ [V.str z])) D = some (.lst (((L.take (j + 1)).filter q).map V.str)) := fun q L j z H D hl hz hD c => by
      refine ⟨_, hD, lt1000 ?_, ?_⟩
      · rw [List.length_map]
        refine Nat.le_trans (List.length_filter_le _ _) ?_
        rw [List.length_take]
        omega
      · rw [upd_same, take_next hz, List.filter_append, List.map_append]
        simp only [List.filter_cons, c, List.filter_nil, if_true]
        rfl
    have no1 : ∀ (q : Str → Bool) (L : List Str) (j : Nat) (z : Str) (H : Hp) (D : Addr), L[j]? = some z → H D = some (.lst (((L.take j).filter q).map V.str)) → q z = false → H D = some (.lst (((L.take (j + 1)).filter q).map V.str)) := fun q L j z H D hz hD c => by
      rw [hD, take_next hz, List.filter_append]
      simp only [List.filter_cons, c, List.filter_nil, Bool.false_eq_true, if_false, List.append_nil]
    -- both
    refine ⟨_, rfl, p8, rfl, ⟨_, SqL.of h8⟩, fun D nD => ?_⟩
    refine lc_it (walk_list (K := K) (xs := rulL.map V.str)) (fun j H' => Same H12 H' ∧ H' D = some (.lst (((rulL.take j).filter fun z => decide (z ∈ xs) || decide (z ∈ ys)).map V.str))) ⟨same_new (Same.refl H12) nD, by rw [upd_same]; rfl⟩ (fun j H' _ h => SqL.of (h.1 _ _ h8)) ?_ ?_
    · rintro j x H2' H3' hj ⟨sm2, hD⟩ ⟨rfl, ex⟩
      rw [List.getElem?_map] at ex
      obtain ⟨z, hzj, rfl⟩ := Option.map_eq_some_iff.mp ex
      have sX := sM.trans (s12.trans sm2)
      refine ⟨rfl, _, rfl, _, rfl, p2, _, rfl, .inl (SqL.of (sX _ _ h23)), rfl, flat_strs _, _, rfl, ?_⟩
      show if inV (.str z) (xs.map V.str) = true then _ else _
      rw [inV_str]
      refine ite2 (fun c => ?_) (fun c => ?_)
      · obtain ⟨acc, a1, a2, a3⟩ := yes1 (fun z => decide (z ∈ xs) || decide (z ∈ ys)) rulL j z _ D (by decide +kernel) hzj hD (by show (decide (z ∈ xs) || decide (z ∈ ys)) = true; rw [c, Bool.true_or])
        exact ⟨_, rfl, acc, a1, a2, same_mut sm2 nD, a3⟩
      refine ⟨_, rfl, _, rfl, p3, _, rfl, .inl (SqL.of (sX _ _ h3)), rfl, flat_strs _, _, rfl, ?_⟩
      show if inV (.str z) (ys.map V.str) = true then _ else _
      rw [inV_str]
      refine ite2 (fun d => ?_) (fun d => ?_)
      · obtain ⟨acc, a1, a2, a3⟩ := yes1 (fun z => decide (z ∈ xs) || decide (z ∈ ys)) rulL j z _ D (by decide +kernel) hzj hD (by show (decide (z ∈ xs) || decide (z ∈ ys)) = true; rw [d, Bool.or_true])
        exact ⟨_, rfl, acc, a1, a2, same_mut sm2 nD, a3⟩
      refine ⟨sm2, no1 (fun z => decide (z ∈ xs) || decide (z ∈ ys)) rulL j z _ D hzj hD ?_⟩
      show (decide (z ∈ xs) || decide (z ∈ ys)) = false
      rw [Bool.not_eq_true] at c d
      rw [c, d]
      rfl
    rintro H13 ⟨s13, hD⟩
    rw [List.length_map, List.take_length] at hD
    have hD' : H13 D = some (.lst ((orL xs ys).map V.str)) := hD
    have obs : (orL xs ys).Sublist rulL := List.filter_sublist
    have sM13 := s12.trans s13
    -- policy | other, other | policy
    obtain ⟨dx6, t6, g6, k6⟩ := paM.same sM13
    obtain ⟨dx9, t9, g9, k9⟩ := pbM.same sM13
    refine ⟨_, rfl, _, rfl, p6, p9, dx6, dx9, _, _, rfl, rfl, g6, g9, p6, p9, xs, ys, rfl, paM.same sM13, pbM.same sM13, xsub, fun H14 r14 s14 n14 pr14 => ⟨⟨_, rfl⟩, ?_⟩⟩
    refine ⟨_, rfl, r14, D, orL xs ys, rfl, pr14, SqL.of (s14 _ _ hD'), obs, fun H15 s15 => ⟨_, rfl, ?_⟩⟩
    have sM15 := sM13.trans (s14.trans s15)
    obtain ⟨dx6, t6, g6, k6⟩ := paM.same sM15
    obtain ⟨dx9, t9, g9, k9⟩ := pbM.same sM15
    refine ⟨_, rfl, _, rfl, p9, p6, dx9, dx6, _, _, rfl, rfl, g9, g6, p9, p6, ys, xs, rfl, pbM.same sM15, paM.same sM15, ysub, fun H16 r16 s16 n16 pr16 => ⟨⟨_, rfl⟩, ?_⟩⟩
    rw [or_comm'] at pr16
    refine ⟨_, rfl, r16, D, orL xs ys, rfl, pr16, SqL.of ((s14.trans (s15.trans s16)) _ _ hD'), obs, fun H17 s17 => ⟨_, rfl, ?_⟩⟩
    have sM17 := sM15.trans (s16.trans s17)
    -- policy - other
    refine ⟨_, rfl, p2, rfl, ⟨_, SqL.of (sM17 _ _ x2M)⟩, fun D1 nD1 => ?_⟩
    refine lc_it (walk_list (K := K) (xs := xs.map V.str)) (fun j H' => Same H17 H' ∧ H' D1 = some (.lst (((xs.take j).filter fun z => !decide (z ∈ ys)).map V.str))) ⟨same_new (Same.refl H17) nD1, by rw [upd_same]; rfl⟩ (fun j H' _ h => SqL.of (h.1 _ _ (sM17 _ _ x2M))) ?_ ?_
    · rintro j x H2' H3' hj ⟨sm2, hD⟩ ⟨rfl, ex⟩
      rw [List.getElem?_map] at ex
      obtain ⟨z, hzj, rfl⟩ := Option.map_eq_some_iff.mp ex
      refine ⟨rfl, _, rfl, _, rfl, p3, _, rfl, .inl (SqL.of (sm2 _ _ (sM17 _ _ y3M))), rfl, flat_strs _, _, rfl, ?_⟩
      show if (!inV (.str z) (ys.map V.str)) = true then _ else _
      rw [inV_str]
      refine ite2 (fun c => ?_) (fun c => ?_)
      · obtain ⟨acc, a1, a2, a3⟩ := yes1 (fun z => !decide (z ∈ ys)) xs j z _ D1 (by omega) hzj hD c
        exact ⟨_, rfl, acc, a1, a2, same_mut sm2 nD1, a3⟩
      · rw [Bool.not_eq_true] at c
        exact ⟨sm2, no1 (fun z => !decide (z ∈ ys)) xs j z _ D1 hzj hD c⟩
    rintro H17b ⟨H17s, H17D⟩
    rw [List.length_map, List.take_length] at H17D
    have H17D' : H17b D1 = some (.lst ((subL xs ys).map V.str)) := H17D
    have d1s : (subL xs ys).Sublist rulL := List.filter_sublist.trans xsub
    have sM18 := sM17.trans H17s
    obtain ⟨dx6, t6, g6, k6⟩ := paM.same sM18
    obtain ⟨dx9, t9, g9, k9⟩ := pbM.same sM18
    refine ⟨_, rfl, _, rfl, p6, p9, dx6, dx9, _, _, rfl, rfl, g6, g9, p6, p9, xs, ys, rfl, paM.same sM18, pbM.same sM18, xsub, fun H19 r19 s19 n19 pr19 => ⟨⟨_, rfl⟩, ?_⟩⟩
    refine ⟨_, rfl, r19, D1, subL xs ys, rfl, pr19, SqL.of (s19 _ _ H17D'), d1s, fun H20 s20 => ⟨_, rfl, ?_⟩⟩
    have sM20 := sM18.trans (s19.trans s20)
    -- Policy(policy)
    refine ⟨_, rfl, ?_⟩
    intro p21 dx21 hx21 hdx21 hne21
    refine made_at (K := K) (A := A) (E := E0) hx21 hdx21 hne21 (zs := xs) (paM.same sM20).src xn (fun z h => xsub.subset h) (by omega) (fun H22 s22 pc => ?_)
    rw [sel_sub xsub] at pc
    have sM22 := sM20.trans s22
    refine ⟨_, rfl, p21, p2, xs, rfl, pc, SqL.of (sM22 _ _ x2M), xsub, fun H23 s23 => ⟨_, rfl, ?_⟩⟩
    have sM23 := sM22.trans s23
    -- other - policy
    refine ⟨_, rfl, p3, rfl, ⟨_, SqL.of (sM23 _ _ y3M)⟩, fun D2 nD2 => ?_⟩
    refine lc_it (walk_list (K := K) (xs := ys.map V.str)) (fun j H' => Same H23 H' ∧ H' D2 = some (.lst (((ys.take j).filter fun z => !decide (z ∈ xs)).map V.str))) ⟨same_new (Same.refl H23) nD2, by rw [upd_same]; rfl⟩ (fun j H' _ h => SqL.of (h.1 _ _ (sM23 _ _ y3M))) ?_ ?_
    · rintro j x H2' H3' hj ⟨sm2, hD⟩ ⟨rfl, ex⟩
      rw [List.getElem?_map] at ex
      obtain ⟨z, hzj, rfl⟩ := Option.map_eq_some_iff.mp ex
      refine ⟨rfl, _, rfl, _, rfl, p2, _, rfl, .inl (SqL.of (sm2 _ _ (sM23 _ _ x2M))), rfl, flat_strs _, _, rfl, ?_⟩
      show if (!inV (.str z) (xs.map V.str)) = true then _ else _
      rw [inV_str]
      refine ite2 (fun c => ?_) (fun c => ?_)
      · obtain ⟨acc, a1, a2, a3⟩ := yes1 (fun z => !decide (z ∈ xs)) ys j z _ D2 (by omega) hzj hD c
        exact ⟨_, rfl, acc, a1, a2, same_mut sm2 nD2, a3⟩
      · rw [Bool.not_eq_true] at c
        exact ⟨sm2, no1 (fun z => !decide (z ∈ xs)) ys j z _ D2 hzj hD c⟩
    rintro H23b ⟨H23s, H23D⟩
    rw [List.length_map, List.take_length] at H23D
    have H23D' : H23b D2 = some (.lst ((subL ys xs).map V.str)) := H23D
    have d2s : (subL ys xs).Sublist rulL := List.filter_sublist.trans ysub
    have sM24 := sM23.trans H23s
    obtain ⟨dx6, t6, g6, k6⟩ := paM.same sM24
    obtain ⟨dx9, t9, g9, k9⟩ := pbM.same sM24
    refine ⟨_, rfl, _, rfl, p9, p6, dx9, dx6, _, _, rfl, rfl, g9, g6, p9, p6, ys, xs, rfl, pbM.same sM24, paM.same sM24, ysub, fun H25 r25 s25 n25 pr25 => ⟨⟨_, rfl⟩, ?_⟩⟩
    refine ⟨_, rfl, r25, D2, subL ys xs, rfl, pr25, SqL.of (s25 _ _ H23D'), d2s, fun H26 s26 => ⟨_, rfl, ?_⟩⟩
    have sM26 := sM24.trans (s25.trans s26)
    refine ⟨_, rfl, _, rfl, p6, p2, xs, rfl, paM.same sM26, SqL.of (sM26 _ _ x2M), xsub, fun H27 s27 => ⟨_, rfl, ?_⟩⟩
    have sM27 := sM26.trans s27
    refine ⟨_, rfl, _, rfl, p9, p3, ys, rfl, pbM.same sM27, SqL.of (sM27 _ _ y3M), ysub, fun H28 s28 => ⟨_, rfl, ?_⟩⟩
    have sM28 := sM27.trans s28
    have s1228 : Same H12 H28 := s13.trans (s14.trans (s15.trans (s16.trans (s17.trans (H17s.trans (s19.trans (s20.trans (s22.trans (s23.trans (H23s.trans (s25.trans (s26.trans (s27.trans s28)))))))))))))
    have h828 := s1228 _ _ h8
    -- RULES
    have SR := strsB_sq T.RULES H28
    refine ⟨_, _, _, _, _, rfl, .ty "tuple", tyT SR, T.i_tup, _, rfl, ?_⟩
    refine ⟨A.RULES, _, rfl, .inr SR, fun l29 n29 => ⟨_, rfl, _, _, dp_LS (SqL.of upd_same), dp_LS (same_sqL (same_new (Same.refl H28) n29) (SqL.of h828)), sh_LS (rul_ok (List.Sublist.refl _)), sh_LS (rul_ok (List.Sublist.refl _)), _, rfl, ite2 (fun h => absurd h (eq_self (List.Sublist.refl _))) (fun _ => ?_)⟩⟩
    have s29 := same_new (o := .lst (rulL.map V.str)) (Same.refl H28) n29
    -- full, empty, ()
    refine ⟨rfl, rfl, fun H30 r30 s30 n30 pr30 => ?_⟩
    refine ⟨_, rfl, r30, p8, rulL, rfl, pr30, SqL.of ((s29.trans s30) _ _ h828), List.Sublist.refl _, fun H31 s31 => ⟨_, rfl, ?_⟩⟩
    refine ⟨rfl, rfl, fun H32 r32 s32 n32 pr32 => ?_⟩
    refine ⟨(by show 0 ≤ sizeLine; decide), fun l33 n33 => ?_⟩
    have s33 := same_new (o := .lst []) (Same.refl H32) n33
    refine ⟨r32, l33, [], rfl, pr32.same s33, SqL.of upd_same, List.nil_sublist _, fun H34 s34 => ⟨_, rfl, ?_⟩⟩
    intro p35 dx35 hx35 hdx35 hne35
    refine made_at (K := K) (A := A) (E := E0) hx35 hdx35 hne35 (v := .ref A.nil) (zs := []) ⟨_, rfl, .inr (.inl (strsB_sq T.nil _))⟩ List.nodup_nil (fun _ h => nomatch h) (by decide) (fun H36 s36 pd => ?_)
    rw [sel_sub (List.nil_sublist _)] at pd
    refine ⟨(by show 0 ≤ sizeLine; decide), fun l37 n37 => ?_⟩
    have s37 := same_new (o := .lst []) (Same.refl H36) n37
    refine ⟨p35, l37, [], rfl, pd.same s37, SqL.of upd_same, List.nil_sublist _, fun H38 s38 => ⟨_, rfl, ?_⟩⟩
    have sM38 := sM28.trans (s29.trans (s30.trans (s31.trans (s32.trans (s33.trans (s34.trans (s36.trans (s37.trans s38))))))))
    exact ⟨_, rfl, _, rfl, p1, p5, row, zs, rfl, SqL.of (sM38 _ _ r1M), d1, sM38 _ _ h5M, zn, zr, zl, fun H' _ => q H'⟩
end
end P88
namespace P88
open PySem L2 Xg
def faL : List He.Fa := [.glo "_law_row", .keep "_law_row", .glo "_law_pick", .keep "_law_pick", .glo "_law_rules", .keep "_law_rules", .glo "_law_chosen", .keep "_law_chosen", .glo "_law_turned", .keep "_law_turned", .glo "_law_holds", .keep "_law_holds", .glo "_law_refused", .keep "_law_refused", .glo "_law_wrong_names", .keep "_law_wrong_names", .free "len", .free "tuple", .free "list", .free "iter", .free "abs", .free "int", .free "range", .free "isinstance", .free "ValueError", .glo "RULES", .glo "Policy", .glo "TextError", .glo "InstructionError", .glo "GuestError", .glo "ActionError", .glo "SettingError", .glo "DebuggerError", .glo "GuestlivesError", .cls "Policy", .noat "Policy" "names", .mkr "Policy", .meth "Policy" "has", .meth "Policy" "__contains__", .meth "Policy" "__iter__", .meth "Policy" "__or__", .meth "Policy" "__sub__", .glo "law", .keep "law"]
def fnL : List He.FnD := [Xg.fnD "_law_row" S__law_row, Xg.fnD "_law_pick" S__law_pick, Xg.fnD "_law_rules" S__law_rules, Xg.fnD "_law_chosen" S__law_chosen, Xg.fnD "_law_turned" S__law_turned, Xg.fnD "_law_holds" S__law_holds, Xg.fnD "_law_refused" S__law_refused, Xg.fnD "_law_wrong_names" S__law_wrong_names, Xg.fnD "law" S_law]
def meD (x qual : Str) (st : Stmt) : He.FnD := ⟨("Policy", some x), x, qual, defArgs st, defBody st, defScope st⟩
def meL : List He.FnD := [meD "has" "Policy.has" S_Policy_has, meD "__contains__" "Policy.__contains__" S_Policy___contains__, meD "__iter__" "Policy.__iter__" S_Policy___iter__, meD "__or__" "Policy.__or__" S_Policy___or__, meD "__sub__" "Policy.__sub__" S_Policy___sub__]
def AK (K : PySem.W.Frag) (PE fI nil fF fE : Addr) : Ad := { PE := PE, iPE := fI, GE := He.ga K "GuestlivesError", TextError := He.ga K "TextError", InstructionError := He.ga K "InstructionError", GuestError := He.ga K "GuestError", ActionError := He.ga K "ActionError", SettingError := He.ga K "SettingError", DebuggerError := He.ga K "DebuggerError", RULES := He.ga K "RULES", nil := nil, C := He.ga K "Policy", mc := .type "type", init := He.ma K (He.ga K "Policy") "__init__", empty := fE, pempty := He.ma K (He.ga K "Policy") "empty", full := fF, pfull := He.ma K (He.ga K "Policy") "full", has := He.ma K (He.ga K "Policy") "has", contains := He.ma K (He.ga K "Policy") "__contains__", iter := He.ma K (He.ga K "Policy") "__iter__", or_ := He.ma K (He.ga K "Policy") "__or__", sub := He.ma K (He.ga K "Policy") "__sub__", _law_row := He.ga K "_law_row", _law_pick := He.ga K "_law_pick", _law_rules := He.ga K "_law_rules", _law_chosen := He.ga K "_law_chosen", _law_turned := He.ga K "_law_turned", _law_holds := He.ga K "_law_holds", _law_refused := He.ga K "_law_refused", _law_wrong_names := He.ga K "_law_wrong_names" }
theorem me_of {K : PySem.W.Frag} {fa : List He.Fa} (c : He.SaysE fa meL K) (i : Nat) {x qual : Str} {st : Stmt} {ps : List Str} (h1 : meL[i]? = some (meD x qual st)) (k : PySem.W.keepIn K (.ref (He.ma K (He.ga K "Policy") x)) = true)
    (b : ∀ (kV doc pm : Value) (an : Option Addr) (cdv ct : Value) (us : List Value), us.length = ps.length → bindArgs (PySem.W.fnOf x qual (defArgs st) (defBody st) (defScope st) .none kV doc pm an cdv ct) ⟨us, []⟩ = pure (ps.zip us)) : Me K x qual st (He.ma K (He.ga K "Policy") x) ps := by
  obtain ⟨oc, od, osl, kV, doc, pm, an, cdv, ct, l, cd⟩ := c.def_ i h1
  have F : Fun K x qual st (He.ma K (He.ga K "Policy") x) _ := fun_mk l cd k
  exact ⟨_, F, F.binds b⟩
theorem me_mk {K : PySem.W.Frag} {x qual : Str} {st : Stmt} {f : Addr} {ps : List Str} {oc : Value} {od an : Option Addr} {osl : Array (Option Value)} {kV doc pm cdv ct : Value} (l : K.lookup f = some ⟨oc, od, .func (PySem.W.fnOf x qual (defArgs st) (defBody st) (defScope st) .none kV doc pm an cdv ct), osl⟩)
    (c : PySem.W.codeIn K cdv qual = true) (k : PySem.W.keepIn K (.ref f) = true) (b : ∀ (kV doc pm : Value) (an : Option Addr) (cdv ct : Value) (us : List Value), us.length = ps.length → bindArgs (PySem.W.fnOf x qual (defArgs st) (defBody st) (defScope st) .none kV doc pm an cdv ct) ⟨us, []⟩ = pure (ps.zip us)) : Me K x qual st f ps :=
  ⟨_, fun_mk l c k, (fun_mk l c k).binds b⟩
theorem fin {l : PySem.W.OpenLaw} {w : World} {K : PySem.W.Frag} {h : Heap} {mg : Str → Option Value} {fa PE fI nil fF fE TT : Addr} (X : K.In h) (G : h.Ns mainGlobals mg) (hfa : mg "law" = some (.ref fa)) (c : He.obsE faL fnL K = He.valE fnL) (cm : He.obsE [] meL K = He.valE meL)
    (x : XgSup.STxt l.prog K mg "PolicyError" "name" "the rule cannot be named here: " PE fI) (xc : ExcC K PE)
    {oc0 kV0 dc0 pm0 cd0 ct0 : Value} {od0 an0 : Option Addr} {sl0 : Array (Option Value)}
    (j1 : K.lookup (He.ma K (He.ga K "Policy") "__init__") = some ⟨oc0, od0, .func (PySem.W.fnOf "__init__" "Policy.__init__" (defArgs S_Policy___init__) (defBody S_Policy___init__) (defScope S_Policy___init__) (.ref TT) kV0 dc0 pm0 an0 cd0 ct0), sl0⟩)
    {ocT : Value} {odT : Option Addr} {nT : Nat} {slT : Array (Option Value)} (j2 : K.lookup TT = some ⟨ocT, odT, .seq #[.ref nil] nT, slT⟩)
    {ocF kVF dcF pmF cdF ctF : Value} {odF anF : Option Addr} {slF : Array (Option Value)} {restF : List Value}
    (j3 : PySem.W.recIn K (He.ma K (He.ga K "Policy") "full") "staticmethod" = some (.ref fF :: restF))
    (j4 : K.lookup fF = some ⟨ocF, odF, .func (PySem.W.fnOf "full" "Policy.full" (defArgs S_Policy_full) (defBody S_Policy_full) (defScope S_Policy_full) .none kVF dcF pmF anF cdF ctF), slF⟩)
    {ocE kVE dcE pmE cdE ctE : Value} {odE anE : Option Addr} {slE : Array (Option Value)} {restE : List Value}
    (j5 : PySem.W.recIn K (He.ma K (He.ga K "Policy") "empty") "staticmethod" = some (.ref fE :: restE))
    (j6 : K.lookup fE = some ⟨ocE, odE, .func (PySem.W.fnOf "empty" "Policy.empty" (defArgs S_Policy_empty) (defBody S_Policy_empty) (defScope S_Policy_empty) .none kVE dcE pmE anE cdE ctE), slE⟩)
    (y1 : PySem.W.codeIn K cd0 "Policy.__init__" = true) (y2 : PySem.W.keepIn K (.ref (He.ma K (He.ga K "Policy") "__init__")) = true)
    (y3 : PySem.W.codeIn K cdF "Policy.full" = true) (y4 : PySem.W.keepIn K (.ref fF) = true) (y5 : PySem.W.codeIn K cdE "Policy.empty" = true) (y6 : PySem.W.keepIn K (.ref fE) = true)
    (z1 : strsB K (He.ga K "RULES") rulL = true) (z2 : strsB K nil [] = true)
    (z3 : PySem.W.selfFirst K (He.ga K "Policy") = true) (z4 : PySem.W.findIn K (.ref (He.ga K "Policy")) "__len__" = some none) (z5 : PySem.W.findIn K (.ref (He.ga K "Policy")) "__length_hint__" = some none)
    (z6 : PySem.W.readsIn K (He.ga K "Policy") (.type "type") = true) (z7 : PySem.W.specialIn K (.ref (He.ga K "Policy")) "__getattribute__" = some (some (.builtin "type.__getattribute__")))
    (z8 : PySem.W.findCls K (.ref (He.ga K "Policy")) (.type "type") "full" = some (.get (.builtin "staticmethod.__get__") (.ref (He.ma K (He.ga K "Policy") "full")) .none (.ref (He.ga K "Policy"))))
    (z9 : PySem.W.findCls K (.ref (He.ga K "Policy")) (.type "type") "empty" = some (.get (.builtin "staticmethod.__get__") (.ref (He.ma K (He.ga K "Policy") "empty")) .none (.ref (He.ga K "Policy"))))
    (m1 : PySem.W.exmOne K (.ref PE) (.ref PE) = some true)
    (i5 : PySem.W.kitOne K (.type "tuple") (.type "tuple") = some true) (i10 : PySem.W.kitOne K (.ref PE) (.ref (He.ga K "GuestlivesError")) = some true) (i11 : PySem.W.kitOne K (.ref PE) (.type "ValueError") = some true)
    (i12 : PySem.W.kitAny K (.ref PE) [.ref (He.ga K "TextError"), .ref (He.ga K "InstructionError"), .ref (He.ga K "GuestError"), .ref (He.ga K "ActionError"), .ref (He.ga K "SettingError"), .ref (He.ga K "DebuggerError")] = some false) :
    ∃ fd : FuncData, (∀ (s : Shared) (u : Value), BindsTo s fd ⟨[u], []⟩ [("_law_script", u)]) ∧ ∀ base : Heap, K.In base → base.Ns mainGlobals mg → FnOk l.prog w K mg base CX0 9 fa fd ["_law_script"] (spLaw K) := by
  have c' : He.SaysE faL fnL K := c
  have cm' : He.SaysE [] meL K := cm
  have e := hfa.symm.trans (He.glo_ok X G (c'.fact 42))
  cases e
  have Mh := He.meth_ok (c'.fact 37)
  have Mc := He.meth_ok (c'.fact 38)
  have Mi := He.meth_ok (c'.fact 39)
  have Mo := He.meth_ok (c'.fact 40)
  have Ms := He.meth_ok (c'.fact 41)
  have T : Tp l.prog w K mg (AK K PE fI nil fF fE) := {
    n_len := He.free_ok X G (c'.fact 16)
    n_tuple := He.free_ok X G (c'.fact 17)
    n_list := He.free_ok X G (c'.fact 18)
    n_iter := He.free_ok X G (c'.fact 19)
    n_abs := He.free_ok X G (c'.fact 20)
    n_int := He.free_ok X G (c'.fact 21)
    n_range := He.free_ok X G (c'.fact 22)
    n_isinstance := He.free_ok X G (c'.fact 23)
    n_ValueError := He.free_ok X G (c'.fact 24)
    g_RULES := He.glo_ok X G (c'.fact 25)
    g_Policy := He.glo_ok X G (c'.fact 26)
    g_TextError := He.glo_ok X G (c'.fact 27)
    g_InstructionError := He.glo_ok X G (c'.fact 28)
    g_GuestError := He.glo_ok X G (c'.fact 29)
    g_ActionError := He.glo_ok X G (c'.fact 30)
    g_SettingError := He.glo_ok X G (c'.fact 31)
    g_DebuggerError := He.glo_ok X G (c'.fact 32)
    g_GuestlivesError := He.glo_ok X G (c'.fact 33)
    g_PolicyError := x.gC
    x_PolicyError := x
    xc_PE := xc
    xf_PE := ⟨x.ga, x.gg, x.exC, x.hdC⟩
    m_PP := m1
    i_PG := i10
    i_PV := i11
    i_six := i12
    i_tup := i5
    RULES := z1
    nil := z2
    cl_Policy := He.cls_ok (c'.fact 34)
    na_Policy := He.noat_ok (c'.fact 35)
    M_Policy := He.mkr_ok (c'.fact 36)
    it_Policy := ⟨Mi.1, Mi.2, z4, z5⟩
    sf_Policy := z3
    or_Policy := Mo.1
    orF_Policy := Mo.2
    sub_Policy := Ms.1
    subF_Policy := Ms.2
    in_Policy := Mc.1
    inF_Policy := Mc.2
    m_has := Mh
    cr_Policy := ⟨z6, z7⟩
    s_full := ⟨z8, ⟨_, j3⟩, y4⟩
    s_empty := ⟨z9, ⟨_, j5⟩, y6⟩
    d_init := ⟨_, ⟨⟨_, _, _, _, _, _, _, _, _, _, rfl, j1, y1, .inr ⟨(fun h => nomatch h), TT, _, [Value.ref nil], nT, rfl, j2, rfl, .cons rfl .nil⟩, .inl rfl⟩, y2⟩⟩
    d_empty := me_mk j6 y5 y6 (fun _ _ _ _ _ _ us hl => match us, hl with | [], _ => rfl)
    d_full := me_mk j4 y3 y4 (fun _ _ _ _ _ _ us hl => match us, hl with | [], _ => rfl)
    d_has := me_of cm' 0 rfl Mh.3 (fun _ _ _ _ _ _ us hl => match us, hl with | [_, _], _ => rfl)
    d_contains := me_of cm' 1 rfl Mc.3 (fun _ _ _ _ _ _ us hl => match us, hl with | [_, _], _ => rfl)
    d_iter := me_of cm' 2 rfl Mi.3 (fun _ _ _ _ _ _ us hl => match us, hl with | [_], _ => rfl)
    d_or := me_of cm' 3 rfl Mo.3 (fun _ _ _ _ _ _ us hl => match us, hl with | [_, _], _ => rfl)
    d_sub := me_of cm' 4 rfl Ms.3 (fun _ _ _ _ _ _ us hl => match us, hl with | [_, _], _ => rfl)
    d__law_row := df_mk X G c' 0 rfl rfl rfl (fun _ _ _ _ _ _ us hl => match us, hl with | [_, _], _ => rfl)
    d__law_pick := df_mk X G c' 1 rfl rfl rfl (fun _ _ _ _ _ _ us hl => match us, hl with | [_, _, _], _ => rfl)
    d__law_rules := df_mk X G c' 2 rfl rfl rfl (fun _ _ _ _ _ _ us hl => match us, hl with | [], _ => rfl)
    d__law_chosen := df_mk X G c' 3 rfl rfl rfl (fun _ _ _ _ _ _ us hl => match us, hl with | [_, _], _ => rfl)
    d__law_turned := df_mk X G c' 4 rfl rfl rfl (fun _ _ _ _ _ _ us hl => match us, hl with | [_, _, _], _ => rfl)
    d__law_holds := df_mk X G c' 5 rfl rfl rfl (fun _ _ _ _ _ _ us hl => match us, hl with | [_, _], _ => rfl)
    d__law_refused := df_mk X G c' 6 rfl rfl rfl (fun _ _ _ _ _ _ us hl => match us, hl with | [_], _ => rfl)
    d__law_wrong_names := df_mk X G c' 7 rfl rfl rfl (fun _ _ _ _ _ _ us hl => match us, hl with | [_, _], _ => rfl)
  }
  obtain ⟨oc, od, osl, kV, doc, pm, an, cdv, ct, ll, cd⟩ := c'.def_ 8 (d := Xg.fnD "law" S_law) rfl
  have k := He.keep_ok (c'.fact 43)
  have F : Fun K "law" "law" S_law (He.ga K "law") _ := fun_mk ll cd k
  exact ⟨_, fun s v => .of_eq rfl, fun base _ _ => ok_law F T⟩
end P88
open PySem PySem.W PyProof.Rows L2
set_option maxRecDepth 100000 in
set_option maxHeartbeats 0 in
theorem PySem.Challenge.cw_guestlives_k88_policies_are_sets_holds : PySem.Challenge.rw_guestlives_k88_policies_are_sets.Holds := by
  w_on; o_law; k_head; (case hw => w_witness2)
  k_fill
  refine L2.walk_ofK (n := 63) (k := 9) (CX := CX0) (sp := P88.spLaw) (x := "_law_script") rfl (by decide) rfl ⟨rfl, by decide, by decide⟩ (fun w h Y => PySem.W.kIn_of Y) ?F (fun K _ a ns hl _ hS => ⟨a, ns, rfl, hS, hl, fun _ => rfl⟩) fun _ _ _ _ z => z
  case F =>
    intro w mg fa h KX G hmg
    refine' P88.fin (l := PySem.Challenge.rw_guestlives_k88_policies_are_sets) KX G hmg ?c ?cm (Xg.stxt_mk KX G XgSup.fok_name ?gC ?iC ?cl1 ?cl2 ?sa ?ga ?gg ?noN ?tC ?kC ?exC ?veC ?tyC ?hdC ?sup ?slf ?nop ?gS ?tops ?g1 ?g2 ?g3 ?g4 ?g5 ?g6 ?g7) (Xg.excC_mk ?h1 ?h2 ?h3 ?h4 ?h5 ?h6 ?h7 ?h8)
      ?j1 ?j2 ?j3 ?j4 ?j5 ?j6 ?y1 ?y2 ?y3 ?y4 ?y5 ?y6 ?z1 ?z2 ?z3 ?z4 ?z5 ?z6 ?z7 ?z8 ?z9 ?m1 ?i5 ?i10 ?i11 ?i12
    (case gC => with_unfolding_all rfl)
    (case iC => with_unfolding_all rfl)
    (case cl1 => with_unfolding_all rfl)
    (case g1 => with_unfolding_all rfl)
    (case g3 => with_unfolding_all rfl)
    (case g4 => with_unfolding_all rfl)
    (case g6 => with_unfolding_all rfl)
    (case j1 => with_unfolding_all rfl)
    (case j2 => with_unfolding_all rfl)
    (case j3 => with_unfolding_all rfl)
    (case j4 => with_unfolding_all rfl)
    (case j5 => with_unfolding_all rfl)
    (case j6 => with_unfolding_all rfl)
    (case g7 => exact fun _ => ⟨_, rfl⟩)
    all_goals kernel_rfl
