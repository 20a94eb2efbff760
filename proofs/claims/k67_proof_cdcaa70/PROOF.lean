import PyProof.Rows.All
import Wide.All
import OpenK.AllK
import Wide.FinOn
import KE.KExcSuper
import HandS.ForMost
import HandS.ForExc
import HandS.ExcSuper
import HandS.ExcInit
import HandS.FStr
import HandS.ExcIs
import HandS.ExcField
import HandS.Evl
import HandS.Walk
import HandS.Zip
import HandS.IsInst
import KE.GoesEnum
import HandS.Strs
import HandS.SetFor
import HandS.More
import HandS.HeadHook1
import HandS.OwnIter
import HandS.IterVal
import HandS.Words
import HandS.ClsMeth
import HandS.ExcOwn
import HandS.AnyAll
import HandS.Style
import HandS.Defaults
import HandS.TupAny
import HandS.TupMul
import HandS.TupLe
import HandS.ReplaceLit
import PySem.Challenge.RW_guestlives_k67_rings_of_links_poll
import HandS.Small
set_option Elab.async false
set_option linter.all false
set_option maxRecDepth 100000
set_option maxHeartbeats 4000000
namespace XgSup
open PySem PySem.W PySem.Calls PyProof.Rows
/-! An own error class whose maker first asks its parent for a text that shows one field, then keeps the field. -/
abbrev wrapO (x : Addr) : Obj := kxs_mw "ValueError.__init__" x
section
variable {prog : Program} {w : World} {A : Around} {E : Value → Shared → Prop} {h : Heap} {g : Array GenState} {d : Drawn} {t : Nat} {os : OsState}
variable {nm q : Str} {C N : Addr} {bs bm : List Value} {hdct : Bool} {sn : List Str} {sub : List Value} {ab : Bool} {col : Option Bool} {dd : Option Addr} {k0 k1 k2 k3 k5 : Option Value}
theorem parent_call {u e t0 : Addr} {rest : List Value} {Q : Value → Shared → Prop}
    (hC : h.get? C = some (excClassObj nm q C N bs bm hdct sn sub ab col dd k0 k1 k2 k3 k5 "ValueError.__new__"))
    (he : h.get? e = some (HandSPX.excO C t0)) (hu : h.get? u = some (wrapO e)) (hrest : rest.length ≤ sizeLine)
    (hq : ∀ h' t1, (∀ b o, b ≠ e → h.get? b = some o → h'.get? b = some o) → h'.get? e = some (HandSPX.excO C t1) → Q .none ⟨h', g, d, t, os⟩) :
    wpAny (model prog w) A (call (.ref u) rest) Q E ⟨h, g, d, t, os⟩ := by
  have FB := F.excBase_ValueError
  refine wpAny_call (codeAny_of_tree ?_)
  show wpAny _ A.in1 (callAny (.ref u) ⟨rest, []⟩) _ _ _
  simp only [callAny]
  refine wpAny_bind (wpAny_load hu ?_)
  have hmw : (Value.type "method-wrapper" == Value.type "method" || Value.type "method-wrapper" == Value.type "builtin_function_or_method" || Value.type "method-wrapper" == Value.type "method-wrapper") = true := by decide
  simp only [wrapO, kxs_mw, hmw, if_true]
  refine KFB.if_so (by decide) ?_
  refine wpAny_bind (check_bound_init FB.toExcCallFacts hC he rfl ?_)
  refine wpAny_bind (wpAny_pure (wpAny_pure ?_))
  refine ⟨plainId_quiet FB.init.plain _, codeAny_builtin FB.initEntry ?_⟩
  rw [Around.under_plainId FB.init.plain _]
  wp_walk
  refine hq _ h.objs.size (fun b o hb ho => ?_) ?_
  · rw [Heap.get?_update_other _ _ (Ne.symm hb)]
    exact Heap.get?_push_of_some _ ho
  · rw [Heap.get?_update_self _ (Heap.get?_push_of_some _ he) rfl]
    rfl
end
/-! the maker's text -/
def mA (f : Str) (p1 p2 : Pos) : Arguments := { posonlyargs := [], args := [{ arg := "self", annotation := none, pos := p1 }, { arg := f, annotation := none, pos := p2 }], vararg := none, kwonlyargs := [], kw_defaults := [], kwarg := none, defaults := [] }
def mB (f txt : Str) (a1 a2 a3 a4 a5 b1 b2 b3 b4 c1 c2 c3 c4 : Pos) : List Stmt :=
  [.Expr (.Call (.Attribute (.Call (.Name "super" a1) [] [] a2) "__init__" a3) [.JoinedStr [.Constant (.str txt) 0 b1, .FormattedValue (.Name f b2) (-1) none b3] b4] [] a4) a5,
   .Assign [.Attribute (.Name "self" c1) f c2] (.Name f c3) c4]
def mS (f : Str) : Scope := { kind := .function, names := [(PySem.Str.ofString "self", .local), (f, .local), (PySem.Str.ofString "__class__", .free), (PySem.Str.ofString "super", .globalImplicit)], isGenerator := false, isCoroutine := false, more := [] }
/-- what is asked of the field's name -/
structure FOk (f : Str) : Prop where
  db : (f == ("__debug__" : Str)) = false
  lk : (mS f).names.lookup f = some .local
  ls : (mS f).names.lookup ("self" : Str) = some .local
  lc : (mS f).names.lookup ("__class__" : Str) = some .free
  lp : (mS f).names.lookup ("super" : Str) = some .globalImplicit
  ne : (f == ("self" : Str)) = false
  sn : ("self" == f) = false
  cell : ∀ x ∈ (mS f).names, x.2 ≠ .cell
  bd : ∀ (qual : Str) (p1 p2 : Pos) (body : List Stmt) (doc pm cdv ct : Value) (an : Option Addr) (cc : Addr) (u v : Value), bindArgs (ksFn "__init__" qual (mA f p1 p2) body (mS f) .none .none doc pm an cdv ct cc) ⟨[u, v], []⟩ = pure [(("self" : Str), u), (f, v)]
theorem fok_name : FOk "name" := ⟨by decide, rfl, rfl, rfl, rfl, by decide, by decide, by decide, fun _ _ _ _ _ _ _ _ _ _ _ _ => rfl⟩
theorem fok_field : FOk "field" := ⟨by decide, rfl, rfl, rfl, rfl, by decide, by decide, by decide, fun _ _ _ _ _ _ _ _ _ _ _ _ => rfl⟩
theorem fok_action : FOk "action" := ⟨by decide, rfl, rfl, rfl, rfl, by decide, by decide, by decide, fun _ _ _ _ _ _ _ _ _ _ _ _ => rfl⟩
theorem fok_reason : FOk "reason" := ⟨by decide, rfl, rfl, rfl, rfl, by decide, by decide, by decide, fun _ _ _ _ _ _ _ _ _ _ _ _ => rfl⟩
/-- the parent's call, as the text says it -/
def askE (f txt : Str) (a1 a2 a3 a4 b1 b2 b3 b4 : Pos) : Expr := .Call (.Attribute (.Call (.Name "super" a1) [] [] a2) "__init__" a3) [.JoinedStr [.Constant (.str txt) 0 b1, .FormattedValue (.Name f b2) (-1) none b3] b4] [] a4
def AskOk (qual f txt : Str) (a1 a2 a3 a4 b1 b2 b3 b4 : Pos) (fI cda cc : Addr) : Prop := ∀ L : Addr, ∃ pl : Sem Bool, eval (askE f txt a1 a2 a3 a4 b1 b2 b3 b4) (ksEnv qual (mS f) L fI (.ref cda) cc) = (do
  let ov ← attributeBase (.Call (.Name "super" a1) [] [] a2) "__init__" (ksEnv qual (mS f) L fI (.ref cda) cc) (eval (.Call (.Name "super" a1) [] [] a2) (ksEnv qual (mS f) L fI (.ref cda) cc))
  standAt a3.atName
  let (g, first) ← holding [ov] (getMethod ov "__init__" pl)
  callWith a4 g first (backTo a4 (starEach [.JoinedStr [.Constant (.str txt) 0 b1, .FormattedValue (.Name f b2) (-1) none b3] b4] (ksEnv qual (mS f) L fI (.ref cda) cc))) [])
/-- what the written part says of the class at C and of its maker at fI -/
structure STxt (prog : Program) (K : Frag) (mg : Str → Option Value) (x f txt : Str) (C fI : Addr) : Prop where
  fok : FOk f
  gC : mg x = some (.ref C)
  cls : ∃ nm q N bs bm sn sub ab col dd k0 k1 k2 k3 k5, K.lookup C = some (excClassObj nm q C N bs bm true sn sub ab col dd k0 k1 k2 k3 k5 "ValueError.__new__") ∧ HandSPX.refsVE bm = true
  sa : findIn K (.ref C) "__setattr__" = some (some (.builtin "object.__setattr__"))
  ga : findIn K (.ref C) "__getattribute__" = some (some (.builtin "BaseException.__getattribute__"))
  gg : findIn K (.ref C) "__getattr__" = some none
  noN : findIn K (.ref C) f = some none
  iC : findIn K (.ref C) "__init__" = some (some (.ref fI))
  tC : typeIn K (.ref fI) = some (.type "function")
  kC : keepIn K (.ref C) = true
  exC : subIn K (.ref C) (.type "BaseException") = some true
  veC : subIn K (.ref C) (.type "ValueError") = some true
  tyC : typeIn K (.ref C) = some (.type "type")
  hdC : hasDictIn K C = true
  sup : ks_superIn K C C "__init__" = some (some (.builtin "ValueError.__init__"))
  slf : mroIn K C (.ref C) = some true
  nop : nsIn K cStatics "thirdparty.any" = some none
  gS : mg "super" = none
  tops : (prog.main.scope.names.lookup ("super" : Str)).isSome = false
  fn : ∃ (qual : Str) (oc : Value) (od : Option Addr) (doc pm : Value) (an : Option Addr) (cda cc : Addr) (ct : Value) (osl : Array (Option Value)) (p1 p2 a1 a2 a3 a4 a5 b1 b2 b3 b4 c1 c2 c3 c4 : Pos)
      (ccl : Value) (cdd : Option Addr) (vs : Array Value) (ccs : Array (Option Value)) (file : Str) (tf : Tok) (cl : Value) (cld : Option Addr) (csl : Array (Option Value)),
    K.lookup fI = some ⟨oc, od, .func (ksFn "__init__" qual (mA f p1 p2) (mB f txt a1 a2 a3 a4 a5 b1 b2 b3 b4 c1 c2 c3 c4) (mS f) .none .none doc pm an (.ref cda) ct cc), osl⟩ ∧ codeIn K (.ref cda) qual = true ∧
    K.lookup cda = some ⟨ccl, cdd, .fields vs, ccs⟩ ∧ vs[2]? = some (.str file tf) ∧ ((prog.main.file : Str) == file) = true ∧
    K.lookup cc = some ⟨cl, cld, .cell (some (.ref C)), csl⟩ ∧ AskOk qual f txt a1 a2 a3 a4 b1 b2 b3 b4 fI cda cc
/-- what the maker leaves of a fresh error at x -/
structure MEnd (h h' : Heap) (x C dx : Addr) (f : Str) (v : Value) : Prop where
  keep : ∀ b o, b ≠ x → h.get? b = some o → h'.get? b = some o
  obj : ∃ t1 : Addr, h'.get? x = some { cls := .ref C, dict := some dx, data := .fields #[.ref t1, .none, .none, .none, .bool false, .none] }
  dbig : h.objs.size ≤ dx
  dne : dx ≠ x
  ns : h'.Ns1 dx (fun y => if y = f then some v else none)
section
variable {prog : Program} {w : World} {A : Around} {E : Value → Shared → Prop} {R : Result → Shared → Prop} {s : Shared} {K : Frag} {mg : Str → Option Value} {xn f txt : Str} {C fI : Addr} {base : Heap}
theorem maker_run (T : STxt prog K mg xn f txt C fI) (Mo : L2.Mod K mg base) {x t0 : Addr} {y : Str} {ty : Tok} (bk : ∀ b o, base.get? b = some o → s.heap.get? b = some o) (hx : s.heap.get? x = some (HandSPX.excO C t0))
    (hnx : K.lookup x = none) (hroom : A.depth < recursionLimit) (hz : y.length ≤ sizeLine) (hzt : txt.length ≤ sizeLine) (hzz : (txt ++ y).length ≤ sizeLine)
    (hq : ∀ h' tk dx, MEnd s.heap h' x C dx f (.str y ty) → R (.ok (.ret .none)) { s with heap := h', toks := tk }) :
    codeAny (model prog w) A (.call (.ref fI) ⟨[.ref x, .str y ty], []⟩) R s := by
  obtain ⟨qual, oc, od, doc, pm, an, cda, cc, ct, osl, p1, p2, a1, a2, a3, a4, a5, b1, b2, b3, b4, c1, c2, c3, c4, ccl, cdd, vs, ccs, file, tf, cl, cld, csl, ho, hcd, hcode, hvs, hfile, hcell, hask⟩ := T.fn
  obtain ⟨nm, q, N, bs, bm, sn, sub, ab, col, dd, k0, k1, k2, k3, k5, hC, hbm⟩ := T.cls
  have FO := T.fok
  have X : K.In s.heap := Mo.kin.keeps bk
  have hlim : s.heap.NoLimit := Mo.nolimit.keeps bk
  have hcl : clsIn K C = some { name := nm, bases := bs, mro := .ref C :: bm, ns := N, qualname := q, hasDict := true, slotNames := sn, subclasses := sub, abstract := ab, collection := col, hasDel := false } := by unfold clsIn; rw [hC] <;> rfl
  refine ks_codeAny_call_defAt (fd := ksFn "__init__" qual (mA f p1 p2) (mB f txt a1 a2 a3 a4 a5 b1 b2 b3 b4 c1 c2 c3 c4) (mS f) .none .none doc pm an (.ref cda) ct cc) (binds := [(("self" : Str), .ref x), (f, .str y ty)])
    hroom (X _ _ ho) rfl hlim (codeRec_of X hcd) rfl (BindsTo.of_eq ?_) FO.cell ?_ (fun h₁ hns hk₁ => ?_) rfl rfl rfl
  · exact FO.bd _ _ _ _ _ _ _ _ _ _ _ _
  · intro y hy
    rcases List.mem_cons.mp hy with rfl | hy
    · exact FO.ls
    rcases List.mem_cons.mp hy with rfl | hy
    · exact FO.lk
    · cases hy
  · have X1 : K.In h₁ := X.keeps hk₁
    have bk1 : ∀ b o, base.get? b = some o → h₁.get? b = some o := fun b o e => hk₁ b o (bk b o e)
    have hx1 := hk₁ _ _ hx
    obtain ⟨oD, hD1, hD2⟩ : ∃ oD, h₁.get? C = some oD ∧ oD.data = .cls { name := nm, bases := bs, mro := .ref C :: bm, ns := N, qualname := q, hasDict := true, slotNames := sn, subclasses := sub, abstract := ab, collection := col, hasDel := false } := ⟨_, X1 _ _ hC, rfl⟩
    have hxC : x ≠ C := fun z => by
      rw [z, hC] at hnx
      cases hnx
    have sL : s.heap.get? s.heap.objs.size = none := by
      cases z : s.heap.get? s.heap.objs.size with
      | none => rfl
      | some o => exact absurd (Heap.lt_size z) (Nat.lt_irrefl _)
    obtain ⟨mb, hb1, hb2⟩ := Mo.blt
    refine ks_wpAt_execs_cons (ks_wpAt_Expr_any ?_)
    obtain ⟨pl, hpl⟩ := hask s.heap.objs.size
    refine ks_wpAt_MethodCall (pl := pl) ?_ hpl
    refine ks_wpAt_super_base FO.lp FO.lc (by decide) rfl (X1 _ _ ho) rfl rfl rfl (X1 _ _ hcode) rfl hvs hfile T.tops ?_
    refine ks_loadName_global rfl FO.lp (loadGlobal_builtin (Mo.glob.keeps bk1) T.gS (hb1.keeps bk1) ((hb2 _ (by decide)).trans (by decide +kernel)) ⟨rfl, ?_⟩)
    refine wpAny_loadName_free rfl FO.lc rfl ⟨_, X1 _ _ hcell, rfl⟩ ?_
    refine wpAny_loadName_local rfl FO.ls hns (v := .ref x) ?_ ?_
    · show List.lookup ("self" : Str) [(f, Value.str y ty), (("self" : Str), Value.ref x)] = some (Value.ref x)
      simp [List.lookup, FO.sn]
    refine ks_wpAny_isType_cls hD1 hD2 ⟨rfl, ?_⟩
    refine ks_wpAny_call_super hD1 hD2 hx1 rfl (fun c z => nomatch z) (looks_mroIn X1 T.slf) (fun h2 e2 k2 => ?_)
    have X2 : K.In h2 := X1.keeps k2
    have hx2 := k2 _ _ hx1
    have I2 : InstAt h2 x (HandSPX.excO C t0) C none := ⟨hx2, rfl, rfl, trivial⟩
    have hal : alongIn K "__init__" (((Value.ref C :: bm).dropWhile (· != .ref C)).drop 1) = some (some (.builtin "ValueError.__init__")) := by
      have z := T.sup
      unfold ks_superIn at z
      rw [hcl] at z
      exact z
    refine kxs_getMethod kxs_ValueError e2 (looks_opaque X2 T.nop) (l₀ := .ref C :: bm) (fun A Q E s k q => wpAny_bind ((looks_clsIn X2 hcl) A _ E s k (wpAny_pure q))) rfl X2 hal (I2.type.andThen (looks_subIn X2 T.veC)) hxC (by decide) ?_
    have k3 : ∀ b o, h2.get? b = some o → (h2.push (wrapO x)).get? b = some o := fun b o e => Heap.get?_push_of_some _ e
    have hu3 : (h2.push (wrapO x)).get? h2.objs.size = some (wrapO x) := Heap.get?_push_at rfl rfl
    have k13 : ∀ b o, h₁.get? b = some o → (h2.push (wrapO x)).get? b = some o := fun b o e => k3 b o (k2 b o e)
    have hns3 := hns.keeps k13
    have hx3 := k3 _ _ hx2
    have hC3 := k13 _ _ (X1 _ _ hC)
    refine kxs_callWith (i := "ValueError.__init__") (x := x) rfl (evalArgs_plain ?_)
    refine PyProof.Rows.spliced_more (e := .JoinedStr [.Constant (.str txt) 0 b1, .FormattedValue (.Name f b2) (-1) none b3] b4) (rest := []) (env := ksEnv qual (mS f) s.heap.objs.size fI (.ref cda) cc) (pos := a4) ?_
    refine wpAny_JoinedStr ?_
    show Joins _ _ _ [eval (.Constant (.str txt) 0 b1) _, eval (.FormattedValue (.Name f b2) (-1) none b3) _] Str.empty _ _
    refine Calls.Constant_str ⟨txt, _, rfl, ?_, ?_⟩
    · show (Str.empty ++ txt).length ≤ sizeLine
      have z : (Str.empty ++ txt).length = txt.length := by
        show (Str.empty ++ txt).cps.size = txt.cps.size
        show (Str.empty.cps ++ txt.cps).size = txt.cps.size
        rw [Array.size_append]
        exact Nat.zero_add _
      rw [z]
      exact hzt
    have zz : (Str.empty ++ txt ++ y).length ≤ sizeLine := by
      have e : Str.empty ++ txt = txt := by
        show (⟨Str.empty.cps ++ txt.cps⟩ : Str) = txt
        have e2 : Str.empty.cps ++ txt.cps = txt.cps := Array.empty_append
        rw [e2]
      rw [e]
      exact hzz
    refine wpAny_FormattedValue_plain (ESX.ldL (m := fun y' => [(("self" : Str), Value.ref x), (f, .str y ty)].reverse.lookup y') (hns3) (v := .str y ty) ?_ ?_ rfl FO.lk FO.db)
    · show List.lookup f [(f, Value.str y ty), (("self" : Str), Value.ref x)] = some (Value.str y ty)
      simp [List.lookup]
    refine wpAny_formatField_str ⟨y, _, rfl, zz, zz, ?_⟩ ⟨y, _, rfl, zz, zz, ?_⟩ hz
    all_goals
      refine PyProof.Rows.spliced_none ⟨hu3, ?_⟩
      refine parent_call hC3 hx3 hu3 (by rw [sizeLine_eq]; show 1 ≤ 16777216; decide) (fun h4 t1 k4 hx4 => ?_)
      have Lx : s.heap.objs.size ≠ x := Nat.ne_of_gt (Heap.lt_size hx)
      have hns4 : h4.Ns s.heap.objs.size (fun y' => [(("self" : Str), Value.ref x), (f, Value.str y ty)].reverse.lookup y') := by
        obtain ⟨oL, es, ep, hL, r⟩ := hns3
        exact ⟨oL, es, ep, k4 _ _ Lx hL, r⟩
      have X4 : K.In h4 := fun b o e => k4 b o (fun z => by rw [z, hnx] at e; cases e) (k13 _ _ (X1 b o e))
      refine wpAt_of_wpAny (wpAny_execs_cons (plainObj_wpAny_Assign_Attribute ?_))
      refine ESX.ldL hns4 (v := .str y ty) (by show List.lookup f [(f, Value.str y ty), (("self" : Str), Value.ref x)] = some (Value.str y ty); simp [List.lookup]) ?_ rfl FO.lk FO.db
      refine ESX.ldL hns4 (v := .ref x) (by show List.lookup ("self" : Str) [(f, Value.str y ty), (("self" : Str), Value.ref x)] = some (Value.ref x); simp [List.lookup, FO.sn]) ?_ rfl FO.ls (by decide)
      refine set_plain X4 (ox := HandSPX.excO C t1) (od := none) ⟨hx4, rfl, rfl, trivial⟩ T.sa ?_
      refine HandSPX.exc_osa X4 hx4 hcl (show HandSPX.refsVE (.ref C :: bm) = true from hbm) rfl T.noN (fun h5 tk5 dx k5 dn dne hx5 hn5 => ?_)
      refine wpAny_execs_nil (hq h5 tk5 dx ⟨fun b o hb e => k5 b o hb (k4 b o hb (k13 _ _ (hk₁ b o e))), ⟨t1, hx5⟩, ?_, dne, hn5⟩)
      have z1 : s.heap.objs.size < h4.objs.size := hns4.lt
      exact Nat.le_of_lt (Nat.lt_of_lt_of_le z1 dn)
/-- an error of C that has just been made: at e, its own dict at d -/
structure MMade (h h' : Heap) (e C d : Addr) (f : Str) (v : Value) : Prop where
  keep : ∀ b o, h.get? b = some o → h'.get? b = some o
  new : h.objs.size ≤ e
  obj : ∃ oe vs, h'.get? e = some oe ∧ oe.cls = .ref C ∧ oe.dict = some d ∧ oe.data = .fields vs ∧ vs[1]? = some .none
  dbig : h.objs.size ≤ d
  dne : d ≠ e
  ns : h'.Ns1 d (fun y => if y = f then some v else none)
theorem made_run (T : STxt prog K mg xn f txt C fI) (Mo : L2.Mod K mg base) {y : Str} {ty : Tok} (bk : ∀ b o, base.get? b = some o → s.heap.get? b = some o) (hroom : A.depth + 1 < recursionLimit)
    (hz : y.length ≤ sizeLine) (hzt : txt.length ≤ sizeLine) (hzz : (txt ++ y).length ≤ sizeLine)
    (hq : ∀ h' tk e d, MMade s.heap h' e C d f (.str y ty) → R (.ok (.ret (.ref e))) { s with heap := h', toks := tk }) :
    codeAny (model prog w) A (.call (.ref C) ⟨[.str y ty], []⟩) R s := by
  obtain ⟨nm, q, N, bs, bm, sn, sub, ab, col, dd, k0, k1, k2, k3, k5, hC, hbm⟩ := T.cls
  have X : K.In s.heap := Mo.kin.keeps bk
  obtain ⟨hp, g, dr, tk, os⟩ := s
  have old : ∀ b o, hp.get? b = some o → ((hp.push (kdv_tup [Value.str y ty])).push (HandSPX.excO C hp.objs.size)).get? b = some o := fun b o e => Heap.get?_push_of_some _ (Heap.get?_push_of_some _ e)
  have at_e : ((hp.push (kdv_tup [Value.str y ty])).push (HandSPX.excO C hp.objs.size)).get? (hp.objs.size + 1) = some (HandSPX.excO C hp.objs.size) := by heap_get
  have noK : K.lookup (hp.objs.size + 1) = none := by
    cases e : K.lookup (hp.objs.size + 1) with
    | none => rfl
    | some o =>
      have z : hp.get? (hp.objs.size + 1) = some o := X _ _ e
      exact absurd (Nat.lt_of_succ_lt (Heap.lt_size z)) (Nat.lt_irrefl _)
  refine HandSPX.call_own F.excBase_ValueError (fun X => HandSPX.refsVE_contains X bm hbm) (X _ _ hC) (looks_findIn X T.iC) (fun self => bind_fn X self T.tC) (by rw [sizeLine_eq]; show 1 ≤ 16777216; decide) ?_
  refine maker_run (s := ⟨(hp.push (kdv_tup [Value.str y ty])).push (HandSPX.excO C hp.objs.size), g, dr, tk, os⟩) T Mo (fun b o e => old b o (bk b o e)) at_e noK ?_ hz hzt hzz fun h' tk' dx M => ?_
  · show A.depth + 1 < recursionLimit
    exact hroom
  · have keep : ∀ b o, hp.get? b = some o → h'.get? b = some o := fun b o e => M.keep b o (Nat.ne_of_lt (Nat.lt_succ_of_lt (Heap.lt_size e))) (old b o e)
    have z : hp.objs.size + 1 + 1 ≤ dx := by
      have zz := M.dbig
      rw [Heap.size_push, Heap.size_push] at zz
      exact zz
    obtain ⟨t1, ho⟩ := M.obj
    exact ⟨rfl, hq h' tk' (hp.objs.size + 1) dx ⟨keep, Nat.le_succ _, ⟨_, _, ho, rfl, rfl, rfl, rfl⟩, Nat.le_trans (Nat.le_trans (Nat.le_succ _) (Nat.le_succ _)) z, M.dne, M.ns⟩⟩
end
end XgSup
namespace XgSup
open PySem L2 PySem.Spec PyProof.Rows
theorem relO_one {v : V} {v' : Value} (r : RelV v v') (f g : Str) : RelO (List.lookup g [(f, v)]) (if g = f then some v' else none) := by
  by_cases hw : g = f
  · subst hw
    rw [if_pos rfl]
    have q : List.lookup g [(g, v)] = some v := by simp [List.lookup]
    rw [q]
    exact r
  · rw [if_neg hw]
    have qw : (g == f) = false := by simpa using hw
    have q2 : List.lookup g [(f, v)] = none := by simp [List.lookup, qw]
    rw [q2]
    trivial
section
variable {X : Cx} {C fI : Addr} {xn f txt : Str}
/-- C(e), e a text -/
def tMkS (C : Addr) (f : Str) (ta : TA) : L2.St → Hp → XK → Prop := fun σ H Q => ta σ H fun vs H1 => ∃ y : Str, vs = [.str y] ∧ y.length ≤ 100000 ∧ ∀ d, H1 d = none → Q (.ref C) (some d) (upd H1 d (.xd [(f, .str y)]))
theorem pmk_sup {a : Expr} {ta : TA} {p pos : Pos} {k : Nat} (T : STxt X.prog X.K X.mg xn f txt C fI) (hlt : txt.length ≤ 100000) (hr : Room k X.A) (ha : PA X [a] ta) (hg : Gl X xn)
    (hdb : (xn == ("__debug__" : Str)) = false := by decide)
    (he : starEach (a :: []) X.env = (false, eval a X.env) :: starEach [] X.env := by rfl) (hpl : (backTo pos (starEach [] X.env)).any (·.1) = false := by rfl) :
    PMk X (.Call (.Name xn p) [a] [] pos) (tMkS C f ta) := by
  intro pins s σ H Q I h
  refine wpAny_Call_Name_kw (ld_glob I hg T.gC ?_ hdb)
  refine PySem.W.callWith_K (h₀ := X.base) I.ok.mod.kin T.kC (thn (ha.run pos pins s σ H _ I h) fun us s1 hh => ?_) he hpl
  obtain ⟨vs, H1, I1, r1, y, ev, hy, q1⟩ := hh
  subst ev
  refine ⟨I1.kIn, ?_⟩
  cases r1 with
  | cons rv rn =>
    rename_i v' us'
    cases rn
    obtain ⟨ty, rfl⟩ := rv
    show wpAny _ _ (call (.ref C) [_]) _ _ _
    have bk1 := I1.bk
    obtain ⟨hp, g, dr, tk, os⟩ := s1
    have zy : y.length ≤ sizeLine := by rw [sizeLine_eq]; omega
    have zt : txt.length ≤ sizeLine := by rw [sizeLine_eq]; omega
    have zz : (txt ++ y).length ≤ sizeLine := by
      have e : (txt ++ y).length = txt.length + y.length := by
        show (txt.cps ++ y.cps).size = txt.cps.size + y.cps.size
        exact Array.size_append
      rw [e, sizeLine_eq]
      omega
    refine wpAny_call (made_run T I1.mod bk1 (by have := hr.dp; omega) zy zt zz fun h' tk' e d M => ?_)
    show MkP X pins σ Q (.ref e) ⟨h', g, dr, tk', os⟩
    obtain ⟨oe, fv, hoe, hc, hd, hdat, h1⟩ := M.obj
    have hns := M.ns
    obtain ⟨G', g1, g2⟩ := restrict h' fun b => decide (b ≠ e)
    have gk : ∀ b, b ≠ e → G'.get? b = h'.get? b := fun b hb => g1 b (decide_eq_true hb)
    have ge : G'.get? e = none := g2 e (by simp)
    have old : ∀ b o, hp.get? b = some o → G'.get? b = some o := fun b o q => (gk b (Nat.ne_of_lt (Nat.lt_of_lt_of_le (Heap.lt_size q) M.new))).trans (M.keep b o q)
    have ob : ObjOk X.prog X.w (upd H1 d (.xd [(f, V.str y)])) G' d (.xd [(f, V.str y)]) :=
      ⟨_, hns.at (fun o q => (gk d M.dne).trans q), fun g' => relO_one (v := V.str y) (v' := Value.str y ty) (show RelV (V.str y) (Value.str y ty) from ⟨ty, rfl⟩) f g'⟩
    have J : Inv X pins σ (upd H1 d (.xd [(f, V.str y)])) ⟨G', g, dr, tk', os⟩ := I1.laid (t' := tk') old M.dbig ob
    refine ⟨e, oe, fv, ⟨G', g, dr, tk', os⟩, _, .ref C, some d, rfl, J, fun b o q => ?_, ge, hoe, ⟨hc, hd⟩, hdat, h1, ?_, rfl, I1.bare, raises_own T.exC T.tyC, q1 d (I1.hok.fresh M.dbig)⟩
    · by_cases hb : b = e
      · have q' : G'.get? b = some o := q
        rw [hb, ge] at q'; cases q'
      · exact (gk b hb).symm.trans q
    · rw [upd_ne (Ne.symm M.dne)]
      exact I1.hok.fresh M.new
end
end XgSup
/-! An own error class whose maker asks its parent for a text that shows two numbers, then keeps both: line, column. -/
namespace XgSup2
open PySem PySem.W PySem.Calls PyProof.Rows XgSup
abbrev fL : Str := "line"
abbrev fC : Str := "column"
abbrev tA : Str := "the text is wrong in line "
abbrev tB : Str := " at column "
def mA (p1 p2 p3 : Pos) : Arguments := { posonlyargs := [], args := [{ arg := "self", annotation := none, pos := p1 }, { arg := fL, annotation := none, pos := p2 }, { arg := fC, annotation := none, pos := p3 }], vararg := none, kwonlyargs := [], kw_defaults := [], kwarg := none, defaults := [] }
def askE (a1 a2 a3 a4 b1 b2 b3 b4 b5 b6 b7 : Pos) : Expr := .Call (.Attribute (.Call (.Name "super" a1) [] [] a2) "__init__" a3) [.JoinedStr [.Constant (.str tA) 0 b1, .FormattedValue (.Name fL b2) (-1) none b3, .Constant (.str tB) 0 b4, .FormattedValue (.Name fC b5) (-1) none b6] b7] [] a4
def mB (a1 a2 a3 a4 a5 b1 b2 b3 b4 b5 b6 b7 c1 c2 c3 c4 d1 d2 d3 d4 : Pos) : List Stmt :=
  [.Expr (askE a1 a2 a3 a4 b1 b2 b3 b4 b5 b6 b7) a5, .Assign [.Attribute (.Name "self" c1) fL c2] (.Name fL c3) c4, .Assign [.Attribute (.Name "self" d1) fC d2] (.Name fC d3) d4]
def mS : Scope := { kind := .function, names := [(PySem.Str.ofString "self", .local), (fL, .local), (fC, .local), (PySem.Str.ofString "__class__", .free), (PySem.Str.ofString "super", .globalImplicit)], isGenerator := false, isCoroutine := false, more := [] }
theorem mS_cell : ∀ x ∈ mS.names, x.2 ≠ .cell := by decide
def AskOk (qual : Str) (a1 a2 a3 a4 b1 b2 b3 b4 b5 b6 b7 : Pos) (fI cda cc : Addr) : Prop := ∀ L : Addr, ∃ pl : Sem Bool, eval (askE a1 a2 a3 a4 b1 b2 b3 b4 b5 b6 b7) (ksEnv qual mS L fI (.ref cda) cc) = (do
  let ov ← attributeBase (.Call (.Name "super" a1) [] [] a2) "__init__" (ksEnv qual mS L fI (.ref cda) cc) (eval (.Call (.Name "super" a1) [] [] a2) (ksEnv qual mS L fI (.ref cda) cc))
  standAt a3.atName
  let (g, first) ← holding [ov] (getMethod ov "__init__" pl)
  callWith a4 g first (backTo a4 (starEach [.JoinedStr [.Constant (.str tA) 0 b1, .FormattedValue (.Name fL b2) (-1) none b3, .Constant (.str tB) 0 b4, .FormattedValue (.Name fC b5) (-1) none b6] b7] (ksEnv qual mS L fI (.ref cda) cc))) [])
/-- what the written part says of the class at C and of its maker at fI -/
structure STxt (prog : Program) (K : Frag) (mg : Str → Option Value) (x : Str) (C fI : Addr) : Prop where
  gC : mg x = some (.ref C)
  cls : ∃ nm q N bs bm sn sub ab col dd k0 k1 k2 k3 k5, K.lookup C = some (excClassObj nm q C N bs bm true sn sub ab col dd k0 k1 k2 k3 k5 "ValueError.__new__") ∧ HandSPX.refsVE bm = true
  sa : findIn K (.ref C) "__setattr__" = some (some (.builtin "object.__setattr__"))
  ga : findIn K (.ref C) "__getattribute__" = some (some (.builtin "BaseException.__getattribute__"))
  gg : findIn K (.ref C) "__getattr__" = some none
  noL : findIn K (.ref C) fL = some none
  noC : findIn K (.ref C) fC = some none
  iC : findIn K (.ref C) "__init__" = some (some (.ref fI))
  tC : typeIn K (.ref fI) = some (.type "function")
  kC : keepIn K (.ref C) = true
  exC : subIn K (.ref C) (.type "BaseException") = some true
  veC : subIn K (.ref C) (.type "ValueError") = some true
  tyC : typeIn K (.ref C) = some (.type "type")
  hdC : hasDictIn K C = true
  sup : ks_superIn K C C "__init__" = some (some (.builtin "ValueError.__init__"))
  slf : mroIn K C (.ref C) = some true
  nop : nsIn K cStatics "thirdparty.any" = some none
  gS : mg "super" = none
  tops : (prog.main.scope.names.lookup ("super" : Str)).isSome = false
  fn : ∃ (qual : Str) (oc : Value) (od : Option Addr) (doc pm : Value) (an : Option Addr) (cda cc : Addr) (ct : Value) (osl : Array (Option Value)) (p1 p2 p3 a1 a2 a3 a4 a5 b1 b2 b3 b4 b5 b6 b7 c1 c2 c3 c4 d1 d2 d3 d4 : Pos)
      (ccl : Value) (cdd : Option Addr) (vs : Array Value) (ccs : Array (Option Value)) (file : Str) (tf : Tok) (cl : Value) (cld : Option Addr) (csl : Array (Option Value)),
    K.lookup fI = some ⟨oc, od, .func (ksFn "__init__" qual (mA p1 p2 p3) (mB a1 a2 a3 a4 a5 b1 b2 b3 b4 b5 b6 b7 c1 c2 c3 c4 d1 d2 d3 d4) mS .none .none doc pm an (.ref cda) ct cc), osl⟩ ∧ codeIn K (.ref cda) qual = true ∧
    K.lookup cda = some ⟨ccl, cdd, .fields vs, ccs⟩ ∧ vs[2]? = some (.str file tf) ∧ ((prog.main.file : Str) == file) = true ∧
    K.lookup cc = some ⟨cl, cld, .cell (some (.ref C)), csl⟩ ∧ AskOk qual a1 a2 a3 a4 b1 b2 b3 b4 b5 b6 b7 fI cda cc
/-- both kept -/
def two (u v : Value) : Str → Option Value := fun y => if y = fC then some v else if y = fL then some u else none
/-- what the maker leaves of a fresh error at x -/
structure MEnd (h h' : Heap) (x C dx : Addr) (u v : Value) : Prop where
  keep : ∀ b o, b ≠ x → h.get? b = some o → h'.get? b = some o
  obj : ∃ t1 : Addr, h'.get? x = some { cls := .ref C, dict := some dx, data := .fields #[.ref t1, .none, .none, .none, .bool false, .none] }
  dbig : h.objs.size ≤ dx
  dne : dx ≠ x
  ns : h'.Ns1 dx (two u v)
section
variable {prog : Program} {w : World} {A : Around} {E : Value → Shared → Prop} {R : Result → Shared → Prop} {s : Shared} {K : Frag} {mg : Str → Option Value} {xn : Str} {C fI : Addr} {base : Heap}
theorem maker_run (T : STxt prog K mg xn C fI) (Mo : L2.Mod K mg base) {x t0 : Addr} {i j : Int} {ti tj : Tok} (bk : ∀ b o, base.get? b = some o → s.heap.get? b = some o) (hx : s.heap.get? x = some (HandSPX.excO C t0))
    (hnx : K.lookup x = none) (hroom : A.depth < recursionLimit) (hi : i.natAbs.log2 < 1920) (hj : j.natAbs.log2 < 1920) (z1 : (Str.empty ++ tA).length ≤ sizeLine) (z2 : (Str.empty ++ tA ++ (toString i : String)).length ≤ sizeLine) (z3 : (Str.empty ++ tA ++ (toString i : String) ++ tB).length ≤ sizeLine) (z4 : (Str.empty ++ tA ++ (toString i : String) ++ tB ++ (toString j : String)).length ≤ sizeLine)
    (hq : ∀ h' tk dx, MEnd s.heap h' x C dx (.int i ti) (.int j tj) → R (.ok (.ret .none)) { s with heap := h', toks := tk }) :
    codeAny (model prog w) A (.call (.ref fI) ⟨[.ref x, .int i ti, .int j tj], []⟩) R s := by
  obtain ⟨qual, oc, od, doc, pm, an, cda, cc, ct, osl, p1, p2, p3, a1, a2, a3, a4, a5, b1, b2, b3, b4, b5, b6, b7, c1, c2, c3, c4, d1, d2, d3, d4, ccl, cdd, vs, ccs, file, tf, cl, cld, csl, ho, hcd, hcode, hvs, hfile, hcell, hask⟩ := T.fn
  obtain ⟨nm, q, N, bs, bm, sn, sub, ab, col, dd, k0, k1, k2, k3, k5, hC, hbm⟩ := T.cls
  have X : K.In s.heap := Mo.kin.keeps bk
  have hlim : s.heap.NoLimit := Mo.nolimit.keeps bk
  have hcl : clsIn K C = some { name := nm, bases := bs, mro := .ref C :: bm, ns := N, qualname := q, hasDict := true, slotNames := sn, subclasses := sub, abstract := ab, collection := col, hasDel := false } := by unfold clsIn; rw [hC] <;> rfl
  refine ks_codeAny_call_defAt (fd := ksFn "__init__" qual (mA p1 p2 p3) (mB a1 a2 a3 a4 a5 b1 b2 b3 b4 b5 b6 b7 c1 c2 c3 c4 d1 d2 d3 d4) mS .none .none doc pm an (.ref cda) ct cc) (binds := [(("self" : Str), .ref x), (fL, .int i ti), (fC, .int j tj)])
    hroom (X _ _ ho) rfl hlim (codeRec_of X hcd) rfl (BindsTo.of_eq ?_) mS_cell ?_ (fun h₁ hns hk₁ => ?_) rfl rfl rfl
  · rfl
  · intro y hy
    rcases List.mem_cons.mp hy with rfl | hy
    · rfl
    rcases List.mem_cons.mp hy with rfl | hy
    · rfl
    rcases List.mem_cons.mp hy with rfl | hy
    · rfl
    · cases hy
  · have X1 : K.In h₁ := X.keeps hk₁
    have bk1 : ∀ b o, base.get? b = some o → h₁.get? b = some o := fun b o e => hk₁ b o (bk b o e)
    have hx1 := hk₁ _ _ hx
    obtain ⟨oD, hD1, hD2⟩ : ∃ oD, h₁.get? C = some oD ∧ oD.data = .cls { name := nm, bases := bs, mro := .ref C :: bm, ns := N, qualname := q, hasDict := true, slotNames := sn, subclasses := sub, abstract := ab, collection := col, hasDel := false } := ⟨_, X1 _ _ hC, rfl⟩
    have hxC : x ≠ C := fun z => by
      rw [z, hC] at hnx
      cases hnx
    have sL : s.heap.get? s.heap.objs.size = none := by
      cases z : s.heap.get? s.heap.objs.size with
      | none => rfl
      | some o => exact absurd (Heap.lt_size z) (Nat.lt_irrefl _)
    obtain ⟨mb, hb1, hb2⟩ := Mo.blt
    refine ks_wpAt_execs_cons (ks_wpAt_Expr_any ?_)
    obtain ⟨pl, hpl⟩ := hask s.heap.objs.size
    refine ks_wpAt_MethodCall (pl := pl) ?_ hpl
    refine ks_wpAt_super_base rfl rfl (by decide) rfl (X1 _ _ ho) rfl rfl rfl (X1 _ _ hcode) rfl hvs hfile T.tops ?_
    refine ks_loadName_global rfl rfl (loadGlobal_builtin (Mo.glob.keeps bk1) T.gS (hb1.keeps bk1) ((hb2 _ (by decide)).trans (by decide +kernel)) ⟨rfl, ?_⟩)
    refine wpAny_loadName_free rfl rfl rfl ⟨_, X1 _ _ hcell, rfl⟩ ?_
    refine wpAny_loadName_local rfl rfl hns (v := .ref x) ?_ ?_
    · show List.lookup ("self" : Str) [(fC, Value.int j tj), (fL, Value.int i ti), (("self" : Str), Value.ref x)] = some (Value.ref x)
      rfl
    refine ks_wpAny_isType_cls hD1 hD2 ⟨rfl, ?_⟩
    refine ks_wpAny_call_super hD1 hD2 hx1 rfl (fun c z => nomatch z) (looks_mroIn X1 T.slf) (fun h2 e2 k2 => ?_)
    have X2 : K.In h2 := X1.keeps k2
    have hx2 := k2 _ _ hx1
    have I2 : InstAt h2 x (HandSPX.excO C t0) C none := ⟨hx2, rfl, rfl, trivial⟩
    have hal : alongIn K "__init__" (((Value.ref C :: bm).dropWhile (· != .ref C)).drop 1) = some (some (.builtin "ValueError.__init__")) := by
      have z := T.sup
      unfold ks_superIn at z
      rw [hcl] at z
      exact z
    refine kxs_getMethod kxs_ValueError e2 (looks_opaque X2 T.nop) (l₀ := .ref C :: bm) (fun A Q E s k q => wpAny_bind ((looks_clsIn X2 hcl) A _ E s k (wpAny_pure q))) rfl X2 hal (I2.type.andThen (looks_subIn X2 T.veC)) hxC (by decide) ?_
    have k3 : ∀ b o, h2.get? b = some o → (h2.push (wrapO x)).get? b = some o := fun b o e => Heap.get?_push_of_some _ e
    have hu3 : (h2.push (wrapO x)).get? h2.objs.size = some (wrapO x) := Heap.get?_push_at rfl rfl
    have k13 : ∀ b o, h₁.get? b = some o → (h2.push (wrapO x)).get? b = some o := fun b o e => k3 b o (k2 b o e)
    have hns3 := hns.keeps k13
    have hx3 := k3 _ _ hx2
    have hC3 := k13 _ _ (X1 _ _ hC)
    refine kxs_callWith (i := "ValueError.__init__") (x := x) rfl (evalArgs_plain ?_)
    refine PyProof.Rows.spliced_more (e := .JoinedStr [.Constant (.str tA) 0 b1, .FormattedValue (.Name fL b2) (-1) none b3, .Constant (.str tB) 0 b4, .FormattedValue (.Name fC b5) (-1) none b6] b7) (rest := []) (env := ksEnv qual mS s.heap.objs.size fI (.ref cda) cc) (pos := a4) ?_
    refine wpAny_JoinedStr ?_
    show Joins _ _ _ [eval (.Constant (.str tA) 0 b1) _, eval (.FormattedValue (.Name fL b2) (-1) none b3) _, eval (.Constant (.str tB) 0 b4) _, eval (.FormattedValue (.Name fC b5) (-1) none b6) _] Str.empty _ _
    refine Calls.Constant_str ⟨tA, _, rfl, z1, ?_⟩
    refine wpAny_FormattedValue_plain (ESX.ldL (m := fun y' => [(("self" : Str), Value.ref x), (fL, .int i ti), (fC, .int j tj)].reverse.lookup y') (hns3) (v := .int i ti) rfl ?_ rfl rfl (by decide))
    refine wpAny_formatField_int hi ⟨_, _, rfl, z2, ?_⟩
    refine Calls.Constant_str ⟨tB, _, rfl, z3, ?_⟩
    refine wpAny_FormattedValue_plain (ESX.ldL (m := fun y' => [(("self" : Str), Value.ref x), (fL, .int i ti), (fC, .int j tj)].reverse.lookup y') (hns3) (v := .int j tj) rfl ?_ rfl rfl (by decide))
    refine wpAny_formatField_int hj ⟨_, _, rfl, z4, z4, ?_⟩
    all_goals
      refine PyProof.Rows.spliced_none ⟨hu3, ?_⟩
      refine parent_call hC3 hx3 hu3 (by rw [sizeLine_eq]; show 1 ≤ 16777216; decide) (fun h4 t1 k4 hx4 => ?_)
      have Lx : s.heap.objs.size ≠ x := Nat.ne_of_gt (Heap.lt_size hx)
      have hns4 : h4.Ns s.heap.objs.size (fun y' => [(("self" : Str), Value.ref x), (fL, Value.int i ti), (fC, Value.int j tj)].reverse.lookup y') := by
        obtain ⟨oL, es, ep, hL, r⟩ := hns3
        exact ⟨oL, es, ep, k4 _ _ Lx hL, r⟩
      have X4 : K.In h4 := fun b o e => k4 b o (fun z => by rw [z, hnx] at e; cases e) (k13 _ _ (X1 b o e))
      refine wpAt_of_wpAny (wpAny_execs_cons (plainObj_wpAny_Assign_Attribute ?_))
      refine ESX.ldL hns4 (v := .int i ti) rfl ?_ rfl rfl (by decide)
      refine ESX.ldL hns4 (v := .ref x) rfl ?_ rfl rfl (by decide)
      refine set_plain X4 (ox := HandSPX.excO C t1) (od := none) ⟨hx4, rfl, rfl, trivial⟩ T.sa ?_
      refine HandSPX.exc_osa X4 hx4 hcl (show HandSPX.refsVE (.ref C :: bm) = true from hbm) rfl T.noL (fun h5 tk5 dx k5 dn dne hx5 hn5 => ?_)
      have hns5 : h5.Ns s.heap.objs.size (fun y' => [(("self" : Str), Value.ref x), (fL, Value.int i ti), (fC, Value.int j tj)].reverse.lookup y') := by
        obtain ⟨oL, es, ep, hL, r⟩ := hns4
        exact ⟨oL, es, ep, k5 _ _ Lx hL, r⟩
      have X5 : K.In h5 := fun b o e => k5 b o (fun z => by rw [z, hnx] at e; cases e) (X4 b o e)
      obtain ⟨oD5, es5, ep5, hoD5, r5⟩ := id hn5
      refine wpAny_execs_cons (plainObj_wpAny_Assign_Attribute ?_)
      refine ESX.ldL hns5 (v := .int j tj) rfl ?_ rfl rfl (by decide)
      refine ESX.ldL hns5 (v := .ref x) rfl ?_ rfl rfl (by decide)
      refine set_plain X5 (ox := { cls := .ref C, dict := some dx, data := .fields #[.ref t1, .none, .none, .none, .bool false, .none] }) (od := some oD5) ⟨hx5, rfl, rfl, hoD5⟩ T.sa ?_
      refine PySem.OEX.osa_old X5 hx5 hn5 (nl := [fL]) (Within.cons fL _ Within.nil) (by decide) hcl (show HandSPX.refsVE (.ref C :: bm) = true from hbm) rfl T.noC (fun h6 tk6 k6 hn6 => ?_)
      refine wpAny_execs_nil (hq h6 tk6 dx ⟨fun b o hb e => k6 b o (fun z => ?_) (k5 b o hb (k4 b o hb (k13 _ _ (hk₁ b o e)))), ⟨t1, k6 _ _ (Ne.symm dne) hx5⟩, ?_, dne, hn6⟩)
      · have z1 : s.heap.objs.size < h4.objs.size := hns4.lt
        rw [z] at e
        exact absurd (Nat.lt_of_lt_of_le (Nat.lt_trans (Heap.lt_size e) z1) dn) (Nat.lt_irrefl _)
      · have z1 : s.heap.objs.size < h4.objs.size := hns4.lt
        exact Nat.le_of_lt (Nat.lt_of_lt_of_le z1 dn)
/-- an error of C that has just been made: at e, its own dict at d -/
structure MMade (h h' : Heap) (e C d : Addr) (u v : Value) : Prop where
  keep : ∀ b o, h.get? b = some o → h'.get? b = some o
  new : h.objs.size ≤ e
  obj : ∃ oe vs, h'.get? e = some oe ∧ oe.cls = .ref C ∧ oe.dict = some d ∧ oe.data = .fields vs ∧ vs[1]? = some .none
  dbig : h.objs.size ≤ d
  dne : d ≠ e
  ns : h'.Ns1 d (two u v)
theorem made_run (T : STxt prog K mg xn C fI) (Mo : L2.Mod K mg base) {i j : Int} {ti tj : Tok} (bk : ∀ b o, base.get? b = some o → s.heap.get? b = some o) (hroom : A.depth + 1 < recursionLimit)
    (hi : i.natAbs.log2 < 1920) (hj : j.natAbs.log2 < 1920) (z1 : (Str.empty ++ tA).length ≤ sizeLine) (z2 : (Str.empty ++ tA ++ (toString i : String)).length ≤ sizeLine) (z3 : (Str.empty ++ tA ++ (toString i : String) ++ tB).length ≤ sizeLine) (z4 : (Str.empty ++ tA ++ (toString i : String) ++ tB ++ (toString j : String)).length ≤ sizeLine)
    (hq : ∀ h' tk e d, MMade s.heap h' e C d (.int i ti) (.int j tj) → R (.ok (.ret (.ref e))) { s with heap := h', toks := tk }) :
    codeAny (model prog w) A (.call (.ref C) ⟨[.int i ti, .int j tj], []⟩) R s := by
  obtain ⟨nm, q, N, bs, bm, sn, sub, ab, col, dd, k0, k1, k2, k3, k5, hC, hbm⟩ := T.cls
  have X : K.In s.heap := Mo.kin.keeps bk
  obtain ⟨hp, g, dr, tk, os⟩ := s
  have old : ∀ b o, hp.get? b = some o → ((hp.push (kdv_tup [Value.int i ti, Value.int j tj])).push (HandSPX.excO C hp.objs.size)).get? b = some o := fun b o e => Heap.get?_push_of_some _ (Heap.get?_push_of_some _ e)
  have at_e : ((hp.push (kdv_tup [Value.int i ti, Value.int j tj])).push (HandSPX.excO C hp.objs.size)).get? (hp.objs.size + 1) = some (HandSPX.excO C hp.objs.size) := by heap_get
  have noK : K.lookup (hp.objs.size + 1) = none := by
    cases e : K.lookup (hp.objs.size + 1) with
    | none => rfl
    | some o =>
      have z : hp.get? (hp.objs.size + 1) = some o := X _ _ e
      exact absurd (Nat.lt_of_succ_lt (Heap.lt_size z)) (Nat.lt_irrefl _)
  refine HandSPX.call_own F.excBase_ValueError (fun X => HandSPX.refsVE_contains X bm hbm) (X _ _ hC) (looks_findIn X T.iC) (fun self => bind_fn X self T.tC) (by rw [sizeLine_eq]; show 2 ≤ 16777216; decide) ?_
  refine maker_run (s := ⟨(hp.push (kdv_tup [Value.int i ti, Value.int j tj])).push (HandSPX.excO C hp.objs.size), g, dr, tk, os⟩) T Mo (fun b o e => old b o (bk b o e)) at_e noK ?_ hi hj z1 z2 z3 z4 fun h' tk' dx M => ?_
  · show A.depth + 1 < recursionLimit
    exact hroom
  · have keep : ∀ b o, hp.get? b = some o → h'.get? b = some o := fun b o e => M.keep b o (Nat.ne_of_lt (Nat.lt_succ_of_lt (Heap.lt_size e))) (old b o e)
    have z : hp.objs.size + 1 + 1 ≤ dx := by
      have zz := M.dbig
      rw [Heap.size_push, Heap.size_push] at zz
      exact zz
    obtain ⟨t1, ho⟩ := M.obj
    exact ⟨rfl, hq h' tk' (hp.objs.size + 1) dx ⟨keep, Nat.le_succ _, ⟨_, _, ho, rfl, rfl, rfl, rfl⟩, Nat.le_trans (Nat.le_trans (Nat.le_succ _) (Nat.le_succ _)) z, M.dne, M.ns⟩⟩
end
end XgSup2
namespace XgSup2
open PySem L2 PySem.Spec PyProof.Rows
theorem relO_two {u v : V} {u' v' : Value} (ru : RelV u u') (rv : RelV v v') (g : Str) : RelO (List.lookup g [(fC, v), (fL, u)]) (two u' v' g) := by
  unfold two
  by_cases h1 : g = fC
  · subst h1
    exact rv
  · rw [if_neg h1]
    have q1 : (g == fC) = false := by simpa using h1
    by_cases h2 : g = fL
    · subst h2
      exact ru
    · rw [if_neg h2]
      have q2 : (g == fL) = false := by simpa using h2
      have e : List.lookup g [(fC, v), (fL, u)] = none := by simp [List.lookup, q1, q2]
      rw [e]
      trivial
section
variable {X : Cx} {C fI : Addr} {xn : Str}
/-- C(a, b), two numbers whose texts are short -/
def tMkS (C : Addr) (ta : TA) : L2.St → Hp → XK → Prop := fun σ H Q => ta σ H fun vs H1 => ∃ i j : Int, vs = [.int i, .int j] ∧ i.natAbs.log2 < 1920 ∧ j.natAbs.log2 < 1920 ∧ ∀ d, H1 d = none → Q (.ref C) (some d) (upd H1 d (.xd [(fC, .int j), (fL, .int i)]))
theorem pmk_two {a b : Expr} {ta : TA} {p pos : Pos} {k : Nat} (T : STxt X.prog X.K X.mg xn C fI) (hr : Room k X.A) (ha : PA X [a, b] ta) (hg : Gl X xn)
    (hdb : (xn == ("__debug__" : Str)) = false := by decide)
    (he : starEach (a :: [b]) X.env = (false, eval a X.env) :: starEach [b] X.env := by rfl) (hpl : (backTo pos (starEach [b] X.env)).any (·.1) = false := by rfl) :
    PMk X (.Call (.Name xn p) [a, b] [] pos) (tMkS C ta) := by
  intro pins s σ H Q I h
  refine wpAny_Call_Name_kw (ld_glob I hg T.gC ?_ hdb)
  refine PySem.W.callWith_K (h₀ := X.base) I.ok.mod.kin T.kC (thn (ha.run pos pins s σ H _ I h) fun us s1 hh => ?_) he hpl
  obtain ⟨vs, H1, I1, r1, i, j, ev, hi, hj, q1⟩ := hh
  subst ev
  refine ⟨I1.kIn, ?_⟩
  obtain ⟨u1, u2, rfl, r11, r12⟩ := vals2 r1
  · obtain ⟨ti, rfl⟩ := r11
    obtain ⟨tj, rfl⟩ := r12
    show wpAny _ _ (call (.ref C) [_, _]) _ _ _
    have bk1 := I1.bk
    obtain ⟨hp, g, dr, tk, os⟩ := s1
    have lap : ∀ x y : Str, (x ++ y).length = x.length + y.length := fun x y => by
      show (x.cps ++ y.cps).size = x.cps.size + y.cps.size
      exact Array.size_append
    have le : Str.empty.length = 0 := rfl
    have la : tA.length ≤ 100 := by decide +kernel
    have lb : tB.length ≤ 100 := by decide +kernel
    have li := int_text_len_1921 hi
    have lj := int_text_len_1921 hj
    refine wpAny_call (made_run T I1.mod bk1 (by have := hr.dp; omega) hi hj (by rw [lap, sizeLine_eq]; omega) (by rw [lap, lap, sizeLine_eq]; omega) (by rw [lap, lap, lap, sizeLine_eq]; omega) (by rw [lap, lap, lap, lap, sizeLine_eq]; omega) fun h' tk' e d M => ?_)
    show MkP X pins σ Q (.ref e) ⟨h', g, dr, tk', os⟩
    obtain ⟨oe, fv, hoe, hc, hd, hdat, h1⟩ := M.obj
    have hns := M.ns
    obtain ⟨G', g1, g2⟩ := restrict h' fun b => decide (b ≠ e)
    have gk : ∀ b, b ≠ e → G'.get? b = h'.get? b := fun b hb => g1 b (decide_eq_true hb)
    have ge : G'.get? e = none := g2 e (by simp)
    have old : ∀ b o, hp.get? b = some o → G'.get? b = some o := fun b o q => (gk b (Nat.ne_of_lt (Nat.lt_of_lt_of_le (Heap.lt_size q) M.new))).trans (M.keep b o q)
    have ob : ObjOk X.prog X.w (upd H1 d (.xd [(fC, V.int j), (fL, V.int i)])) G' d (.xd [(fC, V.int j), (fL, V.int i)]) :=
      ⟨_, hns.at (fun o q => (gk d M.dne).trans q), fun g' => relO_two (u := V.int i) (v := V.int j) (u' := Value.int i ti) (v' := Value.int j tj) ⟨ti, rfl⟩ ⟨tj, rfl⟩ g'⟩
    have J : Inv X pins σ (upd H1 d (.xd [(fC, V.int j), (fL, V.int i)])) ⟨G', g, dr, tk', os⟩ := I1.laid (t' := tk') old M.dbig ob
    refine ⟨e, oe, fv, ⟨G', g, dr, tk', os⟩, _, .ref C, some d, rfl, J, fun b o q => ?_, ge, hoe, ⟨hc, hd⟩, hdat, h1, ?_, rfl, I1.bare, raises_own T.exC T.tyC, q1 d (I1.hok.fresh M.dbig)⟩
    · by_cases hb : b = e
      · have q' : G'.get? b = some o := q
        rw [hb, ge] at q'; cases q'
      · exact (gk b hb).symm.trans q
    · rw [upd_ne (Ne.symm M.dne)]
      exact I1.hok.fresh M.new
end
end XgSup2
namespace XgSup2
theorem log_small {i : Int} (h0 : 0 ≤ i) (h1 : i < 2 ^ 62) : i.natAbs.log2 < 1920 := by
  by_cases h : i.natAbs = 0
  · rw [h]
    decide
  · have q := (Nat.log2_lt h (k := 62)).mpr (by omega)
    omega
end XgSup2
namespace XgIsa
open PySem PySem.W PySem.Spec PySem.Calls PyProof.Rows
section
variable {prog : Program} {w : World} {A : Around} {E : Value → Shared → Prop} {s : Shared} {K : Frag} {x D : Addr} {ox : Obj}
theorem find_cls {C : Addr} {od : Option Obj} {name : Str} {a g : Value} (hc : (clsIn K C).isSome = true) (ha : findIn K (.ref C) name = some (some a)) (hg : specialIn K a "__get__" = some (some g)) (ht : takesIn K a = some true) :
    findObj K C od name = some (.bind g a) := by
  obtain ⟨cd, hc⟩ := Option.isSome_iff_exists.mp hc
  unfold findObj
  rw [hc, Option.bind_some, ha, Option.bind_some]
  simp [hg, ht]
theorem ask_class {od : Option Obj} {Q : Option Value → Shared → Prop} (T : L2.ExcC K D) (X : K.In s.heap) (I : InstAt s.heap x ox D od) (h : Q (some (.ref D)) { s with toks := s.toks + 1 }) : wpAny (model prog w) A (getAttr? (.ref x) "__class__") Q E s := by
  have hf : findObj K D od "__class__" = some (.bind (.builtin "getset_descriptor.__get__") (.builtin "object.__class__")) := find_cls (by obtain ⟨cd, hc, _⟩ := any_some T.hd; rw [hc]; rfl) T.ha T.hn T.ht
  obtain ⟨hp, g, d, t, os⟩ := s
  have l0 := I.type (M := model prog w)
  have l1 := looks_findIn (M := model prog w) X T.hg
  have l2 := looks_findIn (M := model prog w) X T.hk
  have l3 := looks_find (M := model prog w) X I hf
  have sub : Looks (model prog w) hp (isInstance (.ref x) (.type "BaseException")) true := l0.andThen (looks_subIn X T.hs)
  have q0 : (false && onTheHeap (Value.builtin "BaseException.__getattribute__")) = false := rfl
  have q2 : (Value.builtin "BaseException.__getattribute__" == Value.builtin "object.__getattribute__") = false := by decide +kernel
  have q1 : (onTheHeap (Value.ref D) && Value.builtin "BaseException.__getattribute__" == Value.builtin "object.__getattribute__") = false := by rw [q2]; rfl
  unfold getAttr? getAttrBy? getAttrBy
  refine wpAny_bind (wpAny_mkText (wpAny_bind (wpAny_attempt (wpAny_holding (wpAny_bind (l0.at (wpAny_bind (l1.at ?_))))))))
  show wpAny _ _ (if (onTheHeap (Value.ref D) && Value.builtin "BaseException.__getattribute__" == Value.builtin "object.__getattribute__") = true then _ else _) _ _ _
  rw [q1, if_neg Bool.false_ne_true]
  unfold getAttrByItsOwn hookBefore
  refine wpAny_bind ?_
  rw [if_pos (show onTheHeap (Value.ref D) = true from rfl)]
  refine l2.at ?_
  refine wpAny_bind (wpAny_attempt (wpAny_holding ?_))
  unfold callGetattribute
  rw [q0, if_neg Bool.false_ne_true]
  unfold boundAndCalled
  rw [PySem.F.excAttr_ValueError.ga.bind (.ref x)]
  refine wpAny_bind (wpAny_pure ?_)
  show wpAny _ _ (call (.builtin "BaseException.__getattribute__") [.ref x, .str "__class__" t]) _ _ _
  refine wpAny_call (codeAny_call_builtin PySem.F.excAttr_ValueError.ga.plain PySem.F.entry_bexc_ga ?_)
  refine @check_slot (model prog w) _ _ ⟨hp, g, d, t + 1, os⟩ "BaseException.__getattribute__" "BaseException" "__getattribute__" (.ref x) [.str "__class__" t] [] _ (by decide +kernel) (by decide +kernel) sub (PySem.F.args_bexc_ga (.ref x) (.str "__class__" t)) ?_
  unfold Builtin.«object.__getattribute__»
  refine wpAny_bind (wpAny_of_eq (a := ((Value.ref x : Value), [Value.str "__class__" t])) (by first | rfl | (simp only [slotArgs]; rfl)) ?_)
  refine wpAny_bind (wpAny_pure (wpAny_bind (l0.at (wpAny_bind (l3.at ?_)))))
  show wpAny _ _ (holding [Value.builtin "object.__class__"] (call (.builtin "getset_descriptor.__get__") [.builtin "object.__class__", .ref x, .ref D]) >>= ret) _ _ _
  refine wpAny_bind (wpAny_holding (wpAny_call (class_get (s := ⟨hp, g, d, t + 1, os⟩) (ox := ox) (od := od) X I T.hm ?_)))
  refine wpAny_pure ?_
  show wpAny _ _ (handedOut (.ref D)) _ _ _
  rw [handedOut_of (v := .ref D) rfl]
  first
    | exact wpAny_pure (wpAny_pure h)
    | exact wpAny_pure h
    | exact wpAny_pure (wpAny_bind (wpAny_pure (wpAny_pure h)))
theorem kitx_err (T : L2.ExcC K D) : KitX K (.ref x) (.ref D) (fun h => ∃ od, InstAt h x ox D od) where
  ty := fun _ _ _ ⟨_, I⟩ => I.type
  it := fun _ _ X _ => by
    obtain ⟨cdD, hcD, _⟩ := any_some T.hd
    unfold clsIn at hcD
    split at hcD
    · rename_i c' d' cd' sl' ho
      intro A' Q' E' s' k q
      unfold isType loadHead
      exact wpAny_bind (wpAny_loadPart (k _ _ (X _ _ ho)) (wpAny_pure q))
    · cases hcD
  ne := fun h tp dd its n sl X htp => by
    obtain ⟨cdD, hcD, _⟩ := any_some T.hd
    refine Bool.eq_false_iff.mpr fun q => ?_
    have e : D = tp := Value.ref.inj (beq_iff_eq.mp q)
    subst e
    unfold clsIn at hcD
    split at hcD
    · rename_i c' d' cd' sl' ho
      have z := (X _ _ ho).symm.trans htp
      cases z
    · cases hcD
  ca := fun X ⟨_, I⟩ k => ask_class T X I k
end
end XgIsa
namespace XgIsa
open PySem PySem.Spec PyProof.Rows L2
/-- isinstance(e, c), isinstance(e, (c1, c2, ..)), e the error that the suite holds at a (class at D, dict d) -/
def rIsX (K : PySem.W.Frag) (a : Addr) (cls : Value) (d : Option Addr) : List V → Hp → VK → Prop := fun xs H Q => ∃ (D : Addr) (dd : Addr) (fs : List (Str × V)) (y : V) (b : Bool), xs = [.ref a, y] ∧ cls = .ref D ∧ ExcC K D ∧ d = some dd ∧ H dd = some (.xd fs) ∧
  ((∃ u, ClsV y u ∧ PySem.W.kitOne K (.ref D) u = some b) ∨ ∃ tp cs us, y = .ref tp ∧ H tp = some (.tup cs) ∧ Paired ClsV cs us ∧ PySem.W.kitAny K (.ref D) us = some b) ∧ Q (.bl b) H
theorem call_isX {X : Cx} {a : Addr} {cls : Value} {d : Option Addr} {oe : Obj} {pn : List (Addr × Obj)} (hz : Zc cls d oe) (hf : ∃ vs, oe.data = .fields vs) : CallR (X.suite a ((a, oe) :: pn)) (.builtin "isinstance") (rIsX X.K a cls d) := by
  intro pins s σ H xs us Q I r h
  obtain ⟨D, dd, fs, y, b, rfl, ec, T, ed, hd, ho, q⟩ := h
  obtain ⟨u1, u2, rfl, r1, r2⟩ := vals2 r
  cases (show u1 = Value.ref a from r1)
  subst ec
  subst ed
  obtain ⟨hget, _⟩ := I.pin (a, oe) (List.mem_append.mpr (.inl List.mem_cons_self))
  obtain ⟨vs, hv⟩ := hf
  obtain ⟨mA, hns, _⟩ := (show ObjOk X.prog X.w H s.heap dd (.xd fs) from I.hok dd _ hd)
  obtain ⟨od, hod, _⟩ := lookIn_ns hns
  have J : PySem.W.InstAt s.heap a oe D (some od) := ⟨hget, hz.1, by unfold PySem.W.notCls; rw [hv] <;> rfl, by rw [hz.2]; exact hod⟩
  rcases ho with ⟨u, hc, e⟩ | ⟨tp, cs, ws, rfl, hT, k, e⟩
  · have ew := hc.eq r2
    subst ew
    exact PySem.W.kia_one (kitx_err T) I.kIn ⟨_, J⟩ e (fun z => nomatch z) fun tk => ⟨.bl b, H, I.kept (t' := tk) fun _ _ z => z, rfl, q⟩
  · cases (show u2 = Value.ref tp from r2)
    obtain ⟨_, its, rv, o, h1, h2, n, h3⟩ := (show ObjOk X.prog X.w H s.heap tp (.tup cs) from I.hok tp _ hT)
    have e3 := ClsV.all k rv
    subst e3
    obtain ⟨oc, od', dt, sl⟩ := o
    simp only at h2 h3
    subst h2 h3
    exact PySem.W.kia_tup (kitx_err T) I.kIn ⟨_, J⟩ h1 e (fun z => nomatch z) fun tk => ⟨.bl b, H, I.kept (t' := tk) fun _ _ z => z, rfl, q⟩
end XgIsa
namespace XgIter
open PySem PySem.Spec PyProof.Rows L2 PySem.W
/-! Pairs walked: zip of two of (list, tuple, text) in any mix; enumerate of a tuple. -/
/-- what is walked: a list, a tuple, a text -/
inductive Src where
  | L (a : Addr)
  | T (a : Addr)
  | S (z : Str)
/-- its items -/
def Src.rd (K : PySem.W.Frag) : Src → Hp → List V → Prop
  | .L a, H, xs => SqL K H a xs
  | .T a, H, xs => SqT K H a xs
  | .S z, _, xs => xs = z.cps.toList.map fun c => V.str ⟨#[c]⟩
def Src.v : Src → V
  | .L a => .ref a
  | .T a => .ref a
  | .S z => .str z
/-- the same, with the text's token -/
inductive Srm where
  | L (a : Addr)
  | T (a : Addr)
  | S (z : Str) (t : Tok)
def Srm.src : Srm → Src
  | .L a => .L a
  | .T a => .T a
  | .S z _ => .S z
def Srm.ext : Srm → List Addr
  | .L a => [a]
  | .T a => [a]
  | .S _ _ => []
def Srm.val : Srm → Value
  | .L a => .ref a
  | .T a => .ref a
  | .S z t => .str z t
def Srm.it : Srm → Addr → Nat → Heap → Prop
  | .L a, b, i, h => h.IsListIter b a i
  | .T a, b, i, h => h.IsTupleIter b a i
  | .S z t, b, i, h => h.IsStrIter b (strIterType z) z t i
def Srm.beg : Srm → Obj
  | .L a => { cls := .type "list_iterator", data := .fields #[.ref a, .int 0 0] }
  | .T a => { cls := .type "tuple_iterator", data := .fields #[.ref a, .int 0 0] }
  | .S z t => { cls := .type (strIterType z), data := .fields #[.str z t, .int 0 0] }
theorem Srm.itAt {r : Srm} {b : Addr} {i : Nat} {h h' : Heap} (st : r.it b i h) (k : ∀ o, h.get? b = some o → h'.get? b = some o) : r.it b i h' := by
  cases r with
  | L a => exact Heap.IsListIter.at st k
  | T a => exact Heap.IsTupleIter.at st k
  | S z t => obtain ⟨o, e, rest⟩ := st; exact ⟨o, k o e, rest⟩
theorem Srm.itObj {r : Srm} {b : Addr} {i : Nat} {h : Heap} (st : r.it b i h) : ∃ o, h.get? b = some o ∧ ∀ v, o.data ≠ .cell v := by
  cases r with
  | L a => obtain ⟨o, e, _, d⟩ := st; exact ⟨o, e, fun v q => by rw [d] at q; cases q⟩
  | T a => obtain ⟨o, e, _, d⟩ := st; exact ⟨o, e, fun v q => by rw [d] at q; cases q⟩
  | S z t => obtain ⟨o, e, _, d⟩ := st; exact ⟨o, e, fun v q => by rw [d] at q; cases q⟩
theorem Srm.itBeg {r : Srm} {b : Addr} {h : Heap} (e : h.get? b = some r.beg) : r.it b 0 h := by
  cases r with
  | L a => exact ⟨_, e, rfl, rfl⟩
  | T a => exact ⟨_, e, rfl, rfl⟩
  | S z t => exact ⟨_, e, rfl, rfl⟩
section
variable {X : Cx} {pins : List (Addr × Obj)} {σ : L2.St} {H : Hp} {s : Shared}
/-- what its iterator draws -/
theorem drawn (I : Inv X pins σ H s) {A : Around} (hh : A.handled = none) {r : Srm} {b : Addr} {xs : List V} (hq : r.src.rd X.K H xs) (hb : b ∉ r.ext) :
    ∃ (P : Nat → Value → Prop) (St : Nat → Heap → Prop), Draws X.prog X.w A b (b :: r.ext) xs.length P St ∧ (∀ i, r.it b i s.heap → St i s.heap) ∧ (∀ i h, St i h → r.it b i h) ∧ ∀ i v, P i v → ∃ y, xs[i]? = some y ∧ RelV y v := by
  cases r with
  | L a =>
    obtain ⟨its, rv, p, _⟩ := I.list hq
    have hne : a ≠ b := fun z => hb (by rw [z]; exact List.mem_cons_self)
    refine ⟨fun i v => its.toArray[i]? = some v, fun i h => h.IsListIter b a i ∧ h.IsList a its.toArray, ?_, fun i st => ⟨st, p.isList⟩, fun i h st => st.1, fun i v hv => ?_⟩
    · rw [rv.length]
      exact Draws.list hh b a hne its.toArray
    · have hv' : its[i]? = some v := by simpa using hv
      have hl : i < its.length := (List.getElem?_eq_some_iff.mp hv').1
      have hx : i < xs.length := by rw [rv.length]; exact hl
      obtain ⟨u, hu, ru⟩ := rv.get (List.getElem?_eq_getElem hx)
      rw [hv'] at hu
      cases hu
      exact ⟨_, List.getElem?_eq_getElem hx, ru⟩
  | T a =>
    obtain ⟨its, rv, p, _⟩ := I.tuple hq
    have hne : a ≠ b := fun z => hb (by rw [z]; exact List.mem_cons_self)
    refine ⟨fun i v => its.toArray[i]? = some v, fun i h => h.IsTupleIter b a i ∧ h.IsTuple a its.toArray, ?_, fun i st => ⟨st, p⟩, fun i h st => st.1, fun i v hv => ?_⟩
    · rw [rv.length]
      exact Draws.tuple hh b a hne its.toArray
    · have hv' : its[i]? = some v := by simpa using hv
      have hl : i < its.length := (List.getElem?_eq_some_iff.mp hv').1
      have hx : i < xs.length := by rw [rv.length]; exact hl
      obtain ⟨u, hu, ru⟩ := rv.get (List.getElem?_eq_getElem hx)
      rw [hv'] at hu
      cases hu
      exact ⟨_, List.getElem?_eq_getElem hx, ru⟩
  | S z t =>
    have hq' : xs = z.cps.toList.map fun c => V.str ⟨#[c]⟩ := hq
    subst hq'
    refine ⟨fun i v => ∃ c u, z.cps[i]? = some c ∧ v = .str ⟨#[c]⟩ u, fun i h => h.IsStrIter b (strIterType z) z t i, ?_, fun i st => st, fun i h st => st, fun i v hv => ?_⟩
    · rw [List.length_map]
      exact Draws.text hh b z t
    · obtain ⟨c, u, hc, rfl⟩ := hv
      refine ⟨.str ⟨#[c]⟩, ?_, ⟨u, rfl⟩⟩
      rw [List.getElem?_map]
      have hc' : z.cps.toList[i]? = some c := by simpa using hc
      rw [hc']
      rfl
theorem rd_inj (I : Inv X pins σ H s) {r : Src} {xs ys : List V} (h1 : r.rd X.K H xs) (h2 : r.rd X.K H ys) : xs = ys := by
  cases r with
  | L a => exact I.list_inj h1 h2
  | T a => exact I.tuple_inj h1 h2
  | S z =>
    have e1 : xs = z.cps.toList.map fun c => V.str ⟨#[c]⟩ := h1
    have e2 : ys = z.cps.toList.map fun c => V.str ⟨#[c]⟩ := h2
    rw [e1, e2]
theorem begins {r : Srm} {xs : List V} (I : Inv X pins σ H s) (hq : r.src.rd X.K H xs) : ∃ P : Heap → Prop, Begins r.val r.beg P ∧ P s.heap ∧ ∀ b ∈ r.ext, b < s.heap.objs.size := by
  cases r with
  | L a =>
    obtain ⟨its, rv, p, _⟩ := I.list hq
    exact ⟨_, begins_list a its.toArray, p.isList, fun b hb => by rw [List.mem_singleton.mp hb]; exact p.lt⟩
  | T a =>
    obtain ⟨its, rv, p, _⟩ := I.tuple hq
    obtain ⟨o, ho, _⟩ := id p
    exact ⟨_, begins_tuple a its.toArray, p, fun b hb => by rw [List.mem_singleton.mp hb]; exact Heap.lt_size ho⟩
  | S z t => exact ⟨_, begins_text z t, True.intro, fun b hb => absurd hb (by show b ∉ ([] : List Addr); simp)⟩
end
/-- two of them, in new pairs -/
def Itx (K : PySem.W.Frag) (s1 s2 : Src) : It :=
  ⟨fun i H => ∃ xs ys : List V, s1.rd K H xs ∧ s2.rd K H ys ∧ i < min xs.length ys.length,
    fun i H v H' => ∃ T x y, v = .ref T ∧ H T = none ∧ H' = upd H T (.tup [x, y]) ∧ (∀ xs, s1.rd K H xs → xs[i]? = some x) ∧ ∀ ys, s2.rd K H ys → ys[i]? = some y,
    fun i H => ∃ xs ys : List V, s1.rd K H xs ∧ s2.rd K H ys ∧ i = min xs.length ys.length⟩
theorem turn_x {P : Program} {w : World} {K : PySem.W.Frag} {elts : List Expr} {kk : Nat} {tpos : Pos} {r1 r2 : Srm} {z TI TO i1 i2 : Addr} (D : ZipSep2 z TI TO i1 i2 (i1 :: r1.ext) (i2 :: r2.ext)) (n1 : i1 ∉ r1.ext) (n2 : i2 ∉ r2.ext) :
    Turn P w K (.Tuple elts kk tpos) (Itx K r1.src r2.src) [z, TI, TO, i1, i2] z (fun i h => IsZip h z TI TO .none ∧ IsTupOf2 h TI (.ref i1) (.ref i2) ∧ (∃ x y, IsTupOf2 h TO x y) ∧ r1.it i1 i h ∧ r2.it i2 i h) where
  mem := by simp
  obj := fun i h st c hc => by
    obtain ⟨hz, hTI, ⟨x, y, hTO⟩, h1, h2⟩ := st
    have e' : c = z ∨ c = TI ∨ c = TO ∨ c = i1 ∨ c = i2 := by simpa using hc
    rcases e' with q | q | q | q | q
    · rw [q]; exact ⟨_, hz, fun v q => nomatch q⟩
    · rw [q]; exact ⟨_, hTI, fun v q => nomatch q⟩
    · rw [q]; exact ⟨_, hTO, fun v q => nomatch q⟩
    · rw [q]; exact Srm.itObj h1
    · rw [q]; exact Srm.itObj h2
  keep := fun i h h' st k => by
    obtain ⟨hz, hTI, ⟨x, y, hTO⟩, h1, h2⟩ := st
    exact ⟨k z (by simp) _ hz, k TI (by simp) _ hTI, ⟨x, y, k TO (by simp) _ hTO⟩, Srm.itAt h1 fun o q => k i1 (by simp) o q, Srm.itAt h2 fun o q => k i2 (by simp) o q⟩
  item := by
    intro X hP hw hK hc i pins s σ H E I hf st hg
    subst hP hw hK
    obtain ⟨hz, hTI, hTO, h1, h2⟩ := st
    obtain ⟨xs, ys, hqx, hqy, hlt⟩ := hg
    have hh : X.A.in1.handled = none := I.ok.hd hc
    obtain ⟨P1, S1, D1, a1, b1, c1⟩ := drawn I hh hqx n1
    obtain ⟨P2, S2, D2, a2, b2, c2⟩ := drawn I hh hqy n2
    have W := WalksT.zipD2 D D1 D2
    refine W.item i s _ _ hlt ⟨hz, hTI, hTO, a1 i h1, a2 i h2⟩ fun T vals h' tk hv hT hIs hM hk => ⟨.ref T, rfl, ?_⟩
    obtain ⟨v1, v2, p1, p2, rfl⟩ := hv
    obtain ⟨x, hx, rx⟩ := c1 i v1 p1
    obtain ⟨y, hy, ry⟩ := c2 i v2 p2
    refine W.go elts kk tpos i T _ _ _ hM fun h'' hst hk2 => ?_
    have apT := W.apart i T h' hM
    obtain ⟨oT, hoT, hcT, nT, hdT⟩ := hIs
    have hoT2 := hk2 T oT apT hoT
    have new : ObjOk X.prog X.w (upd H T (.tup [x, y])) h'' T (.tup [x, y]) := ⟨by show 2 ≤ sizeLine; decide, [v1, v2], .cons rx (.cons ry .nil), ⟨oT, hoT2, hcT, nT, hdT⟩⟩
    have wr5 : ∀ c, c ∈ [z, TO, i1, i2] → c ∈ [z, TI, TO, i1, i2] := fun c hcm => by
      have e' : c = z ∨ c = TO ∨ c = i1 ∨ c = i2 := by simpa using hcm
      rcases e' with q | q | q | q <;> simp [q]
    have I1 : Inv X pins σ (upd H T (.tup [x, y])) { s with heap := h'', toks := tk } :=
      I.turnedNew (t' := tk) (ch := [z, TI, TO, i1, i2]) (fun c o hb q => hk2 c o (fun z => hb (wr5 c z)) (hk c o (fun z => hb (wr5 c z)) q)) hf hT new
    obtain ⟨gz, gTI, gTO, g1, g2⟩ := hst
    refine ⟨.ref T, _, I1, rfl, ⟨T, x, y, rfl, I.hok.fresh hT, rfl, fun l hl => by rw [rd_inj I hl hqx]; exact hx, fun l hl => by rw [rd_inj I hl hqy]; exact hy⟩, ⟨gz, gTI, gTO, b1 _ _ g1, b2 _ _ g2⟩, fun c hcm => ?_⟩
    have hlt2 : c < s.heap.objs.size := by
      have e' : c = z ∨ c = TI ∨ c = TO ∨ c = i1 ∨ c = i2 := by simpa using hcm
      obtain ⟨_, _, hTO⟩ := hTO
      rcases e' with q | q | q | q | q
      · rw [q]; exact Heap.lt_size hz
      · rw [q]; exact Heap.lt_size hTI
      · rw [q]; exact Heap.lt_size hTO
      · rw [q]; obtain ⟨_, e1, _⟩ := Srm.itObj h1; exact Heap.lt_size e1
      · rw [q]; obtain ⟨_, e2, _⟩ := Srm.itObj h2; exact Heap.lt_size e2
    rw [upd_ne (Nat.ne_of_lt (Nat.lt_of_lt_of_le hlt2 hT))]
    exact (hf c hcm).1
  done := by
    intro X hP hw hK hc i pins s σ H E I hf st hg
    subst hP hw hK
    obtain ⟨hz, hTI, hTO, h1, h2⟩ := st
    obtain ⟨xs, ys, hqx, hqy, rfl⟩ := hg
    have hh : X.A.in1.handled = none := I.ok.hd hc
    obtain ⟨P1, S1, D1, a1, b1, c1⟩ := drawn I hh hqx n1
    obtain ⟨P2, S2, D2, a2, b2, c2⟩ := drawn I hh hqy n2
    have W := WalksT.zipD2 D D1 D2
    have wr5 : ∀ c, c ∈ [z, TO, i1, i2] → c ∈ [z, TI, TO, i1, i2] := fun c hcm => by
      have e' : c = z ∨ c = TO ∨ c = i1 ∨ c = i2 := by simpa using hcm
      rcases e' with q | q | q | q <;> simp [q]
    exact W.done s _ _ ⟨hz, hTI, hTO, a1 _ h1, a2 _ h2⟩ fun h' tk hk => ⟨rfl, I.turnedL (t' := tk) (ch := [z, TI, TO, i1, i2]) (fun c o hb q => hk c o (fun z => hb (wr5 c z)) q) hf⟩
  self := fun A i s Q E st h => wpAny_pyIter_zip st.1 h
def iZipX (K : PySem.W.Frag) (ta : TA) : TI := fun σ H R => ta σ H fun vs H1 => ∃ s1 s2 : Src, vs = [s1.v, s2.v] ∧ (∃ xs, s1.rd K H1 xs) ∧ (∃ ys, s2.rd K H1 ys) ∧ R (Itx K s1 s2) H1
theorem srm_of {s1 : Src} {u : Value} (r : RelV s1.v u) : ∃ r1 : Srm, r1.src = s1 ∧ u = r1.val := by
  cases s1 with
  | L a => exact ⟨.L a, rfl, r⟩
  | T a => exact ⟨.T a, rfl, r⟩
  | S z => obtain ⟨t, e⟩ := (show ∃ t, u = Value.str z t from r); exact ⟨.S z t, rfl, e⟩
theorem pi_zipX {X : Cx} {e e2 : Expr} {ta : TA} {p pos tpos : Pos} {elts : List Expr} {kk : Nat} (hg : Gl X "zip") (hm : X.mg "zip" = none) (ha : PA X [e, e2] ta)
    (hs : starEach [e, e2] X.env = (false, eval e X.env) :: starEach [e2] X.env := by rfl) (hpl : (backTo pos (starEach [e2] X.env)).any (·.1) = false := by rfl) :
    PI X (.Tuple elts kk tpos) (.Call (.Name "zip" p) [e, e2] [] pos) (iZipX X.K ta) := by
  refine ⟨fun pins s σ H R I h => ?_⟩
  refine Call_ (ld_blt I hg hm PyProof.Rows.boot_zip (PyProof.Rows.callWith_type1 (thn (ha.run pos pins s σ H _ I h) fun us s1 ⟨vs, H1, I1, r1, q1⟩ => ?_) hs hpl))
  obtain ⟨sa, sb, ex, ⟨xs, hqx⟩, ⟨ys, hqy⟩, q⟩ := q1
  subst ex
  obtain ⟨u1, u2, rfl, ra, rb⟩ := vals2 r1
  obtain ⟨m1, rfl, rfl⟩ := srm_of ra
  obtain ⟨m2, rfl, rfl⟩ := srm_of rb
  obtain ⟨Pa, Ba, pa, la⟩ := begins I1 hqx
  obtain ⟨Pb, Bb, pb, lb⟩ := begins I1 hqy
  refine zip_begins2 Ba Bb pa pb fun h' hz hTI hTO g1 g2 hsz hk => wpAny_pyIter_zip hz ?_
  have I2 : Inv X pins σ H1 { s1 with heap := h' } := I1.kept (t' := s1.toks) hk
  have fresh5 : ∀ c, c ∈ [s1.heap.objs.size + 4, s1.heap.objs.size + 2, s1.heap.objs.size + 3, s1.heap.objs.size, s1.heap.objs.size + 1] → FpOk X pins H1 c := fun c hcm => by
    have e' : c = s1.heap.objs.size + 4 ∨ c = s1.heap.objs.size + 2 ∨ c = s1.heap.objs.size + 3 ∨ c = s1.heap.objs.size ∨ c = s1.heap.objs.size + 1 := by simpa using hcm
    have hle : s1.heap.objs.size ≤ c := by
      rcases e' with z | z | z | z | z
      · rw [z]; exact Nat.le_add_right _ _
      · rw [z]; exact Nat.le_add_right _ _
      · rw [z]; exact Nat.le_add_right _ _
      · rw [z]; exact Nat.le_refl _
      · rw [z]; exact Nat.le_add_right _ _
    exact I1.fpOk hle (I1.hok.fresh hle)
  exact ⟨s1.heap.objs.size + 4, [s1.heap.objs.size + 4, s1.heap.objs.size + 2, s1.heap.objs.size + 3, s1.heap.objs.size, s1.heap.objs.size + 1], _, _, H1, rfl, I2,
    turn_x (zip_sep2 la lb) (fun hm => absurd (la _ hm) (Nat.lt_irrefl _)) (fun hm => absurd (lb _ hm) (by intro z; exact absurd z (Nat.not_lt.mpr (Nat.le_succ _)))), ⟨hz, hTI, ⟨_, _, hTO⟩, Srm.itBeg g1, Srm.itBeg g2⟩, fresh5, q⟩
theorem walk_x {K : PySem.W.Frag} {s1 s2 : Src} {G : Hp → Prop} {xs ys : List V} (h1 : ∀ H, G H → s1.rd K H xs) (h2 : ∀ H, G H → s2.rd K H ys) :
    L2.Walk (Itx K s1 s2) (min xs.length ys.length) G (L2.YPair (fun i => xs[i]?) fun i => ys[i]?) where
  goes := fun i H hi g => ⟨xs, ys, h1 H g, h2 H g, hi⟩
  stops := fun H g => ⟨xs, ys, h1 H g, h2 H g, rfl⟩
  yields := fun i H v H' hi g ⟨T, x, y, e, n, eh, q1, q2⟩ => ⟨T, x, y, e, n, eh, q1 _ (h1 H g), q2 _ (h2 H g)⟩
/-! enumerate of a list, a tuple, a text -/
set_option maxHeartbeats 4000000 in
theorem enum_new {v : Value} {o : Obj} {P : Heap → Prop} (B : Begins v o P) :
    Meets (Builtin.«enumerate.__new__» ⟨[.type "enumerate", v], []⟩) (fun _ R s => P s.heap ∧
      R (.ok (.ret (.ref (s.heap.push o).objs.size))) { s with heap := (s.heap.push o).push { cls := .type "enumerate", data := .fields #[.none, .bool false, .ref s.heap.objs.size, rawInt 0, .none, .none] } }) :=
  .of_wp fun prog w A R s hyp => by
    obtain ⟨hp, g, d, tk, os⟩ := s
    obtain ⟨h1, hyp⟩ := hyp
    have hsub := sub_enumerate
    have q1 : ∀ {A' : Around} {E : Value → Shared → Prop} {Q : Value → Shared → Prop}, Q (.ref hp.objs.size) ⟨hp.push o, g, d, tk, os⟩ → wpAny (model prog w) A' (pyIter v) Q E ⟨hp, g, d, tk, os⟩ :=
      fun q => B.iter prog w _ _ ⟨hp, g, d, tk, os⟩ _ h1 q
    wp_walk using q1
    refine wpAny_stack_any fun st => wpAny_pure ?_
    split
    · rename_i c _ _ _ _ _
      cases (c == Value.type "enumerate")
      · wp_walk using q1
        exact ⟨_, rfl, hyp⟩
      · wp_walk using q1
        exact ⟨_, rfl, hyp⟩
    · wp_walk using q1
      exact ⟨_, rfl, hyp⟩
theorem enum_call {prog : Program} {w : World} {A : Around} {E : Value → Shared → Prop} {s : Shared} {v : Value} {o : Obj} {P : Heap → Prop} {Q : Value → Shared → Prop} (B : Begins v o P) (h1 : P s.heap)
    (h : ∀ h', IsEnum h' (s.heap.objs.size + 1) s.heap.objs.size 0 .none → h'.get? s.heap.objs.size = some o → (∀ b u, s.heap.get? b = some u → h'.get? b = some u) → Q (.ref (s.heap.objs.size + 1)) { s with heap := h' }) :
    wpAny (model prog w) A (call (.type "enumerate") [v]) Q E s := by
  refine callType_new F.called_enumerate (by decide) (F.typeCall_enumerate_1 _) (F.newCall_enumerate_1 _) (fun obj => F.args_object_init_2 obj _) F.entry_enumerate_new
    (enum_new B) ⟨h1, ?_⟩
  have hz : (s.heap.push o).objs.size = s.heap.objs.size + 1 := Heap.size_push ..
  show _ ∧ _
  rw [hz]
  have he : IsEnum ((s.heap.push o).push { cls := .type "enumerate", data := .fields #[.none, .bool false, .ref s.heap.objs.size, rawInt 0, .none, .none] }) (s.heap.objs.size + 1) s.heap.objs.size 0 .none := by
    have z := Heap.get?_push_size (s.heap.push o) (o := { cls := .type "enumerate", data := .fields #[.none, .bool false, .ref s.heap.objs.size, rawInt 0, .none, .none] }) rfl
    rw [hz] at z
    exact z
  exact ⟨⟨_, he, rfl⟩, h _ he (Heap.get?_push_of_some _ (Heap.get?_push_size _ B.free)) fun b u x => Heap.get?_push_of_some _ (Heap.get?_push_of_some _ x)⟩
def Ity (K : PySem.W.Frag) (s1 : Src) : It :=
  ⟨fun i H => ∃ xs : List V, s1.rd K H xs ∧ i < xs.length,
    fun i H v H' => ∃ T y, v = .ref T ∧ H T = none ∧ H' = upd H T (.tup [.int (i : Nat), y]) ∧ ∀ xs, s1.rd K H xs → xs[i]? = some y,
    fun i H => ∃ xs : List V, s1.rd K H xs ∧ i = xs.length⟩
theorem turn_y {P : Program} {w : World} {K : PySem.W.Frag} {elts : List Expr} {kk : Nat} {tpos : Pos} {r1 : Srm} {e i1 : Addr} (n1 : i1 ∉ r1.ext) (he1 : e ≠ i1) (he2 : e ∉ r1.ext) :
    Turn P w K (.Tuple elts kk tpos) (Ity K r1.src) [e, i1] e (fun i h => (∃ old, IsEnum h e i1 ((0 : Int) + (i : Int)) old) ∧ r1.it i1 i h) where
  mem := by simp
  obj := fun i h st c hc => by
    obtain ⟨⟨old, he⟩, h1⟩ := st
    have e' : c = e ∨ c = i1 := by simpa using hc
    rcases e' with q | q
    · rw [q]; exact ⟨_, he, fun v q => nomatch q⟩
    · rw [q]; exact Srm.itObj h1
  keep := fun i h h' st k => by
    obtain ⟨⟨old, he⟩, h1⟩ := st
    exact ⟨⟨old, k e (by simp) _ he⟩, Srm.itAt h1 fun o q => k i1 (by simp) o q⟩
  item := by
    intro X hP hw hK hc i pins s σ H E I hf st hg
    subst hP hw hK
    obtain ⟨he, h1⟩ := st
    obtain ⟨xs, hqx, hlt⟩ := hg
    have hh : X.A.in1.handled = none := I.ok.hd hc
    obtain ⟨P1, S1, D1, a1, b1, c1⟩ := drawn I hh hqx n1
    have W := WalksT.enumFrom 0 D1 e he1 (by intro z; rcases List.mem_cons.mp z with z | z; exact he1 z; exact he2 z) List.mem_cons_self
    refine W.item i s _ _ hlt ⟨he, a1 i h1⟩ fun T vals h' tk hv hT hIs hM hk => ⟨.ref T, rfl, ?_⟩
    obtain ⟨t1, v1, p1, rfl⟩ := hv
    obtain ⟨x, hx, rx⟩ := c1 i v1 p1
    refine W.go elts kk tpos i T _ _ _ hM fun h'' hst hk2 => ?_
    have apT := W.apart i T h' hM
    obtain ⟨oT, hoT, hcT, nT, hdT⟩ := hIs
    have hoT2 := hk2 T oT apT hoT
    have e0 : (0 : Int) + (i : Int) = ((i : Nat) : Int) := by omega
    rw [e0] at hdT
    have new : ObjOk X.prog X.w (upd H T (.tup [.int (i : Nat), x])) h'' T (.tup [.int (i : Nat), x]) := ⟨by show 2 ≤ sizeLine; decide, [.int (i : Nat) t1, v1], .cons ⟨_, rfl⟩ (.cons rx .nil), ⟨oT, hoT2, hcT, nT, hdT⟩⟩
    have I1 : Inv X pins σ (upd H T (.tup [.int (i : Nat), x])) { s with heap := h'', toks := tk } :=
      I.turnedNew (t' := tk) (ch := [e, i1]) (fun c o hb q => hk2 c o hb (hk c o hb q)) hf hT new
    obtain ⟨ge, g1⟩ := hst
    refine ⟨.ref T, _, I1, rfl, ⟨T, x, rfl, I.hok.fresh hT, rfl, fun l hl => by rw [rd_inj I hl hqx]; exact hx⟩, ⟨ge, b1 _ _ g1⟩, fun c hcm => ?_⟩
    have hlt2 : c < s.heap.objs.size := by
      have e' : c = e ∨ c = i1 := by simpa using hcm
      obtain ⟨_, he⟩ := he
      rcases e' with q | q
      · rw [q]; exact Heap.lt_size he
      · rw [q]; obtain ⟨_, e1, _⟩ := Srm.itObj h1; exact Heap.lt_size e1
    rw [upd_ne (Nat.ne_of_lt (Nat.lt_of_lt_of_le hlt2 hT))]
    exact (hf c hcm).1
  done := by
    intro X hP hw hK hc i pins s σ H E I hf st hg
    subst hP hw hK
    obtain ⟨he, h1⟩ := st
    obtain ⟨xs, hqx, rfl⟩ := hg
    have hh : X.A.in1.handled = none := I.ok.hd hc
    obtain ⟨P1, S1, D1, a1, b1, c1⟩ := drawn I hh hqx n1
    have W := WalksT.enumFrom 0 D1 e he1 (by intro z; rcases List.mem_cons.mp z with z | z; exact he1 z; exact he2 z) List.mem_cons_self
    exact W.done s _ _ ⟨he, a1 _ h1⟩ fun h' tk hk => ⟨rfl, I.turnedL (t' := tk) (ch := [e, i1]) (fun c o hb q => hk c o hb q) hf⟩
  self := fun A i s Q E st h => let ⟨⟨_, he⟩, _⟩ := st; wpAny_pyIter_enum he h
def iEnumX (K : PySem.W.Frag) (ta : TA) : TI := fun σ H R => ta σ H fun vs H1 => ∃ s1 : Src, vs = [s1.v] ∧ (∃ xs, s1.rd K H1 xs) ∧ R (Ity K s1) H1
theorem pi_enumX {X : Cx} {e : Expr} {ta : TA} {p pos tpos : Pos} {elts : List Expr} {kk : Nat} (hg : Gl X "enumerate") (hm : X.mg "enumerate" = none) (ha : PA X [e] ta) (hs : starEach [e] X.env = [(false, eval e X.env)] := by rfl) :
    PI X (.Tuple elts kk tpos) (.Call (.Name "enumerate" p) [e] [] pos) (iEnumX X.K ta) := by
  refine ⟨fun pins s σ H R I h => ?_⟩
  refine Call_ (ld_blt I hg hm boot_enumerate (PyProof.Rows.callWith_type1 (thn (ha.run pos pins s σ H _ I h) fun us s1 ⟨vs, H1, I1, r1, q1⟩ => ?_) hs rfl))
  obtain ⟨sa, ex, ⟨xs, hqx⟩, q⟩ := q1
  subst ex
  cases r1 with
  | cons ra rr =>
    cases rr
    obtain ⟨m1, rfl, rfl⟩ := srm_of ra
    obtain ⟨Pa, Ba, pa, la⟩ := begins I1 hqx
    refine enum_call Ba pa fun h' he g1 hk => wpAny_pyIter_enum he ?_
    have I2 : Inv X pins σ H1 { s1 with heap := h' } := I1.kept (t' := s1.toks) hk
    refine ⟨s1.heap.objs.size + 1, [s1.heap.objs.size + 1, s1.heap.objs.size], _, _, H1, rfl, I2,
      turn_y (fun hm => absurd (la _ hm) (Nat.lt_irrefl _)) (Nat.succ_ne_self _) (fun hm => absurd (la _ hm) (by intro z; exact absurd z (Nat.not_lt.mpr (Nat.le_succ _)))), ⟨⟨.none, he⟩, Srm.itBeg g1⟩, fun b hb => ?_, q⟩
    have e' : b = s1.heap.objs.size + 1 ∨ b = s1.heap.objs.size := by simpa using hb
    have hle : s1.heap.objs.size ≤ b := by
      rcases e' with z | z
      · rw [z]; exact Nat.le_add_right _ _
      · rw [z]; exact Nat.le_refl _
    exact I1.fpOk hle (I1.hok.fresh hle)
theorem walk_y {K : PySem.W.Frag} {s1 : Src} {G : Hp → Prop} {xs : List V} (h1 : ∀ H, G H → s1.rd K H xs) :
    L2.Walk (Ity K s1) xs.length G (L2.YPair (fun i => some (.int (i : Nat))) fun i => xs[i]?) where
  goes := fun i H hi g => ⟨xs, h1 H g, hi⟩
  stops := fun H g => ⟨xs, h1 H g, rfl⟩
  yields := fun i H v H' hi g ⟨T, x, e, n, eh, q1⟩ => ⟨T, _, x, e, n, eh, rfl, q1 _ (h1 H g)⟩
end XgIter
namespace XgSet
open PySem PySem.Spec PyProof.Rows L2
/-- set(t), t a tuple of ints -/
def rSetT (K : PySem.W.Frag) (w : World) : List V → Hp → VK → Prop := fun xs H Q => ∃ (l : Addr) (ns : List Int), xs = [.ref l] ∧ SqT K H l (ns.map V.int) ∧ ns.length ≤ 50 ∧
  ∀ (a : Addr) (c : Nat), H a = none → c ≤ ns.length → Q (.ref a) (upd H a (SetO w a (fun j => decide (j ∈ ns)) c))
theorem cr_setT {X : Cx} (hc : X.calm = true) : CallR X (.type "set") (rSetT X.K X.w) := by
  intro pins s σ H xs us Q I r h
  obtain ⟨l, ns, rfl, hq, hl, q⟩ := h
  cases r with
  | cons r rr =>
    cases rr
    cases r
    obtain ⟨its, rv, pt, hz⟩ := I.tuple hq
    have hi : IntsAre its.toArray.toList ns := ints_of_vals rv
    have hd := I.ok.hd hc
    refine call_set_tupI ns hd (show s.heap.IsTuple l its.toArray from pt) hi (by unfold scanBound; omega) fun h' tk c R1 hcn k => ?_
    have hn : H s.heap.objs.size = none := I.hok.fresh (Nat.le_refl _)
    exact ⟨.ref s.heap.objs.size, _, I.laid (t' := tk) k (Nat.le_refl _) (setO_new R1), rfl, q _ c hn hcn⟩
end XgSet
namespace Xg
open PySem L2
/-! ### tuples of the written part, read by a computation -/
def kTup (K : PySem.W.Frag) (a : Addr) : Option (List Value) := match K.lookup a with
  | some ⟨.type "tuple", _, .seq its _, _⟩ => if its.size ≤ 1000 then some its.toList else none
  | _ => none
theorem kTup_sq {K : PySem.W.Frag} {a : Addr} {us : List Value} (h : kTup K a = some us) {xs : List V} (r : Vals xs us) (H : Hp) : SqT K H a xs := by
  unfold kTup at h
  split at h
  · rename_i d its n sl e
    split at h
    · rename_i hz
      cases h
      exact Or.inr ⟨_, its, n, e, rfl, rfl, Nat.le_trans hz (by decide), r⟩
    · cases h
  · cases h
def strsV : List Value → List Str → Bool
  | [], [] => true
  | .str x _ :: us, z :: zs => decide (x = z) && strsV us zs
  | _, _ => false
theorem strsV_vals : ∀ {us : List Value} {zs : List Str}, strsV us zs = true → Vals (zs.map V.str) us
  | [], [], _ => .nil
  | [], _ :: _, h => by simp [strsV] at h
  | u :: us, [], h => by cases u <;> simp [strsV] at h
  | u :: us, z :: zs, h => by
    cases u with
    | str x t =>
      have h' : (decide (x = z) && strsV us zs) = true := h
      obtain ⟨h1, h2⟩ := Bool.and_eq_true_iff.mp h'
      have e := of_decide_eq_true h1
      subst e
      exact .cons ⟨t, rfl⟩ (strsV_vals h2)
    | _ => simp [strsV] at h
def strsB (K : PySem.W.Frag) (a : Addr) (zs : List Str) : Bool := match kTup K a with
  | some us => strsV us zs
  | none => false
theorem strsB_sq {K : PySem.W.Frag} {a : Addr} {zs : List Str} (h : strsB K a zs = true) (H : Hp) : SqT K H a (zs.map V.str) := by
  unfold strsB at h
  split at h
  · rename_i us e
    exact kTup_sq e (strsV_vals h) H
  · cases h
def pairsV (K : PySem.W.Frag) : List Value → List (Str × Str) → Bool
  | [], [] => true
  | .ref b :: us, z :: zs => strsB K b [z.1, z.2] && pairsV K us zs
  | _, _ => false
theorem pairsV_as {K : PySem.W.Frag} : ∀ {us : List Value} {zs : List (Str × Str)}, pairsV K us zs = true → ∃ as : List Addr, as.length = zs.length ∧ Vals (as.map V.ref) us ∧
    ∀ (i : Nat) (b : Addr) (z : Str × Str), as[i]? = some b → zs[i]? = some z → ∀ H, SqT K H b [V.str z.1, V.str z.2]
  | [], [], _ => ⟨[], rfl, .nil, fun i b z h => by simp at h⟩
  | [], _ :: _, h => by simp [pairsV] at h
  | u :: us, [], h => by cases u <;> simp [pairsV] at h
  | u :: us, z :: zs, h => by
    cases u with
    | ref b =>
      have h' : (strsB K b [z.1, z.2] && pairsV K us zs) = true := h
      obtain ⟨h1, h2⟩ := Bool.and_eq_true_iff.mp h'
      obtain ⟨as, l, v, k⟩ := pairsV_as h2
      refine ⟨b :: as, by simp [l], .cons rfl v, fun i b' z' e1 e2 H => ?_⟩
      cases i with
      | zero =>
        have q1 : b = b' := by simpa using e1
        have q2 : z = z' := by simpa using e2
        subst q1
        subst q2
        exact strsB_sq h1 H
      | succ i => exact k i b' z' (by simpa using e1) (by simpa using e2) H
    | _ => simp [pairsV] at h
def pairsB (K : PySem.W.Frag) (a : Addr) (zs : List (Str × Str)) : Bool := match kTup K a with
  | some us => pairsV K us zs
  | none => false
theorem pairsB_sq {K : PySem.W.Frag} {a : Addr} {zs : List (Str × Str)} (h : pairsB K a zs = true) : ∃ as : List Addr, as.length = zs.length ∧ (∀ H, SqT K H a (as.map V.ref)) ∧
    ∀ (i : Nat) (b : Addr) (z : Str × Str), as[i]? = some b → zs[i]? = some z → ∀ H, SqT K H b [V.str z.1, V.str z.2] := by
  unfold pairsB at h
  split at h
  · rename_i us e
    obtain ⟨as, l, v, k⟩ := pairsV_as h
    exact ⟨as, l, fun H => kTup_sq e v H, k⟩
  · cases h
/-! ### a def of the text as its callers see it -/
structure Df (K : PySem.W.Frag) (mg : Str → Option Value) (x qual : Str) (st : Stmt) (f : Addr) (ps : List Str) : Prop where
  g : mg x = some (.ref f)
  k : PySem.W.keepIn K (.ref f) = true
  ex : ∃ fd, Fun K x qual st f fd ∧ Binds K fd ps []
/-! ### heaps -/
theorem same_new {H H' : Hp} {p : Addr} {o : HO} (e : Same H H') (h : H' p = none) : Same H (upd H' p o) := fun b u q => by
  rw [upd_ne (ne_of_none (e b u q) h)]
  exact e b u q
theorem same_mut {H H' : Hp} {p : Addr} {o : HO} (e : Same H H') (h : H p = none) : Same H (upd H' p o) := fun b u q => by
  rw [upd_ne (ne_of_none q h)]
  exact e b u q
theorem same_sqT {K : PySem.W.Frag} {H H' : Hp} {a : Addr} {xs : List V} (e : Same H H') (h : SqT K H a xs) : SqT K H' a xs := by
  rcases h with (h | ⟨o, h⟩) | h
  · exact .inl (.inl (e _ _ h))
  · exact .inl (.inr ⟨o, e _ _ h⟩)
  · exact .inr h
theorem sz1000 {n : Nat} (h : n ≤ 1000) : n ≤ sizeLine := Nat.le_trans h (by decide)
theorem lt1000 {n : Nat} (h : n ≤ 1000) : n < sizeLine := Nat.lt_of_le_of_lt h (by decide)
/-! ### the row of digits -/
structure Dig (row : List Int) : Prop where
  lo : ∀ v ∈ row, 0 ≤ v ∧ v < 16
def pick (row : List Int) (i : Int) (m : Int) : Int := (row.getD i.toNat 0 + 16 * row.getD (i.toNat + 1) 0) % m
theorem pick_lo {row : List Int} {i m : Int} (h : 0 < m) : 0 ≤ pick row i m := Int.emod_nonneg _ (by omega)
theorem pick_hi {row : List Int} {i m : Int} (h : 0 < m) : pick row i m < m := Int.emod_lt_of_pos _ h
def spRow (K : PySem.W.Frag) : Sp := fun vs H Q _ => ∃ (a : Addr) (ns : List Int) (m : Int), vs = [.ref a, .int m] ∧ SqL K H a (ns.map V.int) ∧ ns.length ≤ 63 ∧ 0 ≤ m ∧ m ≤ 900 ∧
  ∀ (H' : Hp) (p : Addr) (row : List Int), Same H H' → H p = none → H' p = some (.lst (row.map V.int)) → (row.length : Int) ≤ m → Dig row → Q (.ref p) H'
def spPick (K : PySem.W.Frag) : Sp := fun vs H Q _ => ∃ (a : Addr) (row : List Int) (i m : Int), vs = [.ref a, .int i, .int m] ∧ SqL K H a (row.map V.int) ∧ Dig row ∧ 0 ≤ i ∧ i < 100000 ∧ 0 < m ∧ Q (.int (pick row i m)) H
theorem atI_int {row : List Int} {i : Int} (h0 : 0 ≤ i) (h1 : i < (row.length : Int)) : atI (row.map V.int) i = some (.int (row.getD i.toNat 0)) := by
  obtain ⟨k, rfl⟩ := Int.eq_ofNat_of_zero_le h0
  have hk : k < row.length := by omega
  refine (atI_nat (xs := row.map V.int) (j := k) (v := .int (row.getD k 0)) ?_)
  rw [List.getElem?_map, List.getElem?_eq_getElem hk]
  simp [List.getD, List.getElem?_eq_getElem hk]
theorem getD_out {row : List Int} {k : Nat} (h : row.length ≤ k) : row.getD k 0 = 0 := by
  simp [List.getD, List.getElem?_eq_none h]
theorem dig_getD {row : List Int} (d : Dig row) (k : Nat) : 0 ≤ row.getD k 0 ∧ row.getD k 0 < 16 := by
  by_cases h : k < row.length
  · have e : row.getD k 0 = row[k] := by simp [List.getD, List.getElem?_eq_getElem h]
    rw [e]
    exact d.lo _ (List.getElem_mem h)
  · rw [getD_out (by omega)]
    omega
theorem dig_nil : Dig [] := ⟨fun v hv => nomatch hv⟩
theorem dig_more {row : List Int} {v : Int} (d : Dig row) (h0 : 0 ≤ v) (h1 : v < 16) : Dig (row ++ [v]) := ⟨fun u hu => by
  rcases List.mem_append.mp hu with hu | hu
  · exact d.lo u hu
  · rw [List.mem_singleton.mp hu]
    exact ⟨h0, h1⟩⟩
end Xg
namespace Xg
open PySem L2
open PySem.Spec PyProof.Rows
section
variable {X : Cx} {tg : Expr}
/-- a for over a list or a tuple -/
def iSeq (K : PySem.W.Frag) (tl : TE) : TI := fun σ H R => tl σ H fun x H1 => ∃ a, x = .ref a ∧ (((∃ xs, SqL K H1 a xs) ∧ R (Itl K a) H1) ∨ ((∃ xs, SqT K H1 a xs) ∧ R (Itt K a) H1))
theorem pi_seq {l : Expr} {tl : TE} (hl : PE X l tl) : PI X tg l (iSeq X.K tl) := by
  refine ⟨fun pins s σ H R I h => ?_⟩
  refine thn (hl.run pins s σ H _ I h) fun v s1 ⟨x, H1, I1, r1, q1⟩ => ?_
  obtain ⟨a, e, q1⟩ := q1
  subst e
  cases r1
  rcases q1 with ⟨⟨xs, hq⟩, q⟩ | ⟨⟨xs, hq⟩, q⟩
  · obtain ⟨its, rv, p, hz⟩ := I1.list hq
    refine wpAny_pyIter_list p.isList ?_
    refine ⟨s1.heap.objs.size, [s1.heap.objs.size], _, _, H1, rfl, I1.kept (t' := s1.toks) fun b o e => Heap.get?_push_of_some _ e, turn_list a _, ⟨_, Heap.get?_push_size _ rfl, rfl, rfl⟩, fun b hb => ?_, q⟩
    have e : b = s1.heap.objs.size := by simpa using hb
    subst e
    exact I1.fpOk (Nat.le_refl _) (I1.hok.fresh (Nat.le_refl _))
  · obtain ⟨its, rv, p, hz⟩ := I1.tuple hq
    refine wpAny_pyIter_tuple (show s1.heap.IsTuple a its.toArray from p) ?_
    refine ⟨s1.heap.objs.size, [s1.heap.objs.size], _, _, H1, rfl, I1.kept (t' := s1.toks) fun b o e => Heap.get?_push_of_some _ e, turn_tuple a _, ⟨_, Heap.get?_push_size _ rfl, rfl, rfl⟩, fun b hb => ?_, q⟩
    have e : b = s1.heap.objs.size := by simpa using hb
    subst e
    exact I1.fpOk (Nat.le_refl _) (I1.hok.fresh (Nat.le_refl _))
end
/-! ### data -/
theorem dpAll_ints {K : PySem.W.Frag} {H : Hp} : ∀ ns : List Int, DpAll K H (ns.map V.int) (ns.map PyData.int)
  | [] => .nil
  | n :: r => .cons (.int n) (dpAll_ints r)
theorem dp_L {K : PySem.W.Frag} {H : Hp} {a : Addr} {ns : List Int} (h : SqL K H a (ns.map V.int)) : Dp K H (.ref a) (.list (ns.map PyData.int)) := .lst h (dpAll_ints ns)
theorem dp_T {K : PySem.W.Frag} {H : Hp} {a : Addr} {ns : List Int} (h : SqT K H a (ns.map V.int)) : Dp K H (.ref a) (.tuple (ns.map PyData.int)) := .tup h (dpAll_ints ns)
theorem sh_L (ns : List Int) : PySem.SeqAt.shaped (.list (ns.map PyData.int)) = true := PySem.W.shaped_ints ns
theorem sh_T (ns : List Int) : PySem.SeqAt.shaped (.tuple (ns.map PyData.int)) = true := by
  have h1 := PySem.W.depthAll_ints ns
  have h2 : PyData.depth (.tuple (ns.map PyData.int)) ≤ 64 := by simp only [PyData.depth]; omega
  show (PyData.canLay0 (.tuple (ns.map PyData.int)) && decide (PyData.depth (.tuple (ns.map PyData.int)) ≤ 64)) = true
  rw [Bool.and_eq_true]
  exact ⟨by simp only [PyData.canLay0]; exact PySem.W.canLayAll0_ints ns, decide_eq_true h2⟩
theorem ev_L (ns : List Int) : PyData.eqv (.list (ns.map PyData.int)) (.list (ns.map PyData.int)) = true := PySem.SeqAt.eqv_refl _ (PySem.SeqAt.canLay_of_shaped (sh_L ns))
theorem ev_T (ns : List Int) : PyData.eqv (.tuple (ns.map PyData.int)) (.tuple (ns.map PyData.int)) = true := PySem.SeqAt.eqv_refl _ (PySem.SeqAt.canLay_of_shaped (sh_T ns))
end Xg
namespace Xg
open PySem L2
open PySem.Spec PyProof.Rows
/-! ### lists of texts as data -/
theorem dpAll_strs {K : PySem.W.Frag} {H : Hp} : ∀ zs : List Str, DpAll K H (zs.map V.str) (zs.map PyData.str)
  | [] => .nil
  | n :: r => .cons (.str n) (dpAll_strs r)
theorem dp_LS {K : PySem.W.Frag} {H : Hp} {a : Addr} {zs : List Str} (h : SqL K H a (zs.map V.str)) : Dp K H (.ref a) (.list (zs.map PyData.str)) := .lst h (dpAll_strs zs)
theorem lay_strs : ∀ zs : List Str, (∀ z ∈ zs, PyData.strOk z = true) → PyData.canLayAll0 (zs.map PyData.str) = true
  | [], _ => by simp [PyData.canLayAll0]
  | z :: r, h => by simp [PyData.canLayAll0, PyData.canLay0, lay_strs r fun y hy => h y (List.mem_cons_of_mem _ hy), h z List.mem_cons_self]
theorem deep_strs : ∀ zs : List Str, PyData.depthAll (zs.map PyData.str) ≤ 1
  | [] => by simp [PyData.depthAll]
  | _ :: r => by
    have q := deep_strs r
    simp only [List.map_cons, PyData.depthAll, PyData.depth]
    omega
theorem sh_LS {zs : List Str} (h : ∀ z ∈ zs, PyData.strOk z = true) : PySem.SeqAt.shaped (.list (zs.map PyData.str)) = true := by
  have h1 := deep_strs zs
  have h2 : PyData.depth (.list (zs.map PyData.str)) ≤ 64 := by simp only [PyData.depth]; omega
  show (PyData.canLay0 (.list (zs.map PyData.str)) && decide (PyData.depth (.list (zs.map PyData.str)) ≤ 64)) = true
  rw [Bool.and_eq_true]
  exact ⟨by simp only [PyData.canLay0]; exact lay_strs zs h, decide_eq_true h2⟩
theorem ev_LS {zs : List Str} (h : ∀ z ∈ zs, PyData.strOk z = true) : PyData.eqv (.list (zs.map PyData.str)) (.list (zs.map PyData.str)) = true := PySem.SeqAt.eqv_refl _ (PySem.SeqAt.canLay_of_shaped (sh_LS h))
end Xg
namespace Xg
open PySem L2 PySem.Spec PyProof.Rows
/-! ### what the top has left, told by one computation -/
def fnD (x : Str) (st : Stmt) : He.FnD := ⟨(x, none), x, x, defArgs st, defBody st, defScope st⟩
theorem df_mk {K : PySem.W.Frag} {h : Heap} {mg : Str → Option Value} {x : Str} {st : Stmt} {ps : List Str} (X : K.In h) (G : h.Ns mainGlobals mg) {fa : List He.Fa} {fn : List He.FnD} (c : He.SaysE fa fn K) (i : Nat)
    (h1 : fn[i]? = some (fnD x st)) (h2 : fa[2 * i]? = some (.glo x)) (h3 : fa[2 * i + 1]? = some (.keep x))
    (b : ∀ (kV doc pm : Value) (an : Option Addr) (cdv ct : Value) (us : List Value), us.length = ps.length → bindArgs (PySem.W.fnOf x x (defArgs st) (defBody st) (defScope st) .none kV doc pm an cdv ct) ⟨us, []⟩ = pure (ps.zip us)) :
    Df K mg x x st (He.ga K x) ps := by
  obtain ⟨oc, od, osl, kV, doc, pm, an, cdv, ct, l, cd⟩ := c.def_ i h1
  have k := He.keep_ok (c.fact _ h3)
  have F : Fun K x x st (He.ga K x) _ := fun_mk l cd k
  exact ⟨He.glo_ok X G (c.fact _ h2), k, _, F, F.binds b⟩
def kInt (K : PySem.W.Frag) (a : Addr) (x : Str) (i : Int) : Bool := match PySem.W.nsIn K a x with
  | some (some (.int j _)) => decide (j = i)
  | _ => false
theorem kInt_ok {K : PySem.W.Frag} {a : Addr} {x : Str} {i : Int} (h : kInt K a x i = true) : ∃ u, PySem.W.nsIn K a x = some (some u) ∧ RelV (.int i) u := by
  unfold kInt at h
  split at h
  · rename_i j t e
    have q := of_decide_eq_true h
    subst q
    exact ⟨_, e, t, rfl⟩
  · cases h
def dObs (K : PySem.W.Frag) (a : Addr) : Option (Bool × List (Option Str × Int)) := match K.lookup a with
  | some ⟨c, none, .dict es _, sl⟩ => some (decide (c = .type "dict") && decide (sl.size = 0), es.toList.map fun e => ((match e.key with
    | .str x _ => some x
    | _ => none), e.hash))
  | _ => none
theorem keys_of {P : Params} : ∀ {es : List DictEntry} {zs : List Str}, (es.map fun e => ((match e.key with
    | .str x _ => some x
    | _ => none : Option Str), e.hash)) = zs.map (fun x => (some x, PyData.keyHash P x)) → PySem.W.KeysLit P es
  | [], _, _ => True.intro
  | _ :: _, [], h => by cases h
  | e :: es, z :: zs, h => by
    rw [List.map_cons, List.map_cons] at h
    injection h with h1 h2
    injection h1 with h3 h4
    refine ⟨?_, keys_of h2⟩
    cases hk : e.key with
    | str x t =>
      rw [hk] at h3
      have h5 : some x = some z := h3
      cases h5
      exact ⟨z, t, rfl, h4⟩
    | _ =>
      rw [hk] at h3
      cases h3
theorem dObs_ok {K : PySem.W.Frag} {P : Params} {a : Addr} {zs : List Str} (h : dObs K a = some (true, zs.map fun x => (some x, PyData.keyHash P x))) : ∃ es n, K.lookup a = some ⟨.type "dict", none, .dict es n, #[]⟩ ∧ PySem.W.KeysLit P es.toList := by
  unfold dObs at h
  split at h
  · rename_i c es n sl e
    injection h with h
    injection h with h1 h2
    obtain ⟨h3, h4⟩ := Bool.and_eq_true_iff.mp h1
    have h5 := of_decide_eq_true h3
    have h6 := Array.eq_empty_of_size_eq_zero (of_decide_eq_true h4)
    subst h5 h6
    exact ⟨es, n, e, keys_of h2⟩
  · cases h
end Xg
namespace Xg
open PySem L2 PySem.Spec PyProof.Rows
/-- an own error's class and its maker, told by rows that each compute -/
theorem stxt_mk {P : Program} {K : PySem.W.Frag} {h : Heap} {mg : Str → Option Value} {x f txt : Str} {C fI : Addr} (X : K.In h) (G : h.Ns mainGlobals mg) (fok : XgSup.FOk f)
    (gC : PySem.W.nsIn K mainGlobals x = some (some (.ref C)))
    (iC : PySem.W.findIn K (.ref C) "__init__" = some (some (.ref fI)))
    {nm q N bs bm sn sub ab col dd k0 k1 k2 k3 k5} (cl1 : K.lookup C = some (excClassObj nm q C N bs bm true sn sub ab col dd k0 k1 k2 k3 k5 "ValueError.__new__")) (cl2 : HandSPX.refsVE bm = true)
    (sa : PySem.W.findIn K (.ref C) "__setattr__" = some (some (.builtin "object.__setattr__")))
    (ga : PySem.W.findIn K (.ref C) "__getattribute__" = some (some (.builtin "BaseException.__getattribute__")))
    (gg : PySem.W.findIn K (.ref C) "__getattr__" = some none) (noN : PySem.W.findIn K (.ref C) f = some none)
    (tC : PySem.W.typeIn K (.ref fI) = some (.type "function")) (kC : PySem.W.keepIn K (.ref C) = true)
    (exC : PySem.W.subIn K (.ref C) (.type "BaseException") = some true) (veC : PySem.W.subIn K (.ref C) (.type "ValueError") = some true)
    (tyC : PySem.W.typeIn K (.ref C) = some (.type "type")) (hdC : PySem.W.hasDictIn K C = true)
    (sup : PySem.W.ks_superIn K C C "__init__" = some (some (.builtin "ValueError.__init__"))) (slf : PySem.W.mroIn K C (.ref C) = some true)
    (nop : PySem.W.nsIn K cStatics "thirdparty.any" = some none) (gS : PySem.W.nsIn K mainGlobals "super" = some none)
    (tops : (P.main.scope.names.lookup ("super" : Str)).isSome = false)
    {qual : Str} {oc : Value} {od : Option Addr} {doc pm : Value} {an : Option Addr} {cda cc : Addr} {ct : Value} {osl : Array (Option Value)} {p1 p2 a1 a2 a3 a4 a5 b1 b2 b3 b4 c1 c2 c3 c4 : Pos}
    {ccl : Value} {cdd : Option Addr} {vs : Array Value} {ccs : Array (Option Value)} {file : Str} {tf : Tok} {cl : Value} {cld : Option Addr} {csl : Array (Option Value)}
    (g1 : K.lookup fI = some ⟨oc, od, .func (PySem.W.ksFn "__init__" qual (XgSup.mA f p1 p2) (XgSup.mB f txt a1 a2 a3 a4 a5 b1 b2 b3 b4 c1 c2 c3 c4) (XgSup.mS f) .none .none doc pm an (.ref cda) ct cc), osl⟩)
    (g2 : PySem.W.codeIn K (.ref cda) qual = true)
    (g3 : K.lookup cda = some ⟨ccl, cdd, .fields vs, ccs⟩) (g4 : vs[2]? = some (.str file tf)) (g5 : ((P.main.file : Str) == file) = true)
    (g6 : K.lookup cc = some ⟨cl, cld, .cell (some (.ref C)), csl⟩) (g7 : XgSup.AskOk qual f txt a1 a2 a3 a4 b1 b2 b3 b4 fI cda cc) :
    XgSup.STxt P K mg x f txt C fI :=
  ⟨fok, PySem.W.mg_of X G gC, ⟨_, _, _, _, _, _, _, _, _, _, _, _, _, _, _, cl1, cl2⟩, sa, ga, gg, noN, iC, tC, kC, exC, veC, tyC, hdC, sup, slf, nop, PySem.W.mg_none_of X G gS, tops,
    ⟨_, _, _, _, _, _, _, _, _, _, _, _, _, _, _, _, _, _, _, _, _, _, _, _, _, _, _, _, _, _, _, _, _, _, g1, g2, g3, g4, g5, g6, g7⟩⟩
theorem excC_mk {K : PySem.W.Frag} {D : Addr} (h1 : PySem.W.findIn K (.ref D) "__getattribute__" = some (some (.builtin "BaseException.__getattribute__"))) (h2 : PySem.W.findIn K (.ref D) "__getattr__" = some none)
    (h3 : PySem.W.subIn K (.ref D) (.type "BaseException") = some true) (h4 : PySem.W.hasDictIn K D = true) (h5 : PySem.W.findIn K (.ref D) "__class__" = some (some (.builtin "object.__class__")))
    (h6 : PySem.W.specialIn K (.builtin "object.__class__") "__get__" = some (some (.builtin "getset_descriptor.__get__"))) (h7 : PySem.W.takesIn K (.builtin "object.__class__") = some true) (h8 : PySem.W.mroIn K D (.type "object") = some true) : ExcC K D :=
  ⟨h1, h2, h3, h4, h5, h6, h7, h8⟩
end Xg
namespace Xg
open PySem L2 PySem.Spec PyProof.Rows
/-- an own error's class and its maker, told by rows that each compute -/
theorem stxt_mk2 {P : Program} {K : PySem.W.Frag} {h : Heap} {mg : Str → Option Value} {x : Str} {C fI : Addr} (X : K.In h) (G : h.Ns mainGlobals mg)
    (gC : PySem.W.nsIn K mainGlobals x = some (some (.ref C)))
    (iC : PySem.W.findIn K (.ref C) "__init__" = some (some (.ref fI)))
    {nm q N bs bm sn sub ab col dd k0 k1 k2 k3 k5} (cl1 : K.lookup C = some (excClassObj nm q C N bs bm true sn sub ab col dd k0 k1 k2 k3 k5 "ValueError.__new__")) (cl2 : HandSPX.refsVE bm = true)
    (sa : PySem.W.findIn K (.ref C) "__setattr__" = some (some (.builtin "object.__setattr__")))
    (ga : PySem.W.findIn K (.ref C) "__getattribute__" = some (some (.builtin "BaseException.__getattribute__")))
    (gg : PySem.W.findIn K (.ref C) "__getattr__" = some none) (noL : PySem.W.findIn K (.ref C) XgSup2.fL = some none) (noC : PySem.W.findIn K (.ref C) XgSup2.fC = some none)
    (tC : PySem.W.typeIn K (.ref fI) = some (.type "function")) (kC : PySem.W.keepIn K (.ref C) = true)
    (exC : PySem.W.subIn K (.ref C) (.type "BaseException") = some true) (veC : PySem.W.subIn K (.ref C) (.type "ValueError") = some true)
    (tyC : PySem.W.typeIn K (.ref C) = some (.type "type")) (hdC : PySem.W.hasDictIn K C = true)
    (sup : PySem.W.ks_superIn K C C "__init__" = some (some (.builtin "ValueError.__init__"))) (slf : PySem.W.mroIn K C (.ref C) = some true)
    (nop : PySem.W.nsIn K cStatics "thirdparty.any" = some none) (gS : PySem.W.nsIn K mainGlobals "super" = some none)
    (tops : (P.main.scope.names.lookup ("super" : Str)).isSome = false)
    {qual : Str} {oc : Value} {od : Option Addr} {doc pm : Value} {an : Option Addr} {cda cc : Addr} {ct : Value} {osl : Array (Option Value)} {p1 p2 p3 a1 a2 a3 a4 a5 b1 b2 b3 b4 b5 b6 b7 c1 c2 c3 c4 d1 d2 d3 d4 : Pos}
    {ccl : Value} {cdd : Option Addr} {vs : Array Value} {ccs : Array (Option Value)} {file : Str} {tf : Tok} {cl : Value} {cld : Option Addr} {csl : Array (Option Value)}
    (g1 : K.lookup fI = some ⟨oc, od, .func (PySem.W.ksFn "__init__" qual (XgSup2.mA p1 p2 p3) (XgSup2.mB a1 a2 a3 a4 a5 b1 b2 b3 b4 b5 b6 b7 c1 c2 c3 c4 d1 d2 d3 d4) XgSup2.mS .none .none doc pm an (.ref cda) ct cc), osl⟩)
    (g2 : PySem.W.codeIn K (.ref cda) qual = true)
    (g3 : K.lookup cda = some ⟨ccl, cdd, .fields vs, ccs⟩) (g4 : vs[2]? = some (.str file tf)) (g5 : ((P.main.file : Str) == file) = true)
    (g6 : K.lookup cc = some ⟨cl, cld, .cell (some (.ref C)), csl⟩) (g7 : XgSup2.AskOk qual a1 a2 a3 a4 b1 b2 b3 b4 b5 b6 b7 fI cda cc) :
    XgSup2.STxt P K mg x C fI :=
  ⟨PySem.W.mg_of X G gC, ⟨_, _, _, _, _, _, _, _, _, _, _, _, _, _, _, cl1, cl2⟩, sa, ga, gg, noL, noC, iC, tC, kC, exC, veC, tyC, hdC, sup, slf, nop, PySem.W.mg_none_of X G gS, tops,
    ⟨_, _, _, _, _, _, _, _, _, _, _, _, _, _, _, _, _, _, _, _, _, _, _, _, _, _, _, _, _, _, _, _, _, _, _, _, _, _, _, _, _, _, g1, g2, g3, g4, g5, g6, g7⟩⟩
end Xg
namespace XgOwn
open PySem PySem.Spec PyProof.Rows L2
/-! ### a def whose promise may know how many objects there are when it starts -/
structure FnS (P : Program) (w : World) (K : PySem.W.Frag) (mg : Str → Option Value) (base : Heap) (k : Nat) (f : Addr) (fd : FuncData) (ps : List Str) (sp : Nat → Sp) : Prop where
  ln : ∀ n vs H Q E, sp n vs H Q E → vs.length = ps.length
  go : ∀ {A : Around} {outer : List Env} {s : Shared} {H : Hp} {args : Args} {us : List Value} {vs : List V} {Q : VK}, Room k A → Env0 P w K mg base A outer s H → BindsTo s fd args (ps.zip us) → Vals vs us → sp s.heap.objs.size vs H Q E0 →
    codeAny (model P w) A (.call (.ref f) args) (CR CX0 outer P w H s Q E0) s
section
variable {P : Program} {w : World} {K : PySem.W.Frag} {mg : Str → Option Value} {base : Heap}
theorem fnS_mk {x qual : Str} {st : Stmt} {f : Addr} {fd : FuncData} {N ps : List Str} {k : Nat} {sp : Nat → Sp} (F : Fun K x qual st f fd) (S : FnScope N ps (defScope st)) (ln : ∀ n vs H Q E, sp n vs H Q E → vs.length = ps.length)
    (hb : ∀ (cdv : Value) (A : Around) (outer : List Env) (s : Shared) (H : Hp) (vs : List V) (Q : VK), Room k (A.deeper (envOfC qual (defScope st) s.heap.objs.size f cdv)) → sp s.heap.objs.size vs H Q E0 →
      ∃ t, PSs (cxOf CX0 P w K mg base N qual (defScope st) f cdv A outer s H E0).nox (defBody st) t ∧ t { nx := fun _ H' => Q .non H', rt := Q } (start N vs) H) : FnS P w K mg base (k + 1) f fd ps sp := by
  obtain ⟨oc, od, kV, doc, pm, an, cdv, ct, osl, rfl, lk, hcd⟩ := F.ex
  refine ⟨ln, fun {A outer s H args us vs Q} hr e0 bt r hsp => ?_⟩
  have hl := ln _ _ _ _ _ hsp
  have kx : K.In s.heap := e0.mod.kin.keeps fun b o e => And.left (e0.bs b o e)
  have nl : s.heap.NoLimit := e0.mod.nolimit.keeps fun b o e => And.left (e0.bs b o e)
  refine codeAny_call_function hr.depth (kx _ _ lk) rfl S.co S.gen rfl (PySem.W.codeRec_of kx hcd) (bt _ _ _ _ ?_)
  refine wpAny_newFunctionEnv_cells S.kind ?_ fun env he s1 x => ?_
  · rintro ⟨n, v⟩ hy
    rcases S.par n (List.of_mem_zip hy).1 with q | q
    · exact Or.inl q
    · exact Or.inr ⟨q, PySem.W.cellsFrom_some _ _ _ (Or.inl q)⟩
  subst he
  refine ⟨nl.keeps x.toInCall.keep, codeAny_func ?_⟩
  obtain ⟨t, ht, hq⟩ := hb cdv A outer s H vs Q (hr.deeper _) hsp
  have I : Inv (cxOf CX0 P w K mg base N qual (defScope st) f cdv A outer s H E0) [] (start N vs) H s1 := inv_start S hr.hd e0 hl r x
  refine wpAny_mono (ht.nox.run [] s1 (start N vs) H _ I hq) (fun fl s' hs => ?_) fun e s' hs => hs
  cases fl with
  | ret u =>
    obtain ⟨v, _, H', J, rv, q⟩ := hs
    exact ⟨v, H', J.os, J.bare, J.base, J.hok, rv, q⟩
  | next =>
    obtain ⟨_, H', J, q⟩ := hs
    exact ⟨V.non, H', J.os, J.bare, J.base, J.hok, rfl, q⟩
  | brk =>
    obtain ⟨_, _, _, q⟩ := hs
    exact q.elim
  | cont =>
    obtain ⟨_, _, _, q⟩ := hs
    exact q.elim
end
section
variable {X : Cx} {k : Nat} {f : Addr} {fd : FuncData} {ps : List Str} {sp : Nat → Sp}
theorem runS {A1 : Around} {pins : List (Addr × Obj)} {σ : L2.St} {H : Hp} {s : Shared} {Q : VK} {us : List Value} {vs : List V} (F : FnS X.prog X.w X.K X.mg X.base k f fd ps sp) (sb : Sub X k A1) (hb : Binds X.K fd ps [])
    (I : Inv X pins σ H s) (r : Vals vs us) (h : sp s.heap.objs.size vs H Q E0) : wpAny (model X.prog X.w) A1 (call (.ref f) us) (EP X pins σ Q) X.xe s := by
  have e := I.env0
  have e0 : Env0 X.prog X.w X.K X.mg X.base A1 X.stack s H := ⟨sb.fr.trans e.frames, e.mod, e.bs, e.bsz, e.funs, e.frf, e.hok, e.bare⟩
  have hl : us.length = ps.length := r.length.symm.trans (F.ln _ _ _ _ _ h)
  have bt := hb s us I.kIn (by simpa using hl)
  rw [List.append_nil] at bt
  refine wpAny_call (codeAny_mono (F.go sb.room e0 bt r h) fun r s' hq => ?_)
  cases r with
  | error e => exact hq.elim
  | ok fl =>
    cases fl with
    | ret u => exact I.after hq
    | _ => exact hq.elim
end
end XgOwn
namespace XgOwn
open PySem PySem.Spec PyProof.Rows L2
/-! ### a tuple's iterator, known by its one object -/
def tiObj (t : Addr) (i : Nat) : Obj := { cls := .type "tuple_iterator", data := .fields #[.ref t, .int i 0] }
def TiO (t it : Addr) : HO := .ext fun h => h.get? it = some (tiObj t 0)
theorem tiO_ok {P : Program} {w : World} {H : Hp} {h : Heap} {t it : Addr} (e : h.get? it = some (tiObj t 0)) : ObjOk P w H h it (TiO t it) := ⟨e, ⟨_, e⟩, fun h1 h2 q k => k _ q⟩
section
variable {X : Cx}
/-- iter(xs), xs a tuple -/
def rIterT (K : PySem.W.Frag) (n : Nat) : List V → Hp → VK → Prop := fun xs H Q => ∃ (t : Addr) (zs : List V), xs = [.ref t] ∧ SqT K H t zs ∧ ∀ it, H it = none → n ≤ it → Q (.ref it) (upd H it (TiO t it))
theorem call_iterT : CallR X (.builtin "iter") (rIterT X.K X.s_0.heap.objs.size) := by
  intro pins s σ H xs us Q I r h
  obtain ⟨t, zs, rfl, hq, q⟩ := h
  obtain ⟨u, rfl, ru⟩ := r.one
  cases ru
  obtain ⟨its, rv, pt, hz⟩ := I.tuple hq
  refine Calls.call_function_entry (by decide +kernel) (by decide +kernel) PySem.W.kdk_entry_iter (PySem.W.kdk_args_iter _) ?_
  unfold Builtin.«iter»
  refine wpAny_bind (m := someArgs "iter" 1 2 _) (wpAny_of_eq (a := [Value.ref t]) (by first | rfl | kernel_rfl!) ?_)
  show wpAny _ _ (pyIter (.ref t) >>= _) _ _ _
  refine wpAny_bind (wpAny_pyIter_tuple (show s.heap.IsTuple t its.toArray from pt) ?_)
  refine wpAny_pure ⟨.ref s.heap.objs.size, rfl, ?_⟩
  exact ⟨.ref s.heap.objs.size, _, I.laid (t' := s.toks) (fun b u e => Heap.get?_push_of_some _ e) (Nat.le_refl _) (tiO_ok (Heap.get?_push_size _ rfl)), rfl, q _ (I.hok.fresh (Nat.le_refl _)) I.sz⟩
end
/-! ### own operators, own in -/
section
variable {X : Cx} {C f a : Addr} {fd : FuncData} {ps : List Str} {sp : Sp} {k : Nat} {E : XK} {CI : CXT}
/-- x OP y, both of the class at C, by its own def: sp is the def's promise -/
def rOpO (C : Addr) (sp : Sp) (E : XK) : R2 := fun x y H Q => ∃ a b dx dy fs gs, x = .ref a ∧ y = .ref b ∧ H a = some (.ins C dx fs) ∧ H b = some (.ins C dy gs) ∧ sp [.ref a, .ref b] H (fun v H' => (∃ p, v = .ref p) ∧ Q v H') E
theorem op_own {op : Operator} (FN : FnOk X.prog X.w X.K X.mg X.base CI k f fd ps sp) (hr : Room k X.A) (hb : Binds X.K fd ps []) (hx : Passes CI X E) (hc : PySem.W.selfFirst X.K C = true)
    (hs : PySem.W.findIn X.K (.ref C) (PySem.dunder op.info.2) = some (some (.ref f))) (hf : PySem.W.isFn X.K (.ref f) = true) : OpR X (binaryOp op) (rOpO C sp E) := by
  intro pins s σ H x y v u Q I rx ry h
  obtain ⟨a, b, dx, dy, fs, gs, rfl, rfl, ha, hb', hsp⟩ := h
  cases rx
  cases ry
  obtain ⟨mA, J, _⟩ := ins_get I.hok ha
  obtain ⟨mB, J', _⟩ := ins_get I.hok hb'
  obtain ⟨od, J, _⟩ := J.look
  obtain ⟨od', J', _⟩ := J'.look
  obtain ⟨m, hF⟩ := I.fr
  refine PySem.W.binop_K hF I.ok.mod.kin J J'.type hc hs hf ?_
  refine thn (run_fn (ds := []) (dvs := []) FN hr hb .nil hx I (vs := [.ref a, .ref b]) (us := [.ref a, .ref b]) (.cons rfl (.cons rfl .nil)) hsp) fun w s' hq => ?_
  obtain ⟨z, H', I', rz, ⟨p, ez⟩, q⟩ := hq
  subst ez
  cases rz
  exact ⟨.ref p, H', I', rfl, q⟩
/-- v in o, o of the class at C, by its own def, whose answer is a bool -/
def rInO (C : Addr) (neg : Bool) (sp : Sp) (E : XK) : R2 := fun x y H Q => ∃ a dx fs, y = .ref a ∧ H a = some (.ins C dx fs) ∧ sp [.ref a, x] H (fun v H' => ∃ c, v = .bl c ∧ Q (.bl (if neg then !c else c)) H') E
theorem op_inO (FN : FnOk X.prog X.w X.K X.mg X.base CI k f fd ps sp) (hr : Room k X.A) (hb : Binds X.K fd ps []) (hx : Passes CI X E)
    (hs : PySem.W.findIn X.K (.ref C) "__contains__" = some (some (.ref f))) (hf : PySem.W.isFn X.K (.ref f) = true) : OpR X (compareOp .In) (rInO C false sp E) := by
  intro pins s σ H x y v u Q I rx ry h
  obtain ⟨a, dx, fs, rfl, ha, hsp⟩ := h
  cases ry
  obtain ⟨mA, J, _⟩ := ins_get I.hok ha
  obtain ⟨od, J, _⟩ := J.look
  obtain ⟨m, hF⟩ := I.fr
  refine PySem.W.in_K hF I.ok.mod.kin J hs hf ?_
  refine thn (run_fn (ds := []) (dvs := []) FN hr hb .nil hx I (vs := [.ref a, x]) (us := [.ref a, v]) (.cons rfl (.cons rx .nil)) hsp) fun w s' hq => ?_
  obtain ⟨z, H', I', rz, c, ez, q⟩ := hq
  subst ez
  cases rz
  exact wpAny_truthy_bool ⟨.bl c, H', I', rfl, q⟩
end
end XgOwn
namespace XgOwn
open PySem PySem.Spec PyProof.Rows L2
/-! ### walking an own object whose __iter__ hands out its tuple's iterator -/
def spIter (K : PySem.W.Frag) (C : Addr) (fld : Str) : Nat → Sp := fun n vs H Q _ => ∃ a dx fs t zs, vs = [.ref a] ∧ H a = some (.ins C dx fs) ∧ fs.lookup fld = some (.ref t) ∧ SqT K H t zs ∧ ∀ it, H it = none → n ≤ it → Q (.ref it) (upd H it (TiO t it))
structure ItsC (K : PySem.W.Frag) (C fi : Addr) : Prop where
  it : PySem.W.findIn K (.ref C) "__iter__" = some (some (.ref fi))
  itF : PySem.W.isFn K (.ref fi) = true
  nolen : PySem.W.findIn K (.ref C) "__len__" = some none
  nohint : PySem.W.findIn K (.ref C) "__length_hint__" = some none
section
variable {X : Cx} {C fi : Addr} {fd : FuncData} {ps : List Str} {k : Nat} {fld : Str}
/-- __iter__ runs, the iterator stands there young and untouched -/
theorem own_iter {A1 : Around} {pins : List (Addr × Obj)} {σ : L2.St} {H : Hp} {s : Shared} {a dx t : Addr} {fs : List (Str × V)} {zs : List V} {Q : Value → Shared → Prop} (sb : Sub X k A1) (hc : ItsC X.K C fi)
    (F : FnS X.prog X.w X.K X.mg X.base k fi fd ps (spIter X.K C fld)) (hb : Binds X.K fd ps []) (I : Inv X pins σ H s) (ha : H a = some (.ins C dx fs)) (hl : fs.lookup fld = some (.ref t)) (ht : SqT X.K H t zs)
    (hq : ∀ (it : Addr) (s' : Shared), Inv X pins σ H s' → s'.heap.IsTupleIter it t 0 → FpOk X pins H it → Q (.ref it) s') : wpAny (model X.prog X.w) A1 (pyIter (.ref a)) Q X.xe s := by
  obtain ⟨mA, J, _⟩ := ins_get I.hok ha
  obtain ⟨od, J, _⟩ := J.look
  obtain ⟨m, hF⟩ := I.fr
  refine PySem.W.owit_iter hF I.ok.mod.kin J hc.it hc.itF ?_
  refine thn (runS (vs := [.ref a]) (us := [.ref a]) (Q := fun v H' => ∃ it, v = .ref it ∧ H it = none ∧ s.heap.objs.size ≤ it ∧ H' = upd H it (TiO t it)) F sb hb I (.cons rfl .nil) ⟨a, dx, fs, t, zs, rfl, ha, hl, ht, fun it h1 h2 => ⟨it, rfl, h1, h2, rfl⟩⟩) fun w s' hh => ?_
  obtain ⟨v, H', I', rv, it, ev, h1, h2, eH⟩ := hh
  subst ev eH
  cases rv
  have eo : s'.heap.get? it = some (tiObj t 0) := (I'.hok it _ upd_same).1
  have st : s'.heap.IsTupleIter it t 0 := ⟨_, eo, rfl, rfl⟩
  have I2 : Inv X pins σ (ItX.dropH (upd H it (TiO t it)) it) s' := ItX.inv_drop I' upd_same
  have fp := ItX.inv_fp I' (a := it) upd_same (Nat.le_trans I.sz h2)
  rw [ItX.dropH_upd h1] at I2 fp
  unfold PySem.W.OwitIt
  exact wpAny_specialOf (s := s') ⟨_, eo, rfl⟩ PyProof.Rows.slot_tupleiter_next.lookup (hq it s' I2 st fp)
/-- a for over a list, a tuple or such an object -/
def iAny (K : PySem.W.Frag) (C : Addr) (fld : Str) (tl : TE) : TI := fun σ H R => tl σ H fun x H1 => ∃ a, x = .ref a ∧ (((∃ xs, SqL K H1 a xs) ∧ R (Itl K a) H1) ∨ ((∃ xs, SqT K H1 a xs) ∧ R (Itt K a) H1) ∨
  ∃ dx fs t zs, H1 a = some (.ins C dx fs) ∧ fs.lookup fld = some (.ref t) ∧ SqT K H1 t zs ∧ R (Itt K t) H1)
theorem pi_any {tg l : Expr} {tl : TE} (hl : PE X l tl) (hr : Room k X.A) (hc : ItsC X.K C fi) (F : FnS X.prog X.w X.K X.mg X.base k fi fd ps (spIter X.K C fld)) (hb : Binds X.K fd ps []) : PI X tg l (iAny X.K C fld tl) := by
  refine ⟨fun pins s σ H R I h => ?_⟩
  refine thn (hl.run pins s σ H _ I h) fun v s1 ⟨x, H1, I1, r1, q1⟩ => ?_
  obtain ⟨a, e, q1⟩ := q1
  subst e
  cases r1
  have young : ∀ b ∈ [s1.heap.objs.size], FpOk X pins H1 b := fun b hb => by
    rw [List.mem_singleton.mp hb]
    exact I1.fpOk (Nat.le_refl _) (I1.hok.fresh (Nat.le_refl _))
  rcases q1 with ⟨⟨xs, hq⟩, q⟩ | ⟨⟨xs, hq⟩, q⟩ | ⟨dx, fs, t, zs, ha, hlk, ht, q⟩
  · obtain ⟨its, rv, p, hz⟩ := I1.list hq
    refine wpAny_pyIter_list p.isList ?_
    exact ⟨s1.heap.objs.size, [s1.heap.objs.size], _, _, H1, rfl, I1.kept (t' := s1.toks) fun b o e => Heap.get?_push_of_some _ e, turn_list a _, ⟨_, Heap.get?_push_size _ rfl, rfl, rfl⟩, young, q⟩
  · obtain ⟨its, rv, p, hz⟩ := I1.tuple hq
    refine wpAny_pyIter_tuple (show s1.heap.IsTuple a its.toArray from p) ?_
    exact ⟨s1.heap.objs.size, [s1.heap.objs.size], _, _, H1, rfl, I1.kept (t' := s1.toks) fun b o e => Heap.get?_push_of_some _ e, turn_tuple a _, ⟨_, Heap.get?_push_size _ rfl, rfl, rfl⟩, young, q⟩
  · refine own_iter ⟨hr, rfl⟩ hc F hb I1 ha hlk ht fun it s2 I2 st fp => ?_
    refine ⟨it, [it], _, _, H1, rfl, I2, turn_tuple t it, st, fun b hb => ?_, q⟩
    rw [List.mem_singleton.mp hb]
    exact fp
end
end XgOwn
namespace XgOwn
open PySem PySem.Spec PyProof.Rows L2
/-! ### list(o) of such an object -/
section
variable {X : Cx} {C fi : Addr} {fd : FuncData} {ps : List Str} {k : Nat} {fld : Str} {pins : List (Addr × Obj)} {σ : L2.St} {H : Hp}
theorem hint_none {M : Model} {A : Around} {E : Value → Shared → Prop} {s : Shared} {Q : Bool → Shared → Prop} {K : PySem.W.Frag} {a : Addr} {ox : Obj} {od : Option Obj} (hc : ItsC K C fi) (hK : K.In s.heap) (J : PySem.W.InstAt s.heap a ox C od) (h : Q true s) :
    wpAny M A (Builtin.List.listLengthHint (.ref a)) Q E s := by
  have q1 := PySem.W.looks_findIn (M := M) hK hc.nolen
  have q2 := PySem.W.looks_findIn (M := M) hK hc.nohint
  unfold Builtin.List.listLengthHint
  refine wpAny_bind (wpAny_bind (J.type.here (q1.here ?_)))
  refine PySem.W.KFB.if_not rfl (PySem.W.KFB.if_not rfl ?_)
  exact wpAny_bind (wpAny_bind (J.type.here (q2.here (wpAny_pure h))))
theorem tup_loop {A1 : Around} {Rs : Result → Shared → Prop} {q it t : Addr} {zs : List V} (hd : A1.in1.handled = none) (hq0 : H q = none) (ht : SqT X.K H t zs) (hdone : ∀ s, Inv X pins σ (upd H q (.lst zs)) s → Rs (.ok (.ret .none)) s) :
    ∀ (m i : Nat) (s : Shared), m + i = zs.length → Inv X pins σ (upd H q (.lst (zs.take i))) s → s.heap.IsTupleIter it t i → FpOk X pins (upd H q (.lst (zs.take i))) it →
      codeAny (model X.prog X.w) A1 (.builtin "list.extend.loop" ⟨[.ref q, .ref it, .none], []⟩) Rs s := by
  intro m
  induction m with
  | zero =>
    intro i s hm I st fp
    have hi : i = zs.length := by omega
    have ht' : SqT X.K (upd H q (.lst (zs.take i))) t zs := Xg.same_sqT (Xg.same_new (Same.refl H) hq0) ht
    obtain ⟨its, rv, p, hz⟩ := I.tuple ht'
    obtain ⟨f0, f1, f2, f3, f4, f5⟩ := fp
    have hl := rv.length
    refine codeAny_builtin PySem.F.entry_extend_loop ?_
    rw [Around.under_plainId PySem.F.plain_extend_loop _]
    show wpAny _ A1.in1 (pyNext (.ref it) >>= _) _ _ s
    refine wpAny_bind (wpAny_pyNext_tuple_end hd st (show s.heap.IsTuple t its.toArray from p) (by simp; omega) fun h' eb => ?_)
    refine wpAny_pure (hdone _ ?_)
    have I1 := I.turned (t' := s.toks) (fun b o hb e => eb b o hb e) f0 f1 f3 f4 f5
    rw [hi, List.take_length] at I1
    exact I1
  | succ m ih =>
    intro i s hm I st fp
    have hi : i < zs.length := by omega
    have ht' : SqT X.K (upd H q (.lst (zs.take i))) t zs := Xg.same_sqT (Xg.same_new (Same.refl H) hq0) ht
    obtain ⟨its, rv, p, hz⟩ := I.tuple ht'
    have hx : zs[i]? = some zs[i] := List.getElem?_eq_getElem hi
    obtain ⟨u, hu, ru⟩ := rv.get hx
    have fp' := fp
    obtain ⟨f0, f1, f2, f3, f4, f5⟩ := fp
    refine codeAny_builtin PySem.F.entry_extend_loop ?_
    rw [Around.under_plainId PySem.F.plain_extend_loop _]
    show wpAny _ A1.in1 (pyNext (.ref it) >>= _) _ _ s
    refine wpAny_bind (wpAny_pyNext_tuple_item st (show s.heap.IsTuple t its.toArray from p) (x := u) (by simpa using hu) fun h' st' sb => ?_)
    have I1 : Inv X pins σ (upd H q (.lst (zs.take i))) { s with heap := h' } := I.turned (t' := s.toks) (fun b o hb e => (sb.2 b hb).trans e) f0 f1 f3 f4 f5
    show wpAny _ A1.in1 (updateSeq q (·.push u) >>= _) _ _ _
    obtain ⟨z, its2, k2, r2, hl2, e⟩ := I1.lstM upd_same
    have hn : it ≠ q := fun z => by rw [z, upd_same] at f0; cases f0
    have hz2 : zs.length ≤ sizeLine := hz
    have l2 : its2.length ≤ sizeLine := by
      have := r2.length
      rw [List.length_take] at this
      omega
    refine wpAny_bind (wpAny_updateSeq e rfl (wpAny_pure ⟨plainId_quiet PySem.F.plain_extend_loop _, ?_⟩) (by rw [List.size_toArray]; omega) (by show (its2.toArray.push u).size ≤ sizeLine + 1; rw [Array.size_push, List.size_toArray]; omega))
    have tk : zs.take (i + 1) = zs.take i ++ [zs[i]] := by
      rw [List.take_succ, hx]
      rfl
    have I2 := I1.lset (f := (·.push u)) (its' := its2 ++ [u]) (ys := zs.take (i + 1)) (t' := s.toks) upd_same e (by simp) (by rw [tk]; exact r2.append (.cons ru .nil)) (by rw [List.length_take]; omega)
    rw [upd_upd] at I2
    refine ih (i + 1) _ (by omega) I2 ?_ ⟨by rw [upd_ne hn]; rw [upd_ne hn] at f0; exact f0, f1, f2, f3, f4, f5⟩
    exact st'.at fun o ho => (Heap.get?_update_other _ _ (Ne.symm hn)).trans ho
end
end XgOwn
namespace XgOwn
open PySem PySem.Spec PyProof.Rows L2
section
variable {X : Cx} {C fi : Addr} {fd : FuncData} {ps : List Str} {k : Nat} {fld : Str} {pins : List (Addr × Obj)} {σ : L2.St} {H : Hp}
theorem tup_extend {A1 : Around} {Rs : Result → Shared → Prop} {s : Shared} {q a dx t : Addr} {fs : List (Str × V)} {zs : List V} (sb : Sub X k A1.in1) (hc : ItsC X.K C fi)
    (F : FnS X.prog X.w X.K X.mg X.base k fi fd ps (spIter X.K C fld)) (hb : Binds X.K fd ps []) (hq0 : H q = none) (I : Inv X pins σ (upd H q (.lst [])) s) (ha : H a = some (.ins C dx fs)) (hlk : fs.lookup fld = some (.ref t)) (ht : SqT X.K H t zs)
    (hdone : ∀ s, Inv X pins σ (upd H q (.lst zs)) s → Rs (.ok (.ret .none)) s) (herr : ∀ e s, X.xe e s → Rs (.error e) s) :
    wpAny (model X.prog X.w) A1.in1 (Builtin.List.listExtendWith (.ref q) (.ref a) .none)
      (fun fin s' => match fin with | .done f => Rs (.ok f) s' | .again c' => c'.quiet = true ∧ codeAny (model X.prog X.w) A1 c' Rs s') (fun e s' => Rs (.error e) s') s := by
  have hne : q ≠ a := (ne_of_none ha hq0).symm
  have ha' : upd H q (.lst []) a = some (.ins C dx fs) := by rw [upd_ne hne.symm]; exact ha
  have ht' : SqT X.K (upd H q (.lst [])) t zs := Xg.same_sqT (Xg.same_new (Same.refl H) hq0) ht
  obtain ⟨mA, J, _⟩ := ins_get I.hok ha'
  obtain ⟨od, J, _⟩ := J.look
  unfold Builtin.List.listExtendWith
  refine wpAny_bind (J.type.here ?_)
  have b1 : Builtin.List.listSameRef (.ref q) (.ref a) = false := by simp [Builtin.List.listSameRef, hne]
  have b2 : (Value.ref C == Value.type "list") = false := rfl
  have b3 : (Value.ref C == Value.type "tuple") = false := rfl
  simp only [b1, b2, b3, Bool.or_false, Bool.false_eq_true, if_false]
  refine wpAny_bind (wpAny_mono (own_iter sb hc F hb I ha' hlk ht' (Q := fun v s' => ∃ it, v = .ref it ∧ Inv X pins σ (upd H q (.lst [])) s' ∧ s'.heap.IsTupleIter it t 0 ∧ FpOk X pins (upd H q (.lst [])) it)
    fun it s' I' st fp => ⟨it, rfl, I', st, fp⟩) (fun w s' hh => ?_) fun e s' he => herr e s' he)
  obtain ⟨it, rfl, I', st, fp⟩ := hh
  obtain ⟨mB, J', _⟩ := ins_get I'.hok ha'
  obtain ⟨od', J', _⟩ := J'.look
  have hn : it ≠ q := fun z => by
    have f0 := fp.1
    rw [z, upd_same] at f0
    cases f0
  refine wpAny_bind (wpAny_holding (hint_none hc I'.kIn J' ?_))
  have go : ∀ s2, Inv X pins σ (upd H q (.lst [])) s2 → s2.heap.IsTupleIter it t 0 → codeAny (model X.prog X.w) A1 (.builtin "list.extend.loop" ⟨[.ref q, .ref it, .none], []⟩) Rs s2 := fun s2 I2 st2 =>
    tup_loop sb.room.hd hq0 ht hdone zs.length 0 s2 (by omega) I2 st2 fp
  obtain ⟨z, its, k0, r3, hl3, e3⟩ := I'.lstM upd_same
  cases r3
  refine wpAny_ite_split (fun _ => ?_) (fun _ => wpAny_pure ⟨plainId_quiet PySem.F.plain_extend_loop _, go s' I' st⟩)
  refine wpAny_bind (wpAny_rule (wpAny_bind ?_))
  show wpAny _ _ (updateSeq q (·.push .none) >>= fun _ => updateSeq q (·.pop)) _ _ _
  refine wpAny_bind (wpAny_updateSeq e3 rfl ?_)
  have I2 := I'.lset (f := (·.push Value.none)) (its' := [Value.none]) (ys := [.non]) (t' := s'.toks) upd_same e3 (by simp) (.cons rfl .nil) (by rw [List.length_singleton, sizeLine_eq]; decide)
  obtain ⟨z4, its4, k4, r4, hl4, e4⟩ := I2.lstM upd_same
  obtain ⟨u4, rfl, ru4⟩ := r4.one
  refine wpAny_updateSeq e4 rfl ?_ (by show 1 ≤ sizeLine; rw [sizeLine_eq]; decide) (by show 0 ≤ sizeLine + 1; exact Nat.zero_le _)
  have I3 := I2.lset (f := (·.pop)) (its := [u4]) (its' := []) (ys := []) (t' := s'.toks) upd_same e4 (by rfl) .nil (Nat.zero_le _)
  rw [upd_upd, upd_upd] at I3
  refine wpAny_pure ⟨plainId_quiet PySem.F.plain_extend_loop _, go _ I3 ?_⟩
  exact (st.at fun o ho => (Heap.get?_update_other _ _ (Ne.symm hn)).trans ho).at fun o ho => (Heap.get?_update_other _ _ (Ne.symm hn)).trans ho
def rListO (K : PySem.W.Frag) (C : Addr) (fld : Str) : List V → Hp → VK → Prop := fun xs H Q => ∃ a dx fs t zs, xs = [.ref a] ∧ H a = some (.ins C dx fs) ∧ fs.lookup fld = some (.ref t) ∧ SqT K H t zs ∧ ∀ q, H q = none → Q (.ref q) (upd H q (.lst zs))
theorem call_listIt (hr : Room (k + 2) X.A) (hc : ItsC X.K C fi) (F : FnS X.prog X.w X.K X.mg X.base k fi fd ps (spIter X.K C fld)) (hb : Binds X.K fd ps []) : CallR X (.type "list") (rListO X.K C fld) := by
  intro pins s σ H xs us Q I rv h
  obtain ⟨a, dx, fs, t, zs, rfl, ha, hlk, ht, hq⟩ := h
  obtain ⟨u, rfl, ru⟩ := rv.one
  cases ru
  have sb : Sub X k X.A.in1.in1 := Sub.in1 (Sub.in1 (⟨hr, rfl⟩ : Sub X (k + 2) X.A))
  refine callType_codes (Q₁ := fun obj s₁ => obj = .ref s.heap.objs.size ∧ s₁ = { s with heap := s.heap.push { cls := .type "list", data := .seq #[] } }) PySem.F.called_list (PySem.F.typeCall_list_1 _) PySem.F.entry_list_init
    (code_list_new _ ⟨rfl, rfl⟩) fun obj s1 hh => ?_
  obtain ⟨rfl, rfl⟩ := hh
  have eS : (s.heap.push { cls := .type "list", data := .seq #[] }).get? s.heap.objs.size = some { cls := .type "list", data := .seq #[] } := Heap.get?_push_size _ rfl
  refine ⟨⟨_, eS, rfl⟩, PySem.F.args_list_init_2 _ _, ?_⟩
  have fr : H s.heap.objs.size = none := I.hok.fresh (Nat.le_refl _)
  have I1 : Inv X pins σ (upd H s.heap.objs.size (.lst [])) { s with heap := s.heap.push { cls := .type "list", data := .seq #[] } } := I.lnew (its := []) (t' := s.toks) .nil (Nat.zero_le _)
  show wpAny _ _ (do let old ← Builtin.List.listItems (.ref s.heap.objs.size); Builtin.List.listUpdate (.ref s.heap.objs.size) (fun _ => #[]); letGo old.toList.reverse; Builtin.List.listExtendWith (.ref s.heap.objs.size) (.ref a) .none) _ _ _
  refine wpAny_bind ?_
  unfold Builtin.List.listItems
  refine wpAny_bind (wpAny_seqItems eS rfl (wpAny_pure ?_))
  show wpAny _ _ (updateSeq s.heap.objs.size (fun _ => #[]) >>= fun _ => letGo (#[] : Array Value).toList.reverse >>= fun _ => Builtin.List.listExtendWith (.ref s.heap.objs.size) (.ref a) .none) _ _ _
  refine wpAny_bind (wpAny_updateSeq eS rfl ?_)
  have I2 := I1.lset (f := fun _ => #[]) (its := []) (its' := []) (ys := []) (t' := s.toks) upd_same eS rfl .nil (Nat.zero_le _)
  rw [upd_upd] at I2
  refine wpAny_bind (wpAny_letGo ?_)
  exact tup_extend (A1 := X.A.in1) (Rs := wants (fun r s₂ => r = .none ∧ EP X pins σ Q (.ref s.heap.objs.size) s₂) X.xe) sb hc F hb fr I2 ha hlk ht
    (fun s' I' => ⟨rfl, .ref s.heap.objs.size, _, I', rfl, hq _ fr⟩) fun e s' he => he
end
end XgOwn
namespace XgOwn
open PySem PySem.Spec PyProof.Rows L2
/-! ### a static method without arguments, called on its class -/
structure SMet (K : PySem.W.Frag) (C : Addr) (mc : Value) (m : Str) (p g : Addr) : Prop where
  at_ : PySem.W.findCls K (.ref C) mc m = some (.get (.builtin "staticmethod.__get__") (.ref p) .none (.ref C))
  rc : ∃ rest, PySem.W.recIn K p "staticmethod" = some (.ref g :: rest)
  kp : PySem.W.keepIn K (.ref g) = true
def tStat0 (C : Addr) (sp : Sp) (E : XK) (ta : TE) : TE := fun σ H Q => ta σ H fun x H1 => x = .ref C ∧ sp [] H1 Q E
theorem pe_stat0 {X : Cx} {CI : CXT} {k : Nat} {C p g : Addr} {mc : Value} {sp : Sp} {E : XK} {fd : FuncData} {ps : List Str} {o : Expr} {m : Str} {pos apos : Pos} {ta : TE} {pl : Sem Bool} (he : PE X o ta) (r : ClX.CRead X.K C mc) (c : SMet X.K C mc m p g)
    (F : FnOk X.prog X.w X.K X.mg X.base CI k g fd ps sp) (hr : Room k X.A) (hb : Binds X.K fd ps []) (hx : Passes CI X E)
    (ht : eval (.Call (.Attribute o m apos) [] [] pos) X.env = (do
      let ov ← eval o X.env
      standAt apos.atName
      let (f, first) ← holding [ov] (getMethod ov m pl)
      callWith pos f first (backTo pos (starEach [] X.env)) (backToKw pos (keywordEach [] X.env))) := by rfl) :
    PE X (.Call (.Attribute o m apos) [] [] pos) (tStat0 C sp E ta) := by
  refine ⟨fun pins s σ H Q I h => ?_⟩
  refine PySem.W.methodCall_KW (pl := pl) (thn (he.run pins s σ H _ I h) fun u s1 ⟨x, H1, I1, rx, ex, q⟩ => ?_) ht
  subst ex
  obtain rfl : u = Value.ref C := rx
  obtain ⟨rest, hp⟩ := c.rc
  refine PySem.W.method_cls I1.kIn r.ga (PySem.W.cls_bind I1.kIn r.rd c.at_ (wpAny_call (PySem.W.sm_get (s := { s1 with toks := s1.toks + 1 }) I1.kIn hp (PySem.W.handed_on rfl ?_))))
  have I2 : Inv X pins σ H1 { s1 with toks := s1.toks + 1 } := I1.tok _
  exact PySem.W.callWith_K0 I2.kIn c.kp (run_fn (us := []) (vs := []) (ds := []) (dvs := []) F hr hb .nil hx I2 .nil q)
end XgOwn
namespace XgOwn
open PySem PySem.Spec PyProof.Rows L2
/-! ### an object made where its maker may raise, inside a try -/
section
variable {X : Cx} {CI : CXT} {k : Nat} {f C : Addr} {fd : FuncData} {ps : List Str} {sp : Sp} {E : L2.St → XK} {x : Str} {p pos : Pos} {e : Expr} {es : List Expr} {t : TA}
def tMakeS (C : Addr) (sp : Sp) (E : L2.St → XK) (t : TA) : TE := fun σ H Q => t σ H fun vs H1 => ∀ x dx, H1 x = none → H1 dx = none → dx ≠ x → sp (.ref x :: vs) (upd (upd H1 dx (.own x)) x (.ins C dx [])) (fun v H2 => v = .non ∧ Q (.ref x) H2) (E σ)
theorem pe_makeS (M : Mk X.K C f) (F : FnOk X.prog X.w X.K X.mg X.base CI k f fd ps sp) (hr : Room (k + 1) X.A) (hg : Gl X x) (hm : X.mg x = some (.ref C)) (hb : Binds X.K fd ps []) (hx : ∀ σ, PassesAt CI X σ (E σ))
    (ha : PA X (e :: es) t) (hdb : (x == ("__debug__" : Str)) = false := by decide) (he : starEach (e :: es) X.env = (false, eval e X.env) :: starEach es X.env := by rfl) (hpl : (backTo pos (starEach es X.env)).any (·.1) = false := by rfl) :
    PE X (.Call (.Name x p) (e :: es) [] pos) (tMakeS C sp E t) := by
  refine ⟨fun pins s σ H Q I h => ?_⟩
  refine wpAny_Call_Name_kw (ld_glob I hg hm ?_ hdb)
  refine PySem.W.callWith_K (h₀ := X.base) I.ok.mod.kin M.kp (thn (ha.run pos pins s σ H _ I h) fun us s1 ⟨vs, H1, I1, r, q⟩ => ⟨I1.kIn, ?_⟩) he hpl
  have hq := q (s1.heap.objs.size + 1) s1.heap.objs.size (I1.hok.fresh (Nat.le_succ _)) (I1.hok.fresh (Nat.le_refl _)) (Nat.ne_of_lt (Nat.lt_succ_self _))
  have I2 := Inv.made (C := C) I1
  have r2 : Vals (V.ref (s1.heap.objs.size + 1) :: vs) (Value.ref (s1.heap.objs.size + 1) :: us) := .cons rfl r
  have hl : (Value.ref (s1.heap.objs.size + 1) :: us).length = ps.length := r2.length.symm.trans (F.len _ _ _ _ hq)
  have bt := hb _ (Value.ref (s1.heap.objs.size + 1) :: us) I2.kIn (by rw [List.append_nil]; exact hl)
  rw [List.append_nil] at bt
  have run := F.run _ X.stack _ _ ⟨Value.ref (s1.heap.objs.size + 1) :: us, []⟩ _ _ _ (E σ) (hr.make C us []) (I2.env0.make C us []) bt r2 hq
  refine wpAny_call (make_map (f := f) I1.kIn M.makes M.init (beq_iff_eq.mp M.fn) (codeAny_mono run fun r s' hq' => ?_))
  cases r with
  | error e => exact hx σ pins _ _ e s' I2 hq'
  | ok fl =>
    cases fl with
    | ret u =>
      obtain ⟨v, H', I3, rv, ev, q3⟩ := I2.after hq'
      subst ev
      exact ⟨rv, V.ref (s1.heap.objs.size + 1), H', I3, rfl, q3⟩
    | _ => exact hq'.elim
end
/-! ### what a loop walks: a list, a tuple, an object that hands out its tuple -/
def SrcOk (K : PySem.W.Frag) (C : Addr) (fld : Str) (H : Hp) (v : V) (xs : List V) : Prop := ∃ a, v = .ref a ∧ (SqL K H a xs ∨ SqT K H a xs ∨ ∃ dx fs t, H a = some (.ins C dx fs) ∧ fs.lookup fld = some (.ref t) ∧ SqT K H t xs)
theorem iAny_var {K : PySem.W.Frag} {C : Addr} {fld : Str} {i : Nat} {σ : L2.St} {H H0 : Hp} {R : It → Hp → Prop} {v : V} {xs : List V} (hv : σ[i]? = some (some v)) (h : SrcOk K C fld H0 v xs) (s : Same H0 H)
    (rest : ∀ J, Walk J xs.length (fun H' => Same H0 H') (YAt xs) → R J H) : iAny K C fld (tVar i) σ H R := by
  obtain ⟨a, rfl, h⟩ := h
  refine ⟨_, hv, a, rfl, ?_⟩
  rcases h with h | h | ⟨dx, fs, t, h1, h2, h3⟩
  · exact .inl ⟨⟨_, s.seq h⟩, rest _ (walk_list.mono (fun H' s => s.seq h) fun _ _ _ _ _ _ y => y)⟩
  · exact .inr (.inl ⟨⟨_, Xg.same_sqT s h⟩, rest _ (walk_tup.mono (fun H' s => Xg.same_sqT s h) fun _ _ _ _ _ _ y => y)⟩)
  · exact .inr (.inr ⟨dx, fs, t, xs, s _ _ h1, h2, Xg.same_sqT s h3, rest _ (walk_tup.mono (fun H' s => Xg.same_sqT s h3) fun _ _ _ _ _ _ y => y)⟩)
end XgOwn
namespace XgOwn
open PySem L2
/-- a for over such a thing that stands in slot i -/
theorem for_any {K : PySem.W.Frag} {C : Addr} {fld : Str} {j : Nat} {g : TG} {tb : TS} {D : Ends} {σ : L2.St} {H H0 : Hp} {v : V} {xs : List V} (hv : σ[j]? = some (some v)) (h : SrcOk K C fld H0 v xs) (s : Same H0 H)
    (Pv : Nat → L2.St → Hp → Prop) (h0 : Pv 0 σ H) (hG : ∀ i σ H', i ≤ xs.length → Pv i σ H' → Same H0 H')
    (hs : ∀ i x σ H', xs[i]? = some x → Pv i σ H' → g x σ H' fun σ2 H2 => tb { D with nx := Pv (i + 1), ct := Pv (i + 1), bk := D.nx } σ2 H2) (hd : ∀ σ H', Pv xs.length σ H' → D.nx σ H') : tFor (iAny K C fld (tVar j)) g tb D σ H :=
  iAny_var (R := fun J H1 => ∃ W : Nat → Nat → L2.St → Hp → Prop, (∃ m, W 0 m σ H1) ∧ ∀ i m σ H, W i m σ H →
      (J.stop i H ∧ D.nx σ H) ∨ (J.go i H ∧ ∃ N : L2.St → Hp → Prop, (∀ σ' H', N σ' H' → ∃ m', m' < m ∧ W (i + 1) m' σ' H') ∧ ∀ x H', J.yld i H x H' → g x σ H' fun σ2 H2 => tb { D with nx := N, ct := N, bk := D.nx } σ2 H2)) hv h s fun J wk =>
    for_it wk Pv h0 hG (fun i x σ H H' _ p y => by
      obtain ⟨e, y⟩ := y
      subst e
      exact hs i x σ _ y p) hd
end XgOwn
namespace XgOwn
open PySem L2
/-- a comprehension over such a thing that stands in slot i -/
theorem lc_any {K : PySem.W.Frag} {C : Addr} {fld : Str} {j : Nat} {g : TG} {tt : TT} {te : TE} {vs : List Nat} {σ : L2.St} {H H0 : Hp} {v : V} {xs : List V} {Q : VK} (hv : σ[j]? = some (some v)) (h : SrcOk K C fld H0 v xs) (s : Same H0 H)
    (k : ∀ D, H D = none → ∃ Pv : Nat → Hp → Prop, Pv 0 (upd H D (.lst [])) ∧ (∀ i H', i ≤ xs.length → Pv i H' → Same H0 H') ∧
      (∀ i x H', xs[i]? = some x → Pv i H' → g x (wipe σ vs) H' fun σ2 H2 => wipe σ2 vs = wipe σ vs ∧ tt σ2 H2 fun b H3 =>
        if b = true then te σ2 H3 fun y H4 => ∃ acc, H4 D = some (.lst acc) ∧ acc.length < sizeLine ∧ Pv (i + 1) (upd H4 D (.lst (acc ++ [y]))) else Pv (i + 1) H3) ∧ ∀ H', Pv xs.length H' → Q (.ref D) H') :
    tLc (iAny K C fld (tVar j)) g tt te vs σ H Q :=
  iAny_var (R := fun J H1 => ∀ D, H1 D = none → ∃ W : Nat → Nat → Hp → Prop, (∃ m, W 0 m (upd H1 D (.lst []))) ∧ ∀ i m H, W i m H →
      (J.stop i H ∧ Q (.ref D) H) ∨ (J.go i H ∧ ∃ Nx : Hp → Prop, (∀ H', Nx H' → ∃ m', m' < m ∧ W (i + 1) m' H') ∧ ∀ x H', J.yld i H x H' → g x (wipe σ vs) H' fun σ2 H2 => wipe σ2 vs = wipe σ vs ∧ tt σ2 H2 fun b H3 =>
        if b = true then te σ2 H3 fun y H4 => ∃ acc, H4 D = some (.lst acc) ∧ acc.length < sizeLine ∧ Nx (upd H4 D (.lst (acc ++ [y]))) else Nx H3)) hv h s fun J wk D hD => by
    obtain ⟨Pv, h0, hG, hs, hd⟩ := k D hD
    exact lc_it (Qd := Q (.ref D)) wk Pv h0 hG (fun i x H H' _ p y => by
      obtain ⟨e, y⟩ := y
      subst e
      exact hs i x _ y p) hd
end XgOwn
/-! any of a generator expression over a text, whose element may read the module's own names (the library's rule lets it read the sign alone) -/
namespace XgAny
open PySem PySem.Spec PyProof.Rows L2 GxR
/-- the element at the sign k, wherever the generator runs: what stood at the law's start stands -/
def EltM (X : Cx) (scope : Scope) (x : Str) (elt : Expr) (pb : Nat → Bool) : Prop :=
  ∀ (cv : Env) (B : Around) (Er : Value → Shared → Prop) (k : Nat) (tk : Tok) (u : Shared) (m : Str → Option Value), cv.scope = scope → cv.globals = mainGlobals → (∀ b o, X.base.get? b = some o → u.heap.get? b = some o) →
    u.heap.Ns cv.locals m → m x = some (.str ⟨#[k]⟩ tk) → wpAny (model X.prog X.w) B (eval elt cv) (fun y u' => y = .bool (pb k) ∧ Keeps u u') Er u
/-- x not in G, G a text of the module -/
theorem elt_notIn {X : Cx} {scope : Scope} {x g : Str} {z : Str} {tz : Tok} {p1 p2 p3 : Pos} (M : Mod X.K X.mg X.base) (hk : scope.kind = .function) (hl : scope.names.lookup x = some .local) (hg : scope.names.lookup g = some .globalImplicit)
    (hm : X.mg g = some (.str z tz)) (hd : (x == ("__debug__" : Str)) = false := by decide) (hd2 : (g == ("__debug__" : Str)) = false := by decide) :
    EltM X scope x (.Compare (.Name x p1) [.NotIn] [.Name g p2] p3) (fun k => !decide (k ∈ z.cps.toList)) := by
  intro cv B Er k tk u m hs hgl bk hn hmx
  have kind : cv.scope.kind = .function := by rw [hs]; exact hk
  have ns : u.heap.Ns cv.globals X.mg := by rw [hgl]; exact M.glob.keeps bk
  have first : ∀ {Q : Value → Shared → Prop}, Q (.str ⟨#[k]⟩ tk) u → wpAny (model X.prog X.w) B (eval (.Name x p1) cv) Q Er u := fun q =>
    wpAny_Name (wpAny_loadName_local kind (show cv.scope.names.lookup x = some .local by rw [hs]; exact hl) hn hmx q) hd
  have second : ∀ {Q : Value → Shared → Prop}, Q (.str z tz) u → wpAny (model X.prog X.w) B (eval (.Name g p2) cv) Q Er u := fun q =>
    Calls.Name_function_global kind (show cv.scope.names.lookup g = some .globalImplicit by rw [hs]; exact hg) (Calls.loadGlobal_global ns hm q) hd2
  refine wpAny_Compare1 (first (second ?_))
  refine PyProof.Rows.notIn_str ⟨?_, keeps_refl _⟩
  have e := PySem.StrLaws.found_one z k
  first
    | rw [e]
    | rw [← e]
    | simp [e]
section
variable {X : Cx} {pins : List (Addr × Obj)} {σ : L2.St} {H : Hp} {s : Shared}
theorem gen_made {cd P : Addr} {elt iter : Expr} {x : Str} {px gp : Pos} {scope : Scope} {pb : Nat → Bool} {te : TE} {lv : Nat} {Z : Value → Shared → Prop} {Rd : Str → Hp → Prop}
    (room : Room lv X.A) (TB : TabB X.base X.mg cd P) (code : X.env.code = .ref cd) (S : GenS X.env scope x) (pe : PE X iter te) (el : EltM X scope x elt pb)
    (fold : ∀ v, genFold iter X.env v = pure v) (I : Inv X pins σ H s) (rd : te σ H fun v H1 => ∃ a : Str, v = .str a ∧ TabG H1 P ∧ Rd a H1)
    (out : ∀ a H1 g s5, Rd a H1 → Ready X pins σ H1 P a pb g s5 → Z (.ref g) s5) :
    wpAny (model X.prog X.w) X.A (eval (.GeneratorExp elt [⟨.Name x px, iter, [], 0⟩] scope gp) X.env) Z X.xe s := by
  refine wpAny_GeneratorExp_walksQ room.hd S.co (closure_ok S.free) S.cell S.dot S.loc S.kind (by have := room.dp; omega) ?_ fold
  refine thn (pe.run pins s σ H _ I rd) fun xv sa ⟨v, Ha, Ia, ra, qa⟩ => ?_
  obtain ⟨a, rfl, ⟨tbl, hT, good⟩, want⟩ := qa
  obtain ⟨ta, rfl⟩ := _root_.id ra
  refine wpAny_pyIter_str fun itO St walks st0 => ?_
  have tblS : sa.heap.get? P = some { cls := .none, data := .fields tbl } := Ia.hok P _ hT
  have ltP : P < sa.heap.objs.size := Heap.lt_size tblS
  have tblP : (sa.heap.push itO).get? P = some { cls := .none, data := .fields tbl } := Heap.get?_push_of_some _ tblS
  have hd : PySem.W.CodeHd (sa.heap.push itO) cd P := TB.code.keeps fun b o e => Heap.get?_push_of_some _ (Ia.bk b o e)
  have free : (sa.heap.push itO).NoLimit := Ia.nolimit.push itO
  have szI : (sa.heap.push itO).objs.size = sa.heap.objs.size + 1 := Heap.size_push ..
  -- the code object is found or made: what stands but for the table stays
  refine ⟨free, wpAny_mono (Q := fun _ s3 => ∃ (hc : Heap) (tk : Nat) (tbl2 : Array Value), s3 = { sa with heap := hc, toks := tk } ∧ Heap.ExtBut P (sa.heap.push itO) hc ∧ (sa.heap.push itO).objs.size ≤ hc.objs.size ∧
    hc.get? P = some { cls := .none, data := .fields tbl2 } ∧ (∃ grown, tbl2 = tbl ++ grown) ∧ TriplesOk tbl2.toList) ?_ (fun cv s3 made => ?_) fun _ _ e => e⟩
  · cases among : codeAmong gp tbl.toList with
    | some cv =>
      refine wpAny_genexprCode_hit code (hd.code tblP good) among ?_
      exact ⟨sa.heap.push itO, sa.toks, tbl, rfl, Heap.ExtBut.refl _ _, Nat.le_refl _, tblP, ⟨#[], by simp⟩, good⟩
    | none =>
      refine wpAny_genexprCodeX code (hd.code tblP good) (hd.tab tblP) among fun c' h' tk ext ge lt rec _ tab' _ => ?_
      obtain ⟨o1, vs, f1, tf, fl, tg, inF, tx, tt, op, _, _, _, _, _, _, _, _, _, good2, _⟩ := rec
      exact ⟨h', tk, _, rfl, ext, Nat.le_trans ge (Nat.le_of_lt lt), tab'.2, ⟨_, rfl⟩, good2⟩
  · obtain ⟨hc, tk, tbl2, rfl, ext, sz, atP, grown, good2⟩ := made
    obtain ⟨bm, ob, b1, b2, b3, b4, b5, b6, b7, b8⟩ := TB.bm
    have statP : cStatics ≠ P := fun e => by
      obtain ⟨_, hns, _⟩ := Ia.nolimit
      obtain ⟨o', es, ep, ho, hdd, _⟩ := hns
      rw [e, tblS] at ho
      cases ho
      cases hdd
    have statLt : cStatics < sa.heap.objs.size := let ⟨_, hns, _⟩ := Ia.nolimit; hns.lt
    have old : ∀ b o, b ≠ P → sa.heap.get? b = some o → hc.get? b = some o := fun b o nb e => ext b o nb (Heap.get?_push_of_some _ e)
    -- what the law began with stands in hc too
    have baseNe : ∀ b o, X.base.get? b = some o → b ≠ P := fun b o e z => by
      have k1 := (Ia.bs b o e).2
      rw [z, hT] at k1
      cases k1
    have baseIn : ∀ b o, X.base.get? b = some o → hc.get? b = some o := fun b o e => old b o (baseNe b o e) (Ia.bk b o e)
    refine wpAny_builtinsFor (m := X.mg) (by rw [Ia.ok.glob]; exact ((Ia.mod.glob.keeps Ia.bk).push itO).extBut ext TB.gP) b1 b2 (old _ _ b4 (Ia.bk _ _ b5)) b6 b7 b8 ?_
    refine ⟨sa.heap.objs.size, [sa.heap.objs.size], [sa.heap.objs.size], a.cps.size, SignAt a, St, (fun _ => true), (fun i y => ∃ n, a.cps[i]? = some n ∧ y = .bool (pb n)), rfl, walks, ?_, ?_, free.extBut ext statP, ?_, ?_, ?_⟩
    · refine (walks X.A room.hd).frame _ _ _ st0 fun b hb o e => ext b o (fun z => ?_) e
      have zb : b = sa.heap.objs.size := by simpa using hb
      exact Nat.ne_of_lt ltP (z.symm.trans zb)
    · intro b hb
      have zb : b = sa.heap.objs.size := by simpa using hb
      rw [zb]
      show sa.heap.objs.size < hc.objs.size
      omega
    · intro hb
      have zb : cStatics = sa.heap.objs.size := by simpa using hb
      exact Nat.ne_of_lt statLt zb
    · intro href keep
      refine ⟨fun B Er i v u m hB hv hn hm hk => ?_, fun B Er i v u m hB hv hp hn hm hk => ?_⟩
      · rw [List.forIn_nil]
        exact wpAny_pure ⟨rfl, keeps_refl _⟩
      · obtain ⟨n, tn, hc1, rfl⟩ := hv
        refine wpAny_mono (el _ B Er n tn u m rfl Ia.ok.glob (fun b o e => ?_) hn hm) (fun y u' r => ⟨⟨n, hc1, r.1⟩, r.2⟩) fun _ _ e => e
        have e1 := baseIn b o e
        refine hk b (List.mem_range.mpr (Heap.lt_size e1)) (fun hb => ?_) o (keep b o e1)
        have zb : b = sa.heap.objs.size := by simpa using hb
        exact Nat.ne_of_lt (Heap.lt_size (Ia.bk b o e)) zb
    · intro g hg tg gs bare above szg keepg W5 at0
      simp only [GxR.passing_true, List.length_range] at W5
      refine out a Ha g _ want ⟨_, _, _, _, _, W5.in4_1, at0, ?_, fun s' moved => ?_⟩
      · intro j y sj Qj Ej hy hQj
        obtain ⟨i, hij, n, hn, rfl⟩ := hy
        obtain ⟨hj, ej⟩ := List.getElem?_eq_some_iff.mp hij
        rw [List.getElem_range] at ej
        subst ej
        have en : a.cps.toList[j]? = some n := by rw [Array.getElem?_toList]; exact hn
        have hQ2 : Qj (trF pb a.cps.toList j) sj := hQj
        rw [trF_some en] at hQ2
        exact wpAny_truthy_bool hQ2
      · obtain ⟨more, em⟩ := grown
        have apart : ∀ b o, sa.heap.get? b = some o → b ∉ hc.objs.size :: [sa.heap.objs.size] := fun b o e hb => by
          have lb := Heap.lt_size e
          have zb : b = hc.objs.size ∨ b = sa.heap.objs.size := by simpa using hb
          have le : sa.heap.objs.size ≤ hc.objs.size := by omega
          rcases zb with z | z
          · rw [z] at lb
            exact absurd lb (Nat.not_lt.mpr le)
          · rw [z] at lb
            exact absurd lb (Nat.lt_irrefl _)
        have J := inv_tab (more := more) (h' := s'.heap) (g' := s'.gens) (d' := s'.drawn) (t' := s'.toks) Ia hT (fun b o nb e => moved.heap b o (apart b o e) (keepg b o (old b o nb e)))
          (by rw [← em]; exact moved.heap P _ (apart P _ tblS) (keepg P _ atP)) (AllBare.movedS (Ia.bare.push bare) moved)
        rw [sh_eta sa s' moved.os] at J
        exact ⟨upd Ha P (.tbl (tbl ++ more)), ⟨⟨tbl ++ more, upd_same, by rw [← em]; exact good2⟩, fun b hb => upd_ne hb⟩, J⟩
theorem pe_any {cd P : Addr} {elt iter : Expr} {x : Str} {px p pos gp : Pos} {scope : Scope} {pb : Nat → Bool} {te : TE} {lv : Nat}
    (room : Room lv X.A) (hg : Gl X "any") (hm : X.mg "any" = none) (TB : TabB X.base X.mg cd P) (code : X.env.code = .ref cd) (S : GenS X.env scope x) (pe : PE X iter te) (el : EltM X scope x elt pb)
    (fold : ∀ v, genFold iter X.env v = pure v)
    (plain : starEach [.GeneratorExp elt [⟨.Name x px, iter, [], 0⟩] scope gp] X.env = (false, eval (.GeneratorExp elt [⟨.Name x px, iter, [], 0⟩] scope gp) X.env) :: starEach [] X.env := by rfl) :
    PE X (.Call (.Name "any" p) [.GeneratorExp elt [⟨.Name x px, iter, [], 0⟩] scope gp] [] pos) (tAnyS P pb te) := by
  refine ⟨fun pins s σ H Q I h => wpAny_Call_Name_kw (ld_blt I hg hm boot_any (PyProof.Rows.callWith_builtin1 ?_ plain (by rfl)))⟩
  rw [plain]
  refine Calls.spliced_cons (gen_made (Rd := fun a H1 => ∀ H2, Tabbed P H1 H2 → Q (.bl (a.cps.toList.any pb)) H2) room TB code S pe el fold I h fun a H1 g s5 want ready => Calls.spliced_nil ?_)
  obtain ⟨fp, wr, G, F, St, W, st, tr, inv⟩ := ready
  refine call_any_walkS (W.self 0 _ _ _ st ⟨g, fp, wr, G, _, F, St, _, rfl, W, st, tr, fun s' moved => ?_⟩)
  obtain ⟨H2, tab, J⟩ := inv s' moved
  refine ⟨.bl _, H2, J, rfl, ?_⟩
  rw [any_signs a pb]
  exact want H2 tab
end
end XgAny
namespace Xd
open PySem L2

/-! ### data, results -/
inductive D where
  | non | bl (b : Bool) | int (i : Int) | str (s : Str)
  | lst (xs : List D) | tup (xs : List D) | ins (c : Nat) (ns : List Str) (xs : List D)
  | opq (v : V)
structure Xc where
  c : Nat
  ns : List Str
  xs : List D
inductive R (α : Type) where
  | ok (a : α) | exc (x : Xc) | bad
def R.bind {α β : Type} (r : R α) (k : α → R β) : R β := match r with
  | .ok a => k a
  | .exc x => .exc x
  | .bad => .bad
@[simp] theorem R.bind_ok {α β : Type} (a : α) (k : α → R β) : (R.ok a).bind k = k a := rfl
@[simp] theorem R.bind_exc {α β : Type} (x : Xc) (k : α → R β) : (R.exc x).bind k = .exc x := rfl
@[simp] theorem R.bind_bad {α β : Type} (k : α → R β) : (R.bad : R α).bind k = .bad := rfl
def Meet {α : Type} (r : R α) (p : α → Prop) (q : Xc → Prop) : Prop := match r with
  | .ok a => p a
  | .exc x => q x
  | .bad => False
theorem Meet.bind {α β : Type} {r : R α} {k : α → R β} {p : β → Prop} {q : Xc → Prop} (h : Meet (r.bind k) p q) : Meet r (fun a => Meet (k a) p q) q := by
  cases r with
  | ok a => exact h
  | exc x => exact h
  | bad => exact h
theorem Meet.imp {α : Type} {r : R α} {p p' : α → Prop} {q q' : Xc → Prop} (h : Meet r p q) (hp : ∀ a, p a → p' a) (hq : ∀ x, q x → q' x) : Meet r p' q' := by
  cases r with
  | ok a => exact hp a h
  | exc x => exact hq x h
  | bad => exact h

/-! ### what a value stands for, in the part of the heap that stays as it is -/
mutual
inductive Dv (K : PySem.W.Frag) (cl : Nat → Addr) (Hi : Hp) : V → D → Prop
  | non : Dv K cl Hi .non .non
  | bl (b : Bool) : Dv K cl Hi (.bl b) (.bl b)
  | int (i : Int) : Dv K cl Hi (.int i) (.int i)
  | str (s : Str) : Dv K cl Hi (.str s) (.str s)
  | lst {a : Addr} {vs : List V} {xs : List D} : Hi a = some (.lst vs) → DvA K cl Hi vs xs → Dv K cl Hi (.ref a) (.lst xs)
  | tup {a : Addr} {vs : List V} {xs : List D} : SqT K Hi a vs → DvA K cl Hi vs xs → Dv K cl Hi (.ref a) (.tup xs)
  | ins {a dx : Addr} {c : Nat} {ns : List Str} {vs : List V} {xs : List D} : Hi a = some (.ins (cl c) dx (ns.zip vs)) → ns.length = vs.length → DvA K cl Hi vs xs → Dv K cl Hi (.ref a) (.ins c ns xs)
  | opq (v : V) : Dv K cl Hi v (.opq v)
inductive DvA (K : PySem.W.Frag) (cl : Nat → Addr) (Hi : Hp) : List V → List D → Prop
  | nil : DvA K cl Hi [] []
  | cons {v : V} {vs : List V} {d : D} {ds : List D} : Dv K cl Hi v d → DvA K cl Hi vs ds → DvA K cl Hi (v :: vs) (d :: ds)
end
theorem same_t {K : PySem.W.Frag} {H H' : Hp} {a : Addr} {xs : List V} (e : Same H H') (h : SqT K H a xs) : SqT K H' a xs := by
  rcases h with (h | ⟨o, h⟩) | h
  · exact .inl (.inl (e _ _ h))
  · exact .inl (.inr ⟨o, e _ _ h⟩)
  · exact .inr h
section
variable {K : PySem.W.Frag} {cl : Nat → Addr} {Hi Hi' : Hp}
mutual
theorem Dv.mono (e : Same Hi Hi') : ∀ (d : D) (v : V), Dv K cl Hi v d → Dv K cl Hi' v d
  | .non, _, h => by cases h; exact .non
  | .bl _, _, h => by cases h; exact .bl _
  | .int _, _, h => by cases h; exact .int _
  | .str _, _, h => by cases h; exact .str _
  | .lst xs, _, h => by cases h with | lst h1 h2 => exact .lst (e _ _ h1) (DvA.mono e xs _ h2)
  | .tup xs, _, h => by cases h with | tup h1 h2 => exact .tup (same_t e h1) (DvA.mono e xs _ h2)
  | .ins c ns xs, _, h => by cases h with | ins h1 h2 h3 => exact .ins (e _ _ h1) h2 (DvA.mono e xs _ h3)
  | .opq _, _, h => by cases h; exact .opq _
theorem DvA.mono (e : Same Hi Hi') : ∀ (ds : List D) (vs : List V), DvA K cl Hi vs ds → DvA K cl Hi' vs ds
  | [], _, h => by cases h; exact .nil
  | d :: ds, _, h => by cases h with | cons h1 h2 => exact .cons (Dv.mono e d _ h1) (DvA.mono e ds _ h2)
end
theorem Dv.up {v : V} {d : D} (h : Dv K cl Hi v d) (e : Same Hi Hi') : Dv K cl Hi' v d := Dv.mono e d v h
theorem DvA.up {vs : List V} {ds : List D} (h : DvA K cl Hi vs ds) (e : Same Hi Hi') : DvA K cl Hi' vs ds := DvA.mono e ds vs h
theorem DvA.length : ∀ {ds : List D} {vs : List V}, DvA K cl Hi vs ds → vs.length = ds.length
  | [], _, h => by cases h; rfl
  | d :: ds, _, h => by cases h with | cons h1 h2 => rw [List.length_cons, List.length_cons, DvA.length h2]
theorem DvA.get : ∀ {ds : List D} {vs : List V} {i : Nat} {d : D}, DvA K cl Hi vs ds → ds[i]? = some d → ∃ v, vs[i]? = some v ∧ Dv K cl Hi v d
  | [], _, i, d, h, e => by simp at e
  | d :: ds, _, i, d', h, e => by
    cases h with
    | cons h1 h2 =>
      cases i with
      | zero => simp at e; subst e; exact ⟨_, rfl, h1⟩
      | succ i => simpa using DvA.get h2 (by simpa using e)
theorem DvA.getV : ∀ {ds : List D} {vs : List V} {i : Nat} {v : V}, DvA K cl Hi vs ds → vs[i]? = some v → ∃ d, ds[i]? = some d ∧ Dv K cl Hi v d
  | [], _, i, d, h, e => by cases h; simp at e
  | d :: ds, _, i, d', h, e => by
    cases h with
    | cons h1 h2 =>
      cases i with
      | zero => simp at e; subst e; exact ⟨_, rfl, h1⟩
      | succ i => simpa using DvA.getV h2 (by simpa using e)
theorem DvA.append : ∀ {ds es : List D} {vs us : List V}, DvA K cl Hi vs ds → DvA K cl Hi us es → DvA K cl Hi (vs ++ us) (ds ++ es)
  | [], _, _, _, h, g => by cases h; exact g
  | d :: ds, _, _, _, h, g => by cases h with | cons h1 h2 => exact .cons h1 (DvA.append h2 g)
theorem DvA.drop : ∀ {ds : List D} {vs : List V} (n : Nat), DvA K cl Hi vs ds → DvA K cl Hi (vs.drop n) (ds.drop n)
  | [], _, _, h => by cases h; simp; exact .nil
  | d :: ds, _, 0, h => h
  | d :: ds, _, n + 1, h => by cases h with | cons h1 h2 => exact DvA.drop n h2
theorem DvA.take : ∀ {ds : List D} {vs : List V} (n : Nat), DvA K cl Hi vs ds → DvA K cl Hi (vs.take n) (ds.take n)
  | [], _, _, h => by cases h; simp; exact .nil
  | d :: ds, _, 0, h => .nil
  | d :: ds, _, n + 1, h => by cases h with | cons h1 h2 => exact .cons h1 (DvA.take n h2)
theorem DvA.set : ∀ {ds : List D} {vs : List V} (n : Nat) {v : V} {d : D}, DvA K cl Hi vs ds → Dv K cl Hi v d → DvA K cl Hi (vs.set n v) (ds.set n d)
  | [], _, _, _, _, h, _ => by cases h; exact .nil
  | d :: ds, _, 0, _, _, h, g => by cases h with | cons h1 h2 => exact .cons g h2
  | d :: ds, _, n + 1, _, _, h, g => by cases h with | cons h1 h2 => exact .cons h1 (DvA.set n h2 g)
theorem DvA.dropLast : ∀ {ds : List D} {vs : List V}, DvA K cl Hi vs ds → DvA K cl Hi vs.dropLast ds.dropLast := fun {ds vs} h => by
  rw [List.dropLast_eq_take, List.dropLast_eq_take, h.length]
  exact h.take _
end

/-! ### where one stands -/
structure Cc where
  K : PySem.W.Frag
  cl : Nat → Addr
  Hq : Hp
  H0 : Hp
  ea : Addr
  /-- where the tables of code objects stand -/
  tb : List Addr
def SameT (tb : List Addr) (H H' : Hp) : Prop := ∀ b o, b ∉ tb → H b = some o → H' b = some o
theorem SameT.refl (tb : List Addr) (H : Hp) : SameT tb H H := fun _ _ _ h => h
theorem SameT.trans {tb : List Addr} {H H1 H2 : Hp} (a : SameT tb H H1) (b : SameT tb H1 H2) : SameT tb H H2 := fun c o n h => b c o n (a c o n h)
structure Ok (c : Cc) (Hi H : Hp) : Prop where
  le : Same Hi H
  q : Same c.Hq Hi
  h : SameT c.tb c.H0 H
  new : ∀ p o, Hi p = some o → c.Hq p = none → c.H0 p = none
  tab : ∀ p ∈ c.tb, GxR.TabG H p
  tabI : ∀ p ∈ c.tb, Hi p = none
structure Step (c : Cc) (Hi H Hi' H' : Hp) : Prop where
  hi : Same Hi Hi'
  h : SameT c.tb H H'
  fr : ∀ p o, H p = some o → Hi p = none → Hi' p = none
  ok0 : Ok c Hi H
  ok : Ok c Hi' H'
section
variable {c : Cc} {Hi H Hi' H' Hi2 H2 : Hp} {p : Addr} {o : HO}
theorem Ok.notTab (ok : Ok c Hi H) (e : H p = some o) (ho : ∀ ps, o ≠ .tbl ps) : p ∉ c.tb := fun z => by
  obtain ⟨ps, h, _⟩ := ok.tab p z
  rw [e] at h
  exact ho ps (Option.some.inj h)
theorem Ok.nTab (ok : Ok c Hi H) (e : H p = none) : p ∉ c.tb := fun z => by
  obtain ⟨ps, h, _⟩ := ok.tab p z
  rw [e] at h
  cases h
theorem Ok.free0 (ok : Ok c Hi H) (n : H p = none) : c.H0 p = none := by
  cases k : c.H0 p with
  | none => rfl
  | some u =>
    rw [ok.h p u (ok.nTab n) k] at n
    cases n
theorem Step.keep (s : Step c Hi H Hi' H') (e : H p = some o) (ho : ∀ ps, o ≠ .tbl ps) : H' p = some o := s.h p o (s.ok0.notTab e ho) e
theorem Step.lst (s : Step c Hi H Hi' H') {vs : List V} (e : H p = some (.lst vs)) : H' p = some (.lst vs) := s.keep e fun _ z => by cases z
theorem Step.free (s : Step c Hi H Hi' H') (n : H' p = none) : H p = none := by
  cases k : H p with
  | none => rfl
  | some u =>
    rw [s.h p u (s.ok.nTab n) k] at n
    cases n
theorem Step.refl (ok : Ok c Hi H) : Step c Hi H Hi H := ⟨Same.refl _, SameT.refl _ _, fun _ _ _ h => h, ok, ok⟩
theorem Step.trans (a : Step c Hi H Hi' H') (b : Step c Hi' H' Hi2 H2) : Step c Hi H Hi2 H2 :=
  ⟨a.hi.trans b.hi, a.h.trans b.h, fun p o h n => by
    by_cases hp : p ∈ c.tb
    · exact b.ok.tabI p hp
    · exact b.fr p o (a.h p o hp h) (a.fr p o h n), a.ok0, b.ok⟩
theorem same_upd {H : Hp} {p : Addr} {o : HO} (n : H p = none) : Same H (upd H p o) := fun b u e => by
  rw [upd_ne (ne_of_none e n)]
  exact e
theorem samet_upd {tb : List Addr} {H : Hp} {p : Addr} {o : HO} (n : H p = none) : SameT tb H (upd H p o) := fun b u _ e => same_upd n b u e
theorem Ok.free (ok : Ok c Hi H) (n : H p = none) : Hi p = none := ok.le.free n
theorem tab_upd {P : Addr} (h : GxR.TabG H P) (n : H p = none) : GxR.TabG (upd H p o) P := by
  obtain ⟨ps, e, t⟩ := h
  exact ⟨ps, same_upd n _ _ e, t⟩
theorem Step.new (ok : Ok c Hi H) (n : H p = none) : Step c Hi H (upd Hi p o) (upd H p o) := by
  have ni := ok.free n
  refine ⟨same_upd ni, samet_upd n, fun b u e k => ?_, ok, ?_, ok.q.trans (same_upd ni), ok.h.trans (samet_upd n), fun b u e k => ?_, fun b hb => tab_upd (ok.tab b hb) n, fun b hb => ?_⟩
  · rw [upd_ne (ne_of_none e n)]
    exact k
  · intro b u e
    by_cases hb : b = p
    · subst hb
      rw [upd_same] at e ⊢
      exact e
    · rw [upd_ne hb] at e ⊢
      exact ok.le _ _ e
  · by_cases hb : b = p
    · subst hb
      exact ok.free0 n
    · rw [upd_ne hb] at e
      exact ok.new _ _ e k
  · rw [upd_ne (show b ≠ p from fun z => ok.nTab n (by rw [← z]; exact hb))]
    exact ok.tabI b hb
/-- a new object that stays out of the frozen part -/
theorem Step.newOwn (ok : Ok c Hi H) (n : H p = none) : Step c Hi H Hi (upd H p o) :=
  ⟨Same.refl _, samet_upd n, fun _ _ _ k => k, ok, ok.le.trans (same_upd n), ok.q, ok.h.trans (samet_upd n), ok.new, fun b hb => tab_upd (ok.tab b hb) n, ok.tabI⟩
/-- an own object is frozen -/
theorem Ok.freeze (ok : Ok c Hi H) (e : H p = some o) (ho : ∀ ps, o ≠ .tbl ps) (n : Hi p = none) (n0 : c.H0 p = none) : Ok c (upd Hi p o) H := by
  refine ⟨fun b u k => ?_, ok.q.trans (same_upd n), ok.h, fun b u k j => ?_, ok.tab, fun b hb => ?_⟩
  · by_cases hb : b = p
    · subst hb
      rw [upd_same] at k
      rw [e]
      exact k
    · rw [upd_ne hb] at k
      exact ok.le _ _ k
  · by_cases hb : b = p
    · subst hb
      exact n0
    · rw [upd_ne hb] at k
      exact ok.new _ _ k j
  · rw [upd_ne (show b ≠ p from fun z => ok.notTab e ho (by rw [← z]; exact hb))]
    exact ok.tabI b hb
end

/-! ### the slots -/
inductive Sl where
  | un | val (d : D) | own (xs : List D) | err
abbrev Rho := List Sl
def SlOk (c : Cc) (Hi H : Hp) (o : Option V) : Sl → Prop
  | .un => True
  | .err => o = some (.ref c.ea)
  | .val d => ∃ v, o = some v ∧ Dv c.K c.cl Hi v d
  | .own xs => ∃ p vs, o = some (.ref p) ∧ H p = some (.lst vs) ∧ Hi p = none ∧ c.H0 p = none ∧ DvA c.K c.cl Hi vs xs
structure Sv (c : Cc) (Hi H : Hp) (σ : St) (ρ : Rho) : Prop where
  len : σ.length = ρ.length
  at' : ∀ (i : Nat) (o : Option V) (s : Sl), σ[i]? = some o → ρ[i]? = some s → SlOk c Hi H o s
  apart : ∀ (i j : Nat) (p : Addr) (xs ys : List D), ρ[i]? = some (.own xs) → ρ[j]? = some (.own ys) → σ[i]? = some (some (.ref p)) → σ[j]? = some (some (.ref p)) → i = j
section
variable {c : Cc} {Hi H Hi' H' Hi2 H2 : Hp} {p : Addr} {o : HO} {σ : St} {ρ : Rho}
theorem Sv.find (e : Sv c Hi H σ ρ) {i : Nat} {s : Sl} (h : ρ[i]? = some s) : ∃ o, σ[i]? = some o ∧ SlOk c Hi H o s := by
  have hi := (List.getElem?_eq_some_iff.mp h).1
  have hi' : i < σ.length := by rw [e.len]; exact hi
  exact ⟨σ[i], by simp [hi'], e.at' i _ s (by simp [hi']) h⟩
theorem SlOk.step {o : Option V} {s : Sl} (st : Step c Hi H Hi' H') (h : SlOk c Hi H o s) : SlOk c Hi' H' o s := by
  cases s with
  | un => trivial
  | err => exact h
  | val d => obtain ⟨v, e, h⟩ := h; exact ⟨v, e, h.up st.hi⟩
  | own xs => obtain ⟨p, vs, e, h1, h2, h3, h4⟩ := h; exact ⟨p, vs, e, st.lst h1, st.fr _ _ h1 h2, h3, h4.up st.hi⟩
theorem Sv.step (e : Sv c Hi H σ ρ) (st : Step c Hi H Hi' H') : Sv c Hi' H' σ ρ := ⟨e.len, fun i o s a b => (e.at' i o s a b).step st, e.apart⟩
theorem Sv.setVal (e : Sv c Hi H σ ρ) (i : Nat) {v : V} {d : D} (h : Dv c.K c.cl Hi v d) : Sv c Hi H (σ.set i (some v)) (ρ.set i (.val d)) := by
  refine ⟨by simp [e.len], fun j o s a b => ?_, fun j k p xs ys a b a' b' => ?_⟩
  · by_cases hj : j = i
    · subst hj
      have h1 : j < σ.length := by
        have := (List.getElem?_eq_some_iff.mp a).1
        simpa using this
      have h2 : j < ρ.length := by rw [← e.len]; exact h1
      rw [List.getElem?_set_self h1] at a
      rw [List.getElem?_set_self h2] at b
      cases a
      cases b
      exact ⟨v, rfl, h⟩
    · rw [List.getElem?_set_ne (Ne.symm hj)] at a b
      exact e.at' j o s a b
  · by_cases hj : j = i
    · subst hj
      have h2 : j < ρ.length := by
        have := (List.getElem?_eq_some_iff.mp a).1
        simpa using this
      rw [List.getElem?_set_self h2] at a
      cases a
    · by_cases hk : k = i
      · subst hk
        have h2 : k < ρ.length := by
          have := (List.getElem?_eq_some_iff.mp b).1
          simpa using this
        rw [List.getElem?_set_self h2] at b
        cases b
      · rw [List.getElem?_set_ne (Ne.symm hj)] at a a'
        rw [List.getElem?_set_ne (Ne.symm hk)] at b b'
        exact e.apart j k p xs ys a b a' b'
theorem Sv.setUn (e : Sv c Hi H σ ρ) (i : Nat) (o : Option V) : Sv c Hi H (σ.set i o) (ρ.set i .un) := by
  refine ⟨by simp [e.len], fun j o' s a b => ?_, fun j k p xs ys a b a' b' => ?_⟩
  · by_cases hj : j = i
    · subst hj
      have h1 : j < σ.length := by
        have := (List.getElem?_eq_some_iff.mp a).1
        simpa using this
      have h2 : j < ρ.length := by rw [← e.len]; exact h1
      rw [List.getElem?_set_self h2] at b
      cases b
      trivial
    · rw [List.getElem?_set_ne (Ne.symm hj)] at a b
      exact e.at' j o' s a b
  · by_cases hj : j = i
    · subst hj
      have h2 : j < ρ.length := by
        have := (List.getElem?_eq_some_iff.mp a).1
        simpa using this
      rw [List.getElem?_set_self h2] at a
      cases a
    · by_cases hk : k = i
      · subst hk
        have h2 : k < ρ.length := by
          have := (List.getElem?_eq_some_iff.mp b).1
          simpa using this
        rw [List.getElem?_set_self h2] at b
        cases b
      · rw [List.getElem?_set_ne (Ne.symm hj)] at a a'
        rw [List.getElem?_set_ne (Ne.symm hk)] at b b'
        exact e.apart j k p xs ys a b a' b'
/-- an own list comes into a slot: its place is none of the other own ones -/
theorem Sv.setOwn (e : Sv c Hi H σ ρ) (i : Nat) {vs : List V} {xs : List D} (h1 : H p = some (.lst vs)) (h2 : Hi p = none) (h3 : c.H0 p = none) (h4 : DvA c.K c.cl Hi vs xs)
    (ne : ∀ j ys, j ≠ i → ρ[j]? = some (.own ys) → σ[j]? ≠ some (some (.ref p))) : Sv c Hi H (σ.set i (some (.ref p))) (ρ.set i (.own xs)) := by
  refine ⟨by simp [e.len], fun j o s a b => ?_, fun j k q xs' ys a b a' b' => ?_⟩
  · by_cases hj : j = i
    · subst hj
      have h1' : j < σ.length := by
        have := (List.getElem?_eq_some_iff.mp a).1
        simpa using this
      have h2' : j < ρ.length := by rw [← e.len]; exact h1'
      rw [List.getElem?_set_self h1'] at a
      rw [List.getElem?_set_self h2'] at b
      cases a
      cases b
      exact ⟨p, vs, rfl, h1, h2, h3, h4⟩
    · rw [List.getElem?_set_ne (Ne.symm hj)] at a b
      exact e.at' j o s a b
  · by_cases hj : j = i
    · by_cases hk : k = i
      · rw [hj, hk]
      · subst hj
        have h1' : j < σ.length := by
          have := (List.getElem?_eq_some_iff.mp a').1
          simpa using this
        rw [List.getElem?_set_self h1'] at a'
        cases a'
        rw [List.getElem?_set_ne (Ne.symm hk)] at b b'
        exact absurd b' (ne k _ hk b)
    · by_cases hk : k = i
      · subst hk
        have h1' : k < σ.length := by
          have := (List.getElem?_eq_some_iff.mp b').1
          simpa using this
        rw [List.getElem?_set_self h1'] at b'
        cases b'
        rw [List.getElem?_set_ne (Ne.symm hj)] at a a'
        exact absurd a' (ne j _ hj a)
      · rw [List.getElem?_set_ne (Ne.symm hj)] at a a'
        rw [List.getElem?_set_ne (Ne.symm hk)] at b b'
        exact e.apart j k q xs' ys a b a' b'
/-- the own list in slot i changes -/
theorem Sv.change (e : Sv c Hi H σ ρ) {i : Nat} {xs ys : List D} {ws : List V} (hr : ρ[i]? = some (.own xs)) (hs : σ[i]? = some (some (.ref p))) (hd : DvA c.K c.cl Hi ws ys) :
    Sv c Hi (upd H p (.lst ws)) σ (ρ.set i (.own ys)) := by
  refine ⟨by simp [e.len], fun j o s a b => ?_, fun j k q xs' ys' a b a' b' => ?_⟩
  · by_cases hj : j = i
    · subst hj
      have h2' : j < ρ.length := (List.getElem?_eq_some_iff.mp hr).1
      rw [List.getElem?_set_self h2'] at b
      rw [hs] at a
      cases a
      cases b
      obtain ⟨q, vs, e1, e2, e3, e4, e5⟩ := e.at' j _ _ hs hr
      cases e1
      exact ⟨p, ws, rfl, upd_same, e3, e4, hd⟩
    · rw [List.getElem?_set_ne (Ne.symm hj)] at b
      have h := e.at' j o s a b
      cases s with
      | un => trivial
      | err => exact h
      | val d => exact h
      | own zs =>
        obtain ⟨q, vs, e1, e2, e3, e4, e5⟩ := h
        subst e1
        refine ⟨q, vs, rfl, ?_, e3, e4, e5⟩
        rw [upd_ne]
        · exact e2
        · intro z
          subst z
          exact hj (e.apart j i q zs xs b hr a hs)
  · have fj : ∀ (j : Nat) (zs : List D), (ρ.set i (.own ys))[j]? = some (.own zs) → ∃ us, ρ[j]? = some (.own us) := fun j zs h => by
      by_cases hj : j = i
      · subst hj
        exact ⟨xs, hr⟩
      · rw [List.getElem?_set_ne (Ne.symm hj)] at h
        exact ⟨_, h⟩
    obtain ⟨u1, a1⟩ := fj j _ a
    obtain ⟨u2, b1⟩ := fj k _ b
    exact e.apart j k q u1 u2 a1 b1 a' b'
theorem Ok.change (ok : Ok c Hi H) {vs ws : List V} (h1 : H p = some (.lst vs)) (h2 : Hi p = none) (h3 : c.H0 p = none) : Ok c Hi (upd H p (.lst ws)) := by
  have np := ok.notTab h1 fun _ z => by cases z
  refine ⟨fun b u k => ?_, ok.q, fun b u nb k => ?_, ok.new, fun b hb => ?_, ok.tabI⟩
  · rw [upd_ne (ne_of_none k h2)]
    exact ok.le _ _ k
  · rw [upd_ne (ne_of_none k h3)]
    exact ok.h _ _ nb k
  · obtain ⟨ps, e, t⟩ := ok.tab b hb
    exact ⟨ps, by rw [upd_ne (show b ≠ p from fun z => np (by rw [← z]; exact hb))]; exact e, t⟩
/-- the own list in slot i is frozen -/
theorem Sv.freeze (e : Sv c Hi H σ ρ) (ok : Ok c Hi H) {i : Nat} {xs : List D} (hr : ρ[i]? = some (.own xs)) :
    ∃ Hi', Same Hi Hi' ∧ Ok c Hi' H ∧ Sv c Hi' H σ (ρ.set i (.val (.lst xs))) := by
  obtain ⟨o, hs, p, vs, rfl, e2, e3, e4, e5⟩ := e.find hr
  have sm : Same Hi (upd Hi p (.lst vs)) := same_upd e3
  refine ⟨upd Hi p (.lst vs), sm, ok.freeze e2 (fun _ z => by cases z) e3 e4, by simp [e.len], fun j o s a b => ?_, fun j k q xs' ys' a b a' b' => ?_⟩
  · by_cases hj : j = i
    · subst hj
      have h2' : j < ρ.length := (List.getElem?_eq_some_iff.mp hr).1
      rw [List.getElem?_set_self h2'] at b
      rw [hs] at a
      cases a
      cases b
      exact ⟨_, rfl, .lst upd_same (e5.up sm)⟩
    · rw [List.getElem?_set_ne (Ne.symm hj)] at b
      have h := e.at' j o s a b
      cases s with
      | un => trivial
      | err => exact h
      | val d => obtain ⟨v, e1, h⟩ := h; exact ⟨v, e1, h.up sm⟩
      | own zs =>
        obtain ⟨q, us, e1, f2, f3, f4, f5⟩ := h
        subst e1
        refine ⟨q, us, rfl, f2, ?_, f4, f5.up sm⟩
        rw [upd_ne]
        · exact f3
        · intro z
          subst z
          exact hj (e.apart j i q zs xs b hr a hs)
  · have fj : ∀ (j : Nat) (zs : List D), (ρ.set i (.val (.lst xs)))[j]? = some (.own zs) → j ≠ i ∧ ρ[j]? = some (.own zs) := fun j zs h => by
      by_cases hj : j = i
      · subst hj
        have h2' : j < ρ.length := (List.getElem?_eq_some_iff.mp hr).1
        rw [List.getElem?_set_self h2'] at h
        cases h
      · rw [List.getElem?_set_ne (Ne.symm hj)] at h
        exact ⟨hj, h⟩
    exact e.apart j k q _ _ (fj j _ a).2 (fj k _ b).2 a' b'
end
end Xd
namespace Xd
open PySem L2

/-! ### judgements of expressions -/
abbrev WE := Xc → St → Hp → Hp → Prop
abbrev ME := Rho → R D
def JE (c : Cc) (W : WE) (te : TE) (f : Rho → R D) : Prop := ∀ (σ : St) (ρ : Rho) (Hi H : Hp), Ok c Hi H → Sv c Hi H σ ρ → ∀ Q : VK,
  Meet (f ρ) (fun d => ∀ v Hi' H', Step c Hi H Hi' H' → Dv c.K c.cl Hi' v d → Q v H') (fun x => ∀ Hi' H', Step c Hi H Hi' H' → W x σ Hi' H') → te σ H Q
def JT (c : Cc) (W : WE) (te : TT) (f : Rho → R Bool) : Prop := ∀ (σ : St) (ρ : Rho) (Hi H : Hp), Ok c Hi H → Sv c Hi H σ ρ → ∀ Q : Bool → Hp → Prop,
  Meet (f ρ) (fun b => ∀ Hi' H', Step c Hi H Hi' H' → Q b H') (fun x => ∀ Hi' H', Step c Hi H Hi' H' → W x σ Hi' H') → te σ H Q
def JA (c : Cc) (W : WE) (te : TA) (f : Rho → R (List D)) : Prop := ∀ (σ : St) (ρ : Rho) (Hi H : Hp), Ok c Hi H → Sv c Hi H σ ρ → ∀ Q : List V → Hp → Prop,
  Meet (f ρ) (fun ds => ∀ vs Hi' H', Step c Hi H Hi' H' → DvA c.K c.cl Hi' vs ds → Q vs H') (fun x => ∀ Hi' H', Step c Hi H Hi' H' → W x σ Hi' H') → te σ H Q
def JP (c : Cc) (W : WE) (te : TO) (f : Rho → R (Option Int)) : Prop := ∀ (σ : St) (ρ : Rho) (Hi H : Hp), Ok c Hi H → Sv c Hi H σ ρ → ∀ Q : Option Int → Hp → Prop,
  Meet (f ρ) (fun b => ∀ Hi' H', Step c Hi H Hi' H' → Q b H') (fun x => ∀ Hi' H', Step c Hi H Hi' H' → W x σ Hi' H') → te σ H Q
/-- a new list that nobody else has -/
def JL (c : Cc) (W : WE) (te : TE) (f : Rho → R (List D)) : Prop := ∀ (σ : St) (ρ : Rho) (Hi H : Hp), Ok c Hi H → Sv c Hi H σ ρ → ∀ Q : VK,
  Meet (f ρ) (fun xs => ∀ p vs Hi' H', Step c Hi H Hi' H' → H p = none → Hi' p = none → H' p = some (.lst vs) → DvA c.K c.cl Hi' vs xs → Q (.ref p) H') (fun x => ∀ Hi' H', Step c Hi H Hi' H' → W x σ Hi' H') → te σ H Q
/-- operations on values -/
def RetD (c : Cc) (Hi H : Hp) (Q : VK) (d : D) : Prop := ∀ v Hi' H', Step c Hi H Hi' H' → Dv c.K c.cl Hi' v d → Q v H'
def RetL (c : Cc) (Hi H : Hp) (Q : VK) (xs : List D) : Prop := ∀ p vs Hi' H', Step c Hi H Hi' H' → H p = none → Hi' p = none → H' p = some (.lst vs) → DvA c.K c.cl Hi' vs xs → Q (.ref p) H'
def JO (c : Cc) (r : R2) (o : D → D → Option D) : Prop := ∀ (Hi H : Hp), Ok c Hi H → ∀ (x y : V) (a b d : D) (Q : VK), Dv c.K c.cl Hi x a → Dv c.K c.cl Hi y b → o a b = some d → RetD c Hi H Q d → r x y H Q
def JOL (c : Cc) (r : R2) (o : D → D → Option (List D)) : Prop := ∀ (Hi H : Hp), Ok c Hi H → ∀ (x y : V) (a b : D) (d : List D) (Q : VK), Dv c.K c.cl Hi x a → Dv c.K c.cl Hi y b → o a b = some d → RetL c Hi H Q d → r x y H Q
def JU (c : Cc) (r : V → Hp → VK → Prop) (o : D → Option D) : Prop := ∀ (Hi H : Hp), Ok c Hi H → ∀ (x : V) (a d : D) (Q : VK), Dv c.K c.cl Hi x a → o a = some d → RetD c Hi H Q d → r x H Q
def JC (c : Cc) (r : List V → Hp → VK → Prop) (o : List D → Option D) : Prop := ∀ (Hi H : Hp), Ok c Hi H → ∀ (xs : List V) (as : List D) (d : D) (Q : VK), DvA c.K c.cl Hi xs as → o as = some d → RetD c Hi H Q d → r xs H Q
def JCL (c : Cc) (r : List V → Hp → VK → Prop) (o : List D → Option (List D)) : Prop := ∀ (Hi H : Hp), Ok c Hi H → ∀ (xs : List V) (as : List D) (d : List D) (Q : VK), DvA c.K c.cl Hi xs as → o as = some d → RetL c Hi H Q d → r xs H Q
def JM (c : Cc) (r : V → List V → Hp → VK → Prop) (o : D → List D → Option D) : Prop := ∀ (Hi H : Hp), Ok c Hi H → ∀ (x : V) (xs : List V) (a : D) (as : List D) (d : D) (Q : VK), Dv c.K c.cl Hi x a → DvA c.K c.cl Hi xs as → o a as = some d → RetD c Hi H Q d → r x xs H Q
def JML (c : Cc) (r : V → List V → Hp → VK → Prop) (o : D → List D → Option (List D)) : Prop := ∀ (Hi H : Hp), Ok c Hi H → ∀ (x : V) (xs : List V) (a : D) (as d : List D) (Q : VK), Dv c.K c.cl Hi x a → DvA c.K c.cl Hi xs as → o a as = some d → RetL c Hi H Q d → r x xs H Q
def JS3 (c : Cc) (r : V → Option Int → Option Int → Hp → VK → Prop) (o : D → Option Int → Option Int → Option D) : Prop := ∀ (Hi H : Hp), Ok c Hi H → ∀ (x : V) (i j : Option Int) (a : D) (d : D) (Q : VK), Dv c.K c.cl Hi x a → o a i j = some d → RetD c Hi H Q d → r x i j H Q
def JSL3 (c : Cc) (r : V → Option Int → Option Int → Hp → VK → Prop) (o : D → Option Int → Option Int → Option (List D)) : Prop := ∀ (Hi H : Hp), Ok c Hi H → ∀ (x : V) (i j : Option Int) (a : D) (d : List D) (Q : VK), Dv c.K c.cl Hi x a → o a i j = some d → RetL c Hi H Q d → r x i j H Q

/-! ### mirrors -/
def eVar (i : Nat) : Rho → R D := fun ρ => match ρ[i]? with
  | some (.val d) => .ok d
  | _ => .bad
def eC (d : D) : Rho → R D := fun _ => .ok d
def ro {α : Type} : Option α → R α
  | some a => .ok a
  | none => .bad
@[simp] theorem ro_some {α : Type} (a : α) : ro (some a) = .ok a := rfl
@[simp] theorem ro_none {α : Type} : ro (none : Option α) = .bad := rfl
def e1 (o : D → Option D) (f : Rho → R D) : Rho → R D := fun ρ => (f ρ).bind fun a => ro (o a)
def e2 (o : D → D → Option D) (f g : Rho → R D) : Rho → R D := fun ρ => (f ρ).bind fun a => (g ρ).bind fun b => ro (o a b)
def e2L (o : D → D → Option (List D)) (f g : Rho → R D) : Rho → R (List D) := fun ρ => (f ρ).bind fun a => (g ρ).bind fun b => ro (o a b)
def aNil : Rho → R (List D) := fun _ => .ok []
def aCons (f : Rho → R D) (g : Rho → R (List D)) : Rho → R (List D) := fun ρ => (f ρ).bind fun a => (g ρ).bind fun b => .ok (a :: b)
def eFz (f : Rho → R (List D)) : Rho → R D := fun ρ => (f ρ).bind fun xs => .ok (.lst xs)
def eTup (f : Rho → R (List D)) : Rho → R D := fun ρ => (f ρ).bind fun xs => if xs.length ≤ 100000 then .ok (.tup xs) else .bad
def lLst (f : Rho → R (List D)) : Rho → R (List D) := fun ρ => (f ρ).bind fun xs => if xs.length ≤ 100000 then .ok xs else .bad
def eCB (o : List D → Option D) (f : Rho → R (List D)) : Rho → R D := fun ρ => (f ρ).bind fun as => ro (o as)
def lCB (o : List D → Option (List D)) (f : Rho → R (List D)) : Rho → R (List D) := fun ρ => (f ρ).bind fun as => ro (o as)
def eCall (m : List D → R D) (f : Rho → R (List D)) : Rho → R D := fun ρ => (f ρ).bind m
def lCall (m : List D → R (List D)) (f : Rho → R (List D)) : Rho → R (List D) := fun ρ => (f ρ).bind m
def noX {α : Type} : R α → R α
  | .ok a => .ok a
  | _ => .bad
def eMt (o : D → List D → Option D) (f : Rho → R D) (g : Rho → R (List D)) : Rho → R D := fun ρ => (f ρ).bind fun a => (g ρ).bind fun b => ro (o a b)
def lMt (o : D → List D → Option (List D)) (f : Rho → R D) (g : Rho → R (List D)) : Rho → R (List D) := fun ρ => (f ρ).bind fun a => (g ρ).bind fun b => ro (o a b)
def asB : D → R Bool
  | .bl b => .ok b
  | _ => .bad
def asI : D → R Int
  | .int b => .ok b
  | _ => .bad
def bTest (f : Rho → R D) : Rho → R Bool := fun ρ => (f ρ).bind asB
def bNot (f : Rho → R Bool) : Rho → R Bool := fun ρ => (f ρ).bind fun b => .ok (!b)
def bAnd (f g : Rho → R Bool) : Rho → R Bool := fun ρ => (f ρ).bind fun b => if b = true then g ρ else .ok false
def bOr (f g : Rho → R Bool) : Rho → R Bool := fun ρ => (f ρ).bind fun b => if b = true then .ok true else g ρ
def bYes : Rho → R Bool := fun _ => .ok true
def eAnd (f g : Rho → R D) : Rho → R D := fun ρ => (f ρ).bind fun d => (asB d).bind fun b => if b = true then g ρ else .ok (.bl false)
def eOr (f g : Rho → R D) : Rho → R D := fun ρ => (f ρ).bind fun d => (asB d).bind fun b => if b = true then .ok (.bl true) else g ρ
def eNot (f : Rho → R D) : Rho → R D := fun ρ => (f ρ).bind fun d => (asB d).bind fun b => .ok (.bl (!b))
def eIf (t : Rho → R Bool) (f g : Rho → R D) : Rho → R D := fun ρ => (t ρ).bind fun b => if b = true then f ρ else g ρ
def pNo : Rho → R (Option Int) := fun _ => .ok none
def pSome (f : Rho → R D) : Rho → R (Option Int) := fun ρ => (f ρ).bind fun d => (asI d).bind fun i => .ok (some i)
def eSl (o : D → Option Int → Option Int → Option D) (f : Rho → R D) (l h : Rho → R (Option Int)) : Rho → R D := fun ρ => (f ρ).bind fun a => (l ρ).bind fun i => (h ρ).bind fun j => ro (o a i j)
def lSl (o : D → Option Int → Option Int → Option (List D)) (f : Rho → R D) (l h : Rho → R (Option Int)) : Rho → R (List D) := fun ρ => (f ρ).bind fun a => (l ρ).bind fun i => (h ρ).bind fun j => ro (o a i j)
def eChain (o o' : D → D → Option D) (f g h : Rho → R D) : Rho → R D := fun ρ => (f ρ).bind fun a => (g ρ).bind fun b => (ro (o a b)).bind fun z => (asB z).bind fun k => if k = true then (h ρ).bind fun d => ro (o' b d) else .ok (.bl false)

section
variable {c : Cc} {W : WE} {ta tb tc : TE} {tt tu : TT} {ts tr : TA} {f g h : Rho → R D} {fb gb : Rho → R Bool} {fs gs : Rho → R (List D)} {r r' : R2} {o o' : D → D → Option D}
theorem Sv.val {Hi H : Hp} {σ : St} {ρ : Rho} (e : Sv c Hi H σ ρ) {i : Nat} {d : D} (h : ρ[i]? = some (.val d)) : ∃ v, σ[i]? = some (some v) ∧ Dv c.K c.cl Hi v d := by
  obtain ⟨o, h1, v, rfl, h2⟩ := e.find h
  exact ⟨v, h1, h2⟩
theorem je_var (i : Nat) : JE c W (tVar i) (eVar i) := fun σ ρ Hi H ok sv Q h => by
  unfold eVar at h
  split at h
  · rename_i d hd
    obtain ⟨v, h1, h2⟩ := sv.val hd
    exact ⟨v, h1, h v Hi H (Step.refl ok) h2⟩
  · exact h.elim
theorem je_c {v : V} {d : D} (hd : ∀ Hi, Dv c.K c.cl Hi v d) : JE c W (tC v) (eC d) := fun σ ρ Hi H ok sv Q h => h v Hi H (Step.refl ok) (hd Hi)
theorem je_int {i : Int} : JE c W (tC (.int i)) (eC (.int i)) := je_c fun _ => .int _
theorem je_str {i : Str} : JE c W (tC (.str i)) (eC (.str i)) := je_c fun _ => .str _
theorem je_bl {i : Bool} : JE c W (tC (.bl i)) (eC (.bl i)) := je_c fun _ => .bl _
theorem je_non : JE c W (tC .non) (eC .non) := je_c fun _ => .non
theorem je_opq {v : V} : JE c W (tC v) (eC (.opq v)) := je_c fun _ => .opq _
/-- one evaluation behind another -/
theorem Step.exc {σ : St} {Hi H Hi' H' : Hp} {x : Xc} (st : Step c Hi H Hi' H') (h : ∀ Hi2 H2, Step c Hi H Hi2 H2 → W x σ Hi2 H2) : ∀ Hi2 H2, Step c Hi' H' Hi2 H2 → W x σ Hi2 H2 := fun Hi2 H2 s2 => h Hi2 H2 (st.trans s2)
theorem meet_step {α : Type} {m : R α} {σ : St} {Hi H Hi' H' : Hp} {p p' : α → Prop} (st : Step c Hi H Hi' H') (h : Meet m p fun x => ∀ Hi2 H2, Step c Hi H Hi2 H2 → W x σ Hi2 H2) (hp : ∀ a, p a → p' a) :
    Meet m p' fun x => ∀ Hi2 H2, Step c Hi' H' Hi2 H2 → W x σ Hi2 H2 := h.imp hp fun x k => st.exc k
theorem ro_meet {α : Type} {m : Option α} {p : α → Prop} {q : Xc → Prop} {G : Prop} (h : Meet (ro m) p q) (k : ∀ a, m = some a → p a → G) : G := by
  cases m with
  | some a => exact k a rfl h
  | none => exact h.elim
theorem je_op (ho : JO c r o) (ha : JE c W ta f) (hb : JE c W tb g) : JE c W (tOp r ta tb) (e2 o f g) := fun σ ρ Hi H ok sv Q h => by
  refine ha σ ρ Hi H ok sv _ (h.bind.imp (fun a h v Hi1 H1 s1 d1 => ?_) fun x k => k)
  refine hb σ ρ Hi1 H1 s1.ok (sv.step s1) _ (meet_step s1 h.bind fun b h v2 Hi2 H2 s2 d2 => ?_)
  exact ro_meet h fun d e q => ho Hi2 H2 s2.ok v v2 a b d Q (d1.up s2.hi) d2 e fun v3 Hi3 H3 s3 d3 => q v3 Hi3 H3 ((s1.trans s2).trans s3) d3
theorem je_exact (ha : JE c W ta f) (e : f = g) : JE c W ta g := e ▸ ha
theorem RetD.to {Hi H Hi' H' : Hp} {Q : VK} {d : D} (h : RetD c Hi H Q d) (s : Step c Hi H Hi' H') : RetD c Hi' H' Q d := fun v Hi2 H2 s2 e => h v Hi2 H2 (s.trans s2) e
theorem RetL.to {Hi H Hi' H' : Hp} {Q : VK} {d : List D} (h : RetL c Hi H Q d) (s : Step c Hi H Hi' H') : RetL c Hi' H' Q d := fun p v Hi2 H2 s2 n n2 e e2 => h p v Hi2 H2 (s.trans s2) (s.free n) n2 e e2
theorem jl_op {o : D → D → Option (List D)} (ho : JOL c r o) (ha : JE c W ta f) (hb : JE c W tb g) : JL c W (tOp r ta tb) (e2L o f g) := fun σ ρ Hi H ok sv Q h => by
  refine ha σ ρ Hi H ok sv _ (h.bind.imp (fun a h v Hi1 H1 s1 d1 => ?_) fun x k => k)
  refine hb σ ρ Hi1 H1 s1.ok (sv.step s1) _ (meet_step s1 h.bind fun b h v2 Hi2 H2 s2 d2 => ?_)
  exact ro_meet h fun d e q => ho Hi2 H2 s2.ok v v2 a b d Q (d1.up s2.hi) d2 e (RetL.to (fun p v Hi2 H2 s2 n n2 e e2 => q p v Hi2 H2 s2 n n2 e e2) (s1.trans s2))
theorem je_un {r : V → Hp → VK → Prop} {o : D → Option D} (ho : JU c r o) (ha : JE c W ta f) : JE c W (tUn r ta) (e1 o f) := fun σ ρ Hi H ok sv Q h => by
  refine ha σ ρ Hi H ok sv _ (h.bind.imp (fun a h v Hi1 H1 s1 d1 => ?_) fun x k => k)
  exact ro_meet h fun d e q => ho Hi1 H1 s1.ok v a d Q d1 e (RetD.to q s1)
/-- a new list, frozen -/
theorem Step.frozen {Hi H Hi' H' : Hp} {p : Addr} {o : HO} (ok : Ok c Hi H) (s : Step c Hi H Hi' H') (n : H p = none) (n' : Hi' p = none) (e : H' p = some o) (ho : ∀ ps, o ≠ .tbl ps := by intro _ z; cases z) : Step c Hi H (upd Hi' p o) H' := by
  refine ⟨s.hi.trans (same_upd n'), s.h, fun q u e1 e2 => ?_, ok, s.ok.freeze e ho n' (ok.free0 n)⟩
  rw [upd_ne (ne_of_none e1 n)]
  exact s.fr q u e1 e2
theorem je_fz (h : JL c W ta fs) : JE c W ta (eFz fs) := fun σ ρ Hi H ok sv Q hq => by
  refine h σ ρ Hi H ok sv Q (hq.bind.imp (fun xs k p vs Hi' H' s n n' e dv => ?_) fun x k => k)
  exact k _ _ _ (Step.frozen ok s n n' e) (.lst upd_same (dv.up (same_upd n')))
theorem ja_nil : JA c W tNil aNil := fun σ ρ Hi H ok sv Q h => h [] Hi H (Step.refl ok) .nil
theorem ja_cons (ha : JE c W ta f) (hr : JA c W tr fs) : JA c W (tCons ta tr) (aCons f fs) := fun σ ρ Hi H ok sv Q h => by
  refine ha σ ρ Hi H ok sv _ (h.bind.imp (fun a h v Hi1 H1 s1 d1 => ?_) fun x k => k)
  refine hr σ ρ Hi1 H1 s1.ok (sv.step s1) _ (meet_step s1 h.bind fun b h vs Hi2 H2 s2 d2 => ?_)
  exact h (v :: vs) Hi2 H2 (s1.trans s2) (.cons (d1.up s2.hi) d2)
theorem lim_le {n : Nat} (h : n ≤ 100000) : n ≤ sizeLine := Nat.le_trans h (by decide)
theorem lim_lt {n : Nat} (h : n < 100000) : n < sizeLine := Nat.lt_of_lt_of_le h (by decide)
theorem meet_if {α : Type} {P : Prop} [Decidable P] {a : R α} {p : α → Prop} {q : Xc → Prop} (h : Meet (if P then a else .bad) p q) : P ∧ Meet a p q := by
  by_cases hp : P
  · rw [if_pos hp] at h; exact ⟨hp, h⟩
  · rw [if_neg hp] at h; exact h.elim
theorem RetD.tup {Hi H : Hp} {Q : VK} {vs : List V} {xs : List D} (q : RetD c Hi H Q (.tup xs)) (ok : Ok c Hi H) (h : DvA c.K c.cl Hi vs xs) (p : Addr) (np : H p = none) : Q (.ref p) (upd H p (.tup vs)) := by
  have s := Step.new (o := .tup vs) ok np
  exact q _ _ _ s (.tup (.inl (.inl upd_same)) (h.up s.hi))
theorem RetL.lst {Hi H : Hp} {Q : VK} {vs : List V} {xs : List D} (q : RetL c Hi H Q xs) (ok : Ok c Hi H) (h : DvA c.K c.cl Hi vs xs) (p : Addr) (np : H p = none) : Q (.ref p) (upd H p (.lst vs)) :=
  q p _ _ _ (Step.newOwn ok np) np (ok.free np) upd_same h
theorem RetD.lst {Hi H : Hp} {Q : VK} {vs : List V} {xs : List D} (q : RetD c Hi H Q (.lst xs)) (ok : Ok c Hi H) (h : DvA c.K c.cl Hi vs xs) (p : Addr) (np : H p = none) : Q (.ref p) (upd H p (.lst vs)) := by
  have s := Step.new (o := .lst vs) ok np
  exact q _ _ _ s (.lst upd_same (h.up s.hi))
theorem RetD.here {Hi H : Hp} {Q : VK} {v : V} {d : D} (q : RetD c Hi H Q d) (ok : Ok c Hi H) (h : Dv c.K c.cl Hi v d) : Q v H := q v Hi H (Step.refl ok) h
/-- what gives a new list gives it frozen too -/
theorem RetL.of {Hi H : Hp} {Q : VK} {xs : List D} (q : RetD c Hi H Q (.lst xs)) (ok : Ok c Hi H) : RetL c Hi H Q xs := fun p vs Hi' H' s n n' e dv => q _ _ _ (Step.frozen ok s n n' e) (.lst upd_same (dv.up (same_upd n')))
theorem je_tup (ha : JA c W ts fs) : JE c W (tTup ts) (eTup fs) := fun σ ρ Hi H ok sv Q h => by
  refine ha σ ρ Hi H ok sv _ (h.bind.imp (fun xs h vs Hi1 H1 s1 d1 => ?_) fun x k => k)
  obtain ⟨hl, h⟩ := meet_if h
  refine ⟨lim_le (by rw [d1.length]; exact hl), fun p np => ?_⟩
  have s2 := Step.new (o := .tup vs) s1.ok np
  exact h _ _ _ (s1.trans s2) (.tup (.inl (.inl upd_same)) (d1.up s2.hi))
theorem jl_lst (ha : JA c W ts fs) : JL c W (tLst ts) (lLst fs) := fun σ ρ Hi H ok sv Q h => by
  refine ha σ ρ Hi H ok sv _ (h.bind.imp (fun xs h vs Hi1 H1 s1 d1 => ?_) fun x k => k)
  obtain ⟨hl, h⟩ := meet_if h
  refine ⟨lim_le (by rw [d1.length]; exact hl), fun p np => ?_⟩
  have s2 := Step.newOwn (o := .lst vs) s1.ok np
  exact h p vs _ _ (s1.trans s2) (s1.free np) (s1.ok.free np) upd_same d1
/-! ### calls of what is built in -/
theorem je_cb {rr : List V → Hp → VK → Prop} {o : List D → Option D} (ho : JC c rr o) (ha : JA c W ts fs) : JE c W (tCB rr ts) (eCB o fs) := fun σ ρ Hi H ok sv Q h => by
  refine ha σ ρ Hi H ok sv _ (h.bind.imp (fun xs h vs Hi1 H1 s1 d1 => ?_) fun x k => k)
  exact ro_meet h fun d e q => ho Hi1 H1 s1.ok vs xs d Q d1 e (RetD.to q s1)
theorem jl_cb {rr : List V → Hp → VK → Prop} {o : List D → Option (List D)} (ho : JCL c rr o) (ha : JA c W ts fs) : JL c W (tCB rr ts) (lCB o fs) := fun σ ρ Hi H ok sv Q h => by
  refine ha σ ρ Hi H ok sv _ (h.bind.imp (fun xs h vs Hi1 H1 s1 d1 => ?_) fun x k => k)
  exact ro_meet h fun d e q => ho Hi1 H1 s1.ok vs xs d Q d1 e (RetL.to (fun p v Hi2 H2 s2 n n2 e e2 => q p v Hi2 H2 s2 n n2 e e2) s1)
/-! ### tests -/
theorem asB_ok {d : D} {p : Bool → Prop} {q : Xc → Prop} {G : Prop} (h : Meet (asB d) p q) (k : ∀ b, d = .bl b → p b → G) : G := by
  cases d <;> first | exact k _ rfl h | exact h.elim
theorem jt_test (ha : JE c W ta f) : JT c W (tTest ta) (bTest f) := fun σ ρ Hi H ok sv Q h => by
  refine ha σ ρ Hi H ok sv _ (h.bind.imp (fun a h v Hi1 H1 s1 d1 => ?_) fun x k => k)
  refine asB_ok h fun b e q => ?_
  subst e
  cases d1
  exact ⟨b, rfl, q _ _ s1⟩
theorem jt_B (ha : JE c W ta f) : JT c W (tB ta) (bTest f) := fun σ ρ Hi H ok sv Q h => by
  refine ha σ ρ Hi H ok sv _ (h.bind.imp (fun a h v Hi1 H1 s1 d1 => ?_) fun x k => k)
  refine asB_ok h fun b e q => ?_
  subst e
  cases d1
  exact ⟨b, rfl, q _ _ s1⟩
theorem jt_not (ha : JT c W tt fb) : JT c W (tNot tt) (bNot fb) := fun σ ρ Hi H ok sv Q h =>
  ha σ ρ Hi H ok sv _ (h.bind.imp (fun a h Hi1 H1 s1 => h Hi1 H1 s1) fun x k => k)
theorem jt_and (ha : JT c W tt fb) (hb : JT c W tu gb) : JT c W (tAnd tt tu) (bAnd fb gb) := fun σ ρ Hi H ok sv Q h => by
  refine ha σ ρ Hi H ok sv _ (h.bind.imp (fun b h Hi1 H1 s1 => ?_) fun x k => k)
  cases b with
  | true => exact hb σ ρ Hi1 H1 s1.ok (sv.step s1) _ (meet_step s1 h fun b h Hi2 H2 s2 => h Hi2 H2 (s1.trans s2))
  | false => exact h Hi1 H1 s1
theorem jt_or (ha : JT c W tt fb) (hb : JT c W tu gb) : JT c W (tOr tt tu) (bOr fb gb) := fun σ ρ Hi H ok sv Q h => by
  refine ha σ ρ Hi H ok sv _ (h.bind.imp (fun b h Hi1 H1 s1 => ?_) fun x k => k)
  cases b with
  | false => exact hb σ ρ Hi1 H1 s1.ok (sv.step s1) _ (meet_step s1 h fun b h Hi2 H2 s2 => h Hi2 H2 (s1.trans s2))
  | true => exact h Hi1 H1 s1
theorem jt_yes : JT c W tYes bYes := fun σ ρ Hi H ok sv Q h => h Hi H (Step.refl ok)
theorem je_and (ha : JE c W ta f) (hb : JE c W tb g) : JE c W (tAndV ta tb) (eAnd f g) := fun σ ρ Hi H ok sv Q h => by
  refine ha σ ρ Hi H ok sv _ (h.bind.imp (fun a h v Hi1 H1 s1 d1 => ?_) fun x k => k)
  refine asB_ok h.bind fun b e q => ?_
  subst e
  cases d1
  refine ⟨b, rfl, ?_⟩
  cases b with
  | true => exact hb σ ρ Hi1 H1 s1.ok (sv.step s1) _ (meet_step s1 q fun b h v2 Hi2 H2 s2 => h v2 Hi2 H2 (s1.trans s2))
  | false => exact q _ _ _ s1 (.bl false)
theorem je_or (ha : JE c W ta f) (hb : JE c W tb g) : JE c W (tOrV ta tb) (eOr f g) := fun σ ρ Hi H ok sv Q h => by
  refine ha σ ρ Hi H ok sv _ (h.bind.imp (fun a h v Hi1 H1 s1 d1 => ?_) fun x k => k)
  refine asB_ok h.bind fun b e q => ?_
  subst e
  cases d1
  refine ⟨b, rfl, ?_⟩
  cases b with
  | false => exact hb σ ρ Hi1 H1 s1.ok (sv.step s1) _ (meet_step s1 q fun b h v2 Hi2 H2 s2 => h v2 Hi2 H2 (s1.trans s2))
  | true => exact q _ _ _ s1 (.bl true)
theorem je_not (ha : JE c W ta f) : JE c W (tNotV ta) (eNot f) := fun σ ρ Hi H ok sv Q h => by
  refine ha σ ρ Hi H ok sv _ (h.bind.imp (fun a h v Hi1 H1 s1 d1 => ?_) fun x k => k)
  refine asB_ok h.bind fun b e q => ?_
  subst e
  cases d1
  exact ⟨b, rfl, q _ _ _ s1 (.bl _)⟩
theorem je_if (ht : JT c W tt fb) (ha : JE c W ta f) (hb : JE c W tb g) : JE c W (tIf tt ta tb) (eIf fb f g) := fun σ ρ Hi H ok sv Q h => by
  refine ht σ ρ Hi H ok sv _ (h.bind.imp (fun b h Hi1 H1 s1 => ?_) fun x k => k)
  cases b with
  | true => exact ha σ ρ Hi1 H1 s1.ok (sv.step s1) _ (meet_step s1 h fun b h v2 Hi2 H2 s2 => h v2 Hi2 H2 (s1.trans s2))
  | false => exact hb σ ρ Hi1 H1 s1.ok (sv.step s1) _ (meet_step s1 h fun b h v2 Hi2 H2 s2 => h v2 Hi2 H2 (s1.trans s2))
theorem je_chain (ho : JO c r o) (ho' : JO c r' o') (ha : JE c W ta f) (hb : JE c W tb g) (hc : JE c W tc h) : JE c W (tChain r r' ta tb tc) (eChain o o' f g h) := fun σ ρ Hi H ok sv Q hq => by
  refine ha σ ρ Hi H ok sv _ (hq.bind.imp (fun a hq v Hi1 H1 s1 d1 => ?_) fun x k => k)
  refine hb σ ρ Hi1 H1 s1.ok (sv.step s1) _ (meet_step s1 hq.bind fun b hq v2 Hi2 H2 s2 d2 => ?_)
  refine ro_meet hq.bind fun z ez q => ho Hi2 H2 s2.ok v v2 a b z _ (d1.up s2.hi) d2 ez fun v3 Hi3 H3 s3 d3 => ?_
  refine asB_ok q.bind fun k e q => ?_
  subst e
  cases d3
  refine ⟨k, rfl, ?_⟩
  have s123 := (s1.trans s2).trans s3
  cases k with
  | true =>
    refine hc σ ρ Hi3 H3 s3.ok (sv.step s123) _ (meet_step s123 (Meet.bind q) fun d h v4 Hi4 H4 s4 d4 => ?_)
    exact ro_meet h fun z2 ez2 q => ho' Hi4 H4 s4.ok v2 v4 b d z2 Q (d2.up (s3.hi.trans s4.hi)) d4 ez2 (RetD.to q (s123.trans s4))
  | false => exact q _ _ _ s123 (.bl false)
/-! ### slices -/
theorem jp_no : JP c W tNoPart pNo := fun σ ρ Hi H ok sv Q h => h Hi H (Step.refl ok)
theorem jp_some (ha : JE c W ta f) : JP c W (tPart ta) (pSome f) := fun σ ρ Hi H ok sv Q h => by
  refine ha σ ρ Hi H ok sv _ (h.bind.imp (fun a h v Hi1 H1 s1 d1 => ?_) fun x k => k)
  cases a <;> first | exact h.elim | (cases d1; exact ⟨_, rfl, h _ _ s1⟩)
theorem je_sl {rr : V → Option Int → Option Int → Hp → VK → Prop} {oo : D → Option Int → Option Int → Option D} {tl th : TO} {pl ph : Rho → R (Option Int)} (ho : JS3 c rr oo) (ha : JE c W ta f) (hl : JP c W tl pl) (hh : JP c W th ph) :
    JE c W (tSl rr ta tl th) (eSl oo f pl ph) := fun σ ρ Hi H ok sv Q h => by
  refine ha σ ρ Hi H ok sv _ (h.bind.imp (fun a h v Hi1 H1 s1 d1 => ?_) fun x k => k)
  refine hl σ ρ Hi1 H1 s1.ok (sv.step s1) _ (meet_step s1 h.bind fun i h Hi2 H2 s2 => ?_)
  have s12 := s1.trans s2
  refine hh σ ρ Hi2 H2 s2.ok (sv.step s12) _ (meet_step s12 h.bind fun j h Hi3 H3 s3 => ?_)
  exact ro_meet h fun d e q => ho Hi3 H3 s3.ok v i j a d Q (d1.up (s2.hi.trans s3.hi)) e (RetD.to q (s12.trans s3))
theorem jl_sl {rr : V → Option Int → Option Int → Hp → VK → Prop} {oo : D → Option Int → Option Int → Option (List D)} {tl th : TO} {pl ph : Rho → R (Option Int)} (ho : JSL3 c rr oo) (ha : JE c W ta f) (hl : JP c W tl pl) (hh : JP c W th ph) :
    JL c W (tSl rr ta tl th) (lSl oo f pl ph) := fun σ ρ Hi H ok sv Q h => by
  refine ha σ ρ Hi H ok sv _ (h.bind.imp (fun a h v Hi1 H1 s1 d1 => ?_) fun x k => k)
  refine hl σ ρ Hi1 H1 s1.ok (sv.step s1) _ (meet_step s1 h.bind fun i h Hi2 H2 s2 => ?_)
  have s12 := s1.trans s2
  refine hh σ ρ Hi2 H2 s2.ok (sv.step s12) _ (meet_step s12 h.bind fun j h Hi3 H3 s3 => ?_)
  exact ro_meet h fun d e q => ho Hi3 H3 s3.ok v i j a d Q (d1.up (s2.hi.trans s3.hi)) e (RetL.to (fun p v Hi2 H2 s2 n n2 e e2 => q p v Hi2 H2 s2 n n2 e e2) (s12.trans s3))
end
end Xd
namespace Xd
open PySem L2 Xg

/-! ### one of several rules -/
theorem OpR.or {X : Cx} {f : Value → Value → Sem Value} {r1 r2 : R2} (h1 : OpR X f r1) (h2 : OpR X f r2) : OpR X f (fun x y H Q => r1 x y H Q ∨ r2 x y H Q) := fun pins s σ H x y v u Q I rx ry h =>
  h.elim (h1 pins s σ H x y v u Q I rx ry) (h2 pins s σ H x y v u Q I rx ry)
theorem CallR.or {X : Cx} {f : Value} {r1 r2 : List V → Hp → VK → Prop} (h1 : CallR X f r1) (h2 : CallR X f r2) : CallR X f (fun xs H Q => r1 xs H Q ∨ r2 xs H Q) := fun pins s σ H xs us Q I rv h =>
  h.elim (h1 pins s σ H xs us Q I rv) (h2 pins s σ H xs us Q I rv)
theorem SlR.or {X : Cx} {r1 r2 : V → Option Int → Option Int → Hp → VK → Prop} (h1 : SlR X r1) (h2 : SlR X r2) : SlR X (fun x i j H Q => r1 x i j H Q ∨ r2 x i j H Q) := fun pins s σ H x v vl vu lo hi sl Q I rx hs pl pu h =>
  h.elim (h1 pins s σ H x v vl vu lo hi sl Q I rx hs pl pu) (h2 pins s σ H x v vl vu lo hi sl Q I rx hs pl pu)
def rOrStr : R2 := fun x y H Q => ∃ i j, x = .str i ∧ y = .str j ∧ i.length + j.length ≤ sizeLine ∧ Q (.str (i ++ j)) H
def rAddX (K : PySem.W.Frag) : R2 := fun x y H Q => rI0 (fun i j => .int (i + j)) x y H Q ∨ (rOrStr x y H Q ∨ (rCat x y H Q ∨ rCatA K x y H Q))
theorem op_addX {X : Cx} : OpR X (binaryOp .Add) (rAddX X.K) := OpR.or op_add (OpR.or op_add_str (OpR.or op_cat op_catA))
def rMulX (K : PySem.W.Frag) : R2 := fun x y H Q => rI CMul (fun i j => .int (i * j)) x y H Q ∨ (rRep x y H Q ∨ rRepT K x y H Q)
theorem op_mulX {X : Cx} : OpR X (binaryOp .Mult) (rMulX X.K) := OpR.or op_mul (OpR.or op_rep op_repT)

/-! ### small values -/
def sv : D → Option V
  | .non => some .non
  | .bl b => some (.bl b)
  | .int i => some (.int i)
  | .str s => some (.str s)
  | _ => none
section
variable {c : Cc} {K : PySem.W.Frag} {cl : Nat → Addr} {Hi : Hp}
theorem Dv.small {v x : V} {d : D} (h : Dv K cl Hi v d) (e : sv d = some x) : v = x := by
  cases h <;> simp [sv] at e <;> exact e
theorem Dv.ofSmall {x : V} {d : D} (e : sv d = some x) : Dv K cl Hi x d := by
  cases d <;> simp [sv] at e <;> subst e
  · exact .non
  · exact .bl _
  · exact .int _
  · exact .str _
def svs : List D → Option (List V)
  | [] => some []
  | d :: ds => match sv d, svs ds with
    | some x, some xs => some (x :: xs)
    | _, _ => none
theorem DvA.small : ∀ {ds : List D} {vs xs : List V}, DvA K cl Hi vs ds → svs ds = some xs → vs = xs
  | [], _, _, h, e => by cases h; simp [svs] at e; exact e.symm
  | d :: ds, _, xs, h, e => by
    cases h with
    | cons h1 h2 =>
      simp only [svs] at e
      split at e
      · rename_i x ys e1 e2
        cases e
        rw [h1.small e1, DvA.small h2 e2]
      · cases e
theorem svs_flat : ∀ {ds : List D} {xs : List V}, svs ds = some xs → xs.all flatV = true
  | [], xs, e => by simp [svs] at e; subst e; rfl
  | d :: ds, xs, e => by
    simp only [svs] at e
    split at e
    · rename_i x ys e1 e2
      cases e
      rw [List.all_cons, svs_flat e2, Bool.and_true]
      cases d <;> simp [sv] at e1 <;> subst e1 <;> rfl
    · cases e
theorem sv_flat {d : D} {x : V} (e : sv d = some x) : flatV x = true := by
  cases d <;> simp [sv] at e <;> subst e <;> rfl
end

/-! ### arithmetic -/
def oAdd (a b : D) : Option D := match a, b with
  | .int i, .int j => some (.int (i + j))
  | .str i, .str j => if i.length + j.length ≤ 100000 then some (.str (i ++ j)) else none
  | .lst xs, .lst ys => if xs.length + ys.length ≤ 100000 then some (.lst (xs ++ ys)) else none
  | .tup xs, .tup ys => if xs.length + ys.length ≤ 100000 then some (.tup (xs ++ ys)) else none
  | _, _ => none
def oAddL (a b : D) : Option (List D) := match a, b with
  | .lst xs, .lst ys => if xs.length + ys.length ≤ 100000 then some (xs ++ ys) else none
  | _, _ => none
def oMulL (a b : D) : Option (List D) := match a, b with
  | .lst xs, .int k => if 0 ≤ k ∧ k ≤ 100000 ∧ xs.length * k.toNat ≤ 100000 then some (List.replicate k.toNat xs).flatten else none
  | _, _ => none
def oMul (a b : D) : Option D := match a, b with
  | .int i, .int j => if (-(2 ^ 64) < i ∧ i < 2 ^ 64) ∨ (-(2 ^ 64) < j ∧ j < 2 ^ 64) then some (.int (i * j)) else none
  | .tup xs, .int k => if xs ≠ [] ∧ 2 ≤ k ∧ k ≤ 1000 ∧ xs.length ≤ 1000 then some (.tup (List.replicate k.toNat xs).flatten) else none
  | .lst xs, .int k => if 0 ≤ k ∧ k ≤ 100000 ∧ xs.length * k.toNat ≤ 100000 then some (.lst (List.replicate k.toNat xs).flatten) else none
  | _, _ => none
def oI2 (p : Int → Int → Bool) (g : Int → Int → D) (a b : D) : Option D := match a, b with
  | .int i, .int j => if p i j = true then some (g i j) else none
  | _, _ => none
def oSub : D → D → Option D := oI2 (fun _ _ => true) fun i j => .int (i - j)
def oFdiv : D → D → Option D := oI2 (fun _ j => decide (0 < j ∧ j < 1073741824)) fun i j => .int (i / j)
def oMod : D → D → Option D := oI2 (fun _ j => decide (0 < j)) fun i j => .int (i % j)
def oLt : D → D → Option D := oI2 (fun _ _ => true) fun i j => .bl (decide (i < j))
def oLe : D → D → Option D := oI2 (fun _ _ => true) fun i j => .bl (decide (i ≤ j))
def oGt : D → D → Option D := oI2 (fun _ _ => true) fun i j => .bl (decide (j < i))
def oGe : D → D → Option D := oI2 (fun _ _ => true) fun i j => .bl (decide (j ≤ i))
def uNeg (a : D) : Option D := match a with
  | .int i => some (.int (-i))
  | _ => none
section
variable {c : Cc}
theorem oI2_inv {p : Int → Int → Bool} {g : Int → Int → D} {a b d : D} (h : oI2 p g a b = some d) : ∃ i j, a = .int i ∧ b = .int j ∧ p i j = true ∧ d = g i j := by
  unfold oI2 at h
  split at h
  · rename_i i j
    by_cases hp : p i j = true
    · rw [if_pos hp] at h; cases h; exact ⟨i, j, rfl, rfl, hp, rfl⟩
    · rw [if_neg hp] at h; cases h
  · cases h
theorem jo_I0 {g : Int → Int → V} {g' : Int → Int → D} (hg : ∀ i j, sv (g' i j) = some (g i j)) : JO c (rI0 g) (oI2 (fun _ _ => true) g') := fun Hi H ok x y a b d Q hx hy e q => by
  obtain ⟨i, j, rfl, rfl, _, rfl⟩ := oI2_inv e
  cases hx
  cases hy
  exact ⟨i, j, rfl, rfl, q _ _ _ (Step.refl ok) (Dv.ofSmall (hg i j))⟩
theorem jo_I {C : Int → Int → Prop} {p : Int → Int → Bool} {g : Int → Int → V} {g' : Int → Int → D} (hp : ∀ i j, p i j = true → C i j) (hg : ∀ i j, sv (g' i j) = some (g i j)) : JO c (rI C g) (oI2 p g') := fun Hi H ok x y a b d Q hx hy e q => by
  obtain ⟨i, j, rfl, rfl, h, rfl⟩ := oI2_inv e
  cases hx
  cases hy
  exact ⟨i, j, rfl, rfl, hp i j h, q _ _ _ (Step.refl ok) (Dv.ofSmall (hg i j))⟩
theorem jo_sub : JO c (rI0 fun i j => .int (i - j)) oSub := jo_I0 fun _ _ => rfl
theorem jo_fdiv : JO c (rI CDiv fun i j => .int (i / j)) oFdiv := jo_I (fun i j h => (by have h' : 0 < j ∧ j < 1073741824 := of_decide_eq_true h; exact h')) fun _ _ => rfl
theorem jo_mod : JO c (rI (fun _ j => 0 < j) fun i j => .int (i % j)) oMod := jo_I (fun i j h => of_decide_eq_true h) fun _ _ => rfl
theorem jo_lt : JO c (rI0 fun i j => .bl (decide (i < j))) oLt := jo_I0 fun _ _ => rfl
theorem jo_le : JO c (rI0 fun i j => .bl (decide (i ≤ j))) oLe := jo_I0 fun _ _ => rfl
theorem jo_gt : JO c (rI0 fun i j => .bl (decide (j < i))) oGt := jo_I0 fun _ _ => rfl
theorem jo_ge : JO c (rI0 fun i j => .bl (decide (j ≤ i))) oGe := jo_I0 fun _ _ => rfl
theorem ju_neg : JU c (rU fun i => .int (-i)) uNeg := fun Hi H ok x a d Q hx e q => by
  cases a <;> simp [uNeg] at e
  subst e
  cases hx
  exact ⟨_, rfl, q _ _ _ (Step.refl ok) (.int _)⟩
theorem if_some {α : Type} {P : Prop} [Decidable P] {a b : α} (h : (if P then some a else none) = some b) : P ∧ a = b := by
  by_cases hp : P
  · rw [if_pos hp] at h; exact ⟨hp, Option.some.inj h⟩
  · rw [if_neg hp] at h; cases h
theorem DvA.nil_iff {K : PySem.W.Frag} {cl : Nat → Addr} {Hi : Hp} {vs : List V} {ds : List D} (h : DvA K cl Hi vs ds) : vs = [] ↔ ds = [] := by
  cases h with
  | nil => simp
  | cons _ _ => simp
theorem jol_add : JOL c (rAddX c.K) oAddL := fun Hi H ok x y a b d Q hx hy e q => by
  unfold oAddL at e
  split at e
  · rename_i xs ys
    obtain ⟨hl, rfl⟩ := if_some e
    cases hx with
    | lst h1 h2 =>
      cases hy with
      | lst k1 k2 =>
        refine .inr (.inr (.inl ⟨_, _, _, _, rfl, rfl, ok.le _ _ h1, ok.le _ _ k1, lim_le (by rw [h2.length, k2.length]; exact hl), fun p np => ?_⟩))
        exact q p _ _ _ (Step.newOwn ok np) np (ok.free np) upd_same (h2.append k2)
  · cases e
theorem jo_add : JO c (rAddX c.K) oAdd := fun Hi H ok x y a b d Q hx hy e q => by
  unfold oAdd at e
  split at e
  · rename_i i j
    cases e
    cases hx
    cases hy
    exact .inl ⟨i, j, rfl, rfl, q _ _ _ (Step.refl ok) (.int _)⟩
  · rename_i i j
    obtain ⟨hl, rfl⟩ := if_some e
    cases hx
    cases hy
    exact .inr (.inl ⟨i, j, rfl, rfl, lim_le hl, q _ _ _ (Step.refl ok) (.str _)⟩)
  · rename_i xs ys
    obtain ⟨hl, rfl⟩ := if_some e
    refine jol_add Hi H ok x y (.lst xs) (.lst ys) (xs ++ ys) Q hx hy (by unfold oAddL; simp only; rw [if_pos hl]) fun p vs Hi' H' s n n' e dv => ?_
    exact q _ _ _ (Step.frozen ok s n n' e) (.lst upd_same (dv.up (same_upd n')))
  · rename_i xs ys
    obtain ⟨hl, rfl⟩ := if_some e
    cases hx with
    | tup h1 h2 =>
      cases hy with
      | tup k1 k2 =>
        refine .inr (.inr (.inr ⟨_, _, _, _, rfl, rfl, same_t ok.le h1, same_t ok.le k1, lim_le (by rw [h2.length, k2.length]; exact hl), fun z => ?_, fun _ z => ?_, fun _ _ p np => ?_⟩))
        · have e2 := h2.nil_iff.mp z
          subst e2
          exact q _ _ _ (Step.refl ok) (.tup k1 k2)
        · have e2 := k2.nil_iff.mp z
          subst e2
          rw [List.append_nil] at q
          exact q _ _ _ (Step.refl ok) (.tup h1 h2)
        · exact q.tup ok (h2.append k2) p np
  · cases e
theorem DvA.rep {K : PySem.W.Frag} {cl : Nat → Addr} {Hi : Hp} {vs : List V} {ds : List D} (h : DvA K cl Hi vs ds) : ∀ n, DvA K cl Hi (List.replicate n vs).flatten (List.replicate n ds).flatten
  | 0 => .nil
  | n + 1 => by
    rw [List.replicate_succ, List.replicate_succ, List.flatten_cons, List.flatten_cons]
    exact h.append (DvA.rep h n)
theorem jol_mul : JOL c (rMulX c.K) oMulL := fun Hi H ok x y a b d Q hx hy e q => by
  unfold oMulL at e
  split at e
  · rename_i xs k
    obtain ⟨⟨h0, h1, hl⟩, rfl⟩ := if_some e
    cases hy
    cases hx with
    | lst h1' h2 =>
      refine .inr (.inl ⟨_, _, _, rfl, rfl, ok.le _ _ h1', by omega, by omega, lim_le (by rw [h2.length]; exact hl), fun p np => ?_⟩)
      exact q p _ _ _ (Step.newOwn ok np) np (ok.free np) upd_same (h2.rep _)
  · cases e
theorem jo_mul : JO c (rMulX c.K) oMul := fun Hi H ok x y a b d Q hx hy e q => by
  unfold oMul at e
  split at e
  · rename_i i j
    obtain ⟨hc, rfl⟩ := if_some e
    cases hx
    cases hy
    exact .inl ⟨i, j, rfl, rfl, hc, q _ _ _ (Step.refl ok) (.int _)⟩
  · rename_i xs k
    obtain ⟨⟨h0, h1, h2, h3⟩, rfl⟩ := if_some e
    cases hy
    cases hx with
    | tup k1 k2 =>
      refine .inr (.inr ⟨_, _, _, rfl, rfl, same_t ok.le k1, fun z => h0 (k2.nil_iff.mp z), h1, h2, by rw [k2.length]; exact h3, fun p np => ?_⟩)
      exact q.tup ok (k2.rep _) p np
  · rename_i xs k
    obtain ⟨hc, rfl⟩ := if_some e
    refine jol_mul Hi H ok x y (.lst xs) (.int k) _ Q hx hy (by unfold oMulL; simp only; rw [if_pos hc]) fun p vs Hi' H' s n n' e dv => ?_
    exact q _ _ _ (Step.frozen ok s n n' e) (.lst upd_same (dv.up (same_upd n')))
  · cases e
end

/-! ### is None, is True -/
def oIsN (a b : D) : Option D := match a, b with
  | .opq v, .non => some (.bl (decide (v = .non)))
  | .non, .non => some (.bl true)
  | _, .non => some (.bl false)
  | _, _ => none
def oNotN (a b : D) : Option D := match a, b with
  | .opq v, .non => some (.bl (!decide (v = .non)))
  | .non, .non => some (.bl false)
  | _, .non => some (.bl true)
  | _, _ => none
def rIsX : R2 := fun x y H Q => (y = .non ∧ Q (.bl (decide (x = .non))) H) ∨ ∃ a b, x = .bl a ∧ y = .bl b ∧ Q (.bl (decide (a = b))) H
def rIsNotX : R2 := fun x y H Q => (y = .non ∧ Q (.bl (!decide (x = .non))) H) ∨ ∃ a b, x = .bl a ∧ y = .bl b ∧ Q (.bl (!decide (a = b))) H
theorem op_isX {X : Cx} : OpR X (compareOp .Is) rIsX := OpR.or op_isN op_is_bl
theorem op_isNotX {X : Cx} : OpR X (compareOp .IsNot) rIsNotX := OpR.or op_notN op_isnot_bl
def oIs (a b : D) : Option D := match a, b with
  | .bl i, .bl j => some (.bl (decide (i = j)))
  | a, b => oIsN a b
def oIsNot (a b : D) : Option D := match a, b with
  | .bl i, .bl j => some (.bl (!decide (i = j)))
  | a, b => oNotN a b
section
variable {c : Cc}
theorem dv_non {K : PySem.W.Frag} {cl : Nat → Addr} {Hi : Hp} {x : V} {a : D} (h : Dv K cl Hi x a) : (∃ v, a = .opq v ∧ x = v) ∨ (a = .non ∧ x = .non) ∨ ((∀ v, a ≠ .opq v) ∧ a ≠ .non ∧ x ≠ .non) := by
  cases h <;> simp
theorem jo_isN : JO c (fun x y H Q => y = .non ∧ Q (.bl (decide (x = .non))) H) oIsN := fun Hi H ok x y a b d Q hx hy e q => by
  have hb : b = .non := by
    cases b with
    | non => rfl
    | _ => cases a <;> simp [oIsN] at e
  subst hb
  cases hy
  refine ⟨rfl, q _ _ _ (Step.refl ok) ?_⟩
  rcases dv_non hx with ⟨v, rfl, rfl⟩ | ⟨rfl, rfl⟩ | ⟨h1, h2, h3⟩
  · simp [oIsN] at e; subst e; exact .bl _
  · simp [oIsN] at e; subst e; exact .bl _
  · rw [decide_eq_false h3]
    cases a <;> first | exact absurd rfl h2 | exact absurd rfl (h1 _) | (simp [oIsN] at e; subst e; exact .bl _)
theorem jo_notN : JO c (fun x y H Q => y = .non ∧ Q (.bl (!decide (x = .non))) H) oNotN := fun Hi H ok x y a b d Q hx hy e q => by
  have hb : b = .non := by
    cases b with
    | non => rfl
    | _ => cases a <;> simp [oNotN] at e
  subst hb
  cases hy
  refine ⟨rfl, q _ _ _ (Step.refl ok) ?_⟩
  rcases dv_non hx with ⟨v, rfl, rfl⟩ | ⟨rfl, rfl⟩ | ⟨h1, h2, h3⟩
  · simp [oNotN] at e; subst e; first | exact .bl _ | (simp; exact .bl _)
  · simp [oNotN] at e; subst e; exact .bl _
  · rw [decide_eq_false h3]
    cases a <;> first | exact absurd rfl h2 | exact absurd rfl (h1 _) | (simp [oNotN] at e; subst e; exact .bl _)
theorem jo_is : JO c rIsX oIs := fun Hi H ok x y a b d Q hx hy e q => by
  unfold oIs at e
  split at e
  · cases e
    cases hx
    cases hy
    exact .inr ⟨_, _, rfl, rfl, q _ _ _ (Step.refl ok) (.bl _)⟩
  · exact .inl (jo_isN Hi H ok x y a b d Q hx hy e q)
theorem jo_isNot : JO c rIsNotX oIsNot := fun Hi H ok x y a b d Q hx hy e q => by
  unfold oIsNot at e
  split at e
  · cases e
    cases hx
    cases hy
    exact .inr ⟨_, _, rfl, rfl, q _ _ _ (Step.refl ok) (.bl _)⟩
  · exact .inl (jo_notN Hi H ok x y a b d Q hx hy e q)
end

/-! ### == -/
mutual
def toPy : D → Option PyData
  | .non => some .none
  | .bl b => some (.bool b)
  | .int i => some (.int i)
  | .str s => some (.str s)
  | .lst xs => (toPys xs).map .list
  | .tup xs => (toPys xs).map .tuple
  | .ins _ _ _ => none
  | .opq _ => none
def toPys : List D → Option (List PyData)
  | [] => some []
  | d :: ds => match toPy d, toPys ds with
    | some p, some ps => some (p :: ps)
    | _, _ => none
end
section
variable {K : PySem.W.Frag} {cl : Nat → Addr} {Hi H : Hp}
mutual
theorem Dv.py (e : Same Hi H) : ∀ (d : D) (v : V) (p : PyData), Dv K cl Hi v d → toPy d = some p → Dp K H v p
  | .non, _, _, h, q => by cases h; simp [toPy] at q; subst q; exact .non
  | .bl _, _, _, h, q => by cases h; simp [toPy] at q; subst q; exact .bl _
  | .int _, _, _, h, q => by cases h; simp [toPy] at q; subst q; exact .int _
  | .str _, _, _, h, q => by cases h; simp [toPy] at q; subst q; exact .str _
  | .lst xs, _, _, h, q => by
    cases h with
    | lst h1 h2 =>
      simp only [toPy, Option.map_eq_some_iff] at q
      obtain ⟨ps, q, rfl⟩ := q
      exact .lst (.inl (.inl (e _ _ h1))) (DvA.py e xs _ ps h2 q)
  | .tup xs, _, _, h, q => by
    cases h with
    | tup h1 h2 =>
      simp only [toPy, Option.map_eq_some_iff] at q
      obtain ⟨ps, q, rfl⟩ := q
      exact .tup (same_t e h1) (DvA.py e xs _ ps h2 q)
  | .ins _ _ _, _, _, _, q => by simp [toPy] at q
  | .opq _, _, _, _, q => by simp [toPy] at q
theorem DvA.py (e : Same Hi H) : ∀ (ds : List D) (vs : List V) (ps : List PyData), DvA K cl Hi vs ds → toPys ds = some ps → DpAll K H vs ps
  | [], _, _, h, q => by cases h; simp [toPys] at q; subst q; exact .nil
  | d :: ds, _, _, h, q => by
    cases h with
    | cons h1 h2 =>
      simp only [toPys] at q
      split at q
      · rename_i p ps q1 q2
        cases q
        exact .cons (Dv.py e d _ p h1 q1) (DvA.py e ds _ ps h2 q2)
      · cases q
end
end
def eqB (a b : D) : Option Bool := match sv a, sv b with
  | some x, some y => if scal x y = true then some (decide (x = y)) else match toPy a, toPy b with
    | some p, some q => if (PySem.SeqAt.shaped p && PySem.SeqAt.shaped q) = true then some (PyData.eqv p q) else none
    | _, _ => none
  | _, _ => match toPy a, toPy b with
    | some p, some q => if (PySem.SeqAt.shaped p && PySem.SeqAt.shaped q) = true then some (PyData.eqv p q) else none
    | _, _ => none
def oEq (a b : D) : Option D := (eqB a b).map fun k => .bl k
def oNe (a b : D) : Option D := (eqB a b).map fun k => .bl (!k)
def rEqX (K : PySem.W.Frag) : R2 := fun x y H Q => rEq x y H Q ∨ rEqD K x y H Q
def rNeX (K : PySem.W.Frag) : R2 := fun x y H Q => rNe x y H Q ∨ rNeD K x y H Q
theorem op_eqX {X : Cx} (hu : X.A.units + 64 < cLine) : OpR X (compareOp .Eq) (rEqX X.K) := OpR.or op_eq (op_eqD hu)
theorem op_neX {X : Cx} (hu : X.A.units + 64 < cLine) : OpR X (compareOp .NotEq) (rNeX X.K) := OpR.or op_ne (op_neD hu)
section
variable {c : Cc}
theorem eqB_inv {a b : D} {k : Bool} (h : eqB a b = some k) : (∃ x y, sv a = some x ∧ sv b = some y ∧ scal x y = true ∧ k = decide (x = y)) ∨ ∃ p q, toPy a = some p ∧ toPy b = some q ∧ PySem.SeqAt.shaped p = true ∧ PySem.SeqAt.shaped q = true ∧ k = PyData.eqv p q := by
  have data : (match toPy a, toPy b with
    | some p, some q => if (PySem.SeqAt.shaped p && PySem.SeqAt.shaped q) = true then some (PyData.eqv p q) else none
    | _, _ => none) = some k → ∃ p q, toPy a = some p ∧ toPy b = some q ∧ PySem.SeqAt.shaped p = true ∧ PySem.SeqAt.shaped q = true ∧ k = PyData.eqv p q := fun h => by
    split at h
    · rename_i p q e1 e2
      obtain ⟨hs, hk⟩ := if_some h
      rw [Bool.and_eq_true] at hs
      exact ⟨p, q, e1, e2, hs.1, hs.2, hk.symm⟩
    · cases h
  unfold eqB at h
  split at h
  · rename_i x y e1 e2
    by_cases hs : scal x y = true
    · rw [if_pos hs] at h
      cases h
      exact .inl ⟨x, y, e1, e2, hs, rfl⟩
    · rw [if_neg hs] at h
      exact .inr (data h)
  · exact .inr (data h)
theorem jo_eq : JO c (rEqX c.K) oEq := fun Hi H ok x y a b d Q hx hy e q => by
  unfold oEq at e
  obtain ⟨k, e0, rfl⟩ := Option.map_eq_some_iff.mp e
  rcases eqB_inv e0 with ⟨x', y', e1, e2, hs, rfl⟩ | ⟨p, p', e1, e2, h1, h2, rfl⟩
  · have z1 := hx.small e1
    have z2 := hy.small e2
    subst z1 z2
    exact .inl ⟨hs, q _ _ _ (Step.refl ok) (.bl _)⟩
  · exact .inr ⟨p, p', Dv.py ok.le a x p hx e1, Dv.py ok.le b y p' hy e2, h1, h2, q _ _ _ (Step.refl ok) (.bl _)⟩
theorem jo_ne : JO c (rNeX c.K) oNe := fun Hi H ok x y a b d Q hx hy e q => by
  unfold oNe at e
  obtain ⟨k, e0, rfl⟩ := Option.map_eq_some_iff.mp e
  rcases eqB_inv e0 with ⟨x', y', e1, e2, hs, rfl⟩ | ⟨p, p', e1, e2, h1, h2, rfl⟩
  · have z1 := hx.small e1
    have z2 := hy.small e2
    subst z1 z2
    exact .inl ⟨hs, q _ _ _ (Step.refl ok) (.bl _)⟩
  · exact .inr ⟨p, p', Dv.py ok.le a x p hx e1, Dv.py ok.le b y p' hy e2, h1, h2, q _ _ _ (Step.refl ok) (.bl _)⟩
end

/-! ### in -/
def inB (a b : D) : Option Bool := match sv a with
  | some x => match b with
    | .lst ys => (svs ys).map fun vs => inV x vs
    | .tup ys => (svs ys).map fun vs => inV x vs
    | .str z => match a with
      | .str s => match s.cps.toList with
        | [k] => some (decide (k ∈ z.cps.toList))
        | _ => none
      | _ => none
    | _ => none
  | none => none
def oIn (a b : D) : Option D := (inB a b).map fun k => .bl k
def oNotIn (a b : D) : Option D := (inB a b).map fun k => .bl (!k)
def rInX (K : PySem.W.Frag) : R2 := fun x y H Q => rIn K false x y H Q ∨ ∃ (c : Nat) (z : Str), x = .str ⟨#[c]⟩ ∧ y = .str z ∧ Q (.bl (decide (c ∈ z.cps.toList))) H
def rNotInX (K : PySem.W.Frag) : R2 := fun x y H Q => rIn K true x y H Q ∨ ∃ (c : Nat) (z : Str), x = .str ⟨#[c]⟩ ∧ y = .str z ∧ Q (.bl (!decide (c ∈ z.cps.toList))) H
theorem op_inX {X : Cx} : OpR X (compareOp .In) (rInX X.K) := OpR.or op_in_seq op_in_sign
theorem op_notInX {X : Cx} : OpR X (compareOp .NotIn) (rNotInX X.K) := OpR.or op_notIn_seq op_notIn_sign
section
variable {c : Cc}
theorem inB_inv {Hi H : Hp} (ok : Ok c Hi H) {x y : V} {a b : D} {k : Bool} (hx : Dv c.K c.cl Hi x a) (hy : Dv c.K c.cl Hi y b) (h : inB a b = some k) :
    (∃ p vs, y = .ref p ∧ (SqL c.K H p vs ∨ SqT c.K H p vs) ∧ flatV x = true ∧ vs.all flatV = true ∧ k = inV x vs) ∨ ∃ (n : Nat) (z : Str), x = .str ⟨#[n]⟩ ∧ y = .str z ∧ k = decide (n ∈ z.cps.toList) := by
  unfold inB at h
  split at h
  · rename_i x' ex
    have z1 := hx.small ex
    subst z1
    split at h
    · rename_i ys
      obtain ⟨vs, e, rfl⟩ := Option.map_eq_some_iff.mp h
      cases hy with
      | lst h1 h2 =>
        have z2 := h2.small e
        subst z2
        exact .inl ⟨_, _, rfl, .inl (.inl (.inl (ok.le _ _ h1))), sv_flat ex, svs_flat e, rfl⟩
    · rename_i ys
      obtain ⟨vs, e, rfl⟩ := Option.map_eq_some_iff.mp h
      cases hy with
      | tup h1 h2 =>
        have z2 := h2.small e
        subst z2
        exact .inl ⟨_, _, rfl, .inr (same_t ok.le h1), sv_flat ex, svs_flat e, rfl⟩
    · rename_i z
      split at h
      · rename_i s
        split at h
        · rename_i n en
          cases h
          cases hx
          cases hy
          refine .inr ⟨n, z, ?_, rfl, rfl⟩
          congr 1
          cases s with
          | mk cps =>
            congr 1
            apply Array.toList_inj.mp
            exact en
        · cases h
      · cases h
    · cases h
  · cases h
theorem jo_in : JO c (rInX c.K) oIn := fun Hi H ok x y a b d Q hx hy e q => by
  unfold oIn at e
  obtain ⟨k, e0, rfl⟩ := Option.map_eq_some_iff.mp e
  rcases inB_inv ok hx hy e0 with ⟨p, vs, rfl, h1, h2, h3, rfl⟩ | ⟨n, z, rfl, rfl, rfl⟩
  · exact .inl ⟨p, vs, rfl, h1, h2, h3, q _ _ _ (Step.refl ok) (.bl _)⟩
  · exact .inr ⟨n, z, rfl, rfl, q _ _ _ (Step.refl ok) (.bl _)⟩
theorem jo_notIn : JO c (rNotInX c.K) oNotIn := fun Hi H ok x y a b d Q hx hy e q => by
  unfold oNotIn at e
  obtain ⟨k, e0, rfl⟩ := Option.map_eq_some_iff.mp e
  rcases inB_inv ok hx hy e0 with ⟨p, vs, rfl, h1, h2, h3, rfl⟩ | ⟨n, z, rfl, rfl, rfl⟩
  · exact .inl ⟨p, vs, rfl, h1, h2, h3, q _ _ _ (Step.refl ok) (.bl _)⟩
  · exact .inr ⟨n, z, rfl, rfl, q _ _ _ (Step.refl ok) (.bl _)⟩
end

/-! ### xs[i], xs[i:j], len -/
def oIx (a b : D) : Option D := match b with
  | .int i => match a with
    | .lst xs => atI xs i
    | .tup xs => atI xs i
    | .str z => if z.length ≤ 100000 then (atI z.cps.toList i).map fun k => .str ⟨#[k]⟩ else none
    | _ => none
  | _ => none
theorem ix_X {X : Cx} : IxR X (rIx X.K) := IxR.or (show IxR X (rIxL X.K) from ix_list) (IxR.or (show IxR X (rIxT X.K) from ix_tup) (show IxR X rIxS from ix_str))
def cutD (xs : List D) (lo hi : Option Int) : List D := (xs.drop (HT.sIx xs.length 0 lo)).take (HT.sIx xs.length xs.length hi - HT.sIx xs.length 0 lo)
def rSlX (K : PySem.W.Frag) : V → Option Int → Option Int → Hp → VK → Prop := fun x i j H Q => rSlL K x i j H Q ∨ (rSlA K x i j H Q ∨ rSlS x i j H Q)
theorem sl_X {X : Cx} : SlR X (rSlX X.K) := SlR.or sl_list (SlR.or sl_tupA sl_str)
def oSlL (a : D) (i j : Option Int) : Option (List D) := match a with
  | .lst xs => some (cutD xs i j)
  | _ => none
def oSl (a : D) (i j : Option Int) : Option D := match a with
  | .lst xs => some (.lst (cutD xs i j))
  | .tup xs => some (.tup (cutD xs i j))
  | .str z => if z.length ≤ 100000 then some (.str (cutS z i j)) else none
  | _ => none
def cLen (as : List D) : Option D := match as with
  | [.lst xs] => some (.int xs.length)
  | [.tup xs] => some (.int xs.length)
  | [.str z] => if z.length ≤ 100000 then some (.int z.length) else none
  | _ => none
def rLenX (K : PySem.W.Frag) : List V → Hp → VK → Prop := fun xs H Q => (∃ p ys, xs = [.ref p] ∧ (SqL K H p ys ∨ SqT K H p ys) ∧ Q (.int ys.length) H) ∨ ∃ z, xs = [.str z] ∧ z.length ≤ sizeLine ∧ Q (.int z.length) H
theorem call_lenX {X : Cx} : CallR X (.builtin "len") (rLenX X.K) := CallR.or call_len_seq call_len_str
section
variable {c : Cc} {Hi H : Hp}
theorem ixN_len {n m : Nat} (e : n = m) (i : Int) : ixN n i = ixN m i := by rw [e]
theorem DvA.atI' {vs : List V} {xs : List D} {i : Int} {d : D} (h : DvA c.K c.cl Hi vs xs) (e : atI xs i = some d) : ∃ v, atI vs i = some v ∧ Dv c.K c.cl Hi v d := by
  unfold atI at e ⊢
  rw [h.length]
  cases k : ixN xs.length i with
  | none => rw [k] at e; cases e
  | some j =>
    rw [k] at e
    obtain ⟨v, e1, e2⟩ := h.get (show xs[j]? = some d from e)
    exact ⟨v, e1, e2⟩
theorem jo_ix : JO c (rIx c.K) oIx := fun Hi H ok x y a b d Q hx hy e q => by
  unfold oIx at e
  split at e
  · rename_i i
    cases hy
    split at e
    · rename_i xs
      cases hx with
      | lst h1 h2 =>
        obtain ⟨v, e1, e2⟩ := h2.atI' e
        exact .inl ⟨_, _, _, _, rfl, rfl, .inl (.inl (ok.le _ _ h1)), e1, q _ _ _ (Step.refl ok) e2⟩
    · rename_i xs
      cases hx with
      | tup h1 h2 =>
        obtain ⟨v, e1, e2⟩ := h2.atI' e
        exact .inr (.inl ⟨_, _, _, _, rfl, rfl, same_t ok.le h1, e1, q _ _ _ (Step.refl ok) e2⟩)
    · rename_i z
      cases hx
      by_cases hz : z.length ≤ 100000
      · rw [if_pos hz] at e
        obtain ⟨k, e1, rfl⟩ := Option.map_eq_some_iff.mp e
        exact .inr (.inr ⟨z, i, k, rfl, rfl, lim_le hz, e1, q _ _ _ (Step.refl ok) (.str _)⟩)
      · rw [if_neg hz] at e
        cases e
    · cases e
  · cases e
theorem DvA.cut {vs : List V} {xs : List D} (h : DvA c.K c.cl Hi vs xs) (i j : Option Int) : DvA c.K c.cl Hi (cutV vs i j) (cutD xs i j) := by
  unfold cutV cutD
  rw [h.length]
  exact (h.drop _).take _
theorem jsl_sl : JSL3 c (rSlX c.K) oSlL := fun Hi H ok x i j a d Q hx e q => by
  unfold oSlL at e
  split at e
  · cases e
    cases hx with
    | lst h1 h2 => exact .inl ⟨_, _, rfl, .inl (.inl (ok.le _ _ h1)), fun p np => q p _ _ _ (Step.newOwn ok np) np (ok.free np) upd_same (h2.cut i j)⟩
  · cases e
theorem js_sl : JS3 c (rSlX c.K) oSl := fun Hi H ok x i j a d Q hx e q => by
  unfold oSl at e
  split at e
  · cases e
    refine jsl_sl Hi H ok x i j _ _ Q hx rfl fun p vs Hi' H' s n n' e dv => ?_
    exact q _ _ _ (Step.frozen ok s n n' e) (.lst upd_same (dv.up (same_upd n')))
  · rename_i xs
    cases e
    cases hx with
    | tup h1 h2 =>
      refine .inr (.inl ⟨_, _, rfl, same_t ok.le h1, fun w => ?_, fun _ p np => ?_⟩)
      · rw [h2.length] at w
        refine q _ _ _ (Step.refl ok) ?_
        have e : cutD xs i j = xs := by
          unfold cutD
          rw [w.1, w.2, List.drop_zero, Nat.sub_zero, List.take_length]
        rw [e]
        exact .tup h1 h2
      · exact q.tup ok (h2.cut i j) p np
  · rename_i z
    obtain ⟨hl, rfl⟩ := if_some e
    cases hx
    exact .inr (.inr ⟨z, rfl, lim_le hl, q _ _ _ (Step.refl ok) (.str _)⟩)
  · cases e
theorem dva1 {K : PySem.W.Frag} {cl : Nat → Addr} {Hi : Hp} {vs : List V} {d : D} (h : DvA K cl Hi vs [d]) : ∃ v, vs = [v] ∧ Dv K cl Hi v d := by
  cases h with
  | cons h1 h2 => cases h2; exact ⟨_, rfl, h1⟩
theorem dva2 {K : PySem.W.Frag} {cl : Nat → Addr} {Hi : Hp} {vs : List V} {d e : D} (h : DvA K cl Hi vs [d, e]) : ∃ v u, vs = [v, u] ∧ Dv K cl Hi v d ∧ Dv K cl Hi u e := by
  cases h with
  | cons h1 h2 =>
    obtain ⟨u, rfl, h3⟩ := dva1 h2
    exact ⟨_, _, rfl, h1, h3⟩
theorem jc_len : JC c (rLenX c.K) cLen := fun Hi H ok xs as d Q hx e q => by
  unfold cLen at e
  split at e
  · cases e
    obtain ⟨v, rfl, h⟩ := dva1 hx
    cases h with
    | lst h1 h2 => exact .inl ⟨_, _, rfl, .inl (.inl (.inl (ok.le _ _ h1))), q _ _ _ (Step.refl ok) (by rw [h2.length]; exact .int _)⟩
  · cases e
    obtain ⟨v, rfl, h⟩ := dva1 hx
    cases h with
    | tup h1 h2 => exact .inl ⟨_, _, rfl, .inr (same_t ok.le h1), q _ _ _ (Step.refl ok) (by rw [h2.length]; exact .int _)⟩
  · obtain ⟨hl, rfl⟩ := if_some e
    obtain ⟨v, rfl, h⟩ := dva1 hx
    cases h
    exact .inr ⟨_, rfl, lim_le hl, q _ _ _ (Step.refl ok) (.int _)⟩
  · cases e
end
end Xd
namespace Xd
open PySem L2 Xg

/-! ### what a statement comes to -/
inductive O where
  | nx (ρ : Rho) | bk (ρ : Rho) | ct (ρ : Rho) | rt (d : D) | rf (xs : List D) | ex (x : Xc) (ρ : Rho)
def lift {α : Type} (r : R α) (ρ : Rho) (k : α → Option O) : Option O := match r with
  | .ok a => k a
  | .exc x => some (.ex x ρ)
  | .bad => none
@[simp] theorem lift_ok {α : Type} (a : α) (ρ : Rho) (k : α → Option O) : lift (.ok a) ρ k = k a := rfl
@[simp] theorem lift_exc {α : Type} (x : Xc) (ρ : Rho) (k : α → Option O) : lift (.exc x) ρ k = some (.ex x ρ) := rfl
@[simp] theorem lift_bad {α : Type} (ρ : Rho) (k : α → Option O) : lift .bad ρ k = none := rfl
def Nx (c : Cc) (Hi : Hp) (K : St → Hp → Prop) (ρ' : Rho) : Prop := ∀ σ' Hi' H', Same Hi Hi' → Ok c Hi' H' → Sv c Hi' H' σ' ρ' → K σ' H'
def Aft (c : Cc) (W : WE) (Hi : Hp) (Dn : Ends) : O → Prop
  | .nx ρ' => Nx c Hi Dn.nx ρ'
  | .bk ρ' => Nx c Hi Dn.bk ρ'
  | .ct ρ' => Nx c Hi Dn.ct ρ'
  | .rt d => ∀ v Hi' H', Same Hi Hi' → Ok c Hi' H' → Dv c.K c.cl Hi' v d → Dn.rt v H'
  | .rf xs => ∀ p vs Hi' H', Same Hi Hi' → Ok c Hi' H' → H' p = some (.lst vs) → Hi' p = none → c.H0 p = none → DvA c.K c.cl Hi' vs xs → Dn.rt (.ref p) H'
  | .ex x ρ' => ∀ σ' Hi' H', Same Hi Hi' → Ok c Hi' H' → Sv c Hi' H' σ' ρ' → W x σ' Hi' H'
def AftO (c : Cc) (W : WE) (Hi : Hp) (Dn : Ends) : Option O → Prop
  | some o => Aft c W Hi Dn o
  | none => False
def JS (c : Cc) (W : WE) (ts : TS) (g : Rho → Option O) : Prop := ∀ (σ : St) (ρ : Rho) (Hi H : Hp), Ok c Hi H → Sv c Hi H σ ρ → ∀ Dn : Ends, AftO c W Hi Dn (g ρ) → ts Dn σ H
theorem Nx.to {c : Cc} {Hi Hi' : Hp} {K : St → Hp → Prop} {ρ : Rho} (h : Nx c Hi K ρ) (s : Same Hi Hi') : Nx c Hi' K ρ := fun σ' Hi2 H2 s2 => h σ' Hi2 H2 (s.trans s2)
theorem Aft.to {c : Cc} {W : WE} {Hi Hi' : Hp} {Dn : Ends} {o : O} (h : Aft c W Hi Dn o) (s : Same Hi Hi') : Aft c W Hi' Dn o := by
  cases o with
  | nx ρ => exact Nx.to h s
  | bk ρ => exact Nx.to h s
  | ct ρ => exact Nx.to h s
  | rt d => exact fun v Hi2 H2 s2 => h v Hi2 H2 (s.trans s2)
  | rf xs => exact fun p vs Hi2 H2 s2 => h p vs Hi2 H2 (s.trans s2)
  | ex x ρ => exact fun σ' Hi2 H2 s2 => h σ' Hi2 H2 (s.trans s2)
theorem AftO.to {c : Cc} {W : WE} {Hi Hi' : Hp} {Dn : Ends} {o : Option O} (h : AftO c W Hi Dn o) (s : Same Hi Hi') : AftO c W Hi' Dn o := by
  cases o with
  | some o => exact Aft.to h s
  | none => exact h
/-- the same but for what comes next -/
theorem Aft.mono {c : Cc} {W : WE} {Hi : Hp} {Dn Dn' : Ends} {o : O} (h : Aft c W Hi Dn o) (h1 : ∀ ρ, o = .nx ρ → Nx c Hi Dn.nx ρ → Nx c Hi Dn'.nx ρ) (h2 : ∀ ρ, o = .bk ρ → Nx c Hi Dn.bk ρ → Nx c Hi Dn'.bk ρ)
    (h3 : ∀ ρ, o = .ct ρ → Nx c Hi Dn.ct ρ → Nx c Hi Dn'.ct ρ) (h4 : Dn.rt = Dn'.rt) : Aft c W Hi Dn' o := by
  cases o with
  | nx ρ => exact h1 ρ rfl h
  | bk ρ => exact h2 ρ rfl h
  | ct ρ => exact h3 ρ rfl h
  | rt d => exact fun v Hi2 H2 a b e => h4 ▸ h v Hi2 H2 a b e
  | rf xs => exact fun p vs Hi2 H2 a b e f g k => h4 ▸ h p vs Hi2 H2 a b e f g k
  | ex x ρ => exact h

/-! ### mirrors of statements -/
abbrev MS := Rho → Option O
def sNext : MS := fun ρ => some (.nx ρ)
def sSeq (g h : MS) : MS := fun ρ => match g ρ with
  | some (.nx ρ') => h ρ'
  | o => o
def sSet (i : Nat) (f : Rho → R D) : MS := fun ρ => lift (f ρ) ρ fun d => some (.nx (ρ.set i (.val d)))
def sSetL (i : Nat) (f : Rho → R (List D)) : MS := fun ρ => lift (f ρ) ρ fun d => some (.nx (ρ.set i (.own d)))
def sExpr (f : Rho → R D) : MS := fun ρ => lift (f ρ) ρ fun _ => some (.nx ρ)
def sRet (f : Rho → R D) : MS := fun ρ => lift (f ρ) ρ fun d => some (.rt d)
def sRetL (f : Rho → R (List D)) : MS := fun ρ => lift (f ρ) ρ fun d => some (.rf d)
/-- return of an own list -/
def sRetO (i : Nat) : MS := fun ρ => match ρ[i]? with
  | some (.own xs) => some (.rf xs)
  | _ => none
def sRetN : MS := fun _ => some (.rt .non)
def sBreak : MS := fun ρ => some (.bk ρ)
def sCont : MS := fun ρ => some (.ct ρ)
def sIf (t : Rho → R Bool) (g h : MS) : MS := fun ρ => lift (t ρ) ρ fun b => if b = true then g ρ else h ρ
def sApp (i : Nat) (f : Rho → R D) : MS := fun ρ => match ρ[i]? with
  | some (.own xs) => lift (f ρ) ρ fun d => if xs.length < 100000 then some (.nx (ρ.set i (.own (xs ++ [d])))) else none
  | _ => none
/-- x = own.pop() -/
def sPop (j i : Nat) : MS := fun ρ => match ρ[i]? with
  | some (.own xs) => match xs[xs.length - 1]? with
    | some d => some (.nx ((ρ.set i (.own xs.dropLast)).set j (.val d)))
    | none => none
  | _ => none
/-- own[e] = f -/
def sPut (i : Nat) (f e : Rho → R D) : MS := fun ρ => match ρ[i]? with
  | some (.own xs) => lift (f ρ) ρ fun d => lift (e ρ) ρ fun k => match (match k with
      | .int k => ixN xs.length k
      | _ => none) with
    | some j => some (.nx (ρ.set i (.own (xs.set j d))))
    | none => none
  | _ => none
/-- an own list is frozen ahead of a statement -/
def sFrz (i : Nat) (g : MS) : MS := fun ρ => match ρ[i]? with
  | some (.own xs) => g (ρ.set i (.val (.lst xs)))
  | _ => g ρ

section
variable {c : Cc} {W : WE} {ta tb : TE} {tt : TT} {t1 t2 ts : TS} {f g : Rho → R D} {fb : Rho → R Bool} {fs : Rho → R (List D)} {g1 g2 : MS}
theorem AftO.lift {α : Type} {r : R α} {ρ : Rho} {k : α → Option O} {Hi : Hp} {Dn : Ends} (h : AftO c W Hi Dn (lift r ρ k)) {σ : St} {H : Hp} (sv : Sv c Hi H σ ρ) :
    Meet r (fun a => AftO c W Hi Dn (k a)) (fun x => ∀ Hi' H', Step c Hi H Hi' H' → W x σ Hi' H') := by
  cases r with
  | ok a => exact h
  | exc x => exact fun Hi' H' s => h σ Hi' H' s.hi s.ok (sv.step s)
  | bad => exact h
theorem js_next : JS c W tNext sNext := fun σ ρ Hi H ok sv Dn h => h σ Hi H (Same.refl _) ok sv
theorem js_seq (h1 : JS c W t1 g1) (h2 : JS c W t2 g2) : JS c W (tSeq t1 t2) (sSeq g1 g2) := fun σ ρ Hi H ok sv Dn h => by
  refine h1 σ ρ Hi H ok sv { Dn with nx := t2 Dn } ?_
  unfold sSeq at h
  cases hg : g1 ρ with
  | none => rw [hg] at h; exact h
  | some o =>
    rw [hg] at h
    cases o with
    | nx ρ' => exact fun σ' Hi' H' s ok' sv' => h2 σ' ρ' Hi' H' ok' sv' Dn (h.to s)
    | bk ρ' => exact h
    | ct ρ' => exact h
    | rt d => exact h
    | rf xs => exact h
    | ex x ρ' => exact h
theorem js_set (i : Nat) (ha : JE c W ta f) : JS c W (tAsg ta (gName i)) (sSet i f) := fun σ ρ Hi H ok sv Dn h =>
  ha σ ρ Hi H ok sv _ ((AftO.lift h sv).imp (fun a h v Hi1 H1 s1 d1 => h (σ.set i (some v)) Hi1 H1 s1.hi s1.ok ((sv.step s1).setVal i d1)) fun x k => k)
theorem own_ne {Hi H : Hp} {σ : St} {ρ : Rho} (sv : Sv c Hi H σ ρ) {p : Addr} (n : H p = none) : ∀ (j : Nat) (ys : List D), ρ[j]? = some (.own ys) → σ[j]? ≠ some (some (.ref p)) := fun j ys h e => by
  obtain ⟨q, vs, e1, e2, _⟩ := sv.at' j _ _ e h
  cases e1
  rw [n] at e2
  cases e2
theorem js_setL (i : Nat) (ha : JL c W ta fs) : JS c W (tAsg ta (gName i)) (sSetL i fs) := fun σ ρ Hi H ok sv Dn h =>
  ha σ ρ Hi H ok sv _ ((AftO.lift h sv).imp (fun a h p vs Hi1 H1 s1 n n' e d1 => h (σ.set i (some (.ref p))) Hi1 H1 s1.hi s1.ok
    ((sv.step s1).setOwn i e n' (ok.free0 n) d1 fun j ys _ hr => own_ne sv n j ys hr)) fun x k => k)
theorem js_expr (ha : JE c W ta f) : JS c W (tDrop ta) (sExpr f) := fun σ ρ Hi H ok sv Dn h =>
  ha σ ρ Hi H ok sv _ ((AftO.lift h sv).imp (fun a h v Hi1 H1 s1 d1 => h σ Hi1 H1 s1.hi s1.ok (sv.step s1)) fun x k => k)
theorem js_ret (ha : JE c W ta f) : JS c W (tRet ta) (sRet f) := fun σ ρ Hi H ok sv Dn h =>
  ha σ ρ Hi H ok sv _ ((AftO.lift h sv).imp (fun a h v Hi1 H1 s1 d1 => h v Hi1 H1 s1.hi s1.ok d1) fun x k => k)
theorem js_retL (ha : JL c W ta fs) : JS c W (tRet ta) (sRetL fs) := fun σ ρ Hi H ok sv Dn h =>
  ha σ ρ Hi H ok sv _ ((AftO.lift h sv).imp (fun a h p vs Hi1 H1 s1 n n' e d1 => h p vs Hi1 H1 s1.hi s1.ok e n' (ok.free0 n) d1) fun x k => k)
theorem Sv.own {Hi H : Hp} {σ : St} {ρ : Rho} (e : Sv c Hi H σ ρ) {i : Nat} {xs : List D} (h : ρ[i]? = some (.own xs)) :
    ∃ p vs, σ[i]? = some (some (.ref p)) ∧ H p = some (.lst vs) ∧ Hi p = none ∧ c.H0 p = none ∧ DvA c.K c.cl Hi vs xs := by
  obtain ⟨o, h1, p, vs, rfl, h2⟩ := e.find h
  exact ⟨p, vs, h1, h2⟩
theorem js_retO (i : Nat) : JS c W (tRet (tVar i)) (sRetO i) := fun σ ρ Hi H ok sv Dn h => by
  unfold sRetO at h
  split at h
  · rename_i xs hr
    obtain ⟨p, vs, e1, e2, e3, e4, e5⟩ := sv.own hr
    exact ⟨_, e1, h p vs Hi H (Same.refl _) ok e2 e3 e4 e5⟩
  · exact h.elim
theorem js_retN : JS c W tRetN sRetN := fun σ ρ Hi H ok sv Dn h => h _ _ _ (Same.refl _) ok .non
theorem js_break : JS c W tBreak sBreak := fun σ ρ Hi H ok sv Dn h => h σ Hi H (Same.refl _) ok sv
theorem js_cont : JS c W tCont sCont := fun σ ρ Hi H ok sv Dn h => h σ Hi H (Same.refl _) ok sv
theorem js_if (ht : JT c W tt fb) (h1 : JS c W t1 g1) (h2 : JS c W t2 g2) : JS c W (tIfS tt t1 t2) (sIf fb g1 g2) := fun σ ρ Hi H ok sv Dn h => by
  refine ht σ ρ Hi H ok sv _ ((AftO.lift h sv).imp (fun b h Hi1 H1 s1 => ?_) fun x k => k)
  cases b with
  | true => exact h1 σ ρ Hi1 H1 s1.ok (sv.step s1) Dn (AftO.to h s1.hi)
  | false => exact h2 σ ρ Hi1 H1 s1.ok (sv.step s1) Dn (AftO.to h s1.hi)
theorem js_app (i : Nat) (ha : JE c W ta f) : JS c W (tDrop (tBM c.K "list" rAppend (tVar i) (tCons ta tNil))) (sApp i f) := fun σ ρ Hi H ok sv Dn h => by
  unfold sApp at h
  split at h
  · rename_i xs hr
    obtain ⟨p, vs, e1, e2, e3, e4, e5⟩ := sv.own hr
    refine ⟨_, e1, .inl ⟨rfl, _, .inl (.inl e2)⟩, ?_⟩
    refine ha σ ρ Hi H ok sv _ ((AftO.lift h sv).imp (fun a h v Hi1 H1 s1 d1 => ?_) fun x k => k)
    by_cases hl : xs.length < 100000
    · rw [if_pos hl] at h
      refine ⟨p, vs, v, rfl, rfl, s1.lst e2, lim_lt (by rw [e5.length]; exact hl), ?_⟩
      exact h σ Hi1 _ s1.hi (s1.ok.change (s1.lst e2) (s1.fr _ _ e2 e3) e4) ((sv.step s1).change hr e1 ((e5.up s1.hi).append (.cons d1 .nil)))
    · rw [if_neg hl] at h
      exact h.elim
  · exact h.elim
theorem js_pop (j i : Nat) : JS c W (tAsg (tBM0 c.K "list" rPop (tVar i)) (gName j)) (sPop j i) := fun σ ρ Hi H ok sv Dn h => by
  unfold sPop at h
  split at h
  · rename_i xs hr
    split at h
    · rename_i d hd
      obtain ⟨p, vs, e1, e2, e3, e4, e5⟩ := sv.own hr
      obtain ⟨v, hv, dv⟩ := e5.get hd
      refine ⟨_, e1, .inl ⟨rfl, _, .inl (.inl e2)⟩, p, vs, v, rfl, rfl, e2, by rw [e5.length]; exact hv, ?_⟩
      exact h _ Hi _ (Same.refl _) (ok.change e2 e3 e4) ((sv.change hr e1 e5.dropLast).setVal j dv)
    · exact h.elim
  · exact h.elim
theorem js_put (i : Nat) (ha : JE c W ta f) (hb : JE c W tb g) : JS c W (tAsg ta (gSub (tVar i) tb rSetL)) (sPut i f g) := fun σ ρ Hi H ok sv Dn h => by
  unfold sPut at h
  split at h
  · rename_i xs hr
    obtain ⟨p, vs, e1, e2, e3, e4, e5⟩ := sv.own hr
    refine ha σ ρ Hi H ok sv _ ((AftO.lift h sv).imp (fun a h v Hi1 H1 s1 d1 => ?_) fun x k => k)
    refine ⟨_, e1, ?_⟩
    refine hb σ ρ Hi1 H1 s1.ok (sv.step s1) _ ((AftO.lift (AftO.to h s1.hi) (sv.step s1)).imp (fun k h v2 Hi2 H2 s2 d2 => ?_) fun x k => k)
    have s12 := s1.trans s2
    split at h
    · rename_i j hj
      cases k with
      | int k =>
        cases d2
        refine ⟨p, vs, k, j, rfl, rfl, s12.lst e2, by rw [e5.length]; exact hj, ?_⟩
        exact h σ Hi2 _ s2.hi (s2.ok.change (s12.lst e2) (s12.fr _ _ e2 e3) e4) ((sv.step s12).change hr e1 ((e5.up s12.hi).set j (d1.up s2.hi)))
      | _ => cases hj
    · exact h.elim
  · exact h.elim
theorem js_frz (i : Nat) (h1 : JS c W t1 g1) : JS c W t1 (sFrz i g1) := fun σ ρ Hi H ok sv Dn h => by
  unfold sFrz at h
  split at h
  · rename_i xs hr
    obtain ⟨Hi', s, ok', sv'⟩ := sv.freeze ok hr
    exact h1 σ _ Hi' H ok' sv' Dn (AftO.to h s)
  · exact h1 σ ρ Hi H ok sv Dn h
end
end Xd
namespace Xd
open PySem L2 Xg

/-! ### targets -/
abbrev MG := D → Rho → Option Rho
/-- but for the slots ix nothing changes -/
def Chg (ix : List Nat) (σ σ' : St) : Prop := σ'.length = σ.length ∧ ∀ j, j ∉ ix → σ'[j]? = σ[j]?
theorem Chg.refl (σ : St) : Chg [] σ σ := ⟨rfl, fun _ _ => rfl⟩
theorem Chg.trans {ix iy : List Nat} {σ σ1 σ2 : St} (a : Chg ix σ σ1) (b : Chg iy σ1 σ2) : Chg (ix ++ iy) σ σ2 := ⟨b.1.trans a.1, fun j h => by
  rw [List.mem_append, not_or] at h
  rw [b.2 j h.2, a.2 j h.1]⟩
theorem wipe_get (σ : St) : ∀ (vs : List Nat) (j : Nat), (wipe σ vs)[j]? = if j ∈ vs then (if j < σ.length then some none else none) else σ[j]?
  | [], j => by simp [wipe]
  | v :: vs, j => by
    unfold wipe
    by_cases hj : j = v
    · subst hj
      rw [if_pos List.mem_cons_self, List.getElem?_set_self']
      rw [wipe_get σ vs j]
      by_cases hl : j < σ.length
      · by_cases hm : j ∈ vs
        · simp [hm, hl]
        · simp [hm, hl]
      · by_cases hm : j ∈ vs
        · simp [hm, hl]
        · simp [hm, hl]
    · rw [List.getElem?_set_ne (Ne.symm hj), wipe_get σ vs j]
      have e : (j ∈ v :: vs) ↔ j ∈ vs := by simp [hj]
      by_cases hm : j ∈ vs
      · rw [if_pos hm, if_pos (e.mpr hm)]
      · rw [if_neg hm, if_neg (fun z => hm (e.mp z))]
theorem Chg.wipe {ix vs : List Nat} {σ σ' : St} (h : Chg ix (wipe σ vs) σ') (hs : ∀ j ∈ ix, j ∈ vs) : L2.wipe σ' vs = L2.wipe σ vs := by
  have hl : σ'.length = σ.length := by rw [h.1, wipe_length]
  apply List.ext_getElem?
  intro j
  rw [wipe_get, wipe_get, hl]
  by_cases hm : j ∈ vs
  · rw [if_pos hm, if_pos hm]
  · rw [if_neg hm, if_neg hm, h.2 j (fun z => hm (hs j z)), wipe_get, if_neg hm]
def JG (c : Cc) (ix : List Nat) (g : TG) (f : MG) : Prop := ∀ (σ : St) (ρ ρ' : Rho) (Hi H : Hp) (v : V) (d : D), Ok c Hi H → Sv c Hi H σ ρ → Dv c.K c.cl Hi v d → f d ρ = some ρ' → ∀ Q : St → Hp → Prop, (∀ σ', Sv c Hi H σ' ρ' → Chg ix σ σ' → Q σ' H) → g v σ H Q
def JGs (c : Cc) (ix : List Nat) (g : TGs) (f : List D → Rho → Option Rho) : Prop := ∀ (σ : St) (ρ ρ' : Rho) (Hi H : Hp) (vs : List V) (ds : List D), Ok c Hi H → Sv c Hi H σ ρ → DvA c.K c.cl Hi vs ds → f ds ρ = some ρ' → ∀ Q : St → Hp → Prop, (∀ σ', Sv c Hi H σ' ρ' → Chg ix σ σ' → Q σ' H) → g vs σ H Q
def gN (i : Nat) : MG := fun d ρ => some (ρ.set i (.val d))
def gsNil : List D → Rho → Option Rho := fun ds ρ => match ds with
  | [] => some ρ
  | _ => none
def gsCons (f : MG) (g : List D → Rho → Option Rho) : List D → Rho → Option Rho := fun ds ρ => match ds with
  | d :: ds => (f d ρ).bind fun ρ' => g ds ρ'
  | [] => none
def gT (n : Nat) (g : List D → Rho → Option Rho) : MG := fun d ρ => match d with
  | .tup xs => if xs.length = n then g xs ρ else none
  | _ => none
section
variable {c : Cc} {W : WE}
theorem jg_name (i : Nat) : JG c [i] (gName i) (gN i) := fun σ ρ ρ' Hi H v d ok sv dv e Q q => by
  unfold gN at e
  cases e
  exact q _ (sv.setVal i dv) ⟨by rw [List.length_set], fun j h => List.getElem?_set_ne (fun z => h (by rw [z]; exact List.mem_singleton.mpr rfl))⟩
theorem jgs_nil : JGs c [] gNil gsNil := fun σ ρ ρ' Hi H vs ds ok sv dv e Q q => by
  unfold gsNil at e
  split at e
  · cases e
    cases dv
    exact ⟨rfl, q _ sv (Chg.refl _)⟩
  · cases e
theorem jgs_cons {ix iy : List Nat} {g : TG} {gs : TGs} {f : MG} {fs : List D → Rho → Option Rho} (h1 : JG c ix g f) (h2 : JGs c iy gs fs) : JGs c (ix ++ iy) (gCons g gs) (gsCons f fs) := fun σ ρ ρ' Hi H vs ds ok sv dv e Q q => by
  unfold gsCons at e
  split at e
  · rename_i d ds
    obtain ⟨ρ1, e1, e2⟩ := Option.bind_eq_some_iff.mp e
    cases dv with
    | cons d1 d2 => exact ⟨_, _, rfl, h1 σ ρ ρ1 Hi H _ d ok sv d1 e1 _ fun σ' sv' c1 => h2 σ' ρ1 ρ' Hi H _ ds ok sv' d2 e2 Q fun σ2 sv2 c2 => q σ2 sv2 (c1.trans c2)⟩
  · cases e
theorem jg_tup {ix : List Nat} {gs : TGs} {fs : List D → Rho → Option Rho} {n : Nat} (h : JGs c ix gs fs) : JG c ix (gTup c.K n gs) (gT n fs) := fun σ ρ ρ' Hi H v d ok sv dv e Q q => by
  unfold gT at e
  split at e
  · rename_i xs
    by_cases hn : xs.length = n
    · rw [if_pos hn] at e
      cases dv with
      | tup h1 h2 => exact ⟨_, _, rfl, same_t ok.le h1, by rw [h2.length]; exact hn, h σ ρ ρ' Hi H _ xs ok sv h2 e Q q⟩
    · rw [if_neg hn] at e
      cases e
  · cases e
end
def sAsg (f : Rho → R D) (g : MG) : MS := fun ρ => lift (f ρ) ρ fun d => (g d ρ).map fun ρ' => .nx ρ'
theorem js_asg {c : Cc} {W : WE} {ta : TE} {f : Rho → R D} {g : TG} {fg : MG} {ix : List Nat} (ha : JE c W ta f) (hg : JG c ix g fg) : JS c W (tAsg ta g) (sAsg f fg) := fun σ ρ Hi H ok sv Dn h =>
  ha σ ρ Hi H ok sv _ ((AftO.lift h sv).imp (fun a h v Hi1 H1 s1 d1 => by
    cases e : fg a ρ with
    | none => rw [e] at h; exact h.elim
    | some ρ' =>
      rw [e] at h
      exact hg σ ρ ρ' Hi1 H1 v a s1.ok (sv.step s1) d1 e Dn.nx fun σ' sv' _ => h σ' Hi1 H1 s1.hi s1.ok sv') fun x k => k)

/-! ### what is walked -/
structure WalkD (c : Cc) (Hi0 : Hp) (J : It) (ds : List D) : Prop where
  ex : ∃ (G : Hp → Prop) (Y : Nat → Hp → V → Hp → Prop), Walk J ds.length G Y ∧ (∀ Hi H, Ok c Hi H → Same Hi0 Hi → G H) ∧
    ∀ (i : Nat) (d : D) (Hi H H' : Hp) (v : V), ds[i]? = some d → Ok c Hi H → Same Hi0 Hi → Y i H v H' → ∃ Hi', Step c Hi H Hi' H' ∧ Dv c.K c.cl Hi' v d
def JI (c : Cc) (W : WE) (wi : TI) (f : Rho → R (List D)) : Prop := ∀ (σ : St) (ρ : Rho) (Hi H : Hp), Ok c Hi H → Sv c Hi H σ ρ → ∀ Q : It → Hp → Prop,
  Meet (f ρ) (fun ds => ∀ J Hi' H', Step c Hi H Hi' H' → WalkD c Hi' J ds → Q J H') (fun x => ∀ Hi' H', Step c Hi H Hi' H' → W x σ Hi' H') → wi σ H Q
def rIntD (lo : Int) (n : Nat) : List D := (List.range n).map fun i => .int (lo + (i : Nat))
def iSeq (f : Rho → R D) : Rho → R (List D) := fun ρ => (f ρ).bind fun d => match d with
  | .lst xs => .ok xs
  | .tup xs => .ok xs
  | .str z => .ok (z.cps.toList.map fun k => .str ⟨#[k]⟩)
  | _ => .bad
def iR1 (f : Rho → R (List D)) : Rho → R (List D) := fun ρ => (f ρ).bind fun ds => match ds with
  | [.int j] => if -(2 ^ 62) ≤ j ∧ j < 2 ^ 62 then .ok (rIntD 0 j.toNat) else .bad
  | _ => .bad
def iR2 (f : Rho → R (List D)) : Rho → R (List D) := fun ρ => (f ρ).bind fun ds => match ds with
  | [.int i, .int j] => if -(2 ^ 62) ≤ i ∧ i < 2 ^ 62 ∧ -(2 ^ 62) ≤ j ∧ j < 2 ^ 62 then .ok (rIntD i (j - i).toNat) else .bad
  | _ => .bad
def tiSeq (K : PySem.W.Frag) (te : TE) : TI := fun σ H R => iList K te σ H R ∨ (iTup K te σ H R ∨ iStr te σ H R)
/-- the three of them after one evaluation -/
def tiX (K : PySem.W.Frag) (te : TE) : TI := fun σ H R => te σ H fun x H1 => (∃ a, x = .ref a ∧ (∃ xs, SqL K H1 a xs) ∧ R (Itl K a) H1) ∨ (∃ a, x = .ref a ∧ (∃ xs, SqT K H1 a xs) ∧ R (Itt K a) H1) ∨ ∃ z, x = .str z ∧ R (Its z) H1
end Xd
namespace Xd
open PySem PySem.Spec PyProof.Rows L2
theorem pi_X {X : Cx} {tg l : Expr} {tl : TE} (hl : PE X l tl) : PI X tg l (tiX X.K tl) := by
  refine ⟨fun pins s σ H R I h => ?_⟩
  refine thn (hl.run pins s σ H _ I h) fun v s1 ⟨x, H1, I1, r1, q1⟩ => ?_
  rcases q1 with ⟨a, e, ⟨xs, hq⟩, q⟩ | ⟨a, e, ⟨xs, hq⟩, q⟩ | ⟨z, e, q⟩
  · subst e
    cases r1
    obtain ⟨its, rv, p, hz⟩ := I1.list hq
    refine wpAny_pyIter_list p.isList ?_
    exact pi_one (tk := s1.toks) I1 _ (turn_list a _) ⟨_, Heap.get?_push_size _ rfl, rfl, rfl⟩ q
  · subst e
    cases r1
    obtain ⟨its, rv, p, hz⟩ := I1.tuple hq
    refine wpAny_pyIter_tuple (show s1.heap.IsTuple a its.toArray from p) ?_
    exact pi_one (tk := s1.toks) I1 _ (turn_tuple a _) ⟨_, Heap.get?_push_size _ rfl, rfl, rfl⟩ q
  · subst e
    obtain ⟨t, rfl⟩ := r1
    cases ha : z.cps.all (· < 128)
    · exact wpAny_pyIter_wide ha (pi_one (tk := s1.toks) I1 _ (turn_str _ z t "str_iterator" (.inr rfl)) ⟨_, Heap.get?_push_size _ rfl, rfl, rfl⟩ q)
    · exact wpAny_pyIter_ascii ha (pi_one (tk := s1.toks) I1 _ (turn_str _ z t "str_ascii_iterator" (.inl rfl)) ⟨_, Heap.get?_push_size _ rfl, rfl, rfl⟩ q)
end Xd
namespace Xd
open PySem L2 Xg
section
variable {c : Cc} {W : WE} {te : TE} {ta : TA} {f : Rho → R D} {fs : Rho → R (List D)}
theorem walkD_seq {Hi : Hp} {J : It} {vs : List V} {ds : List D} {G : Hp → Prop} (w : Walk J vs.length G (YAt vs)) (hG : ∀ Hi2 H, Ok c Hi2 H → Same Hi Hi2 → G H) (d : DvA c.K c.cl Hi vs ds) : WalkD c Hi J ds := by
  refine ⟨G, YAt vs, by rw [← d.length]; exact w, hG, fun i x Hi2 H H' v e ok s y => ?_⟩
  obtain ⟨e1, e2⟩ := y
  subst e1
  obtain ⟨v', e3, dv⟩ := d.get e
  rw [e2] at e3
  cases e3
  exact ⟨Hi2, Step.refl ok, dv.up s⟩
theorem walkD_str {Hi : Hp} (z : Str) : WalkD c Hi (Its z) (z.cps.toList.map fun k => .str ⟨#[k]⟩) := by
  have w := walk_str (z := z)
  refine ⟨fun _ => True, _, (by rw [List.length_map, Array.length_toList]; exact w), fun _ _ _ _ => trivial, fun i x Hi2 H H' v e ok s y => ?_⟩
  obtain ⟨e1, k, e2, e3⟩ := y
  subst e1 e3
  rw [List.getElem?_map, Array.getElem?_toList, e2] at e
  cases e
  exact ⟨Hi2, Step.refl ok, .str _⟩
theorem walkD_rng {Hi : Hp} (lo : Int) (n : Nat) : WalkD c Hi (Itr lo n) (rIntD lo n) := by
  have w := walk_range (lo := lo) (n := n)
  refine ⟨fun _ => True, _, (by unfold rIntD; rw [List.length_map, List.length_range]; exact w), fun _ _ _ _ => trivial, fun i x Hi2 H H' v e ok s y => ?_⟩
  obtain ⟨e1, e3⟩ := y
  subst e1 e3
  unfold rIntD at e
  rw [List.getElem?_map] at e
  obtain ⟨j, ej, rfl⟩ := Option.map_eq_some_iff.mp e
  have e5 := List.getElem?_range (n := n) (i := i) (by
    have := (List.getElem?_eq_some_iff.mp ej).1
    simpa using this)
  rw [e5] at ej
  cases ej
  exact ⟨Hi2, Step.refl ok, .int _⟩
theorem ji_seq (ha : JE c W te f) : JI c W (tiX c.K te) (iSeq f) := fun σ ρ Hi H ok sv Q h => by
  refine ha σ ρ Hi H ok sv _ ((Meet.bind h).imp (fun d h v Hi1 H1 s1 d1 => ?_) fun x k => k)
  cases d with
  | lst xs =>
    cases d1 with
    | lst h1 h2 => exact .inl ⟨_, rfl, ⟨_, .inl (.inl (s1.ok.le _ _ h1))⟩, h _ Hi1 H1 s1 (walkD_seq walk_list (fun Hi2 H2 ok2 s2 => .inl (.inl (ok2.le _ _ (s2 _ _ h1)))) h2)⟩
  | tup xs =>
    cases d1 with
    | tup h1 h2 => exact .inr (.inl ⟨_, rfl, ⟨_, same_t s1.ok.le h1⟩, h _ Hi1 H1 s1 (walkD_seq walk_tup (fun Hi2 H2 ok2 s2 => same_t ok2.le (same_t s2 h1)) h2)⟩)
  | str z =>
    cases d1
    exact .inr (.inr ⟨z, rfl, h _ Hi1 H1 s1 (walkD_str z)⟩)
  | _ => exact h.elim
theorem ji_r1 (ha : JA c W ta fs) : JI c W (iRng1 ta) (iR1 fs) := fun σ ρ Hi H ok sv Q h => by
  refine ha σ ρ Hi H ok sv _ ((Meet.bind h).imp (fun d h v Hi1 H1 s1 d1 => ?_) fun x k => k)
  split at h
  · rename_i j
    obtain ⟨hj, h⟩ := meet_if h
    obtain ⟨u, rfl, du⟩ := dva1 d1
    cases du
    exact ⟨j, rfl, hj.1, hj.2, h _ Hi1 H1 s1 (walkD_rng 0 _)⟩
  · exact h.elim
theorem ji_r2 (ha : JA c W ta fs) : JI c W (iRng2 ta) (iR2 fs) := fun σ ρ Hi H ok sv Q h => by
  refine ha σ ρ Hi H ok sv _ ((Meet.bind h).imp (fun d h v Hi1 H1 s1 d1 => ?_) fun x k => k)
  split at h
  · rename_i i j
    obtain ⟨hj, h⟩ := meet_if h
    obtain ⟨u, w, rfl, du, dw⟩ := dva2 d1
    cases du
    cases dw
    exact ⟨i, j, rfl, hj, h _ Hi1 H1 s1 (walkD_rng i _)⟩
  · exact h.elim
/-- zip, enumerate over lists, tuples, texts -/
def itemsOf : D → Option (List D)
  | .lst xs => some xs
  | .tup xs => some xs
  | .str z => some (z.cps.toList.map fun k => .str ⟨#[k]⟩)
  | _ => none
def iZip (f : Rho → R (List D)) : Rho → R (List D) := fun ρ => (f ρ).bind fun ds => match ds with
  | [a, b] => match itemsOf a, itemsOf b with
    | some xs, some ys => .ok ((xs.zip ys).map fun p => .tup [p.1, p.2])
    | _, _ => .bad
  | _ => .bad
def iEnum (f : Rho → R (List D)) : Rho → R (List D) := fun ρ => (f ρ).bind fun ds => match ds with
  | [a] => match itemsOf a with
    | some xs => .ok (xs.zipIdx.map fun p => .tup [.int (p.2 : Nat), p.1])
    | none => .bad
  | _ => .bad
theorem src_of {Hi H : Hp} {v : V} {d : D} {xs : List D} (ok : Ok c Hi H) (dv : Dv c.K c.cl Hi v d) (e : itemsOf d = some xs) :
    ∃ (s1 : XgIter.Src) (vs : List V), v = s1.v ∧ (∀ Hi2 H2, Ok c Hi2 H2 → Same Hi Hi2 → s1.rd c.K H2 vs) ∧ DvA c.K c.cl Hi vs xs := by
  cases d with
  | lst ys =>
    cases e
    cases dv with
    | lst h1 h2 => exact ⟨.L _, _, rfl, fun Hi2 H2 ok2 s2 => .inl (.inl (ok2.le _ _ (s2 _ _ h1))), h2⟩
  | tup ys =>
    cases e
    cases dv with
    | tup h1 h2 => exact ⟨.T _, _, rfl, fun Hi2 H2 ok2 s2 => same_t ok2.le (same_t s2 h1), h2⟩
  | str z =>
    cases e
    cases dv
    refine ⟨.S z, _, rfl, fun Hi2 H2 ok2 s2 => rfl, ?_⟩
    generalize z.cps.toList = l
    induction l with
    | nil => exact .nil
    | cons k r ih => exact .cons (.str _) ih
  | _ => cases e
theorem walkD_pair {Hi : Hp} {J : It} {n : Nat} {xs ys : Nat → Option V} {ds : List D} {G : Hp → Prop} (w : Walk J n G (YPair xs ys)) (hn : n = ds.length) (hG : ∀ Hi2 H, Ok c Hi2 H → Same Hi Hi2 → G H)
    (hd : ∀ i d x y, ds[i]? = some d → xs i = some x → ys i = some y → ∃ a b, d = .tup [a, b] ∧ Dv c.K c.cl Hi x a ∧ Dv c.K c.cl Hi y b) : WalkD c Hi J ds := by
  subst hn
  refine ⟨G, _, w, hG, fun i d Hi2 H H' v e ok s y => ?_⟩
  obtain ⟨T, x, y, rfl, nT, rfl, ex, ey⟩ := y
  obtain ⟨a, b, rfl, da, db⟩ := hd i d x y e ex ey
  have st := Step.new (o := .tup [x, y]) ok nT
  exact ⟨_, st, .tup (.inl (.inl upd_same)) (.cons ((da.up s).up st.hi) (.cons ((db.up s).up st.hi) .nil))⟩
theorem ji_zip (ha : JA c W ta fs) : JI c W (XgIter.iZipX c.K ta) (iZip fs) := fun σ ρ Hi H ok sv Q h => by
  refine ha σ ρ Hi H ok sv _ ((Meet.bind h).imp (fun d h v Hi1 H1 s1 d1 => ?_) fun x k => k)
  split at h
  · rename_i a b
    split at h
    · rename_i xs ys e1 e2
      obtain ⟨u, w, rfl, du, dw⟩ := dva2 d1
      obtain ⟨r1, vs, rfl, g1, k1⟩ := src_of s1.ok du e1
      obtain ⟨r2, us, rfl, g2, k2⟩ := src_of s1.ok dw e2
      refine ⟨r1, r2, rfl, ⟨vs, g1 _ _ s1.ok (Same.refl _)⟩, ⟨us, g2 _ _ s1.ok (Same.refl _)⟩, h _ Hi1 H1 s1 ?_⟩
      refine walkD_pair (XgIter.walk_x (G := fun H => r1.rd c.K H vs ∧ r2.rd c.K H us) (fun _ g => g.1) (fun _ g => g.2)) ?_ (fun Hi2 H2 ok2 s2 => ⟨g1 _ _ ok2 s2, g2 _ _ ok2 s2⟩) fun i d x y ed ex ey => ?_
      · rw [List.length_map, List.length_zip, k1.length, k2.length]
      · rw [List.getElem?_map] at ed
        obtain ⟨⟨p1, p2⟩, ep, rfl⟩ := Option.map_eq_some_iff.mp ed
        rw [List.getElem?_zip_eq_some] at ep
        obtain ⟨v1, f1, dv1⟩ := k1.get ep.1
        obtain ⟨v2, f2, dv2⟩ := k2.get ep.2
        rw [f1] at ex
        rw [f2] at ey
        cases ex
        cases ey
        exact ⟨_, _, rfl, dv1, dv2⟩
    · exact h.elim
  · exact h.elim
theorem ji_enum (ha : JA c W ta fs) : JI c W (XgIter.iEnumX c.K ta) (iEnum fs) := fun σ ρ Hi H ok sv Q h => by
  refine ha σ ρ Hi H ok sv _ ((Meet.bind h).imp (fun d h v Hi1 H1 s1 d1 => ?_) fun x k => k)
  split at h
  · rename_i a
    split at h
    · rename_i xs e1
      obtain ⟨u, rfl, du⟩ := dva1 d1
      obtain ⟨r1, vs, rfl, g1, k1⟩ := src_of s1.ok du e1
      refine ⟨r1, rfl, ⟨vs, g1 _ _ s1.ok (Same.refl _)⟩, h _ Hi1 H1 s1 ?_⟩
      refine walkD_pair (XgIter.walk_y (G := fun H => r1.rd c.K H vs) (fun _ g => g)) ?_ (fun Hi2 H2 ok2 s2 => g1 _ _ ok2 s2) fun i d x y ed ex ey => ?_
      · rw [List.length_map, List.length_zipIdx, k1.length]
      · rw [List.getElem?_map] at ed
        obtain ⟨⟨p1, p2⟩, ep, rfl⟩ := Option.map_eq_some_iff.mp ed
        rw [List.getElem?_zipIdx] at ep
        obtain ⟨p3, ep2, e4⟩ := Option.map_eq_some_iff.mp ep
        cases e4
        obtain ⟨v1, f1, dv1⟩ := k1.get ep2
        rw [f1] at ey
        cases ex
        cases ey
        rw [Nat.zero_add]
        exact ⟨_, _, rfl, .int _, dv1⟩
    · exact h.elim
  · exact h.elim
end

/-! ### for -/
def forR (g : MG) (b : MS) : List D → Rho → Option O
  | [], ρ => some (.nx ρ)
  | d :: ds, ρ => match g d ρ with
    | none => none
    | some ρ1 => match b ρ1 with
      | some (.nx ρ') => forR g b ds ρ'
      | some (.ct ρ') => forR g b ds ρ'
      | some (.bk ρ') => some (.nx ρ')
      | o => o
def sFor (f : Rho → R (List D)) (g : MG) (b : MS) : MS := fun ρ => lift (f ρ) ρ fun ds => forR g b ds ρ
theorem js_for {c : Cc} {W : WE} {wi : TI} {fi : Rho → R (List D)} {g : TG} {fg : MG} {tb : TS} {b : MS} {ix : List Nat} (hi : JI c W wi fi) (hg : JG c ix g fg) (hb : JS c W tb b) : JS c W (tFor wi g tb) (sFor fi fg b) := fun σ ρ Hi H ok sv Dn h => by
  refine hi σ ρ Hi H ok sv _ ((AftO.lift h sv).imp (fun ds h J Hi1 H1 s1 w => ?_) fun x k => k)
  obtain ⟨G, Y, wk, hG, hY⟩ := w.ex
  refine for_it wk (fun i σ' H' => ∃ Hi' ρ', Ok c Hi' H' ∧ Same Hi1 Hi' ∧ Sv c Hi' H' σ' ρ' ∧ AftO c W Hi' Dn (forR fg b (ds.drop i) ρ')) ?_ ?_ ?_ ?_
  · exact ⟨Hi1, ρ, s1.ok, Same.refl _, sv.step s1, AftO.to h s1.hi⟩
  · rintro i σ' H' _ ⟨Hi', ρ', ok', sm, _, _⟩
    exact hG Hi' H' ok' sm
  · rintro i x σ' H2 H3 hi' ⟨Hi', ρ', ok', sm, sv', a⟩ y
    have ed : ds[i]? = some ds[i] := by simp [hi']
    obtain ⟨Hi3, s3, dv⟩ := hY i ds[i] Hi' H2 H3 x ed ok' sm y
    have ex : ds.drop i = ds[i] :: ds.drop (i + 1) := List.drop_eq_getElem_cons hi'
    rw [ex] at a
    unfold forR at a
    cases hgd : fg ds[i] ρ' with
    | none => rw [hgd] at a; exact a.elim
    | some ρ1 =>
      rw [hgd] at a
      simp only at a
      refine hg σ' ρ' ρ1 Hi3 H3 x _ s3.ok (sv'.step s3) dv hgd _ fun σ2 sv2 _ => ?_
      refine hb σ2 ρ1 Hi3 H3 s3.ok sv2 _ ?_
      cases hbr : b ρ1 with
      | none => rw [hbr] at a; exact a.elim
      | some o =>
        rw [hbr] at a
        cases o with
        | nx ρ2 => exact fun σ4 Hi4 H4 sm4 ok4 sv4 => ⟨Hi4, ρ2, ok4, (sm.trans s3.hi).trans sm4, sv4, AftO.to a (s3.hi.trans sm4)⟩
        | ct ρ2 => exact fun σ4 Hi4 H4 sm4 ok4 sv4 => ⟨Hi4, ρ2, ok4, (sm.trans s3.hi).trans sm4, sv4, AftO.to a (s3.hi.trans sm4)⟩
        | bk ρ2 => exact Nx.to a s3.hi
        | rt d => exact fun v Hi4 H4 sm4 => a v Hi4 H4 (s3.hi.trans sm4)
        | rf xs => exact fun p vs Hi4 H4 sm4 => a p vs Hi4 H4 (s3.hi.trans sm4)
        | ex x ρ2 => exact fun σ4 Hi4 H4 sm4 => a σ4 Hi4 H4 (s3.hi.trans sm4)
  · rintro σ' H' ⟨Hi', ρ', ok', sm, sv', a⟩
    rw [List.drop_length] at a
    exact a σ' Hi' H' (Same.refl _) ok' sv'

/-! ### while, with fuel -/
def whR (t : Rho → R Bool) (b : MS) : Nat → Rho → Option O
  | 0, _ => none
  | n + 1, ρ => lift (t ρ) ρ fun k => if k = true then match b ρ with
      | some (.nx ρ') => whR t b n ρ'
      | some (.ct ρ') => whR t b n ρ'
      | some (.bk ρ') => some (.nx ρ')
      | o => o
    else some (.nx ρ)
def sWhile (n : Nat) (t : Rho → R Bool) (b : MS) : MS := whR t b n
theorem js_while {c : Cc} {W : WE} {tt : TT} {fb : Rho → R Bool} {tb : TS} {b : MS} (n : Nat) (ht : JT c W tt fb) (hb : JS c W tb b) : JS c W (tWhile tt tb) (sWhile n fb b) := fun σ ρ Hi H ok sv Dn h => by
  refine ⟨fun m σ' H' => ∃ Hi' ρ', Ok c Hi' H' ∧ Sv c Hi' H' σ' ρ' ∧ AftO c W Hi' Dn (whR fb b m ρ'), ⟨n, Hi, ρ, ok, sv, h⟩, ?_⟩
  rintro m σ' H' ⟨Hi', ρ', ok', sv', a⟩
  cases m with
  | zero => exact a.elim
  | succ m =>
    unfold whR at a
    refine ht σ' ρ' Hi' H' ok' sv' _ ((AftO.lift a sv').imp (fun k a Hi1 H1 s1 => ?_) fun x k => k)
    cases k with
    | false => exact a σ' Hi1 H1 s1.hi s1.ok (sv'.step s1)
    | true =>
      rw [if_pos rfl]
      rw [if_pos rfl] at a
      refine ⟨fun σ2 H2 => ∃ Hi2 ρ2, Ok c Hi2 H2 ∧ Sv c Hi2 H2 σ2 ρ2 ∧ AftO c W Hi2 Dn (whR fb b m ρ2), fun σ2 H2 w => ⟨m, Nat.lt_succ_self m, w⟩, ?_⟩
      refine hb σ' ρ' Hi1 H1 s1.ok (sv'.step s1) _ ?_
      cases hbr : b ρ' with
      | none => rw [hbr] at a; exact a.elim
      | some o =>
        rw [hbr] at a
        cases o with
        | nx ρ2 => exact fun σ4 Hi4 H4 sm4 ok4 sv4 => ⟨Hi4, ρ2, ok4, sv4, AftO.to a (s1.hi.trans sm4)⟩
        | ct ρ2 => exact fun σ4 Hi4 H4 sm4 ok4 sv4 => ⟨Hi4, ρ2, ok4, sv4, AftO.to a (s1.hi.trans sm4)⟩
        | bk ρ2 => exact Nx.to a s1.hi
        | rt d => exact fun v Hi4 H4 sm4 => a v Hi4 H4 (s1.hi.trans sm4)
        | rf xs => exact fun p vs Hi4 H4 sm4 => a p vs Hi4 H4 (s1.hi.trans sm4)
        | ex x ρ2 => exact fun σ4 Hi4 H4 sm4 => a σ4 Hi4 H4 (s1.hi.trans sm4)

/-! ### comprehensions -/
def lcR (g : MG) (t : Rho → R Bool) (e : Rho → R D) (ρ : Rho) : List D → R (List D)
  | [] => .ok []
  | d :: ds => match g d ρ with
    | none => .bad
    | some ρ1 => (t ρ1).bind fun b => if b = true then (e ρ1).bind fun x => (lcR g t e ρ ds).bind fun r => .ok (x :: r) else lcR g t e ρ ds
def wipeR (ρ : Rho) : List Nat → Rho
  | [] => ρ
  | i :: r => (wipeR ρ r).set i .un
def lLc (f : Rho → R (List D)) (g : MG) (t : Rho → R Bool) (e : Rho → R D) (vs : List Nat) : Rho → R (List D) := fun ρ => (f ρ).bind fun ds => if ds.length ≤ 100000 then noX (lcR g t e (wipeR ρ vs) ds) else .bad
section
variable {c : Cc} {W : WE}
abbrev W0 : WE := fun _ _ _ _ => False
theorem Sv.wipe {Hi H : Hp} {σ : St} {ρ : Rho} (sv : Sv c Hi H σ ρ) : ∀ vs : List Nat, Sv c Hi H (L2.wipe σ vs) (wipeR ρ vs)
  | [] => sv
  | i :: r => (Sv.wipe sv r).setUn i none
theorem Sv.other {Hi H : Hp} {σ : St} {ρ : Rho} (sv : Sv c Hi H σ ρ) {p : Addr} {o : HO} (h : ∀ (j : Nat) (ys : List D), ρ[j]? = some (.own ys) → σ[j]? ≠ some (some (.ref p))) : Sv c Hi (upd H p o) σ ρ := by
  refine ⟨sv.len, fun i o' s a b => ?_, sv.apart⟩
  have k := sv.at' i o' s a b
  cases s with
  | un => trivial
  | err => exact k
  | val d => exact k
  | own xs =>
    obtain ⟨q, vs, e, e2, e3, e4, e5⟩ := k
    subst e
    refine ⟨q, vs, rfl, ?_, e3, e4, e5⟩
    rw [upd_ne]
    · exact e2
    · intro z
      subst z
      exact h i xs b a
theorem noX_meet {α : Type} {r : R α} {p : α → Prop} {q : Xc → Prop} (h : Meet (noX r) p q) : Meet r p fun _ => False := by
  cases r with
  | ok a => exact h
  | exc x => exact h
  | bad => exact h
theorem Step.chg {Hi H Hi' H' : Hp} {p : Addr} {vs ws : List V} (s : Step c Hi H Hi' H') (n : H p = none) (e : H' p = some (.lst vs)) (n' : Hi' p = none) : Step c Hi H Hi' (upd H' p (.lst ws)) :=
  ⟨s.hi, fun b o nb e1 => by rw [upd_ne (ne_of_none e1 n)]; exact s.h b o nb e1, s.fr, s.ok0, s.ok.change e n' (s.ok0.free0 n)⟩
theorem jl_lc {wi : TI} {fi : Rho → R (List D)} {g : TG} {fg : MG} {tt : TT} {fb : Rho → R Bool} {te : TE} {fe : Rho → R D} {ix : List Nat} (vs : List Nat) (hi : JI c W wi fi) (hg : JG c ix g fg) (ht : JT c W0 tt fb) (he : JE c W0 te fe)
    (hs : ∀ j ∈ ix, j ∈ vs) : JL c W (tLc wi g tt te vs) (lLc fi fg fb fe vs) := fun σ ρ Hi H ok sv Q h => by
  refine hi σ ρ Hi H ok sv _ ((Meet.bind h).imp (fun ds h J Hi1 H1 s1 w => ?_) fun x k => k)
  obtain ⟨hl, h⟩ := meet_if h
  have h := noX_meet h
  obtain ⟨G, Y, wk, hG, hY⟩ := w.ex
  intro D nD
  have sv1 := (sv.step s1).wipe vs
  have nown : ∀ (j : Nat) (ys : List Xd.D), (wipeR ρ vs)[j]? = some (.own ys) → (L2.wipe σ vs)[j]? ≠ some (some (.ref D)) := own_ne sv1 nD
  refine lc_it wk (fun i H' => ∃ Hi' acc done, Step c Hi1 H1 Hi' H' ∧ Hi' D = none ∧ H' D = some (.lst acc) ∧ DvA c.K c.cl Hi' acc done ∧ done.length ≤ i ∧
    Sv c Hi' H' (L2.wipe σ vs) (wipeR ρ vs) ∧ Meet (lcR fg fb fe (wipeR ρ vs) (ds.drop i)) (fun r => RetL c Hi H Q (done ++ r)) (fun _ => False)) ?_ ?_ ?_ ?_
  · have s2 := Step.newOwn (o := .lst []) s1.ok nD
    exact ⟨Hi1, [], [], s2, s1.ok.free nD, upd_same, .nil, Nat.le_refl _, sv1.step s2, h⟩
  · rintro i H' _ ⟨Hi', acc, done, st, _⟩
    exact hG Hi' H' st.ok st.hi
  · rintro i x H2 H3 hi' ⟨Hi', acc, done, st, nd, hD, dD, dl, sv', m⟩ y
    have ed : ds[i]? = some ds[i] := by simp [hi']
    obtain ⟨Hi3, s3, dv⟩ := hY i ds[i] Hi' H2 H3 x ed st.ok st.hi y
    have ex : ds.drop i = ds[i] :: ds.drop (i + 1) := List.drop_eq_getElem_cons hi'
    rw [ex] at m
    unfold lcR at m
    cases hgd : fg ds[i] (wipeR ρ vs) with
    | none => rw [hgd] at m; exact m.elim
    | some ρ1 =>
      rw [hgd] at m
      simp only at m
      refine hg _ _ ρ1 Hi3 H3 x _ s3.ok (sv'.step s3) dv hgd _ fun σ2 sv2 ch => ⟨ch.wipe hs, ?_⟩
      refine ht σ2 ρ1 Hi3 H3 s3.ok sv2 _ ((Meet.bind m).imp (fun b m Hi4 H4 s4 => ?_) fun x k => k.elim)
      have s34 := s3.trans s4
      cases b with
      | false =>
        rw [if_neg Bool.false_ne_true] at m ⊢
        exact ⟨Hi4, acc, done, st.trans s34, s34.fr _ _ hD nd, s34.lst hD, dD.up s34.hi, by omega, sv'.step s34, m⟩
      | true =>
        rw [if_pos rfl] at m ⊢
        refine he σ2 ρ1 Hi4 H4 s4.ok (sv2.step s4) _ ((Meet.bind m).imp (fun d m v Hi5 H5 s5 d5 => ?_) fun x k => k.elim)
        have s345 := s34.trans s5
        have nd5 := s345.fr _ _ hD nd
        have hD5 := s345.lst hD
        have sv5 := sv'.step s345
        refine ⟨acc, hD5, lim_lt (by rw [dD.length]; have := hi'; omega), Hi5, acc ++ [v], done ++ [d], (st.trans s345).chg nD hD5 nd5, nd5, upd_same,
          (dD.up s345.hi).append (.cons d5 .nil), by rw [List.length_append, List.length_singleton]; omega, sv5.other nown, ?_⟩
        refine (Meet.bind m).imp (fun r k => ?_) fun x k => k.elim
        have k : RetL c Hi H Q (done ++ (d :: r)) := k
        rw [List.append_assoc]
        exact k
  · rintro H' ⟨Hi', acc, done, st, nd, hD, dD, dl, sv', m⟩
    rw [List.drop_length] at m
    have m : RetL c Hi H Q (done ++ []) := m
    rw [List.append_nil] at m
    exact m D acc Hi' H' (s1.trans st) (s1.free nD) nd hD dD
end
end Xd
namespace Xd
open PySem L2 Xg

/-! ### errors -/
def XcAt (K : PySem.W.Frag) (cl : Nat → Addr) (Hi : Hp) (x : Xc) (e : Value) (d : Option Addr) : Prop :=
  ∃ dx vs, e = .ref (cl x.c) ∧ d = some dx ∧ Hi dx = some (.xd (x.ns.zip vs)) ∧ x.ns.length = vs.length ∧ DvA K cl Hi vs x.xs
def wX (K : PySem.W.Frag) (cl : Nat → Addr) (W : WX) : Xd.WE := fun x σ Hi H => ∀ e d, XcAt K cl Hi x e d → W e d σ H
abbrev wE (E : XK) : WX := fun cls d _ H => E cls d H

/-! ### promises -/
def spD (K : PySem.W.Frag) (cl : Nat → Addr) (tb : List Addr) (m : List D → R D) : Sp := fun vs H Q E => ∃ Hq ds, Ok ⟨K, cl, Hq, H, 0, tb⟩ Hq H ∧ DvA K cl Hq vs ds ∧
  Meet (m ds) (fun d => ∀ v Hi' H', Ok ⟨K, cl, Hq, H, 0, tb⟩ Hi' H' → Dv K cl Hi' v d → Q v H') (fun x => ∀ Hi' H', Ok ⟨K, cl, Hq, H, 0, tb⟩ Hi' H' → ∀ e d, XcAt K cl Hi' x e d → E e d H')
def spL (K : PySem.W.Frag) (cl : Nat → Addr) (tb : List Addr) (m : List D → R (List D)) : Sp := fun vs H Q E => ∃ Hq ds, Ok ⟨K, cl, Hq, H, 0, tb⟩ Hq H ∧ DvA K cl Hq vs ds ∧
  Meet (m ds) (fun xs => ∀ p us Hi' H', Ok ⟨K, cl, Hq, H, 0, tb⟩ Hi' H' → H p = none → Hi' p = none → H' p = some (.lst us) → DvA K cl Hi' us xs → Q (.ref p) H') (fun x => ∀ Hi' H', Ok ⟨K, cl, Hq, H, 0, tb⟩ Hi' H' → ∀ e d, XcAt K cl Hi' x e d → E e d H')
def rho0 (n : Nat) (ds : List D) : Rho := ds.map Sl.val ++ List.replicate (n - ds.length) .un
def outD : Option O → R D
  | some (.rt d) => .ok d
  | some (.rf xs) => .ok (.lst xs)
  | some (.nx _) => .ok .non
  | some (.ex x _) => .exc x
  | _ => .bad
def outL : Option O → R (List D)
  | some (.rf xs) => .ok xs
  | some (.ex x _) => .exc x
  | _ => .bad
/-- what a def with n slots and k parameters gives -/
def runD (n k : Nat) (g : MS) (ds : List D) : R D := if ds.length = k then outD (g (rho0 n ds)) else .bad
def runL (n k : Nat) (g : MS) (ds : List D) : R (List D) := if ds.length = k then outL (g (rho0 n ds)) else .bad
section
variable {P : Program} {w : World} {K : PySem.W.Frag} {mg : Str → Option Value} {base : Heap} {cl : Nat → Addr} {tb : List Addr}
theorem sv_start {c : Cc} {N : List Str} {Hi H : Hp} {vs : List V} {ds : List D} (d : DvA c.K c.cl Hi vs ds) : Sv c Hi H (L2.start N vs) (rho0 N.length ds) := by
  have hl := d.length
  unfold L2.start rho0
  refine ⟨by simp [hl], fun i o s a b => ?_, fun i j p xs ys a b _ _ => ?_⟩
  · by_cases hi : i < ds.length
    · rw [List.getElem?_append_left (by simpa [hl] using hi)] at a
      rw [List.getElem?_append_left (by simpa using hi)] at b
      rw [List.getElem?_map] at a b
      obtain ⟨d', e1, rfl⟩ := Option.map_eq_some_iff.mp b
      obtain ⟨v, e2, dv⟩ := d.get e1
      rw [e2] at a
      cases a
      exact ⟨v, rfl, dv⟩
    · rw [List.getElem?_append_right (by simpa using hi)] at b
      have := List.getElem?_replicate (n := N.length - ds.length) (i := i - (ds.map Sl.val).length) (a := Sl.un)
      rw [this] at b
      split at b
      · cases b; trivial
      · cases b
  · exfalso
    by_cases hi : i < ds.length
    · rw [List.getElem?_append_left (by simpa using hi), List.getElem?_map] at a
      obtain ⟨d', e1, e2⟩ := Option.map_eq_some_iff.mp a
      cases e2
    · rw [List.getElem?_append_right (by simpa using hi)] at a
      have := List.getElem?_replicate (n := N.length - ds.length) (i := i - (ds.map Sl.val).length) (a := Sl.un)
      rw [this] at a
      split at a <;> cases a
theorem runD_len {n k : Nat} {g : MS} {ds : List D} {p : D → Prop} {q : Xc → Prop} (h : Meet (runD n k g ds) p q) : ds.length = k ∧ Meet (outD (g (rho0 n ds))) p q := meet_if h
theorem runL_len {n k : Nat} {g : MS} {ds : List D} {p : List D → Prop} {q : Xc → Prop} (h : Meet (runL n k g ds) p q) : ds.length = k ∧ Meet (outL (g (rho0 n ds))) p q := meet_if h
/-- a def that raises nothing -/
theorem okD {x qual : Str} {st : Stmt} {f : Addr} {fd : FuncData} {N ps : List Str} {k : Nat} {g : MS} (F : Fun K x qual st f fd) (S : FnScope N ps (defScope st))
    (body : ∀ (cdv : Value) (A : Around) (outer : List Env) (s : Shared) (H Hq : Hp) (E : XK), Room k (A.deeper (PyProof.Rows.envOfC qual (defScope st) s.heap.objs.size f cdv)) →
      ∃ t, PSs (cxOf CX0 P w K mg base N qual (defScope st) f cdv A outer s H E).nox (defBody st) t ∧ JS ⟨K, cl, Hq, H, 0, tb⟩ W0 t g) :
    FnOk P w K mg base CX0 (k + 1) f fd ps (spD K cl tb fun ds => noX (runD N.length ps.length g ds)) := by
  refine F.ok S (fun vs H Q E h => ?_) (fun cdv A' outer s H vs Q E hr h => ?_)
  · obtain ⟨Hq, ds, _, d, m⟩ := h
    rw [d.length]
    exact (runD_len (noX_meet m)).1
  · obtain ⟨Hq, ds, sm, d, m⟩ := h
    obtain ⟨t, h1, h2⟩ := body cdv A' outer s H Hq E hr
    refine ⟨t, h1, h2 _ (rho0 N.length ds) Hq H sm (sv_start d) _ ?_⟩
    have m := (runD_len (noX_meet m)).2
    cases hg : g (rho0 N.length ds) with
    | none => rw [hg] at m; exact m.elim
    | some o =>
      rw [hg] at m
      cases o with
      | nx ρ => exact fun σ' Hi' H' sm' ok' sv' => m _ Hi' H' ok' .non
      | bk ρ => exact m.elim
      | ct ρ => exact m.elim
      | rt d => exact fun v Hi' H' sm' ok' dv => m v Hi' H' ok' dv
      | rf xs => exact fun p us Hi' H' sm' ok' e n n0 dv => m _ _ H' (ok'.freeze e (fun _ z => by cases z) n n0) (.lst upd_same (dv.up (same_upd n)))
      | ex x ρ => exact m.elim
theorem okL {x qual : Str} {st : Stmt} {f : Addr} {fd : FuncData} {N ps : List Str} {k : Nat} {g : MS} (F : Fun K x qual st f fd) (S : FnScope N ps (defScope st))
    (body : ∀ (cdv : Value) (A : Around) (outer : List Env) (s : Shared) (H Hq : Hp) (E : XK), Room k (A.deeper (PyProof.Rows.envOfC qual (defScope st) s.heap.objs.size f cdv)) →
      ∃ t, PSs (cxOf CX0 P w K mg base N qual (defScope st) f cdv A outer s H E).nox (defBody st) t ∧ JS ⟨K, cl, Hq, H, 0, tb⟩ W0 t g) :
    FnOk P w K mg base CX0 (k + 1) f fd ps (spL K cl tb fun ds => noX (runL N.length ps.length g ds)) := by
  refine F.ok S (fun vs H Q E h => ?_) (fun cdv A' outer s H vs Q E hr h => ?_)
  · obtain ⟨Hq, ds, _, d, m⟩ := h
    rw [d.length]
    exact (runL_len (noX_meet m)).1
  · obtain ⟨Hq, ds, sm, d, m⟩ := h
    obtain ⟨t, h1, h2⟩ := body cdv A' outer s H Hq E hr
    refine ⟨t, h1, h2 _ (rho0 N.length ds) Hq H sm (sv_start d) _ ?_⟩
    have m := (runL_len (noX_meet m)).2
    cases hg : g (rho0 N.length ds) with
    | none => rw [hg] at m; exact m.elim
    | some o =>
      rw [hg] at m
      cases o with
      | rf xs => exact fun p us Hi' H' sm' ok' e n n0 dv => m p us Hi' H' ok' n0 n e dv
      | _ => exact m.elim
/-- a def that may raise -/
theorem okDX {x qual : Str} {st : Stmt} {f : Addr} {fd : FuncData} {N ps : List Str} {k : Nat} {g : MS} (F : Fun K x qual st f fd) (S : FnScope N ps (defScope st))
    (body : ∀ (cdv : Value) (A : Around) (outer : List Env) (s : Shared) (H Hq : Hp) (E : XK), Room k (A.deeper (PyProof.Rows.envOfC qual (defScope st) s.heap.objs.size f cdv)) →
      ∃ t, PSs (cxOf (L2.CX P w) P w K mg base N qual (defScope st) f cdv A outer s H E) (defBody st) t ∧ JS ⟨K, cl, Hq, H, 0, tb⟩ (wX K cl (wE E)) t g) :
    FnOk P w K mg base (L2.CX P w) (k + 1) f fd ps (spD K cl tb (runD N.length ps.length g)) := by
  refine F.okX S (fun vs H Q E h => ?_) (fun cdv A' outer s H vs Q E hr h => ?_)
  · obtain ⟨Hq, ds, _, d, m⟩ := h
    rw [d.length]
    exact (runD_len m).1
  · obtain ⟨Hq, ds, sm, d, m⟩ := h
    obtain ⟨t, h1, h2⟩ := body cdv A' outer s H Hq E hr
    refine ⟨t, h1, h2 _ (rho0 N.length ds) Hq H sm (sv_start d) _ ?_⟩
    have m := (runD_len m).2
    cases hg : g (rho0 N.length ds) with
    | none => rw [hg] at m; exact m.elim
    | some o =>
      rw [hg] at m
      cases o with
      | nx ρ => exact fun σ' Hi' H' sm' ok' sv' => m _ Hi' H' ok' .non
      | bk ρ => exact m.elim
      | ct ρ => exact m.elim
      | rt d => exact fun v Hi' H' sm' ok' dv => m v Hi' H' ok' dv
      | rf xs => exact fun p us Hi' H' sm' ok' e n n0 dv => m _ _ H' (ok'.freeze e (fun _ z => by cases z) n n0) (.lst upd_same (dv.up (same_upd n)))
      | ex x ρ => exact fun σ' Hi' H' sm' ok' sv' e d ha => m Hi' H' ok' e d ha
theorem okLX {x qual : Str} {st : Stmt} {f : Addr} {fd : FuncData} {N ps : List Str} {k : Nat} {g : MS} (F : Fun K x qual st f fd) (S : FnScope N ps (defScope st))
    (body : ∀ (cdv : Value) (A : Around) (outer : List Env) (s : Shared) (H Hq : Hp) (E : XK), Room k (A.deeper (PyProof.Rows.envOfC qual (defScope st) s.heap.objs.size f cdv)) →
      ∃ t, PSs (cxOf (L2.CX P w) P w K mg base N qual (defScope st) f cdv A outer s H E) (defBody st) t ∧ JS ⟨K, cl, Hq, H, 0, tb⟩ (wX K cl (wE E)) t g) :
    FnOk P w K mg base (L2.CX P w) (k + 1) f fd ps (spL K cl tb (runL N.length ps.length g)) := by
  refine F.okX S (fun vs H Q E h => ?_) (fun cdv A' outer s H vs Q E hr h => ?_)
  · obtain ⟨Hq, ds, _, d, m⟩ := h
    rw [d.length]
    exact (runL_len m).1
  · obtain ⟨Hq, ds, sm, d, m⟩ := h
    obtain ⟨t, h1, h2⟩ := body cdv A' outer s H Hq E hr
    refine ⟨t, h1, h2 _ (rho0 N.length ds) Hq H sm (sv_start d) _ ?_⟩
    have m := (runL_len m).2
    cases hg : g (rho0 N.length ds) with
    | none => rw [hg] at m; exact m.elim
    | some o =>
      rw [hg] at m
      cases o with
      | rf xs => exact fun p us Hi' H' sm' ok' e n n0 dv => m p us Hi' H' ok' n0 n e dv
      | ex x ρ => exact fun σ' Hi' H' sm' ok' sv' e d ha => m Hi' H' ok' e d ha
      | _ => exact m.elim
end

/-! ### calls -/
section
variable {c : Cc} {W : Xd.WE} {ts : TA} {fs : Rho → R (List D)}
theorem ok_step {Hi H Hi' H' : Hp} (ok : Ok c Hi H) (o2 : Ok ⟨c.K, c.cl, Hi, H, 0, c.tb⟩ Hi' H') : Step c Hi H Hi' H' := by
  refine ⟨o2.q, o2.h, fun p o e n => ?_, ok, o2.le, ok.q.trans o2.q, ok.h.trans o2.h, fun p o e n => ?_, o2.tab, o2.tabI⟩
  · cases k : Hi' p with
    | none => rfl
    | some u =>
      have := o2.new p u k n
      rw [show H p = none from this] at e
      cases e
  · cases k : Hi p with
    | some u => exact ok.new p u k n
    | none => exact ok.free0 (o2.new p o e k)
theorem Ok.here {Hi H : Hp} (ok : Ok c Hi H) : Ok ⟨c.K, c.cl, Hi, H, 0, c.tb⟩ Hi H := ⟨ok.le, Same.refl _, SameT.refl _ _, fun p o e n => (by
    have n' : Hi p = none := n
    rw [e] at n'
    cases n'), ok.tab, ok.tabI⟩
theorem je_call0 {m : List D → R D} (ha : JA c W ts fs) : JE c W (tCall (spD c.K c.cl c.tb m) [] E0 ts) (eCall (fun ds => noX (m ds)) fs) := fun σ ρ Hi H ok sv Q h => by
  refine ha σ ρ Hi H ok sv _ ((Meet.bind h).imp (fun ds h vs Hi1 H1 s1 d1 => ?_) fun x k => k)
  rw [List.append_nil]
  refine ⟨Hi1, ds, s1.ok.here, d1, (noX_meet h).imp (fun d k v Hi2 H2 o2 dv => ?_) fun x k => k.elim⟩
  exact k v Hi2 H2 (s1.trans (ok_step s1.ok o2)) dv
theorem jl_call0 {m : List D → R (List D)} (ha : JA c W ts fs) : JL c W (tCall (spL c.K c.cl c.tb m) [] E0 ts) (lCall (fun ds => noX (m ds)) fs) := fun σ ρ Hi H ok sv Q h => by
  refine ha σ ρ Hi H ok sv _ ((Meet.bind h).imp (fun ds h vs Hi1 H1 s1 d1 => ?_) fun x k => k)
  rw [List.append_nil]
  refine ⟨Hi1, ds, s1.ok.here, d1, (noX_meet h).imp (fun d k p us Hi2 H2 o2 n n' e dv => ?_) fun x k => k.elim⟩
  exact k p us Hi2 H2 (s1.trans (ok_step s1.ok o2)) (s1.free n) n' e dv
theorem je_callE {m : List D → R D} {E : XK} (ha : JA c (wX c.K c.cl (wE E)) ts fs) : JE c (wX c.K c.cl (wE E)) (tCall (spD c.K c.cl c.tb m) [] E ts) (eCall m fs) := fun σ ρ Hi H ok sv Q h => by
  refine ha σ ρ Hi H ok sv _ ((Meet.bind h).imp (fun ds h vs Hi1 H1 s1 d1 => ?_) fun x k => k)
  rw [List.append_nil]
  refine ⟨Hi1, ds, s1.ok.here, d1, h.imp (fun d k v Hi2 H2 o2 dv => ?_) fun x k Hi2 H2 o2 e d a => ?_⟩
  · exact k v Hi2 H2 (s1.trans (ok_step s1.ok o2)) dv
  · exact k Hi2 H2 (s1.trans (ok_step s1.ok o2)) e d a
theorem jl_callE {m : List D → R (List D)} {E : XK} (ha : JA c (wX c.K c.cl (wE E)) ts fs) : JL c (wX c.K c.cl (wE E)) (tCall (spL c.K c.cl c.tb m) [] E ts) (lCall m fs) := fun σ ρ Hi H ok sv Q h => by
  refine ha σ ρ Hi H ok sv _ ((Meet.bind h).imp (fun ds h vs Hi1 H1 s1 d1 => ?_) fun x k => k)
  rw [List.append_nil]
  refine ⟨Hi1, ds, s1.ok.here, d1, h.imp (fun d k p us Hi2 H2 o2 n n' e dv => ?_) fun x k Hi2 H2 o2 e d a => ?_⟩
  · exact k p us Hi2 H2 (s1.trans (ok_step s1.ok o2)) (s1.free n) n' e dv
  · exact k Hi2 H2 (s1.trans (ok_step s1.ok o2)) e d a
/-- in a try -/
theorem je_callS {m : List D → R D} {V : WX} (ha : JA c (wX c.K c.cl V) ts fs) : JE c (wX c.K c.cl V) (tCallS (spD c.K c.cl c.tb m) (L2.WE V) ts) (eCall m fs) := fun σ ρ Hi H ok sv Q h => by
  refine ha σ ρ Hi H ok sv _ ((Meet.bind h).imp (fun ds h vs Hi1 H1 s1 d1 => ?_) fun x k => k)
  refine ⟨Hi1, ds, s1.ok.here, d1, h.imp (fun d k v Hi2 H2 o2 dv => ?_) fun x k Hi2 H2 o2 e d a => ?_⟩
  · exact k v Hi2 H2 (s1.trans (ok_step s1.ok o2)) dv
  · exact k Hi2 H2 (s1.trans (ok_step s1.ok o2)) e d a
theorem jl_callS {m : List D → R (List D)} {V : WX} (ha : JA c (wX c.K c.cl V) ts fs) : JL c (wX c.K c.cl V) (tCallS (spL c.K c.cl c.tb m) (L2.WE V) ts) (lCall m fs) := fun σ ρ Hi H ok sv Q h => by
  refine ha σ ρ Hi H ok sv _ ((Meet.bind h).imp (fun ds h vs Hi1 H1 s1 d1 => ?_) fun x k => k)
  refine ⟨Hi1, ds, s1.ok.here, d1, h.imp (fun d k p us Hi2 H2 o2 n n' e dv => ?_) fun x k Hi2 H2 o2 e d a => ?_⟩
  · exact k p us Hi2 H2 (s1.trans (ok_step s1.ok o2)) (s1.free n) n' e dv
  · exact k Hi2 H2 (s1.trans (ok_step s1.ok o2)) e d a

/-! ### raise -/
def sRaise1 (n : Nat) (f : Str) (fs : Rho → R (List D)) : MS := fun ρ => lift (fs ρ) ρ fun ds => match ds with
  | [.str y] => if y.length ≤ 100000 then some (.ex ⟨n, [f], [.str y]⟩ ρ) else none
  | _ => none
def sRaise2 (n : Nat) (fs : Rho → R (List D)) : MS := fun ρ => lift (fs ρ) ρ fun ds => match ds with
  | [.int i, .int j] => if (0 ≤ i ∧ i < 2 ^ 62) ∧ 0 ≤ j ∧ j < 2 ^ 62 then some (.ex ⟨n, ["column", "line"], [.int j, .int i]⟩ ρ) else none
  | _ => none
theorem aft_if {P : Prop} [Decidable P] {Hi : Hp} {Dn : Ends} {a : Option O} (h : AftO c W Hi Dn (if P then a else none)) : P ∧ AftO c W Hi Dn a := by
  by_cases hp : P
  · rw [if_pos hp] at h; exact ⟨hp, h⟩
  · rw [if_neg hp] at h; exact h.elim
theorem js_raise1 {V : WX} {n : Nat} {f : Str} (ha : JA c (wX c.K c.cl V) ts fs) : JS c (wX c.K c.cl V) (fun _ σ H => XgSup.tMkS (c.cl n) f ts σ H fun cls d H' => V cls d σ H') (sRaise1 n f fs) := fun σ ρ Hi H ok sv Dn h => by
  refine ha σ ρ Hi H ok sv _ ((AftO.lift h sv).imp (fun ds h vs Hi1 H1 s1 d1 => ?_) fun x k => k)
  split at h
  · rename_i y
    obtain ⟨hy, h⟩ := aft_if h
    obtain ⟨v, rfl, dv⟩ := dva1 d1
    cases dv
    refine ⟨y, rfl, hy, fun d nd => ?_⟩
    have s2 := Step.new (o := .xd [(f, .str y)]) s1.ok nd
    exact h σ _ _ (s1.hi.trans s2.hi) s2.ok (sv.step (s1.trans s2)) _ _ ⟨d, [.str y], rfl, rfl, upd_same, rfl, .cons (.str _) .nil⟩
  · exact h.elim
theorem js_raise2 {V : WX} {n : Nat} (ha : JA c (wX c.K c.cl V) ts fs) : JS c (wX c.K c.cl V) (fun _ σ H => XgSup2.tMkS (c.cl n) ts σ H fun cls d H' => V cls d σ H') (sRaise2 n fs) := fun σ ρ Hi H ok sv Dn h => by
  refine ha σ ρ Hi H ok sv _ ((AftO.lift h sv).imp (fun ds h vs Hi1 H1 s1 d1 => ?_) fun x k => k)
  split at h
  · rename_i i j
    obtain ⟨⟨⟨h1, h2⟩, h3, h4⟩, h⟩ := aft_if h
    obtain ⟨v, u, rfl, dv, du⟩ := dva2 d1
    cases dv
    cases du
    refine ⟨i, j, rfl, XgSup2.log_small h1 h2, XgSup2.log_small h3 h4, fun d nd => ?_⟩
    have s2 := Step.new (o := .xd [("column", .int j), ("line", .int i)]) s1.ok nd
    exact h σ _ _ (s1.hi.trans s2.hi) s2.ok (sv.step (s1.trans s2)) _ _ ⟨d, [.int j, .int i], rfl, rfl, upd_same, rfl, .cons (.int _) (.cons (.int _) .nil)⟩
  · exact h.elim
end
end Xd
namespace Xd
open PySem L2 Xg

/-! ### built-in functions -/
def cListL (as : List D) : Option (List D) := match as with
  | [.lst xs] => some xs
  | [.tup xs] => some xs
  | _ => none
def cTuple (as : List D) : Option D := match as with
  | [.lst xs] => some (.tup xs)
  | [.tup xs] => some (.tup xs)
  | _ => none
def cInt (as : List D) : Option D := match as with
  | [.int i] => some (.int i)
  | [.bl k] => some (.int (if k then 1 else 0))
  | [.str a] => if a.length ≤ 640 then (PySem.intText? a).map fun n => .int n else none
  | _ => none
def cStr (as : List D) : Option D := match as with
  | [.int i] => if i.natAbs < 2 ^ 62 then some (.str (toString i)) else none
  | _ => none
def cAbs (as : List D) : Option D := match as with
  | [.int i] => some (.int (if i < 0 then -i else i))
  | _ => none
def cMax2 (as : List D) : Option D := match as with
  | [.int i, .int j] => some (.int (if j > i then j else i))
  | _ => none
def cMin2 (as : List D) : Option D := match as with
  | [.int i, .int j] => some (.int (if j < i then j else i))
  | _ => none
def rIntX : List V → Hp → VK → Prop := fun xs H Q => ((∃ i, xs = [.int i] ∧ Q (.int i) H) ∨ ∃ k, xs = [.bl k] ∧ Q (.int (if k then 1 else 0)) H) ∨ ∃ a n, xs = [.str a] ∧ PySem.intText? a = some n ∧ a.length ≤ 640 ∧ Q (.int n) H
theorem call_intX {X : Cx} : CallR X (.type "int") rIntX := CallR.or call_int1 call_int_str
section
variable {c : Cc}
theorem jcl_list : JCL c (fun xs H Q => ∃ p ys, xs = [.ref p] ∧ (SqL c.K H p ys ∨ SqT c.K H p ys) ∧ ∀ l, H l = none → Q (.ref l) (upd H l (.lst ys))) cListL := fun Hi H ok xs as d Q hx e q => by
  unfold cListL at e
  split at e
  · cases e
    obtain ⟨v, rfl, h⟩ := dva1 hx
    cases h with
    | lst h1 h2 => exact ⟨_, _, rfl, .inl (.inl (.inl (ok.le _ _ h1))), fun p np => q.lst ok h2 p np⟩
  · cases e
    obtain ⟨v, rfl, h⟩ := dva1 hx
    cases h with
    | tup h1 h2 => exact ⟨_, _, rfl, .inr (same_t ok.le h1), fun p np => q.lst ok h2 p np⟩
  · cases e
theorem jc_tuple : JC c (fun xs H Q => ∃ p ys, xs = [.ref p] ∧ ((SqL c.K H p ys ∧ ∀ l, H l = none → Q (.ref l) (upd H l (.tup ys))) ∨ (SqT c.K H p ys ∧ Q (.ref p) H))) cTuple := fun Hi H ok xs as d Q hx e q => by
  unfold cTuple at e
  split at e
  · cases e
    obtain ⟨v, rfl, h⟩ := dva1 hx
    cases h with
    | lst h1 h2 => exact ⟨_, _, rfl, .inl ⟨.inl (.inl (ok.le _ _ h1)), fun p np => q.tup ok h2 p np⟩⟩
  · cases e
    obtain ⟨v, rfl, h⟩ := dva1 hx
    cases h with
    | tup h1 h2 => exact ⟨_, _, rfl, .inr ⟨same_t ok.le h1, q.here ok (.tup h1 h2)⟩⟩
  · cases e
theorem jc_int : JC c rIntX cInt := fun Hi H ok xs as d Q hx e q => by
  unfold cInt at e
  split at e
  · cases e
    obtain ⟨v, rfl, h⟩ := dva1 hx
    cases h
    exact .inl (.inl ⟨_, rfl, q.here ok (.int _)⟩)
  · cases e
    obtain ⟨v, rfl, h⟩ := dva1 hx
    cases h
    exact .inl (.inr ⟨_, rfl, q.here ok (.int _)⟩)
  · rename_i a
    by_cases ha : a.length ≤ 640
    · rw [if_pos ha] at e
      obtain ⟨n, e1, rfl⟩ := Option.map_eq_some_iff.mp e
      obtain ⟨v, rfl, h⟩ := dva1 hx
      cases h
      exact .inr ⟨_, n, rfl, e1, ha, q.here ok (.int _)⟩
    · rw [if_neg ha] at e
      cases e
  · cases e
theorem jc_str : JC c (fun xs H Q => ∃ i, xs = [.int i] ∧ i.natAbs.log2 < 1920 ∧ Q (.str (toString i)) H) cStr := fun Hi H ok xs as d Q hx e q => by
  unfold cStr at e
  split at e
  · rename_i i
    obtain ⟨hi, rfl⟩ := if_some e
    obtain ⟨v, rfl, h⟩ := dva1 hx
    cases h
    refine ⟨_, rfl, ?_, q.here ok (.str _)⟩
    by_cases hz : i.natAbs = 0
    · rw [hz]; decide
    · exact Nat.lt_trans ((Nat.log2_lt hz).mpr hi) (by decide)
  · cases e
theorem jc_abs : JC c (fun xs H Q => ∃ i, xs = [.int i] ∧ Q (.int (if i < 0 then -i else i)) H) cAbs := fun Hi H ok xs as d Q hx e q => by
  unfold cAbs at e
  split at e
  · cases e
    obtain ⟨v, rfl, h⟩ := dva1 hx
    cases h
    exact ⟨_, rfl, q.here ok (.int _)⟩
  · cases e
theorem jc_max2 : JC c (fun xs H Q => ∃ i j, xs = [.int i, .int j] ∧ Q (.int (if j > i then j else i)) H) cMax2 := fun Hi H ok xs as d Q hx e q => by
  unfold cMax2 at e
  split at e
  · cases e
    obtain ⟨v, u, rfl, h, h'⟩ := dva2 hx
    cases h
    cases h'
    exact ⟨_, _, rfl, q.here ok (.int _)⟩
  · cases e
theorem jc_min2 : JC c (fun xs H Q => ∃ i j, xs = [.int i, .int j] ∧ Q (.int (if j < i then j else i)) H) cMin2 := fun Hi H ok xs as d Q hx e q => by
  unfold cMin2 at e
  split at e
  · cases e
    obtain ⟨v, u, rfl, h, h'⟩ := dva2 hx
    cases h
    cases h'
    exact ⟨_, _, rfl, q.here ok (.int _)⟩
  · cases e

/-! ### isinstance of data, built-in types -/
def tyD : D → Option String
  | .non => some "NoneType"
  | .bl _ => some "bool"
  | .int _ => some "int"
  | .str _ => some "str"
  | .lst _ => some "list"
  | .tup _ => some "tuple"
  | _ => none
def isub (a b : String) : Bool := a == b || (a == "bool" && b == "int")
def tyL : List String := ["NoneType", "bool", "int", "str", "list", "tuple", "dict"]
/-- what the fragment's decider says of built-in types -/
def KitOk (K : PySem.W.Frag) : Prop := ∀ a ∈ tyL, ∀ b ∈ tyL, PySem.W.kitOne K (.type a) (.type b) = some (isub a b)
def cIsi (as : List D) : Option D := match as with
  | [a, .opq (.ty n)] => match tyD a with
    | some t => if n ∈ tyL then some (.bl (isub t n)) else none
    | none => none
  | _ => none
theorem tyT {K : PySem.W.Frag} {H : Hp} {a : Addr} {xs : List V} (h : SqT K H a xs) : TyX K H (.ref a) (.type "tuple") := by
  rcases h with (h | ⟨o, h⟩) | ⟨o, its, n, e, cc, _⟩
  · exact .base (.tup h)
  · exact .fTuple h
  · exact .kTuple e cc
theorem tyD_ok {Hi H : Hp} (ok : Ok c Hi H) {v : V} {d : D} {t : String} (h : Dv c.K c.cl Hi v d) (e : tyD d = some t) : TyX c.K H v (.type t) ∧ t ∈ tyL := by
  cases d with
  | non => cases e; cases h; exact ⟨.base .non, by decide⟩
  | bl b => cases e; cases h; exact ⟨.base (.bl b), by decide⟩
  | int i => cases e; cases h; exact ⟨.base (.int i), by decide⟩
  | str s => cases e; cases h; exact ⟨.base (.str s), by decide⟩
  | lst xs => cases e; cases h with | lst h1 h2 => exact ⟨.base (.lst (ok.le _ _ h1)), by decide⟩
  | tup xs => cases e; cases h with | tup h1 h2 => exact ⟨tyT (same_t ok.le h1), by decide⟩
  | _ => cases e
theorem jc_isi (kit : KitOk c.K) : JC c (rIsi c.K) cIsi := fun Hi H ok xs as d Q hx e q => by
  unfold cIsi at e
  split at e
  · rename_i a n
    split at e
    · rename_i t et
      obtain ⟨hn, rfl⟩ := if_some e
      obtain ⟨v, u, rfl, h, h'⟩ := dva2 hx
      cases h'
      obtain ⟨ty, ht⟩ := tyD_ok ok h et
      exact ⟨v, .ty n, .type t, .type n, isub t n, rfl, .ty n, ty, kit t ht n hn, q.here ok (.bl _)⟩
    · cases e
  · cases e
end

/-! ### texts -/
/-- one sign or more between -/
def mSplitL (a : D) (as : List D) : Option (List D) := match a, as with
  | .str a, [.str b] => if (b.length == 0) = false ∧ a.length ≤ 100000 then some ((Txt.split a b).map D.str) else none
  | _, _ => none
def strList : List D → Option (List Str)
  | [] => some []
  | .str s :: r => match strList r with
    | some ss => some (s :: ss)
    | none => none
  | _ => none
def mJoin (a : D) (as : List D) : Option D := match a, as with
  | .str a, [.lst xs] => match strList xs with
    | some ys => if (ys.map (·.length)).sum + ys.length * a.length ≤ 100000 then some (.str (Txt.join a ys)) else none
    | none => none
  | .str a, [.tup xs] => match strList xs with
    | some ys => if (ys.map (·.length)).sum + ys.length * a.length ≤ 100000 then some (.str (Txt.join a ys)) else none
    | none => none
  | _, _ => none
def mStripC (a : D) (as : List D) : Option D := match a, as with
  | .str a, [.str b] => if a.length ≤ 100000 then some (.str (Txt.stripChars a b)) else none
  | _, _ => none
def eM1 (o : D → List D → Option D) (f g : Rho → R D) : Rho → R D := fun ρ => (f ρ).bind fun a => match a with
  | .str _ => (g ρ).bind fun b => ro (o a [b])
  | _ => .bad
def lM1 (o : D → List D → Option (List D)) (f g : Rho → R D) : Rho → R (List D) := fun ρ => (f ρ).bind fun a => match a with
  | .str _ => (g ρ).bind fun b => ro (o a [b])
  | _ => .bad
section
variable {c : Cc} {W : Xd.WE} {ta tb : TE} {f g : Rho → R D}
theorem je_m1 {r : V → List V → Hp → VK → Prop} {o : D → List D → Option D} (ho : JM c r o) (ha : JE c W ta f) (hb : JE c W tb g) : JE c W (tM1 r ta tb) (eM1 o f g) := fun σ ρ Hi H ok sv Q h => by
  refine ha σ ρ Hi H ok sv _ ((Meet.bind h).imp (fun a h v Hi1 H1 s1 d1 => ?_) fun x k => k)
  cases a with
  | str s =>
    cases d1
    refine ⟨⟨s, rfl⟩, hb σ ρ Hi1 H1 s1.ok (sv.step s1) _ (meet_step s1 (Meet.bind h) fun b h v2 Hi2 H2 s2 d2 => ?_)⟩
    exact ro_meet h fun d e q => ho Hi2 H2 s2.ok _ _ _ _ d Q (.str s) (.cons d2 .nil) e (RetD.to q (s1.trans s2))
  | _ => exact h.elim
theorem jl_m1 {r : V → List V → Hp → VK → Prop} {o : D → List D → Option (List D)} (ho : JML c r o) (ha : JE c W ta f) (hb : JE c W tb g) : JL c W (tM1 r ta tb) (lM1 o f g) := fun σ ρ Hi H ok sv Q h => by
  refine ha σ ρ Hi H ok sv _ ((Meet.bind h).imp (fun a h v Hi1 H1 s1 d1 => ?_) fun x k => k)
  cases a with
  | str s =>
    cases d1
    refine ⟨⟨s, rfl⟩, hb σ ρ Hi1 H1 s1.ok (sv.step s1) _ (meet_step s1 (Meet.bind h) fun b h v2 Hi2 H2 s2 d2 => ?_)⟩
    exact ro_meet h fun d e q => ho Hi2 H2 s2.ok _ _ _ _ d Q (.str s) (.cons d2 .nil) e (RetL.to (fun p v Hi2 H2 s2 n n2 e e2 => q p v Hi2 H2 s2 n n2 e e2) (s1.trans s2))
  | _ => exact h.elim
theorem dva_strl {K : PySem.W.Frag} {cl : Nat → Addr} {Hi : Hp} : ∀ zs : List Str, DvA K cl Hi (zs.map V.str) (zs.map D.str)
  | [] => .nil
  | z :: r => .cons (.str z) (dva_strl r)
theorem strList_ok {K : PySem.W.Frag} {cl : Nat → Addr} {Hi : Hp} : ∀ {xs : List D} {vs : List V} {ys : List Str}, DvA K cl Hi vs xs → strList xs = some ys → vs = ys.map V.str
  | [], _, _, h, e => by cases h; simp [strList] at e; subst e; rfl
  | d :: r, _, ys, h, e => by
    cases h with
    | cons h1 h2 =>
      cases d with
      | str s =>
        simp only [strList] at e
        split at e
        · rename_i ss e1
          cases e
          cases h1
          rw [strList_ok h2 e1]
          rfl
        · cases e
      | _ => simp [strList] at e
theorem jml_split : JML c (fun x xs H Q => ∃ a b, x = .str a ∧ xs = [.str b] ∧ (b.length == 0) = false ∧ a.length + 2 ≤ sizeLine ∧ rNewStrs (Txt.split a b) H Q) mSplitL := fun Hi H ok x xs a as d Q hx hs e q => by
  unfold mSplitL at e
  split at e
  · rename_i a b
    obtain ⟨⟨h1, h2⟩, rfl⟩ := if_some e
    cases hx
    obtain ⟨v, rfl, h⟩ := dva1 hs
    cases h
    exact ⟨_, _, rfl, rfl, h1, Nat.le_trans (Nat.add_le_add_right h2 2) (by decide), fun p np => q.lst ok (dva_strl _) p np⟩
  · cases e
theorem jm_join : JM c (fun x xs H Q => ∃ a p, ∃ ys : List Str, x = .str a ∧ xs = [.ref p] ∧ (SqL c.K H p (ys.map V.str) ∨ SqT c.K H p (ys.map V.str)) ∧
      (ys.map (·.length)).sum + ys.length * a.length ≤ 16777216 ∧ Q (.str (Txt.join a ys)) H) mJoin := fun Hi H ok x xs a as d Q hx hs e q => by
  unfold mJoin at e
  split at e
  · split at e
    · rename_i ys ey
      obtain ⟨h1, rfl⟩ := if_some e
      cases hx
      obtain ⟨v, rfl, h⟩ := dva1 hs
      cases h with
      | lst k1 k2 =>
        have z := strList_ok k2 ey
        subst z
        exact ⟨_, _, ys, rfl, rfl, .inl (.inl (.inl (ok.le _ _ k1))), Nat.le_trans h1 (by decide), q.here ok (.str _)⟩
    · cases e
  · split at e
    · rename_i ys ey
      obtain ⟨h1, rfl⟩ := if_some e
      cases hx
      obtain ⟨v, rfl, h⟩ := dva1 hs
      cases h with
      | tup k1 k2 =>
        have z := strList_ok k2 ey
        subst z
        exact ⟨_, _, ys, rfl, rfl, .inr (same_t ok.le k1), Nat.le_trans h1 (by decide), q.here ok (.str _)⟩
    · cases e
  · cases e
theorem jm_stripC : JM c (fun x xs H Q => ∃ a b, x = .str a ∧ xs = [.str b] ∧ a.length ≤ sizeLine ∧ Q (.str (Txt.stripChars a b)) H) mStripC := fun Hi H ok x xs a as d Q hx hs e q => by
  unfold mStripC at e
  split at e
  · obtain ⟨h1, rfl⟩ := if_some e
    cases hx
    obtain ⟨v, rfl, h⟩ := dva1 hs
    cases h
    exact ⟨_, _, rfl, rfl, lim_le h1, q.here ok (.str _)⟩
  · cases e
end

/-! ### try .. except X as e -/
def noErr : Rho → Rho := List.map fun s => match s with
  | .err => .un
  | s => s
def eXf (x : Xc) (f : Str) : Rho → R D := fun _ => ro ((x.ns.zip x.xs).lookup f)
def aftTry (i : Nat) : Option O → Option O
  | some (.nx ρ) => some (.nx (noErr (ρ.set i .un)))
  | some (.bk ρ) => some (.bk (noErr (ρ.set i .un)))
  | some (.ct ρ) => some (.ct (noErr (ρ.set i .un)))
  | some (.rt d) => some (.rt d)
  | some (.rf xs) => some (.rf xs)
  | _ => none
def sTry (exm : Nat → Option Bool) (i : Nat) (gb : MS) (gs : Xc → MS) : MS := fun ρ => match gb ρ with
  | some (.ex x ρ') => match exm x.c with
    | some true => aftTry i (gs x ((noErr ρ').set i .err))
    | some false => some (.ex x ρ')
    | none => none
  | o => o
section
variable {c : Cc}
theorem Ok.turn {Hi H : Hp} (ok : Ok c Hi H) (a : Addr) : Ok ⟨c.K, c.cl, Hi, c.H0, a, c.tb⟩ Hi H := ⟨ok.le, Same.refl _, ok.h, fun p o e n => (by
    have n' : Hi p = none := n
    rw [e] at n'
    cases n'), ok.tab, ok.tabI⟩
theorem Ok.back {Hi0 Hi H H0 : Hp} {a : Addr} (ok0 : Ok c Hi0 H0) (ok : Ok ⟨c.K, c.cl, Hi0, c.H0, a, c.tb⟩ Hi H) : Ok c Hi H := ⟨ok.le, ok0.q.trans ok.q, ok.h, fun p o e n => (by
    cases k : Hi0 p with
    | some u => exact ok0.new p u k n
    | none => exact ok.new p o e k), ok.tab, ok.tabI⟩
theorem noErr_get {ρ : Rho} {j : Nat} {s : Sl} (h : (noErr ρ)[j]? = some s) : s ≠ .err ∧ (s = .un ∨ ρ[j]? = some s) := by
  unfold noErr at h
  rw [List.getElem?_map] at h
  obtain ⟨s', h1, h2⟩ := Option.map_eq_some_iff.mp h
  cases s' <;> (simp at h2; subst h2; first | exact ⟨by simp, .inl rfl⟩ | exact ⟨by simp, .inr h1⟩)
/-- another context, but for the caught error -/
theorem Sv.recx {K : PySem.W.Frag} {cl : Nat → Addr} {Hq Hq' H0 Hi H : Hp} {a a' : Addr} {tb : List Addr} {σ : L2.St} {ρ : Rho} (sv : Sv ⟨K, cl, Hq, H0, a, tb⟩ Hi H σ ρ) : Sv ⟨K, cl, Hq', H0, a', tb⟩ Hi H σ (noErr ρ) := by
  refine ⟨by simp [noErr, sv.len], fun j o s x y => ?_, fun j k p xs ys x y x' y' => ?_⟩
  · obtain ⟨h1, h2⟩ := noErr_get y
    rcases h2 with rfl | h2
    · trivial
    · have k := sv.at' j o s x h2
      cases s with
      | un => trivial
      | err => exact absurd rfl h1
      | val d => exact k
      | own zs => exact k
  · obtain ⟨_, h1⟩ := noErr_get x
    obtain ⟨_, h2⟩ := noErr_get y
    rcases h1 with h1 | h1
    · cases h1
    rcases h2 with h2 | h2
    · cases h2
    exact sv.apart j k p _ _ h1 h2 x' y'
theorem Sv.setErr {c : Cc} {Hi H : Hp} {σ : L2.St} {ρ : Rho} (sv : Sv c Hi H σ ρ) (i : Nat) : Sv c Hi H (σ.set i (some (.ref c.ea))) (ρ.set i .err) := by
  have sv2 := sv.setUn i (some (.ref c.ea))
  refine ⟨by simp [sv.len], fun j o s x y => ?_, fun j k p xs ys x y x' y' => ?_⟩
  · by_cases hj : j = i
    · subst hj
      have h1 : j < σ.length := by
        have := (List.getElem?_eq_some_iff.mp x).1
        simpa using this
      have h2 : j < ρ.length := by rw [← sv.len]; exact h1
      rw [List.getElem?_set_self h1] at x
      rw [List.getElem?_set_self h2] at y
      cases x
      cases y
      rfl
    · rw [List.getElem?_set_ne (Ne.symm hj)] at x y
      exact sv.at' j o s x y
  · have f : ∀ (j : Nat) (zs : List D), (ρ.set i .err)[j]? = some (.own zs) → (ρ.set i .un)[j]? = some (.own zs) := fun j zs h => by
      by_cases hj : j = i
      · subst hj
        have h2 : j < ρ.length := by
          have := (List.getElem?_eq_some_iff.mp h).1
          simpa using this
        rw [List.getElem?_set_self h2] at h
        cases h
      · rw [List.getElem?_set_ne (Ne.symm hj)] at h ⊢
        exact h
    exact sv2.apart j k p _ _ (f j _ x) (f k _ y) x' y'
def aftTry' (i : Nat) (ρ : Rho) : Rho := noErr (ρ.set i .un)
theorem js_try {tb : WX → TS} {ts : Addr → Value → Option Addr → TS} {Vout : WX} {gb : MS} {gs : Xc → MS} {exm : Nat → Option Bool} {cv : Value} {i : Nat} (hb : ∀ V : WX, JS c (wX c.K c.cl V) (tb V) gb)
    (hs : ∀ (a : Addr) (x : Xc) (cls : Value) (d : Option Addr) (Hi0 : Hp), XcAt c.K c.cl Hi0 x cls d → JS ⟨c.K, c.cl, Hi0, c.H0, a, c.tb⟩ W0 (ts a cls d) (gs x))
    (hm : ∀ n b, exm n = some b → PySem.W.exmOne c.K (.ref (c.cl n)) cv = some b) : JS c (wX c.K c.cl Vout) (fun Dn σ H => tb (wAs c.K cv i ts Vout Dn) Dn σ H) (sTry exm i gb gs) := fun σ ρ Hi H ok sv Dn h => by
  refine hb _ σ ρ Hi H ok sv Dn ?_
  unfold sTry at h
  cases hg : gb ρ with
  | none => rw [hg] at h; exact h
  | some o =>
    rw [hg] at h
    cases o with
    | ex x ρ' =>
      intro σ' Hi' H' sm ok' sv' cls d xa
      simp only at h
      cases hx : exm x.c with
      | none => rw [hx] at h; exact h.elim
      | some b =>
        rw [hx] at h
        have e1 := hm _ _ hx
        obtain ⟨dx, vs, rfl, _⟩ := id xa
        cases b with
        | false => exact ⟨false, e1, (fun z => nomatch z), fun _ => h σ' Hi' H' sm ok' sv' _ d xa⟩
        | true =>
          refine ⟨true, e1, fun _ a na => ?_, (fun z => nomatch z)⟩
          have ok2 := ok'.turn a
          have sv2 : Sv ⟨c.K, c.cl, Hi', c.H0, a, c.tb⟩ Hi' H' (σ'.set i (some (.ref a))) ((noErr ρ').set i .err) := Sv.setErr (c := ⟨c.K, c.cl, Hi', c.H0, a, c.tb⟩) (Sv.recx (a := c.ea) (Hq := c.Hq) sv') i
          refine hs a x _ d Hi' xa _ _ Hi' H' ok2 sv2 _ ?_
          have fin : ∀ {Kn : L2.St → Hp → Prop} {ρ2 : Rho}, Nx c Hi Kn (noErr (ρ2.set i .un)) → Nx ⟨c.K, c.cl, Hi', c.H0, a, c.tb⟩ Hi' (fun σ3 H3 => Kn (σ3.set i none) H3) ρ2 := fun {Kn ρ2} k σ3 Hi3 H3 s3 ok3 sv3 =>
            k _ Hi3 H3 (sm.trans s3) (ok'.back ok3) (Sv.recx (a := a) (Hq := Hi') (a' := c.ea) (Hq' := c.Hq) (sv3.setUn i none))
          cases hr : gs x ((noErr ρ').set i .err) with
          | none => rw [hr] at h; exact h.elim
          | some o2 =>
            rw [hr] at h
            cases o2 with
            | nx ρ2 => exact fin h
            | bk ρ2 => exact fin h
            | ct ρ2 => exact fin h
            | rt d2 => exact fun v Hi3 H3 s3 ok3 dv => h v Hi3 H3 (sm.trans s3) (ok'.back ok3) dv
            | rf xs => exact fun p us Hi3 H3 s3 ok3 e3 n3 n0 dv => h p us Hi3 H3 (sm.trans s3) (ok'.back ok3) e3 n3 n0 dv
            | ex y ρ2 => exact h.elim
    | _ => exact h
def eErr (i : Nat) (k : R D) : Rho → R D := fun ρ => match ρ[i]? with
  | some .err => k
  | _ => .bad
theorem Sv.err {Hi H : Hp} {σ : L2.St} {ρ : Rho} (e : Sv c Hi H σ ρ) {i : Nat} (h : ρ[i]? = some .err) : σ[i]? = some (some (.ref c.ea)) := by
  obtain ⟨o, h1, h2⟩ := e.find h
  rw [h1]
  congr
theorem lookup_zip {K : PySem.W.Frag} {cl : Nat → Addr} {Hi : Hp} {f : Str} {d : D} : ∀ {ns : List Str} {vs : List V} {xs : List D}, DvA K cl Hi vs xs → (ns.zip xs).lookup f = some d → ∃ v, (ns.zip vs).lookup f = some v ∧ Dv K cl Hi v d
  | [], _, _, _, e => by simp at e
  | n :: ns, _, [], _, e => by simp at e
  | n :: ns, _, x :: xs, h, e => by
    cases h with
    | cons h1 h2 =>
      simp only [List.zip_cons_cons, List.lookup_cons] at e ⊢
      split at e
      · cases e
        exact ⟨_, rfl, h1⟩
      · exact lookup_zip h2 e
theorem je_xf {W : Xd.WE} {a : Addr} {cls : Value} {d : Option Addr} {n : Nat} {f : Str} {i : Nat} {x : Xc} {Hi0 : Hp} (hx : XcAt c.K c.cl Hi0 x cls d) :
    JE ⟨c.K, c.cl, Hi0, c.H0, a, c.tb⟩ W (tXf a cls d (c.cl n) f (tVar i)) (eErr i (if x.c = n then ro ((x.ns.zip x.xs).lookup f) else .bad)) := fun σ ρ Hi H ok sv Q h => by
  unfold eErr at h
  split at h
  · rename_i he
    obtain ⟨hn, h⟩ := meet_if h
    obtain ⟨dx, vs, e1, e2, e3, e4, e5⟩ := hx
    have es := sv.err he
    refine ro_meet h fun z ez q => ?_
    obtain ⟨v, l1, dv⟩ := lookup_zip e5 ez
    refine ⟨_, es, rfl, by rw [e1, hn], dx, _, v, e2, ok.le _ _ (ok.q _ _ e3), l1, q v Hi H (Step.refl ok) (dv.up ok.q)⟩
  · exact h.elim
/-- arguments that are constants -/
def EvC (ts : TA) (vs : List V) : Prop := ∀ σ H (Q : List V → Hp → Prop), Q vs H → ts σ H Q
theorem evc_nil : EvC tNil [] := fun _ _ _ q => q
theorem evc_cons {ts : TA} {v : V} {vs : List V} (h : EvC ts vs) : EvC (tCons (tC v) ts) (v :: vs) := fun σ H Q q => h σ H _ q
theorem je_isX1 {W : Xd.WE} {a : Addr} {cls : Value} {d : Option Addr} {i : Nat} {x : Xc} {Hi0 : Hp} {y : V} {u : Value} {tab : Nat → Option Bool} (hx : XcAt c.K c.cl Hi0 x cls d) (hc : ClsV y u)
    (hk : ∀ n b, tab n = some b → PySem.W.kitOne c.K (.ref (c.cl n)) u = some b ∧ ExcC c.K (c.cl n)) :
    JE ⟨c.K, c.cl, Hi0, c.H0, a, c.tb⟩ W (tCB (XgIsa.rIsX c.K a cls d) (tCons (tVar i) (tCons (tC y) tNil))) (eErr i (ro ((tab x.c).map .bl))) := fun σ ρ Hi H ok sv Q h => by
  unfold eErr at h
  split at h
  · rename_i he
    obtain ⟨dx, vs, e1, e2, e3, e4, e5⟩ := hx
    have es := sv.err he
    refine ro_meet h fun z ez q => ?_
    obtain ⟨b, eb, rfl⟩ := Option.map_eq_some_iff.mp ez
    obtain ⟨k1, k2⟩ := hk _ _ eb
    exact ⟨_, es, c.cl x.c, dx, _, y, b, rfl, e1, k2, e2, ok.le _ _ (ok.q _ _ e3), .inl ⟨u, hc, k1⟩, q _ Hi H (Step.refl ok) (.bl b)⟩
  · exact h.elim
theorem je_isXT {W : Xd.WE} {a : Addr} {cls : Value} {d : Option Addr} {i : Nat} {x : Xc} {Hi0 : Hp} {ts : TA} {ys : List V} {us : List Value} {tab : Nat → Option Bool} (hx : XcAt c.K c.cl Hi0 x cls d) (ht : EvC ts ys) (hl : ys.length ≤ 1000) (hc : Paired ClsV ys us)
    (hk : ∀ n b, tab n = some b → PySem.W.kitAny c.K (.ref (c.cl n)) us = some b ∧ ExcC c.K (c.cl n)) :
    JE ⟨c.K, c.cl, Hi0, c.H0, a, c.tb⟩ W (tCB (XgIsa.rIsX c.K a cls d) (tCons (tVar i) (tCons (tTup ts) tNil))) (eErr i (ro ((tab x.c).map .bl))) := fun σ ρ Hi H ok sv Q h => by
  unfold eErr at h
  split at h
  · rename_i he
    obtain ⟨dx, vs, e1, e2, e3, e4, e5⟩ := hx
    have es := sv.err he
    refine ro_meet h fun z ez q => ?_
    obtain ⟨b, eb, rfl⟩ := Option.map_eq_some_iff.mp ez
    obtain ⟨k1, k2⟩ := hk _ _ eb
    refine ⟨_, es, ht _ _ _ ⟨lim_le (by omega), fun p np => ?_⟩⟩
    have s2 := Step.new (o := .tup ys) ok np
    refine ⟨c.cl x.c, dx, _, .ref p, b, rfl, e1, k2, e2, s2.keep (ok.le _ _ (ok.q _ _ e3)) (fun _ z => by cases z), .inr ⟨p, ys, us, rfl, upd_same, hc, k1⟩, q _ _ _ s2 (.bl b)⟩
  · exact h.elim
end
end Xd
namespace Xd
open PySem L2 Xg

/-! ### own lists looked at while they stay own -/
def vwS : Sl → Sl
  | .own xs => .val (.lst xs)
  | s => s
def vw (ρ : Rho) : Rho := ρ.map vwS
def bView (f : Rho → R Bool) : Rho → R Bool := fun ρ => noX (f (vw ρ))
def eView (f : Rho → R D) : Rho → R D := fun ρ => (noX (f (vw ρ))).bind fun d => if (sv d).isSome = true then .ok d else .bad
section
variable {c : Cc} {W : Xd.WE}
theorem view_upto {Hi H : Hp} {σ : L2.St} {ρ : Rho} (ok : Ok c Hi H) (sv : Sv c Hi H σ ρ) : ∀ n : Nat, n ≤ ρ.length → ∃ Hv, Same Hi Hv ∧ Ok c Hv H ∧ Sv c Hv H σ ((ρ.take n).map vwS ++ ρ.drop n)
  | 0, _ => ⟨Hi, Same.refl _, ok, by simpa using sv⟩
  | n + 1, h => by
    obtain ⟨Hv, sm, ok', sv'⟩ := view_upto ok sv n (by omega)
    have hn : n < ρ.length := by omega
    have e1 : ρ.drop n = ρ[n] :: ρ.drop (n + 1) := List.drop_eq_getElem_cons hn
    have e2 : ρ.take (n + 1) = ρ.take n ++ [ρ[n]] := by rw [List.take_succ_eq_append_getElem hn]
    have hl : ((ρ.take n).map vwS).length = n := by rw [List.length_map, List.length_take]; omega
    rw [e1] at sv'
    rw [e2, List.map_append, List.append_assoc]
    cases hs : ρ[n] with
    | own xs =>
      rw [hs] at sv'
      have at' : ((ρ.take n).map vwS ++ Sl.own xs :: ρ.drop (n + 1))[n]? = some (.own xs) := by
        rw [List.getElem?_append_right (by rw [hl]; exact Nat.le_refl _), hl, Nat.sub_self]
        rfl
      obtain ⟨Hw, s2, ok2, sv2⟩ := sv'.freeze ok' at'
      refine ⟨Hw, sm.trans s2, ok2, ?_⟩
      rw [List.set_append, hl, if_neg (Nat.lt_irrefl _), Nat.sub_self] at sv2
      exact sv2
    | un => rw [hs] at sv'; exact ⟨Hv, sm, ok', sv'⟩
    | err => rw [hs] at sv'; exact ⟨Hv, sm, ok', sv'⟩
    | val d => rw [hs] at sv'; exact ⟨Hv, sm, ok', sv'⟩
theorem view_all {Hi H : Hp} {σ : L2.St} {ρ : Rho} (ok : Ok c Hi H) (sv : Sv c Hi H σ ρ) : ∃ Hv, Same Hi Hv ∧ Ok c Hv H ∧ Sv c Hv H σ (vw ρ) := by
  obtain ⟨Hv, h1, h2, h3⟩ := view_upto ok sv ρ.length (Nat.le_refl _)
  rw [List.take_length, List.drop_length, List.append_nil] at h3
  exact ⟨Hv, h1, h2, h3⟩
open Classical in
/-- what was frozen for a look alone is let go -/
noncomputable def letGo (Hi H Hv : Hp) : Hp := fun p => if Hi p = none ∧ H p ≠ none then none else Hv p
theorem letGo_step {Hi H Hv Hv' H' : Hp} (ok : Ok c Hi H) (sm : Same Hi Hv) (st : Step c Hv H Hv' H') : Step c Hi H (letGo Hi H Hv') H' := by
  have got : ∀ p o, letGo Hi H Hv' p = some o → Hv' p = some o ∧ ¬ (Hi p = none ∧ H p ≠ none) := fun p o e => by
    unfold letGo at e
    split at e
    · cases e
    · rename_i h; exact ⟨e, h⟩
  have hi : Same Hi (letGo Hi H Hv') := fun p o e => by
    unfold letGo
    rw [if_neg (fun h => by rw [e] at h; cases h.1)]
    exact st.hi _ _ (sm _ _ e)
  refine ⟨hi, st.h, fun p o e n => ?_, ok, fun p o e => st.ok.le _ _ (got p o e).1, ok.q.trans hi, st.ok.h, fun p o e n => ?_, st.ok.tab, fun p hp => ?_⟩
  · unfold letGo
    rw [if_pos ⟨n, by rw [e]; simp⟩]
  · cases k : Hi p with
    | some u => exact ok.new p u k n
    | none =>
      have nn : H p = none := by
        cases k2 : H p with
        | none => rfl
        | some u => exact absurd ⟨k, by rw [k2]; simp⟩ (got p o e).2
      exact ok.free0 nn
  · unfold letGo
    split
    · rfl
    · exact st.ok.tabI p hp
theorem jt_view {tt : TT} {f : Rho → R Bool} (h : JT c W0 tt f) : JT c W tt (bView f) := fun σ ρ Hi H ok sv Q q => by
  obtain ⟨Hv, sm, okv, svv⟩ := view_all ok sv
  refine h σ (vw ρ) Hv H okv svv Q ((noX_meet q).imp (fun b k Hi' H' s => k _ H' (letGo_step ok sm s)) fun x k => k.elim)
theorem je_view {te : TE} {f : Rho → R D} (h : JE c W0 te f) : JE c W te (eView f) := fun σ ρ Hi H ok sv Q q => by
  obtain ⟨Hv, sm, okv, svv⟩ := view_all ok sv
  refine h σ (vw ρ) Hv H okv svv Q ((noX_meet (Meet.bind q)).imp (fun d k v Hi' H' s dv => ?_) fun x k => k.elim)
  obtain ⟨hs, k⟩ := meet_if k
  obtain ⟨x, ex⟩ := Option.isSome_iff_exists.mp hs
  have z := dv.small ex
  subst z
  exact k _ _ H' (letGo_step ok sm s) (Dv.ofSmall ex)
end

/-! ### any(sign .. for sign in text) -/
def eAnyS (pb : Nat → Bool) (f : Rho → R D) : Rho → R D := fun ρ => (f ρ).bind fun d => match d with
  | .str a => .ok (.bl (a.cps.toList.any pb))
  | _ => .bad
theorem je_anyS {c : Cc} {W : Xd.WE} {te : TE} {f : Rho → R D} {pb : Nat → Bool} {P : Addr} (hP : P ∈ c.tb) (ha : JE c W te f) : JE c W (GxR.tAnyS P pb te) (eAnyS pb f) := fun σ ρ Hi H ok sv Q h => by
  refine ha σ ρ Hi H ok sv _ ((Meet.bind h).imp (fun d h v Hi1 H1 s1 d1 => ?_) fun x k => k)
  cases d with
  | str a =>
    cases d1
    refine ⟨a, rfl, s1.ok.tab P hP, fun H2 ⟨tg, same⟩ => ?_⟩
    have nP : ∀ b o, Hi1 b = some o → b ≠ P := fun b o e z => by
      rw [z, s1.ok.tabI P hP] at e
      cases e
    refine h _ Hi1 H2 (s1.trans ⟨Same.refl _, fun b o nb e => ?_, fun p o e n => n, s1.ok, fun b o e => ?_, s1.ok.q, s1.ok.h.trans fun b o nb e => ?_, s1.ok.new, fun q hq => ?_, s1.ok.tabI⟩) (.bl _)
    · rw [same b (fun z => nb (by rw [z]; exact hP))]
      exact e
    · rw [same b (nP b o e)]
      exact s1.ok.le _ _ e
    · rw [same b (fun z => nb (by rw [z]; exact hP))]
      exact e
    · by_cases hz : q = P
      · rw [hz]; exact tg
      · obtain ⟨ps, e, t⟩ := s1.ok.tab q hq
        exact ⟨ps, by rw [same q hz]; exact e, t⟩
  | _ => exact h.elim

/-! ### more operations -/
def oShl : D → D → Option D := oI2 (fun i j => decide (0 ≤ j ∧ j ≤ 1000000 ∧ i.natAbs < 2 ^ 64)) fun i j => .int (i * 2 ^ j.toNat)
def oShr : D → D → Option D := oI2 (fun _ j => decide (0 ≤ j)) fun i j => .int (i / 2 ^ j.toNat)
def oBand : D → D → Option D := oI2 (fun _ _ => true) fun i j => .int (Builtin.bitAnd i j)
def intList : List D → Option (List Int)
  | [] => some []
  | .int i :: r => match intList r with
    | some is => some (i :: is)
    | none => none
  | _ => none
def cSum (as : List D) : Option D := match as with
  | [.lst xs] => (intList xs).map fun ns => .int ns.sum
  | _ => none
def mUpper (a : D) (as : List D) : Option D := match a, as with
  | .str a, [] => if a.length ≤ 100000 then some (.str (Txt.upper a)) else none
  | _, _ => none
def eM0 (o : D → List D → Option D) (f : Rho → R D) : Rho → R D := fun ρ => (f ρ).bind fun a => match a with
  | .str _ => ro (o a [])
  | _ => .bad
def eFmt (f : Rho → R D) : Rho → R D := fun ρ => (f ρ).bind fun d => match d with
  | .str y => if y.length ≤ 100000 then .ok (.str y) else .bad
  | .int i => if i.natAbs < 2 ^ 62 then .ok (.str (toString i)) else .bad
  | _ => .bad
def eJoin : List (Rho → R D) → Str → Rho → R D
  | [], acc => fun _ => .ok (.str acc)
  | f :: fs, acc => fun ρ => (f ρ).bind fun d => match d with
    | .str y => if (acc ++ y).length ≤ 100000 then eJoin fs (acc ++ y) ρ else .bad
    | _ => .bad
section
variable {c : Cc} {W : Xd.WE} {te : TE} {f : Rho → R D}
theorem jo_shl : JO c (rI CPow fun i j => .int (i * 2 ^ j.toNat)) oShl := jo_I (fun i j h => by have h' : 0 ≤ j ∧ j ≤ 1000000 ∧ i.natAbs < 2 ^ 64 := of_decide_eq_true h; exact h') fun _ _ => rfl
theorem jo_shr : JO c (rI (fun _ j => 0 ≤ j) fun i j => .int (i / 2 ^ j.toNat)) oShr := jo_I (fun i j h => of_decide_eq_true h) fun _ _ => rfl
theorem jo_band : JO c (rI0 fun i j => .int (Builtin.bitAnd i j)) oBand := jo_I0 fun _ _ => rfl
theorem intList_ok {K : PySem.W.Frag} {cl : Nat → Addr} {Hi : Hp} : ∀ {xs : List D} {vs : List V} {ns : List Int}, DvA K cl Hi vs xs → intList xs = some ns → vs = ns.map V.int
  | [], _, _, h, e => by cases h; simp [intList] at e; subst e; rfl
  | d :: r, _, ns, h, e => by
    cases h with
    | cons h1 h2 =>
      cases d with
      | int s =>
        simp only [intList] at e
        split at e
        · rename_i ss e1
          cases e
          cases h1
          rw [intList_ok h2 e1]
          rfl
        · cases e
      | _ => simp [intList] at e
theorem jc_sum : JC c (rSum c.K) cSum := fun Hi H ok xs as d Q hx e q => by
  unfold cSum at e
  split at e
  · obtain ⟨ns, e1, rfl⟩ := Option.map_eq_some_iff.mp e
    obtain ⟨v, rfl, h⟩ := dva1 hx
    cases h with
    | lst h1 h2 =>
      have z := intList_ok h2 e1
      subst z
      exact ⟨_, ns, rfl, .inl (.inl (ok.le _ _ h1)), q.here ok (.int _)⟩
  · cases e
theorem je_m0 {r : V → List V → Hp → VK → Prop} {o : D → List D → Option D} (ho : JM c r o) (ha : JE c W te f) : JE c W (tM0 r te) (eM0 o f) := fun σ ρ Hi H ok sv Q h => by
  refine ha σ ρ Hi H ok sv _ ((Meet.bind h).imp (fun a h v Hi1 H1 s1 d1 => ?_) fun x k => k)
  cases a with
  | str s =>
    cases d1
    exact ⟨⟨s, rfl⟩, ro_meet h fun d e q => ho Hi1 H1 s1.ok _ _ _ _ d Q (.str s) .nil e (RetD.to q s1)⟩
  | _ => exact h.elim
theorem jm_upper : JM c (fun x xs H Q => ∃ a, x = .str a ∧ xs = [] ∧ a.length ≤ 5592405 ∧ Q (.str (Txt.upper a)) H) mUpper := fun Hi H ok x xs a as d Q hx hs e q => by
  unfold mUpper at e
  split at e
  · obtain ⟨h1, rfl⟩ := if_some e
    cases hx
    cases hs
    exact ⟨_, rfl, rfl, Nat.le_trans h1 (by decide), q.here ok (.str _)⟩
  · cases e
theorem je_fmt (ha : JE c W te f) : JE c W (tFmt te) (eFmt f) := fun σ ρ Hi H ok sv Q h => by
  refine ha σ ρ Hi H ok sv _ ((Meet.bind h).imp (fun a h v Hi1 H1 s1 d1 => ?_) fun x k => k)
  cases a with
  | str s =>
    cases d1
    obtain ⟨hl, h⟩ := meet_if h
    exact .inl ⟨s, rfl, lim_le hl, h _ _ _ s1 (.str _)⟩
  | int i =>
    cases d1
    obtain ⟨hl, h⟩ := meet_if h
    refine .inr ⟨i, rfl, ?_, h _ _ _ s1 (.str _)⟩
    by_cases hz : i.natAbs = 0
    · rw [hz]; decide
    · exact Nat.lt_trans ((Nat.log2_lt hz).mpr hl) (by decide)
  | _ => exact h.elim
inductive JJ (c : Cc) (W : Xd.WE) : List TE → List (Rho → R D) → Prop where
  | nil : JJ c W [] []
  | cons {t : TE} {ts : List TE} {f : Rho → R D} {fs : List (Rho → R D)} (h : JE c W t f) (r : JJ c W ts fs) : JJ c W (t :: ts) (f :: fs)
theorem je_join' {ts : List TE} {fs : List (Rho → R D)} (h : JJ c W ts fs) : ∀ acc : Str, JE c W (fun σ H Q => tJs ts acc σ H fun out H1 => Q (.str out) H1) (eJoin fs acc) := by
  induction h with
  | nil => exact fun acc σ ρ Hi H ok sv Q q => q _ Hi H (Step.refl ok) (.str acc)
  | @cons t ts f fs h r ih =>
    intro acc σ ρ Hi H ok sv Q q
    refine h σ ρ Hi H ok sv _ ((Meet.bind q).imp (fun a q v Hi1 H1 s1 d1 => ?_) fun x k => k)
    cases a with
    | str y =>
      cases d1
      obtain ⟨hl, q⟩ := meet_if q
      refine ⟨y, rfl, lim_le hl, ih (acc ++ y) σ ρ Hi1 H1 s1.ok (sv.step s1) Q (meet_step s1 q fun d q v Hi2 H2 s2 => q v Hi2 H2 (s1.trans s2))⟩
    | _ => exact q.elim
theorem je_join {ts : List TE} {fs : List (Rho → R D)} (h : JJ c W ts fs) : JE c W (fun σ H Q => tJs ts Str.empty σ H fun out H1 => Q (.str out) H1) (eJoin fs Str.empty) := je_join' h _
/-- the field of a frozen instance -/
def eFld (n : Nat) (g : Str) (f : Rho → R D) : Rho → R D := fun ρ => (f ρ).bind fun d => match d with
  | .ins m ns xs => if m = n then ro ((ns.zip xs).lookup g) else .bad
  | _ => .bad
theorem je_fld {n : Nat} {g : Str} (hc : Cls c.K (c.cl n)) (hn : NoAttr c.K (c.cl n) g) (ha : JE c W te f) : JE c W (tFld c.K te g) (eFld n g f) := fun σ ρ Hi H ok sv Q h => by
  refine ha σ ρ Hi H ok sv _ ((Meet.bind h).imp (fun a h v Hi1 H1 s1 d1 => ?_) fun x k => k)
  cases a with
  | ins m ns xs =>
    have h : Meet (if m = n then ro ((ns.zip xs).lookup g) else .bad) _ _ := h
    obtain ⟨hm, hh⟩ := meet_if h
    clear h
    subst hm
    cases d1 with
    | ins h1 h2 h3 =>
      refine ro_meet hh fun d e q => ?_
      obtain ⟨u, l1, du⟩ := lookup_zip h3 e
      exact ⟨_, _, _, _, u, rfl, s1.ok.le _ _ h1, hc, hn, l1, q u Hi1 H1 s1 du⟩
  | _ => exact h.elim
end
section
variable {c : Cc} {W W' : Xd.WE}
theorem js_w {ts : TS} {g : MS} (h : JS c W' ts g) (hw : ∀ x σ Hi H, W x σ Hi H → W' x σ Hi H) : JS c W ts g := fun σ ρ Hi H ok sv Dn a => by
  refine h σ ρ Hi H ok sv Dn ?_
  cases e : g ρ with
  | none => rw [e] at a; exact a
  | some o =>
    rw [e] at a
    cases o with
    | ex x ρ' => exact fun σ' Hi' H' s ok' sv' => hw _ _ _ _ (a σ' Hi' H' s ok' sv')
    | _ => exact a
/-- a try in a def that raises nothing -/
theorem js_try0 {tb : WX → TS} {ts : Addr → Value → Option Addr → TS} {gb : MS} {gs : Xc → MS} {exm : Nat → Option Bool} {cv : Value} {i : Nat} (hb : ∀ V : WX, JS c (wX c.K c.cl V) (tb V) gb)
    (hs : ∀ (a : Addr) (x : Xc) (cls : Value) (d : Option Addr) (Hi0 : Hp), XcAt c.K c.cl Hi0 x cls d → JS ⟨c.K, c.cl, Hi0, c.H0, a, c.tb⟩ W0 (ts a cls d) (gs x))
    (hm : ∀ n b, exm n = some b → PySem.W.exmOne c.K (.ref (c.cl n)) cv = some b) : JS c W0 (fun Dn σ H => tb (wAs c.K cv i ts (fun _ _ _ _ => False) Dn) Dn σ H) (sTry exm i gb gs) :=
  js_w (js_try hb hs hm) fun _ _ _ _ h => h.elim
end
end Xd
/-! a for whose header gives out a token: the body may replace in texts -/
namespace Xd
open PySem L2 Xg PyProof.Rows CwR
theorem thnK {α : Type} {M : Model} {A : Around} {t : Sem α} {Q Q' : α → Shared → Prop} {E : Value → Shared → Prop} {s : Shared} {n : Nat} (hn : n ≤ s.toks) (h : wpAny M A t Q E s) (k : ∀ a s', n ≤ s'.toks → Q a s' → Q' a s') : wpAny M A t Q' E s :=
  wpAny_mono (wpAny_toks_of hn h) (fun a s' q => k a s' q.1 q.2) fun _ _ z => z.2
/-- evaluating gives out a token -/
def PEK (X : Cx) (e : Expr) (t : TE) : Prop := ∀ pins s σ H Q, Inv X pins σ H s → t σ H Q → wpAny (model X.prog X.w) X.A (eval e X.env) (fun v s' => 1 ≤ s'.toks ∧ EP X pins σ Q v s') X.xe s
def PAK (X : Cx) (es : List Expr) (t : TA) : Prop := ∀ pos pins s σ H Q, Inv X pins σ H s → t σ H Q → wpAny (model X.prog X.w) X.A (spliced (backTo pos (starEach es X.env))) (fun v s' => 1 ≤ s'.toks ∧ AP X pins σ Q v s') X.xe s
def PIK (X : Cx) (tg iter : Expr) (wi : TI) : Prop := ∀ pins s σ H R, Inv X pins σ H s → wi σ H R →
  wpAny (model X.prog X.w) X.A (eval iter X.env) (fun v s' => 1 ≤ s'.toks ∧ wpAny (model X.prog X.w) X.A (pyIter v) (PIE X pins σ tg R) X.xe s') X.xe s
section
variable {X : Cx} {e : Expr} {es : List Expr} {te : TE} {ta : TA} {pos : Pos}
theorem pek_str {c : Str} {j : Nat} : PEK X (.Constant (.str c) j pos) (tC (.str c)) := fun pins s σ H Q I h =>
  Calls.Constant_str ⟨Nat.le_add_left 1 s.toks, .str c, H, I.tok (s.toks + 1), ⟨s.toks, rfl⟩, h⟩
theorem pak_head (h1 : PEK X e te) (h2 : PA X es ta) (hs : starEach (e :: es) X.env = (false, eval e X.env) :: starEach es X.env := by rfl) : PAK X (e :: es) (tCons te ta) := fun at' pins s σ H Q I h => by
  rw [hs]
  exact Calls.spliced_cons (thn (h1 pins s σ H _ I h) fun v s' ⟨k, x, H', I', r, q⟩ => thnK k (h2.run at' pins s' σ H' _ I' q) fun us s2 k2 ⟨xs, H2, I2, r2, q2⟩ => ⟨k2, _, _, I2, .cons r r2, q2⟩)
theorem pek_tup {x1} (h : PAK X es ta) : PEK X (.Tuple es x1 pos) (tTup ta) := fun pins s σ H Q I hq => by
  refine wpAny_Tuple_spliced (thn (h pos pins s σ H _ I hq) fun us s' ⟨k, xs, H', I', r, z, q⟩ => ⟨r.length ▸ z, ?_⟩)
  have fresh := I'.hok.fresh (Nat.le_refl s'.heap.objs.size)
  exact ⟨k, .ref _, upd H' s'.heap.objs.size (.tup xs), I'.laid (t' := s'.toks) (fun _ _ g => Heap.get?_push_of_some _ g) (Nat.le_refl _) (show ObjOk _ _ _ _ _ (.tup xs) from ⟨z, us, r, ⟨_, Heap.get?_push_size _ rfl, rfl, _, rfl⟩⟩), rfl, q _ fresh⟩
theorem pik_tup {tg : Expr} (h : PEK X e te) : PIK X tg e (iTup X.K te) := fun pins s σ H R I hq => by
  refine thn (h pins s σ H _ I hq) fun v s' ⟨k, x, H', I', r, a, ex, ⟨xs, hx⟩, q⟩ => ⟨k, ?_⟩
  cases ex
  cases r
  obtain ⟨vs, _, isT, _⟩ := I'.tuple hx
  have fresh := I'.hok.fresh (Nat.le_refl s'.heap.objs.size)
  refine wpAny_pyIter_tuple (show s'.heap.IsTuple a vs.toArray from isT) ⟨_, [s'.heap.objs.size], _, _, H', rfl, I'.kept (t' := s'.toks) (fun _ _ g => Heap.get?_push_of_some _ g), turn_tuple a _, ⟨_, Heap.get?_push_size _ rfl, rfl, rfl⟩, fun b hb => ?_, q⟩
  rw [List.mem_singleton.mp hb]
  exact I'.fpOk (Nat.le_refl _) fresh
/-- the walk: every turn starts with a token out -/
theorem ps_forK {tg : Expr} {body : List Stmt} {wi : TI} {g : TG} {tb : TS} (own : PassesOwn (model X.prog X.w) X.A X.env X.xe) (calm : X.calm = true) (hi : PIK X tg e wi) (hg : PG X tg g) (hb : PSsT X body tb)
    (fold : ∀ x, foldedSetIterable e X.env x = pure x := by intro _; rfl) : PS X (.For tg e body [] pos) (tFor wi g tb) := ⟨fun pins s σ H D I h => by
  refine wpAny_For (thn (hi pins s σ H _ I h) fun v sa ⟨ka, ha⟩ => thnK ka ha fun itv sb kb w => ?_) fold
  obtain ⟨p, fp, at', J, Hb, rfl, Ib, T, atb, frb, Wk, ⟨m, w0⟩, turn⟩ := w
  let Hold : Nat → Shared → Prop := fun n z => 1 ≤ z.toks ∧ ∃ k ρ L, Inv X pins ρ L z ∧ at' k z.heap ∧ (∀ c ∈ fp, L c = none) ∧ Wk k n ρ L
  have still : ∀ {L : Hp}, (∀ c ∈ fp, L c = none) → ∀ c ∈ fp, FpOk X pins L c := fun free c hc => ⟨free c hc, (frb c hc).2⟩
  refine codeAny_forLoop_any Hold (fun n z hz => ?_) m ⟨kb, 0, σ, Hb, Ib, atb, fun c hc => (frb c hc).1, w0⟩
  obtain ⟨kz, k, ρ, L, Iz, atz, frz, wz⟩ := hz
  rcases turn k n ρ L wz with ⟨stop, q⟩ | ⟨go, Nx, less, step⟩
  · exact wpAny_passesOwn own (thn (T.done X rfl rfl rfl calm k pins z ρ L X.xe Iz (still frz) atz stop) fun r z1 ⟨er, I1⟩ => er ▸ wpAny_execs_nil ⟨ρ, L, I1, q⟩)
  refine wpAny_passesOwn own (thnK kz (T.item X rfl rfl rfl calm k pins z ρ L X.xe Iz (still frz) atz go) fun r z1 k1 ⟨u, er, h1⟩ => ?_)
  subst er
  refine wpAny_passesOwn own (thnK k1 h1 fun _ z2 k2 ⟨x, M2, I2, r2, y2, at2, fr2⟩ => ?_)
  have P2 := I2.pinned (still fr2) (T.obj _ _ at2)
  refine wpAny_passesOwn own (thnK k2 (hg.run _ z2 ρ M2 x u _ P2 r2 (step x M2 y2)) fun _ z3 k3 ⟨ρ3, L3, I3, q3⟩ => ?_)
  refine wpAny_passesOwn own (thnK k3 (hb _ z3 ρ3 L3 _ k3 I3 q3) fun f z4 k4 q4 => ?_)
  have next : ∀ {ρ4 : L2.St} {L4 : Hp}, Inv X (pins ++ pinsAt fp z2.heap) ρ4 L4 z4 → Nx ρ4 L4 → ∃ n', n' < n ∧ Hold n' z4 := fun {ρ4 L4} I4 nx => by
    obtain ⟨n', lt, w4⟩ := less ρ4 L4 nx
    have pin : ∀ {c : Addr} {o : Obj}, c ∈ fp → z2.heap.get? c = some o → z4.heap.get? c = some o ∧ L4 c = none := fun {c o} hc eo => by
      obtain ⟨h1, h2, _⟩ := I4.pin (c, o) (List.mem_append_right _ (List.mem_append_right _ (mem_pinsAt hc eo)))
      exact ⟨h1, h2⟩
    refine ⟨n', lt, k4, k + 1, ρ4, L4, I4.unpinned, T.keep _ _ _ at2 fun c hc o eo => (pin hc eo).1, fun c hc => ?_, w4⟩
    obtain ⟨o, eo, _⟩ := T.obj _ _ at2 c hc
    exact (pin hc eo).2
  cases f with
  | next => exact let ⟨_, _, I4, nx⟩ := q4; next I4 nx
  | cont => exact let ⟨_, _, I4, nx⟩ := q4; next I4 nx
  | brk => exact let ⟨ρ4, L4, I4, d⟩ := q4; ⟨ρ4, L4, I4.unpinned, d⟩
  | ret v => exact let ⟨x4, ρ4, L4, I4, r4, d⟩ := q4; ⟨x4, ρ4, L4, I4.unpinned, r4, d⟩⟩
theorem pik_X {tg : Expr} (h : PEK X e te) : PIK X tg e (tiX X.K te) := fun pins s σ H R I hq => by
  refine thn (h pins s σ H _ I hq) fun v s' ⟨k, x, H', I', r, q⟩ => ⟨k, ?_⟩
  rcases q with ⟨a, ex, ⟨xs, hx⟩, q⟩ | ⟨a, ex, ⟨xs, hx⟩, q⟩ | ⟨z, ex, q⟩
  · cases ex
    cases r
    obtain ⟨vs, _, isL, _⟩ := I'.list hx
    exact wpAny_pyIter_list isL.isList (pi_one (tk := s'.toks) I' _ (turn_list a _) ⟨_, Heap.get?_push_size _ rfl, rfl, rfl⟩ q)
  · cases ex
    cases r
    obtain ⟨vs, _, isT, _⟩ := I'.tuple hx
    exact wpAny_pyIter_tuple (show s'.heap.IsTuple a vs.toArray from isT) (pi_one (tk := s'.toks) I' _ (turn_tuple a _) ⟨_, Heap.get?_push_size _ rfl, rfl, rfl⟩ q)
  · cases ex
    obtain ⟨w, rfl⟩ := r
    cases small : z.cps.all (· < 128)
    · exact wpAny_pyIter_wide small (pi_one (tk := s'.toks) I' _ (turn_str _ z w "str_iterator" (.inr rfl)) ⟨_, Heap.get?_push_size _ rfl, rfl, rfl⟩ q)
    · exact wpAny_pyIter_ascii small (pi_one (tk := s'.toks) I' _ (turn_str _ z w "str_ascii_iterator" (.inl rfl)) ⟨_, Heap.get?_push_size _ rfl, rfl, rfl⟩ q)
theorem pst_set {i : Nat} {x : Str} {at' : Pos} (nd : X.N.Nodup) (hi : X.N[i]? = some x) (hx : Loc X.env.scope x) (he : PET X e te) (hs : swapsWith e (some (.Name x at')) pos.line X.env = pure false := by rfl)
    (hf : X.fn x = true ∨ X.env.scope.names.lookup x = some .local := by first | exact .inl rfl | exact .inr rfl | assumption) : PST X (.Assign [.Name x at'] e pos) (tAsg te (gName i)) := fun pins s σ H D k I h =>
  wpAny_Assign_Name (thn (he pins s σ H _ k I h) fun v s' ⟨y, H', I', r, q⟩ => store_ok I' nd hi hx r (fun s2 I2 => ⟨_, H', I2, q⟩) hf) hs
end

/-! ### written tuples of texts, told by where they stand -/
def KT (K : PySem.W.Frag) (tb : Addr → Option (List Str)) : Prop := ∀ a L, tb a = some L → strsB K a L = true ∧ ∃ o, K.lookup a = some o ∧ o.cls = .type "tuple" ∧ o.dict = none
def kOf (tb : Addr → Option (List Str)) : D → Option (List Str)
  | .opq (.ref a) => tb a
  | _ => none
theorem kOf_dv {K : PySem.W.Frag} {cl : Nat → Addr} {Hi : Hp} {tb : Addr → Option (List Str)} {v : V} {d : D} {L : List Str} (h : Dv K cl Hi v d) (e : kOf tb d = some L) : ∃ a, v = .ref a ∧ tb a = some L := by
  unfold kOf at e
  split at e
  · cases h
    exact ⟨_, rfl, e⟩
  · cases e
abbrev rIdxT (K : PySem.W.Frag) : V → List V → Hp → VK → Prop := fun x xs H Q => ∃ p, ∃ ys : List Str, ∃ z j, x = .ref p ∧ xs = [.str z] ∧ SqT K H p (ys.map V.str) ∧ ys[j]? = some z ∧ (∀ m, m < j → ys[m]? ≠ some z) ∧ Q (.int (j : Nat)) H
/-- the place of a name in a list of names -/
def oIdx (L : List Str) : D → Option D
  | .str z => (L.findIdx? fun y => y == z).map fun j => .int (j : Nat)
  | _ => none
def oInK (tb : Addr → Option (List Str)) (a b : D) : Option D := match a with
  | .str z => (kOf tb b).map fun L => .bl (decide (z ∈ L))
  | _ => none
def eIdxO (tb : Addr → Option (List Str)) (f g : Rho → R D) : Rho → R D := fun ρ => (f ρ).bind fun a => (ro (kOf tb a)).bind fun L => (g ρ).bind fun b => ro (oIdx L b)
def cLenK (tb : Addr → Option (List Str)) (as : List D) : Option D := match as with
  | [d] => (kOf tb d).map fun L => .int (L.length : Nat)
  | _ => none
def oRepl (y z : Str) : D → Option D
  | .str x => if x.length + (x.length + 1) * z.length ≤ 16777216 then some (.str (Txt.replace x y z)) else none
  | _ => none
section
variable {c : Cc} {W : Xd.WE} {tb : Addr → Option (List Str)} {te ta : TE} {f g : Rho → R D}
theorem inV_strs (z : Str) (zs : List Str) : inV (.str z) (zs.map V.str) = decide (z ∈ zs) := by
  rw [Bool.eq_iff_iff, decide_eq_true_eq]
  refine List.any_eq_true.trans ⟨fun ⟨v, hv, e⟩ => ?_, fun h => ⟨.str z, List.mem_map.mpr ⟨z, h, rfl⟩, by simp [eqV]⟩⟩
  obtain ⟨y, hy, rfl⟩ := List.mem_map.mp hv
  have k : y = z := by simpa [eqV] using e
  rw [← k]
  exact hy
theorem flat_texts (zs : List Str) : (zs.map V.str).all flatV = true := List.all_eq_true.mpr fun v hv => by
  obtain ⟨y, _, rfl⟩ := List.mem_map.mp hv
  rfl
theorem jo_inK (ht : KT c.K tb) : JO c (rInX c.K) (oInK tb) := fun Hi H ok x y a b d Q hx hy e q => by
  unfold oInK at e
  split at e
  · obtain ⟨L, e1, rfl⟩ := Option.map_eq_some_iff.mp e
    obtain ⟨p, rfl, e2⟩ := kOf_dv hy e1
    cases hx
    refine .inl ⟨p, _, rfl, .inr (strsB_sq (ht p L e2).1 _), rfl, flat_texts L, ?_⟩
    show Q (.bl (inV _ _)) H
    rw [inV_strs]
    exact q _ _ _ (Step.refl ok) (.bl _)
  · cases e
theorem je_idxO (ht : KT c.K tb) (h1 : JE c W ta f) (h2 : JE c W te g) : JE c W (tBM c.K "tuple" (rIdxT c.K) ta (tCons te tNil)) (eIdxO tb f g) := fun σ ρ Hi H ok sv Q h => by
  refine h1 σ ρ Hi H ok sv _ (h.bind.imp (fun a h v Hi1 H1 s1 d1 => ?_) fun x k => k)
  refine ro_meet h.bind fun L eL h => ?_
  obtain ⟨p, rfl, e2⟩ := kOf_dv d1 eL
  obtain ⟨hs, hk⟩ := ht p L e2
  refine ⟨.inr (.inl ⟨rfl, hk⟩), h2 σ ρ Hi1 H1 s1.ok (sv.step s1) _ (meet_step s1 (Meet.bind h) fun b h v2 Hi2 H2 s2 d2 => ?_)⟩
  refine ro_meet h fun d e q => ?_
  unfold oIdx at e
  split at e
  · rename_i z
    obtain ⟨j, hj, rfl⟩ := Option.map_eq_some_iff.mp e
    cases d2
    obtain ⟨lt, e1, e2⟩ := List.findIdx?_eq_some_iff_getElem.mp hj
    refine ⟨p, L, z, j, rfl, rfl, strsB_sq hs _, ?_, fun m hm k => ?_, q _ _ _ (s1.trans s2) (.int _)⟩
    · rw [List.getElem?_eq_getElem lt, eq_of_beq e1]
    · obtain ⟨hl, ek⟩ := List.getElem?_eq_some_iff.mp k
      have := e2 m hm
      rw [ek] at this
      simp at this
  · cases e
theorem jc_lenK (ht : KT c.K tb) : JC c (rLenX c.K) (cLenK tb) := fun Hi H ok xs as d Q hx e q => by
  unfold cLenK at e
  split at e
  · obtain ⟨L, e1, rfl⟩ := Option.map_eq_some_iff.mp e
    obtain ⟨v, rfl, dv⟩ := dva1 hx
    obtain ⟨p, rfl, e2⟩ := kOf_dv dv e1
    refine .inl ⟨p, _, rfl, .inr (strsB_sq (ht p L e2).1 _), ?_⟩
    rw [List.length_map]
    exact q _ _ _ (Step.refl ok) (.int _)
  · cases e
theorem je_repl {y z : Str} (h1 : JE c W ta f) : JE c W (tReplC ta y z) (e1 (oRepl y z) f) := fun σ ρ Hi H ok sv Q h => by
  refine h1 σ ρ Hi H ok sv _ (h.bind.imp (fun a h v Hi1 H1 s1 d1 => ?_) fun x k => k)
  refine ro_meet h fun d e q => ?_
  unfold oRepl at e
  split at e
  · obtain ⟨hl, rfl⟩ := if_some e
    cases d1
    exact ⟨_, rfl, hl, q _ _ _ s1 (.str _)⟩
  · cases e
end
end Xd
/-! how mirrors are run: small steps, in term style -/
namespace Xd
open PySem L2 Xg CwR
def strsOf : List D → Option (List Str)
  | [] => some []
  | d :: r => match d with
    | .str s => (strsOf r).map fun l => s :: l
    | _ => none
theorem strsOf_map : ∀ zs : List Str, strsOf (zs.map D.str) = some zs
  | [] => rfl
  | z :: zs => by show (strsOf (zs.map D.str)).map _ = _; rw [strsOf_map zs]; rfl
theorem strsOf_some : ∀ {xs : List D} {zs : List Str}, strsOf xs = some zs → xs = zs.map D.str
  | [], zs, h => by cases h; rfl
  | d :: r, zs, h => by
    unfold strsOf at h
    split at h
    · obtain ⟨l, e, rfl⟩ := Option.map_eq_some_iff.mp h
      rw [strsOf_some e]
      rfl
    · cases h
theorem lcR_map {g : MG} {t : Rho → R Bool} {e : Rho → R D} {ρ : Rho} (p : D → Bool) (v : D → D) : ∀ (ds : List D), (∀ d ∈ ds, ∃ ρ1, g d ρ = some ρ1 ∧ t ρ1 = .ok (p d) ∧ (p d = true → e ρ1 = .ok (v d))) → lcR g t e ρ ds = .ok ((ds.filter p).map v)
  | [], _ => rfl
  | d :: ds, h => by
    obtain ⟨ρ1, h1, h2, h3⟩ := h d List.mem_cons_self
    have ih := lcR_map p v ds fun d hd => h d (List.mem_cons_of_mem _ hd)
    unfold lcR
    rw [h1]
    simp only [h2, R.bind_ok]
    by_cases c : p d = true
    · rw [if_pos c, h3 c, ih, List.filter_cons, if_pos c]
      rfl
    · rw [if_neg c, ih, List.filter_cons, if_neg c]
theorem forR_ind {g : MG} {b : MS} (I : List D → Rho → Prop) (step : ∀ d ds ρ, I (d :: ds) ρ → ∃ ρ1 ρ2, g d ρ = some ρ1 ∧ b ρ1 = some (.nx ρ2) ∧ I ds ρ2) : ∀ (ds : List D) (ρ : Rho), I ds ρ → ∃ ρ', forR g b ds ρ = some (.nx ρ') ∧ I [] ρ'
  | [], ρ, h => ⟨ρ, rfl, h⟩
  | d :: ds, ρ, h => by
    obtain ⟨ρ1, ρ2, h1, h2, h3⟩ := step d ds ρ h
    obtain ⟨ρ', h4, h5⟩ := forR_ind I step ds ρ2 h3
    refine ⟨ρ', ?_, h5⟩
    unfold forR
    rw [h1]
    simp only [h2]
    exact h4
theorem oEq_int (i j : Int) : oEq (.int i) (.int j) = some (.bl (decide (i = j))) := by
  unfold oEq eqB
  simp [sv, scal]
theorem oNe_int (i j : Int) : oNe (.int i) (.int j) = some (.bl (!decide (i = j))) := by
  unfold oNe eqB
  simp [sv, scal]
theorem oNe_str (i j : Str) : oNe (.str i) (.str j) = some (.bl (!decide (i = j))) := by
  unfold oNe eqB
  simp [sv, scal]
theorem svs_strs : ∀ zs : List Str, svs (zs.map D.str) = some (zs.map V.str)
  | [] => rfl
  | z :: zs => by
    show (match sv (.str z), svs (zs.map D.str) with | some x, some xs => some (x :: xs) | _, _ => none) = _
    rw [svs_strs zs]
    rfl
theorem oIn_strs (z : Str) (zs : List Str) : oIn (.str z) (.lst (zs.map D.str)) = some (.bl (decide (z ∈ zs))) := by
  show ((svs (zs.map D.str)).map fun vs => inV (.str z) vs).map _ = _
  rw [svs_strs]
  show some (D.bl (inV _ _)) = _
  rw [inV_strs]
theorem oNotIn_strs (z : Str) (zs : List Str) : oNotIn (.str z) (.lst (zs.map D.str)) = some (.bl (!decide (z ∈ zs))) := by
  show ((svs (zs.map D.str)).map fun vs => inV (.str z) vs).map _ = _
  rw [svs_strs]
  show some (D.bl (!inV _ _)) = _
  rw [inV_strs]
theorem oMul_2 (p : Int) : oMul (.int 2) (.int p) = some (.int (2 * p)) := by
  show (if (-(2 ^ 64) < (2 : Int) ∧ (2 : Int) < 2 ^ 64) ∨ (-(2 ^ 64) < p ∧ p < 2 ^ 64) then some (D.int (2 * p)) else none) = _
  rw [if_pos (.inl (by decide))]
theorem oMul_16 (p : Int) : oMul (.int 16) (.int p) = some (.int (16 * p)) := by
  show (if (-(2 ^ 64) < (16 : Int) ∧ (16 : Int) < 2 ^ 64) ∨ (-(2 ^ 64) < p ∧ p < 2 ^ 64) then some (D.int (16 * p)) else none) = _
  rw [if_pos (.inl (by decide))]
theorem oAdd_int (i j : Int) : oAdd (.int i) (.int j) = some (.int (i + j)) := rfl
theorem oSub_int (i j : Int) : oSub (.int i) (.int j) = some (.int (i - j)) := rfl
theorem oMod_int {i j : Int} (h : 0 < j) : oMod (.int i) (.int j) = some (.int (i % j)) := by
  show (if decide (0 < j) = true then some (D.int (i % j)) else none) = _
  rw [if_pos (decide_eq_true h)]
theorem oFdiv_int {i j : Int} (h : 0 < j ∧ j < 1073741824) : oFdiv (.int i) (.int j) = some (.int (i / j)) := by
  show (if decide (0 < j ∧ j < 1073741824) = true then some (D.int (i / j)) else none) = _
  rw [if_pos (decide_eq_true h)]
theorem oMod_2 (i : Int) : oMod (.int i) (.int 2) = some (.int (i % 2)) := oMod_int (by decide)
theorem oMod_3 (i : Int) : oMod (.int i) (.int 3) = some (.int (i % 3)) := oMod_int (by decide)
theorem oFdiv_2 (i : Int) : oFdiv (.int i) (.int 2) = some (.int (i / 2)) := oFdiv_int (by decide)
theorem cInt_int (i : Int) : cInt [.int i] = some (.int i) := rfl
theorem asB_bl (b : Bool) : asB (.bl b) = .ok b := rfl
theorem noX_ok {α : Type} (a : α) : noX (R.ok a) = .ok a := rfl
theorem seq_nx {a b : MS} {ρ ρ' : Rho} (h : a ρ = some (.nx ρ')) : sSeq a b ρ = b ρ' := by
  unfold sSeq
  rw [h]
theorem set_ok {i : Nat} {f : Rho → R D} {ρ : Rho} {d : D} (h : f ρ = .ok d) : sSet i f ρ = some (.nx (ρ.set i (.val d))) := by
  unfold sSet
  rw [h]
  rfl
theorem setL_ok {i : Nat} {f : Rho → R (List D)} {ρ : Rho} {d : List D} (h : f ρ = .ok d) : sSetL i f ρ = some (.nx (ρ.set i (.own d))) := by
  unfold sSetL
  rw [h]
  rfl
theorem ret_ok {f : Rho → R D} {ρ : Rho} {d : D} (h : f ρ = .ok d) : sRet f ρ = some (.rt d) := by
  unfold sRet
  rw [h]
  rfl
theorem if_yes {t : Rho → R Bool} {a b : MS} {ρ : Rho} (h : t ρ = .ok true) : sIf t a b ρ = a ρ := by
  unfold sIf
  rw [h]
  rfl
theorem if_no {t : Rho → R Bool} {a b : MS} {ρ : Rho} (h : t ρ = .ok false) : sIf t a b ρ = b ρ := by
  unfold sIf
  rw [h]
  rfl
theorem for_ok {f : Rho → R (List D)} {g : MG} {b : MS} {ρ : Rho} {ds : List D} (h : f ρ = .ok ds) : sFor f g b ρ = forR g b ds ρ := by
  unfold sFor
  rw [h]
  rfl
theorem app_ok {i : Nat} {f : Rho → R D} {ρ : Rho} {d : D} {xs : List D} (h : ρ[i]? = some (.own xs)) (h2 : f ρ = .ok d) (h3 : xs.length < 100000) : sApp i f ρ = some (.nx (ρ.set i (.own (xs ++ [d])))) := by
  unfold sApp
  rw [h]
  show lift (f ρ) ρ _ = _
  rw [h2, lift_ok, if_pos h3]
theorem runD_rt {n k : Nat} {g : MS} {ds : List D} {d : D} (h : ds.length = k) (h2 : g (rho0 n ds) = some (.rt d)) : runD n k g ds = .ok d := by
  unfold runD
  rw [if_pos h, h2]
  rfl
theorem runL_rf {n k : Nat} {g : MS} {ds : List D} {d : List D} (h : ds.length = k) (h2 : g (rho0 n ds) = some (.rf d)) : runL n k g ds = .ok d := by
  unfold runL
  rw [if_pos h, h2]
  rfl
theorem lc_ok {f : Rho → R (List D)} {g : MG} {t : Rho → R Bool} {e : Rho → R D} {vs : List Nat} {ρ : Rho} {ds : List D} (p : D → Bool) (v : D → D) (h : f ρ = .ok ds) (hl : ds.length ≤ 100000)
    (k : ∀ d ∈ ds, ∃ ρ1, g d (wipeR ρ vs) = some ρ1 ∧ t ρ1 = .ok (p d) ∧ (p d = true → e ρ1 = .ok (v d))) : lLc f g t e vs ρ = .ok ((ds.filter p).map v) := by
  unfold lLc
  rw [h, R.bind_ok, if_pos hl, lcR_map p v ds k]
  rfl
theorem fz_ok {f : Rho → R (List D)} {ρ : Rho} {xs : List D} (h : f ρ = .ok xs) : eFz f ρ = .ok (.lst xs) := by
  unfold eFz
  rw [h]
  rfl
theorem a1_ok {f : Rho → R D} {ρ : Rho} {d : D} (h : f ρ = .ok d) : aCons f aNil ρ = .ok [d] := by
  unfold aCons
  rw [h]
  rfl
theorem a2_ok {f g : Rho → R D} {ρ : Rho} {d e : D} (h : f ρ = .ok d) (h2 : g ρ = .ok e) : aCons f (aCons g aNil) ρ = .ok [d, e] := by
  unfold aCons
  rw [h, h2]
  rfl
theorem call_ok {m : List D → R D} {fs : Rho → R (List D)} {ρ : Rho} {ds : List D} (h : fs ρ = .ok ds) : eCall m fs ρ = m ds := by
  unfold eCall
  rw [h]
  rfl
theorem callL_ok {m : List D → R (List D)} {fs : Rho → R (List D)} {ρ : Rho} {ds : List D} (h : fs ρ = .ok ds) : lCall m fs ρ = m ds := by
  unfold lCall
  rw [h]
  rfl
theorem cb_ok {o : List D → Option D} {fs : Rho → R (List D)} {ρ : Rho} {ds : List D} (h : fs ρ = .ok ds) : eCB o fs ρ = ro (o ds) := by
  unfold eCB
  rw [h]
  rfl
theorem intList_map (w : Str → Int) : ∀ zs : List Str, intList (zs.map fun z => D.int (w z)) = some (zs.map w)
  | [] => rfl
  | z :: zs => by
    show (match intList (zs.map fun z => D.int (w z)) with | some is => some (w z :: is) | none => none) = _
    rw [intList_map w zs]
    rfl
theorem sum_cast (w : Str → Nat) : ∀ zs : List Str, (zs.map fun z => ((w z : Nat) : Int)).sum = ((zs.map w).sum : Nat)
  | [] => rfl
  | z :: zs => by
    rw [List.map_cons, List.sum_cons, sum_cast w zs, List.map_cons, List.sum_cons]
    omega
theorem and_one (m : Nat) : Builtin.bitAnd (m : Int) 1 = ((m % 2 : Nat) : Int) := by
  unfold Builtin.bitAnd
  rw [decide_eq_true (show (0 : Int) ≤ (m : Int) by omega), decide_eq_true (show (0 : Int) ≤ 1 by decide)]
  show (((m : Int).toNat &&& (1 : Int).toNat : Nat) : Int) = _
  rw [Int.toNat_natCast]
  show ((m &&& 1 : Nat) : Int) = _
  rw [Nat.and_one_is_mod]
theorem oShr_nat (n i : Nat) : oShr (.int n) (.int i) = some (.int ((n / 2 ^ i : Nat) : Int)) := by
  show (if decide ((0 : Int) ≤ i) = true then some (D.int ((n : Int) / 2 ^ (i : Int).toNat)) else none) = _
  rw [if_pos (decide_eq_true (by omega)), Int.toNat_natCast, Int.natCast_ediv]
  simp
theorem oBand_1 (m : Nat) : oBand (.int m) (.int 1) = some (.int ((m % 2 : Nat) : Int)) := by
  show (if true = true then some (D.int (Builtin.bitAnd m 1)) else none) = _
  rw [if_pos rfl, and_one]
theorem isi_eq {a : D} {t n : String} (h : tyD a = some t) (hn : n ∈ tyL := by decide) : cIsi [a, .opq (.ty n)] = some (.bl (isub t n)) := by
  show (match tyD a with | some t => if n ∈ tyL then some (D.bl (isub t n)) else none | none => none) = _
  rw [h]
  exact if_pos hn
theorem isi_ok {a : D} {t n : String} {i : Nat} {ρ : Rho} {b : Bool} (h : eVar i ρ = .ok a) (ht : tyD a = some t) (hb : isub t n = b) (hn : n ∈ tyL := by decide) : eCB cIsi (aCons (eVar i) (aCons (eC (.opq (.ty n))) aNil)) ρ = .ok (.bl b) := by
  refine (cb_ok (a2_ok h rfl)).trans ?_
  rw [isi_eq ht hn, hb]
  rfl
theorem test_ok {f : Rho → R D} {ρ : Rho} {b : Bool} (h : f ρ = .ok (.bl b)) : bTest f ρ = .ok b := by
  unfold bTest
  rw [h]
  rfl
theorem not_ok {f : Rho → R Bool} {ρ : Rho} {b : Bool} (h : f ρ = .ok b) : bNot f ρ = .ok (!b) := by
  unfold bNot
  rw [h]
  rfl
theorem or_no {f g : Rho → R Bool} {ρ : Rho} {b : Bool} (h : f ρ = .ok false) (h2 : g ρ = .ok b) : bOr f g ρ = .ok b := by
  unfold bOr
  rw [h]
  exact h2
theorem op_ok {o : D → D → Option D} {f g : Rho → R D} {ρ : Rho} {a b d : D} (h : f ρ = .ok a) (h2 : g ρ = .ok b) (h3 : o a b = some d) : e2 o f g ρ = .ok d := by
  unfold e2
  rw [h, h2]
  show ro (o a b) = _
  rw [h3]
  rfl
theorem oNe_bl (i j : Bool) : oNe (D.bl i) (D.bl j) = some (.bl (!decide (i = j))) := by
  unfold oNe eqB
  simp [sv, scal]
theorem noX_of {α : Type} {r : R α} {a : α} (h : r = .ok a) : noX r = .ok a := by rw [h]; rfl
theorem ty_int (i : Int) : tyD (.int i) = some "int" := rfl
theorem ty_str (i : Str) : tyD (.str i) = some "str" := rfl
theorem ty_tup (xs : List D) : tyD (.tup xs) = some "tuple" := rfl
theorem r1_ok {fs : Rho → R (List D)} {ρ : Rho} {n : Nat} (h : fs ρ = .ok [.int (n : Nat)]) (hn : n ≤ 100000) : iR1 fs ρ = .ok (rIntD 0 n) := by
  unfold iR1
  rw [h, R.bind_ok]
  have hc : (-(2 ^ 62) : Int) ≤ (n : Nat) ∧ ((n : Nat) : Int) < 2 ^ 62 := by omega
  simp only [hc, and_self, if_true, Int.toNat_natCast]
theorem at_ok {α : Type} {xs : List α} {k : Nat} (h : k < xs.length) : atI xs ((k : Nat) : Int) = some xs[k] := by
  unfold atI ixN
  rw [if_pos (by omega), if_pos (by omega)]
  simp [h]
theorem and_ok {f g : Rho → R D} {ρ : Rho} {d : D} (h : f ρ = .ok (.bl true)) (h2 : g ρ = .ok d) : eAnd f g ρ = .ok d := by
  unfold eAnd
  rw [h]
  exact h2
theorem forR_each {j : Nat} {b : MS} {ρ : Rho} : ∀ (ds : List D), (∀ d ∈ ds, b (ρ.set j (.val d)) = some (.nx (ρ.set j (.val d)))) → ∀ y, ∃ y', forR (gN j) b ds (ρ.set j y) = some (.nx (ρ.set j y'))
  | [], _, y => ⟨y, rfl⟩
  | d :: ds, h, y => by
    obtain ⟨y', e⟩ := forR_each ds (fun d hd => h d (List.mem_cons_of_mem _ hd)) (.val d)
    refine ⟨y', ?_⟩
    unfold forR
    show (match b ((ρ.set j y).set j (.val d)) with
      | some (.nx ρ') => forR (gN j) b ds ρ'
      | some (.ct ρ') => forR (gN j) b ds ρ'
      | some (.bk ρ') => some (.nx ρ')
      | o => o) = _
    rw [List.set_set, h d List.mem_cons_self]
    exact e
theorem rint_mem {n : Nat} {d : D} (h : d ∈ rIntD 0 n) : ∃ k : Nat, k < n ∧ d = .int (k : Nat) := by
  unfold rIntD at h
  obtain ⟨k, hk, rfl⟩ := List.mem_map.mp h
  exact ⟨k, List.mem_range.mp hk, by rw [Int.zero_add]⟩
theorem rint_len (n : Nat) : (rIntD 0 n).length = n := by
  unfold rIntD
  rw [List.length_map, List.length_range]
theorem ask_ok {m : List D → R D} {j : Nat} {d : D} {ρ : Rho} (hj : eVar j ρ = .ok d) (h : m [d] = .ok (.bl true)) : (sIf (bNot (bTest (eCall (fun ds => noX (m ds)) (aCons (eVar j) aNil)))) (sRet (eC (.bl false))) sNext) ρ = some (.nx ρ) :=
  (if_no (not_ok (b := true) (test_ok ((call_ok (a1_ok hj)).trans (noX_of h))))).trans rfl
theorem lst_ok {fs : Rho → R (List D)} {ρ : Rho} {xs : List D} (h : fs ρ = .ok xs) (hl : xs.length ≤ 100000) : lLst fs ρ = .ok xs := by
  unfold lLst
  rw [h]
  exact if_pos hl
theorem tup_ok {fs : Rho → R (List D)} {ρ : Rho} {xs : List D} (h : fs ρ = .ok xs) (hl : xs.length ≤ 100000) : eTup fs ρ = .ok (.tup xs) := by
  unfold eTup
  rw [h]
  exact if_pos hl
theorem cons_ok {f : Rho → R D} {fs : Rho → R (List D)} {ρ : Rho} {d : D} {ds : List D} (h : f ρ = .ok d) (h2 : fs ρ = .ok ds) : aCons f fs ρ = .ok (d :: ds) := by
  unfold aCons
  rw [h, h2]
  rfl
theorem seq_val {f : Rho → R D} {ρ : Rho} {xs : List D} (h : f ρ = .ok (.lst xs)) : Xd.iSeq f ρ = .ok xs := by
  unfold Xd.iSeq
  rw [h]
  rfl
theorem frz_ok {i : Nat} {g : MS} {ρ : Rho} {xs : List D} (h : ρ[i]? = some (.own xs)) : sFrz i g ρ = g (ρ.set i (.val (.lst xs))) := by
  unfold sFrz
  rw [h]
def okB : R D → Bool
  | .ok (.bl b) => b
  | _ => false
theorem okB_eq {r : R D} (h : okB r = true) : r = .ok (.bl true) := by
  unfold okB at h
  split at h
  · rw [h]
  · cases h
end Xd
/-! partition, xs[::-1], list.index -/
namespace Xd
open PySem L2 Xg
def mPart (a : D) (as : List D) : Option D := match a, as with
  | .str a, [.str b] => if (b.length == 0) = false ∧ a.length ≤ 100000 then some (.tup [.str (Txt.partition a b).1, .str (Txt.partition a b).2.1, .str (Txt.partition a b).2.2]) else none
  | _, _ => none
section
variable {c : Cc} {W : Xd.WE} {ta tb : TE} {f g : Rho → R D}
theorem jm_part : JM c (fun x xs H Q => ∃ a b, x = .str a ∧ xs = [.str b] ∧ (b.length == 0) = false ∧ a.length ≤ sizeLine ∧
    ∀ p, H p = none → Q (.ref p) (upd H p (.tup [.str (Txt.partition a b).1, .str (Txt.partition a b).2.1, .str (Txt.partition a b).2.2]))) mPart := fun Hi H ok x xs a as d Q hx hs e q => by
  unfold mPart at e
  split at e
  · obtain ⟨⟨h1, h2⟩, rfl⟩ := if_some e
    cases hx
    obtain ⟨v, rfl, h⟩ := dva1 hs
    cases h
    exact ⟨_, _, rfl, rfl, h1, lim_le h2, fun p np => q.tup ok (.cons (.str _) (.cons (.str _) (.cons (.str _) .nil))) p np⟩
  · cases e
theorem DvA.rev {K : PySem.W.Frag} {cl : Nat → Addr} {Hi : Hp} : ∀ {ds : List D} {vs : List V}, DvA K cl Hi vs ds → DvA K cl Hi vs.reverse ds.reverse
  | [], _, h => by cases h; exact .nil
  | d :: ds, _, h => by
    cases h with
    | cons h1 h2 =>
      rw [List.reverse_cons, List.reverse_cons]
      exact (DvA.rev h2).append (.cons h1 .nil)
def lRev (f : Rho → R D) : Rho → R (List D) := fun ρ => (f ρ).bind fun d => match d with
  | .lst xs => .ok xs.reverse
  | _ => .bad
theorem jl_rev (ha : JE c W ta f) : JL c W (tRevL c.K ta) (lRev f) := fun σ ρ Hi H ok sv Q h => by
  refine ha σ ρ Hi H ok sv _ ((Meet.bind h).imp (fun a h v Hi1 H1 s1 d1 => ?_) fun x k => k)
  split at h
  · rename_i xs
    cases d1 with
    | lst h1 h2 =>
      exact ⟨_, _, rfl, SqL.of (s1.ok.le _ _ h1), fun p np => RetL.lst (RetL.to (fun p v Hi2 H2 s2 n n2 e e2 => h p v Hi2 H2 s2 n n2 e e2) s1) s1.ok h2.rev p np⟩
  · exact h.elim
/-- the place of the first that is equal -/
def idxV (y : V) : List V → Option Nat
  | [] => none
  | z :: zs => if eqV z y = true then some 0 else (idxV y zs).map (· + 1)
theorem idxV_some {y : V} : ∀ {ys : List V} {j : Nat}, idxV y ys = some j → (∃ z, ys[j]? = some z ∧ eqV z y = true) ∧ ∀ (m : Nat) (z : V), m < j → ys[m]? = some z → eqV z y = false
  | [], j, h => by cases h
  | z :: zs, j, h => by
    unfold idxV at h
    split at h
    · rename_i hz
      cases h
      exact ⟨⟨z, rfl, hz⟩, fun m _ hm => absurd hm (Nat.not_lt_zero m)⟩
    · rename_i hz
      obtain ⟨k, hk, rfl⟩ := Option.map_eq_some_iff.mp h
      obtain ⟨⟨w, h1, h2⟩, h3⟩ := idxV_some hk
      refine ⟨⟨w, by simpa using h1, h2⟩, fun m u hm e => ?_⟩
      cases m with
      | zero =>
        simp at e
        subst e
        simpa using hz
      | succ m => exact h3 m u (by omega) (by simpa using e)
def mIdx (a : D) (as : List D) : Option D := match a, as with
  | .lst xs, [y] => match svs xs, sv y with
    | some vs, some u => (idxV u vs).map fun j => .int (j : Nat)
    | _, _ => none
  | _, _ => none
def eIdxL (f g : Rho → R D) : Rho → R D := fun ρ => (f ρ).bind fun a => match a with
  | .lst xs => (g ρ).bind fun b => ro (mIdx (.lst xs) [b])
  | _ => .bad
theorem je_idxL (ha : JE c W ta f) (hb : JE c W tb g) : JE c W (tBM c.K "list" (rIndex c.K) ta (tCons tb tNil)) (eIdxL f g) := fun σ ρ Hi H ok sv Q h => by
  refine ha σ ρ Hi H ok sv _ ((Meet.bind h).imp (fun a h v Hi1 H1 s1 d1 => ?_) fun x k => k)
  split at h
  · rename_i xs
    cases d1 with
    | lst h1 h2 =>
      rename_i p vs
      refine ⟨.inl ⟨rfl, _, SqL.of (s1.ok.le _ _ h1)⟩, hb σ ρ Hi1 H1 s1.ok (sv.step s1) _ (meet_step s1 (Meet.bind h) fun b h v2 Hi2 H2 s2 d2 => ?_)⟩
      refine ro_meet h fun d e q => ?_
      have e : (match svs xs, Xd.sv b with | some vs, some u => (idxV u vs).map fun j => D.int (j : Nat) | _, _ => none) = some d := e
      split at e
      · rename_i us u ex eu
        obtain ⟨j, ej, rfl⟩ := Option.map_eq_some_iff.mp e
        have e1 := h2.small ex
        subst e1
        have e2 := d2.small eu
        subst e2
        obtain ⟨⟨z, k1, k2⟩, k3⟩ := idxV_some ej
        exact ⟨p, _, _, j, z, rfl, rfl, SqL.of (s2.ok.le _ _ (s2.hi _ _ h1)), sv_flat eu, svs_flat ex, k1, k2, k3, q _ _ _ (s1.trans s2) (.int _)⟩
      · cases e
  · exact h.elim
/-- own.extend(xs) -/
def sExt (i : Nat) (f : Rho → R D) : MS := fun ρ => match ρ[i]? with
  | some (.own xs) => lift (f ρ) ρ fun d => match d with
    | .lst ys => if xs.length + ys.length ≤ 100000 then some (.nx (ρ.set i (.own (xs ++ ys)))) else none
    | _ => none
  | _ => none
theorem js_ext (i : Nat) (ha : JE c W ta f) : JS c W (tDrop (tBM c.K "list" rExtend (tVar i) (tCons ta tNil))) (sExt i f) := fun σ ρ Hi H ok sv Dn h => by
  unfold sExt at h
  split at h
  · rename_i xs hr
    obtain ⟨p, vs, e1, e2, e3, e4, e5⟩ := sv.own hr
    refine ⟨_, e1, .inl ⟨rfl, _, SqL.of e2⟩, ?_⟩
    refine ha σ ρ Hi H ok sv _ ((AftO.lift h sv).imp (fun a h v Hi1 H1 s1 d1 => ?_) fun x k => k)
    cases a with
    | lst ys =>
      have h : AftO c W Hi Dn (if xs.length + ys.length ≤ 100000 then some (.nx (ρ.set i (.own (xs ++ ys)))) else none) := h
      by_cases hl : xs.length + ys.length ≤ 100000
      · rw [if_pos hl] at h
        cases d1 with
        | lst k1 k2 =>
          refine ⟨p, _, vs, _, rfl, rfl, s1.lst e2, s1.ok.le _ _ k1, lim_le (by rw [e5.length, k2.length]; exact hl), ?_⟩
          exact h σ Hi1 _ s1.hi (s1.ok.change (s1.lst e2) (s1.fr _ _ e2 e3) e4) ((sv.step s1).change hr e1 ((e5.up s1.hi).append k2))
      · rw [if_neg hl] at h
        exact h.elim
    | _ => exact h.elim
  · exact h.elim
end
end Xd
/-! XgTry: several handlers with a name each (except A as n: .. except B as n: ..). -/
namespace Xg
open PySem PySem.Spec PyProof.Rows L2
/-- what a row of named handlers wishes, one behind the other -/
def wTries (K : PySem.W.Frag) (Wo : WX) (D : Ends) : List (Value × Nat × (Addr → Value → Option Addr → TS)) → WX
  | [] => Wo
  | q :: r => wAs K q.1 q.2.1 q.2.2 (wTries K Wo D r) D
/-- a row of named handlers and what is known of each -/
inductive Hn (X : Cx) : List ExceptHandler → List (Value × Nat × (Addr → Value → Option Addr → TS)) → Prop
  | nil : Hn X [] []
  | cons {x n : Str} {cv : Value} {i : Nat} {ts : Addr → Value → Option Addr → TS} {st : Stmt} {more : List Stmt} {np hp : Pos} {hds : List ExceptHandler} {l : List (Value × Nat × (Addr → Value → Option Addr → TS))}
      (slot : X.N[i]? = some n) (kind : X.env.kindOf n = some .local) (nm : Names X x cv)
      (su : ∀ (p : Addr) (ob : Obj) (k : Value) (d : Option Addr) (pn : List (Addr × Obj)), Zc k d ob → (∃ fs, ob.data = .fields fs) → PSs (X.suite p ((p, ob) :: pn)) (st :: more) (ts p k d))
      (rest : Hn X hds l) : Hn X (.ExceptHandler (some (.Name x np)) (some n) (st :: more) hp :: hds) ((cv, i, ts) :: l)
section
variable {X : Cx} {bd : List Stmt} {h0 : ExceptHandler} {hds : List ExceptHandler} {l : List (Value × Nat × (Addr → Value → Option Addr → TS))} {pos : Pos} {tb : WX → TS} {Wo : WX}
theorem ps_tries (stk : X.stack = X.env :: X.outer) (frm : X.env.frame = some X.env.locals) (nod : X.N.Nodup) (tk : Takes X Wo)
    (hb : ∀ (V : WX) (ps : List (Addr × Obj)) (E : Value → Shared → Prop), Takes (X.tr ps E) V → PassesOwn (model X.prog X.w) X.A X.env E → PSs (X.tr ps E) bd (tb V))
    (hn : Hn X (h0 :: hds) l) : PS X (.Try bd (h0 :: hds) [] [] pos) (fun D σ H => tb (wTries X.K Wo D l) D σ H) := by
  constructor
  intro pins s σ H D I wish
  have ok := I.ok
  have fr0 : X.A.frames = some (X.env :: X.outer) := ok.frames.trans (congrArg some stk)
  apply wpAny_Try_except
  have main := (hb (wTries X.K Wo D l) (X.pn ++ pins) (fun e t1 => wpAny (model X.prog X.w) X.A (noteFrame e X.env) (fun _ t2 => wpAny (model X.prog X.w) X.A (setFlight e none)
    (fun _ t3 => wpAny (model X.prog X.w) X.A (handleBy e X.env (h0 :: hds)) (SP X pins D) X.xe t3) X.xe t2) X.xe t1) ?caught PassesOwn.looking).run [] s σ H D (I.toTry _) wish
  case caught =>
    rintro u t ⟨a, Bd, tI, pins2, τ, G, k, d, rfl, Jt, nbd, upt, skyt, nowhere, ofs, agr, wsh⟩
    have J0 : Inv X pins τ G tI := Jt.ofTry ok
    have sky0 : Sky Bd (X.env :: X.outer) a (Zc k d) X.env.locals t.heap := stk ▸ skyt
    change wpAny (model X.prog X.w) X.A (noteFrame (.ref a) X.env) _ _ _
    apply Sky.land Zc.steady fr0 frm sky0
    intro g3 fl u3
    have upg := upt.trans u3
    obtain ⟨ob, fs, hob, zob, dob⟩ := fl.there
    have noF : ∀ {g : Heap} {o : Obj} {fz : Array Value}, g.FunFrames Bd (X.env :: X.outer) → g.get? a = some o → o.data = .fields fz → a ∉ frs (X.env :: X.outer) := by
      intro g o fz ff ho hd ha
      obtain ⟨_, o2, ho2, bad⟩ := ff.mem ha
      cases ho.symm.trans ho2
      exact bad _ hd
    have a_out := noF fl.2.2.1 hob dob
    have a_loc : a ≠ X.env.locals := by
      rintro rfl
      exact a_out (List.mem_filterMap.mpr ⟨X.env, .head _, frm⟩)
    have a_fs : a ∉ X.fs := by
      intro ha
      obtain ⟨ev, hev, hq⟩ := List.mem_filterMap.mp ha
      exact a_out (List.mem_filterMap.mpr ⟨ev, .tail _ hev, hq⟩)
    have J3 : Inv X pins τ G { t with heap := g3 } := J0.landed nbd fl.1 upg ofs agr
    have Su := J3.suite hob dob nowhere a_loc a_fs
    have step : ∀ {hs2 : List ExceptHandler} {l2 : List (Value × Nat × (Addr → Value → Option Addr → TS))}, Hn X hs2 l2 → wTries X.K Wo D l2 k d τ G →
        wpAny (model X.prog X.w) X.A (handleBy (.ref a) X.env hs2) (SP X pins D) X.xe { t with heap := g3 } := by
      intro hs2 l2 hn2
      induction hn2 with
      | nil =>
        intro out
        apply wpAny_handleBy_nil
        obtain ⟨_, _, _, o5, f5, T5, oT5, tr5, h5, _, d5, n5, _⟩ := id fl
        unfold PySem.passOn
        apply wpAny_bind
        apply wpAny_field h5 d5 n5
        rw [if_neg (by simp : ¬ ((Value.ref T5 == Value.none) = true))]
        have leave : wpAny (model X.prog X.w) X.A (setFlight (.ref a) X.env.frame) (fun _ t4 => wpAny (model X.prog X.w) X.A (throw (.ref a) : Sem Flow) (SP X pins D) X.xe t4) X.xe { t with heap := g3 } := by
          rw [frm]
          apply HandSPX.setFlight_upZ fl
          intro g4 up4 le4
          exact wpAny_throw (tk _ _ ⟨a, Bd, tI, pins, τ, G, k, d, rfl, J0, nbd, upg.trans le4, .inr (.inr (stk ▸ up4)), nowhere, ofs, agr, out⟩)
        first
          | exact wpAny_bind leave
          | exact wpAny_bind (wpAny_pure (wpAny_bind leave))
      | @cons x n cv i ts st more np hp hs3 l3 slot kind nm su rest ih =>
        rintro ⟨b, eb, yes, no⟩
        refine wpAny_handleBy_cons (codeAny_handlers_test ?_) (fun z => nomatch z)
        have looks : PySem.W.Looks (model X.prog X.w) g3 (typeOf (.ref a)) k := by
          intro A Q E t7 kp q
          exact wpAny_typeOf_ref (kp _ _ hob) (zob.1 ▸ q)
        have one := PySem.W.exm_one (M := model X.prog X.w) (J3.kIn) looks eb
        have named : ∀ {Q E : Value → Shared → Prop}, Q cv { t with heap := g3 } → wpAny (model X.prog X.w) (X.A.mark (some (.ref a))) (eval (.Name x np) X.env) Q E { t with heap := g3 } := by
          intro Q E q
          obtain ⟨gl, dbg, md | ⟨md, bv, nn⟩⟩ := nm
          · exact ld_glob (X := X.suite a ((a, ob) :: (X.pn ++ pins))) Su gl md q dbg
          · exact ld_blt (X := X.suite a ((a, ob) :: (X.pn ++ pins))) Su gl md bv q nn dbg
        apply named
        apply one.here
        cases b with
        | false => exact ih (no rfl)
        | true =>
          apply codeAny_handlers_suite_as
          apply HandSPX.lands_againZ fl
          intro g4 fl4 up4
          have J4 : Inv X pins τ G { t with heap := g4 } := J0.landed nbd fl4.1 (upg.trans up4) ofs agr
          obtain ⟨ob4, fs4, hob4, zob4, dob4⟩ := fl4.there
          apply store_ok (X := X.suite a ((a, ob4) :: (X.pn ++ pins))) (v := .ref a) (J4.suite hob4 dob4 nowhere a_loc a_fs) nod slot (.inl kind) rfl ?_ (.inr kind)
          intro t5 I5
          have run := (su a ob4 k d (X.pn ++ pins) zob4 ⟨_, dob4⟩).run [] t5 _ G _ I5 (yes rfl a nowhere)
          refine wpAny_mono run ?_ (fun _ _ bad => False.elim bad)
          intro fl6 t6 sp
          have close : ∀ {τ6 : L2.St} {G6 : Hp} {Q : Shared → Prop}, Inv (X.suite a ((a, ob4) :: (X.pn ++ pins))) [] τ6 G6 t6 → (∀ t7, Inv X pins (τ6.set i none) G6 t7 → Q t7) →
              wpAny (model X.prog X.w) X.A (do bindName X.env n .none; unbindBehindTheSuite X.env n hp) (fun _ t7 => Q t7) X.xe t6 := by
            intro τ6 G6 Q I6 hq
            exact gone_ok (I6.unsuite ok) nod slot kind hq
          cases fl6 with
          | ret u6 =>
            obtain ⟨v6, τ6, G6, I6, r6, q6⟩ := sp
            exact close I6 (fun t7 J7 => ⟨v6, _, _, J7, r6, q6⟩)
          | next =>
            obtain ⟨τ6, G6, I6, q6⟩ := sp
            exact close I6 (fun t7 J7 => ⟨_, _, J7, q6⟩)
          | brk =>
            obtain ⟨τ6, G6, I6, q6⟩ := sp
            exact close I6 (fun t7 J7 => ⟨_, _, J7, q6⟩)
          | cont =>
            obtain ⟨τ6, G6, I6, q6⟩ := sp
            exact close I6 (fun t7 J7 => ⟨_, _, J7, q6⟩)
    exact step hn wsh
  refine wpAny_mono main ?_ (fun _ _ he => he)
  intro fl t sp
  cases fl with
  | ret u =>
    obtain ⟨v, τ, G, I1, r1, q1⟩ := sp
    exact ⟨v, τ, G, I1.ofTry ok, r1, q1⟩
  | next =>
    obtain ⟨τ, G, I1, q1⟩ := sp
    exact wpAny_execs_nil ⟨τ, G, I1.ofTry ok, q1⟩
  | brk =>
    obtain ⟨τ, G, I1, q1⟩ := sp
    exact ⟨τ, G, I1.ofTry ok, q1⟩
  | cont =>
    obtain ⟨τ, G, I1, q1⟩ := sp
    exact ⟨τ, G, I1.ofTry ok, q1⟩
end
end Xg
namespace Xd
open PySem L2 Xg
/-- a row of handlers over mirrors -/
abbrev Hm := (Nat → Option Bool) × Nat × (Xc → MS)
def goTries : List Hm → Xc → Rho → Option O
  | [], x, ρ => some (.ex x ρ)
  | q :: r, x, ρ => match q.1 x.c with
    | some true => aftTry q.2.1 (q.2.2 x ((noErr ρ).set q.2.1 .err))
    | some false => goTries r x ρ
    | none => none
def sTries (gb : MS) (l : List Hm) : MS := fun ρ => match gb ρ with
  | some (.ex x ρ') => goTries l x ρ'
  | o => o
section
variable {c : Cc}
inductive Jh (c : Cc) : List (Value × Nat × (Addr → Value → Option Addr → TS)) → List Hm → Prop
  | nil : Jh c [] []
  | cons {cv : Value} {i : Nat} {ts : Addr → Value → Option Addr → TS} {exm : Nat → Option Bool} {gs : Xc → MS} {l : List (Value × Nat × (Addr → Value → Option Addr → TS))} {lm : List Hm}
      (hs : ∀ (a : Addr) (x : Xc) (cls : Value) (d : Option Addr) (Hi0 : Hp), XcAt c.K c.cl Hi0 x cls d → JS ⟨c.K, c.cl, Hi0, c.H0, a, c.tb⟩ W0 (ts a cls d) (gs x))
      (hm : ∀ n b, exm n = some b → PySem.W.exmOne c.K (.ref (c.cl n)) cv = some b) (r : Jh c l lm) : Jh c ((cv, i, ts) :: l) ((exm, i, gs) :: lm)
theorem js_tries {tb : WX → TS} {l : List (Value × Nat × (Addr → Value → Option Addr → TS))} {lm : List Hm} {Vout : WX} {gb : MS} (hb : ∀ V : WX, JS c (wX c.K c.cl V) (tb V) gb)
    (hl : Jh c l lm) : JS c (wX c.K c.cl Vout) (fun Dn σ H => tb (wTries c.K Vout Dn l) Dn σ H) (sTries gb lm) := fun σ ρ Hi H ok sv Dn h => by
  refine hb _ σ ρ Hi H ok sv Dn ?_
  unfold sTries at h
  cases hg : gb ρ with
  | none => rw [hg] at h; exact h
  | some o =>
    rw [hg] at h
    cases o with
    | ex x ρ' =>
      intro σ' Hi' H' sm ok' sv' cls d xa
      simp only at h
      clear hg hb
      induction hl with
      | nil => exact h σ' Hi' H' sm ok' sv' cls d xa
      | @cons cv i ts exm gs l lm hs hm r ih =>
        unfold goTries at h
        dsimp only at h
        cases hx : exm x.c with
        | none => rw [hx] at h; exact h.elim
        | some b =>
          rw [hx] at h
          have e1 := hm _ _ hx
          obtain ⟨dx, vs, rfl, _⟩ := id xa
          cases b with
          | false => exact ⟨false, e1, (fun z => nomatch z), fun _ => ih h⟩
          | true =>
            refine ⟨true, e1, fun _ a na => ?_, (fun z => nomatch z)⟩
            have ok2 := ok'.turn a
            have sv2 : Sv ⟨c.K, c.cl, Hi', c.H0, a, c.tb⟩ Hi' H' (σ'.set i (some (.ref a))) ((noErr ρ').set i .err) := Sv.setErr (c := ⟨c.K, c.cl, Hi', c.H0, a, c.tb⟩) (Sv.recx (a := c.ea) (Hq := c.Hq) sv') i
            refine hs a x _ d Hi' xa _ _ Hi' H' ok2 sv2 _ ?_
            have fin : ∀ {Kn : L2.St → Hp → Prop} {ρ2 : Rho}, Nx c Hi Kn (noErr (ρ2.set i .un)) → Nx ⟨c.K, c.cl, Hi', c.H0, a, c.tb⟩ Hi' (fun σ3 H3 => Kn (σ3.set i none) H3) ρ2 := fun {Kn ρ2} k σ3 Hi3 H3 s3 ok3 sv3 =>
              k _ Hi3 H3 (sm.trans s3) (ok'.back ok3) (Sv.recx (a := a) (Hq := Hi') (a' := c.ea) (Hq' := c.Hq) (sv3.setUn i none))
            cases hr : gs x ((noErr ρ').set i .err) with
            | none => simp only [hr] at h; exact h.elim
            | some o2 =>
              simp only [hr] at h
              cases o2 with
              | nx ρ2 => exact fin h
              | bk ρ2 => exact fin h
              | ct ρ2 => exact fin h
              | rt d2 => exact fun v Hi3 H3 s3 ok3 dv => h v Hi3 H3 (sm.trans s3) (ok'.back ok3) dv
              | rf xs => exact fun p us Hi3 H3 s3 ok3 e3 n3 n0 dv => h p us Hi3 H3 (sm.trans s3) (ok'.back ok3) e3 n3 n0 dv
              | ex y ρ2 => exact h.elim
    | _ => exact h
/-- the same in a def that raises nothing -/
theorem js_tries0 {tb : WX → TS} {l : List (Value × Nat × (Addr → Value → Option Addr → TS))} {lm : List Hm} {gb : MS} (hb : ∀ V : WX, JS c (wX c.K c.cl V) (tb V) gb)
    (hl : Jh c l lm) : JS c W0 (fun Dn σ H => tb (wTries c.K (fun _ _ _ _ => False) Dn l) Dn σ H) (sTries gb lm) :=
  js_w (js_tries hb hl) fun _ _ _ _ h => h.elim
end
end Xd
/-! what every law's text needs: the row of digits, the top's facts, the promise of a law -/
namespace Xd
open PySem L2 Xg CwR
section
variable {K : PySem.W.Frag} {cl : Nat → Addr} {Hi : Hp}
theorem dva_strs : ∀ {zs : List Str} {vs : List V}, DvA K cl Hi vs (zs.map D.str) → vs = zs.map V.str
  | [], vs, h => by cases h; rfl
  | z :: zs, vs, h => by
    cases h with
    | cons h1 h2 =>
      cases h1
      rw [dva_strs h2]
      rfl
theorem dva_of_strs : ∀ {zs : List Str}, DvA K cl Hi (zs.map V.str) (zs.map D.str)
  | [] => .nil
  | z :: zs => .cons (.str z) dva_of_strs
theorem ints_dva : ∀ row : List Int, DvA K cl Hi (row.map V.int) (row.map D.int)
  | [] => .nil
  | i :: r => .cons (.int i) (ints_dva r)
end
/-- a method of a class as the text has it -/
def Me (K : PySem.W.Frag) (x qual : Str) (st : Stmt) (f : Addr) (ps : List Str) : Prop := ∃ fd, Fun K x qual st f fd ∧ Binds K fd ps []
def meD (c x qual : Str) (st : Stmt) : He.FnD := ⟨(c, some x), x, qual, defArgs st, defBody st, defScope st⟩
theorem me_of {K : PySem.W.Frag} {fa : List He.Fa} {ml : List He.FnD} (c : He.SaysE fa ml K) (i : Nat) {C x qual : Str} {st : Stmt} {ps : List Str} (h1 : ml[i]? = some (meD C x qual st)) (k : PySem.W.keepIn K (.ref (He.ma K (He.ga K C) x)) = true)
    (b : ∀ (kV doc pm : Value) (an : Option Addr) (cdv ct : Value) (us : List Value), us.length = ps.length → bindArgs (PySem.W.fnOf x qual (defArgs st) (defBody st) (defScope st) .none kV doc pm an cdv ct) ⟨us, []⟩ = pure (ps.zip us)) : Me K x qual st (He.ma K (He.ga K C) x) ps := by
  obtain ⟨oc, od, osl, kV, doc, pm, an, cdv, ct, l, cd⟩ := c.def_ i h1
  have F : Fun K x qual st (He.ma K (He.ga K C) x) _ := fun_mk l cd k
  exact ⟨_, F, F.binds b⟩
/-- a plain tuple stands there -/
def tupB (K : PySem.W.Frag) (a : Addr) : Bool := match K.lookup a with
  | some ⟨.type "tuple", none, _, _⟩ => true
  | _ => false
theorem tupB_ok {K : PySem.W.Frag} {a : Addr} (h : tupB K a = true) : ∃ o, K.lookup a = some o ∧ o.cls = .type "tuple" ∧ o.dict = none := by
  unfold tupB at h
  split at h
  · rename_i d s e
    exact ⟨_, e, rfl, rfl⟩
  · cases h
def kitB (K : PySem.W.Frag) : Bool := tyL.all fun a => tyL.all fun b => decide (PySem.W.kitOne K (.type a) (.type b) = some (isub a b))
theorem kitB_ok {K : PySem.W.Frag} (h : kitB K = true) : KitOk K := fun a ha b hb => of_decide_eq_true (List.all_eq_true.mp (List.all_eq_true.mp h a ha) b hb)
theorem same_sqL {K : PySem.W.Frag} {H H' : Hp} {a : Addr} {xs : List V} (e : Same H H') (h : SqL K H a xs) : SqL K H' a xs := e.seq h
def spLaw (K : PySem.W.Frag) : Sp := fun vs H Q _ => ∃ (a : Addr) (ns : List Int), vs = [.ref a] ∧ SqL K H a (ns.map V.int) ∧ ns.length ≤ 63 ∧ ∀ H', Q (.bl true) H'
theorem sv_un {c : Cc} {Hi H : Hp} {σ : L2.St} {n : Nat} (h : σ.length = n) : Sv c Hi H σ (List.replicate n .un) := by
  refine ⟨by rw [h, List.length_replicate], fun i o s _ e => ?_, fun i j p xs ys e _ _ _ => ?_⟩
  · have := List.eq_of_mem_replicate (List.mem_of_getElem? e)
    subst this
    trivial
  · cases List.eq_of_mem_replicate (List.mem_of_getElem? e)
/-- behind the row's making: the heap as the mirrors see it -/
theorem row_ok {K : PySem.W.Frag} {cl : Nat → Addr} {H H1 : Hp} {p1 : Addr} {row : List Int} (s1 : Same H H1) (n1 : H p1 = none) (h1 : H1 p1 = some (.lst (row.map V.int))) :
    Ok ⟨K, cl, fun _ => none, H, 0, []⟩ (upd (fun _ => none) p1 (.lst (row.map V.int))) H1 := by
  refine ⟨fun b o e => ?_, fun b o e => (by cases e), fun b o _ e => s1 b o e, fun b o e _ => ?_, fun b hb => (nomatch hb), fun b hb => (nomatch hb)⟩
  · by_cases hb : b = p1
    · subst hb
      rw [upd_same] at e
      rw [h1]
      exact e
    · rw [upd_ne hb] at e
      cases e
  · by_cases hb : b = p1
    · subst hb
      exact n1
    · rw [upd_ne hb] at e
      cases e
end Xd
/-! how mirrors are run, the second part: loops as folds, equality of data, cuts -/
namespace Xd
open PySem L2 Xg CwR
theorem seq_rt {a b : MS} {ρ : Rho} {d : D} (h : a ρ = some (.rt d)) : sSeq a b ρ = some (.rt d) := by
  unfold sSeq
  rw [h]
theorem seq_ex {a b : MS} {ρ ρ' : Rho} {x : Xc} (h : a ρ = some (.ex x ρ')) : sSeq a b ρ = some (.ex x ρ') := by
  unfold sSeq
  rw [h]
theorem retO_ok {i : Nat} {ρ : Rho} {xs : List D} (h : ρ[i]? = some (.own xs)) : sRetO i ρ = some (.rf xs) := by
  unfold sRetO
  rw [h]
theorem retL_ok {f : Rho → R (List D)} {ρ : Rho} {d : List D} (h : f ρ = .ok d) : sRetL f ρ = some (.rf d) := by
  unfold sRetL
  rw [h]
  rfl
theorem expr_ok {f : Rho → R D} {ρ : Rho} {d : D} (h : f ρ = .ok d) : sExpr f ρ = some (.nx ρ) := by
  unfold sExpr
  rw [h]
  rfl
theorem expr_exc {f : Rho → R D} {ρ : Rho} {x : Xc} (h : f ρ = .exc x) : sExpr f ρ = some (.ex x ρ) := by
  unfold sExpr
  rw [h]
  rfl
theorem runD_nx {n k : Nat} {g : MS} {ds : List D} {ρ : Rho} (h : ds.length = k) (h2 : g (rho0 n ds) = some (.nx ρ)) : runD n k g ds = .ok .non := by
  unfold runD
  rw [if_pos h, h2]
  rfl
theorem runD_ex {n k : Nat} {g : MS} {ds : List D} {x : Xc} {ρ : Rho} (h : ds.length = k) (h2 : g (rho0 n ds) = some (.ex x ρ)) : runD n k g ds = .exc x := by
  unfold runD
  rw [if_pos h, h2]
  rfl
theorem runL_ex {n k : Nat} {g : MS} {ds : List D} {x : Xc} {ρ : Rho} (h : ds.length = k) (h2 : g (rho0 n ds) = some (.ex x ρ)) : runL n k g ds = .exc x := by
  unfold runL
  rw [if_pos h, h2]
  rfl
theorem and_no {f g : Rho → R Bool} {ρ : Rho} (h : f ρ = .ok false) : bAnd f g ρ = .ok false := by
  unfold bAnd
  rw [h]
  rfl
theorem and_yes {f g : Rho → R Bool} {ρ : Rho} {b : Bool} (h : f ρ = .ok true) (h2 : g ρ = .ok b) : bAnd f g ρ = .ok b := by
  unfold bAnd
  rw [h]
  exact h2
theorem or_yes {f g : Rho → R Bool} {ρ : Rho} (h : f ρ = .ok true) : bOr f g ρ = .ok true := by
  unfold bOr
  rw [h]
  rfl
theorem a0_ok {ρ : Rho} : aNil ρ = .ok [] := rfl
theorem a3_ok {f g k : Rho → R D} {ρ : Rho} {d e u : D} (h : f ρ = .ok d) (h2 : g ρ = .ok e) (h3 : k ρ = .ok u) : aCons f (aCons g (aCons k aNil)) ρ = .ok [d, e, u] := cons_ok h (a2_ok h2 h3)
theorem callL_exc {m : List D → R (List D)} {fs : Rho → R (List D)} {ρ : Rho} {ds : List D} {x : Xc} (h : fs ρ = .ok ds) (h2 : m ds = .exc x) : eFz (lCall m fs) ρ = .exc x := by
  unfold eFz lCall
  rw [h]
  show ((m ds).bind _) = _
  rw [h2]
  rfl
theorem if_b {t : Rho → R Bool} {a b : MS} {ρ : Rho} {k : Bool} (h : t ρ = .ok k) : sIf t a b ρ = if k = true then a ρ else b ρ := by
  unfold sIf
  rw [h]
  rfl
/-- a loop over a list of numbers from 0 -/
theorem forR_range {g : MG} {b : MS} {n : Nat} (I : Nat → Rho → Prop) (step : ∀ k ρ, k < n → I k ρ → ∃ ρ1 ρ2, g (.int (k : Nat)) ρ = some ρ1 ∧ b ρ1 = some (.nx ρ2) ∧ I (k + 1) ρ2) {ρ : Rho} (h : I 0 ρ) :
    ∃ ρ', forR g b (rIntD 0 n) ρ = some (.nx ρ') ∧ I n ρ' := by
  have key := forR_ind (g := g) (b := b) (fun ds ρ => ∃ k, k ≤ n ∧ ds = (rIntD 0 n).drop k ∧ I k ρ) ?_ (rIntD 0 n) ρ ⟨0, Nat.zero_le _, by rw [List.drop_zero], h⟩
  · obtain ⟨ρ', e, k, hk, e2, i⟩ := key
    refine ⟨ρ', e, ?_⟩
    have : (rIntD 0 n).length ≤ k := List.drop_eq_nil_iff.mp e2.symm
    rw [rint_len] at this
    have q : k = n := by omega
    rw [← q]
    exact i
  · rintro d ds ρ ⟨k, hk, e, i⟩
    have hlt : k < n := by
      rcases Nat.lt_or_ge k n with h | h
      · exact h
      · rw [List.drop_eq_nil_of_le (by rw [rint_len]; exact h)] at e
        cases e
    have hl : k < (rIntD 0 n).length := by rw [rint_len]; exact hlt
    rw [List.drop_eq_getElem_cons hl] at e
    injection e with e1 e2
    have e3 : (rIntD 0 n)[k]? = some (.int (k : Nat)) := by
      unfold rIntD
      rw [List.getElem?_map, List.getElem?_range hlt]
      show some (D.int (0 + (k : Int))) = _
      rw [Int.zero_add]
    have e4 : (rIntD 0 n)[k] = .int (k : Nat) := by
      rw [List.getElem?_eq_getElem hl] at e3
      exact Option.some.inj e3
    rw [e1, e4]
    obtain ⟨ρ1, ρ2, h1, h2, h3⟩ := step k ρ hlt i
    exact ⟨ρ1, ρ2, h1, h2, k + 1, hlt, e2, h3⟩
/-- a loop whose environment is a fold -/
theorem forR_fold {α β : Type} {f : α → D} {j : Nat} {b : MS} (E : β → Sl → Rho) (st : β → α → β) (J : β → List α → Prop) (hg : ∀ s y a, (E s y).set j (.val (f a)) = E s (.val (f a)))
    (h : ∀ s a r, J s (a :: r) → b (E s (.val (f a))) = some (.nx (E (st s a) (.val (f a)))) ∧ J (st s a) r) :
    ∀ (xs : List α) (s : β) (y : Sl), J s xs → ∃ y', forR (gN j) b (xs.map f) (E s y) = some (.nx (E (xs.foldl st s) y'))
  | [], s, y, _ => ⟨y, rfl⟩
  | a :: r, s, y, i => by
    obtain ⟨h1, h2⟩ := h s a r i
    obtain ⟨y', e⟩ := forR_fold E st J hg h r (st s a) (.val (f a)) h2
    refine ⟨y', ?_⟩
    show (match b ((E s y).set j (.val (f a))) with
      | some (.nx ρ') => forR (gN j) b (r.map f) ρ'
      | some (.ct ρ') => forR (gN j) b (r.map f) ρ'
      | some (.bk ρ') => some (.nx ρ')
      | o => o) = _
    rw [hg, h1]
    exact e
theorem cut_ok {xs : List D} {i j : Nat} (hi : i ≤ xs.length) (hj : j ≤ xs.length) : cutD xs (some (i : Nat)) (some (j : Nat)) = (xs.drop i).take (j - i) := by
  have e : ∀ (d k : Nat), k ≤ xs.length → HT.sIx xs.length d (some (k : Nat)) = k := fun d k h => by
    rw [HT.sIx_nat, Nat.min_eq_left h]
  unfold cutD
  rw [e _ _ hi, e _ _ hj]
theorem oNotIn_tup (z : Str) (zs : List Str) : oNotIn (.str z) (.tup (zs.map D.str)) = some (.bl (!decide (z ∈ zs))) := by
  show ((svs (zs.map D.str)).map fun vs => inV (.str z) vs).map _ = _
  rw [svs_strs]
  show some (D.bl (!inV _ _)) = _
  rw [inV_strs]
theorem oIn_tup (z : Str) (zs : List Str) : oIn (.str z) (.tup (zs.map D.str)) = some (.bl (decide (z ∈ zs))) := by
  show ((svs (zs.map D.str)).map fun vs => inV (.str z) vs).map _ = _
  rw [svs_strs]
  show some (D.bl (inV _ _)) = _
  rw [inV_strs]
theorem toPys_strs : ∀ zs : List Str, toPys (zs.map D.str) = some (zs.map PyData.str)
  | [] => rfl
  | z :: zs => by
    show (match toPy (.str z), toPys (zs.map D.str) with | some p, some ps => some (p :: ps) | _, _ => none) = _
    rw [toPys_strs zs]
    rfl
theorem eqB_same {d : D} {p : PyData} (h0 : sv d = none) (h1 : toPy d = some p) (h2 : PySem.SeqAt.shaped p = true) : eqB d d = some true := by
  unfold eqB
  rw [h0, h1]
  show (if (PySem.SeqAt.shaped p && PySem.SeqAt.shaped p) = true then some (PyData.eqv p p) else none) = _
  rw [h2, if_pos (show (true && true) = true from rfl), PySem.SeqAt.eqv_refl _ (PySem.SeqAt.canLay_of_shaped h2)]
theorem lay_strs : ∀ {zs : List Str}, (∀ z ∈ zs, PyData.strOk z = true) → PyData.canLayAll0 (zs.map PyData.str) = true ∧ PyData.depthAll (zs.map PyData.str) = 0
  | [], _ => ⟨by simp [PyData.canLayAll0], by simp [PyData.depthAll]⟩
  | z :: zs, h => by
    obtain ⟨a, b⟩ := lay_strs fun y hy => h y (List.mem_cons_of_mem _ hy)
    exact ⟨by rw [List.map_cons, PyData.canLayAll0, PyData.canLay0, h z List.mem_cons_self, a]; rfl, by rw [List.map_cons, PyData.depthAll, b]; simp [PyData.depth]⟩
theorem eqB_strs {zs : List Str} (h : ∀ z ∈ zs, PyData.strOk z = true) : eqB (.lst (zs.map D.str)) (.lst (zs.map D.str)) = some true := by
  obtain ⟨a, b⟩ := lay_strs h
  refine eqB_same (p := .list (zs.map PyData.str)) rfl ?_ ?_
  · show (toPys (zs.map D.str)).map PyData.list = _
    rw [toPys_strs]
    rfl
  · unfold PySem.SeqAt.shaped
    rw [PyData.canLay0, a, PyData.depth, b]
    rfl
end Xd
/-! small defs that many laws have with the same text, once for all of them -/
namespace Xd
open PySem L2 Xg CwR
def gDigit : MS :=
  (sSeq (sIf (bTest (e2 oLt (eVar 1) (eCB cLen (aCons (eVar 0) aNil))))
    (sRet (e2 oIx (eVar 0) (eVar 1)))
    sNext)
  (sRet (eC (.int 0))))
def mDigit : List D → R D := fun ds => noX (runD 2 2 gDigit ds)
def gPick : MS :=
  (sSeq (sSet 3 (eC (.int 0)))
  (sSeq (sIf (bTest (e2 oLt (eVar 1) (eCB cLen (aCons (eVar 0) aNil))))
    (sSet 3 (e2 oIx (eVar 0) (eVar 1)))
    sNext)
  (sSeq (sIf (bTest (e2 oLt (e2 oAdd (eVar 1) (eC (.int 1))) (eCB cLen (aCons (eVar 0) aNil))))
    (sSet 3 (e2 oAdd (eVar 3) (e2 oMul (eC (.int 16)) (e2 oIx (eVar 0) (e2 oAdd (eVar 1) (eC (.int 1)))))))
    sNext)
  (sRet (e2 oMod (eCB cInt (aCons (eVar 3) aNil)) (eVar 2))))))
def mPick : List D → R D := fun ds => noX (runD 4 3 gPick ds)
def gWhole : MS :=
  (sRet (eAnd (eCB cIsi (aCons (eVar 0) (aCons (eC (.opq (.ty "int"))) aNil))) (eNot (eCB cIsi (aCons (eVar 0) (aCons (eC (.opq (.ty "bool"))) aNil))))))
def mWhole : List D → R D := fun ds => noX (runD 1 1 gWhole ds)
/-! ### small defs -/
theorem digit_ok (row : List Int) (hl : row.length ≤ 5000) (k : Nat) : mDigit [.lst (row.map D.int), .int k] = .ok (.int (row.getD k 0)) := by
  refine noX_of (runD_rt rfl ?_)
  show gDigit [.val (.lst (row.map D.int)), .val (.int k)] = _
  unfold gDigit
  have ht : bTest (e2 oLt (eVar 1) (eCB cLen (aCons (eVar 0) aNil))) [.val (.lst (row.map D.int)), .val (.int k)] = .ok (decide ((k : Int) < ((row.map D.int).length : Nat))) := rfl
  by_cases h : k < row.length
  · refine seq_rt ((if_yes (ht.trans ?_)).trans (ret_ok (op_ok rfl rfl ?_)))
    · rw [decide_eq_true (by rw [List.length_map]; omega)]
    · show atI (row.map D.int) (k : Nat) = _
      rw [at_ok (by rw [List.length_map]; exact h), List.getElem_map]
      simp [List.getD, h]
  · refine (seq_nx ((if_no (ht.trans ?_)).trans rfl)).trans (ret_ok ?_)
    · rw [decide_eq_false (by rw [List.length_map]; omega)]
    · rw [getD_out (by omega)]
      rfl
theorem pick_ok (row : List Int) (hl : row.length ≤ 5000) (k : Nat) {m : Int} (hm : 0 < m) : mPick [.lst (row.map D.int), .int k, .int m] = .ok (.int (Xg.pick row k m)) := by
  refine noX_of (runD_rt rfl ?_)
  show gPick [.val (.lst (row.map D.int)), .val (.int k), .val (.int m), .un] = _
  unfold gPick
  refine (seq_nx (set_ok (d := .int 0) rfl)).trans ?_
  have one : (sIf (bTest (e2 oLt (eVar 1) (eCB cLen (aCons (eVar 0) aNil)))) (sSet 3 (e2 oIx (eVar 0) (eVar 1))) sNext) [.val (.lst (row.map D.int)), .val (.int k), .val (.int m), .val (.int 0)] = some (.nx [.val (.lst (row.map D.int)), .val (.int k), .val (.int m), .val (.int (row.getD k 0))]) := by
    have ht : bTest (e2 oLt (eVar 1) (eCB cLen (aCons (eVar 0) aNil))) [.val (.lst (row.map D.int)), .val (.int k), .val (.int m), .val (.int 0)] = .ok (decide ((k : Int) < ((row.map D.int).length : Nat))) := rfl
    by_cases h : k < row.length
    · refine (if_yes (ht.trans ?_)).trans (set_ok (op_ok rfl rfl ?_))
      · rw [decide_eq_true (by rw [List.length_map]; omega)]
      · show atI (row.map D.int) (k : Nat) = _
        rw [at_ok (by rw [List.length_map]; exact h), List.getElem_map]
        simp [List.getD, h]
    · refine (if_no (ht.trans ?_)).trans ?_
      · rw [decide_eq_false (by rw [List.length_map]; omega)]
      · rw [getD_out (by omega)]
        rfl
  refine (seq_nx one).trans ?_
  have two : (sIf (bTest (e2 oLt (e2 oAdd (eVar 1) (eC (.int 1))) (eCB cLen (aCons (eVar 0) aNil)))) (sSet 3 (e2 oAdd (eVar 3) (e2 oMul (eC (.int 16)) (e2 oIx (eVar 0) (e2 oAdd (eVar 1) (eC (.int 1))))))) sNext) [.val (.lst (row.map D.int)), .val (.int k), .val (.int m), .val (.int (row.getD k 0))]
      = some (.nx [.val (.lst (row.map D.int)), .val (.int k), .val (.int m), .val (.int (row.getD k 0 + 16 * row.getD (k + 1) 0))]) := by
    have ht : bTest (e2 oLt (e2 oAdd (eVar 1) (eC (.int 1))) (eCB cLen (aCons (eVar 0) aNil))) [.val (.lst (row.map D.int)), .val (.int k), .val (.int m), .val (.int (row.getD k 0))] = .ok (decide ((k : Int) + 1 < ((row.map D.int).length : Nat))) := rfl
    by_cases h : k + 1 < row.length
    · refine (if_yes (ht.trans ?_)).trans (set_ok (op_ok rfl (op_ok rfl (op_ok rfl (d := .int (row.getD (k + 1) 0)) (b := .int ((k + 1 : Nat) : Int)) rfl ?_) (oMul_16 _)) (oAdd_int _ _)))
      · rw [decide_eq_true (by rw [List.length_map]; omega)]
      · show atI (row.map D.int) ((k + 1 : Nat) : Int) = _
        rw [at_ok (by rw [List.length_map]; exact h), List.getElem_map]
        simp [List.getD, h]
    · refine (if_no (ht.trans ?_)).trans ?_
      · rw [decide_eq_false (by rw [List.length_map]; omega)]
      · rw [getD_out (show row.length ≤ k + 1 by omega), Int.mul_zero, Int.add_zero]
        rfl
  refine (seq_nx two).trans (ret_ok ((op_ok ((cb_ok (a1_ok rfl)).trans rfl) rfl (oMod_int hm)).trans ?_))
  unfold Xg.pick
  rw [show ((k : Int)).toNat = k from Int.toNat_natCast k]
theorem whole_ok (i : Int) : mWhole [.int i] = .ok (.bl true) := by
  refine noX_of (runD_rt rfl ?_)
  unfold gWhole
  exact ret_ok (and_ok ((cb_ok (a2_ok rfl rfl)).trans rfl) rfl)
theorem fz2 {m : List D → R (List D)} {fs : Rho → R (List D)} {ρ : Rho} {ds l : List D} (h : fs ρ = .ok ds) (h2 : m ds = .ok l) : eFz (lCall (fun ds => noX (m ds)) fs) ρ = .ok (.lst l) := fz_ok ((callL_ok h).trans (noX_of h2))
theorem cl2 {m : List D → R D} {fs : Rho → R (List D)} {ρ : Rho} {ds : List D} {d : D} (h : fs ρ = .ok ds) (h2 : m ds = .ok d) : eCall (fun ds => noX (m ds)) fs ρ = .ok d := (call_ok h).trans (noX_of h2)
theorem oEq_str (i j : Str) : oEq (.str i) (.str j) = some (.bl (decide (i = j))) := by
  unfold oEq eqB
  simp [sv, scal]
theorem oEq_bl (i j : Bool) : oEq (.bl i) (.bl j) = some (.bl (decide (i = j))) := by
  unfold oEq eqB
  simp [sv, scal]
theorem eq_ok {f g : Rho → R D} {ρ : Rho} {x y : Str} (h : f ρ = .ok (.str x)) (h2 : g ρ = .ok (.str y)) : bTest (e2 oEq f g) ρ = .ok (decide (x = y)) := test_ok (op_ok h h2 (oEq_str _ _))
theorem ne_no {f g : Rho → R D} {ρ : Rho} {d : D} (h : f ρ = .ok d) (h2 : g ρ = .ok d) (h3 : eqB d d = some true) : bTest (e2 oNe f g) ρ = .ok false := by
  refine test_ok (op_ok h h2 ?_)
  unfold oNe
  rw [h3]
  rfl
theorem eor_ok {f g : Rho → R D} {ρ : Rho} {b c : Bool} (h : f ρ = .ok (.bl b)) (h2 : g ρ = .ok (.bl c)) : eOr f g ρ = .ok (.bl (b || c)) := by
  unfold eOr
  rw [h]
  cases b
  · exact h2
  · rfl
theorem eand_ok {f g : Rho → R D} {ρ : Rho} {b c : Bool} (h : f ρ = .ok (.bl b)) (h2 : g ρ = .ok (.bl c)) : eAnd f g ρ = .ok (.bl (b && c)) := by
  unfold eAnd
  rw [h]
  cases b
  · rfl
  · exact h2
theorem ble_ok {f g : Rho → R D} {ρ : Rho} {x y : Int} (h : f ρ = .ok (.int x)) (h2 : g ρ = .ok (.int y)) : e2 oLe f g ρ = .ok (.bl (decide (x ≤ y))) := op_ok h h2 rfl
theorem chain_ok {f g h : Rho → R D} {ρ : Rho} {x y z : Int} (h1 : f ρ = .ok (.int x)) (h2 : g ρ = .ok (.int y)) (h3 : h ρ = .ok (.int z)) : eChain oLe oLt f g h ρ = .ok (.bl (decide (x ≤ y) && decide (y < z))) := by
  unfold eChain
  rw [h1, h2]
  simp only [R.bind_ok]
  rw [show oLe (D.int x) (D.int y) = some (.bl (decide (x ≤ y))) from rfl]
  by_cases c : x ≤ y
  · rw [decide_eq_true c]
    simp only [ro, R.bind_ok, asB, if_true, Bool.true_and]
    rw [h3]
    rfl
  · rw [decide_eq_false c]
    rfl
/-! ### the rules -/
abbrev rulL : List Str := ["invalidate_store", "invalidate_device", "track_frames", "track_prepared", "track_second", "invalidate_map", "invalidate_rights", "key_level", "leave_self", "leave_other", "cut_links", "clear_links", "hold_slot", "check_entry", "stop_page", "stop_store", "no_links", "single", "eager", "flush_exit", "flush_source", "keep_dropped", "map_inspect", "map_fault", "flush_fault", "map_leave", "prompt_store", "poll_entry", "poll_backward"]
theorem l29 : rulL.length = 29 := by decide +kernel
theorem rul_strOk : ∀ z ∈ rulL, PyData.strOk z = true := by decide +kernel
def selN (q : Nat → Bool) : List Str := ((List.range 29).filter q).map fun k => rulL.getD k ""
theorem range_rules : ((List.range 29).map fun k => rulL.getD k "") = rulL := by decide +kernel
theorem selN_sub (q : Nat → Bool) : (selN q).Sublist rulL := by
  have := (List.filter_sublist (p := q) (l := List.range 29)).map fun k => rulL.getD k ""
  rw [range_rules] at this
  exact this
def qD (q : Nat → Bool) : D → Bool
  | .int i => q i.toNat
  | _ => false
def atD : D → D
  | .int i => .str (rulL.getD i.toNat "")
  | d => d
theorem selN_eq (q : Nat → Bool) : ((rIntD 0 29).filter (qD q)).map atD = (selN q).map D.str := by
  unfold rIntD selN
  rw [List.filter_map, List.map_map, List.map_map]
  have e : (qD q ∘ fun i : Nat => D.int (0 + (i : Nat))) = q := by
    funext i
    show q ((0 : Int) + (i : Nat)).toNat = _
    rw [Int.zero_add, Int.toNat_natCast]
  rw [e]
  refine List.map_congr_left fun i _ => ?_
  show D.str (rulL.getD ((0 : Int) + (i : Nat)).toNat "") = _
  rw [Int.zero_add, Int.toNat_natCast]
  rfl
/-- the rules chosen by a test of their places, in whatever environment -/
theorem lc_rules {t : Rho → R Bool} (q : Nat → Bool) {i j : Nat} {ρ : Rho} (hv : (wipeR ρ [j])[i]? = some (.val (.lst (rulL.map D.str)))) (hij : i ≠ j) (hj : j < ρ.length)
    (h : ∀ k : Nat, k < 29 → t ((wipeR ρ [j]).set j (.val (.int k))) = .ok (q k)) :
    eFz (lLc (iR1 (aCons (eC (.int 29)) aNil)) (gN j) t (e2 oIx (eVar i) (eVar j)) [j]) ρ = .ok (.lst ((selN q).map D.str)) := by
  refine fz_ok ?_
  rw [← selN_eq]
  refine lc_ok (ds := rIntD 0 29) (qD q) atD (r1_ok (n := 29) rfl (by decide)) (by rw [rint_len]; decide) fun d hd => ?_
  obtain ⟨k, hk, rfl⟩ := rint_mem hd
  refine ⟨_, rfl, ?_, fun _ => ?_⟩
  · refine (h k hk).trans ?_
    show R.ok (q k) = R.ok (q (k : Int).toNat)
    rw [Int.toNat_natCast]
  · have hj' : j < (wipeR ρ [j]).length := by
      show j < (ρ.set j .un).length
      rw [List.length_set]
      exact hj
    refine op_ok (a := .lst (rulL.map D.str)) (b := .int (k : Nat)) ?_ ?_ ?_
    · unfold eVar
      rw [List.getElem?_set_ne (Ne.symm hij), hv]
    · unfold eVar
      rw [List.getElem?_set_self hj']
    · show atI (rulL.map D.str) ((k : Nat) : Int) = _
      have lt : k < (rulL.map D.str).length := by rw [List.length_map, l29]; exact hk
      rw [at_ok lt, List.getElem_map]
      show _ = some (D.str (rulL.getD (k : Int).toNat ""))
      rw [Int.toNat_natCast, List.getD_eq_getElem?_getD, List.getElem?_eq_getElem (by rw [l29]; exact hk)]
      rfl
end Xd
namespace P67
open PySem L2 Xg Xd
def top (i : Nat) : Stmt := PySem.Challenge.pw_guestlives_k67_rings_of_links_poll.main.body.getD i (.Pass ⟨0, 0, 0, 0⟩)
abbrev S_is_polled : Stmt := top 2
theorem sc_is_polled : FnScope ["policy", "entry", "target"] ["policy", "entry", "target"] (defScope S_is_polled) := ⟨rfl, rfl, rfl, by decide +kernel, rfl, by decide +kernel, by decide +kernel⟩
abbrev S_always_polled : Stmt := top 3
theorem sc_always_polled : FnScope ["policy"] ["policy"] (defScope S_always_polled) := ⟨rfl, rfl, rfl, by decide +kernel, rfl, by decide +kernel, by decide +kernel⟩
abbrev S_Policy___init__ : Stmt := inClass (top 9) 0
theorem sc_Policy___init__ : FnScope ["self", "names", "told", "name"] ["self", "names"] (defScope S_Policy___init__) := ⟨rfl, rfl, rfl, by decide +kernel, rfl, by decide +kernel, by decide +kernel⟩
abbrev S_Policy_empty : Stmt := inClass (top 9) 1
theorem sc_Policy_empty : FnScope [] [] (defScope S_Policy_empty) := ⟨rfl, rfl, rfl, by decide +kernel, rfl, by decide +kernel, by decide +kernel⟩
abbrev S_Policy_full : Stmt := inClass (top 9) 2
theorem sc_Policy_full : FnScope [] [] (defScope S_Policy_full) := ⟨rfl, rfl, rfl, by decide +kernel, rfl, by decide +kernel, by decide +kernel⟩
abbrev S_Policy_has : Stmt := inClass (top 9) 3
theorem sc_Policy_has : FnScope ["self", "name"] ["self", "name"] (defScope S_Policy_has) := ⟨rfl, rfl, rfl, by decide +kernel, rfl, by decide +kernel, by decide +kernel⟩
abbrev S_Policy___contains__ : Stmt := inClass (top 9) 4
theorem sc_Policy___contains__ : FnScope ["self", "name"] ["self", "name"] (defScope S_Policy___contains__) := ⟨rfl, rfl, rfl, by decide +kernel, rfl, by decide +kernel, by decide +kernel⟩
abbrev S_Policy___iter__ : Stmt := inClass (top 9) 5
theorem sc_Policy___iter__ : FnScope ["self"] ["self"] (defScope S_Policy___iter__) := ⟨rfl, rfl, rfl, by decide +kernel, rfl, by decide +kernel, by decide +kernel⟩
abbrev S_Policy___or__ : Stmt := inClass (top 9) 6
theorem sc_Policy___or__ : FnScope ["self", "other", "name"] ["self", "other"] (defScope S_Policy___or__) := ⟨rfl, rfl, rfl, by decide +kernel, rfl, by decide +kernel, by decide +kernel⟩
abbrev S_Policy___sub__ : Stmt := inClass (top 9) 7
theorem sc_Policy___sub__ : FnScope ["self", "other", "name"] ["self", "other"] (defScope S_Policy___sub__) := ⟨rfl, rfl, rfl, by decide +kernel, rfl, by decide +kernel, by decide +kernel⟩
abbrev S__law_row : Stmt := top 11
theorem sc__law_row : FnScope ["_law_script", "_law_most", "_law_row_here", "_law_cell", "_law_rest", "_law_k"] ["_law_script", "_law_most"] (defScope S__law_row) := ⟨rfl, rfl, rfl, by decide +kernel, rfl, by decide +kernel, by decide +kernel⟩
abbrev S__law_pick : Stmt := top 12
theorem sc__law_pick : FnScope ["_law_row_here", "_law_at", "_law_limit", "_law_value"] ["_law_row_here", "_law_at", "_law_limit"] (defScope S__law_pick) := ⟨rfl, rfl, rfl, by decide +kernel, rfl, by decide +kernel, by decide +kernel⟩
abbrev S__law_rules : Stmt := top 13
theorem sc__law_rules : FnScope ["_law_text"] [] (defScope S__law_rules) := ⟨rfl, rfl, rfl, by decide +kernel, rfl, by decide +kernel, by decide +kernel⟩
abbrev S__law_flag : Stmt := top 14
theorem sc__law_flag : FnScope ["_law_actual", "_law_expected"] ["_law_actual", "_law_expected"] (defScope S__law_flag) := ⟨rfl, rfl, rfl, by decide +kernel, rfl, by decide +kernel, by decide +kernel⟩
abbrev S__law_polls : Stmt := top 15
theorem sc__law_polls : FnScope ["_law_names", "_law_entry", "_law_target"] ["_law_names", "_law_entry", "_law_target"] (defScope S__law_polls) := ⟨rfl, rfl, rfl, by decide +kernel, rfl, by decide +kernel, by decide +kernel⟩
abbrev S__law_near : Stmt := top 16
theorem sc__law_near : FnScope ["_law_policy", "_law_names", "_law_entry", "_law_target"] ["_law_policy", "_law_names", "_law_entry"] (defScope S__law_near) := ⟨rfl, rfl, rfl, by decide +kernel, rfl, by decide +kernel, by decide +kernel⟩
abbrev S_law : Stmt := top 17
theorem sc_law : FnScope ["_law_script", "_law_row_here", "_law_rules_here", "_law_k", "_law_names", "_law_ring", "_law_policy", "_law_polled", "_law_target", "_law_answer", "_law_always"] ["_law_script"] (defScope S_law) := ⟨rfl, rfl, rfl, by decide +kernel, rfl, by decide +kernel, by decide +kernel⟩
abbrev L_RULES : List Str := ["invalidate_store", "invalidate_device", "track_frames", "track_prepared", "track_second", "invalidate_map", "invalidate_rights", "key_level", "leave_self", "leave_other", "cut_links", "clear_links", "hold_slot", "check_entry", "stop_page", "stop_store", "no_links", "single", "eager", "flush_exit", "flush_source", "keep_dropped", "map_inspect", "map_fault", "flush_fault", "map_leave", "prompt_store", "poll_entry", "poll_backward"]
def d_RULES : D := .tup (L_RULES.map D.str)
structure Ad where
  i_PolicyError : Addr
  PolicyError : Addr
  nil : Addr
  init : Addr
  iter : Addr
  contains : Addr
  or_ : Addr
  sub : Addr
  Policy : Addr
  RULES : Addr
  is_polled : Addr
  always_polled : Addr
  _law_row : Addr
  _law_pick : Addr
  _law_rules : Addr
  _law_flag : Addr
  _law_polls : Addr
  _law_near : Addr
def clA (A : Ad) : Nat → Addr
  | 0 => A.Policy
  | 4 => A.PolicyError
  | _ => 0
def tbA (_ : Ad) : List Addr := []
structure Tp (P : Program) (w : World) (K : PySem.W.Frag) (mg : Str → Option Value) (A : Ad) : Prop where
  n_abs : mg "abs" = none
  n_bool : mg "bool" = none
  n_int : mg "int" = none
  n_isinstance : mg "isinstance" = none
  n_iter : mg "iter" = none
  n_len : mg "len" = none
  n_list : mg "list" = none
  n_range : mg "range" = none
  n_tuple : mg "tuple" = none
  g_PolicyError : mg "PolicyError" = some (.ref A.PolicyError)
  g_RULES : mg "RULES" = some (.ref A.RULES)
  x_PolicyError : XgSup.STxt P K mg "PolicyError" "name" "the rule cannot be named here: " A.PolicyError A.i_PolicyError
  xf_PolicyError : XfC K A.PolicyError
  no_PolicyError_name : PySem.W.findIn K (.ref A.PolicyError) "name" = some none
  kit : KitOk K
  s_RULES : strsB K A.RULES L_RULES = true
  k_RULES : ∃ o, K.lookup A.RULES = some o ∧ o.cls = .type "tuple" ∧ o.dict = none
  g_Policy : mg "Policy" = some (.ref A.Policy)
  nil : strsB K A.nil [] = true
  cl_Policy : Cls K A.Policy
  na_Policy_names : NoAttr K A.Policy "names"
  M_Policy : Mk K A.Policy A.init
  it_Policy : XgOwn.ItsC K A.Policy A.iter
  sf_Policy : PySem.W.selfFirst K A.Policy = true
  in_Policy : PySem.W.findIn K (.ref A.Policy) "__contains__" = some (some (.ref A.contains))
  inF_Policy : PySem.W.isFn K (.ref A.contains) = true
  or_Policy : PySem.W.findIn K (.ref A.Policy) (PySem.dunder Operator.BitOr.info.2) = some (some (.ref A.or_))
  orF_Policy : PySem.W.isFn K (.ref A.or_) = true
  sub_Policy : PySem.W.findIn K (.ref A.Policy) (PySem.dunder Operator.Sub.info.2) = some (some (.ref A.sub))
  subF_Policy : PySem.W.isFn K (.ref A.sub) = true
  d_init : ∃ fd, FunD K "__init__" "Policy.__init__" (defArgs S_Policy___init__) (defBody S_Policy___init__) (defScope S_Policy___init__) [V.ref A.nil] [] A.init fd
  d_iter : Me K "__iter__" "Policy.__iter__" S_Policy___iter__ A.iter ["self"]
  d_contains : Me K "__contains__" "Policy.__contains__" S_Policy___contains__ A.contains ["self", "name"]
  d_or : Me K "__or__" "Policy.__or__" S_Policy___or__ A.or_ ["self", "other"]
  d_sub : Me K "__sub__" "Policy.__sub__" S_Policy___sub__ A.sub ["self", "other"]
  d_is_polled : Df K mg "is_polled" "is_polled" S_is_polled A.is_polled ["policy", "entry", "target"]
  d_always_polled : Df K mg "always_polled" "always_polled" S_always_polled A.always_polled ["policy"]
  d__law_row : Df K mg "_law_row" "_law_row" S__law_row A._law_row ["_law_script", "_law_most"]
  d__law_pick : Df K mg "_law_pick" "_law_pick" S__law_pick A._law_pick ["_law_row_here", "_law_at", "_law_limit"]
  d__law_rules : Df K mg "_law_rules" "_law_rules" S__law_rules A._law_rules []
  d__law_flag : Df K mg "_law_flag" "_law_flag" S__law_flag A._law_flag ["_law_actual", "_law_expected"]
  d__law_polls : Df K mg "_law_polls" "_law_polls" S__law_polls A._law_polls ["_law_names", "_law_entry", "_law_target"]
  d__law_near : Df K mg "_law_near" "_law_near" S__law_near A._law_near ["_law_policy", "_law_names", "_law_entry"]
section
variable {P : Program} {w : World} {K : PySem.W.Frag} {mg : Str → Option Value} {A : Ad}
theorem Tp.v_RULES (T : Tp P w K mg A) {cl : Nat → Addr} (Hi : Hp) : Dv K cl Hi (.ref A.RULES) d_RULES := .tup (strsB_sq T.s_RULES Hi) dva_of_strs
end
end P67
namespace P67
open PySem L2 Xg Xd
/-! ### a policy in the heap -/
structure PolAt (K : PySem.W.Frag) (C : Addr) (H : Hp) (p : Addr) (ns : List Str) : Prop where
  ob : ∃ dx t, H p = some (.ins C dx [("names", V.ref t)]) ∧ SqT K H t (ns.map V.str)
theorem PolAt.same {K : PySem.W.Frag} {C : Addr} {H H' : Hp} {p : Addr} {ns : List Str} (h : PolAt K C H p ns) (s : Same H H') : PolAt K C H' p ns := by
  obtain ⟨dx, t, h1, h2⟩ := h.ob
  exact ⟨dx, t, s _ _ h1, same_sqT s h2⟩
theorem PolAt.src {K : PySem.W.Frag} {C : Addr} {H : Hp} {p : Addr} {ns : List Str} (h : PolAt K C H p ns) : XgOwn.SrcOk K C "names" H (.ref p) (ns.map V.str) := by
  obtain ⟨dx, t, h1, h2⟩ := h.ob
  exact ⟨p, rfl, .inr (.inr ⟨dx, _, t, h1, rfl, h2⟩)⟩
/-- a new policy, its row of names new too -/
structure PolN (C : Addr) (H0 H : Hp) (p : Addr) (ns : List Str) : Prop where
  ob : ∃ dx t, H p = some (.ins C dx [("names", V.ref t)]) ∧ H t = some (.tup (ns.map V.str)) ∧ H0 t = none ∧ t ≠ p
theorem PolN.at' {K : PySem.W.Frag} {C : Addr} {H0 H : Hp} {p : Addr} {ns : List Str} (h : PolN C H0 H p ns) : PolAt K C H p ns := by
  obtain ⟨dx, t, h1, h2, _⟩ := h.ob
  exact ⟨dx, t, h1, SqT.of h2⟩
theorem PolN.back {C : Addr} {H0 H1 H : Hp} {p : Addr} {ns : List Str} (h : PolN C H1 H p ns) (s : Same H0 H1) : PolN C H0 H p ns := by
  obtain ⟨dx, t, h1, h2, h3, h4⟩ := h.ob
  exact ⟨dx, t, h1, h2, s.free h3, h4⟩
/-- the i-th name is the first that may not stand there, told apart -/
def bad (zs : List Str) (i : Nat) : Prop := ∃ z, zs[i]? = some z ∧ (z ∉ L_RULES ∨ z ∈ zs.take i)
def sel (zs : List Str) : List Str := L_RULES.filter fun z => decide (z ∈ zs)
def spInit (K : PySem.W.Frag) (A : Ad) : Sp := fun vs H Q E => ∃ (p dx : Addr) (v : V) (zs : List Str), vs = [.ref p, v] ∧ H p = some (.ins A.Policy dx []) ∧ XgOwn.SrcOk K A.Policy "names" H v (zs.map V.str) ∧ zs.length ≤ 100 ∧ (∀ z ∈ zs, z.length ≤ 1000) ∧
  ((∀ i, ¬ bad zs i) → ∀ H', (∀ b o, H b = some o → b ≠ p → H' b = some o) → PolN A.Policy H H' p (sel zs) → Q .non H') ∧
  (∀ i z, zs[i]? = some z → bad zs i → (∀ j, j < i → ¬ bad zs j) → ∀ H' d, Same H H' → H d = none → H' d = some (.xd [("name", .str z)]) → E (.ref A.PolicyError) (some d) H')
theorem inV_str (z : Str) (zs : List Str) : inV (.str z) (zs.map V.str) = decide (z ∈ zs) := by
  unfold inV
  rw [Bool.eq_iff_iff, List.any_eq_true, decide_eq_true_eq]
  constructor
  · rintro ⟨v, hv, e⟩
    obtain ⟨y, hy, rfl⟩ := List.mem_map.mp hv
    have e' : y = z := by simpa [eqV] using e
    rw [← e']
    exact hy
  · intro h
    exact ⟨.str z, List.mem_map.mpr ⟨z, h, rfl⟩, by simp [eqV]⟩
theorem flat_strs (zs : List Str) : (zs.map V.str).all flatV = true := by
  rw [List.all_eq_true]
  intro v hv
  obtain ⟨y, _, rfl⟩ := List.mem_map.mp hv
  rfl
theorem take_next {α : Type} {l : List α} {i : Nat} {x : α} (h : l[i]? = some x) : l.take (i + 1) = l.take i ++ [x] := by
  rw [List.take_succ, h]
  rfl
section
variable {P : Program} {w : World} {K : PySem.W.Frag} {mg : Str → Option Value} {base : Heap} {A : Ad}
theorem ok_iter {fd : FuncData} (F : Fun K "__iter__" "Policy.__iter__" S_Policy___iter__ A.iter fd) (T : Tp P w K mg A) : XgOwn.FnS P w K mg base 1 A.iter fd ["self"] (XgOwn.spIter K A.Policy "names") := by
  refine XgOwn.fnS_mk F sc_Policy___iter__ (fun n vs H Q E h => ?_) (fun cdv A' outer s H vs Q hr h => ?_)
  · obtain ⟨a, dx, fs, t, zs, rfl, _⟩ := h
    rfl
  · obtain ⟨a, dx, fs, t, zs, rfl, ha, hl, ht, q⟩ := h
    refine ⟨_, (pss_one (ps_ret (pe_callB XgOwn.call_iterT (by rfl) T.n_iter (by decide +kernel) (pa_cons (pe_fld (pv 0) rfl) pa_nil)))), ?_⟩
    exact ⟨_, rfl, a, _, dx, fs, _, rfl, ha, T.cl_Policy, T.na_Policy_names, hl, t, zs, rfl, ht, fun it h1 h2 => q it h1 h2⟩
end
theorem unitsP {k : Nat} {A : Around} (r : Room k A) : A.units + 1 < cLine := by have := r.un; omega
/-- the dict of the names told so far -/
def told (zs : List Str) : List (L2.Key × V) := zs.map fun z => (.inr z, .bl true)
theorem told_len (zs : List Str) : (told zs).length = zs.length := List.length_map ..
theorem told_has (zs : List Str) (z : Str) : (valV (told zs) (.inr z)).isSome = decide (z ∈ zs) := by
  rw [← valV_any, Bool.eq_iff_iff, List.any_eq_true, decide_eq_true_eq]
  unfold told
  constructor
  · rintro ⟨kv, h, e⟩
    obtain ⟨y, hy, rfl⟩ := List.mem_map.mp h
    have e := of_decide_eq_true e
    injection e with e
    exact e ▸ hy
  · intro h
    exact ⟨_, List.mem_map.mpr ⟨z, h, rfl⟩, decide_eq_true rfl⟩
theorem told_more {zs : List Str} {z : Str} (h : z ∉ zs) : putK (told zs) (.inr z) (.bl true) = told (zs ++ [z]) := by
  unfold putK
  rw [valV_any, told_has, decide_eq_false h]
  unfold told
  rw [List.map_append]
  rfl
section
variable {P : Program} {w : World} {K : PySem.W.Frag} {mg : Str → Option Value} {base : Heap} {A : Ad}
theorem ok_init {fd : FuncData} (F : FunD K "__init__" "Policy.__init__" (defArgs S_Policy___init__) (defBody S_Policy___init__) (defScope S_Policy___init__) [V.ref A.nil] [] A.init fd) (T : Tp P w K mg A) : FnOk P w K mg base (L2.CX P w) 4 A.init fd ["self", "names"] (spInit K A) := by
  obtain ⟨fi, Fi, b_iter⟩ := T.d_iter
  have G_iter : XgOwn.FnS P w K mg base 1 A.iter fi ["self"] (XgOwn.spIter K A.Policy "names") := ok_iter Fi T
  refine F.ok sc_Policy___init__ (fun vs H Q E h => ?_) (fun cdv A' outer s H vs Q E hr h => ?_)
  · obtain ⟨p, dx, v, zs, rfl, _⟩ := h
    rfl
  · obtain ⟨p, dx, v, zs, rfl, hp, hsrc, hl, hz, hok, hbad⟩ := h
    refine ⟨_, (pss_cons (ps_set (i := 2) sc_Policy___init__.nd rfl (Or.inr rfl) pe_dnewK)
  (pss_cons (ps_for (passes_of rfl) rfl (XgOwn.pi_any (pv 1) (hr.mono (by decide)) T.it_Policy G_iter b_iter) (pg_name (i := 3) sc_Policy___init__.nd rfl (Or.inl rfl))
    (pss_cons (ps_if (PW.pt (pw_or (pt_cmpR op_notIn_seq (pv 3) (pe_glob (v := .ref _) (by rfl) T.g_RULES rfl) (by rfl)) (pw_or1 (pt_cmp (pc_din (unitsP hr) (pv 3) (pv 2)) (by rfl)))))
    (pss_one (ps_raise rfl (takes_of rfl rfl rfl rfl) (XgSup.pmk_sup T.x_PolicyError (by decide +kernel) hr (pa_cons (pv 3) pa_nil) (by rfl))))
    pss_nil)
  (pss_one (ps_asg pe_bl (pg_sub (pv 2) (pv 3) (set_dict (unitsP hr)))))))
  (pss_one (ps_fld (pv 0) (pe_callTy call_tuple_of (by rfl) T.n_tuple (by decide +kernel) (pa_cons (by exact (pe_lc (own := [("name", 3)]) (g := gName 3)  rfl sc_Policy___init__.nd (pi_tup (pe_glob (v := .ref _) (by rfl) T.g_RULES rfl)) (blkOk_by (N := ["self", "names", "told", "name"]) (sc := defScope S_Policy___init__) (by decide +kernel)) (fun _ _ _ _ _ => (by exact (pg_name (i := 3) sc_Policy___init__.nd rfl (Or.inl rfl)))) (fun _ _ _ _ _ => (by exact (pts_one (pt_cmp (pc_din (unitsP hr) (pv 3) (pv 2)) (by rfl))))) (fun _ _ _ _ _ => (by exact (pv 3))))) pa_nil)) rfl)))), ?_⟩
    refine fun tl ntl => ?_
    have s0 := same_new (o := .dK []) (Same.refl H) ntl
    refine XgOwn.for_any (K := K) (C := A.Policy) (fld := "names") (j := 1) (H := upd H tl (.dK [])) rfl hsrc s0
      (fun i σ H' => Same H H' ∧ (∃ v3, σ = [some (.ref p), some v, some (.ref tl), v3]) ∧ H' tl = some (.dK (told (zs.take i))) ∧ ∀ j, j < i → ¬ bad zs j)
      ⟨s0, ⟨_, rfl⟩, upd_same, fun j hj => absurd hj (Nat.not_lt_zero j)⟩ (fun i σ H' _ h => h.1) ?_ ?_
    · rintro i x σ H2 ex ⟨sm, ⟨v3, rfl⟩, htl, hgood⟩
      rw [List.getElem?_map] at ex
      obtain ⟨z, hzi, rfl⟩ := Option.map_eq_some_iff.mp ex
      have hi : i < zs.length := (List.getElem?_eq_some_iff.mp hzi).1
      have zl := hz z (List.mem_of_getElem? hzi)
      have fail : bad zs i → ∀ d, H2 d = none → E (.ref A.PolicyError) (some d) (upd H2 d (.xd [("name", .str z)])) := fun hb d hd => hbad i z hzi hb hgood _ d (same_new sm hd) (sm.free hd) upd_same
      refine ⟨_, rfl, A.RULES, _, rfl, .inr (strsB_sq T.s_RULES _), rfl, flat_strs _, _, rfl, ?_⟩
      show if (!inV (.str z) (L_RULES.map V.str)) = true then _ else _
      rw [inV_str]
      refine ite2 (fun c => ?_) (fun c => ?_)
      · have c' : z ∉ L_RULES := fun h => by rw [decide_eq_true h] at c; cases c
        exact iteT ⟨_, rfl, z, rfl, by omega, fun d hd => fail ⟨z, hzi, .inl c'⟩ d hd⟩
      have c' : z ∈ L_RULES := Decidable.byContradiction fun h => c (by rw [decide_eq_false h]; rfl)
      refine ⟨_, rfl, _, rfl, tl, _, rfl, DGet.k (k := Sum.inr z) htl, _, rfl, ?_⟩
      show if (valV (told (zs.take i)) (.inr z)).isSome = true then _ else _
      rw [told_has]
      refine ite2 (fun d => ?_) (fun d => ?_)
      · exact ⟨_, rfl, z, rfl, by omega, fun q hq => fail ⟨z, hzi, .inr (of_decide_eq_true d)⟩ q hq⟩
      refine ⟨_, rfl, _, rfl, tl, _, rfl, DPut.k (k := Sum.inr z) htl (lt1000 (by rw [told_len, List.length_take]; omega)), same_mut sm ntl, ⟨_, rfl⟩, ?_, fun j hj => ?_⟩
      · rw [upd_same, take_next hzi, told_more (fun h => d (decide_eq_true h))]
      · rcases Nat.lt_or_eq_of_le (Nat.le_of_lt_succ hj) with h | h
        · exact hgood j h
        · subst h
          rintro ⟨y, hy, h⟩
          rw [hzi] at hy
          cases hy
          rcases h with h | h
          · exact h c'
          · exact d (decide_eq_true h)
    · rintro σ H1 ⟨sm, ⟨v3, rfl⟩, htl, hgood⟩
      rw [List.length_map] at htl hgood
      rw [List.take_length] at htl
      have hall : ∀ i, ¬ bad zs i := fun i hb => by
        obtain ⟨z, hz, _⟩ := id hb
        exact hgood i (List.getElem?_eq_some_iff.mp hz).1 hb
      refine ⟨A.RULES, rfl, ⟨_, strsB_sq T.s_RULES _⟩, fun D nD => ?_⟩
      refine lc_it (walk_tup (K := K) (xs := L_RULES.map V.str)) (fun j H' => Same H1 H' ∧ H' D = some (.lst (((L_RULES.take j).filter fun z => decide (z ∈ zs)).map V.str))) ⟨same_new (Same.refl H1) nD, by rw [upd_same]; rfl⟩ (fun j H' _ h => same_sqT h.1 (strsB_sq T.s_RULES _)) ?_ ?_
      · rintro j x H2 H3 hj ⟨sm2, hD⟩ ⟨rfl, ex⟩
        rw [List.getElem?_map] at ex
        obtain ⟨z, hzj, rfl⟩ := Option.map_eq_some_iff.mp ex
        refine ⟨rfl, _, rfl, _, rfl, tl, _, rfl, DGet.k (k := Sum.inr z) (sm2 _ _ htl), _, rfl, ?_⟩
        show if (valV (told zs) (.inr z)).isSome = true then _ else _
        rw [told_has]
        refine ite2 (fun c => ?_) (fun c => ?_)
        · refine ⟨_, rfl, _, hD, lt1000 ?_, same_mut sm2 nD, ?_⟩
          · rw [List.length_map]
            refine Nat.le_trans (List.length_filter_le _ _) ?_
            rw [List.length_take]
            have l : L_RULES.length = 29 := by decide +kernel
            omega
          · rw [upd_same, take_next hzj, List.filter_append, List.map_append]
            simp only [List.filter_cons, c, List.filter_nil, if_true]
            rfl
        · refine ⟨sm2, ?_⟩
          rw [hD, take_next hzj, List.filter_append]
          simp only [List.filter_cons, c, List.filter_nil, Bool.false_eq_true, if_false, List.append_nil]
      · rintro H2 ⟨sm2, hD⟩
        rw [List.length_map, List.take_length] at hD
        refine ⟨D, _, rfl, .inl ⟨SqL.of hD, fun t nt => ?_⟩⟩
        have s3 := same_new (o := .tup ((sel zs).map V.str)) (sm.trans sm2) nt
        have hp3 := s3 _ _ hp
        have npt : p ≠ t := ne_of_none (sm2 _ _ (sm _ _ hp)) nt
        refine ⟨_, rfl, p, A.Policy, dx, [], rfl, hp3, T.cl_Policy, T.na_Policy_names, (by show 0 < 1000; decide), ?_⟩
        refine hok hall _ (fun b o e hb => by rw [upd_ne hb]; exact s3 _ _ e) ⟨dx, t, upd_same, ?_, (sm.trans sm2).free nt, Ne.symm npt⟩
        rw [upd_ne (Ne.symm npt), upd_same]
        rfl
end
/-! ### the rest of the class -/
def spHas (K : PySem.W.Frag) (A : Ad) : Sp := fun vs H Q _ => ∃ (p : Addr) (z : Str) (ns : List Str), vs = [.ref p, .str z] ∧ PolAt K A.Policy H p ns ∧ Q (.bl (decide (z ∈ ns))) H
def spTwo (K : PySem.W.Frag) (A : Ad) (g : List Str → List Str → List Str) : Sp := fun vs H Q _ => ∃ (p q : Addr) (ns ms : List Str), vs = [.ref p, .ref q] ∧ PolAt K A.Policy H p ns ∧ PolAt K A.Policy H q ms ∧ ns.Sublist L_RULES ∧
  ∀ H' r, Same H H' → H r = none → PolN A.Policy H H' r (g ns ms) → Q (.ref r) H'
def spFix (K : PySem.W.Frag) (A : Ad) (zs : List Str) : Sp := fun vs H Q _ => vs = [] ∧ ∀ H' r, Same H H' → H r = none → PolAt K A.Policy H' r zs → Q (.ref r) H'
def orL (ns ms : List Str) : List Str := L_RULES.filter fun z => decide (z ∈ ns) || decide (z ∈ ms)
def subL (ns ms : List Str) : List Str := ns.filter fun z => !decide (z ∈ ms)
theorem rul_nodup : L_RULES.Nodup := by decide +kernel
theorem rul_len {z : Str} (h : z ∈ L_RULES) : z.length ≤ 1000 := by
  have a : ∀ x ∈ L_RULES, x.length ≤ 1000 := by decide +kernel
  exact a _ h
theorem take_mem {α : Type} {l : List α} {i : Nat} {z : α} (n : l.Nodup) (h : l[i]? = some z) : z ∉ l.take i := fun hm => by
  obtain ⟨j, hj, e⟩ := List.getElem_of_mem hm
  rw [List.length_take] at hj
  obtain ⟨hi, e2⟩ := List.getElem?_eq_some_iff.mp h
  rw [List.getElem_take] at e
  exact absurd (e.trans e2.symm) (List.pairwise_iff_getElem.mp n j i (by omega) hi (by omega))
/-- names that differ, all of them rules -/
theorem good_of {zs : List Str} (n : zs.Nodup) (h : ∀ z ∈ zs, z ∈ L_RULES) (i : Nat) : ¬ bad zs i := by
  rintro ⟨z, e, h1 | h1⟩
  · exact h1 (h z (List.mem_of_getElem? e))
  · exact take_mem n e h1
theorem sub_len {zs : List Str} (s : zs.Sublist L_RULES) : zs.length ≤ 29 := by
  have l : L_RULES.length = 29 := by decide +kernel
  have := s.length_le
  omega
/-- picking the members of a part of a list gives that part -/
theorem pick_sub : ∀ {l L : List Str}, l.Sublist L → L.Nodup → (L.filter fun z => decide (z ∈ l)) = l
  | _, _, .slnil, _ => rfl
  | l, _, .cons a s, n => by
    obtain ⟨n1, n2⟩ := List.nodup_cons.mp n
    have ha : a ∉ l := fun h => n1 (s.subset h)
    rw [List.filter_cons, decide_eq_false ha]
    simp only [Bool.false_eq_true, if_false]
    exact pick_sub s n2
  | _, _, .cons₂ a s, n => by
    obtain ⟨n1, n2⟩ := List.nodup_cons.mp n
    rw [List.filter_cons, decide_eq_true List.mem_cons_self]
    simp only [if_true]
    congr 1
    rename_i l L
    refine Eq.trans (List.filter_congr fun z hz => ?_) (pick_sub s n2)
    have hza : z ≠ a := fun e => n1 (e ▸ hz)
    rw [decide_eq_decide, List.mem_cons]
    exact ⟨fun h => h.resolve_left hza, .inr⟩
theorem sel_sub {zs : List Str} (s : zs.Sublist L_RULES) : sel zs = zs := pick_sub s rul_nodup
theorem sel_congr {zs ns : List Str} (h : ∀ z, z ∈ zs ↔ z ∈ ns) : sel zs = sel ns := List.filter_congr fun z _ => by rw [decide_eq_decide]; exact h z
section
variable {P : Program} {w : World} {K : PySem.W.Frag} {mg : Str → Option Value} {base : Heap} {A : Ad}
/-- what the maker gives its callers: names that differ, all of them rules -/
theorem made {H : Hp} {Q : VK} {E : XK} {v : V} {zs : List Str} (hs : XgOwn.SrcOk K A.Policy "names" H v (zs.map V.str)) (n : zs.Nodup) (h : ∀ z ∈ zs, z ∈ L_RULES) (hl : zs.length ≤ 100)
    (q : ∀ H' x, Same H H' → H x = none → PolN A.Policy H H' x (sel zs) → Q (.ref x) H') : ∀ x dx, H x = none → H dx = none → dx ≠ x → spInit K A [.ref x, v] (upd (upd H dx (.own x)) x (.ins A.Policy dx [])) (fun v H2 => v = .non ∧ Q (.ref x) H2) E := by
  intro x dx hx hdx hne
  have s1 : Same H (upd (upd H dx (.own x)) x (.ins A.Policy dx [])) := fun b o e => by
    rw [upd_ne (ne_of_none e hx), upd_ne (ne_of_none e hdx)]
    exact e
  refine ⟨x, dx, v, zs, rfl, upd_same, ?_, hl, fun z hz => rul_len (h z hz), fun _ H' fr pa => ⟨rfl, q H' x (fun b o e => fr b o (s1 b o e) (ne_of_none e hx)) hx (pa.back s1)⟩, fun i z _ hb _ => absurd hb (good_of n h i)⟩
  obtain ⟨a, e, hh⟩ := hs
  refine ⟨a, e, ?_⟩
  rcases hh with h | h | ⟨dx, fs, t, h1, h2, h3⟩
  · exact .inl (s1.seq h)
  · exact .inr (.inl (same_sqT s1 h))
  · exact .inr (.inr ⟨dx, fs, t, s1 _ _ h1, h2, same_sqT s1 h3⟩)
end
theorem same_sqL {K : PySem.W.Frag} {H H' : Hp} {a : Addr} {xs : List V} (e : Same H H') (h : SqL K H a xs) : SqL K H' a xs := e.seq h
section
variable {P : Program} {w : World} {K : PySem.W.Frag} {mg : Str → Option Value} {base : Heap} {A : Ad}
abbrev FDi (K : PySem.W.Frag) (A : Ad) (fd : FuncData) : Prop := FunD K "__init__" "Policy.__init__" (defArgs S_Policy___init__) (defBody S_Policy___init__) (defScope S_Policy___init__) [V.ref A.nil] [] A.init fd
theorem init_b {fd : FuncData} (F : FDi K A fd) : Binds K fd ["self", "names"] [] := by
  obtain ⟨ds, v, b⟩ := F.binds1 (ps := ["self", "names"]) 2 1 (fun h => nomatch h) rfl (fun T kV doc pm an cdv ct us its h1 h2 => match us, its, h1, h2 with | [_, _], [_], _, _ => ⟨_, rfl, rfl⟩)
  cases v
  exact b
theorem init_b0 {fd : FuncData} (F : FDi K A fd) : ∃ ds, Vals [V.ref A.nil] ds ∧ Binds K fd ["self", "names"] ds :=
  F.binds1 (ps := ["self", "names"]) 1 0 (fun h => nomatch h) rfl (fun T kV doc pm an cdv ct us its h1 h2 => match us, its, h1, h2 with | [_], [_], _, _ => ⟨_, rfl, rfl⟩)
theorem ok_or {fd : FuncData} (F : Fun K "__or__" "Policy.__or__" S_Policy___or__ A.or_ fd) (T : Tp P w K mg A) : FnOk P w K mg base CX0 6 A.or_ fd ["self", "other"] (spTwo K A orL) := by
  obtain ⟨fi, Fi⟩ := T.d_init
  have G_init : FnOk P w K mg base (L2.CX P w) 4 A.init fi ["self", "names"] (spInit K A) := ok_init Fi T
  have b_init := init_b Fi
  refine F.ok sc_Policy___or__ (fun vs H Q E h => ?_) (fun cdv A' outer s H vs Q E hr h => ?_)
  · obtain ⟨p, r, ns, ms, rfl, _⟩ := h
    rfl
  · obtain ⟨p, r, ns, ms, rfl, hp, hr', hsub, q⟩ := h
    refine ⟨_, (pss_one (ps_ret (pe_make T.M_Policy G_init (hr.mono (by decide)) (by rfl) T.g_Policy b_init .nil passL (pa_cons (by exact (pe_lc (own := [("name", 2)]) (g := gName 2)  rfl sc_Policy___or__.nd (pi_tup (pe_glob (v := .ref _) (by rfl) T.g_RULES rfl)) (blkOk_by (N := ["self", "other", "name"]) (sc := defScope S_Policy___or__) (by decide +kernel)) (fun _ _ _ _ _ => (by exact (pg_name (i := 2) sc_Policy___or__.nd rfl (Or.inl rfl)))) (fun _ _ _ _ _ => (by exact (pts_one (PW.pt (pw_or (pt_cmpR (show OpR _ (compareOp .In) (rIn K false) from op_in_seq) (pv 2) (show PE _ _ (tFld K (tVar 0) "names") from pe_fld (pv 0) rfl) (by rfl)) (pw_or1 (pt_cmpR (show OpR _ (compareOp .In) (rIn K false) from op_in_seq) (pv 2) (show PE _ _ (tFld K (tVar 1) "names") from pe_fld (pv 1) rfl) (by rfl)))))))) (fun _ _ _ _ _ => (by exact (pv 2))))) pa_nil)))), ?_⟩
    refine ⟨A.RULES, rfl, ⟨_, strsB_sq T.s_RULES _⟩, fun D nD => ?_⟩
    refine lc_it (walk_tup (K := K) (xs := L_RULES.map V.str)) (fun j H' => Same H H' ∧ H' D = some (.lst (((L_RULES.take j).filter fun z => decide (z ∈ ns) || decide (z ∈ ms)).map V.str))) ⟨same_new (Same.refl H) nD, by rw [upd_same]; rfl⟩ (fun j H' _ h => same_sqT h.1 (strsB_sq T.s_RULES _)) ?_ ?_
    · rintro j x H2 H3 hj ⟨sm2, hD⟩ ⟨rfl, ex⟩
      rw [List.getElem?_map] at ex
      obtain ⟨z, hzj, rfl⟩ := Option.map_eq_some_iff.mp ex
      obtain ⟨dx1, t1, g1, k1⟩ := hp.same sm2
      obtain ⟨dx2, t2, g2, k2⟩ := hr'.same sm2
      have room : (((L_RULES.take j).filter fun z => decide (z ∈ ns) || decide (z ∈ ms)).map V.str).length < sizeLine := by
        refine lt1000 ?_
        rw [List.length_map]
        refine Nat.le_trans (List.length_filter_le _ _) ?_
        rw [List.length_take]
        have l : L_RULES.length = 29 := by decide +kernel
        omega
      have yes : (decide (z ∈ ns) || decide (z ∈ ms)) = true → ∃ acc, H3 D = some (.lst acc) ∧ acc.length < sizeLine ∧ Same H (upd H3 D (.lst (acc ++ [V.str z]))) ∧ upd H3 D (.lst (acc ++ [V.str z])) D = some (.lst (((L_RULES.take (j + 1)).filter fun z => decide (z ∈ ns) || decide (z ∈ ms)).map V.str)) := fun c => by
        refine ⟨_, hD, room, same_mut sm2 nD, ?_⟩
        rw [upd_same, take_next hzj, List.filter_append, List.map_append]
        simp only [List.filter_cons, c, List.filter_nil, if_true]
        rfl
      refine ⟨rfl, _, rfl, _, rfl, p, A.Policy, dx1, _, _, rfl, g1, T.cl_Policy, T.na_Policy_names, rfl, t1, _, rfl, .inr k1, rfl, flat_strs _, _, rfl, ?_⟩
      show if inV (.str z) (ns.map V.str) = true then _ else _
      rw [inV_str]
      refine ite2 (fun c => ?_) (fun c => ?_)
      · exact ⟨_, rfl, yes (by rw [c, Bool.true_or])⟩
      refine ⟨_, rfl, _, rfl, r, A.Policy, dx2, _, _, rfl, g2, T.cl_Policy, T.na_Policy_names, rfl, t2, _, rfl, .inr k2, rfl, flat_strs _, _, rfl, ?_⟩
      show if inV (.str z) (ms.map V.str) = true then _ else _
      rw [inV_str]
      refine ite2 (fun d => ?_) (fun d => ?_)
      · exact ⟨_, rfl, yes (by rw [d, Bool.or_true])⟩
      refine ⟨sm2, ?_⟩
      rw [hD, take_next hzj, List.filter_append]
      simp only [List.filter_cons, c, d, List.filter_nil, Bool.or_false, Bool.false_eq_true, if_false, List.append_nil]
    · rintro H2 ⟨sm2, hD⟩
      rw [List.length_map, List.take_length] at hD
      have sb : (orL ns ms).Sublist L_RULES := List.filter_sublist
      refine made (zs := orL ns ms) ⟨D, rfl, .inl (SqL.of hD)⟩ (sb.nodup rul_nodup) (fun z h => sb.subset h) (by have := sub_len sb; omega) fun H' x s hx pa => q H' x (sm2.trans s) (sm2.free hx) ?_
      rw [sel_sub sb] at pa
      exact pa.back sm2
theorem ok_sub {fd : FuncData} (F : Fun K "__sub__" "Policy.__sub__" S_Policy___sub__ A.sub fd) (T : Tp P w K mg A) : FnOk P w K mg base CX0 6 A.sub fd ["self", "other"] (spTwo K A subL) := by
  obtain ⟨fi, Fi⟩ := T.d_init
  have G_init : FnOk P w K mg base (L2.CX P w) 4 A.init fi ["self", "names"] (spInit K A) := ok_init Fi T
  have b_init := init_b Fi
  refine F.ok sc_Policy___sub__ (fun vs H Q E h => ?_) (fun cdv A' outer s H vs Q E hr h => ?_)
  · obtain ⟨p, r, ns, ms, rfl, _⟩ := h
    rfl
  · obtain ⟨p, r, ns, ms, rfl, hp, hr', hsub, q⟩ := h
    refine ⟨_, (pss_one (ps_ret (pe_make T.M_Policy G_init (hr.mono (by decide)) (by rfl) T.g_Policy b_init .nil passL (pa_cons (by exact (pe_lc (own := [("name", 2)]) (g := gName 2)  rfl sc_Policy___sub__.nd (pi_tup (pe_fld (pv 0) rfl)) (blkOk_by (N := ["self", "other", "name"]) (sc := defScope S_Policy___sub__) (by decide +kernel)) (fun _ _ _ _ _ => (by exact (pg_name (i := 2) sc_Policy___sub__.nd rfl (Or.inl rfl)))) (fun _ _ _ _ _ => (by exact (pts_one (pt_cmpR (show OpR _ (compareOp .NotIn) (rIn K true) from op_notIn_seq) (pv 2) (show PE _ _ (tFld K (tVar 1) "names") from pe_fld (pv 1) rfl) (by rfl))))) (fun _ _ _ _ _ => (by exact (pv 2))))) pa_nil)))), ?_⟩
    obtain ⟨dx1, t1, g1, k1⟩ := hp
    refine ⟨_, rfl, p, A.Policy, dx1, _, _, rfl, g1, T.cl_Policy, T.na_Policy_names, rfl, t1, rfl, ⟨_, k1⟩, fun D nD => ?_⟩
    refine lc_it (walk_tup (K := K) (xs := ns.map V.str)) (fun j H' => Same H H' ∧ H' D = some (.lst (((ns.take j).filter fun z => !decide (z ∈ ms)).map V.str))) ⟨same_new (Same.refl H) nD, by rw [upd_same]; rfl⟩ (fun j H' _ h => same_sqT h.1 k1) ?_ ?_
    · rintro j x H2 H3 hj ⟨sm2, hD⟩ ⟨rfl, ex⟩
      rw [List.getElem?_map] at ex
      obtain ⟨z, hzj, rfl⟩ := Option.map_eq_some_iff.mp ex
      obtain ⟨dx2, t2, g2, k2⟩ := hr'.same sm2
      refine ⟨rfl, _, rfl, _, rfl, r, A.Policy, dx2, _, _, rfl, g2, T.cl_Policy, T.na_Policy_names, rfl, t2, _, rfl, .inr k2, rfl, flat_strs _, _, rfl, ?_⟩
      show if (!inV (.str z) (ms.map V.str)) = true then _ else _
      rw [inV_str]
      refine ite2 (fun c => ?_) (fun c => ?_)
      · refine ⟨_, rfl, _, hD, lt1000 ?_, same_mut sm2 nD, ?_⟩
        · rw [List.length_map]
          refine Nat.le_trans (List.length_filter_le _ _) ?_
          rw [List.length_take]
          have := sub_len hsub
          omega
        · rw [upd_same, take_next hzj, List.filter_append, List.map_append]
          simp only [List.filter_cons, c, List.filter_nil, if_true]
          rfl
      · refine ⟨sm2, ?_⟩
        rw [hD, take_next hzj, List.filter_append]
        simp only [List.filter_cons, c, List.filter_nil, Bool.false_eq_true, if_false, List.append_nil]
    · rintro H2 ⟨sm2, hD⟩
      rw [List.length_map, List.take_length] at hD
      have sb : (subL ns ms).Sublist L_RULES := List.filter_sublist.trans hsub
      refine made (zs := subL ns ms) ⟨D, rfl, .inl (SqL.of hD)⟩ (sb.nodup rul_nodup) (fun z h => sb.subset h) (by have := sub_len sb; omega) fun H' x s hx pa => q H' x (sm2.trans s) (sm2.free hx) ?_
      rw [sel_sub sb] at pa
      exact pa.back sm2
end
section
variable {P : Program} {w : World} {K : PySem.W.Frag} {mg : Str → Option Value} {base : Heap} {A : Ad}
theorem ok_contains {fd : FuncData} (F : Fun K "__contains__" "Policy.__contains__" S_Policy___contains__ A.contains fd) (T : Tp P w K mg A) : FnOk P w K mg base CX0 1 A.contains fd ["self", "name"] (spHas K A) := by
  refine F.ok sc_Policy___contains__ (fun vs H Q E h => ?_) (fun cdv A' outer s H vs Q E hr h => ?_)
  · obtain ⟨p, z, ns, rfl, _⟩ := h
    rfl
  · obtain ⟨p, z, ns, rfl, ⟨⟨dx, t, h1, h2⟩⟩, q⟩ := h
    refine ⟨_, (pss_one (ps_ret (pe_cmpR op_in_seq (pv 1) (pe_fld (pv 0) rfl) (by rfl)))), ?_⟩
    refine ⟨_, rfl, _, rfl, p, A.Policy, dx, _, _, rfl, h1, T.cl_Policy, T.na_Policy_names, rfl, t, _, rfl, .inr h2, rfl, flat_strs _, ?_⟩
    show Q (.bl (inV (.str z) (ns.map V.str))) H
    rw [inV_str]
    exact q
end
def polD (zs : List Str) : D := .ins 0 ["names"] [.tup (zs.map D.str)]
def polX : List D → Option (List Str)
  | [.tup ys] => strsOf ys
  | _ => none
def polOf : D → Option (List Str)
  | .ins c ns xs => if c = 0 ∧ ns = (["names"] : List Str) then polX xs else none
  | _ => none
theorem polOf_polD (zs : List Str) : polOf (polD zs) = some zs := by
  show (if 0 = 0 ∧ ([Str.ofString "names"] : List Str) = [Str.ofString "names"] then strsOf (zs.map D.str) else none) = _
  rw [if_pos ⟨rfl, rfl⟩]
  exact strsOf_map zs
theorem polOf_some {d : D} {zs : List Str} (h : polOf d = some zs) : d = polD zs := by
  unfold polOf at h
  split at h
  · rename_i c ns xs
    split at h
    · rename_i e
      obtain ⟨rfl, rfl⟩ := e
      unfold polX at h
      split at h
      · rw [strsOf_some h]
        rfl
      · cases h
    · cases h
  · cases h
theorem dv_pol {K : PySem.W.Frag} {cl : Nat → Addr} {Hi : Hp} {v : V} {zs : List Str} (h : Dv K cl Hi v (polD zs)) : ∃ p, v = .ref p ∧ PolAt K (cl 0) Hi p zs := by
  unfold polD at h
  cases h with
  | ins h1 h2 h3 =>
    cases h3 with
    | cons a b =>
      cases b
      cases a with
      | tup a1 a2 =>
        rw [dva_strs a2] at a1
        exact ⟨_, rfl, _, _, h1, a1⟩
theorem step_pol {c : Cc} {Hi H H' : Hp} {r : Addr} {zs : List Str} (ok : Ok c Hi H) (s : Same H H') (nr : H r = none) (pn : PolN (c.cl 0) H H' r zs) :
    ∃ Hi', Step c Hi H Hi' H' ∧ Dv c.K c.cl Hi' (.ref r) (polD zs) := by
  obtain ⟨dx, t, h1, h2, nt, ne⟩ := pn.ob
  have it := ok.free nt
  have ir := ok.free nr
  have ir' : upd Hi t (.tup (zs.map V.str)) r = none := by rw [upd_ne (Ne.symm ne)]; exact ir
  have sm : Same Hi (upd (upd Hi t (.tup (zs.map V.str))) r (.ins (c.cl 0) dx [("names", V.ref t)])) := (same_upd it).trans (same_upd ir')
  have cases' : ∀ p o, upd (upd Hi t (.tup (zs.map V.str))) r (.ins (c.cl 0) dx [("names", V.ref t)]) p = some o → (H p = none ∧ H' p = some o) ∨ Hi p = some o := fun p o e => by
    by_cases hr : p = r
    · subst hr
      rw [upd_same] at e
      cases e
      exact .inl ⟨nr, h1⟩
    rw [upd_ne hr] at e
    by_cases ht : p = t
    · subst ht
      rw [upd_same] at e
      cases e
      exact .inl ⟨nt, h2⟩
    rw [upd_ne ht] at e
    exact .inr e
  refine ⟨_, ⟨sm, fun b o _ e => s b o e, fun p o e n => ?_, ok, fun p o e => ?_, ok.q.trans sm, fun b o nb e => s _ _ (ok.h b o nb e), fun p o e n => ?_, fun p hp => ?_, fun p hp => ?_⟩, .ins upd_same rfl (.cons (.tup (SqT.of ?_) dva_of_strs) .nil)⟩
  · rw [upd_ne (ne_of_none e nr), upd_ne (ne_of_none e nt)]
    exact n
  · rcases cases' p o e with h | h
    · exact h.2
    · exact s _ _ (ok.le _ _ h)
  · rcases cases' p o e with h | h
    · exact ok.free0 h.1
    · exact ok.new _ _ h n
  · obtain ⟨ps, e, t⟩ := ok.tab p hp
    exact ⟨ps, s _ _ e, t⟩
  · rw [upd_ne (fun z => ok.nTab nr (by rw [← z]; exact hp)), upd_ne (fun z => ok.nTab nt (by rw [← z]; exact hp))]
    exact ok.tabI p hp
  · rw [upd_ne ne, upd_same]
/-! ### the maker -/
def m_Policy : List D → R D := fun ds => match ds with
  | [.lst xs] => match strsOf xs with
    | some zs => if zs.Nodup ∧ ∀ z ∈ zs, z ∈ L_RULES then .ok (polD (sel zs)) else .bad
    | none => .bad
  | _ => .bad
theorem nodup_len : ∀ (L : List Str) (zs : List Str), zs.Nodup → (∀ z ∈ zs, z ∈ L) → zs.length ≤ L.length
  | L, [], _, _ => Nat.zero_le _
  | L, z :: zs, n, h => by
    obtain ⟨n1, n2⟩ := List.nodup_cons.mp n
    have m := h z List.mem_cons_self
    have := nodup_len (L.erase z) zs n2 fun y hy => (List.mem_erase_of_ne (fun e => n1 (by rw [← e]; exact hy))).mpr (h y (List.mem_cons_of_mem _ hy))
    rw [List.length_erase_of_mem m] at this
    have := List.length_pos_of_mem m
    rw [List.length_cons]
    omega
section
variable {K : PySem.W.Frag} {P : Program} {w : World} {mg : Str → Option Value} {A : Ad} {c : Cc} {W : Xd.WE} {ts : TA} {fs : Rho → R (List D)}
theorem je_mkPol (T : Tp P w c.K mg A) (ha : JA c W ts fs) (hcl : c.cl = clA A := by rfl) : JE c W (tMake A.Policy (spInit c.K A) [] E0 ts) (eCall (fun ds => noX (m_Policy ds)) fs) := fun σ ρ Hi H ok sv Q h => by
  refine ha σ ρ Hi H ok sv _ ((Meet.bind h).imp (fun ds h vs Hi1 H1 s1 d1 => ?_) fun x k => k)
  have h := noX_meet h
  unfold m_Policy at h
  split at h
  · rename_i xs
    split at h
    · rename_i zs e
      obtain ⟨⟨nd, hm⟩, h⟩ := meet_if h
      rw [strsOf_some e] at d1
      obtain ⟨v, rfl, dv⟩ := dva1 d1
      cases dv with
      | lst l1 l2 =>
        rw [dva_strs l2] at l1
        have len := nodup_len L_RULES zs nd hm
        have l29 : L_RULES.length = 29 := by decide +kernel
        refine made (K := c.K) (A := A) (zs := zs) ⟨_, rfl, .inl (SqL.of (s1.ok.le _ _ l1))⟩ nd hm (by omega) fun H' x s hx pn => ?_
        have pn' : PolN (c.cl 0) H1 H' x (sel zs) := by rw [hcl]; exact pn
        obtain ⟨Hi', st, dv⟩ := step_pol s1.ok s hx pn'
        exact h _ _ _ (s1.trans st) dv
    · exact h.elim
  · exact h.elim
def oTwoP (g : List Str → List Str → List Str) : D → D → Option D := fun a b => (polOf a).bind fun ns => (polOf b).bind fun ms => if ns.Sublist L_RULES then some (polD (g ns ms)) else none
abbrev oOrP : D → D → Option D := oTwoP orL
abbrev oSubP : D → D → Option D := oTwoP subL
theorem jo_two {g : List Str → List Str → List Str} (hcl : c.cl = clA A := by rfl) : JO c (XgOwn.rOpO A.Policy (spTwo c.K A g) E0) (oTwoP g) := fun Hi H ok x y a b d Q hx hy e q => by
  unfold oTwoP at e
  obtain ⟨ns, e1, e⟩ := Option.bind_eq_some_iff.mp e
  obtain ⟨ms, e2, e⟩ := Option.bind_eq_some_iff.mp e
  split at e
  · rename_i sb
    cases e
    rw [polOf_some e1] at hx
    rw [polOf_some e2] at hy
    obtain ⟨p, rfl, hp⟩ := dv_pol hx
    obtain ⟨r, rfl, hr⟩ := dv_pol hy
    rw [hcl] at hp hr
    have hp := hp.same ok.le
    have hr := hr.same ok.le
    obtain ⟨dx, t, o1, o2⟩ := hp.ob
    obtain ⟨dy, u, o3, o4⟩ := hr.ob
    refine ⟨p, r, dx, dy, _, _, rfl, rfl, o1, o3, p, r, ns, ms, rfl, hp, hr, sb, fun H' z s hz pn => ⟨⟨z, rfl⟩, ?_⟩⟩
    have pn' : PolN (c.cl 0) H H' z (g ns ms) := by rw [hcl]; exact pn
    obtain ⟨Hi', st, dv⟩ := step_pol ok s hz pn'
    exact q _ _ _ st dv
  · cases e
theorem jo_orP (T : Tp P w c.K mg A) (hcl : c.cl = clA A := by rfl) : JO c (XgOwn.rOpO A.Policy (spTwo c.K A orL) E0) oOrP := jo_two hcl
theorem jo_subP (T : Tp P w c.K mg A) (hcl : c.cl = clA A := by rfl) : JO c (XgOwn.rOpO A.Policy (spTwo c.K A subL) E0) oSubP := jo_two hcl
/-! ### the place of a name in a written tuple -/
def eIdx (L : List Str) (f : Rho → R D) : Rho → R D := fun ρ => (f ρ).bind fun d => ro (oIdx L d)
theorem je_idxK {a : Addr} {L : List Str} {te : TE} {f : Rho → R D} (hs : strsB c.K a L = true) (hk : ∃ o, c.K.lookup a = some o ∧ o.cls = .type "tuple" ∧ o.dict = none) (ha : JE c W te f) :
    JE c W (tBM c.K "tuple" (rIdxT c.K) (tC (.ref a)) (tCons te tNil)) (eIdx L f) := fun σ ρ Hi H ok sv Q h => by
  refine ⟨.inr (.inl ⟨rfl, hk⟩), ?_⟩
  refine ha σ ρ Hi H ok sv _ ((Meet.bind h).imp (fun d h v Hi1 H1 s1 d1 => ?_) fun x k => k)
  refine ro_meet h fun e he q => ?_
  unfold oIdx at he
  split at he
  · rename_i z
    obtain ⟨j, hj, rfl⟩ := Option.map_eq_some_iff.mp he
    cases d1
    obtain ⟨lt, e1, e2⟩ := List.findIdx?_eq_some_iff_getElem.mp hj
    refine ⟨a, L, z, j, rfl, rfl, strsB_sq hs _, ?_, fun m hm k => ?_, q _ _ _ s1 (.int _)⟩
    · rw [List.getElem?_eq_getElem lt, eq_of_beq e1]
    · obtain ⟨hl, ek⟩ := List.getElem?_eq_some_iff.mp k
      have := e2 m hm
      rw [ek] at this
      simp at this
  · cases he
end
/-! ### x in policy -/
def oInP : D → D → Option D := fun a b => match a with
  | .str z => (polOf b).map fun ns => .bl (decide (z ∈ ns))
  | _ => none
theorem jo_inP {P : Program} {w : World} {mg : Str → Option Value} {A : Ad} {c : Cc} (T : Tp P w c.K mg A) (hcl : c.cl = clA A := by rfl) : JO c (XgOwn.rInO A.Policy false (spHas c.K A) E0) oInP := fun Hi H ok x y a b d Q hx hy e q => by
  unfold oInP at e
  split at e
  · rename_i z
    obtain ⟨ns, e1, rfl⟩ := Option.map_eq_some_iff.mp e
    rw [polOf_some e1] at hy
    obtain ⟨p, rfl, hp⟩ := dv_pol hy
    rw [hcl] at hp
    have hp := hp.same ok.le
    obtain ⟨dx, t, o1, o2⟩ := hp.ob
    cases hx
    exact ⟨p, dx, _, rfl, o1, p, z, ns, rfl, hp, _, rfl, q _ _ _ (Step.refl ok) (.bl _)⟩
  · cases e
end P67
namespace P67
open PySem L2 Xg Xd
def g_is_polled : MS :=
  (sRet (eOr (e2 oInP (eC (.str "poll_entry")) (eVar 0)) (eAnd (e2 oInP (eC (.str "poll_backward")) (eVar 0)) (e2 oLe (eVar 2) (eVar 1)))))
def m_is_polled : List D → R D := fun ds => noX (runD 3 3 g_is_polled ds)
def g_always_polled : MS :=
  (sRet (eOr (e2 oInP (eC (.str "no_links")) (eVar 0)) (eOr (e2 oInP (eC (.str "poll_entry")) (eVar 0)) (e2 oInP (eC (.str "poll_backward")) (eVar 0)))))
def m_always_polled : List D → R D := fun ds => noX (runD 1 1 g_always_polled ds)
def g__law_pick : MS :=
  (sSeq (sSet 3 (eC (.int 0)))
  (sSeq (sIf (bTest (e2 oLt (eVar 1) (eCB cLen (aCons (eVar 0) aNil))))
    (sSet 3 (e2 oIx (eVar 0) (eVar 1)))
    sNext)
  (sSeq (sIf (bTest (e2 oLt (e2 oAdd (eVar 1) (eC (.int 1))) (eCB cLen (aCons (eVar 0) aNil))))
    (sSet 3 (e2 oAdd (eVar 3) (e2 oMul (eC (.int 16)) (e2 oIx (eVar 0) (e2 oAdd (eVar 1) (eC (.int 1)))))))
    sNext)
  (sRet (e2 oMod (eCB cInt (aCons (eVar 3) aNil)) (eVar 2))))))
def m__law_pick : List D → R D := fun ds => noX (runD 4 3 g__law_pick ds)
def g__law_rules : MS :=
  (sSeq (sSet 0 (eC (.str "invalidate_store invalidate_device track_frames track_prepared track_second invalidate_map")))
  (sSeq (sSet 0 (e2 oAdd (eVar 0) (eC (.str " invalidate_rights key_level leave_self leave_other cut_links clear_links hold_slot check_entry"))))
  (sSeq (sSet 0 (e2 oAdd (eVar 0) (eC (.str " stop_page stop_store no_links single eager flush_exit flush_source keep_dropped map_inspect"))))
  (sSeq (sSet 0 (e2 oAdd (eVar 0) (eC (.str " map_fault flush_fault map_leave prompt_store poll_entry poll_backward"))))
  (sRetL (lM1 mSplitL (eVar 0) (eC (.str " "))))))))
def m__law_rules : List D → R (List D) := fun ds => noX (runL 1 0 g__law_rules ds)
def g__law_flag : MS :=
  (sRet (eAnd (eCB cIsi (aCons (eVar 0) (aCons (eC (.opq (.ty "bool"))) aNil))) (e2 oEq (eVar 0) (eVar 1))))
def m__law_flag : List D → R D := fun ds => noX (runD 2 2 g__law_flag ds)
def g__law_polls : MS :=
  (sSeq (sIf (bTest (e2 oIn (eC (.str "poll_entry")) (eVar 0)))
    (sRet (eC (.bl true)))
    sNext)
  (sRet (eAnd (e2 oIn (eC (.str "poll_backward")) (eVar 0)) (e2 oLe (eVar 2) (eVar 1)))))
def m__law_polls : List D → R D := fun ds => noX (runD 3 3 g__law_polls ds)
def g__law_near : MS :=
  (sSeq (sFor (iSeq (eFz (lLst (aCons (e2 oSub (eVar 2) (eC (.int 1))) (aCons (eVar 2) (aCons (e2 oAdd (eVar 2) (eC (.int 1))) (aCons (eC (.int 0)) (aCons (eC (.int 63)) aNil)))))))) (gN 3)
    (sIf (bAnd (bTest (eChain oLe oLt (eC (.int 0)) (eVar 3) (eC (.int 64)))) (bNot (bTest (eCall (fun ds => noX (m__law_flag ds)) (aCons (eCall (fun ds => noX (m_is_polled ds)) (aCons (eVar 0) (aCons (eVar 2) (aCons (eVar 3) aNil)))) (aCons (eCall (fun ds => noX (m__law_polls ds)) (aCons (eVar 1) (aCons (eVar 2) (aCons (eVar 3) aNil)))) aNil))))))
    (sRet (eC (.bl false)))
    sNext))
  (sRet (eC (.bl true))))
def m__law_near : List D → R D := fun ds => noX (runD 4 3 g__law_near ds)
section
variable {P : Program} {w : World} {K : PySem.W.Frag} {mg : Str → Option Value} {base : Heap} {A : Ad}
theorem ok_is_polled {fd : FuncData} (F : Fun K "is_polled" "is_polled" S_is_polled A.is_polled fd) (T : Tp P w K mg A) : FnOk P w K mg base CX0 2 A.is_polled fd ["policy", "entry", "target"] (spD K (clA A) (tbA A) m_is_polled) := by
  obtain ⟨fin_, Fin_, b_in⟩ := T.d_contains
  have G_in : FnOk P w K mg base CX0 1 A.contains fin_ ["self", "name"] (spHas K A) := ok_contains Fin_ T
  refine okD (k := 1) F sc_is_polled fun cdv A' outer s H Hq E hr => ?_
  refine ⟨_, (pss_one (ps_ret (pe_or (pe_cmpR (XgOwn.op_inO G_in (hr.mono (by decide)) b_in pass0 T.in_Policy T.inF_Policy) pe_str (pv 0) (by rfl)) (pe_one (pe_and (pe_cmpR (XgOwn.op_inO G_in (hr.mono (by decide)) b_in pass0 T.in_Policy T.inF_Policy) pe_str (pv 0) (by rfl)) (pe_one (pe_cmpR op_le (pv 2) (pv 1) (nomark _)))))))), ?_⟩
  exact (js_ret (je_or (je_op (jo_inP T) je_str (je_var 0)) (je_and (je_op (jo_inP T) je_str (je_var 0)) (je_op jo_le (je_var 2) (je_var 1)))))
theorem ok_always_polled {fd : FuncData} (F : Fun K "always_polled" "always_polled" S_always_polled A.always_polled fd) (T : Tp P w K mg A) : FnOk P w K mg base CX0 2 A.always_polled fd ["policy"] (spD K (clA A) (tbA A) m_always_polled) := by
  obtain ⟨fin_, Fin_, b_in⟩ := T.d_contains
  have G_in : FnOk P w K mg base CX0 1 A.contains fin_ ["self", "name"] (spHas K A) := ok_contains Fin_ T
  refine okD (k := 1) F sc_always_polled fun cdv A' outer s H Hq E hr => ?_
  refine ⟨_, (pss_one (ps_ret (pe_or (pe_cmpR (XgOwn.op_inO G_in (hr.mono (by decide)) b_in pass0 T.in_Policy T.inF_Policy) pe_str (pv 0) (by rfl)) (pe_or (pe_cmpR (XgOwn.op_inO G_in (hr.mono (by decide)) b_in pass0 T.in_Policy T.inF_Policy) pe_str (pv 0) (by rfl)) (pe_one (pe_cmpR (XgOwn.op_inO G_in (hr.mono (by decide)) b_in pass0 T.in_Policy T.inF_Policy) pe_str (pv 0) (by rfl))))))), ?_⟩
  exact (js_ret (je_or (je_op (jo_inP T) je_str (je_var 0)) (je_or (je_op (jo_inP T) je_str (je_var 0)) (je_op (jo_inP T) je_str (je_var 0)))))
theorem ok__law_pick {fd : FuncData} (F : Fun K "_law_pick" "_law_pick" S__law_pick A._law_pick fd) (T : Tp P w K mg A) : FnOk P w K mg base CX0 1 A._law_pick fd ["_law_row_here", "_law_at", "_law_limit"] (spD K (clA A) (tbA A) m__law_pick) := by
  refine okD (k := 0) F sc__law_pick fun cdv A' outer s H Hq E hr => ?_
  refine ⟨_, (pss_cons (ps_set (i := 3) sc__law_pick.nd rfl (Or.inl rfl) pe_int)
  (pss_cons (ps_if (pt_cmpR op_lt (pv 1) (pe_callB (show CallR _ (.builtin "len") (rLenX K) from call_lenX) (by rfl) T.n_len PySem.boot_len (pa_cons (pv 0) pa_nil)) (nomark _))
    (pss_one (ps_set (i := 3) sc__law_pick.nd rfl (Or.inl rfl) (pe_ix (show IxR _ (rIx K) from ix_X) (pv 0) (pv 1) (fun _ _ => rfl))))
    pss_nil)
  (pss_cons (ps_if (pt_cmpR op_lt (pe_op (show OpR _ (binaryOp .Add) (rAddX K) from op_addX) (pv 1) pe_int) (pe_callB (show CallR _ (.builtin "len") (rLenX K) from call_lenX) (by rfl) T.n_len PySem.boot_len (pa_cons (pv 0) pa_nil)) (nomark _))
    (pss_one (ps_set (i := 3) sc__law_pick.nd rfl (Or.inl rfl) (pe_op (show OpR _ (binaryOp .Add) (rAddX K) from op_addX) (pv 3) (pe_op (show OpR _ (binaryOp .Mult) (rMulX K) from op_mulX) pe_int (pe_ix (show IxR _ (rIx K) from ix_X) (pv 0) (pe_op (show OpR _ (binaryOp .Add) (rAddX K) from op_addX) (pv 1) pe_int) (fun _ _ => rfl))))))
    pss_nil)
  (pss_one (ps_ret (pe_op op_mod (pe_callTy (show CallR _ (.type "int") rIntX from call_intX) (by rfl) T.n_int (by decide +kernel) (pa_cons (pv 3) pa_nil)) (pv 2))))))), ?_⟩
  exact (js_seq (js_set 3 je_int)
  (js_seq (js_if (jt_test (je_op jo_lt (je_var 1) (je_cb jc_len (ja_cons (je_var 0) ja_nil))))
    (js_set 3 (je_op jo_ix (je_var 0) (je_var 1)))
    js_next)
  (js_seq (js_if (jt_test (je_op jo_lt (je_op jo_add (je_var 1) je_int) (je_cb jc_len (ja_cons (je_var 0) ja_nil))))
    (js_set 3 (je_op jo_add (je_var 3) (je_op jo_mul je_int (je_op jo_ix (je_var 0) (je_op jo_add (je_var 1) je_int)))))
    js_next)
  (js_ret (je_op jo_mod (je_cb jc_int (ja_cons (je_var 3) ja_nil)) (je_var 2))))))
theorem ok__law_rules {fd : FuncData} (F : Fun K "_law_rules" "_law_rules" S__law_rules A._law_rules fd) (T : Tp P w K mg A) : FnOk P w K mg base CX0 1 A._law_rules fd [] (spL K (clA A) (tbA A) m__law_rules) := by
  refine okL (k := 0) F sc__law_rules fun cdv A' outer s H Hq E hr => ?_
  refine ⟨_, (pss_cons (ps_set (i := 0) sc__law_rules.nd rfl (Or.inl rfl) pe_str)
  (pss_cons (ps_set (i := 0) sc__law_rules.nd rfl (Or.inl rfl) (pe_op (show OpR _ (binaryOp .Add) (rAddX K) from op_addX) (pv 0) pe_str))
  (pss_cons (ps_set (i := 0) sc__law_rules.nd rfl (Or.inl rfl) (pe_op (show OpR _ (binaryOp .Add) (rAddX K) from op_addX) (pv 0) pe_str))
  (pss_cons (ps_set (i := 0) sc__law_rules.nd rfl (Or.inl rfl) (pe_op (show OpR _ (binaryOp .Add) (rAddX K) from op_addX) (pv 0) pe_str))
  (pss_one (ps_ret (pe_split (pv 0) pe_str))))))), ?_⟩
  exact (js_seq (js_set 0 je_str)
  (js_seq (js_set 0 (je_op jo_add (je_var 0) je_str))
  (js_seq (js_set 0 (je_op jo_add (je_var 0) je_str))
  (js_seq (js_set 0 (je_op jo_add (je_var 0) je_str))
  (js_retL (jl_m1 jml_split (je_var 0) je_str))))))
theorem ok__law_flag {fd : FuncData} (F : Fun K "_law_flag" "_law_flag" S__law_flag A._law_flag fd) (T : Tp P w K mg A) : FnOk P w K mg base CX0 1 A._law_flag fd ["_law_actual", "_law_expected"] (spD K (clA A) (tbA A) m__law_flag) := by
  refine okD (k := 0) F sc__law_flag fun cdv A' outer s H Hq E hr => ?_
  refine ⟨_, (pss_one (ps_ret (pe_and (pe_callB (show CallR _ (.builtin "isinstance") (rIsi K) from call_isi) (by rfl) T.n_isinstance (by decide +kernel) (pa_cons (pv 0) (pa_cons (pe_bltn (v := .ty "bool") (by rfl) T.n_bool (by decide +kernel) rfl) pa_nil))) (pe_one (pe_cmpR (show OpR _ (compareOp .Eq) (rEqX K) from op_eqX hr.units) (pv 0) (pv 1) (nomark _)))))), ?_⟩
  exact (js_ret (je_and (je_cb (jc_isi T.kit) (ja_cons (je_var 0) (ja_cons je_opq ja_nil))) (je_op jo_eq (je_var 0) (je_var 1))))
theorem ok__law_polls {fd : FuncData} (F : Fun K "_law_polls" "_law_polls" S__law_polls A._law_polls fd) (T : Tp P w K mg A) : FnOk P w K mg base CX0 1 A._law_polls fd ["_law_names", "_law_entry", "_law_target"] (spD K (clA A) (tbA A) m__law_polls) := by
  refine okD (k := 0) F sc__law_polls fun cdv A' outer s H Hq E hr => ?_
  refine ⟨_, (pss_cons (ps_if (pt_cmpR (show OpR _ (compareOp .In) (rInX K) from op_inX) pe_str (pv 0) (by rfl))
    (pss_one (ps_ret pe_bl))
    pss_nil)
  (pss_one (ps_ret (pe_and (pe_cmpR (show OpR _ (compareOp .In) (rInX K) from op_inX) pe_str (pv 0) (by rfl)) (pe_one (pe_cmpR op_le (pv 2) (pv 1) (nomark _))))))), ?_⟩
  exact (js_seq (js_if (jt_test (je_op jo_in je_str (je_var 0)))
    (js_ret je_bl)
    js_next)
  (js_ret (je_and (je_op jo_in je_str (je_var 0)) (je_op jo_le (je_var 2) (je_var 1)))))
theorem ok__law_near {fd : FuncData} (F : Fun K "_law_near" "_law_near" S__law_near A._law_near fd) (T : Tp P w K mg A) : FnOk P w K mg base CX0 3 A._law_near fd ["_law_policy", "_law_names", "_law_entry"] (spD K (clA A) (tbA A) m__law_near) := by
  obtain ⟨fd__law_flag, F__law_flag, b__law_flag⟩ := T.d__law_flag.ex
  have G__law_flag : FnOk P w K mg base CX0 1 A._law_flag fd__law_flag ["_law_actual", "_law_expected"] (spD K (clA A) (tbA A) m__law_flag) := ok__law_flag F__law_flag T
  obtain ⟨fd__law_polls, F__law_polls, b__law_polls⟩ := T.d__law_polls.ex
  have G__law_polls : FnOk P w K mg base CX0 1 A._law_polls fd__law_polls ["_law_names", "_law_entry", "_law_target"] (spD K (clA A) (tbA A) m__law_polls) := ok__law_polls F__law_polls T
  obtain ⟨fd_is_polled, F_is_polled, b_is_polled⟩ := T.d_is_polled.ex
  have G_is_polled : FnOk P w K mg base CX0 2 A.is_polled fd_is_polled ["policy", "entry", "target"] (spD K (clA A) (tbA A) m_is_polled) := ok_is_polled F_is_polled T
  refine okD (k := 2) F sc__law_near fun cdv A' outer s H Hq E hr => ?_
  refine ⟨_, (pss_cons (ps_for PassesOwn.never rfl (show PI _ _ _ (tiX K _) from pi_X (pe_lst (pa_cons (pe_op op_sub (pv 2) pe_int) (pa_cons (pv 2) (pa_cons (pe_op (show OpR _ (binaryOp .Add) (rAddX K) from op_addX) (pv 2) pe_int) (pa_cons pe_int (pa_cons pe_int pa_nil))))))) (pg_name (i := 3) sc__law_near.nd rfl (Or.inl rfl))
    (pss_one (ps_if (PW.pt (pw_and (pt_chain op_le op_lt pe_int (pv 3) pe_int) (pw_and1 (pt_not (pt_val (pe_call G__law_flag (hr.mono (by decide)) (by rfl) T.d__law_flag.g T.d__law_flag.k b__law_flag .nil pass0 (pa_cons (pe_call G_is_polled (hr.mono (by decide)) (by rfl) T.d_is_polled.g T.d_is_polled.k b_is_polled .nil pass0 (pa_cons (pv 0) (pa_cons (pv 2) (pa_cons (pv 3) pa_nil)))) (pa_cons (pe_call G__law_polls (hr.mono (by decide)) (by rfl) T.d__law_polls.g T.d__law_polls.k b__law_polls .nil pass0 (pa_cons (pv 1) (pa_cons (pv 2) (pa_cons (pv 3) pa_nil)))) pa_nil))))))))
    (pss_one (ps_ret pe_bl))
    pss_nil)))
  (pss_one (ps_ret pe_bl))), ?_⟩
  exact (js_seq (js_for (ji_seq (je_fz (jl_lst (ja_cons (je_op jo_sub (je_var 2) je_int) (ja_cons (je_var 2) (ja_cons (je_op jo_add (je_var 2) je_int) (ja_cons je_int (ja_cons je_int ja_nil)))))))) (jg_name 3)
    (js_if (jt_and (jt_test (je_chain jo_le jo_lt je_int (je_var 3) je_int)) (jt_not (jt_B (je_call0 (ja_cons (je_call0 (ja_cons (je_var 0) (ja_cons (je_var 2) (ja_cons (je_var 3) ja_nil)))) (ja_cons (je_call0 (ja_cons (je_var 1) (ja_cons (je_var 2) (ja_cons (je_var 3) ja_nil)))) ja_nil))))))
    (js_ret je_bl)
    js_next))
  (js_ret je_bl))
end
end P67
namespace P67
open PySem L2 Xg Xd CwR
def g_rest : MS :=
  (sSeq (sSet 2 (eFz (lCall (fun ds => noX (m__law_rules ds)) aNil)))
  (sSeq (sSet 4 (eFz (lLc (iR1 (aCons (eC (.int 29)) aNil)) (gN 3) (bTest (e2 oEq (eCall (fun ds => noX (m__law_pick ds)) (aCons (eVar 1) (aCons (e2 oAdd (eC (.int 26)) (eVar 3)) (aCons (eC (.int 2)) aNil)))) (eC (.int 1)))) (e2 oIx (eVar 2) (eVar 3)) [3])))
  (sSeq (sSet 5 (eFz (lLc (iR1 (aCons (e2 oAdd (eC (.int 1)) (eCall (fun ds => noX (m__law_pick ds)) (aCons (eVar 1) (aCons (eC (.int 0)) (aCons (eC (.int 12)) aNil))))) aNil)) (gN 3) bYes (eCall (fun ds => noX (m__law_pick ds)) (aCons (eVar 1) (aCons (e2 oAdd (eC (.int 2)) (e2 oMul (eC (.int 2)) (eVar 3))) (aCons (eC (.int 64)) aNil)))) [3])))
  (sSeq (sSet 6 (eCall (fun ds => noX (m_Policy ds)) (aCons (eVar 4) aNil)))
  (sSeq (sSet 7 (eC (.int 0)))
  (sSeq (sFor (iR1 (aCons (eCB cLen (aCons (eVar 5) aNil)) aNil)) (gN 3)
    (sSeq (sSet 8 (e2 oIx (eVar 5) (e2 oMod (eCB cInt (aCons (e2 oAdd (eVar 3) (eC (.int 1))) aNil)) (eCB cLen (aCons (eVar 5) aNil)))))
  (sSeq (sSet 9 (eCall (fun ds => noX (m_is_polled ds)) (aCons (eVar 6) (aCons (e2 oIx (eVar 5) (eVar 3)) (aCons (eVar 8) aNil)))))
  (sSeq (sIf (bOr (bNot (bTest (eCall (fun ds => noX (m__law_flag ds)) (aCons (eVar 9) (aCons (eCall (fun ds => noX (m__law_polls ds)) (aCons (eVar 4) (aCons (e2 oIx (eVar 5) (eVar 3)) (aCons (eVar 8) aNil)))) aNil))))) (bNot (bTest (eCall (fun ds => noX (m__law_near ds)) (aCons (eVar 6) (aCons (eVar 4) (aCons (e2 oIx (eVar 5) (eVar 3)) aNil)))))))
    (sRet (eC (.bl false)))
    sNext)
  (sIf (bTest (eVar 9))
    (sSet 7 (e2 oAdd (eVar 7) (eC (.int 1))))
    sNext)))))
  (sSeq (sSet 10 (eOr (e2 oIn (eC (.str "no_links")) (eVar 4)) (eOr (e2 oIn (eC (.str "poll_entry")) (eVar 4)) (e2 oIn (eC (.str "poll_backward")) (eVar 4)))))
  (sSeq (sIf (bOr (bNot (bTest (eCall (fun ds => noX (m__law_flag ds)) (aCons (eCall (fun ds => noX (m_always_polled ds)) (aCons (eVar 6) aNil)) (aCons (eVar 10) aNil))))) (bTest (e2 oNe (eFz (lCB cListL (aCons (eFld 0 "names" (eVar 6)) aNil))) (eVar 4))))
    (sRet (eC (.bl false)))
    sNext)
  (sSeq (sIf (bTest (e2 oIn (eC (.str "no_links")) (eVar 4)))
    (sRet (eC (.bl true)))
    sNext)
  (sRet (e2 oEq (e2 oGt (eVar 7) (eC (.int 0))) (eCall (fun ds => noX (m_always_polled ds)) (aCons (eVar 6) aNil)))))))))))))
section
variable {P : Program} {w : World} {K : PySem.W.Frag} {mg : Str → Option Value} {base : Heap} {A : Ad}
theorem ok__law_row {fd : FuncData} (F : Fun K "_law_row" "_law_row" S__law_row A._law_row fd) (T : Tp P w K mg A) : FnOk P w K mg base CX0 1 A._law_row fd ["_law_script", "_law_most"] (spRow K) := by
  refine F.ok sc__law_row (fun vs H Q E h => ?_) (fun cdv A' outer s H vs Q E hr h => ?_)
  · obtain ⟨a, ns, m, rfl, _⟩ := h
    rfl
  · obtain ⟨a, ns, m, rfl, hS, hl, hm0, hm1, hok⟩ := h
    refine ⟨_, (pss_cons (ps_set (i := 2) sc__law_row.nd rfl (Or.inl rfl) (pe_lst pa_nil))
  (pss_cons (ps_for PassesOwn.never rfl (pi_list (pv 0)) (pg_name (i := 3) sc__law_row.nd rfl (Or.inl rfl))
    (pss_cons (ps_set (i := 4) sc__law_row.nd rfl (Or.inl rfl) (pe_callB call_abs (by rfl) T.n_abs (by decide +kernel) (pa_cons (pe_callTy call_int1 (by rfl) T.n_int (by decide +kernel) (pa_cons (pv 3) pa_nil)) pa_nil)))
  (pss_one (ps_for PassesOwn.never rfl (pi_range1 (by rfl) T.n_range (pa_cons pe_int pa_nil)) (pg_name (i := 5) sc__law_row.nd rfl (Or.inl rfl))
    (pss_cons (ps_if (pt_cmpR op_lt (pe_callB call_len_seq (by rfl) T.n_len PySem.boot_len (pa_cons (pv 2) pa_nil)) (pv 1) (nomark _))
    (pss_one (ps_expr (pe_bm PySem.F.plainAttrs_list PySem.F.slot_list_append PySem.F.type_list_append mt_append (pv 2) (pa_cons (pe_op op_mod (pv 4) pe_int) pa_nil))))
    pss_nil)
  (pss_cons (ps_set (i := 4) sc__law_row.nd rfl (Or.inl rfl) (pe_op op_fdiv (pv 4) pe_int))
  (pss_one (ps_if (pt_cmpR op_eq (pv 4) pe_int (nomark _))
    (pss_one ps_break)
    pss_nil))))))))
  (pss_one (ps_ret (pv 2))))), ?_⟩
    refine ⟨(by show 0 ≤ sizeLine; decide), fun p np => ⟨_, rfl, a, rfl, ⟨_, same_sqL (same_new (Same.refl H) np) hS⟩, for_it (walk_list (xs := ns.map V.int)) (fun _ σ H' => Same H H' ∧ (∃ v3 v4 v5, σ = [some (.ref a), some (.int m), some (.ref p), v3, v4, v5]) ∧ ∃ row : List Int, H' p = some (.lst (row.map V.int)) ∧ (row.length : Int) ≤ m ∧ Dig row) ⟨same_new (Same.refl H) np, ⟨_, _, _, rfl⟩, [], upd_same, by simpa using hm0, dig_nil⟩ (fun i σ H' _ h => same_sqL h.1 hS) ?_ ?_⟩⟩
    · rintro i x σ H1 H2 hi ⟨sm, ⟨v3, v4, v5, rfl⟩, row, hp, hlen, hd⟩ ⟨rfl, ex⟩
      rw [List.getElem?_map] at ex
      obtain ⟨n, hn, rfl⟩ := Option.map_eq_some_iff.mp ex
      refine ⟨_, rfl, .inl ⟨n, rfl, n, rfl, 60, rfl, by decide, by decide, ?_⟩⟩
      refine for_it walk_range (fun _ σ H' => Same H H' ∧ (∃ r v5, 0 ≤ r ∧ σ = [some (.ref a), some (.int m), some (.ref p), some (.int n), some (.int r), v5]) ∧ ∃ row : List Int, H' p = some (.lst (row.map V.int)) ∧ (row.length : Int) ≤ m ∧ Dig row) ⟨sm, ⟨_, _, ?_, rfl⟩, row, hp, hlen, hd⟩ (fun _ _ _ _ _ => True.intro) ?_ ?_
      · split <;> omega
      · rintro j x σ H2 H3 hj ⟨sm2, ⟨r, v5, hr0, rfl⟩, row2, hp2, hlen2, hd2⟩ ⟨rfl, rfl⟩
        refine ⟨_, rfl, p, _, rfl, .inl (SqL.of hp2), _, rfl, _, _, rfl, rfl, _, rfl, ?_⟩
        rw [List.length_map]
        refine ite2 (fun c => ?_) (fun c => ?_)
        · have c' : (row2.length : Int) < m := of_decide_eq_true c
          refine ⟨_, rfl, .inl ⟨rfl, _, SqL.of hp2⟩, _, rfl, _, _, rfl, rfl, (by show (0 : Int) < 16; decide), p, _, _, rfl, rfl, hp2, lt1000 (by rw [List.length_map]; omega), ?_⟩
          have s3 := same_mut (o := .lst (row2.map V.int ++ [V.int (r % 16)])) sm2 np
          refine ⟨_, rfl, _, _, rfl, rfl, ⟨by decide, by decide⟩, _, rfl, rfl, _, rfl, ite2 (fun d => ?_) (fun d => ?_)⟩
          · exact ⟨s3, ⟨_, _, _, rfl⟩, row2 ++ [r % 16], (by rw [upd_same, List.map_append]; rfl), (by rw [List.length_append]; show ((row2.length + 1 : Nat) : Int) ≤ m; omega), dig_more hd2 (by omega) (by omega)⟩
          · exact ⟨s3, ⟨_, _, by omega, rfl⟩, row2 ++ [r % 16], (by rw [upd_same, List.map_append]; rfl), (by rw [List.length_append]; show ((row2.length + 1 : Nat) : Int) ≤ m; omega), dig_more hd2 (by omega) (by omega)⟩
        · refine ⟨_, rfl, _, _, rfl, rfl, ⟨by decide, by decide⟩, _, rfl, rfl, _, rfl, ite2 (fun d => ?_) (fun d => ?_)⟩
          · exact ⟨sm2, ⟨_, _, _, rfl⟩, row2, hp2, hlen2, hd2⟩
          · exact ⟨sm2, ⟨_, _, by omega, rfl⟩, row2, hp2, hlen2, hd2⟩
      · rintro σ H2 ⟨sm2, ⟨r, v5, hr0, rfl⟩, h⟩
        exact ⟨sm2, ⟨_, _, _, rfl⟩, h⟩
    · rintro σ H1 ⟨sm, ⟨v3, v4, v5, rfl⟩, row, hp, hlen, hd⟩
      exact ⟨_, rfl, hok H1 p row sm np hp hlen hd⟩

theorem ok_law {fd : FuncData} {f : Addr} (F : Fun K "law" "law" S_law f fd) (T : Tp P w K mg A) (hlaw : ∀ row : List Int, Dig row → row.length ≤ 60 → g_rest (((List.replicate 11 Sl.un : Rho).set 1 (.val (.lst (row.map D.int)))) : Rho) = some (.rt (.bl true))) : FnOk P w K mg base CX0 6 f fd ["_law_script"] (spLaw K) := by
  obtain ⟨fi, Fi⟩ := T.d_init
  have G_init : FnOk P w K mg base (L2.CX P w) 4 A.init fi ["self", "names"] (spInit K A) := ok_init Fi T
  have b_init := init_b Fi
  obtain ⟨fd__law_flag, F__law_flag, b__law_flag⟩ := T.d__law_flag.ex
  have G__law_flag : FnOk P w K mg base CX0 1 A._law_flag fd__law_flag ["_law_actual", "_law_expected"] (spD K (clA A) (tbA A) m__law_flag) := ok__law_flag F__law_flag T
  obtain ⟨fd__law_near, F__law_near, b__law_near⟩ := T.d__law_near.ex
  have G__law_near : FnOk P w K mg base CX0 3 A._law_near fd__law_near ["_law_policy", "_law_names", "_law_entry"] (spD K (clA A) (tbA A) m__law_near) := ok__law_near F__law_near T
  obtain ⟨fd__law_pick, F__law_pick, b__law_pick⟩ := T.d__law_pick.ex
  have G__law_pick : FnOk P w K mg base CX0 1 A._law_pick fd__law_pick ["_law_row_here", "_law_at", "_law_limit"] (spD K (clA A) (tbA A) m__law_pick) := ok__law_pick F__law_pick T
  obtain ⟨fd__law_polls, F__law_polls, b__law_polls⟩ := T.d__law_polls.ex
  have G__law_polls : FnOk P w K mg base CX0 1 A._law_polls fd__law_polls ["_law_names", "_law_entry", "_law_target"] (spD K (clA A) (tbA A) m__law_polls) := ok__law_polls F__law_polls T
  obtain ⟨fd__law_row, F__law_row, b__law_row⟩ := T.d__law_row.ex
  have G__law_row : FnOk P w K mg base CX0 1 A._law_row fd__law_row ["_law_script", "_law_most"] (spRow K) := ok__law_row F__law_row T
  obtain ⟨fd__law_rules, F__law_rules, b__law_rules⟩ := T.d__law_rules.ex
  have G__law_rules : FnOk P w K mg base CX0 1 A._law_rules fd__law_rules [] (spL K (clA A) (tbA A) m__law_rules) := ok__law_rules F__law_rules T
  obtain ⟨fd_always_polled, F_always_polled, b_always_polled⟩ := T.d_always_polled.ex
  have G_always_polled : FnOk P w K mg base CX0 2 A.always_polled fd_always_polled ["policy"] (spD K (clA A) (tbA A) m_always_polled) := ok_always_polled F_always_polled T
  obtain ⟨fd_is_polled, F_is_polled, b_is_polled⟩ := T.d_is_polled.ex
  have G_is_polled : FnOk P w K mg base CX0 2 A.is_polled fd_is_polled ["policy", "entry", "target"] (spD K (clA A) (tbA A) m_is_polled) := ok_is_polled F_is_polled T
  refine F.ok sc_law (fun vs H Q E h => ?_) (fun cdv A' outer s H vs Q E hr h => ?_)
  · obtain ⟨a, ns, rfl, _⟩ := h
    rfl
  · obtain ⟨a, ns, rfl, hS, hl, q⟩ := h
    refine ⟨_, (pss_cons (ps_set (i := 1) sc_law.nd rfl (Or.inr rfl) (pe_call G__law_row (hr.mono (by decide)) (by rfl) T.d__law_row.g T.d__law_row.k b__law_row .nil pass0 (pa_cons (pv 0) (pa_cons pe_int pa_nil))))
  (pss_cons (ps_set (i := 2) sc_law.nd rfl (Or.inr rfl) (pe_call0 G__law_rules (hr.mono (by decide)) (by rfl) T.d__law_rules.g T.d__law_rules.k b__law_rules .nil pass0))
  (pss_cons (ps_setLc (i := 4) (own := [("_law_k", 3)]) (g := gName 3) rfl sc_law.nd rfl rfl (sw_true rfl rfl rfl (by decide +kernel)) (pi_range1 (by rfl) T.n_range (pa_cons pe_int pa_nil)) (blkOk_by (N := ["_law_script", "_law_row_here", "_law_rules_here", "_law_k", "_law_names", "_law_ring", "_law_policy", "_law_polled", "_law_target", "_law_answer", "_law_always"]) (sc := defScope S_law) (by decide +kernel)) (fun _ _ _ _ _ => (by exact (pg_name (i := 3) sc_law.nd rfl (Or.inl rfl)))) (fun _ _ _ _ _ => (by exact (pts_one (pt_cmpR (show OpR _ (compareOp .Eq) (rEqX K) from op_eqX hr.units) (pe_call G__law_pick (hr.mono (by decide)) (by rfl) T.d__law_pick.g T.d__law_pick.k b__law_pick .nil pass0 (pa_cons (pv 1) (pa_cons (pe_op (show OpR _ (binaryOp .Add) (rAddX K) from op_addX) pe_int (pv 3)) (pa_cons pe_int pa_nil)))) pe_int (nomark _))))) (fun _ _ _ _ _ => (by exact (pe_ix (show IxR _ (rIx K) from ix_X) (pv 2) (pv 3) (fun _ _ => rfl)))))
  (pss_cons (ps_setLc (i := 5) (own := [("_law_k", 3)]) (g := gName 3) (tt := tYes) rfl sc_law.nd rfl rfl (sw_true rfl rfl rfl (by decide +kernel)) (pi_range1 (by rfl) T.n_range (pa_cons (pe_op (show OpR _ (binaryOp .Add) (rAddX K) from op_addX) pe_int (pe_call G__law_pick (hr.mono (by decide)) (by rfl) T.d__law_pick.g T.d__law_pick.k b__law_pick .nil pass0 (pa_cons (pv 1) (pa_cons pe_int (pa_cons pe_int pa_nil))))) pa_nil)) (blkOk_by (N := ["_law_script", "_law_row_here", "_law_rules_here", "_law_k", "_law_names", "_law_ring", "_law_policy", "_law_polled", "_law_target", "_law_answer", "_law_always"]) (sc := defScope S_law) (by decide +kernel)) (fun _ _ _ _ _ => (by exact (pg_name (i := 3) sc_law.nd rfl (Or.inl rfl)))) (fun _ _ _ _ _ => (by exact pts_nil)) (fun _ _ _ _ _ => (by exact (pe_call G__law_pick (hr.mono (by decide)) (by rfl) T.d__law_pick.g T.d__law_pick.k b__law_pick .nil pass0 (pa_cons (pv 1) (pa_cons (pe_op (show OpR _ (binaryOp .Add) (rAddX K) from op_addX) pe_int (pe_op (show OpR _ (binaryOp .Mult) (rMulX K) from op_mulX) pe_int (pv 3))) (pa_cons pe_int pa_nil)))))))
  (pss_cons (ps_set (i := 6) sc_law.nd rfl (Or.inl rfl) (pe_make T.M_Policy G_init (hr.mono (by decide)) (by rfl) T.g_Policy b_init .nil passL (pa_cons (pv 4) pa_nil)))
  (pss_cons (ps_set (i := 7) sc_law.nd rfl (Or.inl rfl) pe_int)
  (pss_cons (ps_for PassesOwn.never rfl (pi_range1 (by rfl) T.n_range (pa_cons (pe_callB (show CallR _ (.builtin "len") (rLenX K) from call_lenX) (by rfl) T.n_len PySem.boot_len (pa_cons (pv 5) pa_nil)) pa_nil)) (pg_name (i := 3) sc_law.nd rfl (Or.inl rfl))
    (pss_cons (ps_set (i := 8) sc_law.nd rfl (Or.inl rfl) (pe_ix (show IxR _ (rIx K) from ix_X) (pv 5) (pe_op op_mod (pe_callTy (show CallR _ (.type "int") rIntX from call_intX) (by rfl) T.n_int (by decide +kernel) (pa_cons (pe_op (show OpR _ (binaryOp .Add) (rAddX K) from op_addX) (pv 3) pe_int) pa_nil)) (pe_callB (show CallR _ (.builtin "len") (rLenX K) from call_lenX) (by rfl) T.n_len PySem.boot_len (pa_cons (pv 5) pa_nil))) (fun _ _ => rfl)))
  (pss_cons (ps_set (i := 9) sc_law.nd rfl (Or.inl rfl) (pe_call G_is_polled (hr.mono (by decide)) (by rfl) T.d_is_polled.g T.d_is_polled.k b_is_polled .nil pass0 (pa_cons (pv 6) (pa_cons (pe_ix (show IxR _ (rIx K) from ix_X) (pv 5) (pv 3) (fun _ _ => rfl)) (pa_cons (pv 8) pa_nil)))))
  (pss_cons (ps_if (PW.pt (pw_or (pt_not (pt_val (pe_call G__law_flag (hr.mono (by decide)) (by rfl) T.d__law_flag.g T.d__law_flag.k b__law_flag .nil pass0 (pa_cons (pv 9) (pa_cons (pe_call G__law_polls (hr.mono (by decide)) (by rfl) T.d__law_polls.g T.d__law_polls.k b__law_polls .nil pass0 (pa_cons (pv 4) (pa_cons (pe_ix (show IxR _ (rIx K) from ix_X) (pv 5) (pv 3) (fun _ _ => rfl)) (pa_cons (pv 8) pa_nil)))) pa_nil))))) (pw_or1 (pt_not (pt_val (pe_call G__law_near (hr.mono (by decide)) (by rfl) T.d__law_near.g T.d__law_near.k b__law_near .nil pass0 (pa_cons (pv 6) (pa_cons (pv 4) (pa_cons (pe_ix (show IxR _ (rIx K) from ix_X) (pv 5) (pv 3) (fun _ _ => rfl)) pa_nil)))))))))
    (pss_one (ps_ret pe_bl))
    pss_nil)
  (pss_one (ps_if (pt_val (pv 9))
    (pss_one (ps_set (i := 7) sc_law.nd rfl (Or.inl rfl) (pe_op (show OpR _ (binaryOp .Add) (rAddX K) from op_addX) (pv 7) pe_int)))
    pss_nil))))))
  (pss_cons (ps_set (i := 10) sc_law.nd rfl (Or.inl rfl) (pe_or (pe_cmpR (show OpR _ (compareOp .In) (rInX K) from op_inX) pe_str (pv 4) (by rfl)) (pe_or (pe_cmpR (show OpR _ (compareOp .In) (rInX K) from op_inX) pe_str (pv 4) (by rfl)) (pe_one (pe_cmpR (show OpR _ (compareOp .In) (rInX K) from op_inX) pe_str (pv 4) (by rfl))))))
  (pss_cons (ps_if (PW.pt (pw_or (pt_not (pt_val (pe_call G__law_flag (hr.mono (by decide)) (by rfl) T.d__law_flag.g T.d__law_flag.k b__law_flag .nil pass0 (pa_cons (pe_call G_always_polled (hr.mono (by decide)) (by rfl) T.d_always_polled.g T.d_always_polled.k b_always_polled .nil pass0 (pa_cons (pv 6) pa_nil)) (pa_cons (pv 10) pa_nil))))) (pw_or1 (pt_cmpR (show OpR _ (compareOp .NotEq) (rNeX K) from op_neX hr.units) (pe_callTy (show CallR _ (.type "list") _ from call_list_of) (by rfl) T.n_list (by decide +kernel) (pa_cons (pe_fld (pv 6) rfl) pa_nil)) (pv 4) (nomark _)))))
    (pss_one (ps_ret pe_bl))
    pss_nil)
  (pss_cons (ps_if (pt_cmpR (show OpR _ (compareOp .In) (rInX K) from op_inX) pe_str (pv 4) (by rfl))
    (pss_one (ps_ret pe_bl))
    pss_nil)
  (pss_one (ps_ret (pe_cmpR (show OpR _ (compareOp .Eq) (rEqX K) from op_eqX hr.units) (pe_cmpR op_gt (pv 7) pe_int (nomark _)) (pe_call G_always_polled (hr.mono (by decide)) (by rfl) T.d_always_polled.g T.d_always_polled.k b_always_polled .nil pass0 (pa_cons (pv 6) pa_nil)) (nomark _)))))))))))))), ?_⟩
    refine ⟨_, rfl, a, ns, 60, rfl, hS, hl, by decide, by decide, fun H1 p1 row s1 n1 h1 l1 d1 => ?_⟩
    refine (show JS ⟨K, clA A, fun _ => none, H, 0, tbA A⟩ W0 _ g_rest from (js_seq (js_set 2 (je_fz (jl_call0 ja_nil)))
  (js_seq (js_set 4 (je_fz (jl_lc [3] (ji_r1 (ja_cons je_int ja_nil)) (jg_name 3) (jt_test (je_op jo_eq (je_call0 (ja_cons (je_var 1) (ja_cons (je_op jo_add je_int (je_var 3)) (ja_cons je_int ja_nil)))) je_int)) (je_op jo_ix (je_var 2) (je_var 3)) (by decide))))
  (js_seq (js_set 5 (je_fz (jl_lc [3] (ji_r1 (ja_cons (je_op jo_add je_int (je_call0 (ja_cons (je_var 1) (ja_cons je_int (ja_cons je_int ja_nil))))) ja_nil)) (jg_name 3) jt_yes (je_call0 (ja_cons (je_var 1) (ja_cons (je_op jo_add je_int (je_op jo_mul je_int (je_var 3))) (ja_cons je_int ja_nil)))) (by decide))))
  (js_seq (js_set 6 (je_mkPol T (ja_cons (je_var 4) ja_nil)))
  (js_seq (js_set 7 je_int)
  (js_seq (js_for (ji_r1 (ja_cons (je_cb jc_len (ja_cons (je_var 5) ja_nil)) ja_nil)) (jg_name 3)
    (js_seq (js_set 8 (je_op jo_ix (je_var 5) (je_op jo_mod (je_cb jc_int (ja_cons (je_op jo_add (je_var 3) je_int) ja_nil)) (je_cb jc_len (ja_cons (je_var 5) ja_nil)))))
  (js_seq (js_set 9 (je_call0 (ja_cons (je_var 6) (ja_cons (je_op jo_ix (je_var 5) (je_var 3)) (ja_cons (je_var 8) ja_nil)))))
  (js_seq (js_if (jt_or (jt_not (jt_B (je_call0 (ja_cons (je_var 9) (ja_cons (je_call0 (ja_cons (je_var 4) (ja_cons (je_op jo_ix (je_var 5) (je_var 3)) (ja_cons (je_var 8) ja_nil)))) ja_nil))))) (jt_not (jt_B (je_call0 (ja_cons (je_var 6) (ja_cons (je_var 4) (ja_cons (je_op jo_ix (je_var 5) (je_var 3)) ja_nil)))))))
    (js_ret je_bl)
    js_next)
  (js_if (jt_B (je_var 9))
    (js_set 7 (je_op jo_add (je_var 7) je_int))
    js_next)))))
  (js_seq (js_set 10 (je_or (je_op jo_in je_str (je_var 4)) (je_or (je_op jo_in je_str (je_var 4)) (je_op jo_in je_str (je_var 4)))))
  (js_seq (js_if (jt_or (jt_not (jt_B (je_call0 (ja_cons (je_call0 (ja_cons (je_var 6) ja_nil)) (ja_cons (je_var 10) ja_nil))))) (jt_test (je_op jo_ne (je_fz (jl_cb jcl_list (ja_cons (je_fld (n := 0) T.cl_Policy T.na_Policy_names (je_var 6)) ja_nil))) (je_var 4))))
    (js_ret je_bl)
    js_next)
  (js_seq (js_if (jt_test (je_op jo_in je_str (je_var 4)))
    (js_ret je_bl)
    js_next)
  (js_ret (je_op jo_eq (je_op jo_gt (je_var 7) je_int) (je_call0 (ja_cons (je_var 6) ja_nil)))))))))))))) _ _ _ H1 (row_ok s1 n1 h1) ((sv_un (n := 11) rfl).setVal 1 (.lst upd_same (ints_dva row))) _ ?_
    rw [hlaw row d1 (by omega)]
    intro v Hi' H' _ _ dv
    cases dv
    exact q H'
end
end P67
namespace P67
open PySem L2 Xg Xd CwR
theorem rules_ok : m__law_rules [] = .ok (rulL.map D.str) := by kernel_rfl
theorem pick_ok (row : List Int) (hl : row.length ≤ 5000) (k : Nat) {m : Int} (hm : 0 < m) : m__law_pick [.lst (row.map D.int), .int k, .int m] = .ok (.int (Xg.pick row k m)) := Xd.pick_ok row hl k hm
theorem mPol_ok {zs : List Str} (s : zs.Sublist rulL) : m_Policy [.lst (zs.map D.str)] = .ok (polD zs) := by
  show (match strsOf (zs.map D.str) with | some zs => if zs.Nodup ∧ ∀ z ∈ zs, z ∈ L_RULES then R.ok (polD (sel zs)) else .bad | none => .bad) = _
  rw [strsOf_map]
  show (if zs.Nodup ∧ ∀ z ∈ zs, z ∈ L_RULES then R.ok (polD (sel zs)) else .bad) = _
  rw [if_pos ⟨s.nodup rul_nodup, fun z h => s.subset h⟩, sel_sub s]
theorem oInP_ok (z : Str) (zs : List Str) : oInP (.str z) (polD zs) = some (.bl (decide (z ∈ zs))) := by
  show (polOf (polD zs)).map _ = _
  rw [polOf_polD]
  rfl
abbrev pE : Str := "poll_entry"
abbrev pB : Str := "poll_backward"
def polls (zs : List Str) (e t : Int) : Bool := decide (pE ∈ zs) || (decide (pB ∈ zs) && decide (t ≤ e))
def always (zs : List Str) : Bool := decide (("no_links" : Str) ∈ zs) || (decide (pE ∈ zs) || decide (pB ∈ zs))
theorem polled_ok (zs : List Str) (e t : Int) : m_is_polled [polD zs, .int e, .int t] = .ok (.bl (polls zs e t)) := by
  refine noX_of (runD_rt rfl ?_)
  show g_is_polled [.val (polD zs), .val (.int e), .val (.int t)] = _
  unfold g_is_polled
  exact ret_ok (eor_ok (op_ok rfl rfl (oInP_ok _ _)) (eand_ok (op_ok rfl rfl (oInP_ok _ _)) (ble_ok rfl rfl)))
theorem always_ok (zs : List Str) : m_always_polled [polD zs] = .ok (.bl (always zs)) := by
  refine noX_of (runD_rt rfl ?_)
  show g_always_polled [.val (polD zs)] = _
  unfold g_always_polled
  exact ret_ok (eor_ok (op_ok rfl rfl (oInP_ok _ _)) (eor_ok (op_ok rfl rfl (oInP_ok _ _)) (op_ok rfl rfl (oInP_ok _ _))))
theorem lpolls_ok (zs : List Str) (e t : Int) : m__law_polls [.lst (zs.map D.str), .int e, .int t] = .ok (.bl (polls zs e t)) := by
  refine noX_of (runD_rt rfl ?_)
  show g__law_polls [.val (.lst (zs.map D.str)), .val (.int e), .val (.int t)] = _
  unfold g__law_polls
  have ht : bTest (e2 oIn (eC (.str "poll_entry")) (eVar 0)) [.val (.lst (zs.map D.str)), .val (.int e), .val (.int t)] = .ok (decide (pE ∈ zs)) := test_ok (op_ok rfl rfl (oIn_strs _ _))
  by_cases c : pE ∈ zs
  · rw [decide_eq_true c] at ht
    refine (seq_rt ((if_yes ht).trans rfl)).trans ?_
    unfold polls
    rw [decide_eq_true c, Bool.true_or]
  · rw [decide_eq_false c] at ht
    refine (seq_nx ((if_no ht).trans rfl)).trans (ret_ok ?_)
    unfold polls
    rw [decide_eq_false c, Bool.false_or]
    exact eand_ok (op_ok rfl rfl (oIn_strs _ _)) (ble_ok rfl rfl)
theorem flag_ok (b : Bool) : m__law_flag [.bl b, .bl b] = .ok (.bl true) := by
  refine noX_of (runD_rt rfl ?_)
  show g__law_flag [.val (.bl b), .val (.bl b)] = _
  unfold g__law_flag
  refine ret_ok (and_ok ((cb_ok (a2_ok rfl rfl)).trans rfl) (op_ok rfl rfl ((oEq_bl _ _).trans ?_)))
  rw [decide_eq_true rfl]
def nearB : MS := (sIf (bAnd (bTest (eChain oLe oLt (eC (.int 0)) (eVar 3) (eC (.int 64)))) (bNot (bTest (eCall (fun ds => noX (m__law_flag ds)) (aCons (eCall (fun ds => noX (m_is_polled ds)) (aCons (eVar 0) (aCons (eVar 2) (aCons (eVar 3) aNil)))) (aCons (eCall (fun ds => noX (m__law_polls ds)) (aCons (eVar 1) (aCons (eVar 2) (aCons (eVar 3) aNil)))) aNil))))))
    (sRet (eC (.bl false)))
    sNext)
theorem near_ok (zs : List Str) (e : Int) : m__law_near [polD zs, .lst (zs.map D.str), .int e] = .ok (.bl true) := by
  refine noX_of (runD_rt rfl ?_)
  show g__law_near [.val (polD zs), .val (.lst (zs.map D.str)), .val (.int e), .un] = _
  unfold g__law_near
  have all : ∀ x ∈ ([.int (e - 1), .int e, .int (e + 1), .int 0, .int 63] : List D), nearB (([.val (polD zs), .val (.lst (zs.map D.str)), .val (.int e), .un] : Rho).set 3 (.val x)) = some (.nx (([.val (polD zs), .val (.lst (zs.map D.str)), .val (.int e), .un] : Rho).set 3 (.val x))) := fun x hx => by
    obtain ⟨t, rfl⟩ : ∃ t : Int, x = .int t := by
      simp at hx
      rcases hx with rfl | rfl | rfl | rfl | rfl <;> exact ⟨_, rfl⟩
    unfold nearB
    have hc : ∃ b : Bool, bTest (eChain oLe oLt (eC (.int 0)) (eVar 3) (eC (.int 64))) (([.val (polD zs), .val (.lst (zs.map D.str)), .val (.int e), .un] : Rho).set 3 (.val (.int t))) = .ok b := ⟨_, test_ok (chain_ok rfl rfl rfl)⟩
    obtain ⟨b, hb⟩ := hc
    refine (if_no ?_).trans rfl
    cases b
    · exact and_no hb
    · exact and_yes hb (not_ok (b := true) (test_ok (cl2 (a2_ok (cl2 (a3_ok rfl rfl rfl) (polled_ok zs e t)) (cl2 (a3_ok rfl rfl rfl) (lpolls_ok zs e t))) (flag_ok _))))
  obtain ⟨y, ey⟩ := forR_each (j := 3) _ all .un
  exact (seq_nx ((for_ok (seq_val (fz_ok (lst_ok (xs := [.int (e - 1), .int e, .int (e + 1), .int 0, .int 63]) rfl (Nat.le_of_ble_eq_true rfl))))).trans ey)).trans rfl
/-! ### the ring -/
def nxt (ring : List Int) (k : Nat) : Int := ring.getD ((k + 1) % ring.length) 0
def pcount (zs : List Str) (ring : List Int) : Nat → Nat
  | 0 => 0
  | k + 1 => if polls zs (ring.getD k 0) (nxt ring k) = true then pcount zs ring k + 1 else pcount zs ring k
theorem pcount_pos {zs : List Str} {ring : List Int} : ∀ {n : Nat}, (0 < pcount zs ring n ↔ ∃ k, k < n ∧ polls zs (ring.getD k 0) (nxt ring k) = true)
  | 0 => ⟨fun h => absurd h (Nat.lt_irrefl 0), fun ⟨k, h, _⟩ => absurd h (Nat.not_lt_zero k)⟩
  | n + 1 => by
    have ih := pcount_pos (zs := zs) (ring := ring) (n := n)
    unfold pcount
    split
    · rename_i c
      exact ⟨fun _ => ⟨n, Nat.lt_succ_self n, c⟩, fun _ => Nat.succ_pos _⟩
    · rename_i c
      refine ih.trans ⟨fun ⟨k, h, p⟩ => ⟨k, Nat.lt_succ_of_lt h, p⟩, fun ⟨k, h, p⟩ => ⟨k, ?_, p⟩⟩
      rcases Nat.lt_or_eq_of_le (Nat.le_of_lt_succ h) with h | h
      · exact h
      · subst h
        exact absurd p c
theorem some_back {ring : List Int} (h : 0 < ring.length) : ∃ k, k < ring.length ∧ nxt ring k ≤ ring.getD k 0 := by
  refine Decidable.byContradiction fun no => ?_
  have up : ∀ k, k < ring.length → ring.getD k 0 < nxt ring k := fun k hk => by
    by_cases c : nxt ring k ≤ ring.getD k 0
    · exact absurd ⟨k, hk, c⟩ no
    · omega
  have mono : ∀ k, k < ring.length → ring.getD 0 0 ≤ ring.getD k 0 := fun k => by
    induction k with
    | zero => exact fun _ => Int.le_refl _
    | succ k ih =>
      intro hk
      have h1 := ih (by omega)
      have h2 := up k (by omega)
      unfold nxt at h2
      rw [Nat.mod_eq_of_lt hk] at h2
      omega
  have h1 := mono (ring.length - 1) (by omega)
  have h2 := up (ring.length - 1) (by omega)
  unfold nxt at h2
  rw [show ring.length - 1 + 1 = ring.length by omega, Nat.mod_self] at h2
  omega
theorem count_iff {zs : List Str} {ring : List Int} (h : 0 < ring.length) (nl : ("no_links" : Str) ∉ zs) : decide (0 < ((pcount zs ring ring.length : Nat) : Int)) = always zs := by
  unfold always
  rw [decide_eq_false nl, Bool.false_or, Bool.eq_iff_iff, decide_eq_true_eq]
  rw [show (0 < ((pcount zs ring ring.length : Nat) : Int)) ↔ 0 < pcount zs ring ring.length by omega, pcount_pos]
  constructor
  · rintro ⟨k, _, p⟩
    unfold polls at p
    cases c : decide (pE ∈ zs)
    · rw [c, Bool.false_or] at p
      rw [(Bool.and_eq_true_iff.mp p).1]
      rfl
    · rfl
  · intro p
    cases c : decide (pE ∈ zs)
    · rw [c, Bool.false_or] at p
      obtain ⟨k, hk, hb⟩ := some_back h
      refine ⟨k, hk, ?_⟩
      unfold polls
      rw [c, p, decide_eq_true hb]
      rfl
    · refine ⟨0, h, ?_⟩
      unfold polls
      rw [c]
      rfl
def lpB : MS := (sSeq (sSet 8 (e2 oIx (eVar 5) (e2 oMod (eCB cInt (aCons (e2 oAdd (eVar 3) (eC (.int 1))) aNil)) (eCB cLen (aCons (eVar 5) aNil)))))
  (sSeq (sSet 9 (eCall (fun ds => noX (m_is_polled ds)) (aCons (eVar 6) (aCons (e2 oIx (eVar 5) (eVar 3)) (aCons (eVar 8) aNil)))))
  (sSeq (sIf (bOr (bNot (bTest (eCall (fun ds => noX (m__law_flag ds)) (aCons (eVar 9) (aCons (eCall (fun ds => noX (m__law_polls ds)) (aCons (eVar 4) (aCons (e2 oIx (eVar 5) (eVar 3)) (aCons (eVar 8) aNil)))) aNil))))) (bNot (bTest (eCall (fun ds => noX (m__law_near ds)) (aCons (eVar 6) (aCons (eVar 4) (aCons (e2 oIx (eVar 5) (eVar 3)) aNil)))))))
    (sRet (eC (.bl false)))
    sNext)
  (sIf (bTest (eVar 9))
    (sSet 7 (e2 oAdd (eVar 7) (eC (.int 1))))
    sNext))))
theorem ring_at {ring : List Int} {k : Nat} (h : k < ring.length) : atI (ring.map D.int) ((k : Nat) : Int) = some (.int (ring.getD k 0)) := by
  rw [at_ok (by rw [List.length_map]; exact h), List.getElem_map]
  simp [List.getD, h]
theorem lpB_ok (zs : List Str) (ring : List Int) {k : Nat} (hk : k < ring.length) (row rules : Sl) (y8 y9 : Sl) : lpB [.un, row, rules, .val (.int (k : Nat)), .val (.lst (zs.map D.str)), .val (.lst (ring.map D.int)), .val (polD zs), .val (.int (pcount zs ring k : Nat)), y8, y9, .un] =
    some (.nx [.un, row, rules, .val (.int (k : Nat)), .val (.lst (zs.map D.str)), .val (.lst (ring.map D.int)), .val (polD zs), .val (.int (pcount zs ring (k + 1) : Nat)), .val (.int (nxt ring k)), .val (.bl (polls zs (ring.getD k 0) (nxt ring k))), .un]) := by
  unfold lpB
  have hm : (k + 1) % ring.length < ring.length := Nat.mod_lt _ (by omega)
  have em : e2 oMod (eCB cInt (aCons (e2 oAdd (eVar 3) (eC (.int 1))) aNil)) (eCB cLen (aCons (eVar 5) aNil)) [.un, row, rules, .val (.int (k : Nat)), .val (.lst (zs.map D.str)), .val (.lst (ring.map D.int)), .val (polD zs), .val (.int (pcount zs ring k : Nat)), y8, y9, .un] = .ok (.int (((k + 1) % ring.length : Nat) : Int)) := by
    refine (op_ok (o := oMod) (a := .int ((k + 1 : Nat) : Int)) (b := .int ((ring.map D.int).length : Nat)) ((cb_ok (a1_ok (op_ok rfl rfl (oAdd_int _ _)))).trans (by rw [cInt_int, Int.natCast_add]; rfl)) rfl (oMod_int (by rw [List.length_map]; omega))).trans ?_
    rw [List.length_map, Int.natCast_emod]
  refine (seq_nx (set_ok (op_ok rfl em (ring_at hm)))).trans ?_
  have ex : ∀ y9', e2 oIx (eVar 5) (eVar 3) [.un, row, rules, .val (.int (k : Nat)), .val (.lst (zs.map D.str)), .val (.lst (ring.map D.int)), .val (polD zs), .val (.int (pcount zs ring k : Nat)), .val (.int (nxt ring k)), y9', .un] = .ok (.int (ring.getD k 0)) := fun _ => op_ok rfl rfl (ring_at hk)
  refine (seq_nx (set_ok (cl2 (a3_ok rfl (ex y9) rfl) (polled_ok zs _ _)))).trans ?_
  refine (seq_nx ((if_no (or_no (not_ok (b := true) (test_ok (cl2 (a2_ok rfl (cl2 (a3_ok rfl (ex _) rfl) (lpolls_ok zs _ _))) (flag_ok _)))) (not_ok (b := true) (test_ok (cl2 (a3_ok rfl rfl (ex _)) (near_ok zs _)))))).trans rfl)).trans ?_
  refine (if_b (k := polls zs (ring.getD k 0) (nxt ring k)) rfl).trans ?_
  have ep : pcount zs ring (k + 1) = if polls zs (ring.getD k 0) (nxt ring k) = true then pcount zs ring k + 1 else pcount zs ring k := rfl
  rw [ep]
  split
  · exact set_ok (op_ok rfl rfl (by rw [oAdd_int, Int.natCast_add]; rfl))
  · rfl
theorem law_ok (row : List Int) (d : Dig row) (hl : row.length ≤ 60) : g_rest (((List.replicate 11 Sl.un : Rho).set 1 (.val (.lst (row.map D.int)))) : Rho) = some (.rt (.bl true)) := by
  show g_rest [.un, .val (.lst (row.map D.int)), .un, .un, .un, .un, .un, .un, .un, .un, .un] = _
  unfold g_rest
  refine (seq_nx (set_ok (fz2 (ds := []) rfl rules_ok))).trans ?_
  have e26 : ∀ (k : Nat) (x2 x4 x5 : Sl), e2 oAdd (eC (.int 26)) (eVar 3) [.un, .val (.lst (row.map D.int)), x2, .val (.int (k : Nat)), x4, x5, .un, .un, .un, .un, .un] = .ok (.int ((26 + k : Nat) : Int)) := fun k _ _ _ => op_ok rfl rfl (by rw [oAdd_int, Int.natCast_add]; rfl)
  refine (seq_nx (set_ok (lc_rules (fun k => decide (Xg.pick row ((26 + k : Nat) : Int) 2 = 1)) (i := 2) (j := 3) rfl (by decide) (Nat.le_of_ble_eq_true rfl) fun k hk => test_ok (op_ok (cl2 (a3_ok rfl (e26 k _ _ _) rfl) (pick_ok row (by omega) (26 + k) (by decide))) rfl (oEq_int _ _))))).trans ?_
  have sx := selN_sub fun k => decide (Xg.pick row ((26 + k : Nat) : Int) 2 = 1)
  generalize (selN fun k => decide (Xg.pick row ((26 + k : Nat) : Int) 2 = 1)) = zs at sx
  -- the ring
  have hp0 := Xg.pick_lo (row := row) (i := ((0 : Nat) : Int)) (m := 12) (by decide)
  have hp1 := Xg.pick_hi (row := row) (i := ((0 : Nat) : Int)) (m := 12) (by decide)
  obtain ⟨n, hn⟩ := Int.eq_ofNat_of_zero_le hp0
  obtain ⟨ring, er, lr⟩ : ∃ ring : List Int, eFz (lLc (iR1 (aCons (e2 oAdd (eC (.int 1)) (eCall (fun ds => noX (m__law_pick ds)) (aCons (eVar 1) (aCons (eC (.int 0)) (aCons (eC (.int 12)) aNil))))) aNil)) (gN 3) bYes (eCall (fun ds => noX (m__law_pick ds)) (aCons (eVar 1) (aCons (e2 oAdd (eC (.int 2)) (e2 oMul (eC (.int 2)) (eVar 3))) (aCons (eC (.int 64)) aNil)))) [3])
      [.un, .val (.lst (row.map D.int)), .val (.lst (rulL.map D.str)), .un, .val (.lst (zs.map D.str)), .un, .un, .un, .un, .un, .un] = .ok (.lst (ring.map D.int)) ∧ ring.length = 1 + n := by
    refine ⟨(List.range (1 + n)).map fun k => Xg.pick row ((2 + 2 * k : Nat) : Int) 64, fz_ok ((lc_ok (ds := rIntD 0 (1 + n)) (fun _ => true) (fun x => match x with
      | .int k => .int (Xg.pick row ((2 + 2 * k.toNat : Nat) : Int) 64)
      | x => x) (r1_ok (n := 1 + n) (a1_ok (op_ok rfl (cl2 (a3_ok rfl rfl rfl) (pick_ok row (by omega) 0 (by decide))) ?_)) (by omega)) (by rw [rint_len]; omega) fun x hx => ?_).trans ?_), by rw [List.length_map, List.length_range]⟩
    · rw [hn, oAdd_int, Int.natCast_add]
      rfl
    · obtain ⟨k, hk, rfl⟩ := rint_mem hx
      refine ⟨_, rfl, rfl, fun _ => ?_⟩
      show _ = R.ok (D.int (Xg.pick row ((2 + 2 * (k : Int).toNat : Nat) : Int) 64))
      rw [Int.toNat_natCast]
      exact cl2 (a3_ok rfl (op_ok rfl (op_ok rfl rfl (oMul_2 _)) (by rw [oAdd_int, Int.natCast_add, Int.natCast_mul]; rfl)) rfl) (pick_ok row (by omega) (2 + 2 * k) (by decide))
    · congr 1
      rw [List.filter_eq_self.mpr (fun _ _ => rfl)]
      unfold rIntD
      rw [List.map_map, List.map_map]
      refine List.map_congr_left fun k _ => ?_
      show D.int (Xg.pick row ((2 + 2 * (0 + (k : Int)).toNat : Nat) : Int) 64) = _
      rw [Int.zero_add, Int.toNat_natCast]
      rfl
  refine (seq_nx (set_ok er)).trans ?_
  refine (seq_nx (set_ok (cl2 (a1_ok rfl) (mPol_ok sx)))).trans ?_
  refine (seq_nx (set_ok (d := .int 0) rfl)).trans ?_
  obtain ⟨ρ', e, y3, y8, y9, rfl⟩ := forR_range (g := gN 3) (b := lpB) (n := ring.length) (fun k ρ => ∃ y3 y8 y9, ρ = [.un, .val (.lst (row.map D.int)), .val (.lst (rulL.map D.str)), y3, .val (.lst (zs.map D.str)), .val (.lst (ring.map D.int)), .val (polD zs), .val (.int (pcount zs ring k : Nat)), y8, y9, .un])
    (fun k ρ hk i => by
      obtain ⟨y3, y8, y9, rfl⟩ := i
      exact ⟨_, _, rfl, lpB_ok zs ring hk _ _ y8 y9, _, _, _, rfl⟩) (ρ := [.un, .val (.lst (row.map D.int)), .val (.lst (rulL.map D.str)), .un, .val (.lst (zs.map D.str)), .val (.lst (ring.map D.int)), .val (polD zs), .val (.int 0), .un, .un, .un]) ⟨.un, .un, .un, rfl⟩
  refine (seq_nx ((for_ok (r1_ok (n := ring.length) (a1_ok ?_) (by omega))).trans e)).trans ?_
  · show R.ok (D.int ((ring.map D.int).length : Nat)) = _
    rw [List.length_map]
  refine (seq_nx (set_ok (d := .bl (always zs)) (eor_ok (op_ok rfl rfl (oIn_strs _ _)) (eor_ok (op_ok rfl rfl (oIn_strs _ _)) (op_ok rfl rfl (oIn_strs _ _)))))).trans ?_
  refine (seq_nx ((if_no (or_no (not_ok (b := true) (test_ok (cl2 (a2_ok (cl2 (a1_ok rfl) (always_ok zs)) rfl) (flag_ok _)))) (ne_no (d := .lst (zs.map D.str)) (fz_ok rfl) rfl (eqB_strs fun z hz => rul_strOk z (sx.subset hz))))).trans rfl)).trans ?_
  have ht : bTest (e2 oIn (eC (.str "no_links")) (eVar 4)) [.un, .val (.lst (row.map D.int)), .val (.lst (rulL.map D.str)), y3, .val (.lst (zs.map D.str)), .val (.lst (ring.map D.int)), .val (polD zs), .val (.int (pcount zs ring ring.length : Nat)), y8, y9, .val (.bl (always zs))] = .ok (decide (("no_links" : Str) ∈ zs)) := test_ok (op_ok rfl rfl (oIn_strs _ _))
  by_cases c : ("no_links" : Str) ∈ zs
  · rw [decide_eq_true c] at ht
    exact seq_rt ((if_yes ht).trans rfl)
  · rw [decide_eq_false c] at ht
    refine (seq_nx ((if_no ht).trans rfl)).trans (ret_ok (op_ok (a := .bl (decide (0 < ((pcount zs ring ring.length : Nat) : Int)))) (op_ok rfl rfl rfl) (cl2 (a1_ok rfl) (always_ok zs)) ?_))
    rw [count_iff (by omega) c, oEq_bl, decide_eq_true rfl]
end P67
namespace P67
open PySem L2 Xg Xd
def faL : List He.Fa := [.glo "is_polled", .keep "is_polled", .glo "always_polled", .keep "always_polled", .glo "_law_row", .keep "_law_row", .glo "_law_pick", .keep "_law_pick", .glo "_law_rules", .keep "_law_rules", .glo "_law_flag", .keep "_law_flag", .glo "_law_polls", .keep "_law_polls", .glo "_law_near", .keep "_law_near", .free "abs", .free "bool", .free "int", .free "isinstance", .free "iter", .free "len", .free "list", .free "range", .free "tuple", .glo "RULES", .glo "Policy", .cls "Policy", .noat "Policy" "names", .mkr "Policy", .meth "Policy" "__iter__", .meth "Policy" "__contains__", .meth "Policy" "__or__", .meth "Policy" "__sub__", .glo "law", .keep "law"]
def fnL : List He.FnD := [Xg.fnD "is_polled" S_is_polled, Xg.fnD "always_polled" S_always_polled, Xg.fnD "_law_row" S__law_row, Xg.fnD "_law_pick" S__law_pick, Xg.fnD "_law_rules" S__law_rules, Xg.fnD "_law_flag" S__law_flag, Xg.fnD "_law_polls" S__law_polls, Xg.fnD "_law_near" S__law_near, Xg.fnD "law" S_law]
def meL : List He.FnD := [meD "Policy" "__iter__" "Policy.__iter__" S_Policy___iter__, meD "Policy" "__contains__" "Policy.__contains__" S_Policy___contains__, meD "Policy" "__or__" "Policy.__or__" S_Policy___or__, meD "Policy" "__sub__" "Policy.__sub__" S_Policy___sub__]
def AK (K : PySem.W.Frag) (PolicyError_C PolicyError_I : Addr) (nil : Addr) : Ad := { i_PolicyError := PolicyError_I, PolicyError := PolicyError_C, nil := nil, Policy := He.ga K "Policy", init := He.ma K (He.ga K "Policy") "__init__", iter := He.ma K (He.ga K "Policy") "__iter__", contains := He.ma K (He.ga K "Policy") "__contains__", or_ := He.ma K (He.ga K "Policy") "__or__", sub := He.ma K (He.ga K "Policy") "__sub__", RULES := He.ga K "RULES", is_polled := He.ga K "is_polled", always_polled := He.ga K "always_polled", _law_row := He.ga K "_law_row", _law_pick := He.ga K "_law_pick", _law_rules := He.ga K "_law_rules", _law_flag := He.ga K "_law_flag", _law_polls := He.ga K "_law_polls", _law_near := He.ga K "_law_near" }
theorem fin {l : PySem.W.OpenLaw} {w : World} {K : PySem.W.Frag} {h : Heap} {mg : Str → Option Value} {fa PolicyError_C PolicyError_I nil : Addr} (X : K.In h) (G : h.Ns mainGlobals mg) (hfa : mg "law" = some (.ref fa)) (c : He.obsE faL fnL K = He.valE fnL) (cm : He.obsE [] meL K = He.valE meL)
    {TT : Addr} {oc0 kV0 dc0 pm0 cd0 ct0 : Value} {od0 an0 : Option Addr} {sl0 : Array (Option Value)} {ocT : Value} {odT : Option Addr} {nT : Nat} {slT : Array (Option Value)}
    (x_PolicyError : XgSup.STxt l.prog K mg "PolicyError" "name" "the rule cannot be named here: " PolicyError_C PolicyError_I)
    (xc_PolicyError : ExcC K PolicyError_C)
    (z_RULES : strsB K (He.ga K "RULES") L_RULES = true)
    (u_RULES : tupB K (He.ga K "RULES") = true)
    (kt : kitB K = true)
    (j1 : K.lookup (He.ma K (He.ga K "Policy") "__init__") = some ⟨oc0, od0, .func (PySem.W.fnOf "__init__" "Policy.__init__" (defArgs S_Policy___init__) (defBody S_Policy___init__) (defScope S_Policy___init__) (.ref TT) kV0 dc0 pm0 an0 cd0 ct0), sl0⟩)
    (j2 : K.lookup TT = some ⟨ocT, odT, .seq #[.ref nil] nT, slT⟩)
    (y1 : PySem.W.codeIn K cd0 "Policy.__init__" = true)
    (y2 : PySem.W.keepIn K (.ref (He.ma K (He.ga K "Policy") "__init__")) = true)
    (z2 : strsB K nil [] = true)
    (z3 : PySem.W.selfFirst K (He.ga K "Policy") = true)
    (z4 : PySem.W.findIn K (.ref (He.ga K "Policy")) "__len__" = some none)
    (z5 : PySem.W.findIn K (.ref (He.ga K "Policy")) "__length_hint__" = some none) :
    ∃ fd : FuncData, (∀ (s : Shared) (u : Value), BindsTo s fd ⟨[u], []⟩ [("_law_script", u)]) ∧ ∀ base : Heap, K.In base → base.Ns mainGlobals mg → FnOk l.prog w K mg base CX0 6 fa fd ["_law_script"] (spLaw K) := by
  have c' : He.SaysE faL fnL K := c
  have cm' : He.SaysE [] meL K := cm
  have e := hfa.symm.trans (He.glo_ok X G (c'.fact 34))
  cases e
  have Mi := He.meth_ok (c'.fact 30)
  have Mc := He.meth_ok (c'.fact 31)
  have Mo := He.meth_ok (c'.fact 32)
  have Ms := He.meth_ok (c'.fact 33)
  have T : Tp l.prog w K mg (AK K PolicyError_C PolicyError_I  nil) := {
    n_abs := He.free_ok X G (c'.fact 16)
    n_bool := He.free_ok X G (c'.fact 17)
    n_int := He.free_ok X G (c'.fact 18)
    n_isinstance := He.free_ok X G (c'.fact 19)
    n_iter := He.free_ok X G (c'.fact 20)
    n_len := He.free_ok X G (c'.fact 21)
    n_list := He.free_ok X G (c'.fact 22)
    n_range := He.free_ok X G (c'.fact 23)
    n_tuple := He.free_ok X G (c'.fact 24)
    g_RULES := He.glo_ok X G (c'.fact 25)
    g_PolicyError := x_PolicyError.gC
    x_PolicyError := x_PolicyError
    xf_PolicyError := ⟨x_PolicyError.ga, x_PolicyError.gg, x_PolicyError.exC, x_PolicyError.hdC⟩
    no_PolicyError_name := x_PolicyError.noN
    kit := kitB_ok kt
    s_RULES := z_RULES
    k_RULES := tupB_ok u_RULES
    g_Policy := He.glo_ok X G (c'.fact 26)
    nil := z2
    cl_Policy := He.cls_ok (c'.fact 27)
    na_Policy_names := He.noat_ok (c'.fact 28)
    M_Policy := He.mkr_ok (c'.fact 29)
    it_Policy := ⟨Mi.1, Mi.2, z4, z5⟩
    sf_Policy := z3
    in_Policy := Mc.1
    inF_Policy := Mc.2
    or_Policy := Mo.1
    orF_Policy := Mo.2
    sub_Policy := Ms.1
    subF_Policy := Ms.2
    d_init := ⟨_, ⟨⟨_, _, _, _, _, _, _, _, _, _, rfl, j1, y1, .inr ⟨(fun h => nomatch h), TT, _, [Value.ref nil], nT, rfl, j2, rfl, .cons rfl .nil⟩, .inl rfl⟩, y2⟩⟩
    d_iter := me_of cm' 0 rfl Mi.3 (fun _ _ _ _ _ _ us hl => match us, hl with | [_], _ => rfl)
    d_contains := me_of cm' 1 rfl Mc.3 (fun _ _ _ _ _ _ us hl => match us, hl with | [_, _], _ => rfl)
    d_or := me_of cm' 2 rfl Mo.3 (fun _ _ _ _ _ _ us hl => match us, hl with | [_, _], _ => rfl)
    d_sub := me_of cm' 3 rfl Ms.3 (fun _ _ _ _ _ _ us hl => match us, hl with | [_, _], _ => rfl)
    d_is_polled := df_mk X G c' 0 rfl rfl rfl (fun _ _ _ _ _ _ us hl => match us, hl with | [_, _, _], _ => rfl)
    d_always_polled := df_mk X G c' 1 rfl rfl rfl (fun _ _ _ _ _ _ us hl => match us, hl with | [_], _ => rfl)
    d__law_row := df_mk X G c' 2 rfl rfl rfl (fun _ _ _ _ _ _ us hl => match us, hl with | [_, _], _ => rfl)
    d__law_pick := df_mk X G c' 3 rfl rfl rfl (fun _ _ _ _ _ _ us hl => match us, hl with | [_, _, _], _ => rfl)
    d__law_rules := df_mk X G c' 4 rfl rfl rfl (fun _ _ _ _ _ _ us hl => match us, hl with | [], _ => rfl)
    d__law_flag := df_mk X G c' 5 rfl rfl rfl (fun _ _ _ _ _ _ us hl => match us, hl with | [_, _], _ => rfl)
    d__law_polls := df_mk X G c' 6 rfl rfl rfl (fun _ _ _ _ _ _ us hl => match us, hl with | [_, _, _], _ => rfl)
    d__law_near := df_mk X G c' 7 rfl rfl rfl (fun _ _ _ _ _ _ us hl => match us, hl with | [_, _, _], _ => rfl)
  }
  obtain ⟨oc, od, osl, kV, doc, pm, an, cdv, ct, ll, cd⟩ := c'.def_ 8 (d := Xg.fnD "law" S_law) rfl
  have k := He.keep_ok (c'.fact 35)
  have F : Fun K "law" "law" S_law (He.ga K "law") _ := fun_mk ll cd k
  exact ⟨_, fun s v => .of_eq rfl, fun base _ _ => ok_law F T law_ok⟩
end P67
open PySem PySem.W PyProof.Rows L2
set_option maxRecDepth 100000 in
set_option maxHeartbeats 0 in
theorem PySem.Challenge.cw_guestlives_k67_rings_of_links_poll_holds : PySem.Challenge.rw_guestlives_k67_rings_of_links_poll.Holds := by
  w_on; o_law; k_head; (case hw => w_witness2)
  k_fill
  refine L2.walk_ofK (n := 63) (k := 6) (CX := CX0) (sp := Xd.spLaw) (x := "_law_script") rfl (by decide) rfl ⟨rfl, by decide, by decide⟩ (fun w h Y => PySem.W.kIn_of Y) ?F (fun K _ a ns hl _ hS => ⟨a, ns, rfl, hS, hl, fun _ => rfl⟩) fun _ _ _ _ z => z
  case F =>
    intro w mg fa h KX G hmg
    refine' P67.fin (l := PySem.Challenge.rw_guestlives_k67_rings_of_links_poll) KX G hmg ?c ?cm (Xg.stxt_mk KX G XgSup.fok_name ?PolicyError_gC ?PolicyError_iC ?PolicyError_cl1 ?PolicyError_cl2 ?PolicyError_sa ?PolicyError_ga ?PolicyError_gg ?PolicyError_noN ?PolicyError_tC ?PolicyError_kC ?PolicyError_exC ?PolicyError_veC ?PolicyError_tyC ?PolicyError_hdC ?PolicyError_sup ?PolicyError_slf ?PolicyError_nop ?PolicyError_gS ?PolicyError_tops ?PolicyError_g1 ?PolicyError_g2 ?PolicyError_g3 ?PolicyError_g4 ?PolicyError_g5 ?PolicyError_g6 ?PolicyError_g7) (Xg.excC_mk ?PolicyError_h1 ?PolicyError_h2 ?PolicyError_h3 ?PolicyError_h4 ?PolicyError_h5 ?PolicyError_h6 ?PolicyError_h7 ?PolicyError_h8) ?z_RULES ?u_RULES ?kt ?j1 ?j2 ?y1 ?y2 ?z2 ?z3 ?z4 ?z5
    (case PolicyError_gC => with_unfolding_all rfl)
    (case PolicyError_iC => with_unfolding_all rfl)
    (case PolicyError_cl1 => with_unfolding_all rfl)
    (case PolicyError_g1 => with_unfolding_all rfl)
    (case PolicyError_g3 => with_unfolding_all rfl)
    (case PolicyError_g4 => with_unfolding_all rfl)
    (case PolicyError_g6 => with_unfolding_all rfl)
    (case j1 => with_unfolding_all rfl)
    (case j2 => with_unfolding_all rfl)
    (case PolicyError_g7 => exact fun _ => ⟨_, rfl⟩)
    all_goals kernel_rfl
