import PyProof.Rows.All
import Wide.All
import OpenK.AllK
import Wide.FinOn
import KE.KExcSuper
import HandS.ForMost
import HandS.ForExc
import HandS.ExcSuper
import HandS.ExcInit
import HandS.FStr
import HandS.ExcIs
import HandS.ExcField
import HandS.Evl
import HandS.Walk
import HandS.Zip
import HandS.IsInst
import KE.GoesEnum
import HandS.Strs
import HandS.SetFor
import HandS.More
import HandS.HeadHook1
import HandS.OwnIter
import HandS.IterVal
import HandS.Words
import HandS.ClsMeth
import HandS.ExcOwn
import HandS.Style
import HandS.Defaults
import HandS.AnyAll
import HandS.TupAny
import HandS.TupMul
import HandS.TupLe
import HandS.ReplaceLit
import PySem.Challenge.RW_guestlives_k70_delays_in_schedules
set_option Elab.async false
set_option linter.all false
set_option maxRecDepth 100000
set_option maxHeartbeats 4000000
namespace XgSup
open PySem PySem.W PySem.Calls PyProof.Rows
/-! An own error class whose maker first asks its parent for a text that shows one field, then keeps the field. -/
abbrev wrapO (x : Addr) : Obj := kxs_mw "ValueError.__init__" x
section
variable {prog : Program} {w : World} {A : Around} {E : Value → Shared → Prop} {h : Heap} {g : Array GenState} {d : Drawn} {t : Nat} {os : OsState}
variable {nm q : Str} {C N : Addr} {bs bm : List Value} {hdct : Bool} {sn : List Str} {sub : List Value} {ab : Bool} {col : Option Bool} {dd : Option Addr} {k0 k1 k2 k3 k5 : Option Value}
theorem parent_call {u e t0 : Addr} {rest : List Value} {Q : Value → Shared → Prop}
    (hC : h.get? C = some (excClassObj nm q C N bs bm hdct sn sub ab col dd k0 k1 k2 k3 k5 "ValueError.__new__"))
    (he : h.get? e = some (HandSPX.excO C t0)) (hu : h.get? u = some (wrapO e)) (hrest : rest.length ≤ sizeLine)
    (hq : ∀ h' t1, (∀ b o, b ≠ e → h.get? b = some o → h'.get? b = some o) → h'.get? e = some (HandSPX.excO C t1) → Q .none ⟨h', g, d, t, os⟩) :
    wpAny (model prog w) A (call (.ref u) rest) Q E ⟨h, g, d, t, os⟩ := by
  have FB := F.excBase_ValueError
  refine wpAny_call (codeAny_of_tree ?_)
  show wpAny _ A.in1 (callAny (.ref u) ⟨rest, []⟩) _ _ _
  simp only [callAny]
  refine wpAny_bind (wpAny_load hu ?_)
  have hmw : (Value.type "method-wrapper" == Value.type "method" || Value.type "method-wrapper" == Value.type "builtin_function_or_method" || Value.type "method-wrapper" == Value.type "method-wrapper") = true := by decide
  simp only [wrapO, kxs_mw, hmw, if_true]
  refine KFB.if_so (by decide) ?_
  refine wpAny_bind (check_bound_init FB.toExcCallFacts hC he rfl ?_)
  refine wpAny_bind (wpAny_pure (wpAny_pure ?_))
  refine ⟨plainId_quiet FB.init.plain _, codeAny_builtin FB.initEntry ?_⟩
  rw [Around.under_plainId FB.init.plain _]
  wp_walk
  refine hq _ h.objs.size (fun b o hb ho => ?_) ?_
  · rw [Heap.get?_update_other _ _ (Ne.symm hb)]
    exact Heap.get?_push_of_some _ ho
  · rw [Heap.get?_update_self _ (Heap.get?_push_of_some _ he) rfl]
    rfl
end
/-! the maker's text -/
def mA (f : Str) (p1 p2 : Pos) : Arguments := { posonlyargs := [], args := [{ arg := "self", annotation := none, pos := p1 }, { arg := f, annotation := none, pos := p2 }], vararg := none, kwonlyargs := [], kw_defaults := [], kwarg := none, defaults := [] }
def mB (f txt : Str) (a1 a2 a3 a4 a5 b1 b2 b3 b4 c1 c2 c3 c4 : Pos) : List Stmt :=
  [.Expr (.Call (.Attribute (.Call (.Name "super" a1) [] [] a2) "__init__" a3) [.JoinedStr [.Constant (.str txt) 0 b1, .FormattedValue (.Name f b2) (-1) none b3] b4] [] a4) a5,
   .Assign [.Attribute (.Name "self" c1) f c2] (.Name f c3) c4]
def mS (f : Str) : Scope := { kind := .function, names := [(PySem.Str.ofString "self", .local), (f, .local), (PySem.Str.ofString "__class__", .free), (PySem.Str.ofString "super", .globalImplicit)], isGenerator := false, isCoroutine := false, more := [] }
/-- what is asked of the field's name -/
structure FOk (f : Str) : Prop where
  db : (f == ("__debug__" : Str)) = false
  lk : (mS f).names.lookup f = some .local
  ls : (mS f).names.lookup ("self" : Str) = some .local
  lc : (mS f).names.lookup ("__class__" : Str) = some .free
  lp : (mS f).names.lookup ("super" : Str) = some .globalImplicit
  ne : (f == ("self" : Str)) = false
  sn : ("self" == f) = false
  cell : ∀ x ∈ (mS f).names, x.2 ≠ .cell
  bd : ∀ (qual : Str) (p1 p2 : Pos) (body : List Stmt) (doc pm cdv ct : Value) (an : Option Addr) (cc : Addr) (u v : Value), bindArgs (ksFn "__init__" qual (mA f p1 p2) body (mS f) .none .none doc pm an cdv ct cc) ⟨[u, v], []⟩ = pure [(("self" : Str), u), (f, v)]
theorem fok_name : FOk "name" := ⟨by decide, rfl, rfl, rfl, rfl, by decide, by decide, by decide, fun _ _ _ _ _ _ _ _ _ _ _ _ => rfl⟩
theorem fok_field : FOk "field" := ⟨by decide, rfl, rfl, rfl, rfl, by decide, by decide, by decide, fun _ _ _ _ _ _ _ _ _ _ _ _ => rfl⟩
theorem fok_action : FOk "action" := ⟨by decide, rfl, rfl, rfl, rfl, by decide, by decide, by decide, fun _ _ _ _ _ _ _ _ _ _ _ _ => rfl⟩
theorem fok_reason : FOk "reason" := ⟨by decide, rfl, rfl, rfl, rfl, by decide, by decide, by decide, fun _ _ _ _ _ _ _ _ _ _ _ _ => rfl⟩
/-- the parent's call, as the text says it -/
def askE (f txt : Str) (a1 a2 a3 a4 b1 b2 b3 b4 : Pos) : Expr := .Call (.Attribute (.Call (.Name "super" a1) [] [] a2) "__init__" a3) [.JoinedStr [.Constant (.str txt) 0 b1, .FormattedValue (.Name f b2) (-1) none b3] b4] [] a4
def AskOk (qual f txt : Str) (a1 a2 a3 a4 b1 b2 b3 b4 : Pos) (fI cda cc : Addr) : Prop := ∀ L : Addr, ∃ pl : Sem Bool, eval (askE f txt a1 a2 a3 a4 b1 b2 b3 b4) (ksEnv qual (mS f) L fI (.ref cda) cc) = (do
  let ov ← attributeBase (.Call (.Name "super" a1) [] [] a2) "__init__" (ksEnv qual (mS f) L fI (.ref cda) cc) (eval (.Call (.Name "super" a1) [] [] a2) (ksEnv qual (mS f) L fI (.ref cda) cc))
  standAt a3.atName
  let (g, first) ← holding [ov] (getMethod ov "__init__" pl)
  callWith a4 g first (backTo a4 (starEach [.JoinedStr [.Constant (.str txt) 0 b1, .FormattedValue (.Name f b2) (-1) none b3] b4] (ksEnv qual (mS f) L fI (.ref cda) cc))) [])
/-- what the written part says of the class at C and of its maker at fI -/
structure STxt (prog : Program) (K : Frag) (mg : Str → Option Value) (x f txt : Str) (C fI : Addr) : Prop where
  fok : FOk f
  gC : mg x = some (.ref C)
  cls : ∃ nm q N bs bm sn sub ab col dd k0 k1 k2 k3 k5, K.lookup C = some (excClassObj nm q C N bs bm true sn sub ab col dd k0 k1 k2 k3 k5 "ValueError.__new__") ∧ HandSPX.refsVE bm = true
  sa : findIn K (.ref C) "__setattr__" = some (some (.builtin "object.__setattr__"))
  ga : findIn K (.ref C) "__getattribute__" = some (some (.builtin "BaseException.__getattribute__"))
  gg : findIn K (.ref C) "__getattr__" = some none
  noN : findIn K (.ref C) f = some none
  iC : findIn K (.ref C) "__init__" = some (some (.ref fI))
  tC : typeIn K (.ref fI) = some (.type "function")
  kC : keepIn K (.ref C) = true
  exC : subIn K (.ref C) (.type "BaseException") = some true
  veC : subIn K (.ref C) (.type "ValueError") = some true
  tyC : typeIn K (.ref C) = some (.type "type")
  hdC : hasDictIn K C = true
  sup : ks_superIn K C C "__init__" = some (some (.builtin "ValueError.__init__"))
  slf : mroIn K C (.ref C) = some true
  nop : nsIn K cStatics "thirdparty.any" = some none
  gS : mg "super" = none
  tops : (prog.main.scope.names.lookup ("super" : Str)).isSome = false
  fn : ∃ (qual : Str) (oc : Value) (od : Option Addr) (doc pm : Value) (an : Option Addr) (cda cc : Addr) (ct : Value) (osl : Array (Option Value)) (p1 p2 a1 a2 a3 a4 a5 b1 b2 b3 b4 c1 c2 c3 c4 : Pos)
      (ccl : Value) (cdd : Option Addr) (vs : Array Value) (ccs : Array (Option Value)) (file : Str) (tf : Tok) (cl : Value) (cld : Option Addr) (csl : Array (Option Value)),
    K.lookup fI = some ⟨oc, od, .func (ksFn "__init__" qual (mA f p1 p2) (mB f txt a1 a2 a3 a4 a5 b1 b2 b3 b4 c1 c2 c3 c4) (mS f) .none .none doc pm an (.ref cda) ct cc), osl⟩ ∧ codeIn K (.ref cda) qual = true ∧
    K.lookup cda = some ⟨ccl, cdd, .fields vs, ccs⟩ ∧ vs[2]? = some (.str file tf) ∧ ((prog.main.file : Str) == file) = true ∧
    K.lookup cc = some ⟨cl, cld, .cell (some (.ref C)), csl⟩ ∧ AskOk qual f txt a1 a2 a3 a4 b1 b2 b3 b4 fI cda cc
/-- what the maker leaves of a fresh error at x -/
structure MEnd (h h' : Heap) (x C dx : Addr) (f : Str) (v : Value) : Prop where
  keep : ∀ b o, b ≠ x → h.get? b = some o → h'.get? b = some o
  obj : ∃ t1 : Addr, h'.get? x = some { cls := .ref C, dict := some dx, data := .fields #[.ref t1, .none, .none, .none, .bool false, .none] }
  dbig : h.objs.size ≤ dx
  dne : dx ≠ x
  ns : h'.Ns1 dx (fun y => if y = f then some v else none)
section
variable {prog : Program} {w : World} {A : Around} {E : Value → Shared → Prop} {R : Result → Shared → Prop} {s : Shared} {K : Frag} {mg : Str → Option Value} {xn f txt : Str} {C fI : Addr} {base : Heap}
theorem maker_run (T : STxt prog K mg xn f txt C fI) (Mo : L2.Mod K mg base) {x t0 : Addr} {y : Str} {ty : Tok} (bk : ∀ b o, base.get? b = some o → s.heap.get? b = some o) (hx : s.heap.get? x = some (HandSPX.excO C t0))
    (hnx : K.lookup x = none) (hroom : A.depth < recursionLimit) (hz : y.length ≤ sizeLine) (hzt : txt.length ≤ sizeLine) (hzz : (txt ++ y).length ≤ sizeLine)
    (hq : ∀ h' tk dx, MEnd s.heap h' x C dx f (.str y ty) → R (.ok (.ret .none)) { s with heap := h', toks := tk }) :
    codeAny (model prog w) A (.call (.ref fI) ⟨[.ref x, .str y ty], []⟩) R s := by
  obtain ⟨qual, oc, od, doc, pm, an, cda, cc, ct, osl, p1, p2, a1, a2, a3, a4, a5, b1, b2, b3, b4, c1, c2, c3, c4, ccl, cdd, vs, ccs, file, tf, cl, cld, csl, ho, hcd, hcode, hvs, hfile, hcell, hask⟩ := T.fn
  obtain ⟨nm, q, N, bs, bm, sn, sub, ab, col, dd, k0, k1, k2, k3, k5, hC, hbm⟩ := T.cls
  have FO := T.fok
  have X : K.In s.heap := Mo.kin.keeps bk
  have hlim : s.heap.NoLimit := Mo.nolimit.keeps bk
  have hcl : clsIn K C = some { name := nm, bases := bs, mro := .ref C :: bm, ns := N, qualname := q, hasDict := true, slotNames := sn, subclasses := sub, abstract := ab, collection := col, hasDel := false } := by unfold clsIn; rw [hC] <;> rfl
  refine ks_codeAny_call_defAt (fd := ksFn "__init__" qual (mA f p1 p2) (mB f txt a1 a2 a3 a4 a5 b1 b2 b3 b4 c1 c2 c3 c4) (mS f) .none .none doc pm an (.ref cda) ct cc) (binds := [(("self" : Str), .ref x), (f, .str y ty)])
    hroom (X _ _ ho) rfl hlim (codeRec_of X hcd) rfl (BindsTo.of_eq ?_) FO.cell ?_ (fun h₁ hns hk₁ => ?_) rfl rfl rfl
  · exact FO.bd _ _ _ _ _ _ _ _ _ _ _ _
  · intro y hy
    rcases List.mem_cons.mp hy with rfl | hy
    · exact FO.ls
    rcases List.mem_cons.mp hy with rfl | hy
    · exact FO.lk
    · cases hy
  · have X1 : K.In h₁ := X.keeps hk₁
    have bk1 : ∀ b o, base.get? b = some o → h₁.get? b = some o := fun b o e => hk₁ b o (bk b o e)
    have hx1 := hk₁ _ _ hx
    obtain ⟨oD, hD1, hD2⟩ : ∃ oD, h₁.get? C = some oD ∧ oD.data = .cls { name := nm, bases := bs, mro := .ref C :: bm, ns := N, qualname := q, hasDict := true, slotNames := sn, subclasses := sub, abstract := ab, collection := col, hasDel := false } := ⟨_, X1 _ _ hC, rfl⟩
    have hxC : x ≠ C := fun z => by
      rw [z, hC] at hnx
      cases hnx
    have sL : s.heap.get? s.heap.objs.size = none := by
      cases z : s.heap.get? s.heap.objs.size with
      | none => rfl
      | some o => exact absurd (Heap.lt_size z) (Nat.lt_irrefl _)
    obtain ⟨mb, hb1, hb2⟩ := Mo.blt
    refine ks_wpAt_execs_cons (ks_wpAt_Expr_any ?_)
    obtain ⟨pl, hpl⟩ := hask s.heap.objs.size
    refine ks_wpAt_MethodCall (pl := pl) ?_ hpl
    refine ks_wpAt_super_base FO.lp FO.lc (by decide) rfl (X1 _ _ ho) rfl rfl rfl (X1 _ _ hcode) rfl hvs hfile T.tops ?_
    refine ks_loadName_global rfl FO.lp (loadGlobal_builtin (Mo.glob.keeps bk1) T.gS (hb1.keeps bk1) ((hb2 _ (by decide)).trans (by decide +kernel)) ⟨rfl, ?_⟩)
    refine wpAny_loadName_free rfl FO.lc rfl ⟨_, X1 _ _ hcell, rfl⟩ ?_
    refine wpAny_loadName_local rfl FO.ls hns (v := .ref x) ?_ ?_
    · show List.lookup ("self" : Str) [(f, Value.str y ty), (("self" : Str), Value.ref x)] = some (Value.ref x)
      simp [List.lookup, FO.sn]
    refine ks_wpAny_isType_cls hD1 hD2 ⟨rfl, ?_⟩
    refine ks_wpAny_call_super hD1 hD2 hx1 rfl (fun c z => nomatch z) (looks_mroIn X1 T.slf) (fun h2 e2 k2 => ?_)
    have X2 : K.In h2 := X1.keeps k2
    have hx2 := k2 _ _ hx1
    have I2 : InstAt h2 x (HandSPX.excO C t0) C none := ⟨hx2, rfl, rfl, trivial⟩
    have hal : alongIn K "__init__" (((Value.ref C :: bm).dropWhile (· != .ref C)).drop 1) = some (some (.builtin "ValueError.__init__")) := by
      have z := T.sup
      unfold ks_superIn at z
      rw [hcl] at z
      exact z
    refine kxs_getMethod kxs_ValueError e2 (looks_opaque X2 T.nop) (l₀ := .ref C :: bm) (fun A Q E s k q => wpAny_bind ((looks_clsIn X2 hcl) A _ E s k (wpAny_pure q))) rfl X2 hal (I2.type.andThen (looks_subIn X2 T.veC)) hxC (by decide) ?_
    have k3 : ∀ b o, h2.get? b = some o → (h2.push (wrapO x)).get? b = some o := fun b o e => Heap.get?_push_of_some _ e
    have hu3 : (h2.push (wrapO x)).get? h2.objs.size = some (wrapO x) := Heap.get?_push_at rfl rfl
    have k13 : ∀ b o, h₁.get? b = some o → (h2.push (wrapO x)).get? b = some o := fun b o e => k3 b o (k2 b o e)
    have hns3 := hns.keeps k13
    have hx3 := k3 _ _ hx2
    have hC3 := k13 _ _ (X1 _ _ hC)
    refine kxs_callWith (i := "ValueError.__init__") (x := x) rfl (evalArgs_plain ?_)
    refine PyProof.Rows.spliced_more (e := .JoinedStr [.Constant (.str txt) 0 b1, .FormattedValue (.Name f b2) (-1) none b3] b4) (rest := []) (env := ksEnv qual (mS f) s.heap.objs.size fI (.ref cda) cc) (pos := a4) ?_
    refine wpAny_JoinedStr ?_
    show Joins _ _ _ [eval (.Constant (.str txt) 0 b1) _, eval (.FormattedValue (.Name f b2) (-1) none b3) _] Str.empty _ _
    refine Calls.Constant_str ⟨txt, _, rfl, ?_, ?_⟩
    · show (Str.empty ++ txt).length ≤ sizeLine
      have z : (Str.empty ++ txt).length = txt.length := by
        show (Str.empty ++ txt).cps.size = txt.cps.size
        show (Str.empty.cps ++ txt.cps).size = txt.cps.size
        rw [Array.size_append]
        exact Nat.zero_add _
      rw [z]
      exact hzt
    have zz : (Str.empty ++ txt ++ y).length ≤ sizeLine := by
      have e : Str.empty ++ txt = txt := by
        show (⟨Str.empty.cps ++ txt.cps⟩ : Str) = txt
        have e2 : Str.empty.cps ++ txt.cps = txt.cps := Array.empty_append
        rw [e2]
      rw [e]
      exact hzz
    refine wpAny_FormattedValue_plain (ESX.ldL (m := fun y' => [(("self" : Str), Value.ref x), (f, .str y ty)].reverse.lookup y') (hns3) (v := .str y ty) ?_ ?_ rfl FO.lk FO.db)
    · show List.lookup f [(f, Value.str y ty), (("self" : Str), Value.ref x)] = some (Value.str y ty)
      simp [List.lookup]
    refine wpAny_formatField_str ⟨y, _, rfl, zz, zz, ?_⟩ ⟨y, _, rfl, zz, zz, ?_⟩ hz
    all_goals
      refine PyProof.Rows.spliced_none ⟨hu3, ?_⟩
      refine parent_call hC3 hx3 hu3 (by rw [sizeLine_eq]; show 1 ≤ 16777216; decide) (fun h4 t1 k4 hx4 => ?_)
      have Lx : s.heap.objs.size ≠ x := Nat.ne_of_gt (Heap.lt_size hx)
      have hns4 : h4.Ns s.heap.objs.size (fun y' => [(("self" : Str), Value.ref x), (f, Value.str y ty)].reverse.lookup y') := by
        obtain ⟨oL, es, ep, hL, r⟩ := hns3
        exact ⟨oL, es, ep, k4 _ _ Lx hL, r⟩
      have X4 : K.In h4 := fun b o e => k4 b o (fun z => by rw [z, hnx] at e; cases e) (k13 _ _ (X1 b o e))
      refine wpAt_of_wpAny (wpAny_execs_cons (plainObj_wpAny_Assign_Attribute ?_))
      refine ESX.ldL hns4 (v := .str y ty) (by show List.lookup f [(f, Value.str y ty), (("self" : Str), Value.ref x)] = some (Value.str y ty); simp [List.lookup]) ?_ rfl FO.lk FO.db
      refine ESX.ldL hns4 (v := .ref x) (by show List.lookup ("self" : Str) [(f, Value.str y ty), (("self" : Str), Value.ref x)] = some (Value.ref x); simp [List.lookup, FO.sn]) ?_ rfl FO.ls (by decide)
      refine set_plain X4 (ox := HandSPX.excO C t1) (od := none) ⟨hx4, rfl, rfl, trivial⟩ T.sa ?_
      refine HandSPX.exc_osa X4 hx4 hcl (show HandSPX.refsVE (.ref C :: bm) = true from hbm) rfl T.noN (fun h5 tk5 dx k5 dn dne hx5 hn5 => ?_)
      refine wpAny_execs_nil (hq h5 tk5 dx ⟨fun b o hb e => k5 b o hb (k4 b o hb (k13 _ _ (hk₁ b o e))), ⟨t1, hx5⟩, ?_, dne, hn5⟩)
      have z1 : s.heap.objs.size < h4.objs.size := hns4.lt
      exact Nat.le_of_lt (Nat.lt_of_lt_of_le z1 dn)
/-- an error of C that has just been made: at e, its own dict at d -/
structure MMade (h h' : Heap) (e C d : Addr) (f : Str) (v : Value) : Prop where
  keep : ∀ b o, h.get? b = some o → h'.get? b = some o
  new : h.objs.size ≤ e
  obj : ∃ oe vs, h'.get? e = some oe ∧ oe.cls = .ref C ∧ oe.dict = some d ∧ oe.data = .fields vs ∧ vs[1]? = some .none
  dbig : h.objs.size ≤ d
  dne : d ≠ e
  ns : h'.Ns1 d (fun y => if y = f then some v else none)
theorem made_run (T : STxt prog K mg xn f txt C fI) (Mo : L2.Mod K mg base) {y : Str} {ty : Tok} (bk : ∀ b o, base.get? b = some o → s.heap.get? b = some o) (hroom : A.depth + 1 < recursionLimit)
    (hz : y.length ≤ sizeLine) (hzt : txt.length ≤ sizeLine) (hzz : (txt ++ y).length ≤ sizeLine)
    (hq : ∀ h' tk e d, MMade s.heap h' e C d f (.str y ty) → R (.ok (.ret (.ref e))) { s with heap := h', toks := tk }) :
    codeAny (model prog w) A (.call (.ref C) ⟨[.str y ty], []⟩) R s := by
  obtain ⟨nm, q, N, bs, bm, sn, sub, ab, col, dd, k0, k1, k2, k3, k5, hC, hbm⟩ := T.cls
  have X : K.In s.heap := Mo.kin.keeps bk
  obtain ⟨hp, g, dr, tk, os⟩ := s
  have old : ∀ b o, hp.get? b = some o → ((hp.push (kdv_tup [Value.str y ty])).push (HandSPX.excO C hp.objs.size)).get? b = some o := fun b o e => Heap.get?_push_of_some _ (Heap.get?_push_of_some _ e)
  have at_e : ((hp.push (kdv_tup [Value.str y ty])).push (HandSPX.excO C hp.objs.size)).get? (hp.objs.size + 1) = some (HandSPX.excO C hp.objs.size) := by heap_get
  have noK : K.lookup (hp.objs.size + 1) = none := by
    cases e : K.lookup (hp.objs.size + 1) with
    | none => rfl
    | some o =>
      have z : hp.get? (hp.objs.size + 1) = some o := X _ _ e
      exact absurd (Nat.lt_of_succ_lt (Heap.lt_size z)) (Nat.lt_irrefl _)
  refine HandSPX.call_own F.excBase_ValueError (fun X => HandSPX.refsVE_contains X bm hbm) (X _ _ hC) (looks_findIn X T.iC) (fun self => bind_fn X self T.tC) (by rw [sizeLine_eq]; show 1 ≤ 16777216; decide) ?_
  refine maker_run (s := ⟨(hp.push (kdv_tup [Value.str y ty])).push (HandSPX.excO C hp.objs.size), g, dr, tk, os⟩) T Mo (fun b o e => old b o (bk b o e)) at_e noK ?_ hz hzt hzz fun h' tk' dx M => ?_
  · show A.depth + 1 < recursionLimit
    exact hroom
  · have keep : ∀ b o, hp.get? b = some o → h'.get? b = some o := fun b o e => M.keep b o (Nat.ne_of_lt (Nat.lt_succ_of_lt (Heap.lt_size e))) (old b o e)
    have z : hp.objs.size + 1 + 1 ≤ dx := by
      have zz := M.dbig
      rw [Heap.size_push, Heap.size_push] at zz
      exact zz
    obtain ⟨t1, ho⟩ := M.obj
    exact ⟨rfl, hq h' tk' (hp.objs.size + 1) dx ⟨keep, Nat.le_succ _, ⟨_, _, ho, rfl, rfl, rfl, rfl⟩, Nat.le_trans (Nat.le_trans (Nat.le_succ _) (Nat.le_succ _)) z, M.dne, M.ns⟩⟩
end
end XgSup
namespace XgSup
open PySem L2 PySem.Spec PyProof.Rows
theorem relO_one {v : V} {v' : Value} (r : RelV v v') (f g : Str) : RelO (List.lookup g [(f, v)]) (if g = f then some v' else none) := by
  by_cases hw : g = f
  · subst hw
    rw [if_pos rfl]
    have q : List.lookup g [(g, v)] = some v := by simp [List.lookup]
    rw [q]
    exact r
  · rw [if_neg hw]
    have qw : (g == f) = false := by simpa using hw
    have q2 : List.lookup g [(f, v)] = none := by simp [List.lookup, qw]
    rw [q2]
    trivial
section
variable {X : Cx} {C fI : Addr} {xn f txt : Str}
/-- C(e), e a text -/
def tMkS (C : Addr) (f : Str) (ta : TA) : L2.St → Hp → XK → Prop := fun σ H Q => ta σ H fun vs H1 => ∃ y : Str, vs = [.str y] ∧ y.length ≤ 100000 ∧ ∀ d, H1 d = none → Q (.ref C) (some d) (upd H1 d (.xd [(f, .str y)]))
theorem pmk_sup {a : Expr} {ta : TA} {p pos : Pos} {k : Nat} (T : STxt X.prog X.K X.mg xn f txt C fI) (hlt : txt.length ≤ 100000) (hr : Room k X.A) (ha : PA X [a] ta) (hg : Gl X xn)
    (hdb : (xn == ("__debug__" : Str)) = false := by decide)
    (he : starEach (a :: []) X.env = (false, eval a X.env) :: starEach [] X.env := by rfl) (hpl : (backTo pos (starEach [] X.env)).any (·.1) = false := by rfl) :
    PMk X (.Call (.Name xn p) [a] [] pos) (tMkS C f ta) := by
  intro pins s σ H Q I h
  refine wpAny_Call_Name_kw (ld_glob I hg T.gC ?_ hdb)
  refine PySem.W.callWith_K (h₀ := X.base) I.ok.mod.kin T.kC (thn (ha.run pos pins s σ H _ I h) fun us s1 hh => ?_) he hpl
  obtain ⟨vs, H1, I1, r1, y, ev, hy, q1⟩ := hh
  subst ev
  refine ⟨I1.kIn, ?_⟩
  cases r1 with
  | cons rv rn =>
    rename_i v' us'
    cases rn
    obtain ⟨ty, rfl⟩ := rv
    show wpAny _ _ (call (.ref C) [_]) _ _ _
    have bk1 := I1.bk
    obtain ⟨hp, g, dr, tk, os⟩ := s1
    have zy : y.length ≤ sizeLine := by rw [sizeLine_eq]; omega
    have zt : txt.length ≤ sizeLine := by rw [sizeLine_eq]; omega
    have zz : (txt ++ y).length ≤ sizeLine := by
      have e : (txt ++ y).length = txt.length + y.length := by
        show (txt.cps ++ y.cps).size = txt.cps.size + y.cps.size
        exact Array.size_append
      rw [e, sizeLine_eq]
      omega
    refine wpAny_call (made_run T I1.mod bk1 (by have := hr.dp; omega) zy zt zz fun h' tk' e d M => ?_)
    show MkP X pins σ Q (.ref e) ⟨h', g, dr, tk', os⟩
    obtain ⟨oe, fv, hoe, hc, hd, hdat, h1⟩ := M.obj
    have hns := M.ns
    obtain ⟨G', g1, g2⟩ := restrict h' fun b => decide (b ≠ e)
    have gk : ∀ b, b ≠ e → G'.get? b = h'.get? b := fun b hb => g1 b (decide_eq_true hb)
    have ge : G'.get? e = none := g2 e (by simp)
    have old : ∀ b o, hp.get? b = some o → G'.get? b = some o := fun b o q => (gk b (Nat.ne_of_lt (Nat.lt_of_lt_of_le (Heap.lt_size q) M.new))).trans (M.keep b o q)
    have ob : ObjOk X.prog X.w (upd H1 d (.xd [(f, V.str y)])) G' d (.xd [(f, V.str y)]) :=
      ⟨_, hns.at (fun o q => (gk d M.dne).trans q), fun g' => relO_one (v := V.str y) (v' := Value.str y ty) (show RelV (V.str y) (Value.str y ty) from ⟨ty, rfl⟩) f g'⟩
    have J : Inv X pins σ (upd H1 d (.xd [(f, V.str y)])) ⟨G', g, dr, tk', os⟩ := I1.laid (t' := tk') old M.dbig ob
    refine ⟨e, oe, fv, ⟨G', g, dr, tk', os⟩, _, .ref C, some d, rfl, J, fun b o q => ?_, ge, hoe, ⟨hc, hd⟩, hdat, h1, ?_, rfl, I1.bare, raises_own T.exC T.tyC, q1 d (I1.hok.fresh M.dbig)⟩
    · by_cases hb : b = e
      · have q' : G'.get? b = some o := q
        rw [hb, ge] at q'; cases q'
      · exact (gk b hb).symm.trans q
    · rw [upd_ne (Ne.symm M.dne)]
      exact I1.hok.fresh M.new
end
end XgSup
/-! An own error class whose maker asks its parent for a text that shows two numbers, then keeps both: line, column. -/
namespace XgSup2
open PySem PySem.W PySem.Calls PyProof.Rows XgSup
abbrev fL : Str := "line"
abbrev fC : Str := "column"
abbrev tA : Str := "the text is wrong in line "
abbrev tB : Str := " at column "
def mA (p1 p2 p3 : Pos) : Arguments := { posonlyargs := [], args := [{ arg := "self", annotation := none, pos := p1 }, { arg := fL, annotation := none, pos := p2 }, { arg := fC, annotation := none, pos := p3 }], vararg := none, kwonlyargs := [], kw_defaults := [], kwarg := none, defaults := [] }
def askE (a1 a2 a3 a4 b1 b2 b3 b4 b5 b6 b7 : Pos) : Expr := .Call (.Attribute (.Call (.Name "super" a1) [] [] a2) "__init__" a3) [.JoinedStr [.Constant (.str tA) 0 b1, .FormattedValue (.Name fL b2) (-1) none b3, .Constant (.str tB) 0 b4, .FormattedValue (.Name fC b5) (-1) none b6] b7] [] a4
def mB (a1 a2 a3 a4 a5 b1 b2 b3 b4 b5 b6 b7 c1 c2 c3 c4 d1 d2 d3 d4 : Pos) : List Stmt :=
  [.Expr (askE a1 a2 a3 a4 b1 b2 b3 b4 b5 b6 b7) a5, .Assign [.Attribute (.Name "self" c1) fL c2] (.Name fL c3) c4, .Assign [.Attribute (.Name "self" d1) fC d2] (.Name fC d3) d4]
def mS : Scope := { kind := .function, names := [(PySem.Str.ofString "self", .local), (fL, .local), (fC, .local), (PySem.Str.ofString "__class__", .free), (PySem.Str.ofString "super", .globalImplicit)], isGenerator := false, isCoroutine := false, more := [] }
theorem mS_cell : ∀ x ∈ mS.names, x.2 ≠ .cell := by decide
def AskOk (qual : Str) (a1 a2 a3 a4 b1 b2 b3 b4 b5 b6 b7 : Pos) (fI cda cc : Addr) : Prop := ∀ L : Addr, ∃ pl : Sem Bool, eval (askE a1 a2 a3 a4 b1 b2 b3 b4 b5 b6 b7) (ksEnv qual mS L fI (.ref cda) cc) = (do
  let ov ← attributeBase (.Call (.Name "super" a1) [] [] a2) "__init__" (ksEnv qual mS L fI (.ref cda) cc) (eval (.Call (.Name "super" a1) [] [] a2) (ksEnv qual mS L fI (.ref cda) cc))
  standAt a3.atName
  let (g, first) ← holding [ov] (getMethod ov "__init__" pl)
  callWith a4 g first (backTo a4 (starEach [.JoinedStr [.Constant (.str tA) 0 b1, .FormattedValue (.Name fL b2) (-1) none b3, .Constant (.str tB) 0 b4, .FormattedValue (.Name fC b5) (-1) none b6] b7] (ksEnv qual mS L fI (.ref cda) cc))) [])
/-- what the written part says of the class at C and of its maker at fI -/
structure STxt (prog : Program) (K : Frag) (mg : Str → Option Value) (x : Str) (C fI : Addr) : Prop where
  gC : mg x = some (.ref C)
  cls : ∃ nm q N bs bm sn sub ab col dd k0 k1 k2 k3 k5, K.lookup C = some (excClassObj nm q C N bs bm true sn sub ab col dd k0 k1 k2 k3 k5 "ValueError.__new__") ∧ HandSPX.refsVE bm = true
  sa : findIn K (.ref C) "__setattr__" = some (some (.builtin "object.__setattr__"))
  ga : findIn K (.ref C) "__getattribute__" = some (some (.builtin "BaseException.__getattribute__"))
  gg : findIn K (.ref C) "__getattr__" = some none
  noL : findIn K (.ref C) fL = some none
  noC : findIn K (.ref C) fC = some none
  iC : findIn K (.ref C) "__init__" = some (some (.ref fI))
  tC : typeIn K (.ref fI) = some (.type "function")
  kC : keepIn K (.ref C) = true
  exC : subIn K (.ref C) (.type "BaseException") = some true
  veC : subIn K (.ref C) (.type "ValueError") = some true
  tyC : typeIn K (.ref C) = some (.type "type")
  hdC : hasDictIn K C = true
  sup : ks_superIn K C C "__init__" = some (some (.builtin "ValueError.__init__"))
  slf : mroIn K C (.ref C) = some true
  nop : nsIn K cStatics "thirdparty.any" = some none
  gS : mg "super" = none
  tops : (prog.main.scope.names.lookup ("super" : Str)).isSome = false
  fn : ∃ (qual : Str) (oc : Value) (od : Option Addr) (doc pm : Value) (an : Option Addr) (cda cc : Addr) (ct : Value) (osl : Array (Option Value)) (p1 p2 p3 a1 a2 a3 a4 a5 b1 b2 b3 b4 b5 b6 b7 c1 c2 c3 c4 d1 d2 d3 d4 : Pos)
      (ccl : Value) (cdd : Option Addr) (vs : Array Value) (ccs : Array (Option Value)) (file : Str) (tf : Tok) (cl : Value) (cld : Option Addr) (csl : Array (Option Value)),
    K.lookup fI = some ⟨oc, od, .func (ksFn "__init__" qual (mA p1 p2 p3) (mB a1 a2 a3 a4 a5 b1 b2 b3 b4 b5 b6 b7 c1 c2 c3 c4 d1 d2 d3 d4) mS .none .none doc pm an (.ref cda) ct cc), osl⟩ ∧ codeIn K (.ref cda) qual = true ∧
    K.lookup cda = some ⟨ccl, cdd, .fields vs, ccs⟩ ∧ vs[2]? = some (.str file tf) ∧ ((prog.main.file : Str) == file) = true ∧
    K.lookup cc = some ⟨cl, cld, .cell (some (.ref C)), csl⟩ ∧ AskOk qual a1 a2 a3 a4 b1 b2 b3 b4 b5 b6 b7 fI cda cc
/-- both kept -/
def two (u v : Value) : Str → Option Value := fun y => if y = fC then some v else if y = fL then some u else none
/-- what the maker leaves of a fresh error at x -/
structure MEnd (h h' : Heap) (x C dx : Addr) (u v : Value) : Prop where
  keep : ∀ b o, b ≠ x → h.get? b = some o → h'.get? b = some o
  obj : ∃ t1 : Addr, h'.get? x = some { cls := .ref C, dict := some dx, data := .fields #[.ref t1, .none, .none, .none, .bool false, .none] }
  dbig : h.objs.size ≤ dx
  dne : dx ≠ x
  ns : h'.Ns1 dx (two u v)
section
variable {prog : Program} {w : World} {A : Around} {E : Value → Shared → Prop} {R : Result → Shared → Prop} {s : Shared} {K : Frag} {mg : Str → Option Value} {xn : Str} {C fI : Addr} {base : Heap}
theorem maker_run (T : STxt prog K mg xn C fI) (Mo : L2.Mod K mg base) {x t0 : Addr} {i j : Int} {ti tj : Tok} (bk : ∀ b o, base.get? b = some o → s.heap.get? b = some o) (hx : s.heap.get? x = some (HandSPX.excO C t0))
    (hnx : K.lookup x = none) (hroom : A.depth < recursionLimit) (hi : i.natAbs.log2 < 1920) (hj : j.natAbs.log2 < 1920) (z1 : (Str.empty ++ tA).length ≤ sizeLine) (z2 : (Str.empty ++ tA ++ (toString i : String)).length ≤ sizeLine) (z3 : (Str.empty ++ tA ++ (toString i : String) ++ tB).length ≤ sizeLine) (z4 : (Str.empty ++ tA ++ (toString i : String) ++ tB ++ (toString j : String)).length ≤ sizeLine)
    (hq : ∀ h' tk dx, MEnd s.heap h' x C dx (.int i ti) (.int j tj) → R (.ok (.ret .none)) { s with heap := h', toks := tk }) :
    codeAny (model prog w) A (.call (.ref fI) ⟨[.ref x, .int i ti, .int j tj], []⟩) R s := by
  obtain ⟨qual, oc, od, doc, pm, an, cda, cc, ct, osl, p1, p2, p3, a1, a2, a3, a4, a5, b1, b2, b3, b4, b5, b6, b7, c1, c2, c3, c4, d1, d2, d3, d4, ccl, cdd, vs, ccs, file, tf, cl, cld, csl, ho, hcd, hcode, hvs, hfile, hcell, hask⟩ := T.fn
  obtain ⟨nm, q, N, bs, bm, sn, sub, ab, col, dd, k0, k1, k2, k3, k5, hC, hbm⟩ := T.cls
  have X : K.In s.heap := Mo.kin.keeps bk
  have hlim : s.heap.NoLimit := Mo.nolimit.keeps bk
  have hcl : clsIn K C = some { name := nm, bases := bs, mro := .ref C :: bm, ns := N, qualname := q, hasDict := true, slotNames := sn, subclasses := sub, abstract := ab, collection := col, hasDel := false } := by unfold clsIn; rw [hC] <;> rfl
  refine ks_codeAny_call_defAt (fd := ksFn "__init__" qual (mA p1 p2 p3) (mB a1 a2 a3 a4 a5 b1 b2 b3 b4 b5 b6 b7 c1 c2 c3 c4 d1 d2 d3 d4) mS .none .none doc pm an (.ref cda) ct cc) (binds := [(("self" : Str), .ref x), (fL, .int i ti), (fC, .int j tj)])
    hroom (X _ _ ho) rfl hlim (codeRec_of X hcd) rfl (BindsTo.of_eq ?_) mS_cell ?_ (fun h₁ hns hk₁ => ?_) rfl rfl rfl
  · rfl
  · intro y hy
    rcases List.mem_cons.mp hy with rfl | hy
    · rfl
    rcases List.mem_cons.mp hy with rfl | hy
    · rfl
    rcases List.mem_cons.mp hy with rfl | hy
    · rfl
    · cases hy
  · have X1 : K.In h₁ := X.keeps hk₁
    have bk1 : ∀ b o, base.get? b = some o → h₁.get? b = some o := fun b o e => hk₁ b o (bk b o e)
    have hx1 := hk₁ _ _ hx
    obtain ⟨oD, hD1, hD2⟩ : ∃ oD, h₁.get? C = some oD ∧ oD.data = .cls { name := nm, bases := bs, mro := .ref C :: bm, ns := N, qualname := q, hasDict := true, slotNames := sn, subclasses := sub, abstract := ab, collection := col, hasDel := false } := ⟨_, X1 _ _ hC, rfl⟩
    have hxC : x ≠ C := fun z => by
      rw [z, hC] at hnx
      cases hnx
    have sL : s.heap.get? s.heap.objs.size = none := by
      cases z : s.heap.get? s.heap.objs.size with
      | none => rfl
      | some o => exact absurd (Heap.lt_size z) (Nat.lt_irrefl _)
    obtain ⟨mb, hb1, hb2⟩ := Mo.blt
    refine ks_wpAt_execs_cons (ks_wpAt_Expr_any ?_)
    obtain ⟨pl, hpl⟩ := hask s.heap.objs.size
    refine ks_wpAt_MethodCall (pl := pl) ?_ hpl
    refine ks_wpAt_super_base rfl rfl (by decide) rfl (X1 _ _ ho) rfl rfl rfl (X1 _ _ hcode) rfl hvs hfile T.tops ?_
    refine ks_loadName_global rfl rfl (loadGlobal_builtin (Mo.glob.keeps bk1) T.gS (hb1.keeps bk1) ((hb2 _ (by decide)).trans (by decide +kernel)) ⟨rfl, ?_⟩)
    refine wpAny_loadName_free rfl rfl rfl ⟨_, X1 _ _ hcell, rfl⟩ ?_
    refine wpAny_loadName_local rfl rfl hns (v := .ref x) ?_ ?_
    · show List.lookup ("self" : Str) [(fC, Value.int j tj), (fL, Value.int i ti), (("self" : Str), Value.ref x)] = some (Value.ref x)
      rfl
    refine ks_wpAny_isType_cls hD1 hD2 ⟨rfl, ?_⟩
    refine ks_wpAny_call_super hD1 hD2 hx1 rfl (fun c z => nomatch z) (looks_mroIn X1 T.slf) (fun h2 e2 k2 => ?_)
    have X2 : K.In h2 := X1.keeps k2
    have hx2 := k2 _ _ hx1
    have I2 : InstAt h2 x (HandSPX.excO C t0) C none := ⟨hx2, rfl, rfl, trivial⟩
    have hal : alongIn K "__init__" (((Value.ref C :: bm).dropWhile (· != .ref C)).drop 1) = some (some (.builtin "ValueError.__init__")) := by
      have z := T.sup
      unfold ks_superIn at z
      rw [hcl] at z
      exact z
    refine kxs_getMethod kxs_ValueError e2 (looks_opaque X2 T.nop) (l₀ := .ref C :: bm) (fun A Q E s k q => wpAny_bind ((looks_clsIn X2 hcl) A _ E s k (wpAny_pure q))) rfl X2 hal (I2.type.andThen (looks_subIn X2 T.veC)) hxC (by decide) ?_
    have k3 : ∀ b o, h2.get? b = some o → (h2.push (wrapO x)).get? b = some o := fun b o e => Heap.get?_push_of_some _ e
    have hu3 : (h2.push (wrapO x)).get? h2.objs.size = some (wrapO x) := Heap.get?_push_at rfl rfl
    have k13 : ∀ b o, h₁.get? b = some o → (h2.push (wrapO x)).get? b = some o := fun b o e => k3 b o (k2 b o e)
    have hns3 := hns.keeps k13
    have hx3 := k3 _ _ hx2
    have hC3 := k13 _ _ (X1 _ _ hC)
    refine kxs_callWith (i := "ValueError.__init__") (x := x) rfl (evalArgs_plain ?_)
    refine PyProof.Rows.spliced_more (e := .JoinedStr [.Constant (.str tA) 0 b1, .FormattedValue (.Name fL b2) (-1) none b3, .Constant (.str tB) 0 b4, .FormattedValue (.Name fC b5) (-1) none b6] b7) (rest := []) (env := ksEnv qual mS s.heap.objs.size fI (.ref cda) cc) (pos := a4) ?_
    refine wpAny_JoinedStr ?_
    show Joins _ _ _ [eval (.Constant (.str tA) 0 b1) _, eval (.FormattedValue (.Name fL b2) (-1) none b3) _, eval (.Constant (.str tB) 0 b4) _, eval (.FormattedValue (.Name fC b5) (-1) none b6) _] Str.empty _ _
    refine Calls.Constant_str ⟨tA, _, rfl, z1, ?_⟩
    refine wpAny_FormattedValue_plain (ESX.ldL (m := fun y' => [(("self" : Str), Value.ref x), (fL, .int i ti), (fC, .int j tj)].reverse.lookup y') (hns3) (v := .int i ti) rfl ?_ rfl rfl (by decide))
    refine wpAny_formatField_int hi ⟨_, _, rfl, z2, ?_⟩
    refine Calls.Constant_str ⟨tB, _, rfl, z3, ?_⟩
    refine wpAny_FormattedValue_plain (ESX.ldL (m := fun y' => [(("self" : Str), Value.ref x), (fL, .int i ti), (fC, .int j tj)].reverse.lookup y') (hns3) (v := .int j tj) rfl ?_ rfl rfl (by decide))
    refine wpAny_formatField_int hj ⟨_, _, rfl, z4, z4, ?_⟩
    all_goals
      refine PyProof.Rows.spliced_none ⟨hu3, ?_⟩
      refine parent_call hC3 hx3 hu3 (by rw [sizeLine_eq]; show 1 ≤ 16777216; decide) (fun h4 t1 k4 hx4 => ?_)
      have Lx : s.heap.objs.size ≠ x := Nat.ne_of_gt (Heap.lt_size hx)
      have hns4 : h4.Ns s.heap.objs.size (fun y' => [(("self" : Str), Value.ref x), (fL, Value.int i ti), (fC, Value.int j tj)].reverse.lookup y') := by
        obtain ⟨oL, es, ep, hL, r⟩ := hns3
        exact ⟨oL, es, ep, k4 _ _ Lx hL, r⟩
      have X4 : K.In h4 := fun b o e => k4 b o (fun z => by rw [z, hnx] at e; cases e) (k13 _ _ (X1 b o e))
      refine wpAt_of_wpAny (wpAny_execs_cons (plainObj_wpAny_Assign_Attribute ?_))
      refine ESX.ldL hns4 (v := .int i ti) rfl ?_ rfl rfl (by decide)
      refine ESX.ldL hns4 (v := .ref x) rfl ?_ rfl rfl (by decide)
      refine set_plain X4 (ox := HandSPX.excO C t1) (od := none) ⟨hx4, rfl, rfl, trivial⟩ T.sa ?_
      refine HandSPX.exc_osa X4 hx4 hcl (show HandSPX.refsVE (.ref C :: bm) = true from hbm) rfl T.noL (fun h5 tk5 dx k5 dn dne hx5 hn5 => ?_)
      have hns5 : h5.Ns s.heap.objs.size (fun y' => [(("self" : Str), Value.ref x), (fL, Value.int i ti), (fC, Value.int j tj)].reverse.lookup y') := by
        obtain ⟨oL, es, ep, hL, r⟩ := hns4
        exact ⟨oL, es, ep, k5 _ _ Lx hL, r⟩
      have X5 : K.In h5 := fun b o e => k5 b o (fun z => by rw [z, hnx] at e; cases e) (X4 b o e)
      obtain ⟨oD5, es5, ep5, hoD5, r5⟩ := id hn5
      refine wpAny_execs_cons (plainObj_wpAny_Assign_Attribute ?_)
      refine ESX.ldL hns5 (v := .int j tj) rfl ?_ rfl rfl (by decide)
      refine ESX.ldL hns5 (v := .ref x) rfl ?_ rfl rfl (by decide)
      refine set_plain X5 (ox := { cls := .ref C, dict := some dx, data := .fields #[.ref t1, .none, .none, .none, .bool false, .none] }) (od := some oD5) ⟨hx5, rfl, rfl, hoD5⟩ T.sa ?_
      refine PySem.OEX.osa_old X5 hx5 hn5 (nl := [fL]) (Within.cons fL _ Within.nil) (by decide) hcl (show HandSPX.refsVE (.ref C :: bm) = true from hbm) rfl T.noC (fun h6 tk6 k6 hn6 => ?_)
      refine wpAny_execs_nil (hq h6 tk6 dx ⟨fun b o hb e => k6 b o (fun z => ?_) (k5 b o hb (k4 b o hb (k13 _ _ (hk₁ b o e)))), ⟨t1, k6 _ _ (Ne.symm dne) hx5⟩, ?_, dne, hn6⟩)
      · have z1 : s.heap.objs.size < h4.objs.size := hns4.lt
        rw [z] at e
        exact absurd (Nat.lt_of_lt_of_le (Nat.lt_trans (Heap.lt_size e) z1) dn) (Nat.lt_irrefl _)
      · have z1 : s.heap.objs.size < h4.objs.size := hns4.lt
        exact Nat.le_of_lt (Nat.lt_of_lt_of_le z1 dn)
/-- an error of C that has just been made: at e, its own dict at d -/
structure MMade (h h' : Heap) (e C d : Addr) (u v : Value) : Prop where
  keep : ∀ b o, h.get? b = some o → h'.get? b = some o
  new : h.objs.size ≤ e
  obj : ∃ oe vs, h'.get? e = some oe ∧ oe.cls = .ref C ∧ oe.dict = some d ∧ oe.data = .fields vs ∧ vs[1]? = some .none
  dbig : h.objs.size ≤ d
  dne : d ≠ e
  ns : h'.Ns1 d (two u v)
theorem made_run (T : STxt prog K mg xn C fI) (Mo : L2.Mod K mg base) {i j : Int} {ti tj : Tok} (bk : ∀ b o, base.get? b = some o → s.heap.get? b = some o) (hroom : A.depth + 1 < recursionLimit)
    (hi : i.natAbs.log2 < 1920) (hj : j.natAbs.log2 < 1920) (z1 : (Str.empty ++ tA).length ≤ sizeLine) (z2 : (Str.empty ++ tA ++ (toString i : String)).length ≤ sizeLine) (z3 : (Str.empty ++ tA ++ (toString i : String) ++ tB).length ≤ sizeLine) (z4 : (Str.empty ++ tA ++ (toString i : String) ++ tB ++ (toString j : String)).length ≤ sizeLine)
    (hq : ∀ h' tk e d, MMade s.heap h' e C d (.int i ti) (.int j tj) → R (.ok (.ret (.ref e))) { s with heap := h', toks := tk }) :
    codeAny (model prog w) A (.call (.ref C) ⟨[.int i ti, .int j tj], []⟩) R s := by
  obtain ⟨nm, q, N, bs, bm, sn, sub, ab, col, dd, k0, k1, k2, k3, k5, hC, hbm⟩ := T.cls
  have X : K.In s.heap := Mo.kin.keeps bk
  obtain ⟨hp, g, dr, tk, os⟩ := s
  have old : ∀ b o, hp.get? b = some o → ((hp.push (kdv_tup [Value.int i ti, Value.int j tj])).push (HandSPX.excO C hp.objs.size)).get? b = some o := fun b o e => Heap.get?_push_of_some _ (Heap.get?_push_of_some _ e)
  have at_e : ((hp.push (kdv_tup [Value.int i ti, Value.int j tj])).push (HandSPX.excO C hp.objs.size)).get? (hp.objs.size + 1) = some (HandSPX.excO C hp.objs.size) := by heap_get
  have noK : K.lookup (hp.objs.size + 1) = none := by
    cases e : K.lookup (hp.objs.size + 1) with
    | none => rfl
    | some o =>
      have z : hp.get? (hp.objs.size + 1) = some o := X _ _ e
      exact absurd (Nat.lt_of_succ_lt (Heap.lt_size z)) (Nat.lt_irrefl _)
  refine HandSPX.call_own F.excBase_ValueError (fun X => HandSPX.refsVE_contains X bm hbm) (X _ _ hC) (looks_findIn X T.iC) (fun self => bind_fn X self T.tC) (by rw [sizeLine_eq]; show 2 ≤ 16777216; decide) ?_
  refine maker_run (s := ⟨(hp.push (kdv_tup [Value.int i ti, Value.int j tj])).push (HandSPX.excO C hp.objs.size), g, dr, tk, os⟩) T Mo (fun b o e => old b o (bk b o e)) at_e noK ?_ hi hj z1 z2 z3 z4 fun h' tk' dx M => ?_
  · show A.depth + 1 < recursionLimit
    exact hroom
  · have keep : ∀ b o, hp.get? b = some o → h'.get? b = some o := fun b o e => M.keep b o (Nat.ne_of_lt (Nat.lt_succ_of_lt (Heap.lt_size e))) (old b o e)
    have z : hp.objs.size + 1 + 1 ≤ dx := by
      have zz := M.dbig
      rw [Heap.size_push, Heap.size_push] at zz
      exact zz
    obtain ⟨t1, ho⟩ := M.obj
    exact ⟨rfl, hq h' tk' (hp.objs.size + 1) dx ⟨keep, Nat.le_succ _, ⟨_, _, ho, rfl, rfl, rfl, rfl⟩, Nat.le_trans (Nat.le_trans (Nat.le_succ _) (Nat.le_succ _)) z, M.dne, M.ns⟩⟩
end
end XgSup2
namespace XgSup2
open PySem L2 PySem.Spec PyProof.Rows
theorem relO_two {u v : V} {u' v' : Value} (ru : RelV u u') (rv : RelV v v') (g : Str) : RelO (List.lookup g [(fC, v), (fL, u)]) (two u' v' g) := by
  unfold two
  by_cases h1 : g = fC
  · subst h1
    exact rv
  · rw [if_neg h1]
    have q1 : (g == fC) = false := by simpa using h1
    by_cases h2 : g = fL
    · subst h2
      exact ru
    · rw [if_neg h2]
      have q2 : (g == fL) = false := by simpa using h2
      have e : List.lookup g [(fC, v), (fL, u)] = none := by simp [List.lookup, q1, q2]
      rw [e]
      trivial
section
variable {X : Cx} {C fI : Addr} {xn : Str}
/-- C(a, b), two numbers whose texts are short -/
def tMkS (C : Addr) (ta : TA) : L2.St → Hp → XK → Prop := fun σ H Q => ta σ H fun vs H1 => ∃ i j : Int, vs = [.int i, .int j] ∧ i.natAbs.log2 < 1920 ∧ j.natAbs.log2 < 1920 ∧ ∀ d, H1 d = none → Q (.ref C) (some d) (upd H1 d (.xd [(fC, .int j), (fL, .int i)]))
theorem pmk_two {a b : Expr} {ta : TA} {p pos : Pos} {k : Nat} (T : STxt X.prog X.K X.mg xn C fI) (hr : Room k X.A) (ha : PA X [a, b] ta) (hg : Gl X xn)
    (hdb : (xn == ("__debug__" : Str)) = false := by decide)
    (he : starEach (a :: [b]) X.env = (false, eval a X.env) :: starEach [b] X.env := by rfl) (hpl : (backTo pos (starEach [b] X.env)).any (·.1) = false := by rfl) :
    PMk X (.Call (.Name xn p) [a, b] [] pos) (tMkS C ta) := by
  intro pins s σ H Q I h
  refine wpAny_Call_Name_kw (ld_glob I hg T.gC ?_ hdb)
  refine PySem.W.callWith_K (h₀ := X.base) I.ok.mod.kin T.kC (thn (ha.run pos pins s σ H _ I h) fun us s1 hh => ?_) he hpl
  obtain ⟨vs, H1, I1, r1, i, j, ev, hi, hj, q1⟩ := hh
  subst ev
  refine ⟨I1.kIn, ?_⟩
  obtain ⟨u1, u2, rfl, r11, r12⟩ := vals2 r1
  · obtain ⟨ti, rfl⟩ := r11
    obtain ⟨tj, rfl⟩ := r12
    show wpAny _ _ (call (.ref C) [_, _]) _ _ _
    have bk1 := I1.bk
    obtain ⟨hp, g, dr, tk, os⟩ := s1
    have lap : ∀ x y : Str, (x ++ y).length = x.length + y.length := fun x y => by
      show (x.cps ++ y.cps).size = x.cps.size + y.cps.size
      exact Array.size_append
    have le : Str.empty.length = 0 := rfl
    have la : tA.length ≤ 100 := by decide +kernel
    have lb : tB.length ≤ 100 := by decide +kernel
    have li := int_text_len_1921 hi
    have lj := int_text_len_1921 hj
    refine wpAny_call (made_run T I1.mod bk1 (by have := hr.dp; omega) hi hj (by rw [lap, sizeLine_eq]; omega) (by rw [lap, lap, sizeLine_eq]; omega) (by rw [lap, lap, lap, sizeLine_eq]; omega) (by rw [lap, lap, lap, lap, sizeLine_eq]; omega) fun h' tk' e d M => ?_)
    show MkP X pins σ Q (.ref e) ⟨h', g, dr, tk', os⟩
    obtain ⟨oe, fv, hoe, hc, hd, hdat, h1⟩ := M.obj
    have hns := M.ns
    obtain ⟨G', g1, g2⟩ := restrict h' fun b => decide (b ≠ e)
    have gk : ∀ b, b ≠ e → G'.get? b = h'.get? b := fun b hb => g1 b (decide_eq_true hb)
    have ge : G'.get? e = none := g2 e (by simp)
    have old : ∀ b o, hp.get? b = some o → G'.get? b = some o := fun b o q => (gk b (Nat.ne_of_lt (Nat.lt_of_lt_of_le (Heap.lt_size q) M.new))).trans (M.keep b o q)
    have ob : ObjOk X.prog X.w (upd H1 d (.xd [(fC, V.int j), (fL, V.int i)])) G' d (.xd [(fC, V.int j), (fL, V.int i)]) :=
      ⟨_, hns.at (fun o q => (gk d M.dne).trans q), fun g' => relO_two (u := V.int i) (v := V.int j) (u' := Value.int i ti) (v' := Value.int j tj) ⟨ti, rfl⟩ ⟨tj, rfl⟩ g'⟩
    have J : Inv X pins σ (upd H1 d (.xd [(fC, V.int j), (fL, V.int i)])) ⟨G', g, dr, tk', os⟩ := I1.laid (t' := tk') old M.dbig ob
    refine ⟨e, oe, fv, ⟨G', g, dr, tk', os⟩, _, .ref C, some d, rfl, J, fun b o q => ?_, ge, hoe, ⟨hc, hd⟩, hdat, h1, ?_, rfl, I1.bare, raises_own T.exC T.tyC, q1 d (I1.hok.fresh M.dbig)⟩
    · by_cases hb : b = e
      · have q' : G'.get? b = some o := q
        rw [hb, ge] at q'; cases q'
      · exact (gk b hb).symm.trans q
    · rw [upd_ne (Ne.symm M.dne)]
      exact I1.hok.fresh M.new
end
end XgSup2
namespace XgSup2
theorem log_small {i : Int} (h0 : 0 ≤ i) (h1 : i < 2 ^ 62) : i.natAbs.log2 < 1920 := by
  by_cases h : i.natAbs = 0
  · rw [h]
    decide
  · have q := (Nat.log2_lt h (k := 62)).mpr (by omega)
    omega
end XgSup2
namespace XgIsa
open PySem PySem.W PySem.Spec PySem.Calls PyProof.Rows
section
variable {prog : Program} {w : World} {A : Around} {E : Value → Shared → Prop} {s : Shared} {K : Frag} {x D : Addr} {ox : Obj}
theorem find_cls {C : Addr} {od : Option Obj} {name : Str} {a g : Value} (hc : (clsIn K C).isSome = true) (ha : findIn K (.ref C) name = some (some a)) (hg : specialIn K a "__get__" = some (some g)) (ht : takesIn K a = some true) :
    findObj K C od name = some (.bind g a) := by
  obtain ⟨cd, hc⟩ := Option.isSome_iff_exists.mp hc
  unfold findObj
  rw [hc, Option.bind_some, ha, Option.bind_some]
  simp [hg, ht]
theorem ask_class {od : Option Obj} {Q : Option Value → Shared → Prop} (T : L2.ExcC K D) (X : K.In s.heap) (I : InstAt s.heap x ox D od) (h : Q (some (.ref D)) { s with toks := s.toks + 1 }) : wpAny (model prog w) A (getAttr? (.ref x) "__class__") Q E s := by
  have hf : findObj K D od "__class__" = some (.bind (.builtin "getset_descriptor.__get__") (.builtin "object.__class__")) := find_cls (by obtain ⟨cd, hc, _⟩ := any_some T.hd; rw [hc]; rfl) T.ha T.hn T.ht
  obtain ⟨hp, g, d, t, os⟩ := s
  have l0 := I.type (M := model prog w)
  have l1 := looks_findIn (M := model prog w) X T.hg
  have l2 := looks_findIn (M := model prog w) X T.hk
  have l3 := looks_find (M := model prog w) X I hf
  have sub : Looks (model prog w) hp (isInstance (.ref x) (.type "BaseException")) true := l0.andThen (looks_subIn X T.hs)
  have q0 : (false && onTheHeap (Value.builtin "BaseException.__getattribute__")) = false := rfl
  have q2 : (Value.builtin "BaseException.__getattribute__" == Value.builtin "object.__getattribute__") = false := by decide +kernel
  have q1 : (onTheHeap (Value.ref D) && Value.builtin "BaseException.__getattribute__" == Value.builtin "object.__getattribute__") = false := by rw [q2]; rfl
  unfold getAttr? getAttrBy? getAttrBy
  refine wpAny_bind (wpAny_mkText (wpAny_bind (wpAny_attempt (wpAny_holding (wpAny_bind (l0.at (wpAny_bind (l1.at ?_))))))))
  show wpAny _ _ (if (onTheHeap (Value.ref D) && Value.builtin "BaseException.__getattribute__" == Value.builtin "object.__getattribute__") = true then _ else _) _ _ _
  rw [q1, if_neg Bool.false_ne_true]
  unfold getAttrByItsOwn hookBefore
  refine wpAny_bind ?_
  rw [if_pos (show onTheHeap (Value.ref D) = true from rfl)]
  refine l2.at ?_
  refine wpAny_bind (wpAny_attempt (wpAny_holding ?_))
  unfold callGetattribute
  rw [q0, if_neg Bool.false_ne_true]
  unfold boundAndCalled
  rw [PySem.F.excAttr_ValueError.ga.bind (.ref x)]
  refine wpAny_bind (wpAny_pure ?_)
  show wpAny _ _ (call (.builtin "BaseException.__getattribute__") [.ref x, .str "__class__" t]) _ _ _
  refine wpAny_call (codeAny_call_builtin PySem.F.excAttr_ValueError.ga.plain PySem.F.entry_bexc_ga ?_)
  refine @check_slot (model prog w) _ _ ⟨hp, g, d, t + 1, os⟩ "BaseException.__getattribute__" "BaseException" "__getattribute__" (.ref x) [.str "__class__" t] [] _ (by decide +kernel) (by decide +kernel) sub (PySem.F.args_bexc_ga (.ref x) (.str "__class__" t)) ?_
  unfold Builtin.«object.__getattribute__»
  refine wpAny_bind (wpAny_of_eq (a := ((Value.ref x : Value), [Value.str "__class__" t])) (by first | rfl | (simp only [slotArgs]; rfl)) ?_)
  refine wpAny_bind (wpAny_pure (wpAny_bind (l0.at (wpAny_bind (l3.at ?_)))))
  show wpAny _ _ (holding [Value.builtin "object.__class__"] (call (.builtin "getset_descriptor.__get__") [.builtin "object.__class__", .ref x, .ref D]) >>= ret) _ _ _
  refine wpAny_bind (wpAny_holding (wpAny_call (class_get (s := ⟨hp, g, d, t + 1, os⟩) (ox := ox) (od := od) X I T.hm ?_)))
  refine wpAny_pure ?_
  show wpAny _ _ (handedOut (.ref D)) _ _ _
  rw [handedOut_of (v := .ref D) rfl]
  first
    | exact wpAny_pure (wpAny_pure h)
    | exact wpAny_pure h
    | exact wpAny_pure (wpAny_bind (wpAny_pure (wpAny_pure h)))
theorem kitx_err (T : L2.ExcC K D) : KitX K (.ref x) (.ref D) (fun h => ∃ od, InstAt h x ox D od) where
  ty := fun _ _ _ ⟨_, I⟩ => I.type
  it := fun _ _ X _ => by
    obtain ⟨cdD, hcD, _⟩ := any_some T.hd
    unfold clsIn at hcD
    split at hcD
    · rename_i c' d' cd' sl' ho
      intro A' Q' E' s' k q
      unfold isType loadHead
      exact wpAny_bind (wpAny_loadPart (k _ _ (X _ _ ho)) (wpAny_pure q))
    · cases hcD
  ne := fun h tp dd its n sl X htp => by
    obtain ⟨cdD, hcD, _⟩ := any_some T.hd
    refine Bool.eq_false_iff.mpr fun q => ?_
    have e : D = tp := Value.ref.inj (beq_iff_eq.mp q)
    subst e
    unfold clsIn at hcD
    split at hcD
    · rename_i c' d' cd' sl' ho
      have z := (X _ _ ho).symm.trans htp
      cases z
    · cases hcD
  ca := fun X ⟨_, I⟩ k => ask_class T X I k
end
end XgIsa
namespace XgIsa
open PySem PySem.Spec PyProof.Rows L2
/-- isinstance(e, c), isinstance(e, (c1, c2, ..)), e the error that the suite holds at a (class at D, dict d) -/
def rIsX (K : PySem.W.Frag) (a : Addr) (cls : Value) (d : Option Addr) : List V → Hp → VK → Prop := fun xs H Q => ∃ (D : Addr) (dd : Addr) (fs : List (Str × V)) (y : V) (b : Bool), xs = [.ref a, y] ∧ cls = .ref D ∧ ExcC K D ∧ d = some dd ∧ H dd = some (.xd fs) ∧
  ((∃ u, ClsV y u ∧ PySem.W.kitOne K (.ref D) u = some b) ∨ ∃ tp cs us, y = .ref tp ∧ H tp = some (.tup cs) ∧ Paired ClsV cs us ∧ PySem.W.kitAny K (.ref D) us = some b) ∧ Q (.bl b) H
theorem call_isX {X : Cx} {a : Addr} {cls : Value} {d : Option Addr} {oe : Obj} {pn : List (Addr × Obj)} (hz : Zc cls d oe) (hf : ∃ vs, oe.data = .fields vs) : CallR (X.suite a ((a, oe) :: pn)) (.builtin "isinstance") (rIsX X.K a cls d) := by
  intro pins s σ H xs us Q I r h
  obtain ⟨D, dd, fs, y, b, rfl, ec, T, ed, hd, ho, q⟩ := h
  obtain ⟨u1, u2, rfl, r1, r2⟩ := vals2 r
  cases (show u1 = Value.ref a from r1)
  subst ec
  subst ed
  obtain ⟨hget, _⟩ := I.pin (a, oe) (List.mem_append.mpr (.inl List.mem_cons_self))
  obtain ⟨vs, hv⟩ := hf
  obtain ⟨mA, hns, _⟩ := (show ObjOk X.prog X.w H s.heap dd (.xd fs) from I.hok dd _ hd)
  obtain ⟨od, hod, _⟩ := lookIn_ns hns
  have J : PySem.W.InstAt s.heap a oe D (some od) := ⟨hget, hz.1, by unfold PySem.W.notCls; rw [hv] <;> rfl, by rw [hz.2]; exact hod⟩
  rcases ho with ⟨u, hc, e⟩ | ⟨tp, cs, ws, rfl, hT, k, e⟩
  · have ew := hc.eq r2
    subst ew
    exact PySem.W.kia_one (kitx_err T) I.kIn ⟨_, J⟩ e (fun z => nomatch z) fun tk => ⟨.bl b, H, I.kept (t' := tk) fun _ _ z => z, rfl, q⟩
  · cases (show u2 = Value.ref tp from r2)
    obtain ⟨_, its, rv, o, h1, h2, n, h3⟩ := (show ObjOk X.prog X.w H s.heap tp (.tup cs) from I.hok tp _ hT)
    have e3 := ClsV.all k rv
    subst e3
    obtain ⟨oc, od', dt, sl⟩ := o
    simp only at h2 h3
    subst h2 h3
    exact PySem.W.kia_tup (kitx_err T) I.kIn ⟨_, J⟩ h1 e (fun z => nomatch z) fun tk => ⟨.bl b, H, I.kept (t' := tk) fun _ _ z => z, rfl, q⟩
end XgIsa
namespace XgIter
open PySem PySem.Spec PyProof.Rows L2 PySem.W
/-! Pairs walked: zip of two of (list, tuple, text) in any mix; enumerate of a tuple. -/
/-- what is walked: a list, a tuple, a text -/
inductive Src where
  | L (a : Addr)
  | T (a : Addr)
  | S (z : Str)
/-- its items -/
def Src.rd (K : PySem.W.Frag) : Src → Hp → List V → Prop
  | .L a, H, xs => SqL K H a xs
  | .T a, H, xs => SqT K H a xs
  | .S z, _, xs => xs = z.cps.toList.map fun c => V.str ⟨#[c]⟩
def Src.v : Src → V
  | .L a => .ref a
  | .T a => .ref a
  | .S z => .str z
/-- the same, with the text's token -/
inductive Srm where
  | L (a : Addr)
  | T (a : Addr)
  | S (z : Str) (t : Tok)
def Srm.src : Srm → Src
  | .L a => .L a
  | .T a => .T a
  | .S z _ => .S z
def Srm.ext : Srm → List Addr
  | .L a => [a]
  | .T a => [a]
  | .S _ _ => []
def Srm.val : Srm → Value
  | .L a => .ref a
  | .T a => .ref a
  | .S z t => .str z t
def Srm.it : Srm → Addr → Nat → Heap → Prop
  | .L a, b, i, h => h.IsListIter b a i
  | .T a, b, i, h => h.IsTupleIter b a i
  | .S z t, b, i, h => h.IsStrIter b (strIterType z) z t i
def Srm.beg : Srm → Obj
  | .L a => { cls := .type "list_iterator", data := .fields #[.ref a, .int 0 0] }
  | .T a => { cls := .type "tuple_iterator", data := .fields #[.ref a, .int 0 0] }
  | .S z t => { cls := .type (strIterType z), data := .fields #[.str z t, .int 0 0] }
theorem Srm.itAt {r : Srm} {b : Addr} {i : Nat} {h h' : Heap} (st : r.it b i h) (k : ∀ o, h.get? b = some o → h'.get? b = some o) : r.it b i h' := by
  cases r with
  | L a => exact Heap.IsListIter.at st k
  | T a => exact Heap.IsTupleIter.at st k
  | S z t => obtain ⟨o, e, rest⟩ := st; exact ⟨o, k o e, rest⟩
theorem Srm.itObj {r : Srm} {b : Addr} {i : Nat} {h : Heap} (st : r.it b i h) : ∃ o, h.get? b = some o ∧ ∀ v, o.data ≠ .cell v := by
  cases r with
  | L a => obtain ⟨o, e, _, d⟩ := st; exact ⟨o, e, fun v q => by rw [d] at q; cases q⟩
  | T a => obtain ⟨o, e, _, d⟩ := st; exact ⟨o, e, fun v q => by rw [d] at q; cases q⟩
  | S z t => obtain ⟨o, e, _, d⟩ := st; exact ⟨o, e, fun v q => by rw [d] at q; cases q⟩
theorem Srm.itBeg {r : Srm} {b : Addr} {h : Heap} (e : h.get? b = some r.beg) : r.it b 0 h := by
  cases r with
  | L a => exact ⟨_, e, rfl, rfl⟩
  | T a => exact ⟨_, e, rfl, rfl⟩
  | S z t => exact ⟨_, e, rfl, rfl⟩
section
variable {X : Cx} {pins : List (Addr × Obj)} {σ : L2.St} {H : Hp} {s : Shared}
/-- what its iterator draws -/
theorem drawn (I : Inv X pins σ H s) {A : Around} (hh : A.handled = none) {r : Srm} {b : Addr} {xs : List V} (hq : r.src.rd X.K H xs) (hb : b ∉ r.ext) :
    ∃ (P : Nat → Value → Prop) (St : Nat → Heap → Prop), Draws X.prog X.w A b (b :: r.ext) xs.length P St ∧ (∀ i, r.it b i s.heap → St i s.heap) ∧ (∀ i h, St i h → r.it b i h) ∧ ∀ i v, P i v → ∃ y, xs[i]? = some y ∧ RelV y v := by
  cases r with
  | L a =>
    obtain ⟨its, rv, p, _⟩ := I.list hq
    have hne : a ≠ b := fun z => hb (by rw [z]; exact List.mem_cons_self)
    refine ⟨fun i v => its.toArray[i]? = some v, fun i h => h.IsListIter b a i ∧ h.IsList a its.toArray, ?_, fun i st => ⟨st, p.isList⟩, fun i h st => st.1, fun i v hv => ?_⟩
    · rw [rv.length]
      exact Draws.list hh b a hne its.toArray
    · have hv' : its[i]? = some v := by simpa using hv
      have hl : i < its.length := (List.getElem?_eq_some_iff.mp hv').1
      have hx : i < xs.length := by rw [rv.length]; exact hl
      obtain ⟨u, hu, ru⟩ := rv.get (List.getElem?_eq_getElem hx)
      rw [hv'] at hu
      cases hu
      exact ⟨_, List.getElem?_eq_getElem hx, ru⟩
  | T a =>
    obtain ⟨its, rv, p, _⟩ := I.tuple hq
    have hne : a ≠ b := fun z => hb (by rw [z]; exact List.mem_cons_self)
    refine ⟨fun i v => its.toArray[i]? = some v, fun i h => h.IsTupleIter b a i ∧ h.IsTuple a its.toArray, ?_, fun i st => ⟨st, p⟩, fun i h st => st.1, fun i v hv => ?_⟩
    · rw [rv.length]
      exact Draws.tuple hh b a hne its.toArray
    · have hv' : its[i]? = some v := by simpa using hv
      have hl : i < its.length := (List.getElem?_eq_some_iff.mp hv').1
      have hx : i < xs.length := by rw [rv.length]; exact hl
      obtain ⟨u, hu, ru⟩ := rv.get (List.getElem?_eq_getElem hx)
      rw [hv'] at hu
      cases hu
      exact ⟨_, List.getElem?_eq_getElem hx, ru⟩
  | S z t =>
    have hq' : xs = z.cps.toList.map fun c => V.str ⟨#[c]⟩ := hq
    subst hq'
    refine ⟨fun i v => ∃ c u, z.cps[i]? = some c ∧ v = .str ⟨#[c]⟩ u, fun i h => h.IsStrIter b (strIterType z) z t i, ?_, fun i st => st, fun i h st => st, fun i v hv => ?_⟩
    · rw [List.length_map]
      exact Draws.text hh b z t
    · obtain ⟨c, u, hc, rfl⟩ := hv
      refine ⟨.str ⟨#[c]⟩, ?_, ⟨u, rfl⟩⟩
      rw [List.getElem?_map]
      have hc' : z.cps.toList[i]? = some c := by simpa using hc
      rw [hc']
      rfl
theorem rd_inj (I : Inv X pins σ H s) {r : Src} {xs ys : List V} (h1 : r.rd X.K H xs) (h2 : r.rd X.K H ys) : xs = ys := by
  cases r with
  | L a => exact I.list_inj h1 h2
  | T a => exact I.tuple_inj h1 h2
  | S z =>
    have e1 : xs = z.cps.toList.map fun c => V.str ⟨#[c]⟩ := h1
    have e2 : ys = z.cps.toList.map fun c => V.str ⟨#[c]⟩ := h2
    rw [e1, e2]
theorem begins {r : Srm} {xs : List V} (I : Inv X pins σ H s) (hq : r.src.rd X.K H xs) : ∃ P : Heap → Prop, Begins r.val r.beg P ∧ P s.heap ∧ ∀ b ∈ r.ext, b < s.heap.objs.size := by
  cases r with
  | L a =>
    obtain ⟨its, rv, p, _⟩ := I.list hq
    exact ⟨_, begins_list a its.toArray, p.isList, fun b hb => by rw [List.mem_singleton.mp hb]; exact p.lt⟩
  | T a =>
    obtain ⟨its, rv, p, _⟩ := I.tuple hq
    obtain ⟨o, ho, _⟩ := id p
    exact ⟨_, begins_tuple a its.toArray, p, fun b hb => by rw [List.mem_singleton.mp hb]; exact Heap.lt_size ho⟩
  | S z t => exact ⟨_, begins_text z t, True.intro, fun b hb => absurd hb (by show b ∉ ([] : List Addr); simp)⟩
end
/-- two of them, in new pairs -/
def Itx (K : PySem.W.Frag) (s1 s2 : Src) : It :=
  ⟨fun i H => ∃ xs ys : List V, s1.rd K H xs ∧ s2.rd K H ys ∧ i < min xs.length ys.length,
    fun i H v H' => ∃ T x y, v = .ref T ∧ H T = none ∧ H' = upd H T (.tup [x, y]) ∧ (∀ xs, s1.rd K H xs → xs[i]? = some x) ∧ ∀ ys, s2.rd K H ys → ys[i]? = some y,
    fun i H => ∃ xs ys : List V, s1.rd K H xs ∧ s2.rd K H ys ∧ i = min xs.length ys.length⟩
theorem turn_x {P : Program} {w : World} {K : PySem.W.Frag} {elts : List Expr} {kk : Nat} {tpos : Pos} {r1 r2 : Srm} {z TI TO i1 i2 : Addr} (D : ZipSep2 z TI TO i1 i2 (i1 :: r1.ext) (i2 :: r2.ext)) (n1 : i1 ∉ r1.ext) (n2 : i2 ∉ r2.ext) :
    Turn P w K (.Tuple elts kk tpos) (Itx K r1.src r2.src) [z, TI, TO, i1, i2] z (fun i h => IsZip h z TI TO .none ∧ IsTupOf2 h TI (.ref i1) (.ref i2) ∧ (∃ x y, IsTupOf2 h TO x y) ∧ r1.it i1 i h ∧ r2.it i2 i h) where
  mem := by simp
  obj := fun i h st c hc => by
    obtain ⟨hz, hTI, ⟨x, y, hTO⟩, h1, h2⟩ := st
    have e' : c = z ∨ c = TI ∨ c = TO ∨ c = i1 ∨ c = i2 := by simpa using hc
    rcases e' with q | q | q | q | q
    · rw [q]; exact ⟨_, hz, fun v q => nomatch q⟩
    · rw [q]; exact ⟨_, hTI, fun v q => nomatch q⟩
    · rw [q]; exact ⟨_, hTO, fun v q => nomatch q⟩
    · rw [q]; exact Srm.itObj h1
    · rw [q]; exact Srm.itObj h2
  keep := fun i h h' st k => by
    obtain ⟨hz, hTI, ⟨x, y, hTO⟩, h1, h2⟩ := st
    exact ⟨k z (by simp) _ hz, k TI (by simp) _ hTI, ⟨x, y, k TO (by simp) _ hTO⟩, Srm.itAt h1 fun o q => k i1 (by simp) o q, Srm.itAt h2 fun o q => k i2 (by simp) o q⟩
  item := by
    intro X hP hw hK hc i pins s σ H E I hf st hg
    subst hP hw hK
    obtain ⟨hz, hTI, hTO, h1, h2⟩ := st
    obtain ⟨xs, ys, hqx, hqy, hlt⟩ := hg
    have hh : X.A.in1.handled = none := I.ok.hd hc
    obtain ⟨P1, S1, D1, a1, b1, c1⟩ := drawn I hh hqx n1
    obtain ⟨P2, S2, D2, a2, b2, c2⟩ := drawn I hh hqy n2
    have W := WalksT.zipD2 D D1 D2
    refine W.item i s _ _ hlt ⟨hz, hTI, hTO, a1 i h1, a2 i h2⟩ fun T vals h' tk hv hT hIs hM hk => ⟨.ref T, rfl, ?_⟩
    obtain ⟨v1, v2, p1, p2, rfl⟩ := hv
    obtain ⟨x, hx, rx⟩ := c1 i v1 p1
    obtain ⟨y, hy, ry⟩ := c2 i v2 p2
    refine W.go elts kk tpos i T _ _ _ hM fun h'' hst hk2 => ?_
    have apT := W.apart i T h' hM
    obtain ⟨oT, hoT, hcT, nT, hdT⟩ := hIs
    have hoT2 := hk2 T oT apT hoT
    have new : ObjOk X.prog X.w (upd H T (.tup [x, y])) h'' T (.tup [x, y]) := ⟨by show 2 ≤ sizeLine; decide, [v1, v2], .cons rx (.cons ry .nil), ⟨oT, hoT2, hcT, nT, hdT⟩⟩
    have wr5 : ∀ c, c ∈ [z, TO, i1, i2] → c ∈ [z, TI, TO, i1, i2] := fun c hcm => by
      have e' : c = z ∨ c = TO ∨ c = i1 ∨ c = i2 := by simpa using hcm
      rcases e' with q | q | q | q <;> simp [q]
    have I1 : Inv X pins σ (upd H T (.tup [x, y])) { s with heap := h'', toks := tk } :=
      I.turnedNew (t' := tk) (ch := [z, TI, TO, i1, i2]) (fun c o hb q => hk2 c o (fun z => hb (wr5 c z)) (hk c o (fun z => hb (wr5 c z)) q)) hf hT new
    obtain ⟨gz, gTI, gTO, g1, g2⟩ := hst
    refine ⟨.ref T, _, I1, rfl, ⟨T, x, y, rfl, I.hok.fresh hT, rfl, fun l hl => by rw [rd_inj I hl hqx]; exact hx, fun l hl => by rw [rd_inj I hl hqy]; exact hy⟩, ⟨gz, gTI, gTO, b1 _ _ g1, b2 _ _ g2⟩, fun c hcm => ?_⟩
    have hlt2 : c < s.heap.objs.size := by
      have e' : c = z ∨ c = TI ∨ c = TO ∨ c = i1 ∨ c = i2 := by simpa using hcm
      obtain ⟨_, _, hTO⟩ := hTO
      rcases e' with q | q | q | q | q
      · rw [q]; exact Heap.lt_size hz
      · rw [q]; exact Heap.lt_size hTI
      · rw [q]; exact Heap.lt_size hTO
      · rw [q]; obtain ⟨_, e1, _⟩ := Srm.itObj h1; exact Heap.lt_size e1
      · rw [q]; obtain ⟨_, e2, _⟩ := Srm.itObj h2; exact Heap.lt_size e2
    rw [upd_ne (Nat.ne_of_lt (Nat.lt_of_lt_of_le hlt2 hT))]
    exact (hf c hcm).1
  done := by
    intro X hP hw hK hc i pins s σ H E I hf st hg
    subst hP hw hK
    obtain ⟨hz, hTI, hTO, h1, h2⟩ := st
    obtain ⟨xs, ys, hqx, hqy, rfl⟩ := hg
    have hh : X.A.in1.handled = none := I.ok.hd hc
    obtain ⟨P1, S1, D1, a1, b1, c1⟩ := drawn I hh hqx n1
    obtain ⟨P2, S2, D2, a2, b2, c2⟩ := drawn I hh hqy n2
    have W := WalksT.zipD2 D D1 D2
    have wr5 : ∀ c, c ∈ [z, TO, i1, i2] → c ∈ [z, TI, TO, i1, i2] := fun c hcm => by
      have e' : c = z ∨ c = TO ∨ c = i1 ∨ c = i2 := by simpa using hcm
      rcases e' with q | q | q | q <;> simp [q]
    exact W.done s _ _ ⟨hz, hTI, hTO, a1 _ h1, a2 _ h2⟩ fun h' tk hk => ⟨rfl, I.turnedL (t' := tk) (ch := [z, TI, TO, i1, i2]) (fun c o hb q => hk c o (fun z => hb (wr5 c z)) q) hf⟩
  self := fun A i s Q E st h => wpAny_pyIter_zip st.1 h
def iZipX (K : PySem.W.Frag) (ta : TA) : TI := fun σ H R => ta σ H fun vs H1 => ∃ s1 s2 : Src, vs = [s1.v, s2.v] ∧ (∃ xs, s1.rd K H1 xs) ∧ (∃ ys, s2.rd K H1 ys) ∧ R (Itx K s1 s2) H1
theorem srm_of {s1 : Src} {u : Value} (r : RelV s1.v u) : ∃ r1 : Srm, r1.src = s1 ∧ u = r1.val := by
  cases s1 with
  | L a => exact ⟨.L a, rfl, r⟩
  | T a => exact ⟨.T a, rfl, r⟩
  | S z => obtain ⟨t, e⟩ := (show ∃ t, u = Value.str z t from r); exact ⟨.S z t, rfl, e⟩
theorem pi_zipX {X : Cx} {e e2 : Expr} {ta : TA} {p pos tpos : Pos} {elts : List Expr} {kk : Nat} (hg : Gl X "zip") (hm : X.mg "zip" = none) (ha : PA X [e, e2] ta)
    (hs : starEach [e, e2] X.env = (false, eval e X.env) :: starEach [e2] X.env := by rfl) (hpl : (backTo pos (starEach [e2] X.env)).any (·.1) = false := by rfl) :
    PI X (.Tuple elts kk tpos) (.Call (.Name "zip" p) [e, e2] [] pos) (iZipX X.K ta) := by
  refine ⟨fun pins s σ H R I h => ?_⟩
  refine Call_ (ld_blt I hg hm PyProof.Rows.boot_zip (PyProof.Rows.callWith_type1 (thn (ha.run pos pins s σ H _ I h) fun us s1 ⟨vs, H1, I1, r1, q1⟩ => ?_) hs hpl))
  obtain ⟨sa, sb, ex, ⟨xs, hqx⟩, ⟨ys, hqy⟩, q⟩ := q1
  subst ex
  obtain ⟨u1, u2, rfl, ra, rb⟩ := vals2 r1
  obtain ⟨m1, rfl, rfl⟩ := srm_of ra
  obtain ⟨m2, rfl, rfl⟩ := srm_of rb
  obtain ⟨Pa, Ba, pa, la⟩ := begins I1 hqx
  obtain ⟨Pb, Bb, pb, lb⟩ := begins I1 hqy
  refine zip_begins2 Ba Bb pa pb fun h' hz hTI hTO g1 g2 hsz hk => wpAny_pyIter_zip hz ?_
  have I2 : Inv X pins σ H1 { s1 with heap := h' } := I1.kept (t' := s1.toks) hk
  have fresh5 : ∀ c, c ∈ [s1.heap.objs.size + 4, s1.heap.objs.size + 2, s1.heap.objs.size + 3, s1.heap.objs.size, s1.heap.objs.size + 1] → FpOk X pins H1 c := fun c hcm => by
    have e' : c = s1.heap.objs.size + 4 ∨ c = s1.heap.objs.size + 2 ∨ c = s1.heap.objs.size + 3 ∨ c = s1.heap.objs.size ∨ c = s1.heap.objs.size + 1 := by simpa using hcm
    have hle : s1.heap.objs.size ≤ c := by
      rcases e' with z | z | z | z | z
      · rw [z]; exact Nat.le_add_right _ _
      · rw [z]; exact Nat.le_add_right _ _
      · rw [z]; exact Nat.le_add_right _ _
      · rw [z]; exact Nat.le_refl _
      · rw [z]; exact Nat.le_add_right _ _
    exact I1.fpOk hle (I1.hok.fresh hle)
  exact ⟨s1.heap.objs.size + 4, [s1.heap.objs.size + 4, s1.heap.objs.size + 2, s1.heap.objs.size + 3, s1.heap.objs.size, s1.heap.objs.size + 1], _, _, H1, rfl, I2,
    turn_x (zip_sep2 la lb) (fun hm => absurd (la _ hm) (Nat.lt_irrefl _)) (fun hm => absurd (lb _ hm) (by intro z; exact absurd z (Nat.not_lt.mpr (Nat.le_succ _)))), ⟨hz, hTI, ⟨_, _, hTO⟩, Srm.itBeg g1, Srm.itBeg g2⟩, fresh5, q⟩
theorem walk_x {K : PySem.W.Frag} {s1 s2 : Src} {G : Hp → Prop} {xs ys : List V} (h1 : ∀ H, G H → s1.rd K H xs) (h2 : ∀ H, G H → s2.rd K H ys) :
    L2.Walk (Itx K s1 s2) (min xs.length ys.length) G (L2.YPair (fun i => xs[i]?) fun i => ys[i]?) where
  goes := fun i H hi g => ⟨xs, ys, h1 H g, h2 H g, hi⟩
  stops := fun H g => ⟨xs, ys, h1 H g, h2 H g, rfl⟩
  yields := fun i H v H' hi g ⟨T, x, y, e, n, eh, q1, q2⟩ => ⟨T, x, y, e, n, eh, q1 _ (h1 H g), q2 _ (h2 H g)⟩
/-! enumerate of a list, a tuple, a text -/
set_option maxHeartbeats 4000000 in
theorem enum_new {v : Value} {o : Obj} {P : Heap → Prop} (B : Begins v o P) :
    Meets (Builtin.«enumerate.__new__» ⟨[.type "enumerate", v], []⟩) (fun _ R s => P s.heap ∧
      R (.ok (.ret (.ref (s.heap.push o).objs.size))) { s with heap := (s.heap.push o).push { cls := .type "enumerate", data := .fields #[.none, .bool false, .ref s.heap.objs.size, rawInt 0, .none, .none] } }) :=
  .of_wp fun prog w A R s hyp => by
    obtain ⟨hp, g, d, tk, os⟩ := s
    obtain ⟨h1, hyp⟩ := hyp
    have hsub := sub_enumerate
    have q1 : ∀ {A' : Around} {E : Value → Shared → Prop} {Q : Value → Shared → Prop}, Q (.ref hp.objs.size) ⟨hp.push o, g, d, tk, os⟩ → wpAny (model prog w) A' (pyIter v) Q E ⟨hp, g, d, tk, os⟩ :=
      fun q => B.iter prog w _ _ ⟨hp, g, d, tk, os⟩ _ h1 q
    wp_walk using q1
    refine wpAny_stack_any fun st => wpAny_pure ?_
    split
    · rename_i c _ _ _ _ _
      cases (c == Value.type "enumerate")
      · wp_walk using q1
        exact ⟨_, rfl, hyp⟩
      · wp_walk using q1
        exact ⟨_, rfl, hyp⟩
    · wp_walk using q1
      exact ⟨_, rfl, hyp⟩
theorem enum_call {prog : Program} {w : World} {A : Around} {E : Value → Shared → Prop} {s : Shared} {v : Value} {o : Obj} {P : Heap → Prop} {Q : Value → Shared → Prop} (B : Begins v o P) (h1 : P s.heap)
    (h : ∀ h', IsEnum h' (s.heap.objs.size + 1) s.heap.objs.size 0 .none → h'.get? s.heap.objs.size = some o → (∀ b u, s.heap.get? b = some u → h'.get? b = some u) → Q (.ref (s.heap.objs.size + 1)) { s with heap := h' }) :
    wpAny (model prog w) A (call (.type "enumerate") [v]) Q E s := by
  refine callType_new F.called_enumerate (by decide) (F.typeCall_enumerate_1 _) (F.newCall_enumerate_1 _) (fun obj => F.args_object_init_2 obj _) F.entry_enumerate_new
    (enum_new B) ⟨h1, ?_⟩
  have hz : (s.heap.push o).objs.size = s.heap.objs.size + 1 := Heap.size_push ..
  show _ ∧ _
  rw [hz]
  have he : IsEnum ((s.heap.push o).push { cls := .type "enumerate", data := .fields #[.none, .bool false, .ref s.heap.objs.size, rawInt 0, .none, .none] }) (s.heap.objs.size + 1) s.heap.objs.size 0 .none := by
    have z := Heap.get?_push_size (s.heap.push o) (o := { cls := .type "enumerate", data := .fields #[.none, .bool false, .ref s.heap.objs.size, rawInt 0, .none, .none] }) rfl
    rw [hz] at z
    exact z
  exact ⟨⟨_, he, rfl⟩, h _ he (Heap.get?_push_of_some _ (Heap.get?_push_size _ B.free)) fun b u x => Heap.get?_push_of_some _ (Heap.get?_push_of_some _ x)⟩
def Ity (K : PySem.W.Frag) (s1 : Src) : It :=
  ⟨fun i H => ∃ xs : List V, s1.rd K H xs ∧ i < xs.length,
    fun i H v H' => ∃ T y, v = .ref T ∧ H T = none ∧ H' = upd H T (.tup [.int (i : Nat), y]) ∧ ∀ xs, s1.rd K H xs → xs[i]? = some y,
    fun i H => ∃ xs : List V, s1.rd K H xs ∧ i = xs.length⟩
theorem turn_y {P : Program} {w : World} {K : PySem.W.Frag} {elts : List Expr} {kk : Nat} {tpos : Pos} {r1 : Srm} {e i1 : Addr} (n1 : i1 ∉ r1.ext) (he1 : e ≠ i1) (he2 : e ∉ r1.ext) :
    Turn P w K (.Tuple elts kk tpos) (Ity K r1.src) [e, i1] e (fun i h => (∃ old, IsEnum h e i1 ((0 : Int) + (i : Int)) old) ∧ r1.it i1 i h) where
  mem := by simp
  obj := fun i h st c hc => by
    obtain ⟨⟨old, he⟩, h1⟩ := st
    have e' : c = e ∨ c = i1 := by simpa using hc
    rcases e' with q | q
    · rw [q]; exact ⟨_, he, fun v q => nomatch q⟩
    · rw [q]; exact Srm.itObj h1
  keep := fun i h h' st k => by
    obtain ⟨⟨old, he⟩, h1⟩ := st
    exact ⟨⟨old, k e (by simp) _ he⟩, Srm.itAt h1 fun o q => k i1 (by simp) o q⟩
  item := by
    intro X hP hw hK hc i pins s σ H E I hf st hg
    subst hP hw hK
    obtain ⟨he, h1⟩ := st
    obtain ⟨xs, hqx, hlt⟩ := hg
    have hh : X.A.in1.handled = none := I.ok.hd hc
    obtain ⟨P1, S1, D1, a1, b1, c1⟩ := drawn I hh hqx n1
    have W := WalksT.enumFrom 0 D1 e he1 (by intro z; rcases List.mem_cons.mp z with z | z; exact he1 z; exact he2 z) List.mem_cons_self
    refine W.item i s _ _ hlt ⟨he, a1 i h1⟩ fun T vals h' tk hv hT hIs hM hk => ⟨.ref T, rfl, ?_⟩
    obtain ⟨t1, v1, p1, rfl⟩ := hv
    obtain ⟨x, hx, rx⟩ := c1 i v1 p1
    refine W.go elts kk tpos i T _ _ _ hM fun h'' hst hk2 => ?_
    have apT := W.apart i T h' hM
    obtain ⟨oT, hoT, hcT, nT, hdT⟩ := hIs
    have hoT2 := hk2 T oT apT hoT
    have e0 : (0 : Int) + (i : Int) = ((i : Nat) : Int) := by omega
    rw [e0] at hdT
    have new : ObjOk X.prog X.w (upd H T (.tup [.int (i : Nat), x])) h'' T (.tup [.int (i : Nat), x]) := ⟨by show 2 ≤ sizeLine; decide, [.int (i : Nat) t1, v1], .cons ⟨_, rfl⟩ (.cons rx .nil), ⟨oT, hoT2, hcT, nT, hdT⟩⟩
    have I1 : Inv X pins σ (upd H T (.tup [.int (i : Nat), x])) { s with heap := h'', toks := tk } :=
      I.turnedNew (t' := tk) (ch := [e, i1]) (fun c o hb q => hk2 c o hb (hk c o hb q)) hf hT new
    obtain ⟨ge, g1⟩ := hst
    refine ⟨.ref T, _, I1, rfl, ⟨T, x, rfl, I.hok.fresh hT, rfl, fun l hl => by rw [rd_inj I hl hqx]; exact hx⟩, ⟨ge, b1 _ _ g1⟩, fun c hcm => ?_⟩
    have hlt2 : c < s.heap.objs.size := by
      have e' : c = e ∨ c = i1 := by simpa using hcm
      obtain ⟨_, he⟩ := he
      rcases e' with q | q
      · rw [q]; exact Heap.lt_size he
      · rw [q]; obtain ⟨_, e1, _⟩ := Srm.itObj h1; exact Heap.lt_size e1
    rw [upd_ne (Nat.ne_of_lt (Nat.lt_of_lt_of_le hlt2 hT))]
    exact (hf c hcm).1
  done := by
    intro X hP hw hK hc i pins s σ H E I hf st hg
    subst hP hw hK
    obtain ⟨he, h1⟩ := st
    obtain ⟨xs, hqx, rfl⟩ := hg
    have hh : X.A.in1.handled = none := I.ok.hd hc
    obtain ⟨P1, S1, D1, a1, b1, c1⟩ := drawn I hh hqx n1
    have W := WalksT.enumFrom 0 D1 e he1 (by intro z; rcases List.mem_cons.mp z with z | z; exact he1 z; exact he2 z) List.mem_cons_self
    exact W.done s _ _ ⟨he, a1 _ h1⟩ fun h' tk hk => ⟨rfl, I.turnedL (t' := tk) (ch := [e, i1]) (fun c o hb q => hk c o hb q) hf⟩
  self := fun A i s Q E st h => let ⟨⟨_, he⟩, _⟩ := st; wpAny_pyIter_enum he h
def iEnumX (K : PySem.W.Frag) (ta : TA) : TI := fun σ H R => ta σ H fun vs H1 => ∃ s1 : Src, vs = [s1.v] ∧ (∃ xs, s1.rd K H1 xs) ∧ R (Ity K s1) H1
theorem pi_enumX {X : Cx} {e : Expr} {ta : TA} {p pos tpos : Pos} {elts : List Expr} {kk : Nat} (hg : Gl X "enumerate") (hm : X.mg "enumerate" = none) (ha : PA X [e] ta) (hs : starEach [e] X.env = [(false, eval e X.env)] := by rfl) :
    PI X (.Tuple elts kk tpos) (.Call (.Name "enumerate" p) [e] [] pos) (iEnumX X.K ta) := by
  refine ⟨fun pins s σ H R I h => ?_⟩
  refine Call_ (ld_blt I hg hm boot_enumerate (PyProof.Rows.callWith_type1 (thn (ha.run pos pins s σ H _ I h) fun us s1 ⟨vs, H1, I1, r1, q1⟩ => ?_) hs rfl))
  obtain ⟨sa, ex, ⟨xs, hqx⟩, q⟩ := q1
  subst ex
  cases r1 with
  | cons ra rr =>
    cases rr
    obtain ⟨m1, rfl, rfl⟩ := srm_of ra
    obtain ⟨Pa, Ba, pa, la⟩ := begins I1 hqx
    refine enum_call Ba pa fun h' he g1 hk => wpAny_pyIter_enum he ?_
    have I2 : Inv X pins σ H1 { s1 with heap := h' } := I1.kept (t' := s1.toks) hk
    refine ⟨s1.heap.objs.size + 1, [s1.heap.objs.size + 1, s1.heap.objs.size], _, _, H1, rfl, I2,
      turn_y (fun hm => absurd (la _ hm) (Nat.lt_irrefl _)) (Nat.succ_ne_self _) (fun hm => absurd (la _ hm) (by intro z; exact absurd z (Nat.not_lt.mpr (Nat.le_succ _)))), ⟨⟨.none, he⟩, Srm.itBeg g1⟩, fun b hb => ?_, q⟩
    have e' : b = s1.heap.objs.size + 1 ∨ b = s1.heap.objs.size := by simpa using hb
    have hle : s1.heap.objs.size ≤ b := by
      rcases e' with z | z
      · rw [z]; exact Nat.le_add_right _ _
      · rw [z]; exact Nat.le_refl _
    exact I1.fpOk hle (I1.hok.fresh hle)
theorem walk_y {K : PySem.W.Frag} {s1 : Src} {G : Hp → Prop} {xs : List V} (h1 : ∀ H, G H → s1.rd K H xs) :
    L2.Walk (Ity K s1) xs.length G (L2.YPair (fun i => some (.int (i : Nat))) fun i => xs[i]?) where
  goes := fun i H hi g => ⟨xs, h1 H g, hi⟩
  stops := fun H g => ⟨xs, h1 H g, rfl⟩
  yields := fun i H v H' hi g ⟨T, x, e, n, eh, q1⟩ => ⟨T, _, x, e, n, eh, rfl, q1 _ (h1 H g)⟩
end XgIter
namespace XgSet
open PySem PySem.Spec PyProof.Rows L2
/-- set(t), t a tuple of ints -/
def rSetT (K : PySem.W.Frag) (w : World) : List V → Hp → VK → Prop := fun xs H Q => ∃ (l : Addr) (ns : List Int), xs = [.ref l] ∧ SqT K H l (ns.map V.int) ∧ ns.length ≤ 50 ∧
  ∀ (a : Addr) (c : Nat), H a = none → c ≤ ns.length → Q (.ref a) (upd H a (SetO w a (fun j => decide (j ∈ ns)) c))
theorem cr_setT {X : Cx} (hc : X.calm = true) : CallR X (.type "set") (rSetT X.K X.w) := by
  intro pins s σ H xs us Q I r h
  obtain ⟨l, ns, rfl, hq, hl, q⟩ := h
  cases r with
  | cons r rr =>
    cases rr
    cases r
    obtain ⟨its, rv, pt, hz⟩ := I.tuple hq
    have hi : IntsAre its.toArray.toList ns := ints_of_vals rv
    have hd := I.ok.hd hc
    refine call_set_tupI ns hd (show s.heap.IsTuple l its.toArray from pt) hi (by unfold scanBound; omega) fun h' tk c R1 hcn k => ?_
    have hn : H s.heap.objs.size = none := I.hok.fresh (Nat.le_refl _)
    exact ⟨.ref s.heap.objs.size, _, I.laid (t' := tk) k (Nat.le_refl _) (setO_new R1), rfl, q _ c hn hcn⟩
end XgSet
namespace Xg
open PySem L2
/-! ### tuples of the written part, read by a computation -/
def kTup (K : PySem.W.Frag) (a : Addr) : Option (List Value) := match K.lookup a with
  | some ⟨.type "tuple", _, .seq its _, _⟩ => if its.size ≤ 1000 then some its.toList else none
  | _ => none
theorem kTup_sq {K : PySem.W.Frag} {a : Addr} {us : List Value} (h : kTup K a = some us) {xs : List V} (r : Vals xs us) (H : Hp) : SqT K H a xs := by
  unfold kTup at h
  split at h
  · rename_i d its n sl e
    split at h
    · rename_i hz
      cases h
      exact Or.inr ⟨_, its, n, e, rfl, rfl, Nat.le_trans hz (by decide), r⟩
    · cases h
  · cases h
def strsV : List Value → List Str → Bool
  | [], [] => true
  | .str x _ :: us, z :: zs => decide (x = z) && strsV us zs
  | _, _ => false
theorem strsV_vals : ∀ {us : List Value} {zs : List Str}, strsV us zs = true → Vals (zs.map V.str) us
  | [], [], _ => .nil
  | [], _ :: _, h => by simp [strsV] at h
  | u :: us, [], h => by cases u <;> simp [strsV] at h
  | u :: us, z :: zs, h => by
    cases u with
    | str x t =>
      have h' : (decide (x = z) && strsV us zs) = true := h
      obtain ⟨h1, h2⟩ := Bool.and_eq_true_iff.mp h'
      have e := of_decide_eq_true h1
      subst e
      exact .cons ⟨t, rfl⟩ (strsV_vals h2)
    | _ => simp [strsV] at h
def strsB (K : PySem.W.Frag) (a : Addr) (zs : List Str) : Bool := match kTup K a with
  | some us => strsV us zs
  | none => false
theorem strsB_sq {K : PySem.W.Frag} {a : Addr} {zs : List Str} (h : strsB K a zs = true) (H : Hp) : SqT K H a (zs.map V.str) := by
  unfold strsB at h
  split at h
  · rename_i us e
    exact kTup_sq e (strsV_vals h) H
  · cases h
def pairsV (K : PySem.W.Frag) : List Value → List (Str × Str) → Bool
  | [], [] => true
  | .ref b :: us, z :: zs => strsB K b [z.1, z.2] && pairsV K us zs
  | _, _ => false
theorem pairsV_as {K : PySem.W.Frag} : ∀ {us : List Value} {zs : List (Str × Str)}, pairsV K us zs = true → ∃ as : List Addr, as.length = zs.length ∧ Vals (as.map V.ref) us ∧
    ∀ (i : Nat) (b : Addr) (z : Str × Str), as[i]? = some b → zs[i]? = some z → ∀ H, SqT K H b [V.str z.1, V.str z.2]
  | [], [], _ => ⟨[], rfl, .nil, fun i b z h => by simp at h⟩
  | [], _ :: _, h => by simp [pairsV] at h
  | u :: us, [], h => by cases u <;> simp [pairsV] at h
  | u :: us, z :: zs, h => by
    cases u with
    | ref b =>
      have h' : (strsB K b [z.1, z.2] && pairsV K us zs) = true := h
      obtain ⟨h1, h2⟩ := Bool.and_eq_true_iff.mp h'
      obtain ⟨as, l, v, k⟩ := pairsV_as h2
      refine ⟨b :: as, by simp [l], .cons rfl v, fun i b' z' e1 e2 H => ?_⟩
      cases i with
      | zero =>
        have q1 : b = b' := by simpa using e1
        have q2 : z = z' := by simpa using e2
        subst q1
        subst q2
        exact strsB_sq h1 H
      | succ i => exact k i b' z' (by simpa using e1) (by simpa using e2) H
    | _ => simp [pairsV] at h
def pairsB (K : PySem.W.Frag) (a : Addr) (zs : List (Str × Str)) : Bool := match kTup K a with
  | some us => pairsV K us zs
  | none => false
theorem pairsB_sq {K : PySem.W.Frag} {a : Addr} {zs : List (Str × Str)} (h : pairsB K a zs = true) : ∃ as : List Addr, as.length = zs.length ∧ (∀ H, SqT K H a (as.map V.ref)) ∧
    ∀ (i : Nat) (b : Addr) (z : Str × Str), as[i]? = some b → zs[i]? = some z → ∀ H, SqT K H b [V.str z.1, V.str z.2] := by
  unfold pairsB at h
  split at h
  · rename_i us e
    obtain ⟨as, l, v, k⟩ := pairsV_as h
    exact ⟨as, l, fun H => kTup_sq e v H, k⟩
  · cases h
/-! ### a def of the text as its callers see it -/
structure Df (K : PySem.W.Frag) (mg : Str → Option Value) (x qual : Str) (st : Stmt) (f : Addr) (ps : List Str) : Prop where
  g : mg x = some (.ref f)
  k : PySem.W.keepIn K (.ref f) = true
  ex : ∃ fd, Fun K x qual st f fd ∧ Binds K fd ps []
/-! ### heaps -/
theorem same_new {H H' : Hp} {p : Addr} {o : HO} (e : Same H H') (h : H' p = none) : Same H (upd H' p o) := fun b u q => by
  rw [upd_ne (ne_of_none (e b u q) h)]
  exact e b u q
theorem same_mut {H H' : Hp} {p : Addr} {o : HO} (e : Same H H') (h : H p = none) : Same H (upd H' p o) := fun b u q => by
  rw [upd_ne (ne_of_none q h)]
  exact e b u q
theorem same_sqT {K : PySem.W.Frag} {H H' : Hp} {a : Addr} {xs : List V} (e : Same H H') (h : SqT K H a xs) : SqT K H' a xs := by
  rcases h with (h | ⟨o, h⟩) | h
  · exact .inl (.inl (e _ _ h))
  · exact .inl (.inr ⟨o, e _ _ h⟩)
  · exact .inr h
theorem sz1000 {n : Nat} (h : n ≤ 1000) : n ≤ sizeLine := Nat.le_trans h (by decide)
theorem lt1000 {n : Nat} (h : n ≤ 1000) : n < sizeLine := Nat.lt_of_le_of_lt h (by decide)
/-! ### the row of digits -/
structure Dig (row : List Int) : Prop where
  lo : ∀ v ∈ row, 0 ≤ v ∧ v < 16
def pick (row : List Int) (i : Int) (m : Int) : Int := (row.getD i.toNat 0 + 16 * row.getD (i.toNat + 1) 0) % m
theorem pick_lo {row : List Int} {i m : Int} (h : 0 < m) : 0 ≤ pick row i m := Int.emod_nonneg _ (by omega)
theorem pick_hi {row : List Int} {i m : Int} (h : 0 < m) : pick row i m < m := Int.emod_lt_of_pos _ h
def spRow (K : PySem.W.Frag) : Sp := fun vs H Q _ => ∃ (a : Addr) (ns : List Int) (m : Int), vs = [.ref a, .int m] ∧ SqL K H a (ns.map V.int) ∧ ns.length ≤ 63 ∧ 0 ≤ m ∧ m ≤ 900 ∧
  ∀ (H' : Hp) (p : Addr) (row : List Int), Same H H' → H p = none → H' p = some (.lst (row.map V.int)) → (row.length : Int) ≤ m → Dig row → Q (.ref p) H'
def spPick (K : PySem.W.Frag) : Sp := fun vs H Q _ => ∃ (a : Addr) (row : List Int) (i m : Int), vs = [.ref a, .int i, .int m] ∧ SqL K H a (row.map V.int) ∧ Dig row ∧ 0 ≤ i ∧ i < 100000 ∧ 0 < m ∧ Q (.int (pick row i m)) H
theorem atI_int {row : List Int} {i : Int} (h0 : 0 ≤ i) (h1 : i < (row.length : Int)) : atI (row.map V.int) i = some (.int (row.getD i.toNat 0)) := by
  obtain ⟨k, rfl⟩ := Int.eq_ofNat_of_zero_le h0
  have hk : k < row.length := by omega
  refine (atI_nat (xs := row.map V.int) (j := k) (v := .int (row.getD k 0)) ?_)
  rw [List.getElem?_map, List.getElem?_eq_getElem hk]
  simp [List.getD, List.getElem?_eq_getElem hk]
theorem getD_out {row : List Int} {k : Nat} (h : row.length ≤ k) : row.getD k 0 = 0 := by
  simp [List.getD, List.getElem?_eq_none h]
theorem dig_getD {row : List Int} (d : Dig row) (k : Nat) : 0 ≤ row.getD k 0 ∧ row.getD k 0 < 16 := by
  by_cases h : k < row.length
  · have e : row.getD k 0 = row[k] := by simp [List.getD, List.getElem?_eq_getElem h]
    rw [e]
    exact d.lo _ (List.getElem_mem h)
  · rw [getD_out (by omega)]
    omega
theorem dig_nil : Dig [] := ⟨fun v hv => nomatch hv⟩
theorem dig_more {row : List Int} {v : Int} (d : Dig row) (h0 : 0 ≤ v) (h1 : v < 16) : Dig (row ++ [v]) := ⟨fun u hu => by
  rcases List.mem_append.mp hu with hu | hu
  · exact d.lo u hu
  · rw [List.mem_singleton.mp hu]
    exact ⟨h0, h1⟩⟩
end Xg
namespace Xg
open PySem L2
open PySem.Spec PyProof.Rows
section
variable {X : Cx} {tg : Expr}
/-- a for over a list or a tuple -/
def iSeq (K : PySem.W.Frag) (tl : TE) : TI := fun σ H R => tl σ H fun x H1 => ∃ a, x = .ref a ∧ (((∃ xs, SqL K H1 a xs) ∧ R (Itl K a) H1) ∨ ((∃ xs, SqT K H1 a xs) ∧ R (Itt K a) H1))
theorem pi_seq {l : Expr} {tl : TE} (hl : PE X l tl) : PI X tg l (iSeq X.K tl) := by
  refine ⟨fun pins s σ H R I h => ?_⟩
  refine thn (hl.run pins s σ H _ I h) fun v s1 ⟨x, H1, I1, r1, q1⟩ => ?_
  obtain ⟨a, e, q1⟩ := q1
  subst e
  cases r1
  rcases q1 with ⟨⟨xs, hq⟩, q⟩ | ⟨⟨xs, hq⟩, q⟩
  · obtain ⟨its, rv, p, hz⟩ := I1.list hq
    refine wpAny_pyIter_list p.isList ?_
    refine ⟨s1.heap.objs.size, [s1.heap.objs.size], _, _, H1, rfl, I1.kept (t' := s1.toks) fun b o e => Heap.get?_push_of_some _ e, turn_list a _, ⟨_, Heap.get?_push_size _ rfl, rfl, rfl⟩, fun b hb => ?_, q⟩
    have e : b = s1.heap.objs.size := by simpa using hb
    subst e
    exact I1.fpOk (Nat.le_refl _) (I1.hok.fresh (Nat.le_refl _))
  · obtain ⟨its, rv, p, hz⟩ := I1.tuple hq
    refine wpAny_pyIter_tuple (show s1.heap.IsTuple a its.toArray from p) ?_
    refine ⟨s1.heap.objs.size, [s1.heap.objs.size], _, _, H1, rfl, I1.kept (t' := s1.toks) fun b o e => Heap.get?_push_of_some _ e, turn_tuple a _, ⟨_, Heap.get?_push_size _ rfl, rfl, rfl⟩, fun b hb => ?_, q⟩
    have e : b = s1.heap.objs.size := by simpa using hb
    subst e
    exact I1.fpOk (Nat.le_refl _) (I1.hok.fresh (Nat.le_refl _))
end
/-! ### data -/
theorem dpAll_ints {K : PySem.W.Frag} {H : Hp} : ∀ ns : List Int, DpAll K H (ns.map V.int) (ns.map PyData.int)
  | [] => .nil
  | n :: r => .cons (.int n) (dpAll_ints r)
theorem dp_L {K : PySem.W.Frag} {H : Hp} {a : Addr} {ns : List Int} (h : SqL K H a (ns.map V.int)) : Dp K H (.ref a) (.list (ns.map PyData.int)) := .lst h (dpAll_ints ns)
theorem dp_T {K : PySem.W.Frag} {H : Hp} {a : Addr} {ns : List Int} (h : SqT K H a (ns.map V.int)) : Dp K H (.ref a) (.tuple (ns.map PyData.int)) := .tup h (dpAll_ints ns)
theorem sh_L (ns : List Int) : PySem.SeqAt.shaped (.list (ns.map PyData.int)) = true := PySem.W.shaped_ints ns
theorem sh_T (ns : List Int) : PySem.SeqAt.shaped (.tuple (ns.map PyData.int)) = true := by
  have h1 := PySem.W.depthAll_ints ns
  have h2 : PyData.depth (.tuple (ns.map PyData.int)) ≤ 64 := by simp only [PyData.depth]; omega
  show (PyData.canLay0 (.tuple (ns.map PyData.int)) && decide (PyData.depth (.tuple (ns.map PyData.int)) ≤ 64)) = true
  rw [Bool.and_eq_true]
  exact ⟨by simp only [PyData.canLay0]; exact PySem.W.canLayAll0_ints ns, decide_eq_true h2⟩
theorem ev_L (ns : List Int) : PyData.eqv (.list (ns.map PyData.int)) (.list (ns.map PyData.int)) = true := PySem.SeqAt.eqv_refl _ (PySem.SeqAt.canLay_of_shaped (sh_L ns))
theorem ev_T (ns : List Int) : PyData.eqv (.tuple (ns.map PyData.int)) (.tuple (ns.map PyData.int)) = true := PySem.SeqAt.eqv_refl _ (PySem.SeqAt.canLay_of_shaped (sh_T ns))
end Xg
namespace Xg
open PySem L2
open PySem.Spec PyProof.Rows
/-! ### lists of texts as data -/
theorem dpAll_strs {K : PySem.W.Frag} {H : Hp} : ∀ zs : List Str, DpAll K H (zs.map V.str) (zs.map PyData.str)
  | [] => .nil
  | n :: r => .cons (.str n) (dpAll_strs r)
theorem dp_LS {K : PySem.W.Frag} {H : Hp} {a : Addr} {zs : List Str} (h : SqL K H a (zs.map V.str)) : Dp K H (.ref a) (.list (zs.map PyData.str)) := .lst h (dpAll_strs zs)
theorem lay_strs : ∀ zs : List Str, (∀ z ∈ zs, PyData.strOk z = true) → PyData.canLayAll0 (zs.map PyData.str) = true
  | [], _ => by simp [PyData.canLayAll0]
  | z :: r, h => by simp [PyData.canLayAll0, PyData.canLay0, lay_strs r fun y hy => h y (List.mem_cons_of_mem _ hy), h z List.mem_cons_self]
theorem deep_strs : ∀ zs : List Str, PyData.depthAll (zs.map PyData.str) ≤ 1
  | [] => by simp [PyData.depthAll]
  | _ :: r => by
    have q := deep_strs r
    simp only [List.map_cons, PyData.depthAll, PyData.depth]
    omega
theorem sh_LS {zs : List Str} (h : ∀ z ∈ zs, PyData.strOk z = true) : PySem.SeqAt.shaped (.list (zs.map PyData.str)) = true := by
  have h1 := deep_strs zs
  have h2 : PyData.depth (.list (zs.map PyData.str)) ≤ 64 := by simp only [PyData.depth]; omega
  show (PyData.canLay0 (.list (zs.map PyData.str)) && decide (PyData.depth (.list (zs.map PyData.str)) ≤ 64)) = true
  rw [Bool.and_eq_true]
  exact ⟨by simp only [PyData.canLay0]; exact lay_strs zs h, decide_eq_true h2⟩
theorem ev_LS {zs : List Str} (h : ∀ z ∈ zs, PyData.strOk z = true) : PyData.eqv (.list (zs.map PyData.str)) (.list (zs.map PyData.str)) = true := PySem.SeqAt.eqv_refl _ (PySem.SeqAt.canLay_of_shaped (sh_LS h))
end Xg
namespace Xg
open PySem L2 PySem.Spec PyProof.Rows
/-! ### what the top has left, told by one computation -/
def fnD (x : Str) (st : Stmt) : He.FnD := ⟨(x, none), x, x, defArgs st, defBody st, defScope st⟩
theorem df_mk {K : PySem.W.Frag} {h : Heap} {mg : Str → Option Value} {x : Str} {st : Stmt} {ps : List Str} (X : K.In h) (G : h.Ns mainGlobals mg) {fa : List He.Fa} {fn : List He.FnD} (c : He.SaysE fa fn K) (i : Nat)
    (h1 : fn[i]? = some (fnD x st)) (h2 : fa[2 * i]? = some (.glo x)) (h3 : fa[2 * i + 1]? = some (.keep x))
    (b : ∀ (kV doc pm : Value) (an : Option Addr) (cdv ct : Value) (us : List Value), us.length = ps.length → bindArgs (PySem.W.fnOf x x (defArgs st) (defBody st) (defScope st) .none kV doc pm an cdv ct) ⟨us, []⟩ = pure (ps.zip us)) :
    Df K mg x x st (He.ga K x) ps := by
  obtain ⟨oc, od, osl, kV, doc, pm, an, cdv, ct, l, cd⟩ := c.def_ i h1
  have k := He.keep_ok (c.fact _ h3)
  have F : Fun K x x st (He.ga K x) _ := fun_mk l cd k
  exact ⟨He.glo_ok X G (c.fact _ h2), k, _, F, F.binds b⟩
def kInt (K : PySem.W.Frag) (a : Addr) (x : Str) (i : Int) : Bool := match PySem.W.nsIn K a x with
  | some (some (.int j _)) => decide (j = i)
  | _ => false
theorem kInt_ok {K : PySem.W.Frag} {a : Addr} {x : Str} {i : Int} (h : kInt K a x i = true) : ∃ u, PySem.W.nsIn K a x = some (some u) ∧ RelV (.int i) u := by
  unfold kInt at h
  split at h
  · rename_i j t e
    have q := of_decide_eq_true h
    subst q
    exact ⟨_, e, t, rfl⟩
  · cases h
def dObs (K : PySem.W.Frag) (a : Addr) : Option (Bool × List (Option Str × Int)) := match K.lookup a with
  | some ⟨c, none, .dict es _, sl⟩ => some (decide (c = .type "dict") && decide (sl.size = 0), es.toList.map fun e => ((match e.key with
    | .str x _ => some x
    | _ => none), e.hash))
  | _ => none
theorem keys_of {P : Params} : ∀ {es : List DictEntry} {zs : List Str}, (es.map fun e => ((match e.key with
    | .str x _ => some x
    | _ => none : Option Str), e.hash)) = zs.map (fun x => (some x, PyData.keyHash P x)) → PySem.W.KeysLit P es
  | [], _, _ => True.intro
  | _ :: _, [], h => by cases h
  | e :: es, z :: zs, h => by
    rw [List.map_cons, List.map_cons] at h
    injection h with h1 h2
    injection h1 with h3 h4
    refine ⟨?_, keys_of h2⟩
    cases hk : e.key with
    | str x t =>
      rw [hk] at h3
      have h5 : some x = some z := h3
      cases h5
      exact ⟨z, t, rfl, h4⟩
    | _ =>
      rw [hk] at h3
      cases h3
theorem dObs_ok {K : PySem.W.Frag} {P : Params} {a : Addr} {zs : List Str} (h : dObs K a = some (true, zs.map fun x => (some x, PyData.keyHash P x))) : ∃ es n, K.lookup a = some ⟨.type "dict", none, .dict es n, #[]⟩ ∧ PySem.W.KeysLit P es.toList := by
  unfold dObs at h
  split at h
  · rename_i c es n sl e
    injection h with h
    injection h with h1 h2
    obtain ⟨h3, h4⟩ := Bool.and_eq_true_iff.mp h1
    have h5 := of_decide_eq_true h3
    have h6 := Array.eq_empty_of_size_eq_zero (of_decide_eq_true h4)
    subst h5 h6
    exact ⟨es, n, e, keys_of h2⟩
  · cases h
end Xg
namespace Xg
open PySem L2 PySem.Spec PyProof.Rows
/-- an own error's class and its maker, told by rows that each compute -/
theorem stxt_mk {P : Program} {K : PySem.W.Frag} {h : Heap} {mg : Str → Option Value} {x f txt : Str} {C fI : Addr} (X : K.In h) (G : h.Ns mainGlobals mg) (fok : XgSup.FOk f)
    (gC : PySem.W.nsIn K mainGlobals x = some (some (.ref C)))
    (iC : PySem.W.findIn K (.ref C) "__init__" = some (some (.ref fI)))
    {nm q N bs bm sn sub ab col dd k0 k1 k2 k3 k5} (cl1 : K.lookup C = some (excClassObj nm q C N bs bm true sn sub ab col dd k0 k1 k2 k3 k5 "ValueError.__new__")) (cl2 : HandSPX.refsVE bm = true)
    (sa : PySem.W.findIn K (.ref C) "__setattr__" = some (some (.builtin "object.__setattr__")))
    (ga : PySem.W.findIn K (.ref C) "__getattribute__" = some (some (.builtin "BaseException.__getattribute__")))
    (gg : PySem.W.findIn K (.ref C) "__getattr__" = some none) (noN : PySem.W.findIn K (.ref C) f = some none)
    (tC : PySem.W.typeIn K (.ref fI) = some (.type "function")) (kC : PySem.W.keepIn K (.ref C) = true)
    (exC : PySem.W.subIn K (.ref C) (.type "BaseException") = some true) (veC : PySem.W.subIn K (.ref C) (.type "ValueError") = some true)
    (tyC : PySem.W.typeIn K (.ref C) = some (.type "type")) (hdC : PySem.W.hasDictIn K C = true)
    (sup : PySem.W.ks_superIn K C C "__init__" = some (some (.builtin "ValueError.__init__"))) (slf : PySem.W.mroIn K C (.ref C) = some true)
    (nop : PySem.W.nsIn K cStatics "thirdparty.any" = some none) (gS : PySem.W.nsIn K mainGlobals "super" = some none)
    (tops : (P.main.scope.names.lookup ("super" : Str)).isSome = false)
    {qual : Str} {oc : Value} {od : Option Addr} {doc pm : Value} {an : Option Addr} {cda cc : Addr} {ct : Value} {osl : Array (Option Value)} {p1 p2 a1 a2 a3 a4 a5 b1 b2 b3 b4 c1 c2 c3 c4 : Pos}
    {ccl : Value} {cdd : Option Addr} {vs : Array Value} {ccs : Array (Option Value)} {file : Str} {tf : Tok} {cl : Value} {cld : Option Addr} {csl : Array (Option Value)}
    (g1 : K.lookup fI = some ⟨oc, od, .func (PySem.W.ksFn "__init__" qual (XgSup.mA f p1 p2) (XgSup.mB f txt a1 a2 a3 a4 a5 b1 b2 b3 b4 c1 c2 c3 c4) (XgSup.mS f) .none .none doc pm an (.ref cda) ct cc), osl⟩)
    (g2 : PySem.W.codeIn K (.ref cda) qual = true)
    (g3 : K.lookup cda = some ⟨ccl, cdd, .fields vs, ccs⟩) (g4 : vs[2]? = some (.str file tf)) (g5 : ((P.main.file : Str) == file) = true)
    (g6 : K.lookup cc = some ⟨cl, cld, .cell (some (.ref C)), csl⟩) (g7 : XgSup.AskOk qual f txt a1 a2 a3 a4 b1 b2 b3 b4 fI cda cc) :
    XgSup.STxt P K mg x f txt C fI :=
  ⟨fok, PySem.W.mg_of X G gC, ⟨_, _, _, _, _, _, _, _, _, _, _, _, _, _, _, cl1, cl2⟩, sa, ga, gg, noN, iC, tC, kC, exC, veC, tyC, hdC, sup, slf, nop, PySem.W.mg_none_of X G gS, tops,
    ⟨_, _, _, _, _, _, _, _, _, _, _, _, _, _, _, _, _, _, _, _, _, _, _, _, _, _, _, _, _, _, _, _, _, _, g1, g2, g3, g4, g5, g6, g7⟩⟩
theorem excC_mk {K : PySem.W.Frag} {D : Addr} (h1 : PySem.W.findIn K (.ref D) "__getattribute__" = some (some (.builtin "BaseException.__getattribute__"))) (h2 : PySem.W.findIn K (.ref D) "__getattr__" = some none)
    (h3 : PySem.W.subIn K (.ref D) (.type "BaseException") = some true) (h4 : PySem.W.hasDictIn K D = true) (h5 : PySem.W.findIn K (.ref D) "__class__" = some (some (.builtin "object.__class__")))
    (h6 : PySem.W.specialIn K (.builtin "object.__class__") "__get__" = some (some (.builtin "getset_descriptor.__get__"))) (h7 : PySem.W.takesIn K (.builtin "object.__class__") = some true) (h8 : PySem.W.mroIn K D (.type "object") = some true) : ExcC K D :=
  ⟨h1, h2, h3, h4, h5, h6, h7, h8⟩
end Xg
namespace XgOwn
open PySem PySem.Spec PyProof.Rows L2
/-! ### a def whose promise may know how many objects there are when it starts -/
structure FnS (P : Program) (w : World) (K : PySem.W.Frag) (mg : Str → Option Value) (base : Heap) (k : Nat) (f : Addr) (fd : FuncData) (ps : List Str) (sp : Nat → Sp) : Prop where
  ln : ∀ n vs H Q E, sp n vs H Q E → vs.length = ps.length
  go : ∀ {A : Around} {outer : List Env} {s : Shared} {H : Hp} {args : Args} {us : List Value} {vs : List V} {Q : VK}, Room k A → Env0 P w K mg base A outer s H → BindsTo s fd args (ps.zip us) → Vals vs us → sp s.heap.objs.size vs H Q E0 →
    codeAny (model P w) A (.call (.ref f) args) (CR CX0 outer P w H s Q E0) s
section
variable {P : Program} {w : World} {K : PySem.W.Frag} {mg : Str → Option Value} {base : Heap}
theorem fnS_mk {x qual : Str} {st : Stmt} {f : Addr} {fd : FuncData} {N ps : List Str} {k : Nat} {sp : Nat → Sp} (F : Fun K x qual st f fd) (S : FnScope N ps (defScope st)) (ln : ∀ n vs H Q E, sp n vs H Q E → vs.length = ps.length)
    (hb : ∀ (cdv : Value) (A : Around) (outer : List Env) (s : Shared) (H : Hp) (vs : List V) (Q : VK), Room k (A.deeper (envOfC qual (defScope st) s.heap.objs.size f cdv)) → sp s.heap.objs.size vs H Q E0 →
      ∃ t, PSs (cxOf CX0 P w K mg base N qual (defScope st) f cdv A outer s H E0).nox (defBody st) t ∧ t { nx := fun _ H' => Q .non H', rt := Q } (start N vs) H) : FnS P w K mg base (k + 1) f fd ps sp := by
  obtain ⟨oc, od, kV, doc, pm, an, cdv, ct, osl, rfl, lk, hcd⟩ := F.ex
  refine ⟨ln, fun {A outer s H args us vs Q} hr e0 bt r hsp => ?_⟩
  have hl := ln _ _ _ _ _ hsp
  have kx : K.In s.heap := e0.mod.kin.keeps fun b o e => And.left (e0.bs b o e)
  have nl : s.heap.NoLimit := e0.mod.nolimit.keeps fun b o e => And.left (e0.bs b o e)
  refine codeAny_call_function hr.depth (kx _ _ lk) rfl S.co S.gen rfl (PySem.W.codeRec_of kx hcd) (bt _ _ _ _ ?_)
  refine wpAny_newFunctionEnv_cells S.kind ?_ fun env he s1 x => ?_
  · rintro ⟨n, v⟩ hy
    rcases S.par n (List.of_mem_zip hy).1 with q | q
    · exact Or.inl q
    · exact Or.inr ⟨q, PySem.W.cellsFrom_some _ _ _ (Or.inl q)⟩
  subst he
  refine ⟨nl.keeps x.toInCall.keep, codeAny_func ?_⟩
  obtain ⟨t, ht, hq⟩ := hb cdv A outer s H vs Q (hr.deeper _) hsp
  have I : Inv (cxOf CX0 P w K mg base N qual (defScope st) f cdv A outer s H E0) [] (start N vs) H s1 := inv_start S hr.hd e0 hl r x
  refine wpAny_mono (ht.nox.run [] s1 (start N vs) H _ I hq) (fun fl s' hs => ?_) fun e s' hs => hs
  cases fl with
  | ret u =>
    obtain ⟨v, _, H', J, rv, q⟩ := hs
    exact ⟨v, H', J.os, J.bare, J.base, J.hok, rv, q⟩
  | next =>
    obtain ⟨_, H', J, q⟩ := hs
    exact ⟨V.non, H', J.os, J.bare, J.base, J.hok, rfl, q⟩
  | brk =>
    obtain ⟨_, _, _, q⟩ := hs
    exact q.elim
  | cont =>
    obtain ⟨_, _, _, q⟩ := hs
    exact q.elim
end
section
variable {X : Cx} {k : Nat} {f : Addr} {fd : FuncData} {ps : List Str} {sp : Nat → Sp}
theorem runS {A1 : Around} {pins : List (Addr × Obj)} {σ : L2.St} {H : Hp} {s : Shared} {Q : VK} {us : List Value} {vs : List V} (F : FnS X.prog X.w X.K X.mg X.base k f fd ps sp) (sb : Sub X k A1) (hb : Binds X.K fd ps [])
    (I : Inv X pins σ H s) (r : Vals vs us) (h : sp s.heap.objs.size vs H Q E0) : wpAny (model X.prog X.w) A1 (call (.ref f) us) (EP X pins σ Q) X.xe s := by
  have e := I.env0
  have e0 : Env0 X.prog X.w X.K X.mg X.base A1 X.stack s H := ⟨sb.fr.trans e.frames, e.mod, e.bs, e.bsz, e.funs, e.frf, e.hok, e.bare⟩
  have hl : us.length = ps.length := r.length.symm.trans (F.ln _ _ _ _ _ h)
  have bt := hb s us I.kIn (by simpa using hl)
  rw [List.append_nil] at bt
  refine wpAny_call (codeAny_mono (F.go sb.room e0 bt r h) fun r s' hq => ?_)
  cases r with
  | error e => exact hq.elim
  | ok fl =>
    cases fl with
    | ret u => exact I.after hq
    | _ => exact hq.elim
end
end XgOwn
namespace XgOwn
open PySem PySem.Spec PyProof.Rows L2
/-! ### a tuple's iterator, known by its one object -/
def tiObj (t : Addr) (i : Nat) : Obj := { cls := .type "tuple_iterator", data := .fields #[.ref t, .int i 0] }
def TiO (t it : Addr) : HO := .ext fun h => h.get? it = some (tiObj t 0)
theorem tiO_ok {P : Program} {w : World} {H : Hp} {h : Heap} {t it : Addr} (e : h.get? it = some (tiObj t 0)) : ObjOk P w H h it (TiO t it) := ⟨e, ⟨_, e⟩, fun h1 h2 q k => k _ q⟩
section
variable {X : Cx}
/-- iter(xs), xs a tuple -/
def rIterT (K : PySem.W.Frag) (n : Nat) : List V → Hp → VK → Prop := fun xs H Q => ∃ (t : Addr) (zs : List V), xs = [.ref t] ∧ SqT K H t zs ∧ ∀ it, H it = none → n ≤ it → Q (.ref it) (upd H it (TiO t it))
theorem call_iterT : CallR X (.builtin "iter") (rIterT X.K X.s_0.heap.objs.size) := by
  intro pins s σ H xs us Q I r h
  obtain ⟨t, zs, rfl, hq, q⟩ := h
  obtain ⟨u, rfl, ru⟩ := r.one
  cases ru
  obtain ⟨its, rv, pt, hz⟩ := I.tuple hq
  refine Calls.call_function_entry (by decide +kernel) (by decide +kernel) PySem.W.kdk_entry_iter (PySem.W.kdk_args_iter _) ?_
  unfold Builtin.«iter»
  refine wpAny_bind (m := someArgs "iter" 1 2 _) (wpAny_of_eq (a := [Value.ref t]) (by first | rfl | kernel_rfl!) ?_)
  show wpAny _ _ (pyIter (.ref t) >>= _) _ _ _
  refine wpAny_bind (wpAny_pyIter_tuple (show s.heap.IsTuple t its.toArray from pt) ?_)
  refine wpAny_pure ⟨.ref s.heap.objs.size, rfl, ?_⟩
  exact ⟨.ref s.heap.objs.size, _, I.laid (t' := s.toks) (fun b u e => Heap.get?_push_of_some _ e) (Nat.le_refl _) (tiO_ok (Heap.get?_push_size _ rfl)), rfl, q _ (I.hok.fresh (Nat.le_refl _)) I.sz⟩
end
/-! ### own operators, own in -/
section
variable {X : Cx} {C f a : Addr} {fd : FuncData} {ps : List Str} {sp : Sp} {k : Nat} {E : XK} {CI : CXT}
/-- x OP y, both of the class at C, by its own def: sp is the def's promise -/
def rOpO (C : Addr) (sp : Sp) (E : XK) : R2 := fun x y H Q => ∃ a b dx dy fs gs, x = .ref a ∧ y = .ref b ∧ H a = some (.ins C dx fs) ∧ H b = some (.ins C dy gs) ∧ sp [.ref a, .ref b] H (fun v H' => (∃ p, v = .ref p) ∧ Q v H') E
theorem op_own {op : Operator} (FN : FnOk X.prog X.w X.K X.mg X.base CI k f fd ps sp) (hr : Room k X.A) (hb : Binds X.K fd ps []) (hx : Passes CI X E) (hc : PySem.W.selfFirst X.K C = true)
    (hs : PySem.W.findIn X.K (.ref C) (PySem.dunder op.info.2) = some (some (.ref f))) (hf : PySem.W.isFn X.K (.ref f) = true) : OpR X (binaryOp op) (rOpO C sp E) := by
  intro pins s σ H x y v u Q I rx ry h
  obtain ⟨a, b, dx, dy, fs, gs, rfl, rfl, ha, hb', hsp⟩ := h
  cases rx
  cases ry
  obtain ⟨mA, J, _⟩ := ins_get I.hok ha
  obtain ⟨mB, J', _⟩ := ins_get I.hok hb'
  obtain ⟨od, J, _⟩ := J.look
  obtain ⟨od', J', _⟩ := J'.look
  obtain ⟨m, hF⟩ := I.fr
  refine PySem.W.binop_K hF I.ok.mod.kin J J'.type hc hs hf ?_
  refine thn (run_fn (ds := []) (dvs := []) FN hr hb .nil hx I (vs := [.ref a, .ref b]) (us := [.ref a, .ref b]) (.cons rfl (.cons rfl .nil)) hsp) fun w s' hq => ?_
  obtain ⟨z, H', I', rz, ⟨p, ez⟩, q⟩ := hq
  subst ez
  cases rz
  exact ⟨.ref p, H', I', rfl, q⟩
/-- v in o, o of the class at C, by its own def, whose answer is a bool -/
def rInO (C : Addr) (neg : Bool) (sp : Sp) (E : XK) : R2 := fun x y H Q => ∃ a dx fs, y = .ref a ∧ H a = some (.ins C dx fs) ∧ sp [.ref a, x] H (fun v H' => ∃ c, v = .bl c ∧ Q (.bl (if neg then !c else c)) H') E
theorem op_inO (FN : FnOk X.prog X.w X.K X.mg X.base CI k f fd ps sp) (hr : Room k X.A) (hb : Binds X.K fd ps []) (hx : Passes CI X E)
    (hs : PySem.W.findIn X.K (.ref C) "__contains__" = some (some (.ref f))) (hf : PySem.W.isFn X.K (.ref f) = true) : OpR X (compareOp .In) (rInO C false sp E) := by
  intro pins s σ H x y v u Q I rx ry h
  obtain ⟨a, dx, fs, rfl, ha, hsp⟩ := h
  cases ry
  obtain ⟨mA, J, _⟩ := ins_get I.hok ha
  obtain ⟨od, J, _⟩ := J.look
  obtain ⟨m, hF⟩ := I.fr
  refine PySem.W.in_K hF I.ok.mod.kin J hs hf ?_
  refine thn (run_fn (ds := []) (dvs := []) FN hr hb .nil hx I (vs := [.ref a, x]) (us := [.ref a, v]) (.cons rfl (.cons rx .nil)) hsp) fun w s' hq => ?_
  obtain ⟨z, H', I', rz, c, ez, q⟩ := hq
  subst ez
  cases rz
  exact wpAny_truthy_bool ⟨.bl c, H', I', rfl, q⟩
end
end XgOwn
namespace XgOwn
open PySem PySem.Spec PyProof.Rows L2
/-! ### walking an own object whose __iter__ hands out its tuple's iterator -/
def spIter (K : PySem.W.Frag) (C : Addr) (fld : Str) : Nat → Sp := fun n vs H Q _ => ∃ a dx fs t zs, vs = [.ref a] ∧ H a = some (.ins C dx fs) ∧ fs.lookup fld = some (.ref t) ∧ SqT K H t zs ∧ ∀ it, H it = none → n ≤ it → Q (.ref it) (upd H it (TiO t it))
structure ItsC (K : PySem.W.Frag) (C fi : Addr) : Prop where
  it : PySem.W.findIn K (.ref C) "__iter__" = some (some (.ref fi))
  itF : PySem.W.isFn K (.ref fi) = true
  nolen : PySem.W.findIn K (.ref C) "__len__" = some none
  nohint : PySem.W.findIn K (.ref C) "__length_hint__" = some none
section
variable {X : Cx} {C fi : Addr} {fd : FuncData} {ps : List Str} {k : Nat} {fld : Str}
/-- __iter__ runs, the iterator stands there young and untouched -/
theorem own_iter {A1 : Around} {pins : List (Addr × Obj)} {σ : L2.St} {H : Hp} {s : Shared} {a dx t : Addr} {fs : List (Str × V)} {zs : List V} {Q : Value → Shared → Prop} (sb : Sub X k A1) (hc : ItsC X.K C fi)
    (F : FnS X.prog X.w X.K X.mg X.base k fi fd ps (spIter X.K C fld)) (hb : Binds X.K fd ps []) (I : Inv X pins σ H s) (ha : H a = some (.ins C dx fs)) (hl : fs.lookup fld = some (.ref t)) (ht : SqT X.K H t zs)
    (hq : ∀ (it : Addr) (s' : Shared), Inv X pins σ H s' → s'.heap.IsTupleIter it t 0 → FpOk X pins H it → Q (.ref it) s') : wpAny (model X.prog X.w) A1 (pyIter (.ref a)) Q X.xe s := by
  obtain ⟨mA, J, _⟩ := ins_get I.hok ha
  obtain ⟨od, J, _⟩ := J.look
  obtain ⟨m, hF⟩ := I.fr
  refine PySem.W.owit_iter hF I.ok.mod.kin J hc.it hc.itF ?_
  refine thn (runS (vs := [.ref a]) (us := [.ref a]) (Q := fun v H' => ∃ it, v = .ref it ∧ H it = none ∧ s.heap.objs.size ≤ it ∧ H' = upd H it (TiO t it)) F sb hb I (.cons rfl .nil) ⟨a, dx, fs, t, zs, rfl, ha, hl, ht, fun it h1 h2 => ⟨it, rfl, h1, h2, rfl⟩⟩) fun w s' hh => ?_
  obtain ⟨v, H', I', rv, it, ev, h1, h2, eH⟩ := hh
  subst ev eH
  cases rv
  have eo : s'.heap.get? it = some (tiObj t 0) := (I'.hok it _ upd_same).1
  have st : s'.heap.IsTupleIter it t 0 := ⟨_, eo, rfl, rfl⟩
  have I2 : Inv X pins σ (ItX.dropH (upd H it (TiO t it)) it) s' := ItX.inv_drop I' upd_same
  have fp := ItX.inv_fp I' (a := it) upd_same (Nat.le_trans I.sz h2)
  rw [ItX.dropH_upd h1] at I2 fp
  unfold PySem.W.OwitIt
  exact wpAny_specialOf (s := s') ⟨_, eo, rfl⟩ PyProof.Rows.slot_tupleiter_next.lookup (hq it s' I2 st fp)
/-- a for over a list, a tuple or such an object -/
def iAny (K : PySem.W.Frag) (C : Addr) (fld : Str) (tl : TE) : TI := fun σ H R => tl σ H fun x H1 => ∃ a, x = .ref a ∧ (((∃ xs, SqL K H1 a xs) ∧ R (Itl K a) H1) ∨ ((∃ xs, SqT K H1 a xs) ∧ R (Itt K a) H1) ∨
  ∃ dx fs t zs, H1 a = some (.ins C dx fs) ∧ fs.lookup fld = some (.ref t) ∧ SqT K H1 t zs ∧ R (Itt K t) H1)
theorem pi_any {tg l : Expr} {tl : TE} (hl : PE X l tl) (hr : Room k X.A) (hc : ItsC X.K C fi) (F : FnS X.prog X.w X.K X.mg X.base k fi fd ps (spIter X.K C fld)) (hb : Binds X.K fd ps []) : PI X tg l (iAny X.K C fld tl) := by
  refine ⟨fun pins s σ H R I h => ?_⟩
  refine thn (hl.run pins s σ H _ I h) fun v s1 ⟨x, H1, I1, r1, q1⟩ => ?_
  obtain ⟨a, e, q1⟩ := q1
  subst e
  cases r1
  have young : ∀ b ∈ [s1.heap.objs.size], FpOk X pins H1 b := fun b hb => by
    rw [List.mem_singleton.mp hb]
    exact I1.fpOk (Nat.le_refl _) (I1.hok.fresh (Nat.le_refl _))
  rcases q1 with ⟨⟨xs, hq⟩, q⟩ | ⟨⟨xs, hq⟩, q⟩ | ⟨dx, fs, t, zs, ha, hlk, ht, q⟩
  · obtain ⟨its, rv, p, hz⟩ := I1.list hq
    refine wpAny_pyIter_list p.isList ?_
    exact ⟨s1.heap.objs.size, [s1.heap.objs.size], _, _, H1, rfl, I1.kept (t' := s1.toks) fun b o e => Heap.get?_push_of_some _ e, turn_list a _, ⟨_, Heap.get?_push_size _ rfl, rfl, rfl⟩, young, q⟩
  · obtain ⟨its, rv, p, hz⟩ := I1.tuple hq
    refine wpAny_pyIter_tuple (show s1.heap.IsTuple a its.toArray from p) ?_
    exact ⟨s1.heap.objs.size, [s1.heap.objs.size], _, _, H1, rfl, I1.kept (t' := s1.toks) fun b o e => Heap.get?_push_of_some _ e, turn_tuple a _, ⟨_, Heap.get?_push_size _ rfl, rfl, rfl⟩, young, q⟩
  · refine own_iter ⟨hr, rfl⟩ hc F hb I1 ha hlk ht fun it s2 I2 st fp => ?_
    refine ⟨it, [it], _, _, H1, rfl, I2, turn_tuple t it, st, fun b hb => ?_, q⟩
    rw [List.mem_singleton.mp hb]
    exact fp
end
end XgOwn
namespace XgOwn
open PySem PySem.Spec PyProof.Rows L2
/-! ### list(o) of such an object -/
section
variable {X : Cx} {C fi : Addr} {fd : FuncData} {ps : List Str} {k : Nat} {fld : Str} {pins : List (Addr × Obj)} {σ : L2.St} {H : Hp}
theorem hint_none {M : Model} {A : Around} {E : Value → Shared → Prop} {s : Shared} {Q : Bool → Shared → Prop} {K : PySem.W.Frag} {a : Addr} {ox : Obj} {od : Option Obj} (hc : ItsC K C fi) (hK : K.In s.heap) (J : PySem.W.InstAt s.heap a ox C od) (h : Q true s) :
    wpAny M A (Builtin.List.listLengthHint (.ref a)) Q E s := by
  have q1 := PySem.W.looks_findIn (M := M) hK hc.nolen
  have q2 := PySem.W.looks_findIn (M := M) hK hc.nohint
  unfold Builtin.List.listLengthHint
  refine wpAny_bind (wpAny_bind (J.type.here (q1.here ?_)))
  refine PySem.W.KFB.if_not rfl (PySem.W.KFB.if_not rfl ?_)
  exact wpAny_bind (wpAny_bind (J.type.here (q2.here (wpAny_pure h))))
theorem tup_loop {A1 : Around} {Rs : Result → Shared → Prop} {q it t : Addr} {zs : List V} (hd : A1.in1.handled = none) (hq0 : H q = none) (ht : SqT X.K H t zs) (hdone : ∀ s, Inv X pins σ (upd H q (.lst zs)) s → Rs (.ok (.ret .none)) s) :
    ∀ (m i : Nat) (s : Shared), m + i = zs.length → Inv X pins σ (upd H q (.lst (zs.take i))) s → s.heap.IsTupleIter it t i → FpOk X pins (upd H q (.lst (zs.take i))) it →
      codeAny (model X.prog X.w) A1 (.builtin "list.extend.loop" ⟨[.ref q, .ref it, .none], []⟩) Rs s := by
  intro m
  induction m with
  | zero =>
    intro i s hm I st fp
    have hi : i = zs.length := by omega
    have ht' : SqT X.K (upd H q (.lst (zs.take i))) t zs := Xg.same_sqT (Xg.same_new (Same.refl H) hq0) ht
    obtain ⟨its, rv, p, hz⟩ := I.tuple ht'
    obtain ⟨f0, f1, f2, f3, f4, f5⟩ := fp
    have hl := rv.length
    refine codeAny_builtin PySem.F.entry_extend_loop ?_
    rw [Around.under_plainId PySem.F.plain_extend_loop _]
    show wpAny _ A1.in1 (pyNext (.ref it) >>= _) _ _ s
    refine wpAny_bind (wpAny_pyNext_tuple_end hd st (show s.heap.IsTuple t its.toArray from p) (by simp; omega) fun h' eb => ?_)
    refine wpAny_pure (hdone _ ?_)
    have I1 := I.turned (t' := s.toks) (fun b o hb e => eb b o hb e) f0 f1 f3 f4 f5
    rw [hi, List.take_length] at I1
    exact I1
  | succ m ih =>
    intro i s hm I st fp
    have hi : i < zs.length := by omega
    have ht' : SqT X.K (upd H q (.lst (zs.take i))) t zs := Xg.same_sqT (Xg.same_new (Same.refl H) hq0) ht
    obtain ⟨its, rv, p, hz⟩ := I.tuple ht'
    have hx : zs[i]? = some zs[i] := List.getElem?_eq_getElem hi
    obtain ⟨u, hu, ru⟩ := rv.get hx
    have fp' := fp
    obtain ⟨f0, f1, f2, f3, f4, f5⟩ := fp
    refine codeAny_builtin PySem.F.entry_extend_loop ?_
    rw [Around.under_plainId PySem.F.plain_extend_loop _]
    show wpAny _ A1.in1 (pyNext (.ref it) >>= _) _ _ s
    refine wpAny_bind (wpAny_pyNext_tuple_item st (show s.heap.IsTuple t its.toArray from p) (x := u) (by simpa using hu) fun h' st' sb => ?_)
    have I1 : Inv X pins σ (upd H q (.lst (zs.take i))) { s with heap := h' } := I.turned (t' := s.toks) (fun b o hb e => (sb.2 b hb).trans e) f0 f1 f3 f4 f5
    show wpAny _ A1.in1 (updateSeq q (·.push u) >>= _) _ _ _
    obtain ⟨z, its2, k2, r2, hl2, e⟩ := I1.lstM upd_same
    have hn : it ≠ q := fun z => by rw [z, upd_same] at f0; cases f0
    have hz2 : zs.length ≤ sizeLine := hz
    have l2 : its2.length ≤ sizeLine := by
      have := r2.length
      rw [List.length_take] at this
      omega
    refine wpAny_bind (wpAny_updateSeq e rfl (wpAny_pure ⟨plainId_quiet PySem.F.plain_extend_loop _, ?_⟩) (by rw [List.size_toArray]; omega) (by show (its2.toArray.push u).size ≤ sizeLine + 1; rw [Array.size_push, List.size_toArray]; omega))
    have tk : zs.take (i + 1) = zs.take i ++ [zs[i]] := by
      rw [List.take_succ, hx]
      rfl
    have I2 := I1.lset (f := (·.push u)) (its' := its2 ++ [u]) (ys := zs.take (i + 1)) (t' := s.toks) upd_same e (by simp) (by rw [tk]; exact r2.append (.cons ru .nil)) (by rw [List.length_take]; omega)
    rw [upd_upd] at I2
    refine ih (i + 1) _ (by omega) I2 ?_ ⟨by rw [upd_ne hn]; rw [upd_ne hn] at f0; exact f0, f1, f2, f3, f4, f5⟩
    exact st'.at fun o ho => (Heap.get?_update_other _ _ (Ne.symm hn)).trans ho
end
end XgOwn
namespace XgOwn
open PySem PySem.Spec PyProof.Rows L2
section
variable {X : Cx} {C fi : Addr} {fd : FuncData} {ps : List Str} {k : Nat} {fld : Str} {pins : List (Addr × Obj)} {σ : L2.St} {H : Hp}
theorem tup_extend {A1 : Around} {Rs : Result → Shared → Prop} {s : Shared} {q a dx t : Addr} {fs : List (Str × V)} {zs : List V} (sb : Sub X k A1.in1) (hc : ItsC X.K C fi)
    (F : FnS X.prog X.w X.K X.mg X.base k fi fd ps (spIter X.K C fld)) (hb : Binds X.K fd ps []) (hq0 : H q = none) (I : Inv X pins σ (upd H q (.lst [])) s) (ha : H a = some (.ins C dx fs)) (hlk : fs.lookup fld = some (.ref t)) (ht : SqT X.K H t zs)
    (hdone : ∀ s, Inv X pins σ (upd H q (.lst zs)) s → Rs (.ok (.ret .none)) s) (herr : ∀ e s, X.xe e s → Rs (.error e) s) :
    wpAny (model X.prog X.w) A1.in1 (Builtin.List.listExtendWith (.ref q) (.ref a) .none)
      (fun fin s' => match fin with | .done f => Rs (.ok f) s' | .again c' => c'.quiet = true ∧ codeAny (model X.prog X.w) A1 c' Rs s') (fun e s' => Rs (.error e) s') s := by
  have hne : q ≠ a := (ne_of_none ha hq0).symm
  have ha' : upd H q (.lst []) a = some (.ins C dx fs) := by rw [upd_ne hne.symm]; exact ha
  have ht' : SqT X.K (upd H q (.lst [])) t zs := Xg.same_sqT (Xg.same_new (Same.refl H) hq0) ht
  obtain ⟨mA, J, _⟩ := ins_get I.hok ha'
  obtain ⟨od, J, _⟩ := J.look
  unfold Builtin.List.listExtendWith
  refine wpAny_bind (J.type.here ?_)
  have b1 : Builtin.List.listSameRef (.ref q) (.ref a) = false := by simp [Builtin.List.listSameRef, hne]
  have b2 : (Value.ref C == Value.type "list") = false := rfl
  have b3 : (Value.ref C == Value.type "tuple") = false := rfl
  simp only [b1, b2, b3, Bool.or_false, Bool.false_eq_true, if_false]
  refine wpAny_bind (wpAny_mono (own_iter sb hc F hb I ha' hlk ht' (Q := fun v s' => ∃ it, v = .ref it ∧ Inv X pins σ (upd H q (.lst [])) s' ∧ s'.heap.IsTupleIter it t 0 ∧ FpOk X pins (upd H q (.lst [])) it)
    fun it s' I' st fp => ⟨it, rfl, I', st, fp⟩) (fun w s' hh => ?_) fun e s' he => herr e s' he)
  obtain ⟨it, rfl, I', st, fp⟩ := hh
  obtain ⟨mB, J', _⟩ := ins_get I'.hok ha'
  obtain ⟨od', J', _⟩ := J'.look
  have hn : it ≠ q := fun z => by
    have f0 := fp.1
    rw [z, upd_same] at f0
    cases f0
  refine wpAny_bind (wpAny_holding (hint_none hc I'.kIn J' ?_))
  have go : ∀ s2, Inv X pins σ (upd H q (.lst [])) s2 → s2.heap.IsTupleIter it t 0 → codeAny (model X.prog X.w) A1 (.builtin "list.extend.loop" ⟨[.ref q, .ref it, .none], []⟩) Rs s2 := fun s2 I2 st2 =>
    tup_loop sb.room.hd hq0 ht hdone zs.length 0 s2 (by omega) I2 st2 fp
  obtain ⟨z, its, k0, r3, hl3, e3⟩ := I'.lstM upd_same
  cases r3
  refine wpAny_ite_split (fun _ => ?_) (fun _ => wpAny_pure ⟨plainId_quiet PySem.F.plain_extend_loop _, go s' I' st⟩)
  refine wpAny_bind (wpAny_rule (wpAny_bind ?_))
  show wpAny _ _ (updateSeq q (·.push .none) >>= fun _ => updateSeq q (·.pop)) _ _ _
  refine wpAny_bind (wpAny_updateSeq e3 rfl ?_)
  have I2 := I'.lset (f := (·.push Value.none)) (its' := [Value.none]) (ys := [.non]) (t' := s'.toks) upd_same e3 (by simp) (.cons rfl .nil) (by rw [List.length_singleton, sizeLine_eq]; decide)
  obtain ⟨z4, its4, k4, r4, hl4, e4⟩ := I2.lstM upd_same
  obtain ⟨u4, rfl, ru4⟩ := r4.one
  refine wpAny_updateSeq e4 rfl ?_ (by show 1 ≤ sizeLine; rw [sizeLine_eq]; decide) (by show 0 ≤ sizeLine + 1; exact Nat.zero_le _)
  have I3 := I2.lset (f := (·.pop)) (its := [u4]) (its' := []) (ys := []) (t' := s'.toks) upd_same e4 (by rfl) .nil (Nat.zero_le _)
  rw [upd_upd, upd_upd] at I3
  refine wpAny_pure ⟨plainId_quiet PySem.F.plain_extend_loop _, go _ I3 ?_⟩
  exact (st.at fun o ho => (Heap.get?_update_other _ _ (Ne.symm hn)).trans ho).at fun o ho => (Heap.get?_update_other _ _ (Ne.symm hn)).trans ho
def rListO (K : PySem.W.Frag) (C : Addr) (fld : Str) : List V → Hp → VK → Prop := fun xs H Q => ∃ a dx fs t zs, xs = [.ref a] ∧ H a = some (.ins C dx fs) ∧ fs.lookup fld = some (.ref t) ∧ SqT K H t zs ∧ ∀ q, H q = none → Q (.ref q) (upd H q (.lst zs))
theorem call_listIt (hr : Room (k + 2) X.A) (hc : ItsC X.K C fi) (F : FnS X.prog X.w X.K X.mg X.base k fi fd ps (spIter X.K C fld)) (hb : Binds X.K fd ps []) : CallR X (.type "list") (rListO X.K C fld) := by
  intro pins s σ H xs us Q I rv h
  obtain ⟨a, dx, fs, t, zs, rfl, ha, hlk, ht, hq⟩ := h
  obtain ⟨u, rfl, ru⟩ := rv.one
  cases ru
  have sb : Sub X k X.A.in1.in1 := Sub.in1 (Sub.in1 (⟨hr, rfl⟩ : Sub X (k + 2) X.A))
  refine callType_codes (Q₁ := fun obj s₁ => obj = .ref s.heap.objs.size ∧ s₁ = { s with heap := s.heap.push { cls := .type "list", data := .seq #[] } }) PySem.F.called_list (PySem.F.typeCall_list_1 _) PySem.F.entry_list_init
    (code_list_new _ ⟨rfl, rfl⟩) fun obj s1 hh => ?_
  obtain ⟨rfl, rfl⟩ := hh
  have eS : (s.heap.push { cls := .type "list", data := .seq #[] }).get? s.heap.objs.size = some { cls := .type "list", data := .seq #[] } := Heap.get?_push_size _ rfl
  refine ⟨⟨_, eS, rfl⟩, PySem.F.args_list_init_2 _ _, ?_⟩
  have fr : H s.heap.objs.size = none := I.hok.fresh (Nat.le_refl _)
  have I1 : Inv X pins σ (upd H s.heap.objs.size (.lst [])) { s with heap := s.heap.push { cls := .type "list", data := .seq #[] } } := I.lnew (its := []) (t' := s.toks) .nil (Nat.zero_le _)
  show wpAny _ _ (do let old ← Builtin.List.listItems (.ref s.heap.objs.size); Builtin.List.listUpdate (.ref s.heap.objs.size) (fun _ => #[]); letGo old.toList.reverse; Builtin.List.listExtendWith (.ref s.heap.objs.size) (.ref a) .none) _ _ _
  refine wpAny_bind ?_
  unfold Builtin.List.listItems
  refine wpAny_bind (wpAny_seqItems eS rfl (wpAny_pure ?_))
  show wpAny _ _ (updateSeq s.heap.objs.size (fun _ => #[]) >>= fun _ => letGo (#[] : Array Value).toList.reverse >>= fun _ => Builtin.List.listExtendWith (.ref s.heap.objs.size) (.ref a) .none) _ _ _
  refine wpAny_bind (wpAny_updateSeq eS rfl ?_)
  have I2 := I1.lset (f := fun _ => #[]) (its := []) (its' := []) (ys := []) (t' := s.toks) upd_same eS rfl .nil (Nat.zero_le _)
  rw [upd_upd] at I2
  refine wpAny_bind (wpAny_letGo ?_)
  exact tup_extend (A1 := X.A.in1) (Rs := wants (fun r s₂ => r = .none ∧ EP X pins σ Q (.ref s.heap.objs.size) s₂) X.xe) sb hc F hb fr I2 ha hlk ht
    (fun s' I' => ⟨rfl, .ref s.heap.objs.size, _, I', rfl, hq _ fr⟩) fun e s' he => he
end
end XgOwn
namespace XgOwn
open PySem PySem.Spec PyProof.Rows L2
/-! ### a static method without arguments, called on its class -/
structure SMet (K : PySem.W.Frag) (C : Addr) (mc : Value) (m : Str) (p g : Addr) : Prop where
  at_ : PySem.W.findCls K (.ref C) mc m = some (.get (.builtin "staticmethod.__get__") (.ref p) .none (.ref C))
  rc : ∃ rest, PySem.W.recIn K p "staticmethod" = some (.ref g :: rest)
  kp : PySem.W.keepIn K (.ref g) = true
def tStat0 (C : Addr) (sp : Sp) (E : XK) (ta : TE) : TE := fun σ H Q => ta σ H fun x H1 => x = .ref C ∧ sp [] H1 Q E
theorem pe_stat0 {X : Cx} {CI : CXT} {k : Nat} {C p g : Addr} {mc : Value} {sp : Sp} {E : XK} {fd : FuncData} {ps : List Str} {o : Expr} {m : Str} {pos apos : Pos} {ta : TE} {pl : Sem Bool} (he : PE X o ta) (r : ClX.CRead X.K C mc) (c : SMet X.K C mc m p g)
    (F : FnOk X.prog X.w X.K X.mg X.base CI k g fd ps sp) (hr : Room k X.A) (hb : Binds X.K fd ps []) (hx : Passes CI X E)
    (ht : eval (.Call (.Attribute o m apos) [] [] pos) X.env = (do
      let ov ← eval o X.env
      standAt apos.atName
      let (f, first) ← holding [ov] (getMethod ov m pl)
      callWith pos f first (backTo pos (starEach [] X.env)) (backToKw pos (keywordEach [] X.env))) := by rfl) :
    PE X (.Call (.Attribute o m apos) [] [] pos) (tStat0 C sp E ta) := by
  refine ⟨fun pins s σ H Q I h => ?_⟩
  refine PySem.W.methodCall_KW (pl := pl) (thn (he.run pins s σ H _ I h) fun u s1 ⟨x, H1, I1, rx, ex, q⟩ => ?_) ht
  subst ex
  obtain rfl : u = Value.ref C := rx
  obtain ⟨rest, hp⟩ := c.rc
  refine PySem.W.method_cls I1.kIn r.ga (PySem.W.cls_bind I1.kIn r.rd c.at_ (wpAny_call (PySem.W.sm_get (s := { s1 with toks := s1.toks + 1 }) I1.kIn hp (PySem.W.handed_on rfl ?_))))
  have I2 : Inv X pins σ H1 { s1 with toks := s1.toks + 1 } := I1.tok _
  exact PySem.W.callWith_K0 I2.kIn c.kp (run_fn (us := []) (vs := []) (ds := []) (dvs := []) F hr hb .nil hx I2 .nil q)
end XgOwn
namespace XgOwn
open PySem PySem.Spec PyProof.Rows L2
/-! ### an object made where its maker may raise, inside a try -/
section
variable {X : Cx} {CI : CXT} {k : Nat} {f C : Addr} {fd : FuncData} {ps : List Str} {sp : Sp} {E : L2.St → XK} {x : Str} {p pos : Pos} {e : Expr} {es : List Expr} {t : TA}
def tMakeS (C : Addr) (sp : Sp) (E : L2.St → XK) (t : TA) : TE := fun σ H Q => t σ H fun vs H1 => ∀ x dx, H1 x = none → H1 dx = none → dx ≠ x → sp (.ref x :: vs) (upd (upd H1 dx (.own x)) x (.ins C dx [])) (fun v H2 => v = .non ∧ Q (.ref x) H2) (E σ)
theorem pe_makeS (M : Mk X.K C f) (F : FnOk X.prog X.w X.K X.mg X.base CI k f fd ps sp) (hr : Room (k + 1) X.A) (hg : Gl X x) (hm : X.mg x = some (.ref C)) (hb : Binds X.K fd ps []) (hx : ∀ σ, PassesAt CI X σ (E σ))
    (ha : PA X (e :: es) t) (hdb : (x == ("__debug__" : Str)) = false := by decide) (he : starEach (e :: es) X.env = (false, eval e X.env) :: starEach es X.env := by rfl) (hpl : (backTo pos (starEach es X.env)).any (·.1) = false := by rfl) :
    PE X (.Call (.Name x p) (e :: es) [] pos) (tMakeS C sp E t) := by
  refine ⟨fun pins s σ H Q I h => ?_⟩
  refine wpAny_Call_Name_kw (ld_glob I hg hm ?_ hdb)
  refine PySem.W.callWith_K (h₀ := X.base) I.ok.mod.kin M.kp (thn (ha.run pos pins s σ H _ I h) fun us s1 ⟨vs, H1, I1, r, q⟩ => ⟨I1.kIn, ?_⟩) he hpl
  have hq := q (s1.heap.objs.size + 1) s1.heap.objs.size (I1.hok.fresh (Nat.le_succ _)) (I1.hok.fresh (Nat.le_refl _)) (Nat.ne_of_lt (Nat.lt_succ_self _))
  have I2 := Inv.made (C := C) I1
  have r2 : Vals (V.ref (s1.heap.objs.size + 1) :: vs) (Value.ref (s1.heap.objs.size + 1) :: us) := .cons rfl r
  have hl : (Value.ref (s1.heap.objs.size + 1) :: us).length = ps.length := r2.length.symm.trans (F.len _ _ _ _ hq)
  have bt := hb _ (Value.ref (s1.heap.objs.size + 1) :: us) I2.kIn (by rw [List.append_nil]; exact hl)
  rw [List.append_nil] at bt
  have run := F.run _ X.stack _ _ ⟨Value.ref (s1.heap.objs.size + 1) :: us, []⟩ _ _ _ (E σ) (hr.make C us []) (I2.env0.make C us []) bt r2 hq
  refine wpAny_call (make_map (f := f) I1.kIn M.makes M.init (beq_iff_eq.mp M.fn) (codeAny_mono run fun r s' hq' => ?_))
  cases r with
  | error e => exact hx σ pins _ _ e s' I2 hq'
  | ok fl =>
    cases fl with
    | ret u =>
      obtain ⟨v, H', I3, rv, ev, q3⟩ := I2.after hq'
      subst ev
      exact ⟨rv, V.ref (s1.heap.objs.size + 1), H', I3, rfl, q3⟩
    | _ => exact hq'.elim
end
/-! ### what a loop walks: a list, a tuple, an object that hands out its tuple -/
def SrcOk (K : PySem.W.Frag) (C : Addr) (fld : Str) (H : Hp) (v : V) (xs : List V) : Prop := ∃ a, v = .ref a ∧ (SqL K H a xs ∨ SqT K H a xs ∨ ∃ dx fs t, H a = some (.ins C dx fs) ∧ fs.lookup fld = some (.ref t) ∧ SqT K H t xs)
theorem iAny_var {K : PySem.W.Frag} {C : Addr} {fld : Str} {i : Nat} {σ : L2.St} {H H0 : Hp} {R : It → Hp → Prop} {v : V} {xs : List V} (hv : σ[i]? = some (some v)) (h : SrcOk K C fld H0 v xs) (s : Same H0 H)
    (rest : ∀ J, Walk J xs.length (fun H' => Same H0 H') (YAt xs) → R J H) : iAny K C fld (tVar i) σ H R := by
  obtain ⟨a, rfl, h⟩ := h
  refine ⟨_, hv, a, rfl, ?_⟩
  rcases h with h | h | ⟨dx, fs, t, h1, h2, h3⟩
  · exact .inl ⟨⟨_, s.seq h⟩, rest _ (walk_list.mono (fun H' s => s.seq h) fun _ _ _ _ _ _ y => y)⟩
  · exact .inr (.inl ⟨⟨_, Xg.same_sqT s h⟩, rest _ (walk_tup.mono (fun H' s => Xg.same_sqT s h) fun _ _ _ _ _ _ y => y)⟩)
  · exact .inr (.inr ⟨dx, fs, t, xs, s _ _ h1, h2, Xg.same_sqT s h3, rest _ (walk_tup.mono (fun H' s => Xg.same_sqT s h3) fun _ _ _ _ _ _ y => y)⟩)
end XgOwn
namespace XgOwn
open PySem L2
/-- a for over such a thing that stands in slot i -/
theorem for_any {K : PySem.W.Frag} {C : Addr} {fld : Str} {j : Nat} {g : TG} {tb : TS} {D : Ends} {σ : L2.St} {H H0 : Hp} {v : V} {xs : List V} (hv : σ[j]? = some (some v)) (h : SrcOk K C fld H0 v xs) (s : Same H0 H)
    (Pv : Nat → L2.St → Hp → Prop) (h0 : Pv 0 σ H) (hG : ∀ i σ H', i ≤ xs.length → Pv i σ H' → Same H0 H')
    (hs : ∀ i x σ H', xs[i]? = some x → Pv i σ H' → g x σ H' fun σ2 H2 => tb { D with nx := Pv (i + 1), ct := Pv (i + 1), bk := D.nx } σ2 H2) (hd : ∀ σ H', Pv xs.length σ H' → D.nx σ H') : tFor (iAny K C fld (tVar j)) g tb D σ H :=
  iAny_var (R := fun J H1 => ∃ W : Nat → Nat → L2.St → Hp → Prop, (∃ m, W 0 m σ H1) ∧ ∀ i m σ H, W i m σ H →
      (J.stop i H ∧ D.nx σ H) ∨ (J.go i H ∧ ∃ N : L2.St → Hp → Prop, (∀ σ' H', N σ' H' → ∃ m', m' < m ∧ W (i + 1) m' σ' H') ∧ ∀ x H', J.yld i H x H' → g x σ H' fun σ2 H2 => tb { D with nx := N, ct := N, bk := D.nx } σ2 H2)) hv h s fun J wk =>
    for_it wk Pv h0 hG (fun i x σ H H' _ p y => by
      obtain ⟨e, y⟩ := y
      subst e
      exact hs i x σ _ y p) hd
end XgOwn
namespace XgOwn
open PySem L2
/-- a comprehension over such a thing that stands in slot i -/
theorem lc_any {K : PySem.W.Frag} {C : Addr} {fld : Str} {j : Nat} {g : TG} {tt : TT} {te : TE} {vs : List Nat} {σ : L2.St} {H H0 : Hp} {v : V} {xs : List V} {Q : VK} (hv : σ[j]? = some (some v)) (h : SrcOk K C fld H0 v xs) (s : Same H0 H)
    (k : ∀ D, H D = none → ∃ Pv : Nat → Hp → Prop, Pv 0 (upd H D (.lst [])) ∧ (∀ i H', i ≤ xs.length → Pv i H' → Same H0 H') ∧
      (∀ i x H', xs[i]? = some x → Pv i H' → g x (wipe σ vs) H' fun σ2 H2 => wipe σ2 vs = wipe σ vs ∧ tt σ2 H2 fun b H3 =>
        if b = true then te σ2 H3 fun y H4 => ∃ acc, H4 D = some (.lst acc) ∧ acc.length < sizeLine ∧ Pv (i + 1) (upd H4 D (.lst (acc ++ [y]))) else Pv (i + 1) H3) ∧ ∀ H', Pv xs.length H' → Q (.ref D) H') :
    tLc (iAny K C fld (tVar j)) g tt te vs σ H Q :=
  iAny_var (R := fun J H1 => ∀ D, H1 D = none → ∃ W : Nat → Nat → Hp → Prop, (∃ m, W 0 m (upd H1 D (.lst []))) ∧ ∀ i m H, W i m H →
      (J.stop i H ∧ Q (.ref D) H) ∨ (J.go i H ∧ ∃ Nx : Hp → Prop, (∀ H', Nx H' → ∃ m', m' < m ∧ W (i + 1) m' H') ∧ ∀ x H', J.yld i H x H' → g x (wipe σ vs) H' fun σ2 H2 => wipe σ2 vs = wipe σ vs ∧ tt σ2 H2 fun b H3 =>
        if b = true then te σ2 H3 fun y H4 => ∃ acc, H4 D = some (.lst acc) ∧ acc.length < sizeLine ∧ Nx (upd H4 D (.lst (acc ++ [y]))) else Nx H3)) hv h s fun J wk D hD => by
    obtain ⟨Pv, h0, hG, hs, hd⟩ := k D hD
    exact lc_it (Qd := Q (.ref D)) wk Pv h0 hG (fun i x H H' _ p y => by
      obtain ⟨e, y⟩ := y
      subst e
      exact hs i x _ y p) hd
end XgOwn
namespace Xd
open PySem L2

/-! ### data, results -/
inductive D where
  | non | bl (b : Bool) | int (i : Int) | str (s : Str)
  | lst (xs : List D) | tup (xs : List D) | ins (c : Nat) (ns : List Str) (xs : List D)
  | opq (v : V)
structure Xc where
  c : Nat
  ns : List Str
  xs : List D
inductive R (α : Type) where
  | ok (a : α) | exc (x : Xc) | bad
def R.bind {α β : Type} (r : R α) (k : α → R β) : R β := match r with
  | .ok a => k a
  | .exc x => .exc x
  | .bad => .bad
@[simp] theorem R.bind_ok {α β : Type} (a : α) (k : α → R β) : (R.ok a).bind k = k a := rfl
@[simp] theorem R.bind_exc {α β : Type} (x : Xc) (k : α → R β) : (R.exc x).bind k = .exc x := rfl
@[simp] theorem R.bind_bad {α β : Type} (k : α → R β) : (R.bad : R α).bind k = .bad := rfl
def Meet {α : Type} (r : R α) (p : α → Prop) (q : Xc → Prop) : Prop := match r with
  | .ok a => p a
  | .exc x => q x
  | .bad => False
theorem Meet.bind {α β : Type} {r : R α} {k : α → R β} {p : β → Prop} {q : Xc → Prop} (h : Meet (r.bind k) p q) : Meet r (fun a => Meet (k a) p q) q := by
  cases r with
  | ok a => exact h
  | exc x => exact h
  | bad => exact h
theorem Meet.imp {α : Type} {r : R α} {p p' : α → Prop} {q q' : Xc → Prop} (h : Meet r p q) (hp : ∀ a, p a → p' a) (hq : ∀ x, q x → q' x) : Meet r p' q' := by
  cases r with
  | ok a => exact hp a h
  | exc x => exact hq x h
  | bad => exact h

/-! ### what a value stands for, in the part of the heap that stays as it is -/
mutual
inductive Dv (K : PySem.W.Frag) (cl : Nat → Addr) (Hi : Hp) : V → D → Prop
  | non : Dv K cl Hi .non .non
  | bl (b : Bool) : Dv K cl Hi (.bl b) (.bl b)
  | int (i : Int) : Dv K cl Hi (.int i) (.int i)
  | str (s : Str) : Dv K cl Hi (.str s) (.str s)
  | lst {a : Addr} {vs : List V} {xs : List D} : Hi a = some (.lst vs) → DvA K cl Hi vs xs → Dv K cl Hi (.ref a) (.lst xs)
  | tup {a : Addr} {vs : List V} {xs : List D} : SqT K Hi a vs → DvA K cl Hi vs xs → Dv K cl Hi (.ref a) (.tup xs)
  | ins {a dx : Addr} {c : Nat} {ns : List Str} {vs : List V} {xs : List D} : Hi a = some (.ins (cl c) dx (ns.zip vs)) → ns.length = vs.length → DvA K cl Hi vs xs → Dv K cl Hi (.ref a) (.ins c ns xs)
  | opq (v : V) : Dv K cl Hi v (.opq v)
inductive DvA (K : PySem.W.Frag) (cl : Nat → Addr) (Hi : Hp) : List V → List D → Prop
  | nil : DvA K cl Hi [] []
  | cons {v : V} {vs : List V} {d : D} {ds : List D} : Dv K cl Hi v d → DvA K cl Hi vs ds → DvA K cl Hi (v :: vs) (d :: ds)
end
theorem same_t {K : PySem.W.Frag} {H H' : Hp} {a : Addr} {xs : List V} (e : Same H H') (h : SqT K H a xs) : SqT K H' a xs := by
  rcases h with (h | ⟨o, h⟩) | h
  · exact .inl (.inl (e _ _ h))
  · exact .inl (.inr ⟨o, e _ _ h⟩)
  · exact .inr h
section
variable {K : PySem.W.Frag} {cl : Nat → Addr} {Hi Hi' : Hp}
mutual
theorem Dv.mono (e : Same Hi Hi') : ∀ (d : D) (v : V), Dv K cl Hi v d → Dv K cl Hi' v d
  | .non, _, h => by cases h; exact .non
  | .bl _, _, h => by cases h; exact .bl _
  | .int _, _, h => by cases h; exact .int _
  | .str _, _, h => by cases h; exact .str _
  | .lst xs, _, h => by cases h with | lst h1 h2 => exact .lst (e _ _ h1) (DvA.mono e xs _ h2)
  | .tup xs, _, h => by cases h with | tup h1 h2 => exact .tup (same_t e h1) (DvA.mono e xs _ h2)
  | .ins c ns xs, _, h => by cases h with | ins h1 h2 h3 => exact .ins (e _ _ h1) h2 (DvA.mono e xs _ h3)
  | .opq _, _, h => by cases h; exact .opq _
theorem DvA.mono (e : Same Hi Hi') : ∀ (ds : List D) (vs : List V), DvA K cl Hi vs ds → DvA K cl Hi' vs ds
  | [], _, h => by cases h; exact .nil
  | d :: ds, _, h => by cases h with | cons h1 h2 => exact .cons (Dv.mono e d _ h1) (DvA.mono e ds _ h2)
end
theorem Dv.up {v : V} {d : D} (h : Dv K cl Hi v d) (e : Same Hi Hi') : Dv K cl Hi' v d := Dv.mono e d v h
theorem DvA.up {vs : List V} {ds : List D} (h : DvA K cl Hi vs ds) (e : Same Hi Hi') : DvA K cl Hi' vs ds := DvA.mono e ds vs h
theorem DvA.length : ∀ {ds : List D} {vs : List V}, DvA K cl Hi vs ds → vs.length = ds.length
  | [], _, h => by cases h; rfl
  | d :: ds, _, h => by cases h with | cons h1 h2 => rw [List.length_cons, List.length_cons, DvA.length h2]
theorem DvA.get : ∀ {ds : List D} {vs : List V} {i : Nat} {d : D}, DvA K cl Hi vs ds → ds[i]? = some d → ∃ v, vs[i]? = some v ∧ Dv K cl Hi v d
  | [], _, i, d, h, e => by simp at e
  | d :: ds, _, i, d', h, e => by
    cases h with
    | cons h1 h2 =>
      cases i with
      | zero => simp at e; subst e; exact ⟨_, rfl, h1⟩
      | succ i => simpa using DvA.get h2 (by simpa using e)
theorem DvA.getV : ∀ {ds : List D} {vs : List V} {i : Nat} {v : V}, DvA K cl Hi vs ds → vs[i]? = some v → ∃ d, ds[i]? = some d ∧ Dv K cl Hi v d
  | [], _, i, d, h, e => by cases h; simp at e
  | d :: ds, _, i, d', h, e => by
    cases h with
    | cons h1 h2 =>
      cases i with
      | zero => simp at e; subst e; exact ⟨_, rfl, h1⟩
      | succ i => simpa using DvA.getV h2 (by simpa using e)
theorem DvA.append : ∀ {ds es : List D} {vs us : List V}, DvA K cl Hi vs ds → DvA K cl Hi us es → DvA K cl Hi (vs ++ us) (ds ++ es)
  | [], _, _, _, h, g => by cases h; exact g
  | d :: ds, _, _, _, h, g => by cases h with | cons h1 h2 => exact .cons h1 (DvA.append h2 g)
theorem DvA.drop : ∀ {ds : List D} {vs : List V} (n : Nat), DvA K cl Hi vs ds → DvA K cl Hi (vs.drop n) (ds.drop n)
  | [], _, _, h => by cases h; simp; exact .nil
  | d :: ds, _, 0, h => h
  | d :: ds, _, n + 1, h => by cases h with | cons h1 h2 => exact DvA.drop n h2
theorem DvA.take : ∀ {ds : List D} {vs : List V} (n : Nat), DvA K cl Hi vs ds → DvA K cl Hi (vs.take n) (ds.take n)
  | [], _, _, h => by cases h; simp; exact .nil
  | d :: ds, _, 0, h => .nil
  | d :: ds, _, n + 1, h => by cases h with | cons h1 h2 => exact .cons h1 (DvA.take n h2)
theorem DvA.set : ∀ {ds : List D} {vs : List V} (n : Nat) {v : V} {d : D}, DvA K cl Hi vs ds → Dv K cl Hi v d → DvA K cl Hi (vs.set n v) (ds.set n d)
  | [], _, _, _, _, h, _ => by cases h; exact .nil
  | d :: ds, _, 0, _, _, h, g => by cases h with | cons h1 h2 => exact .cons g h2
  | d :: ds, _, n + 1, _, _, h, g => by cases h with | cons h1 h2 => exact .cons h1 (DvA.set n h2 g)
theorem DvA.dropLast : ∀ {ds : List D} {vs : List V}, DvA K cl Hi vs ds → DvA K cl Hi vs.dropLast ds.dropLast := fun {ds vs} h => by
  rw [List.dropLast_eq_take, List.dropLast_eq_take, h.length]
  exact h.take _
end

/-! ### where one stands -/
structure Cc where
  K : PySem.W.Frag
  cl : Nat → Addr
  Hq : Hp
  H0 : Hp
  ea : Addr
  /-- where the tables of code objects stand -/
  tb : List Addr
def SameT (tb : List Addr) (H H' : Hp) : Prop := ∀ b o, b ∉ tb → H b = some o → H' b = some o
theorem SameT.refl (tb : List Addr) (H : Hp) : SameT tb H H := fun _ _ _ h => h
theorem SameT.trans {tb : List Addr} {H H1 H2 : Hp} (a : SameT tb H H1) (b : SameT tb H1 H2) : SameT tb H H2 := fun c o n h => b c o n (a c o n h)
structure Ok (c : Cc) (Hi H : Hp) : Prop where
  le : Same Hi H
  q : Same c.Hq Hi
  h : SameT c.tb c.H0 H
  new : ∀ p o, Hi p = some o → c.Hq p = none → c.H0 p = none
  tab : ∀ p ∈ c.tb, GxR.TabG H p
  tabI : ∀ p ∈ c.tb, Hi p = none
structure Step (c : Cc) (Hi H Hi' H' : Hp) : Prop where
  hi : Same Hi Hi'
  h : SameT c.tb H H'
  fr : ∀ p o, H p = some o → Hi p = none → Hi' p = none
  ok0 : Ok c Hi H
  ok : Ok c Hi' H'
section
variable {c : Cc} {Hi H Hi' H' Hi2 H2 : Hp} {p : Addr} {o : HO}
theorem Ok.notTab (ok : Ok c Hi H) (e : H p = some o) (ho : ∀ ps, o ≠ .tbl ps) : p ∉ c.tb := fun z => by
  obtain ⟨ps, h, _⟩ := ok.tab p z
  rw [e] at h
  exact ho ps (Option.some.inj h)
theorem Ok.nTab (ok : Ok c Hi H) (e : H p = none) : p ∉ c.tb := fun z => by
  obtain ⟨ps, h, _⟩ := ok.tab p z
  rw [e] at h
  cases h
theorem Ok.free0 (ok : Ok c Hi H) (n : H p = none) : c.H0 p = none := by
  cases k : c.H0 p with
  | none => rfl
  | some u =>
    rw [ok.h p u (ok.nTab n) k] at n
    cases n
theorem Step.keep (s : Step c Hi H Hi' H') (e : H p = some o) (ho : ∀ ps, o ≠ .tbl ps) : H' p = some o := s.h p o (s.ok0.notTab e ho) e
theorem Step.lst (s : Step c Hi H Hi' H') {vs : List V} (e : H p = some (.lst vs)) : H' p = some (.lst vs) := s.keep e fun _ z => by cases z
theorem Step.free (s : Step c Hi H Hi' H') (n : H' p = none) : H p = none := by
  cases k : H p with
  | none => rfl
  | some u =>
    rw [s.h p u (s.ok.nTab n) k] at n
    cases n
theorem Step.refl (ok : Ok c Hi H) : Step c Hi H Hi H := ⟨Same.refl _, SameT.refl _ _, fun _ _ _ h => h, ok, ok⟩
theorem Step.trans (a : Step c Hi H Hi' H') (b : Step c Hi' H' Hi2 H2) : Step c Hi H Hi2 H2 :=
  ⟨a.hi.trans b.hi, a.h.trans b.h, fun p o h n => by
    by_cases hp : p ∈ c.tb
    · exact b.ok.tabI p hp
    · exact b.fr p o (a.h p o hp h) (a.fr p o h n), a.ok0, b.ok⟩
theorem same_upd {H : Hp} {p : Addr} {o : HO} (n : H p = none) : Same H (upd H p o) := fun b u e => by
  rw [upd_ne (ne_of_none e n)]
  exact e
theorem samet_upd {tb : List Addr} {H : Hp} {p : Addr} {o : HO} (n : H p = none) : SameT tb H (upd H p o) := fun b u _ e => same_upd n b u e
theorem Ok.free (ok : Ok c Hi H) (n : H p = none) : Hi p = none := ok.le.free n
theorem tab_upd {P : Addr} (h : GxR.TabG H P) (n : H p = none) : GxR.TabG (upd H p o) P := by
  obtain ⟨ps, e, t⟩ := h
  exact ⟨ps, same_upd n _ _ e, t⟩
theorem Step.new (ok : Ok c Hi H) (n : H p = none) : Step c Hi H (upd Hi p o) (upd H p o) := by
  have ni := ok.free n
  refine ⟨same_upd ni, samet_upd n, fun b u e k => ?_, ok, ?_, ok.q.trans (same_upd ni), ok.h.trans (samet_upd n), fun b u e k => ?_, fun b hb => tab_upd (ok.tab b hb) n, fun b hb => ?_⟩
  · rw [upd_ne (ne_of_none e n)]
    exact k
  · intro b u e
    by_cases hb : b = p
    · subst hb
      rw [upd_same] at e ⊢
      exact e
    · rw [upd_ne hb] at e ⊢
      exact ok.le _ _ e
  · by_cases hb : b = p
    · subst hb
      exact ok.free0 n
    · rw [upd_ne hb] at e
      exact ok.new _ _ e k
  · rw [upd_ne (show b ≠ p from fun z => ok.nTab n (by rw [← z]; exact hb))]
    exact ok.tabI b hb
/-- a new object that stays out of the frozen part -/
theorem Step.newOwn (ok : Ok c Hi H) (n : H p = none) : Step c Hi H Hi (upd H p o) :=
  ⟨Same.refl _, samet_upd n, fun _ _ _ k => k, ok, ok.le.trans (same_upd n), ok.q, ok.h.trans (samet_upd n), ok.new, fun b hb => tab_upd (ok.tab b hb) n, ok.tabI⟩
/-- an own object is frozen -/
theorem Ok.freeze (ok : Ok c Hi H) (e : H p = some o) (ho : ∀ ps, o ≠ .tbl ps) (n : Hi p = none) (n0 : c.H0 p = none) : Ok c (upd Hi p o) H := by
  refine ⟨fun b u k => ?_, ok.q.trans (same_upd n), ok.h, fun b u k j => ?_, ok.tab, fun b hb => ?_⟩
  · by_cases hb : b = p
    · subst hb
      rw [upd_same] at k
      rw [e]
      exact k
    · rw [upd_ne hb] at k
      exact ok.le _ _ k
  · by_cases hb : b = p
    · subst hb
      exact n0
    · rw [upd_ne hb] at k
      exact ok.new _ _ k j
  · rw [upd_ne (show b ≠ p from fun z => ok.notTab e ho (by rw [← z]; exact hb))]
    exact ok.tabI b hb
end

/-! ### the slots -/
inductive Sl where
  | un | val (d : D) | own (xs : List D) | err
abbrev Rho := List Sl
def SlOk (c : Cc) (Hi H : Hp) (o : Option V) : Sl → Prop
  | .un => True
  | .err => o = some (.ref c.ea)
  | .val d => ∃ v, o = some v ∧ Dv c.K c.cl Hi v d
  | .own xs => ∃ p vs, o = some (.ref p) ∧ H p = some (.lst vs) ∧ Hi p = none ∧ c.H0 p = none ∧ DvA c.K c.cl Hi vs xs
structure Sv (c : Cc) (Hi H : Hp) (σ : St) (ρ : Rho) : Prop where
  len : σ.length = ρ.length
  at' : ∀ (i : Nat) (o : Option V) (s : Sl), σ[i]? = some o → ρ[i]? = some s → SlOk c Hi H o s
  apart : ∀ (i j : Nat) (p : Addr) (xs ys : List D), ρ[i]? = some (.own xs) → ρ[j]? = some (.own ys) → σ[i]? = some (some (.ref p)) → σ[j]? = some (some (.ref p)) → i = j
section
variable {c : Cc} {Hi H Hi' H' Hi2 H2 : Hp} {p : Addr} {o : HO} {σ : St} {ρ : Rho}
theorem Sv.find (e : Sv c Hi H σ ρ) {i : Nat} {s : Sl} (h : ρ[i]? = some s) : ∃ o, σ[i]? = some o ∧ SlOk c Hi H o s := by
  have hi := (List.getElem?_eq_some_iff.mp h).1
  have hi' : i < σ.length := by rw [e.len]; exact hi
  exact ⟨σ[i], by simp [hi'], e.at' i _ s (by simp [hi']) h⟩
theorem SlOk.step {o : Option V} {s : Sl} (st : Step c Hi H Hi' H') (h : SlOk c Hi H o s) : SlOk c Hi' H' o s := by
  cases s with
  | un => trivial
  | err => exact h
  | val d => obtain ⟨v, e, h⟩ := h; exact ⟨v, e, h.up st.hi⟩
  | own xs => obtain ⟨p, vs, e, h1, h2, h3, h4⟩ := h; exact ⟨p, vs, e, st.lst h1, st.fr _ _ h1 h2, h3, h4.up st.hi⟩
theorem Sv.step (e : Sv c Hi H σ ρ) (st : Step c Hi H Hi' H') : Sv c Hi' H' σ ρ := ⟨e.len, fun i o s a b => (e.at' i o s a b).step st, e.apart⟩
theorem Sv.setVal (e : Sv c Hi H σ ρ) (i : Nat) {v : V} {d : D} (h : Dv c.K c.cl Hi v d) : Sv c Hi H (σ.set i (some v)) (ρ.set i (.val d)) := by
  refine ⟨by simp [e.len], fun j o s a b => ?_, fun j k p xs ys a b a' b' => ?_⟩
  · by_cases hj : j = i
    · subst hj
      have h1 : j < σ.length := by
        have := (List.getElem?_eq_some_iff.mp a).1
        simpa using this
      have h2 : j < ρ.length := by rw [← e.len]; exact h1
      rw [List.getElem?_set_self h1] at a
      rw [List.getElem?_set_self h2] at b
      cases a
      cases b
      exact ⟨v, rfl, h⟩
    · rw [List.getElem?_set_ne (Ne.symm hj)] at a b
      exact e.at' j o s a b
  · by_cases hj : j = i
    · subst hj
      have h2 : j < ρ.length := by
        have := (List.getElem?_eq_some_iff.mp a).1
        simpa using this
      rw [List.getElem?_set_self h2] at a
      cases a
    · by_cases hk : k = i
      · subst hk
        have h2 : k < ρ.length := by
          have := (List.getElem?_eq_some_iff.mp b).1
          simpa using this
        rw [List.getElem?_set_self h2] at b
        cases b
      · rw [List.getElem?_set_ne (Ne.symm hj)] at a a'
        rw [List.getElem?_set_ne (Ne.symm hk)] at b b'
        exact e.apart j k p xs ys a b a' b'
theorem Sv.setUn (e : Sv c Hi H σ ρ) (i : Nat) (o : Option V) : Sv c Hi H (σ.set i o) (ρ.set i .un) := by
  refine ⟨by simp [e.len], fun j o' s a b => ?_, fun j k p xs ys a b a' b' => ?_⟩
  · by_cases hj : j = i
    · subst hj
      have h1 : j < σ.length := by
        have := (List.getElem?_eq_some_iff.mp a).1
        simpa using this
      have h2 : j < ρ.length := by rw [← e.len]; exact h1
      rw [List.getElem?_set_self h2] at b
      cases b
      trivial
    · rw [List.getElem?_set_ne (Ne.symm hj)] at a b
      exact e.at' j o' s a b
  · by_cases hj : j = i
    · subst hj
      have h2 : j < ρ.length := by
        have := (List.getElem?_eq_some_iff.mp a).1
        simpa using this
      rw [List.getElem?_set_self h2] at a
      cases a
    · by_cases hk : k = i
      · subst hk
        have h2 : k < ρ.length := by
          have := (List.getElem?_eq_some_iff.mp b).1
          simpa using this
        rw [List.getElem?_set_self h2] at b
        cases b
      · rw [List.getElem?_set_ne (Ne.symm hj)] at a a'
        rw [List.getElem?_set_ne (Ne.symm hk)] at b b'
        exact e.apart j k p xs ys a b a' b'
/-- an own list comes into a slot: its place is none of the other own ones -/
theorem Sv.setOwn (e : Sv c Hi H σ ρ) (i : Nat) {vs : List V} {xs : List D} (h1 : H p = some (.lst vs)) (h2 : Hi p = none) (h3 : c.H0 p = none) (h4 : DvA c.K c.cl Hi vs xs)
    (ne : ∀ j ys, j ≠ i → ρ[j]? = some (.own ys) → σ[j]? ≠ some (some (.ref p))) : Sv c Hi H (σ.set i (some (.ref p))) (ρ.set i (.own xs)) := by
  refine ⟨by simp [e.len], fun j o s a b => ?_, fun j k q xs' ys a b a' b' => ?_⟩
  · by_cases hj : j = i
    · subst hj
      have h1' : j < σ.length := by
        have := (List.getElem?_eq_some_iff.mp a).1
        simpa using this
      have h2' : j < ρ.length := by rw [← e.len]; exact h1'
      rw [List.getElem?_set_self h1'] at a
      rw [List.getElem?_set_self h2'] at b
      cases a
      cases b
      exact ⟨p, vs, rfl, h1, h2, h3, h4⟩
    · rw [List.getElem?_set_ne (Ne.symm hj)] at a b
      exact e.at' j o s a b
  · by_cases hj : j = i
    · by_cases hk : k = i
      · rw [hj, hk]
      · subst hj
        have h1' : j < σ.length := by
          have := (List.getElem?_eq_some_iff.mp a').1
          simpa using this
        rw [List.getElem?_set_self h1'] at a'
        cases a'
        rw [List.getElem?_set_ne (Ne.symm hk)] at b b'
        exact absurd b' (ne k _ hk b)
    · by_cases hk : k = i
      · subst hk
        have h1' : k < σ.length := by
          have := (List.getElem?_eq_some_iff.mp b').1
          simpa using this
        rw [List.getElem?_set_self h1'] at b'
        cases b'
        rw [List.getElem?_set_ne (Ne.symm hj)] at a a'
        exact absurd a' (ne j _ hj a)
      · rw [List.getElem?_set_ne (Ne.symm hj)] at a a'
        rw [List.getElem?_set_ne (Ne.symm hk)] at b b'
        exact e.apart j k q xs' ys a b a' b'
/-- the own list in slot i changes -/
theorem Sv.change (e : Sv c Hi H σ ρ) {i : Nat} {xs ys : List D} {ws : List V} (hr : ρ[i]? = some (.own xs)) (hs : σ[i]? = some (some (.ref p))) (hd : DvA c.K c.cl Hi ws ys) :
    Sv c Hi (upd H p (.lst ws)) σ (ρ.set i (.own ys)) := by
  refine ⟨by simp [e.len], fun j o s a b => ?_, fun j k q xs' ys' a b a' b' => ?_⟩
  · by_cases hj : j = i
    · subst hj
      have h2' : j < ρ.length := (List.getElem?_eq_some_iff.mp hr).1
      rw [List.getElem?_set_self h2'] at b
      rw [hs] at a
      cases a
      cases b
      obtain ⟨q, vs, e1, e2, e3, e4, e5⟩ := e.at' j _ _ hs hr
      cases e1
      exact ⟨p, ws, rfl, upd_same, e3, e4, hd⟩
    · rw [List.getElem?_set_ne (Ne.symm hj)] at b
      have h := e.at' j o s a b
      cases s with
      | un => trivial
      | err => exact h
      | val d => exact h
      | own zs =>
        obtain ⟨q, vs, e1, e2, e3, e4, e5⟩ := h
        subst e1
        refine ⟨q, vs, rfl, ?_, e3, e4, e5⟩
        rw [upd_ne]
        · exact e2
        · intro z
          subst z
          exact hj (e.apart j i q zs xs b hr a hs)
  · have fj : ∀ (j : Nat) (zs : List D), (ρ.set i (.own ys))[j]? = some (.own zs) → ∃ us, ρ[j]? = some (.own us) := fun j zs h => by
      by_cases hj : j = i
      · subst hj
        exact ⟨xs, hr⟩
      · rw [List.getElem?_set_ne (Ne.symm hj)] at h
        exact ⟨_, h⟩
    obtain ⟨u1, a1⟩ := fj j _ a
    obtain ⟨u2, b1⟩ := fj k _ b
    exact e.apart j k q u1 u2 a1 b1 a' b'
theorem Ok.change (ok : Ok c Hi H) {vs ws : List V} (h1 : H p = some (.lst vs)) (h2 : Hi p = none) (h3 : c.H0 p = none) : Ok c Hi (upd H p (.lst ws)) := by
  have np := ok.notTab h1 fun _ z => by cases z
  refine ⟨fun b u k => ?_, ok.q, fun b u nb k => ?_, ok.new, fun b hb => ?_, ok.tabI⟩
  · rw [upd_ne (ne_of_none k h2)]
    exact ok.le _ _ k
  · rw [upd_ne (ne_of_none k h3)]
    exact ok.h _ _ nb k
  · obtain ⟨ps, e, t⟩ := ok.tab b hb
    exact ⟨ps, by rw [upd_ne (show b ≠ p from fun z => np (by rw [← z]; exact hb))]; exact e, t⟩
/-- the own list in slot i is frozen -/
theorem Sv.freeze (e : Sv c Hi H σ ρ) (ok : Ok c Hi H) {i : Nat} {xs : List D} (hr : ρ[i]? = some (.own xs)) :
    ∃ Hi', Same Hi Hi' ∧ Ok c Hi' H ∧ Sv c Hi' H σ (ρ.set i (.val (.lst xs))) := by
  obtain ⟨o, hs, p, vs, rfl, e2, e3, e4, e5⟩ := e.find hr
  have sm : Same Hi (upd Hi p (.lst vs)) := same_upd e3
  refine ⟨upd Hi p (.lst vs), sm, ok.freeze e2 (fun _ z => by cases z) e3 e4, by simp [e.len], fun j o s a b => ?_, fun j k q xs' ys' a b a' b' => ?_⟩
  · by_cases hj : j = i
    · subst hj
      have h2' : j < ρ.length := (List.getElem?_eq_some_iff.mp hr).1
      rw [List.getElem?_set_self h2'] at b
      rw [hs] at a
      cases a
      cases b
      exact ⟨_, rfl, .lst upd_same (e5.up sm)⟩
    · rw [List.getElem?_set_ne (Ne.symm hj)] at b
      have h := e.at' j o s a b
      cases s with
      | un => trivial
      | err => exact h
      | val d => obtain ⟨v, e1, h⟩ := h; exact ⟨v, e1, h.up sm⟩
      | own zs =>
        obtain ⟨q, us, e1, f2, f3, f4, f5⟩ := h
        subst e1
        refine ⟨q, us, rfl, f2, ?_, f4, f5.up sm⟩
        rw [upd_ne]
        · exact f3
        · intro z
          subst z
          exact hj (e.apart j i q zs xs b hr a hs)
  · have fj : ∀ (j : Nat) (zs : List D), (ρ.set i (.val (.lst xs)))[j]? = some (.own zs) → j ≠ i ∧ ρ[j]? = some (.own zs) := fun j zs h => by
      by_cases hj : j = i
      · subst hj
        have h2' : j < ρ.length := (List.getElem?_eq_some_iff.mp hr).1
        rw [List.getElem?_set_self h2'] at h
        cases h
      · rw [List.getElem?_set_ne (Ne.symm hj)] at h
        exact ⟨hj, h⟩
    exact e.apart j k q _ _ (fj j _ a).2 (fj k _ b).2 a' b'
end
end Xd
namespace Xd
open PySem L2

/-! ### judgements of expressions -/
abbrev WE := Xc → St → Hp → Hp → Prop
abbrev ME := Rho → R D
def JE (c : Cc) (W : WE) (te : TE) (f : Rho → R D) : Prop := ∀ (σ : St) (ρ : Rho) (Hi H : Hp), Ok c Hi H → Sv c Hi H σ ρ → ∀ Q : VK,
  Meet (f ρ) (fun d => ∀ v Hi' H', Step c Hi H Hi' H' → Dv c.K c.cl Hi' v d → Q v H') (fun x => ∀ Hi' H', Step c Hi H Hi' H' → W x σ Hi' H') → te σ H Q
def JT (c : Cc) (W : WE) (te : TT) (f : Rho → R Bool) : Prop := ∀ (σ : St) (ρ : Rho) (Hi H : Hp), Ok c Hi H → Sv c Hi H σ ρ → ∀ Q : Bool → Hp → Prop,
  Meet (f ρ) (fun b => ∀ Hi' H', Step c Hi H Hi' H' → Q b H') (fun x => ∀ Hi' H', Step c Hi H Hi' H' → W x σ Hi' H') → te σ H Q
def JA (c : Cc) (W : WE) (te : TA) (f : Rho → R (List D)) : Prop := ∀ (σ : St) (ρ : Rho) (Hi H : Hp), Ok c Hi H → Sv c Hi H σ ρ → ∀ Q : List V → Hp → Prop,
  Meet (f ρ) (fun ds => ∀ vs Hi' H', Step c Hi H Hi' H' → DvA c.K c.cl Hi' vs ds → Q vs H') (fun x => ∀ Hi' H', Step c Hi H Hi' H' → W x σ Hi' H') → te σ H Q
def JP (c : Cc) (W : WE) (te : TO) (f : Rho → R (Option Int)) : Prop := ∀ (σ : St) (ρ : Rho) (Hi H : Hp), Ok c Hi H → Sv c Hi H σ ρ → ∀ Q : Option Int → Hp → Prop,
  Meet (f ρ) (fun b => ∀ Hi' H', Step c Hi H Hi' H' → Q b H') (fun x => ∀ Hi' H', Step c Hi H Hi' H' → W x σ Hi' H') → te σ H Q
/-- a new list that nobody else has -/
def JL (c : Cc) (W : WE) (te : TE) (f : Rho → R (List D)) : Prop := ∀ (σ : St) (ρ : Rho) (Hi H : Hp), Ok c Hi H → Sv c Hi H σ ρ → ∀ Q : VK,
  Meet (f ρ) (fun xs => ∀ p vs Hi' H', Step c Hi H Hi' H' → H p = none → Hi' p = none → H' p = some (.lst vs) → DvA c.K c.cl Hi' vs xs → Q (.ref p) H') (fun x => ∀ Hi' H', Step c Hi H Hi' H' → W x σ Hi' H') → te σ H Q
/-- operations on values -/
def RetD (c : Cc) (Hi H : Hp) (Q : VK) (d : D) : Prop := ∀ v Hi' H', Step c Hi H Hi' H' → Dv c.K c.cl Hi' v d → Q v H'
def RetL (c : Cc) (Hi H : Hp) (Q : VK) (xs : List D) : Prop := ∀ p vs Hi' H', Step c Hi H Hi' H' → H p = none → Hi' p = none → H' p = some (.lst vs) → DvA c.K c.cl Hi' vs xs → Q (.ref p) H'
def JO (c : Cc) (r : R2) (o : D → D → Option D) : Prop := ∀ (Hi H : Hp), Ok c Hi H → ∀ (x y : V) (a b d : D) (Q : VK), Dv c.K c.cl Hi x a → Dv c.K c.cl Hi y b → o a b = some d → RetD c Hi H Q d → r x y H Q
def JOL (c : Cc) (r : R2) (o : D → D → Option (List D)) : Prop := ∀ (Hi H : Hp), Ok c Hi H → ∀ (x y : V) (a b : D) (d : List D) (Q : VK), Dv c.K c.cl Hi x a → Dv c.K c.cl Hi y b → o a b = some d → RetL c Hi H Q d → r x y H Q
def JU (c : Cc) (r : V → Hp → VK → Prop) (o : D → Option D) : Prop := ∀ (Hi H : Hp), Ok c Hi H → ∀ (x : V) (a d : D) (Q : VK), Dv c.K c.cl Hi x a → o a = some d → RetD c Hi H Q d → r x H Q
def JC (c : Cc) (r : List V → Hp → VK → Prop) (o : List D → Option D) : Prop := ∀ (Hi H : Hp), Ok c Hi H → ∀ (xs : List V) (as : List D) (d : D) (Q : VK), DvA c.K c.cl Hi xs as → o as = some d → RetD c Hi H Q d → r xs H Q
def JCL (c : Cc) (r : List V → Hp → VK → Prop) (o : List D → Option (List D)) : Prop := ∀ (Hi H : Hp), Ok c Hi H → ∀ (xs : List V) (as : List D) (d : List D) (Q : VK), DvA c.K c.cl Hi xs as → o as = some d → RetL c Hi H Q d → r xs H Q
def JM (c : Cc) (r : V → List V → Hp → VK → Prop) (o : D → List D → Option D) : Prop := ∀ (Hi H : Hp), Ok c Hi H → ∀ (x : V) (xs : List V) (a : D) (as : List D) (d : D) (Q : VK), Dv c.K c.cl Hi x a → DvA c.K c.cl Hi xs as → o a as = some d → RetD c Hi H Q d → r x xs H Q
def JML (c : Cc) (r : V → List V → Hp → VK → Prop) (o : D → List D → Option (List D)) : Prop := ∀ (Hi H : Hp), Ok c Hi H → ∀ (x : V) (xs : List V) (a : D) (as d : List D) (Q : VK), Dv c.K c.cl Hi x a → DvA c.K c.cl Hi xs as → o a as = some d → RetL c Hi H Q d → r x xs H Q
def JS3 (c : Cc) (r : V → Option Int → Option Int → Hp → VK → Prop) (o : D → Option Int → Option Int → Option D) : Prop := ∀ (Hi H : Hp), Ok c Hi H → ∀ (x : V) (i j : Option Int) (a : D) (d : D) (Q : VK), Dv c.K c.cl Hi x a → o a i j = some d → RetD c Hi H Q d → r x i j H Q
def JSL3 (c : Cc) (r : V → Option Int → Option Int → Hp → VK → Prop) (o : D → Option Int → Option Int → Option (List D)) : Prop := ∀ (Hi H : Hp), Ok c Hi H → ∀ (x : V) (i j : Option Int) (a : D) (d : List D) (Q : VK), Dv c.K c.cl Hi x a → o a i j = some d → RetL c Hi H Q d → r x i j H Q

/-! ### mirrors -/
def eVar (i : Nat) : Rho → R D := fun ρ => match ρ[i]? with
  | some (.val d) => .ok d
  | _ => .bad
def eC (d : D) : Rho → R D := fun _ => .ok d
def ro {α : Type} : Option α → R α
  | some a => .ok a
  | none => .bad
@[simp] theorem ro_some {α : Type} (a : α) : ro (some a) = .ok a := rfl
@[simp] theorem ro_none {α : Type} : ro (none : Option α) = .bad := rfl
def e1 (o : D → Option D) (f : Rho → R D) : Rho → R D := fun ρ => (f ρ).bind fun a => ro (o a)
def e2 (o : D → D → Option D) (f g : Rho → R D) : Rho → R D := fun ρ => (f ρ).bind fun a => (g ρ).bind fun b => ro (o a b)
def e2L (o : D → D → Option (List D)) (f g : Rho → R D) : Rho → R (List D) := fun ρ => (f ρ).bind fun a => (g ρ).bind fun b => ro (o a b)
def aNil : Rho → R (List D) := fun _ => .ok []
def aCons (f : Rho → R D) (g : Rho → R (List D)) : Rho → R (List D) := fun ρ => (f ρ).bind fun a => (g ρ).bind fun b => .ok (a :: b)
def eFz (f : Rho → R (List D)) : Rho → R D := fun ρ => (f ρ).bind fun xs => .ok (.lst xs)
def eTup (f : Rho → R (List D)) : Rho → R D := fun ρ => (f ρ).bind fun xs => if xs.length ≤ 100000 then .ok (.tup xs) else .bad
def lLst (f : Rho → R (List D)) : Rho → R (List D) := fun ρ => (f ρ).bind fun xs => if xs.length ≤ 100000 then .ok xs else .bad
def eCB (o : List D → Option D) (f : Rho → R (List D)) : Rho → R D := fun ρ => (f ρ).bind fun as => ro (o as)
def lCB (o : List D → Option (List D)) (f : Rho → R (List D)) : Rho → R (List D) := fun ρ => (f ρ).bind fun as => ro (o as)
def eCall (m : List D → R D) (f : Rho → R (List D)) : Rho → R D := fun ρ => (f ρ).bind m
def lCall (m : List D → R (List D)) (f : Rho → R (List D)) : Rho → R (List D) := fun ρ => (f ρ).bind m
def noX {α : Type} : R α → R α
  | .ok a => .ok a
  | _ => .bad
def eMt (o : D → List D → Option D) (f : Rho → R D) (g : Rho → R (List D)) : Rho → R D := fun ρ => (f ρ).bind fun a => (g ρ).bind fun b => ro (o a b)
def lMt (o : D → List D → Option (List D)) (f : Rho → R D) (g : Rho → R (List D)) : Rho → R (List D) := fun ρ => (f ρ).bind fun a => (g ρ).bind fun b => ro (o a b)
def asB : D → R Bool
  | .bl b => .ok b
  | _ => .bad
def asI : D → R Int
  | .int b => .ok b
  | _ => .bad
def bTest (f : Rho → R D) : Rho → R Bool := fun ρ => (f ρ).bind asB
def bNot (f : Rho → R Bool) : Rho → R Bool := fun ρ => (f ρ).bind fun b => .ok (!b)
def bAnd (f g : Rho → R Bool) : Rho → R Bool := fun ρ => (f ρ).bind fun b => if b = true then g ρ else .ok false
def bOr (f g : Rho → R Bool) : Rho → R Bool := fun ρ => (f ρ).bind fun b => if b = true then .ok true else g ρ
def bYes : Rho → R Bool := fun _ => .ok true
def eAnd (f g : Rho → R D) : Rho → R D := fun ρ => (f ρ).bind fun d => (asB d).bind fun b => if b = true then g ρ else .ok (.bl false)
def eOr (f g : Rho → R D) : Rho → R D := fun ρ => (f ρ).bind fun d => (asB d).bind fun b => if b = true then .ok (.bl true) else g ρ
def eNot (f : Rho → R D) : Rho → R D := fun ρ => (f ρ).bind fun d => (asB d).bind fun b => .ok (.bl (!b))
def eIf (t : Rho → R Bool) (f g : Rho → R D) : Rho → R D := fun ρ => (t ρ).bind fun b => if b = true then f ρ else g ρ
def pNo : Rho → R (Option Int) := fun _ => .ok none
def pSome (f : Rho → R D) : Rho → R (Option Int) := fun ρ => (f ρ).bind fun d => (asI d).bind fun i => .ok (some i)
def eSl (o : D → Option Int → Option Int → Option D) (f : Rho → R D) (l h : Rho → R (Option Int)) : Rho → R D := fun ρ => (f ρ).bind fun a => (l ρ).bind fun i => (h ρ).bind fun j => ro (o a i j)
def lSl (o : D → Option Int → Option Int → Option (List D)) (f : Rho → R D) (l h : Rho → R (Option Int)) : Rho → R (List D) := fun ρ => (f ρ).bind fun a => (l ρ).bind fun i => (h ρ).bind fun j => ro (o a i j)
def eChain (o o' : D → D → Option D) (f g h : Rho → R D) : Rho → R D := fun ρ => (f ρ).bind fun a => (g ρ).bind fun b => (ro (o a b)).bind fun z => (asB z).bind fun k => if k = true then (h ρ).bind fun d => ro (o' b d) else .ok (.bl false)

section
variable {c : Cc} {W : WE} {ta tb tc : TE} {tt tu : TT} {ts tr : TA} {f g h : Rho → R D} {fb gb : Rho → R Bool} {fs gs : Rho → R (List D)} {r r' : R2} {o o' : D → D → Option D}
theorem Sv.val {Hi H : Hp} {σ : St} {ρ : Rho} (e : Sv c Hi H σ ρ) {i : Nat} {d : D} (h : ρ[i]? = some (.val d)) : ∃ v, σ[i]? = some (some v) ∧ Dv c.K c.cl Hi v d := by
  obtain ⟨o, h1, v, rfl, h2⟩ := e.find h
  exact ⟨v, h1, h2⟩
theorem je_var (i : Nat) : JE c W (tVar i) (eVar i) := fun σ ρ Hi H ok sv Q h => by
  unfold eVar at h
  split at h
  · rename_i d hd
    obtain ⟨v, h1, h2⟩ := sv.val hd
    exact ⟨v, h1, h v Hi H (Step.refl ok) h2⟩
  · exact h.elim
theorem je_c {v : V} {d : D} (hd : ∀ Hi, Dv c.K c.cl Hi v d) : JE c W (tC v) (eC d) := fun σ ρ Hi H ok sv Q h => h v Hi H (Step.refl ok) (hd Hi)
theorem je_int {i : Int} : JE c W (tC (.int i)) (eC (.int i)) := je_c fun _ => .int _
theorem je_str {i : Str} : JE c W (tC (.str i)) (eC (.str i)) := je_c fun _ => .str _
theorem je_bl {i : Bool} : JE c W (tC (.bl i)) (eC (.bl i)) := je_c fun _ => .bl _
theorem je_non : JE c W (tC .non) (eC .non) := je_c fun _ => .non
theorem je_opq {v : V} : JE c W (tC v) (eC (.opq v)) := je_c fun _ => .opq _
/-- one evaluation behind another -/
theorem Step.exc {σ : St} {Hi H Hi' H' : Hp} {x : Xc} (st : Step c Hi H Hi' H') (h : ∀ Hi2 H2, Step c Hi H Hi2 H2 → W x σ Hi2 H2) : ∀ Hi2 H2, Step c Hi' H' Hi2 H2 → W x σ Hi2 H2 := fun Hi2 H2 s2 => h Hi2 H2 (st.trans s2)
theorem meet_step {α : Type} {m : R α} {σ : St} {Hi H Hi' H' : Hp} {p p' : α → Prop} (st : Step c Hi H Hi' H') (h : Meet m p fun x => ∀ Hi2 H2, Step c Hi H Hi2 H2 → W x σ Hi2 H2) (hp : ∀ a, p a → p' a) :
    Meet m p' fun x => ∀ Hi2 H2, Step c Hi' H' Hi2 H2 → W x σ Hi2 H2 := h.imp hp fun x k => st.exc k
theorem ro_meet {α : Type} {m : Option α} {p : α → Prop} {q : Xc → Prop} {G : Prop} (h : Meet (ro m) p q) (k : ∀ a, m = some a → p a → G) : G := by
  cases m with
  | some a => exact k a rfl h
  | none => exact h.elim
theorem je_op (ho : JO c r o) (ha : JE c W ta f) (hb : JE c W tb g) : JE c W (tOp r ta tb) (e2 o f g) := fun σ ρ Hi H ok sv Q h => by
  refine ha σ ρ Hi H ok sv _ (h.bind.imp (fun a h v Hi1 H1 s1 d1 => ?_) fun x k => k)
  refine hb σ ρ Hi1 H1 s1.ok (sv.step s1) _ (meet_step s1 h.bind fun b h v2 Hi2 H2 s2 d2 => ?_)
  exact ro_meet h fun d e q => ho Hi2 H2 s2.ok v v2 a b d Q (d1.up s2.hi) d2 e fun v3 Hi3 H3 s3 d3 => q v3 Hi3 H3 ((s1.trans s2).trans s3) d3
theorem je_exact (ha : JE c W ta f) (e : f = g) : JE c W ta g := e ▸ ha
theorem RetD.to {Hi H Hi' H' : Hp} {Q : VK} {d : D} (h : RetD c Hi H Q d) (s : Step c Hi H Hi' H') : RetD c Hi' H' Q d := fun v Hi2 H2 s2 e => h v Hi2 H2 (s.trans s2) e
theorem RetL.to {Hi H Hi' H' : Hp} {Q : VK} {d : List D} (h : RetL c Hi H Q d) (s : Step c Hi H Hi' H') : RetL c Hi' H' Q d := fun p v Hi2 H2 s2 n n2 e e2 => h p v Hi2 H2 (s.trans s2) (s.free n) n2 e e2
theorem jl_op {o : D → D → Option (List D)} (ho : JOL c r o) (ha : JE c W ta f) (hb : JE c W tb g) : JL c W (tOp r ta tb) (e2L o f g) := fun σ ρ Hi H ok sv Q h => by
  refine ha σ ρ Hi H ok sv _ (h.bind.imp (fun a h v Hi1 H1 s1 d1 => ?_) fun x k => k)
  refine hb σ ρ Hi1 H1 s1.ok (sv.step s1) _ (meet_step s1 h.bind fun b h v2 Hi2 H2 s2 d2 => ?_)
  exact ro_meet h fun d e q => ho Hi2 H2 s2.ok v v2 a b d Q (d1.up s2.hi) d2 e (RetL.to (fun p v Hi2 H2 s2 n n2 e e2 => q p v Hi2 H2 s2 n n2 e e2) (s1.trans s2))
theorem je_un {r : V → Hp → VK → Prop} {o : D → Option D} (ho : JU c r o) (ha : JE c W ta f) : JE c W (tUn r ta) (e1 o f) := fun σ ρ Hi H ok sv Q h => by
  refine ha σ ρ Hi H ok sv _ (h.bind.imp (fun a h v Hi1 H1 s1 d1 => ?_) fun x k => k)
  exact ro_meet h fun d e q => ho Hi1 H1 s1.ok v a d Q d1 e (RetD.to q s1)
/-- a new list, frozen -/
theorem Step.frozen {Hi H Hi' H' : Hp} {p : Addr} {o : HO} (ok : Ok c Hi H) (s : Step c Hi H Hi' H') (n : H p = none) (n' : Hi' p = none) (e : H' p = some o) (ho : ∀ ps, o ≠ .tbl ps := by intro _ z; cases z) : Step c Hi H (upd Hi' p o) H' := by
  refine ⟨s.hi.trans (same_upd n'), s.h, fun q u e1 e2 => ?_, ok, s.ok.freeze e ho n' (ok.free0 n)⟩
  rw [upd_ne (ne_of_none e1 n)]
  exact s.fr q u e1 e2
theorem je_fz (h : JL c W ta fs) : JE c W ta (eFz fs) := fun σ ρ Hi H ok sv Q hq => by
  refine h σ ρ Hi H ok sv Q (hq.bind.imp (fun xs k p vs Hi' H' s n n' e dv => ?_) fun x k => k)
  exact k _ _ _ (Step.frozen ok s n n' e) (.lst upd_same (dv.up (same_upd n')))
theorem ja_nil : JA c W tNil aNil := fun σ ρ Hi H ok sv Q h => h [] Hi H (Step.refl ok) .nil
theorem ja_cons (ha : JE c W ta f) (hr : JA c W tr fs) : JA c W (tCons ta tr) (aCons f fs) := fun σ ρ Hi H ok sv Q h => by
  refine ha σ ρ Hi H ok sv _ (h.bind.imp (fun a h v Hi1 H1 s1 d1 => ?_) fun x k => k)
  refine hr σ ρ Hi1 H1 s1.ok (sv.step s1) _ (meet_step s1 h.bind fun b h vs Hi2 H2 s2 d2 => ?_)
  exact h (v :: vs) Hi2 H2 (s1.trans s2) (.cons (d1.up s2.hi) d2)
theorem lim_le {n : Nat} (h : n ≤ 100000) : n ≤ sizeLine := Nat.le_trans h (by decide)
theorem lim_lt {n : Nat} (h : n < 100000) : n < sizeLine := Nat.lt_of_lt_of_le h (by decide)
theorem meet_if {α : Type} {P : Prop} [Decidable P] {a : R α} {p : α → Prop} {q : Xc → Prop} (h : Meet (if P then a else .bad) p q) : P ∧ Meet a p q := by
  by_cases hp : P
  · rw [if_pos hp] at h; exact ⟨hp, h⟩
  · rw [if_neg hp] at h; exact h.elim
theorem RetD.tup {Hi H : Hp} {Q : VK} {vs : List V} {xs : List D} (q : RetD c Hi H Q (.tup xs)) (ok : Ok c Hi H) (h : DvA c.K c.cl Hi vs xs) (p : Addr) (np : H p = none) : Q (.ref p) (upd H p (.tup vs)) := by
  have s := Step.new (o := .tup vs) ok np
  exact q _ _ _ s (.tup (.inl (.inl upd_same)) (h.up s.hi))
theorem RetL.lst {Hi H : Hp} {Q : VK} {vs : List V} {xs : List D} (q : RetL c Hi H Q xs) (ok : Ok c Hi H) (h : DvA c.K c.cl Hi vs xs) (p : Addr) (np : H p = none) : Q (.ref p) (upd H p (.lst vs)) :=
  q p _ _ _ (Step.newOwn ok np) np (ok.free np) upd_same h
theorem RetD.lst {Hi H : Hp} {Q : VK} {vs : List V} {xs : List D} (q : RetD c Hi H Q (.lst xs)) (ok : Ok c Hi H) (h : DvA c.K c.cl Hi vs xs) (p : Addr) (np : H p = none) : Q (.ref p) (upd H p (.lst vs)) := by
  have s := Step.new (o := .lst vs) ok np
  exact q _ _ _ s (.lst upd_same (h.up s.hi))
theorem RetD.here {Hi H : Hp} {Q : VK} {v : V} {d : D} (q : RetD c Hi H Q d) (ok : Ok c Hi H) (h : Dv c.K c.cl Hi v d) : Q v H := q v Hi H (Step.refl ok) h
/-- what gives a new list gives it frozen too -/
theorem RetL.of {Hi H : Hp} {Q : VK} {xs : List D} (q : RetD c Hi H Q (.lst xs)) (ok : Ok c Hi H) : RetL c Hi H Q xs := fun p vs Hi' H' s n n' e dv => q _ _ _ (Step.frozen ok s n n' e) (.lst upd_same (dv.up (same_upd n')))
theorem je_tup (ha : JA c W ts fs) : JE c W (tTup ts) (eTup fs) := fun σ ρ Hi H ok sv Q h => by
  refine ha σ ρ Hi H ok sv _ (h.bind.imp (fun xs h vs Hi1 H1 s1 d1 => ?_) fun x k => k)
  obtain ⟨hl, h⟩ := meet_if h
  refine ⟨lim_le (by rw [d1.length]; exact hl), fun p np => ?_⟩
  have s2 := Step.new (o := .tup vs) s1.ok np
  exact h _ _ _ (s1.trans s2) (.tup (.inl (.inl upd_same)) (d1.up s2.hi))
theorem jl_lst (ha : JA c W ts fs) : JL c W (tLst ts) (lLst fs) := fun σ ρ Hi H ok sv Q h => by
  refine ha σ ρ Hi H ok sv _ (h.bind.imp (fun xs h vs Hi1 H1 s1 d1 => ?_) fun x k => k)
  obtain ⟨hl, h⟩ := meet_if h
  refine ⟨lim_le (by rw [d1.length]; exact hl), fun p np => ?_⟩
  have s2 := Step.newOwn (o := .lst vs) s1.ok np
  exact h p vs _ _ (s1.trans s2) (s1.free np) (s1.ok.free np) upd_same d1
/-! ### calls of what is built in -/
theorem je_cb {rr : List V → Hp → VK → Prop} {o : List D → Option D} (ho : JC c rr o) (ha : JA c W ts fs) : JE c W (tCB rr ts) (eCB o fs) := fun σ ρ Hi H ok sv Q h => by
  refine ha σ ρ Hi H ok sv _ (h.bind.imp (fun xs h vs Hi1 H1 s1 d1 => ?_) fun x k => k)
  exact ro_meet h fun d e q => ho Hi1 H1 s1.ok vs xs d Q d1 e (RetD.to q s1)
theorem jl_cb {rr : List V → Hp → VK → Prop} {o : List D → Option (List D)} (ho : JCL c rr o) (ha : JA c W ts fs) : JL c W (tCB rr ts) (lCB o fs) := fun σ ρ Hi H ok sv Q h => by
  refine ha σ ρ Hi H ok sv _ (h.bind.imp (fun xs h vs Hi1 H1 s1 d1 => ?_) fun x k => k)
  exact ro_meet h fun d e q => ho Hi1 H1 s1.ok vs xs d Q d1 e (RetL.to (fun p v Hi2 H2 s2 n n2 e e2 => q p v Hi2 H2 s2 n n2 e e2) s1)
/-! ### tests -/
theorem asB_ok {d : D} {p : Bool → Prop} {q : Xc → Prop} {G : Prop} (h : Meet (asB d) p q) (k : ∀ b, d = .bl b → p b → G) : G := by
  cases d <;> first | exact k _ rfl h | exact h.elim
theorem jt_test (ha : JE c W ta f) : JT c W (tTest ta) (bTest f) := fun σ ρ Hi H ok sv Q h => by
  refine ha σ ρ Hi H ok sv _ (h.bind.imp (fun a h v Hi1 H1 s1 d1 => ?_) fun x k => k)
  refine asB_ok h fun b e q => ?_
  subst e
  cases d1
  exact ⟨b, rfl, q _ _ s1⟩
theorem jt_B (ha : JE c W ta f) : JT c W (tB ta) (bTest f) := fun σ ρ Hi H ok sv Q h => by
  refine ha σ ρ Hi H ok sv _ (h.bind.imp (fun a h v Hi1 H1 s1 d1 => ?_) fun x k => k)
  refine asB_ok h fun b e q => ?_
  subst e
  cases d1
  exact ⟨b, rfl, q _ _ s1⟩
theorem jt_not (ha : JT c W tt fb) : JT c W (tNot tt) (bNot fb) := fun σ ρ Hi H ok sv Q h =>
  ha σ ρ Hi H ok sv _ (h.bind.imp (fun a h Hi1 H1 s1 => h Hi1 H1 s1) fun x k => k)
theorem jt_and (ha : JT c W tt fb) (hb : JT c W tu gb) : JT c W (tAnd tt tu) (bAnd fb gb) := fun σ ρ Hi H ok sv Q h => by
  refine ha σ ρ Hi H ok sv _ (h.bind.imp (fun b h Hi1 H1 s1 => ?_) fun x k => k)
  cases b with
  | true => exact hb σ ρ Hi1 H1 s1.ok (sv.step s1) _ (meet_step s1 h fun b h Hi2 H2 s2 => h Hi2 H2 (s1.trans s2))
  | false => exact h Hi1 H1 s1
theorem jt_or (ha : JT c W tt fb) (hb : JT c W tu gb) : JT c W (tOr tt tu) (bOr fb gb) := fun σ ρ Hi H ok sv Q h => by
  refine ha σ ρ Hi H ok sv _ (h.bind.imp (fun b h Hi1 H1 s1 => ?_) fun x k => k)
  cases b with
  | false => exact hb σ ρ Hi1 H1 s1.ok (sv.step s1) _ (meet_step s1 h fun b h Hi2 H2 s2 => h Hi2 H2 (s1.trans s2))
  | true => exact h Hi1 H1 s1
theorem jt_yes : JT c W tYes bYes := fun σ ρ Hi H ok sv Q h => h Hi H (Step.refl ok)
theorem je_and (ha : JE c W ta f) (hb : JE c W tb g) : JE c W (tAndV ta tb) (eAnd f g) := fun σ ρ Hi H ok sv Q h => by
  refine ha σ ρ Hi H ok sv _ (h.bind.imp (fun a h v Hi1 H1 s1 d1 => ?_) fun x k => k)
  refine asB_ok h.bind fun b e q => ?_
  subst e
  cases d1
  refine ⟨b, rfl, ?_⟩
  cases b with
  | true => exact hb σ ρ Hi1 H1 s1.ok (sv.step s1) _ (meet_step s1 q fun b h v2 Hi2 H2 s2 => h v2 Hi2 H2 (s1.trans s2))
  | false => exact q _ _ _ s1 (.bl false)
theorem je_or (ha : JE c W ta f) (hb : JE c W tb g) : JE c W (tOrV ta tb) (eOr f g) := fun σ ρ Hi H ok sv Q h => by
  refine ha σ ρ Hi H ok sv _ (h.bind.imp (fun a h v Hi1 H1 s1 d1 => ?_) fun x k => k)
  refine asB_ok h.bind fun b e q => ?_
  subst e
  cases d1
  refine ⟨b, rfl, ?_⟩
  cases b with
  | false => exact hb σ ρ Hi1 H1 s1.ok (sv.step s1) _ (meet_step s1 q fun b h v2 Hi2 H2 s2 => h v2 Hi2 H2 (s1.trans s2))
  | true => exact q _ _ _ s1 (.bl true)
theorem je_not (ha : JE c W ta f) : JE c W (tNotV ta) (eNot f) := fun σ ρ Hi H ok sv Q h => by
  refine ha σ ρ Hi H ok sv _ (h.bind.imp (fun a h v Hi1 H1 s1 d1 => ?_) fun x k => k)
  refine asB_ok h.bind fun b e q => ?_
  subst e
  cases d1
  exact ⟨b, rfl, q _ _ _ s1 (.bl _)⟩
theorem je_if (ht : JT c W tt fb) (ha : JE c W ta f) (hb : JE c W tb g) : JE c W (tIf tt ta tb) (eIf fb f g) := fun σ ρ Hi H ok sv Q h => by
  refine ht σ ρ Hi H ok sv _ (h.bind.imp (fun b h Hi1 H1 s1 => ?_) fun x k => k)
  cases b with
  | true => exact ha σ ρ Hi1 H1 s1.ok (sv.step s1) _ (meet_step s1 h fun b h v2 Hi2 H2 s2 => h v2 Hi2 H2 (s1.trans s2))
  | false => exact hb σ ρ Hi1 H1 s1.ok (sv.step s1) _ (meet_step s1 h fun b h v2 Hi2 H2 s2 => h v2 Hi2 H2 (s1.trans s2))
theorem je_chain (ho : JO c r o) (ho' : JO c r' o') (ha : JE c W ta f) (hb : JE c W tb g) (hc : JE c W tc h) : JE c W (tChain r r' ta tb tc) (eChain o o' f g h) := fun σ ρ Hi H ok sv Q hq => by
  refine ha σ ρ Hi H ok sv _ (hq.bind.imp (fun a hq v Hi1 H1 s1 d1 => ?_) fun x k => k)
  refine hb σ ρ Hi1 H1 s1.ok (sv.step s1) _ (meet_step s1 hq.bind fun b hq v2 Hi2 H2 s2 d2 => ?_)
  refine ro_meet hq.bind fun z ez q => ho Hi2 H2 s2.ok v v2 a b z _ (d1.up s2.hi) d2 ez fun v3 Hi3 H3 s3 d3 => ?_
  refine asB_ok q.bind fun k e q => ?_
  subst e
  cases d3
  refine ⟨k, rfl, ?_⟩
  have s123 := (s1.trans s2).trans s3
  cases k with
  | true =>
    refine hc σ ρ Hi3 H3 s3.ok (sv.step s123) _ (meet_step s123 (Meet.bind q) fun d h v4 Hi4 H4 s4 d4 => ?_)
    exact ro_meet h fun z2 ez2 q => ho' Hi4 H4 s4.ok v2 v4 b d z2 Q (d2.up (s3.hi.trans s4.hi)) d4 ez2 (RetD.to q (s123.trans s4))
  | false => exact q _ _ _ s123 (.bl false)
/-! ### slices -/
theorem jp_no : JP c W tNoPart pNo := fun σ ρ Hi H ok sv Q h => h Hi H (Step.refl ok)
theorem jp_some (ha : JE c W ta f) : JP c W (tPart ta) (pSome f) := fun σ ρ Hi H ok sv Q h => by
  refine ha σ ρ Hi H ok sv _ (h.bind.imp (fun a h v Hi1 H1 s1 d1 => ?_) fun x k => k)
  cases a <;> first | exact h.elim | (cases d1; exact ⟨_, rfl, h _ _ s1⟩)
theorem je_sl {rr : V → Option Int → Option Int → Hp → VK → Prop} {oo : D → Option Int → Option Int → Option D} {tl th : TO} {pl ph : Rho → R (Option Int)} (ho : JS3 c rr oo) (ha : JE c W ta f) (hl : JP c W tl pl) (hh : JP c W th ph) :
    JE c W (tSl rr ta tl th) (eSl oo f pl ph) := fun σ ρ Hi H ok sv Q h => by
  refine ha σ ρ Hi H ok sv _ (h.bind.imp (fun a h v Hi1 H1 s1 d1 => ?_) fun x k => k)
  refine hl σ ρ Hi1 H1 s1.ok (sv.step s1) _ (meet_step s1 h.bind fun i h Hi2 H2 s2 => ?_)
  have s12 := s1.trans s2
  refine hh σ ρ Hi2 H2 s2.ok (sv.step s12) _ (meet_step s12 h.bind fun j h Hi3 H3 s3 => ?_)
  exact ro_meet h fun d e q => ho Hi3 H3 s3.ok v i j a d Q (d1.up (s2.hi.trans s3.hi)) e (RetD.to q (s12.trans s3))
theorem jl_sl {rr : V → Option Int → Option Int → Hp → VK → Prop} {oo : D → Option Int → Option Int → Option (List D)} {tl th : TO} {pl ph : Rho → R (Option Int)} (ho : JSL3 c rr oo) (ha : JE c W ta f) (hl : JP c W tl pl) (hh : JP c W th ph) :
    JL c W (tSl rr ta tl th) (lSl oo f pl ph) := fun σ ρ Hi H ok sv Q h => by
  refine ha σ ρ Hi H ok sv _ (h.bind.imp (fun a h v Hi1 H1 s1 d1 => ?_) fun x k => k)
  refine hl σ ρ Hi1 H1 s1.ok (sv.step s1) _ (meet_step s1 h.bind fun i h Hi2 H2 s2 => ?_)
  have s12 := s1.trans s2
  refine hh σ ρ Hi2 H2 s2.ok (sv.step s12) _ (meet_step s12 h.bind fun j h Hi3 H3 s3 => ?_)
  exact ro_meet h fun d e q => ho Hi3 H3 s3.ok v i j a d Q (d1.up (s2.hi.trans s3.hi)) e (RetL.to (fun p v Hi2 H2 s2 n n2 e e2 => q p v Hi2 H2 s2 n n2 e e2) (s12.trans s3))
end
end Xd
namespace Xd
open PySem L2 Xg

/-! ### one of several rules -/
theorem OpR.or {X : Cx} {f : Value → Value → Sem Value} {r1 r2 : R2} (h1 : OpR X f r1) (h2 : OpR X f r2) : OpR X f (fun x y H Q => r1 x y H Q ∨ r2 x y H Q) := fun pins s σ H x y v u Q I rx ry h =>
  h.elim (h1 pins s σ H x y v u Q I rx ry) (h2 pins s σ H x y v u Q I rx ry)
theorem CallR.or {X : Cx} {f : Value} {r1 r2 : List V → Hp → VK → Prop} (h1 : CallR X f r1) (h2 : CallR X f r2) : CallR X f (fun xs H Q => r1 xs H Q ∨ r2 xs H Q) := fun pins s σ H xs us Q I rv h =>
  h.elim (h1 pins s σ H xs us Q I rv) (h2 pins s σ H xs us Q I rv)
theorem SlR.or {X : Cx} {r1 r2 : V → Option Int → Option Int → Hp → VK → Prop} (h1 : SlR X r1) (h2 : SlR X r2) : SlR X (fun x i j H Q => r1 x i j H Q ∨ r2 x i j H Q) := fun pins s σ H x v vl vu lo hi sl Q I rx hs pl pu h =>
  h.elim (h1 pins s σ H x v vl vu lo hi sl Q I rx hs pl pu) (h2 pins s σ H x v vl vu lo hi sl Q I rx hs pl pu)
def rOrStr : R2 := fun x y H Q => ∃ i j, x = .str i ∧ y = .str j ∧ i.length + j.length ≤ sizeLine ∧ Q (.str (i ++ j)) H
def rAddX (K : PySem.W.Frag) : R2 := fun x y H Q => rI0 (fun i j => .int (i + j)) x y H Q ∨ (rOrStr x y H Q ∨ (rCat x y H Q ∨ rCatA K x y H Q))
theorem op_addX {X : Cx} : OpR X (binaryOp .Add) (rAddX X.K) := OpR.or op_add (OpR.or op_add_str (OpR.or op_cat op_catA))
def rMulX (K : PySem.W.Frag) : R2 := fun x y H Q => rI CMul (fun i j => .int (i * j)) x y H Q ∨ (rRep x y H Q ∨ rRepT K x y H Q)
theorem op_mulX {X : Cx} : OpR X (binaryOp .Mult) (rMulX X.K) := OpR.or op_mul (OpR.or op_rep op_repT)

/-! ### small values -/
def sv : D → Option V
  | .non => some .non
  | .bl b => some (.bl b)
  | .int i => some (.int i)
  | .str s => some (.str s)
  | _ => none
section
variable {c : Cc} {K : PySem.W.Frag} {cl : Nat → Addr} {Hi : Hp}
theorem Dv.small {v x : V} {d : D} (h : Dv K cl Hi v d) (e : sv d = some x) : v = x := by
  cases h <;> simp [sv] at e <;> exact e
theorem Dv.ofSmall {x : V} {d : D} (e : sv d = some x) : Dv K cl Hi x d := by
  cases d <;> simp [sv] at e <;> subst e
  · exact .non
  · exact .bl _
  · exact .int _
  · exact .str _
def svs : List D → Option (List V)
  | [] => some []
  | d :: ds => match sv d, svs ds with
    | some x, some xs => some (x :: xs)
    | _, _ => none
theorem DvA.small : ∀ {ds : List D} {vs xs : List V}, DvA K cl Hi vs ds → svs ds = some xs → vs = xs
  | [], _, _, h, e => by cases h; simp [svs] at e; exact e.symm
  | d :: ds, _, xs, h, e => by
    cases h with
    | cons h1 h2 =>
      simp only [svs] at e
      split at e
      · rename_i x ys e1 e2
        cases e
        rw [h1.small e1, DvA.small h2 e2]
      · cases e
theorem svs_flat : ∀ {ds : List D} {xs : List V}, svs ds = some xs → xs.all flatV = true
  | [], xs, e => by simp [svs] at e; subst e; rfl
  | d :: ds, xs, e => by
    simp only [svs] at e
    split at e
    · rename_i x ys e1 e2
      cases e
      rw [List.all_cons, svs_flat e2, Bool.and_true]
      cases d <;> simp [sv] at e1 <;> subst e1 <;> rfl
    · cases e
theorem sv_flat {d : D} {x : V} (e : sv d = some x) : flatV x = true := by
  cases d <;> simp [sv] at e <;> subst e <;> rfl
end

/-! ### arithmetic -/
def oAdd (a b : D) : Option D := match a, b with
  | .int i, .int j => some (.int (i + j))
  | .str i, .str j => if i.length + j.length ≤ 100000 then some (.str (i ++ j)) else none
  | .lst xs, .lst ys => if xs.length + ys.length ≤ 100000 then some (.lst (xs ++ ys)) else none
  | .tup xs, .tup ys => if xs.length + ys.length ≤ 100000 then some (.tup (xs ++ ys)) else none
  | _, _ => none
def oAddL (a b : D) : Option (List D) := match a, b with
  | .lst xs, .lst ys => if xs.length + ys.length ≤ 100000 then some (xs ++ ys) else none
  | _, _ => none
def oMulL (a b : D) : Option (List D) := match a, b with
  | .lst xs, .int k => if 0 ≤ k ∧ k ≤ 100000 ∧ xs.length * k.toNat ≤ 100000 then some (List.replicate k.toNat xs).flatten else none
  | _, _ => none
def oMul (a b : D) : Option D := match a, b with
  | .int i, .int j => if (-(2 ^ 64) < i ∧ i < 2 ^ 64) ∨ (-(2 ^ 64) < j ∧ j < 2 ^ 64) then some (.int (i * j)) else none
  | .tup xs, .int k => if xs ≠ [] ∧ 2 ≤ k ∧ k ≤ 1000 ∧ xs.length ≤ 1000 then some (.tup (List.replicate k.toNat xs).flatten) else none
  | .lst xs, .int k => if 0 ≤ k ∧ k ≤ 100000 ∧ xs.length * k.toNat ≤ 100000 then some (.lst (List.replicate k.toNat xs).flatten) else none
  | _, _ => none
def oI2 (p : Int → Int → Bool) (g : Int → Int → D) (a b : D) : Option D := match a, b with
  | .int i, .int j => if p i j = true then some (g i j) else none
  | _, _ => none
def oSub : D → D → Option D := oI2 (fun _ _ => true) fun i j => .int (i - j)
def oFdiv : D → D → Option D := oI2 (fun _ j => decide (0 < j ∧ j < 1073741824)) fun i j => .int (i / j)
def oMod : D → D → Option D := oI2 (fun _ j => decide (0 < j)) fun i j => .int (i % j)
def oLt : D → D → Option D := oI2 (fun _ _ => true) fun i j => .bl (decide (i < j))
def oLe : D → D → Option D := oI2 (fun _ _ => true) fun i j => .bl (decide (i ≤ j))
def oGt : D → D → Option D := oI2 (fun _ _ => true) fun i j => .bl (decide (j < i))
def oGe : D → D → Option D := oI2 (fun _ _ => true) fun i j => .bl (decide (j ≤ i))
def uNeg (a : D) : Option D := match a with
  | .int i => some (.int (-i))
  | _ => none
section
variable {c : Cc}
theorem oI2_inv {p : Int → Int → Bool} {g : Int → Int → D} {a b d : D} (h : oI2 p g a b = some d) : ∃ i j, a = .int i ∧ b = .int j ∧ p i j = true ∧ d = g i j := by
  unfold oI2 at h
  split at h
  · rename_i i j
    by_cases hp : p i j = true
    · rw [if_pos hp] at h; cases h; exact ⟨i, j, rfl, rfl, hp, rfl⟩
    · rw [if_neg hp] at h; cases h
  · cases h
theorem jo_I0 {g : Int → Int → V} {g' : Int → Int → D} (hg : ∀ i j, sv (g' i j) = some (g i j)) : JO c (rI0 g) (oI2 (fun _ _ => true) g') := fun Hi H ok x y a b d Q hx hy e q => by
  obtain ⟨i, j, rfl, rfl, _, rfl⟩ := oI2_inv e
  cases hx
  cases hy
  exact ⟨i, j, rfl, rfl, q _ _ _ (Step.refl ok) (Dv.ofSmall (hg i j))⟩
theorem jo_I {C : Int → Int → Prop} {p : Int → Int → Bool} {g : Int → Int → V} {g' : Int → Int → D} (hp : ∀ i j, p i j = true → C i j) (hg : ∀ i j, sv (g' i j) = some (g i j)) : JO c (rI C g) (oI2 p g') := fun Hi H ok x y a b d Q hx hy e q => by
  obtain ⟨i, j, rfl, rfl, h, rfl⟩ := oI2_inv e
  cases hx
  cases hy
  exact ⟨i, j, rfl, rfl, hp i j h, q _ _ _ (Step.refl ok) (Dv.ofSmall (hg i j))⟩
theorem jo_sub : JO c (rI0 fun i j => .int (i - j)) oSub := jo_I0 fun _ _ => rfl
theorem jo_fdiv : JO c (rI CDiv fun i j => .int (i / j)) oFdiv := jo_I (fun i j h => (by have h' : 0 < j ∧ j < 1073741824 := of_decide_eq_true h; exact h')) fun _ _ => rfl
theorem jo_mod : JO c (rI (fun _ j => 0 < j) fun i j => .int (i % j)) oMod := jo_I (fun i j h => of_decide_eq_true h) fun _ _ => rfl
theorem jo_lt : JO c (rI0 fun i j => .bl (decide (i < j))) oLt := jo_I0 fun _ _ => rfl
theorem jo_le : JO c (rI0 fun i j => .bl (decide (i ≤ j))) oLe := jo_I0 fun _ _ => rfl
theorem jo_gt : JO c (rI0 fun i j => .bl (decide (j < i))) oGt := jo_I0 fun _ _ => rfl
theorem jo_ge : JO c (rI0 fun i j => .bl (decide (j ≤ i))) oGe := jo_I0 fun _ _ => rfl
theorem ju_neg : JU c (rU fun i => .int (-i)) uNeg := fun Hi H ok x a d Q hx e q => by
  cases a <;> simp [uNeg] at e
  subst e
  cases hx
  exact ⟨_, rfl, q _ _ _ (Step.refl ok) (.int _)⟩
theorem if_some {α : Type} {P : Prop} [Decidable P] {a b : α} (h : (if P then some a else none) = some b) : P ∧ a = b := by
  by_cases hp : P
  · rw [if_pos hp] at h; exact ⟨hp, Option.some.inj h⟩
  · rw [if_neg hp] at h; cases h
theorem DvA.nil_iff {K : PySem.W.Frag} {cl : Nat → Addr} {Hi : Hp} {vs : List V} {ds : List D} (h : DvA K cl Hi vs ds) : vs = [] ↔ ds = [] := by
  cases h with
  | nil => simp
  | cons _ _ => simp
theorem jol_add : JOL c (rAddX c.K) oAddL := fun Hi H ok x y a b d Q hx hy e q => by
  unfold oAddL at e
  split at e
  · rename_i xs ys
    obtain ⟨hl, rfl⟩ := if_some e
    cases hx with
    | lst h1 h2 =>
      cases hy with
      | lst k1 k2 =>
        refine .inr (.inr (.inl ⟨_, _, _, _, rfl, rfl, ok.le _ _ h1, ok.le _ _ k1, lim_le (by rw [h2.length, k2.length]; exact hl), fun p np => ?_⟩))
        exact q p _ _ _ (Step.newOwn ok np) np (ok.free np) upd_same (h2.append k2)
  · cases e
theorem jo_add : JO c (rAddX c.K) oAdd := fun Hi H ok x y a b d Q hx hy e q => by
  unfold oAdd at e
  split at e
  · rename_i i j
    cases e
    cases hx
    cases hy
    exact .inl ⟨i, j, rfl, rfl, q _ _ _ (Step.refl ok) (.int _)⟩
  · rename_i i j
    obtain ⟨hl, rfl⟩ := if_some e
    cases hx
    cases hy
    exact .inr (.inl ⟨i, j, rfl, rfl, lim_le hl, q _ _ _ (Step.refl ok) (.str _)⟩)
  · rename_i xs ys
    obtain ⟨hl, rfl⟩ := if_some e
    refine jol_add Hi H ok x y (.lst xs) (.lst ys) (xs ++ ys) Q hx hy (by unfold oAddL; simp only; rw [if_pos hl]) fun p vs Hi' H' s n n' e dv => ?_
    exact q _ _ _ (Step.frozen ok s n n' e) (.lst upd_same (dv.up (same_upd n')))
  · rename_i xs ys
    obtain ⟨hl, rfl⟩ := if_some e
    cases hx with
    | tup h1 h2 =>
      cases hy with
      | tup k1 k2 =>
        refine .inr (.inr (.inr ⟨_, _, _, _, rfl, rfl, same_t ok.le h1, same_t ok.le k1, lim_le (by rw [h2.length, k2.length]; exact hl), fun z => ?_, fun _ z => ?_, fun _ _ p np => ?_⟩))
        · have e2 := h2.nil_iff.mp z
          subst e2
          exact q _ _ _ (Step.refl ok) (.tup k1 k2)
        · have e2 := k2.nil_iff.mp z
          subst e2
          rw [List.append_nil] at q
          exact q _ _ _ (Step.refl ok) (.tup h1 h2)
        · exact q.tup ok (h2.append k2) p np
  · cases e
theorem DvA.rep {K : PySem.W.Frag} {cl : Nat → Addr} {Hi : Hp} {vs : List V} {ds : List D} (h : DvA K cl Hi vs ds) : ∀ n, DvA K cl Hi (List.replicate n vs).flatten (List.replicate n ds).flatten
  | 0 => .nil
  | n + 1 => by
    rw [List.replicate_succ, List.replicate_succ, List.flatten_cons, List.flatten_cons]
    exact h.append (DvA.rep h n)
theorem jol_mul : JOL c (rMulX c.K) oMulL := fun Hi H ok x y a b d Q hx hy e q => by
  unfold oMulL at e
  split at e
  · rename_i xs k
    obtain ⟨⟨h0, h1, hl⟩, rfl⟩ := if_some e
    cases hy
    cases hx with
    | lst h1' h2 =>
      refine .inr (.inl ⟨_, _, _, rfl, rfl, ok.le _ _ h1', by omega, by omega, lim_le (by rw [h2.length]; exact hl), fun p np => ?_⟩)
      exact q p _ _ _ (Step.newOwn ok np) np (ok.free np) upd_same (h2.rep _)
  · cases e
theorem jo_mul : JO c (rMulX c.K) oMul := fun Hi H ok x y a b d Q hx hy e q => by
  unfold oMul at e
  split at e
  · rename_i i j
    obtain ⟨hc, rfl⟩ := if_some e
    cases hx
    cases hy
    exact .inl ⟨i, j, rfl, rfl, hc, q _ _ _ (Step.refl ok) (.int _)⟩
  · rename_i xs k
    obtain ⟨⟨h0, h1, h2, h3⟩, rfl⟩ := if_some e
    cases hy
    cases hx with
    | tup k1 k2 =>
      refine .inr (.inr ⟨_, _, _, rfl, rfl, same_t ok.le k1, fun z => h0 (k2.nil_iff.mp z), h1, h2, by rw [k2.length]; exact h3, fun p np => ?_⟩)
      exact q.tup ok (k2.rep _) p np
  · rename_i xs k
    obtain ⟨hc, rfl⟩ := if_some e
    refine jol_mul Hi H ok x y (.lst xs) (.int k) _ Q hx hy (by unfold oMulL; simp only; rw [if_pos hc]) fun p vs Hi' H' s n n' e dv => ?_
    exact q _ _ _ (Step.frozen ok s n n' e) (.lst upd_same (dv.up (same_upd n')))
  · cases e
end

/-! ### is None, is True -/
def oIsN (a b : D) : Option D := match a, b with
  | .opq v, .non => some (.bl (decide (v = .non)))
  | .non, .non => some (.bl true)
  | _, .non => some (.bl false)
  | _, _ => none
def oNotN (a b : D) : Option D := match a, b with
  | .opq v, .non => some (.bl (!decide (v = .non)))
  | .non, .non => some (.bl false)
  | _, .non => some (.bl true)
  | _, _ => none
def rIsX : R2 := fun x y H Q => (y = .non ∧ Q (.bl (decide (x = .non))) H) ∨ ∃ a b, x = .bl a ∧ y = .bl b ∧ Q (.bl (decide (a = b))) H
def rIsNotX : R2 := fun x y H Q => (y = .non ∧ Q (.bl (!decide (x = .non))) H) ∨ ∃ a b, x = .bl a ∧ y = .bl b ∧ Q (.bl (!decide (a = b))) H
theorem op_isX {X : Cx} : OpR X (compareOp .Is) rIsX := OpR.or op_isN op_is_bl
theorem op_isNotX {X : Cx} : OpR X (compareOp .IsNot) rIsNotX := OpR.or op_notN op_isnot_bl
def oIs (a b : D) : Option D := match a, b with
  | .bl i, .bl j => some (.bl (decide (i = j)))
  | a, b => oIsN a b
def oIsNot (a b : D) : Option D := match a, b with
  | .bl i, .bl j => some (.bl (!decide (i = j)))
  | a, b => oNotN a b
section
variable {c : Cc}
theorem dv_non {K : PySem.W.Frag} {cl : Nat → Addr} {Hi : Hp} {x : V} {a : D} (h : Dv K cl Hi x a) : (∃ v, a = .opq v ∧ x = v) ∨ (a = .non ∧ x = .non) ∨ ((∀ v, a ≠ .opq v) ∧ a ≠ .non ∧ x ≠ .non) := by
  cases h <;> simp
theorem jo_isN : JO c (fun x y H Q => y = .non ∧ Q (.bl (decide (x = .non))) H) oIsN := fun Hi H ok x y a b d Q hx hy e q => by
  have hb : b = .non := by
    cases b with
    | non => rfl
    | _ => cases a <;> simp [oIsN] at e
  subst hb
  cases hy
  refine ⟨rfl, q _ _ _ (Step.refl ok) ?_⟩
  rcases dv_non hx with ⟨v, rfl, rfl⟩ | ⟨rfl, rfl⟩ | ⟨h1, h2, h3⟩
  · simp [oIsN] at e; subst e; exact .bl _
  · simp [oIsN] at e; subst e; exact .bl _
  · rw [decide_eq_false h3]
    cases a <;> first | exact absurd rfl h2 | exact absurd rfl (h1 _) | (simp [oIsN] at e; subst e; exact .bl _)
theorem jo_notN : JO c (fun x y H Q => y = .non ∧ Q (.bl (!decide (x = .non))) H) oNotN := fun Hi H ok x y a b d Q hx hy e q => by
  have hb : b = .non := by
    cases b with
    | non => rfl
    | _ => cases a <;> simp [oNotN] at e
  subst hb
  cases hy
  refine ⟨rfl, q _ _ _ (Step.refl ok) ?_⟩
  rcases dv_non hx with ⟨v, rfl, rfl⟩ | ⟨rfl, rfl⟩ | ⟨h1, h2, h3⟩
  · simp [oNotN] at e; subst e; first | exact .bl _ | (simp; exact .bl _)
  · simp [oNotN] at e; subst e; exact .bl _
  · rw [decide_eq_false h3]
    cases a <;> first | exact absurd rfl h2 | exact absurd rfl (h1 _) | (simp [oNotN] at e; subst e; exact .bl _)
theorem jo_is : JO c rIsX oIs := fun Hi H ok x y a b d Q hx hy e q => by
  unfold oIs at e
  split at e
  · cases e
    cases hx
    cases hy
    exact .inr ⟨_, _, rfl, rfl, q _ _ _ (Step.refl ok) (.bl _)⟩
  · exact .inl (jo_isN Hi H ok x y a b d Q hx hy e q)
theorem jo_isNot : JO c rIsNotX oIsNot := fun Hi H ok x y a b d Q hx hy e q => by
  unfold oIsNot at e
  split at e
  · cases e
    cases hx
    cases hy
    exact .inr ⟨_, _, rfl, rfl, q _ _ _ (Step.refl ok) (.bl _)⟩
  · exact .inl (jo_notN Hi H ok x y a b d Q hx hy e q)
end

/-! ### == -/
mutual
def toPy : D → Option PyData
  | .non => some .none
  | .bl b => some (.bool b)
  | .int i => some (.int i)
  | .str s => some (.str s)
  | .lst xs => (toPys xs).map .list
  | .tup xs => (toPys xs).map .tuple
  | .ins _ _ _ => none
  | .opq _ => none
def toPys : List D → Option (List PyData)
  | [] => some []
  | d :: ds => match toPy d, toPys ds with
    | some p, some ps => some (p :: ps)
    | _, _ => none
end
section
variable {K : PySem.W.Frag} {cl : Nat → Addr} {Hi H : Hp}
mutual
theorem Dv.py (e : Same Hi H) : ∀ (d : D) (v : V) (p : PyData), Dv K cl Hi v d → toPy d = some p → Dp K H v p
  | .non, _, _, h, q => by cases h; simp [toPy] at q; subst q; exact .non
  | .bl _, _, _, h, q => by cases h; simp [toPy] at q; subst q; exact .bl _
  | .int _, _, _, h, q => by cases h; simp [toPy] at q; subst q; exact .int _
  | .str _, _, _, h, q => by cases h; simp [toPy] at q; subst q; exact .str _
  | .lst xs, _, _, h, q => by
    cases h with
    | lst h1 h2 =>
      simp only [toPy, Option.map_eq_some_iff] at q
      obtain ⟨ps, q, rfl⟩ := q
      exact .lst (.inl (.inl (e _ _ h1))) (DvA.py e xs _ ps h2 q)
  | .tup xs, _, _, h, q => by
    cases h with
    | tup h1 h2 =>
      simp only [toPy, Option.map_eq_some_iff] at q
      obtain ⟨ps, q, rfl⟩ := q
      exact .tup (same_t e h1) (DvA.py e xs _ ps h2 q)
  | .ins _ _ _, _, _, _, q => by simp [toPy] at q
  | .opq _, _, _, _, q => by simp [toPy] at q
theorem DvA.py (e : Same Hi H) : ∀ (ds : List D) (vs : List V) (ps : List PyData), DvA K cl Hi vs ds → toPys ds = some ps → DpAll K H vs ps
  | [], _, _, h, q => by cases h; simp [toPys] at q; subst q; exact .nil
  | d :: ds, _, _, h, q => by
    cases h with
    | cons h1 h2 =>
      simp only [toPys] at q
      split at q
      · rename_i p ps q1 q2
        cases q
        exact .cons (Dv.py e d _ p h1 q1) (DvA.py e ds _ ps h2 q2)
      · cases q
end
end
def eqB (a b : D) : Option Bool := match sv a, sv b with
  | some x, some y => if scal x y = true then some (decide (x = y)) else match toPy a, toPy b with
    | some p, some q => if (PySem.SeqAt.shaped p && PySem.SeqAt.shaped q) = true then some (PyData.eqv p q) else none
    | _, _ => none
  | _, _ => match toPy a, toPy b with
    | some p, some q => if (PySem.SeqAt.shaped p && PySem.SeqAt.shaped q) = true then some (PyData.eqv p q) else none
    | _, _ => none
def oEq (a b : D) : Option D := (eqB a b).map fun k => .bl k
def oNe (a b : D) : Option D := (eqB a b).map fun k => .bl (!k)
def rEqX (K : PySem.W.Frag) : R2 := fun x y H Q => rEq x y H Q ∨ rEqD K x y H Q
def rNeX (K : PySem.W.Frag) : R2 := fun x y H Q => rNe x y H Q ∨ rNeD K x y H Q
theorem op_eqX {X : Cx} (hu : X.A.units + 64 < cLine) : OpR X (compareOp .Eq) (rEqX X.K) := OpR.or op_eq (op_eqD hu)
theorem op_neX {X : Cx} (hu : X.A.units + 64 < cLine) : OpR X (compareOp .NotEq) (rNeX X.K) := OpR.or op_ne (op_neD hu)
section
variable {c : Cc}
theorem eqB_inv {a b : D} {k : Bool} (h : eqB a b = some k) : (∃ x y, sv a = some x ∧ sv b = some y ∧ scal x y = true ∧ k = decide (x = y)) ∨ ∃ p q, toPy a = some p ∧ toPy b = some q ∧ PySem.SeqAt.shaped p = true ∧ PySem.SeqAt.shaped q = true ∧ k = PyData.eqv p q := by
  have data : (match toPy a, toPy b with
    | some p, some q => if (PySem.SeqAt.shaped p && PySem.SeqAt.shaped q) = true then some (PyData.eqv p q) else none
    | _, _ => none) = some k → ∃ p q, toPy a = some p ∧ toPy b = some q ∧ PySem.SeqAt.shaped p = true ∧ PySem.SeqAt.shaped q = true ∧ k = PyData.eqv p q := fun h => by
    split at h
    · rename_i p q e1 e2
      obtain ⟨hs, hk⟩ := if_some h
      rw [Bool.and_eq_true] at hs
      exact ⟨p, q, e1, e2, hs.1, hs.2, hk.symm⟩
    · cases h
  unfold eqB at h
  split at h
  · rename_i x y e1 e2
    by_cases hs : scal x y = true
    · rw [if_pos hs] at h
      cases h
      exact .inl ⟨x, y, e1, e2, hs, rfl⟩
    · rw [if_neg hs] at h
      exact .inr (data h)
  · exact .inr (data h)
theorem jo_eq : JO c (rEqX c.K) oEq := fun Hi H ok x y a b d Q hx hy e q => by
  unfold oEq at e
  obtain ⟨k, e0, rfl⟩ := Option.map_eq_some_iff.mp e
  rcases eqB_inv e0 with ⟨x', y', e1, e2, hs, rfl⟩ | ⟨p, p', e1, e2, h1, h2, rfl⟩
  · have z1 := hx.small e1
    have z2 := hy.small e2
    subst z1 z2
    exact .inl ⟨hs, q _ _ _ (Step.refl ok) (.bl _)⟩
  · exact .inr ⟨p, p', Dv.py ok.le a x p hx e1, Dv.py ok.le b y p' hy e2, h1, h2, q _ _ _ (Step.refl ok) (.bl _)⟩
theorem jo_ne : JO c (rNeX c.K) oNe := fun Hi H ok x y a b d Q hx hy e q => by
  unfold oNe at e
  obtain ⟨k, e0, rfl⟩ := Option.map_eq_some_iff.mp e
  rcases eqB_inv e0 with ⟨x', y', e1, e2, hs, rfl⟩ | ⟨p, p', e1, e2, h1, h2, rfl⟩
  · have z1 := hx.small e1
    have z2 := hy.small e2
    subst z1 z2
    exact .inl ⟨hs, q _ _ _ (Step.refl ok) (.bl _)⟩
  · exact .inr ⟨p, p', Dv.py ok.le a x p hx e1, Dv.py ok.le b y p' hy e2, h1, h2, q _ _ _ (Step.refl ok) (.bl _)⟩
end

/-! ### in -/
def inB (a b : D) : Option Bool := match sv a with
  | some x => match b with
    | .lst ys => (svs ys).map fun vs => inV x vs
    | .tup ys => (svs ys).map fun vs => inV x vs
    | .str z => match a with
      | .str s => match s.cps.toList with
        | [k] => some (decide (k ∈ z.cps.toList))
        | _ => none
      | _ => none
    | _ => none
  | none => none
def oIn (a b : D) : Option D := (inB a b).map fun k => .bl k
def oNotIn (a b : D) : Option D := (inB a b).map fun k => .bl (!k)
def rInX (K : PySem.W.Frag) : R2 := fun x y H Q => rIn K false x y H Q ∨ ∃ (c : Nat) (z : Str), x = .str ⟨#[c]⟩ ∧ y = .str z ∧ Q (.bl (decide (c ∈ z.cps.toList))) H
def rNotInX (K : PySem.W.Frag) : R2 := fun x y H Q => rIn K true x y H Q ∨ ∃ (c : Nat) (z : Str), x = .str ⟨#[c]⟩ ∧ y = .str z ∧ Q (.bl (!decide (c ∈ z.cps.toList))) H
theorem op_inX {X : Cx} : OpR X (compareOp .In) (rInX X.K) := OpR.or op_in_seq op_in_sign
theorem op_notInX {X : Cx} : OpR X (compareOp .NotIn) (rNotInX X.K) := OpR.or op_notIn_seq op_notIn_sign
section
variable {c : Cc}
theorem inB_inv {Hi H : Hp} (ok : Ok c Hi H) {x y : V} {a b : D} {k : Bool} (hx : Dv c.K c.cl Hi x a) (hy : Dv c.K c.cl Hi y b) (h : inB a b = some k) :
    (∃ p vs, y = .ref p ∧ (SqL c.K H p vs ∨ SqT c.K H p vs) ∧ flatV x = true ∧ vs.all flatV = true ∧ k = inV x vs) ∨ ∃ (n : Nat) (z : Str), x = .str ⟨#[n]⟩ ∧ y = .str z ∧ k = decide (n ∈ z.cps.toList) := by
  unfold inB at h
  split at h
  · rename_i x' ex
    have z1 := hx.small ex
    subst z1
    split at h
    · rename_i ys
      obtain ⟨vs, e, rfl⟩ := Option.map_eq_some_iff.mp h
      cases hy with
      | lst h1 h2 =>
        have z2 := h2.small e
        subst z2
        exact .inl ⟨_, _, rfl, .inl (.inl (.inl (ok.le _ _ h1))), sv_flat ex, svs_flat e, rfl⟩
    · rename_i ys
      obtain ⟨vs, e, rfl⟩ := Option.map_eq_some_iff.mp h
      cases hy with
      | tup h1 h2 =>
        have z2 := h2.small e
        subst z2
        exact .inl ⟨_, _, rfl, .inr (same_t ok.le h1), sv_flat ex, svs_flat e, rfl⟩
    · rename_i z
      split at h
      · rename_i s
        split at h
        · rename_i n en
          cases h
          cases hx
          cases hy
          refine .inr ⟨n, z, ?_, rfl, rfl⟩
          congr 1
          cases s with
          | mk cps =>
            congr 1
            apply Array.toList_inj.mp
            exact en
        · cases h
      · cases h
    · cases h
  · cases h
theorem jo_in : JO c (rInX c.K) oIn := fun Hi H ok x y a b d Q hx hy e q => by
  unfold oIn at e
  obtain ⟨k, e0, rfl⟩ := Option.map_eq_some_iff.mp e
  rcases inB_inv ok hx hy e0 with ⟨p, vs, rfl, h1, h2, h3, rfl⟩ | ⟨n, z, rfl, rfl, rfl⟩
  · exact .inl ⟨p, vs, rfl, h1, h2, h3, q _ _ _ (Step.refl ok) (.bl _)⟩
  · exact .inr ⟨n, z, rfl, rfl, q _ _ _ (Step.refl ok) (.bl _)⟩
theorem jo_notIn : JO c (rNotInX c.K) oNotIn := fun Hi H ok x y a b d Q hx hy e q => by
  unfold oNotIn at e
  obtain ⟨k, e0, rfl⟩ := Option.map_eq_some_iff.mp e
  rcases inB_inv ok hx hy e0 with ⟨p, vs, rfl, h1, h2, h3, rfl⟩ | ⟨n, z, rfl, rfl, rfl⟩
  · exact .inl ⟨p, vs, rfl, h1, h2, h3, q _ _ _ (Step.refl ok) (.bl _)⟩
  · exact .inr ⟨n, z, rfl, rfl, q _ _ _ (Step.refl ok) (.bl _)⟩
end

/-! ### xs[i], xs[i:j], len -/
def oIx (a b : D) : Option D := match b with
  | .int i => match a with
    | .lst xs => atI xs i
    | .tup xs => atI xs i
    | .str z => if z.length ≤ 100000 then (atI z.cps.toList i).map fun k => .str ⟨#[k]⟩ else none
    | _ => none
  | _ => none
theorem ix_X {X : Cx} : IxR X (rIx X.K) := IxR.or (show IxR X (rIxL X.K) from ix_list) (IxR.or (show IxR X (rIxT X.K) from ix_tup) (show IxR X rIxS from ix_str))
def cutD (xs : List D) (lo hi : Option Int) : List D := (xs.drop (HT.sIx xs.length 0 lo)).take (HT.sIx xs.length xs.length hi - HT.sIx xs.length 0 lo)
def rSlX (K : PySem.W.Frag) : V → Option Int → Option Int → Hp → VK → Prop := fun x i j H Q => rSlL K x i j H Q ∨ (rSlA K x i j H Q ∨ rSlS x i j H Q)
theorem sl_X {X : Cx} : SlR X (rSlX X.K) := SlR.or sl_list (SlR.or sl_tupA sl_str)
def oSlL (a : D) (i j : Option Int) : Option (List D) := match a with
  | .lst xs => some (cutD xs i j)
  | _ => none
def oSl (a : D) (i j : Option Int) : Option D := match a with
  | .lst xs => some (.lst (cutD xs i j))
  | .tup xs => some (.tup (cutD xs i j))
  | .str z => if z.length ≤ 100000 then some (.str (cutS z i j)) else none
  | _ => none
def cLen (as : List D) : Option D := match as with
  | [.lst xs] => some (.int xs.length)
  | [.tup xs] => some (.int xs.length)
  | [.str z] => if z.length ≤ 100000 then some (.int z.length) else none
  | _ => none
def rLenX (K : PySem.W.Frag) : List V → Hp → VK → Prop := fun xs H Q => (∃ p ys, xs = [.ref p] ∧ (SqL K H p ys ∨ SqT K H p ys) ∧ Q (.int ys.length) H) ∨ ∃ z, xs = [.str z] ∧ z.length ≤ sizeLine ∧ Q (.int z.length) H
theorem call_lenX {X : Cx} : CallR X (.builtin "len") (rLenX X.K) := CallR.or call_len_seq call_len_str
section
variable {c : Cc} {Hi H : Hp}
theorem ixN_len {n m : Nat} (e : n = m) (i : Int) : ixN n i = ixN m i := by rw [e]
theorem DvA.atI' {vs : List V} {xs : List D} {i : Int} {d : D} (h : DvA c.K c.cl Hi vs xs) (e : atI xs i = some d) : ∃ v, atI vs i = some v ∧ Dv c.K c.cl Hi v d := by
  unfold atI at e ⊢
  rw [h.length]
  cases k : ixN xs.length i with
  | none => rw [k] at e; cases e
  | some j =>
    rw [k] at e
    obtain ⟨v, e1, e2⟩ := h.get (show xs[j]? = some d from e)
    exact ⟨v, e1, e2⟩
theorem jo_ix : JO c (rIx c.K) oIx := fun Hi H ok x y a b d Q hx hy e q => by
  unfold oIx at e
  split at e
  · rename_i i
    cases hy
    split at e
    · rename_i xs
      cases hx with
      | lst h1 h2 =>
        obtain ⟨v, e1, e2⟩ := h2.atI' e
        exact .inl ⟨_, _, _, _, rfl, rfl, .inl (.inl (ok.le _ _ h1)), e1, q _ _ _ (Step.refl ok) e2⟩
    · rename_i xs
      cases hx with
      | tup h1 h2 =>
        obtain ⟨v, e1, e2⟩ := h2.atI' e
        exact .inr (.inl ⟨_, _, _, _, rfl, rfl, same_t ok.le h1, e1, q _ _ _ (Step.refl ok) e2⟩)
    · rename_i z
      cases hx
      by_cases hz : z.length ≤ 100000
      · rw [if_pos hz] at e
        obtain ⟨k, e1, rfl⟩ := Option.map_eq_some_iff.mp e
        exact .inr (.inr ⟨z, i, k, rfl, rfl, lim_le hz, e1, q _ _ _ (Step.refl ok) (.str _)⟩)
      · rw [if_neg hz] at e
        cases e
    · cases e
  · cases e
theorem DvA.cut {vs : List V} {xs : List D} (h : DvA c.K c.cl Hi vs xs) (i j : Option Int) : DvA c.K c.cl Hi (cutV vs i j) (cutD xs i j) := by
  unfold cutV cutD
  rw [h.length]
  exact (h.drop _).take _
theorem jsl_sl : JSL3 c (rSlX c.K) oSlL := fun Hi H ok x i j a d Q hx e q => by
  unfold oSlL at e
  split at e
  · cases e
    cases hx with
    | lst h1 h2 => exact .inl ⟨_, _, rfl, .inl (.inl (ok.le _ _ h1)), fun p np => q p _ _ _ (Step.newOwn ok np) np (ok.free np) upd_same (h2.cut i j)⟩
  · cases e
theorem js_sl : JS3 c (rSlX c.K) oSl := fun Hi H ok x i j a d Q hx e q => by
  unfold oSl at e
  split at e
  · cases e
    refine jsl_sl Hi H ok x i j _ _ Q hx rfl fun p vs Hi' H' s n n' e dv => ?_
    exact q _ _ _ (Step.frozen ok s n n' e) (.lst upd_same (dv.up (same_upd n')))
  · rename_i xs
    cases e
    cases hx with
    | tup h1 h2 =>
      refine .inr (.inl ⟨_, _, rfl, same_t ok.le h1, fun w => ?_, fun _ p np => ?_⟩)
      · rw [h2.length] at w
        refine q _ _ _ (Step.refl ok) ?_
        have e : cutD xs i j = xs := by
          unfold cutD
          rw [w.1, w.2, List.drop_zero, Nat.sub_zero, List.take_length]
        rw [e]
        exact .tup h1 h2
      · exact q.tup ok (h2.cut i j) p np
  · rename_i z
    obtain ⟨hl, rfl⟩ := if_some e
    cases hx
    exact .inr (.inr ⟨z, rfl, lim_le hl, q _ _ _ (Step.refl ok) (.str _)⟩)
  · cases e
theorem dva1 {K : PySem.W.Frag} {cl : Nat → Addr} {Hi : Hp} {vs : List V} {d : D} (h : DvA K cl Hi vs [d]) : ∃ v, vs = [v] ∧ Dv K cl Hi v d := by
  cases h with
  | cons h1 h2 => cases h2; exact ⟨_, rfl, h1⟩
theorem dva2 {K : PySem.W.Frag} {cl : Nat → Addr} {Hi : Hp} {vs : List V} {d e : D} (h : DvA K cl Hi vs [d, e]) : ∃ v u, vs = [v, u] ∧ Dv K cl Hi v d ∧ Dv K cl Hi u e := by
  cases h with
  | cons h1 h2 =>
    obtain ⟨u, rfl, h3⟩ := dva1 h2
    exact ⟨_, _, rfl, h1, h3⟩
theorem jc_len : JC c (rLenX c.K) cLen := fun Hi H ok xs as d Q hx e q => by
  unfold cLen at e
  split at e
  · cases e
    obtain ⟨v, rfl, h⟩ := dva1 hx
    cases h with
    | lst h1 h2 => exact .inl ⟨_, _, rfl, .inl (.inl (.inl (ok.le _ _ h1))), q _ _ _ (Step.refl ok) (by rw [h2.length]; exact .int _)⟩
  · cases e
    obtain ⟨v, rfl, h⟩ := dva1 hx
    cases h with
    | tup h1 h2 => exact .inl ⟨_, _, rfl, .inr (same_t ok.le h1), q _ _ _ (Step.refl ok) (by rw [h2.length]; exact .int _)⟩
  · obtain ⟨hl, rfl⟩ := if_some e
    obtain ⟨v, rfl, h⟩ := dva1 hx
    cases h
    exact .inr ⟨_, rfl, lim_le hl, q _ _ _ (Step.refl ok) (.int _)⟩
  · cases e
end
end Xd
namespace Xd
open PySem L2 Xg

/-! ### what a statement comes to -/
inductive O where
  | nx (ρ : Rho) | bk (ρ : Rho) | ct (ρ : Rho) | rt (d : D) | rf (xs : List D) | ex (x : Xc) (ρ : Rho)
def lift {α : Type} (r : R α) (ρ : Rho) (k : α → Option O) : Option O := match r with
  | .ok a => k a
  | .exc x => some (.ex x ρ)
  | .bad => none
@[simp] theorem lift_ok {α : Type} (a : α) (ρ : Rho) (k : α → Option O) : lift (.ok a) ρ k = k a := rfl
@[simp] theorem lift_exc {α : Type} (x : Xc) (ρ : Rho) (k : α → Option O) : lift (.exc x) ρ k = some (.ex x ρ) := rfl
@[simp] theorem lift_bad {α : Type} (ρ : Rho) (k : α → Option O) : lift .bad ρ k = none := rfl
def Nx (c : Cc) (Hi : Hp) (K : St → Hp → Prop) (ρ' : Rho) : Prop := ∀ σ' Hi' H', Same Hi Hi' → Ok c Hi' H' → Sv c Hi' H' σ' ρ' → K σ' H'
def Aft (c : Cc) (W : WE) (Hi : Hp) (Dn : Ends) : O → Prop
  | .nx ρ' => Nx c Hi Dn.nx ρ'
  | .bk ρ' => Nx c Hi Dn.bk ρ'
  | .ct ρ' => Nx c Hi Dn.ct ρ'
  | .rt d => ∀ v Hi' H', Same Hi Hi' → Ok c Hi' H' → Dv c.K c.cl Hi' v d → Dn.rt v H'
  | .rf xs => ∀ p vs Hi' H', Same Hi Hi' → Ok c Hi' H' → H' p = some (.lst vs) → Hi' p = none → c.H0 p = none → DvA c.K c.cl Hi' vs xs → Dn.rt (.ref p) H'
  | .ex x ρ' => ∀ σ' Hi' H', Same Hi Hi' → Ok c Hi' H' → Sv c Hi' H' σ' ρ' → W x σ' Hi' H'
def AftO (c : Cc) (W : WE) (Hi : Hp) (Dn : Ends) : Option O → Prop
  | some o => Aft c W Hi Dn o
  | none => False
def JS (c : Cc) (W : WE) (ts : TS) (g : Rho → Option O) : Prop := ∀ (σ : St) (ρ : Rho) (Hi H : Hp), Ok c Hi H → Sv c Hi H σ ρ → ∀ Dn : Ends, AftO c W Hi Dn (g ρ) → ts Dn σ H
theorem Nx.to {c : Cc} {Hi Hi' : Hp} {K : St → Hp → Prop} {ρ : Rho} (h : Nx c Hi K ρ) (s : Same Hi Hi') : Nx c Hi' K ρ := fun σ' Hi2 H2 s2 => h σ' Hi2 H2 (s.trans s2)
theorem Aft.to {c : Cc} {W : WE} {Hi Hi' : Hp} {Dn : Ends} {o : O} (h : Aft c W Hi Dn o) (s : Same Hi Hi') : Aft c W Hi' Dn o := by
  cases o with
  | nx ρ => exact Nx.to h s
  | bk ρ => exact Nx.to h s
  | ct ρ => exact Nx.to h s
  | rt d => exact fun v Hi2 H2 s2 => h v Hi2 H2 (s.trans s2)
  | rf xs => exact fun p vs Hi2 H2 s2 => h p vs Hi2 H2 (s.trans s2)
  | ex x ρ => exact fun σ' Hi2 H2 s2 => h σ' Hi2 H2 (s.trans s2)
theorem AftO.to {c : Cc} {W : WE} {Hi Hi' : Hp} {Dn : Ends} {o : Option O} (h : AftO c W Hi Dn o) (s : Same Hi Hi') : AftO c W Hi' Dn o := by
  cases o with
  | some o => exact Aft.to h s
  | none => exact h
/-- the same but for what comes next -/
theorem Aft.mono {c : Cc} {W : WE} {Hi : Hp} {Dn Dn' : Ends} {o : O} (h : Aft c W Hi Dn o) (h1 : ∀ ρ, o = .nx ρ → Nx c Hi Dn.nx ρ → Nx c Hi Dn'.nx ρ) (h2 : ∀ ρ, o = .bk ρ → Nx c Hi Dn.bk ρ → Nx c Hi Dn'.bk ρ)
    (h3 : ∀ ρ, o = .ct ρ → Nx c Hi Dn.ct ρ → Nx c Hi Dn'.ct ρ) (h4 : Dn.rt = Dn'.rt) : Aft c W Hi Dn' o := by
  cases o with
  | nx ρ => exact h1 ρ rfl h
  | bk ρ => exact h2 ρ rfl h
  | ct ρ => exact h3 ρ rfl h
  | rt d => exact fun v Hi2 H2 a b e => h4 ▸ h v Hi2 H2 a b e
  | rf xs => exact fun p vs Hi2 H2 a b e f g k => h4 ▸ h p vs Hi2 H2 a b e f g k
  | ex x ρ => exact h

/-! ### mirrors of statements -/
abbrev MS := Rho → Option O
def sNext : MS := fun ρ => some (.nx ρ)
def sSeq (g h : MS) : MS := fun ρ => match g ρ with
  | some (.nx ρ') => h ρ'
  | o => o
def sSet (i : Nat) (f : Rho → R D) : MS := fun ρ => lift (f ρ) ρ fun d => some (.nx (ρ.set i (.val d)))
def sSetL (i : Nat) (f : Rho → R (List D)) : MS := fun ρ => lift (f ρ) ρ fun d => some (.nx (ρ.set i (.own d)))
def sExpr (f : Rho → R D) : MS := fun ρ => lift (f ρ) ρ fun _ => some (.nx ρ)
def sRet (f : Rho → R D) : MS := fun ρ => lift (f ρ) ρ fun d => some (.rt d)
def sRetL (f : Rho → R (List D)) : MS := fun ρ => lift (f ρ) ρ fun d => some (.rf d)
/-- return of an own list -/
def sRetO (i : Nat) : MS := fun ρ => match ρ[i]? with
  | some (.own xs) => some (.rf xs)
  | _ => none
def sRetN : MS := fun _ => some (.rt .non)
def sBreak : MS := fun ρ => some (.bk ρ)
def sCont : MS := fun ρ => some (.ct ρ)
def sIf (t : Rho → R Bool) (g h : MS) : MS := fun ρ => lift (t ρ) ρ fun b => if b = true then g ρ else h ρ
def sApp (i : Nat) (f : Rho → R D) : MS := fun ρ => match ρ[i]? with
  | some (.own xs) => lift (f ρ) ρ fun d => if xs.length < 100000 then some (.nx (ρ.set i (.own (xs ++ [d])))) else none
  | _ => none
/-- x = own.pop() -/
def sPop (j i : Nat) : MS := fun ρ => match ρ[i]? with
  | some (.own xs) => match xs[xs.length - 1]? with
    | some d => some (.nx ((ρ.set i (.own xs.dropLast)).set j (.val d)))
    | none => none
  | _ => none
/-- own[e] = f -/
def sPut (i : Nat) (f e : Rho → R D) : MS := fun ρ => match ρ[i]? with
  | some (.own xs) => lift (f ρ) ρ fun d => lift (e ρ) ρ fun k => match (match k with
      | .int k => ixN xs.length k
      | _ => none) with
    | some j => some (.nx (ρ.set i (.own (xs.set j d))))
    | none => none
  | _ => none
/-- an own list is frozen ahead of a statement -/
def sFrz (i : Nat) (g : MS) : MS := fun ρ => match ρ[i]? with
  | some (.own xs) => g (ρ.set i (.val (.lst xs)))
  | _ => g ρ

section
variable {c : Cc} {W : WE} {ta tb : TE} {tt : TT} {t1 t2 ts : TS} {f g : Rho → R D} {fb : Rho → R Bool} {fs : Rho → R (List D)} {g1 g2 : MS}
theorem AftO.lift {α : Type} {r : R α} {ρ : Rho} {k : α → Option O} {Hi : Hp} {Dn : Ends} (h : AftO c W Hi Dn (lift r ρ k)) {σ : St} {H : Hp} (sv : Sv c Hi H σ ρ) :
    Meet r (fun a => AftO c W Hi Dn (k a)) (fun x => ∀ Hi' H', Step c Hi H Hi' H' → W x σ Hi' H') := by
  cases r with
  | ok a => exact h
  | exc x => exact fun Hi' H' s => h σ Hi' H' s.hi s.ok (sv.step s)
  | bad => exact h
theorem js_next : JS c W tNext sNext := fun σ ρ Hi H ok sv Dn h => h σ Hi H (Same.refl _) ok sv
theorem js_seq (h1 : JS c W t1 g1) (h2 : JS c W t2 g2) : JS c W (tSeq t1 t2) (sSeq g1 g2) := fun σ ρ Hi H ok sv Dn h => by
  refine h1 σ ρ Hi H ok sv { Dn with nx := t2 Dn } ?_
  unfold sSeq at h
  cases hg : g1 ρ with
  | none => rw [hg] at h; exact h
  | some o =>
    rw [hg] at h
    cases o with
    | nx ρ' => exact fun σ' Hi' H' s ok' sv' => h2 σ' ρ' Hi' H' ok' sv' Dn (h.to s)
    | bk ρ' => exact h
    | ct ρ' => exact h
    | rt d => exact h
    | rf xs => exact h
    | ex x ρ' => exact h
theorem js_set (i : Nat) (ha : JE c W ta f) : JS c W (tAsg ta (gName i)) (sSet i f) := fun σ ρ Hi H ok sv Dn h =>
  ha σ ρ Hi H ok sv _ ((AftO.lift h sv).imp (fun a h v Hi1 H1 s1 d1 => h (σ.set i (some v)) Hi1 H1 s1.hi s1.ok ((sv.step s1).setVal i d1)) fun x k => k)
theorem own_ne {Hi H : Hp} {σ : St} {ρ : Rho} (sv : Sv c Hi H σ ρ) {p : Addr} (n : H p = none) : ∀ (j : Nat) (ys : List D), ρ[j]? = some (.own ys) → σ[j]? ≠ some (some (.ref p)) := fun j ys h e => by
  obtain ⟨q, vs, e1, e2, _⟩ := sv.at' j _ _ e h
  cases e1
  rw [n] at e2
  cases e2
theorem js_setL (i : Nat) (ha : JL c W ta fs) : JS c W (tAsg ta (gName i)) (sSetL i fs) := fun σ ρ Hi H ok sv Dn h =>
  ha σ ρ Hi H ok sv _ ((AftO.lift h sv).imp (fun a h p vs Hi1 H1 s1 n n' e d1 => h (σ.set i (some (.ref p))) Hi1 H1 s1.hi s1.ok
    ((sv.step s1).setOwn i e n' (ok.free0 n) d1 fun j ys _ hr => own_ne sv n j ys hr)) fun x k => k)
theorem js_expr (ha : JE c W ta f) : JS c W (tDrop ta) (sExpr f) := fun σ ρ Hi H ok sv Dn h =>
  ha σ ρ Hi H ok sv _ ((AftO.lift h sv).imp (fun a h v Hi1 H1 s1 d1 => h σ Hi1 H1 s1.hi s1.ok (sv.step s1)) fun x k => k)
theorem js_ret (ha : JE c W ta f) : JS c W (tRet ta) (sRet f) := fun σ ρ Hi H ok sv Dn h =>
  ha σ ρ Hi H ok sv _ ((AftO.lift h sv).imp (fun a h v Hi1 H1 s1 d1 => h v Hi1 H1 s1.hi s1.ok d1) fun x k => k)
theorem js_retL (ha : JL c W ta fs) : JS c W (tRet ta) (sRetL fs) := fun σ ρ Hi H ok sv Dn h =>
  ha σ ρ Hi H ok sv _ ((AftO.lift h sv).imp (fun a h p vs Hi1 H1 s1 n n' e d1 => h p vs Hi1 H1 s1.hi s1.ok e n' (ok.free0 n) d1) fun x k => k)
theorem Sv.own {Hi H : Hp} {σ : St} {ρ : Rho} (e : Sv c Hi H σ ρ) {i : Nat} {xs : List D} (h : ρ[i]? = some (.own xs)) :
    ∃ p vs, σ[i]? = some (some (.ref p)) ∧ H p = some (.lst vs) ∧ Hi p = none ∧ c.H0 p = none ∧ DvA c.K c.cl Hi vs xs := by
  obtain ⟨o, h1, p, vs, rfl, h2⟩ := e.find h
  exact ⟨p, vs, h1, h2⟩
theorem js_retO (i : Nat) : JS c W (tRet (tVar i)) (sRetO i) := fun σ ρ Hi H ok sv Dn h => by
  unfold sRetO at h
  split at h
  · rename_i xs hr
    obtain ⟨p, vs, e1, e2, e3, e4, e5⟩ := sv.own hr
    exact ⟨_, e1, h p vs Hi H (Same.refl _) ok e2 e3 e4 e5⟩
  · exact h.elim
theorem js_retN : JS c W tRetN sRetN := fun σ ρ Hi H ok sv Dn h => h _ _ _ (Same.refl _) ok .non
theorem js_break : JS c W tBreak sBreak := fun σ ρ Hi H ok sv Dn h => h σ Hi H (Same.refl _) ok sv
theorem js_cont : JS c W tCont sCont := fun σ ρ Hi H ok sv Dn h => h σ Hi H (Same.refl _) ok sv
theorem js_if (ht : JT c W tt fb) (h1 : JS c W t1 g1) (h2 : JS c W t2 g2) : JS c W (tIfS tt t1 t2) (sIf fb g1 g2) := fun σ ρ Hi H ok sv Dn h => by
  refine ht σ ρ Hi H ok sv _ ((AftO.lift h sv).imp (fun b h Hi1 H1 s1 => ?_) fun x k => k)
  cases b with
  | true => exact h1 σ ρ Hi1 H1 s1.ok (sv.step s1) Dn (AftO.to h s1.hi)
  | false => exact h2 σ ρ Hi1 H1 s1.ok (sv.step s1) Dn (AftO.to h s1.hi)
theorem js_app (i : Nat) (ha : JE c W ta f) : JS c W (tDrop (tBM c.K "list" rAppend (tVar i) (tCons ta tNil))) (sApp i f) := fun σ ρ Hi H ok sv Dn h => by
  unfold sApp at h
  split at h
  · rename_i xs hr
    obtain ⟨p, vs, e1, e2, e3, e4, e5⟩ := sv.own hr
    refine ⟨_, e1, .inl ⟨rfl, _, .inl (.inl e2)⟩, ?_⟩
    refine ha σ ρ Hi H ok sv _ ((AftO.lift h sv).imp (fun a h v Hi1 H1 s1 d1 => ?_) fun x k => k)
    by_cases hl : xs.length < 100000
    · rw [if_pos hl] at h
      refine ⟨p, vs, v, rfl, rfl, s1.lst e2, lim_lt (by rw [e5.length]; exact hl), ?_⟩
      exact h σ Hi1 _ s1.hi (s1.ok.change (s1.lst e2) (s1.fr _ _ e2 e3) e4) ((sv.step s1).change hr e1 ((e5.up s1.hi).append (.cons d1 .nil)))
    · rw [if_neg hl] at h
      exact h.elim
  · exact h.elim
theorem js_pop (j i : Nat) : JS c W (tAsg (tBM0 c.K "list" rPop (tVar i)) (gName j)) (sPop j i) := fun σ ρ Hi H ok sv Dn h => by
  unfold sPop at h
  split at h
  · rename_i xs hr
    split at h
    · rename_i d hd
      obtain ⟨p, vs, e1, e2, e3, e4, e5⟩ := sv.own hr
      obtain ⟨v, hv, dv⟩ := e5.get hd
      refine ⟨_, e1, .inl ⟨rfl, _, .inl (.inl e2)⟩, p, vs, v, rfl, rfl, e2, by rw [e5.length]; exact hv, ?_⟩
      exact h _ Hi _ (Same.refl _) (ok.change e2 e3 e4) ((sv.change hr e1 e5.dropLast).setVal j dv)
    · exact h.elim
  · exact h.elim
theorem js_put (i : Nat) (ha : JE c W ta f) (hb : JE c W tb g) : JS c W (tAsg ta (gSub (tVar i) tb rSetL)) (sPut i f g) := fun σ ρ Hi H ok sv Dn h => by
  unfold sPut at h
  split at h
  · rename_i xs hr
    obtain ⟨p, vs, e1, e2, e3, e4, e5⟩ := sv.own hr
    refine ha σ ρ Hi H ok sv _ ((AftO.lift h sv).imp (fun a h v Hi1 H1 s1 d1 => ?_) fun x k => k)
    refine ⟨_, e1, ?_⟩
    refine hb σ ρ Hi1 H1 s1.ok (sv.step s1) _ ((AftO.lift (AftO.to h s1.hi) (sv.step s1)).imp (fun k h v2 Hi2 H2 s2 d2 => ?_) fun x k => k)
    have s12 := s1.trans s2
    split at h
    · rename_i j hj
      cases k with
      | int k =>
        cases d2
        refine ⟨p, vs, k, j, rfl, rfl, s12.lst e2, by rw [e5.length]; exact hj, ?_⟩
        exact h σ Hi2 _ s2.hi (s2.ok.change (s12.lst e2) (s12.fr _ _ e2 e3) e4) ((sv.step s12).change hr e1 ((e5.up s12.hi).set j (d1.up s2.hi)))
      | _ => cases hj
    · exact h.elim
  · exact h.elim
theorem js_frz (i : Nat) (h1 : JS c W t1 g1) : JS c W t1 (sFrz i g1) := fun σ ρ Hi H ok sv Dn h => by
  unfold sFrz at h
  split at h
  · rename_i xs hr
    obtain ⟨Hi', s, ok', sv'⟩ := sv.freeze ok hr
    exact h1 σ _ Hi' H ok' sv' Dn (AftO.to h s)
  · exact h1 σ ρ Hi H ok sv Dn h
end
end Xd
namespace Xd
open PySem L2 Xg

/-! ### targets -/
abbrev MG := D → Rho → Option Rho
/-- but for the slots ix nothing changes -/
def Chg (ix : List Nat) (σ σ' : St) : Prop := σ'.length = σ.length ∧ ∀ j, j ∉ ix → σ'[j]? = σ[j]?
theorem Chg.refl (σ : St) : Chg [] σ σ := ⟨rfl, fun _ _ => rfl⟩
theorem Chg.trans {ix iy : List Nat} {σ σ1 σ2 : St} (a : Chg ix σ σ1) (b : Chg iy σ1 σ2) : Chg (ix ++ iy) σ σ2 := ⟨b.1.trans a.1, fun j h => by
  rw [List.mem_append, not_or] at h
  rw [b.2 j h.2, a.2 j h.1]⟩
theorem wipe_get (σ : St) : ∀ (vs : List Nat) (j : Nat), (wipe σ vs)[j]? = if j ∈ vs then (if j < σ.length then some none else none) else σ[j]?
  | [], j => by simp [wipe]
  | v :: vs, j => by
    unfold wipe
    by_cases hj : j = v
    · subst hj
      rw [if_pos List.mem_cons_self, List.getElem?_set_self']
      rw [wipe_get σ vs j]
      by_cases hl : j < σ.length
      · by_cases hm : j ∈ vs
        · simp [hm, hl]
        · simp [hm, hl]
      · by_cases hm : j ∈ vs
        · simp [hm, hl]
        · simp [hm, hl]
    · rw [List.getElem?_set_ne (Ne.symm hj), wipe_get σ vs j]
      have e : (j ∈ v :: vs) ↔ j ∈ vs := by simp [hj]
      by_cases hm : j ∈ vs
      · rw [if_pos hm, if_pos (e.mpr hm)]
      · rw [if_neg hm, if_neg (fun z => hm (e.mp z))]
theorem Chg.wipe {ix vs : List Nat} {σ σ' : St} (h : Chg ix (wipe σ vs) σ') (hs : ∀ j ∈ ix, j ∈ vs) : L2.wipe σ' vs = L2.wipe σ vs := by
  have hl : σ'.length = σ.length := by rw [h.1, wipe_length]
  apply List.ext_getElem?
  intro j
  rw [wipe_get, wipe_get, hl]
  by_cases hm : j ∈ vs
  · rw [if_pos hm, if_pos hm]
  · rw [if_neg hm, if_neg hm, h.2 j (fun z => hm (hs j z)), wipe_get, if_neg hm]
def JG (c : Cc) (ix : List Nat) (g : TG) (f : MG) : Prop := ∀ (σ : St) (ρ ρ' : Rho) (Hi H : Hp) (v : V) (d : D), Ok c Hi H → Sv c Hi H σ ρ → Dv c.K c.cl Hi v d → f d ρ = some ρ' → ∀ Q : St → Hp → Prop, (∀ σ', Sv c Hi H σ' ρ' → Chg ix σ σ' → Q σ' H) → g v σ H Q
def JGs (c : Cc) (ix : List Nat) (g : TGs) (f : List D → Rho → Option Rho) : Prop := ∀ (σ : St) (ρ ρ' : Rho) (Hi H : Hp) (vs : List V) (ds : List D), Ok c Hi H → Sv c Hi H σ ρ → DvA c.K c.cl Hi vs ds → f ds ρ = some ρ' → ∀ Q : St → Hp → Prop, (∀ σ', Sv c Hi H σ' ρ' → Chg ix σ σ' → Q σ' H) → g vs σ H Q
def gN (i : Nat) : MG := fun d ρ => some (ρ.set i (.val d))
def gsNil : List D → Rho → Option Rho := fun ds ρ => match ds with
  | [] => some ρ
  | _ => none
def gsCons (f : MG) (g : List D → Rho → Option Rho) : List D → Rho → Option Rho := fun ds ρ => match ds with
  | d :: ds => (f d ρ).bind fun ρ' => g ds ρ'
  | [] => none
def gT (n : Nat) (g : List D → Rho → Option Rho) : MG := fun d ρ => match d with
  | .tup xs => if xs.length = n then g xs ρ else none
  | _ => none
section
variable {c : Cc} {W : WE}
theorem jg_name (i : Nat) : JG c [i] (gName i) (gN i) := fun σ ρ ρ' Hi H v d ok sv dv e Q q => by
  unfold gN at e
  cases e
  exact q _ (sv.setVal i dv) ⟨by rw [List.length_set], fun j h => List.getElem?_set_ne (fun z => h (by rw [z]; exact List.mem_singleton.mpr rfl))⟩
theorem jgs_nil : JGs c [] gNil gsNil := fun σ ρ ρ' Hi H vs ds ok sv dv e Q q => by
  unfold gsNil at e
  split at e
  · cases e
    cases dv
    exact ⟨rfl, q _ sv (Chg.refl _)⟩
  · cases e
theorem jgs_cons {ix iy : List Nat} {g : TG} {gs : TGs} {f : MG} {fs : List D → Rho → Option Rho} (h1 : JG c ix g f) (h2 : JGs c iy gs fs) : JGs c (ix ++ iy) (gCons g gs) (gsCons f fs) := fun σ ρ ρ' Hi H vs ds ok sv dv e Q q => by
  unfold gsCons at e
  split at e
  · rename_i d ds
    obtain ⟨ρ1, e1, e2⟩ := Option.bind_eq_some_iff.mp e
    cases dv with
    | cons d1 d2 => exact ⟨_, _, rfl, h1 σ ρ ρ1 Hi H _ d ok sv d1 e1 _ fun σ' sv' c1 => h2 σ' ρ1 ρ' Hi H _ ds ok sv' d2 e2 Q fun σ2 sv2 c2 => q σ2 sv2 (c1.trans c2)⟩
  · cases e
theorem jg_tup {ix : List Nat} {gs : TGs} {fs : List D → Rho → Option Rho} {n : Nat} (h : JGs c ix gs fs) : JG c ix (gTup c.K n gs) (gT n fs) := fun σ ρ ρ' Hi H v d ok sv dv e Q q => by
  unfold gT at e
  split at e
  · rename_i xs
    by_cases hn : xs.length = n
    · rw [if_pos hn] at e
      cases dv with
      | tup h1 h2 => exact ⟨_, _, rfl, same_t ok.le h1, by rw [h2.length]; exact hn, h σ ρ ρ' Hi H _ xs ok sv h2 e Q q⟩
    · rw [if_neg hn] at e
      cases e
  · cases e
end
def sAsg (f : Rho → R D) (g : MG) : MS := fun ρ => lift (f ρ) ρ fun d => (g d ρ).map fun ρ' => .nx ρ'
theorem js_asg {c : Cc} {W : WE} {ta : TE} {f : Rho → R D} {g : TG} {fg : MG} {ix : List Nat} (ha : JE c W ta f) (hg : JG c ix g fg) : JS c W (tAsg ta g) (sAsg f fg) := fun σ ρ Hi H ok sv Dn h =>
  ha σ ρ Hi H ok sv _ ((AftO.lift h sv).imp (fun a h v Hi1 H1 s1 d1 => by
    cases e : fg a ρ with
    | none => rw [e] at h; exact h.elim
    | some ρ' =>
      rw [e] at h
      exact hg σ ρ ρ' Hi1 H1 v a s1.ok (sv.step s1) d1 e Dn.nx fun σ' sv' _ => h σ' Hi1 H1 s1.hi s1.ok sv') fun x k => k)

/-! ### what is walked -/
structure WalkD (c : Cc) (Hi0 : Hp) (J : It) (ds : List D) : Prop where
  ex : ∃ (G : Hp → Prop) (Y : Nat → Hp → V → Hp → Prop), Walk J ds.length G Y ∧ (∀ Hi H, Ok c Hi H → Same Hi0 Hi → G H) ∧
    ∀ (i : Nat) (d : D) (Hi H H' : Hp) (v : V), ds[i]? = some d → Ok c Hi H → Same Hi0 Hi → Y i H v H' → ∃ Hi', Step c Hi H Hi' H' ∧ Dv c.K c.cl Hi' v d
def JI (c : Cc) (W : WE) (wi : TI) (f : Rho → R (List D)) : Prop := ∀ (σ : St) (ρ : Rho) (Hi H : Hp), Ok c Hi H → Sv c Hi H σ ρ → ∀ Q : It → Hp → Prop,
  Meet (f ρ) (fun ds => ∀ J Hi' H', Step c Hi H Hi' H' → WalkD c Hi' J ds → Q J H') (fun x => ∀ Hi' H', Step c Hi H Hi' H' → W x σ Hi' H') → wi σ H Q
def rIntD (lo : Int) (n : Nat) : List D := (List.range n).map fun i => .int (lo + (i : Nat))
def iSeq (f : Rho → R D) : Rho → R (List D) := fun ρ => (f ρ).bind fun d => match d with
  | .lst xs => .ok xs
  | .tup xs => .ok xs
  | .str z => .ok (z.cps.toList.map fun k => .str ⟨#[k]⟩)
  | _ => .bad
def iR1 (f : Rho → R (List D)) : Rho → R (List D) := fun ρ => (f ρ).bind fun ds => match ds with
  | [.int j] => if -(2 ^ 62) ≤ j ∧ j < 2 ^ 62 then .ok (rIntD 0 j.toNat) else .bad
  | _ => .bad
def iR2 (f : Rho → R (List D)) : Rho → R (List D) := fun ρ => (f ρ).bind fun ds => match ds with
  | [.int i, .int j] => if -(2 ^ 62) ≤ i ∧ i < 2 ^ 62 ∧ -(2 ^ 62) ≤ j ∧ j < 2 ^ 62 then .ok (rIntD i (j - i).toNat) else .bad
  | _ => .bad
def tiSeq (K : PySem.W.Frag) (te : TE) : TI := fun σ H R => iList K te σ H R ∨ (iTup K te σ H R ∨ iStr te σ H R)
/-- the three of them after one evaluation -/
def tiX (K : PySem.W.Frag) (te : TE) : TI := fun σ H R => te σ H fun x H1 => (∃ a, x = .ref a ∧ (∃ xs, SqL K H1 a xs) ∧ R (Itl K a) H1) ∨ (∃ a, x = .ref a ∧ (∃ xs, SqT K H1 a xs) ∧ R (Itt K a) H1) ∨ ∃ z, x = .str z ∧ R (Its z) H1
end Xd
namespace Xd
open PySem PySem.Spec PyProof.Rows L2
theorem pi_X {X : Cx} {tg l : Expr} {tl : TE} (hl : PE X l tl) : PI X tg l (tiX X.K tl) := by
  refine ⟨fun pins s σ H R I h => ?_⟩
  refine thn (hl.run pins s σ H _ I h) fun v s1 ⟨x, H1, I1, r1, q1⟩ => ?_
  rcases q1 with ⟨a, e, ⟨xs, hq⟩, q⟩ | ⟨a, e, ⟨xs, hq⟩, q⟩ | ⟨z, e, q⟩
  · subst e
    cases r1
    obtain ⟨its, rv, p, hz⟩ := I1.list hq
    refine wpAny_pyIter_list p.isList ?_
    exact pi_one (tk := s1.toks) I1 _ (turn_list a _) ⟨_, Heap.get?_push_size _ rfl, rfl, rfl⟩ q
  · subst e
    cases r1
    obtain ⟨its, rv, p, hz⟩ := I1.tuple hq
    refine wpAny_pyIter_tuple (show s1.heap.IsTuple a its.toArray from p) ?_
    exact pi_one (tk := s1.toks) I1 _ (turn_tuple a _) ⟨_, Heap.get?_push_size _ rfl, rfl, rfl⟩ q
  · subst e
    obtain ⟨t, rfl⟩ := r1
    cases ha : z.cps.all (· < 128)
    · exact wpAny_pyIter_wide ha (pi_one (tk := s1.toks) I1 _ (turn_str _ z t "str_iterator" (.inr rfl)) ⟨_, Heap.get?_push_size _ rfl, rfl, rfl⟩ q)
    · exact wpAny_pyIter_ascii ha (pi_one (tk := s1.toks) I1 _ (turn_str _ z t "str_ascii_iterator" (.inl rfl)) ⟨_, Heap.get?_push_size _ rfl, rfl, rfl⟩ q)
end Xd
namespace Xd
open PySem L2 Xg
section
variable {c : Cc} {W : WE} {te : TE} {ta : TA} {f : Rho → R D} {fs : Rho → R (List D)}
theorem walkD_seq {Hi : Hp} {J : It} {vs : List V} {ds : List D} {G : Hp → Prop} (w : Walk J vs.length G (YAt vs)) (hG : ∀ Hi2 H, Ok c Hi2 H → Same Hi Hi2 → G H) (d : DvA c.K c.cl Hi vs ds) : WalkD c Hi J ds := by
  refine ⟨G, YAt vs, by rw [← d.length]; exact w, hG, fun i x Hi2 H H' v e ok s y => ?_⟩
  obtain ⟨e1, e2⟩ := y
  subst e1
  obtain ⟨v', e3, dv⟩ := d.get e
  rw [e2] at e3
  cases e3
  exact ⟨Hi2, Step.refl ok, dv.up s⟩
theorem walkD_str {Hi : Hp} (z : Str) : WalkD c Hi (Its z) (z.cps.toList.map fun k => .str ⟨#[k]⟩) := by
  have w := walk_str (z := z)
  refine ⟨fun _ => True, _, (by rw [List.length_map, Array.length_toList]; exact w), fun _ _ _ _ => trivial, fun i x Hi2 H H' v e ok s y => ?_⟩
  obtain ⟨e1, k, e2, e3⟩ := y
  subst e1 e3
  rw [List.getElem?_map, Array.getElem?_toList, e2] at e
  cases e
  exact ⟨Hi2, Step.refl ok, .str _⟩
theorem walkD_rng {Hi : Hp} (lo : Int) (n : Nat) : WalkD c Hi (Itr lo n) (rIntD lo n) := by
  have w := walk_range (lo := lo) (n := n)
  refine ⟨fun _ => True, _, (by unfold rIntD; rw [List.length_map, List.length_range]; exact w), fun _ _ _ _ => trivial, fun i x Hi2 H H' v e ok s y => ?_⟩
  obtain ⟨e1, e3⟩ := y
  subst e1 e3
  unfold rIntD at e
  rw [List.getElem?_map] at e
  obtain ⟨j, ej, rfl⟩ := Option.map_eq_some_iff.mp e
  have e5 := List.getElem?_range (n := n) (i := i) (by
    have := (List.getElem?_eq_some_iff.mp ej).1
    simpa using this)
  rw [e5] at ej
  cases ej
  exact ⟨Hi2, Step.refl ok, .int _⟩
theorem ji_seq (ha : JE c W te f) : JI c W (tiX c.K te) (iSeq f) := fun σ ρ Hi H ok sv Q h => by
  refine ha σ ρ Hi H ok sv _ ((Meet.bind h).imp (fun d h v Hi1 H1 s1 d1 => ?_) fun x k => k)
  cases d with
  | lst xs =>
    cases d1 with
    | lst h1 h2 => exact .inl ⟨_, rfl, ⟨_, .inl (.inl (s1.ok.le _ _ h1))⟩, h _ Hi1 H1 s1 (walkD_seq walk_list (fun Hi2 H2 ok2 s2 => .inl (.inl (ok2.le _ _ (s2 _ _ h1)))) h2)⟩
  | tup xs =>
    cases d1 with
    | tup h1 h2 => exact .inr (.inl ⟨_, rfl, ⟨_, same_t s1.ok.le h1⟩, h _ Hi1 H1 s1 (walkD_seq walk_tup (fun Hi2 H2 ok2 s2 => same_t ok2.le (same_t s2 h1)) h2)⟩)
  | str z =>
    cases d1
    exact .inr (.inr ⟨z, rfl, h _ Hi1 H1 s1 (walkD_str z)⟩)
  | _ => exact h.elim
theorem ji_r1 (ha : JA c W ta fs) : JI c W (iRng1 ta) (iR1 fs) := fun σ ρ Hi H ok sv Q h => by
  refine ha σ ρ Hi H ok sv _ ((Meet.bind h).imp (fun d h v Hi1 H1 s1 d1 => ?_) fun x k => k)
  split at h
  · rename_i j
    obtain ⟨hj, h⟩ := meet_if h
    obtain ⟨u, rfl, du⟩ := dva1 d1
    cases du
    exact ⟨j, rfl, hj.1, hj.2, h _ Hi1 H1 s1 (walkD_rng 0 _)⟩
  · exact h.elim
theorem ji_r2 (ha : JA c W ta fs) : JI c W (iRng2 ta) (iR2 fs) := fun σ ρ Hi H ok sv Q h => by
  refine ha σ ρ Hi H ok sv _ ((Meet.bind h).imp (fun d h v Hi1 H1 s1 d1 => ?_) fun x k => k)
  split at h
  · rename_i i j
    obtain ⟨hj, h⟩ := meet_if h
    obtain ⟨u, w, rfl, du, dw⟩ := dva2 d1
    cases du
    cases dw
    exact ⟨i, j, rfl, hj, h _ Hi1 H1 s1 (walkD_rng i _)⟩
  · exact h.elim
/-- zip, enumerate over lists, tuples, texts -/
def itemsOf : D → Option (List D)
  | .lst xs => some xs
  | .tup xs => some xs
  | .str z => some (z.cps.toList.map fun k => .str ⟨#[k]⟩)
  | _ => none
def iZip (f : Rho → R (List D)) : Rho → R (List D) := fun ρ => (f ρ).bind fun ds => match ds with
  | [a, b] => match itemsOf a, itemsOf b with
    | some xs, some ys => .ok ((xs.zip ys).map fun p => .tup [p.1, p.2])
    | _, _ => .bad
  | _ => .bad
def iEnum (f : Rho → R (List D)) : Rho → R (List D) := fun ρ => (f ρ).bind fun ds => match ds with
  | [a] => match itemsOf a with
    | some xs => .ok (xs.zipIdx.map fun p => .tup [.int (p.2 : Nat), p.1])
    | none => .bad
  | _ => .bad
theorem src_of {Hi H : Hp} {v : V} {d : D} {xs : List D} (ok : Ok c Hi H) (dv : Dv c.K c.cl Hi v d) (e : itemsOf d = some xs) :
    ∃ (s1 : XgIter.Src) (vs : List V), v = s1.v ∧ (∀ Hi2 H2, Ok c Hi2 H2 → Same Hi Hi2 → s1.rd c.K H2 vs) ∧ DvA c.K c.cl Hi vs xs := by
  cases d with
  | lst ys =>
    cases e
    cases dv with
    | lst h1 h2 => exact ⟨.L _, _, rfl, fun Hi2 H2 ok2 s2 => .inl (.inl (ok2.le _ _ (s2 _ _ h1))), h2⟩
  | tup ys =>
    cases e
    cases dv with
    | tup h1 h2 => exact ⟨.T _, _, rfl, fun Hi2 H2 ok2 s2 => same_t ok2.le (same_t s2 h1), h2⟩
  | str z =>
    cases e
    cases dv
    refine ⟨.S z, _, rfl, fun Hi2 H2 ok2 s2 => rfl, ?_⟩
    generalize z.cps.toList = l
    induction l with
    | nil => exact .nil
    | cons k r ih => exact .cons (.str _) ih
  | _ => cases e
theorem walkD_pair {Hi : Hp} {J : It} {n : Nat} {xs ys : Nat → Option V} {ds : List D} {G : Hp → Prop} (w : Walk J n G (YPair xs ys)) (hn : n = ds.length) (hG : ∀ Hi2 H, Ok c Hi2 H → Same Hi Hi2 → G H)
    (hd : ∀ i d x y, ds[i]? = some d → xs i = some x → ys i = some y → ∃ a b, d = .tup [a, b] ∧ Dv c.K c.cl Hi x a ∧ Dv c.K c.cl Hi y b) : WalkD c Hi J ds := by
  subst hn
  refine ⟨G, _, w, hG, fun i d Hi2 H H' v e ok s y => ?_⟩
  obtain ⟨T, x, y, rfl, nT, rfl, ex, ey⟩ := y
  obtain ⟨a, b, rfl, da, db⟩ := hd i d x y e ex ey
  have st := Step.new (o := .tup [x, y]) ok nT
  exact ⟨_, st, .tup (.inl (.inl upd_same)) (.cons ((da.up s).up st.hi) (.cons ((db.up s).up st.hi) .nil))⟩
theorem ji_zip (ha : JA c W ta fs) : JI c W (XgIter.iZipX c.K ta) (iZip fs) := fun σ ρ Hi H ok sv Q h => by
  refine ha σ ρ Hi H ok sv _ ((Meet.bind h).imp (fun d h v Hi1 H1 s1 d1 => ?_) fun x k => k)
  split at h
  · rename_i a b
    split at h
    · rename_i xs ys e1 e2
      obtain ⟨u, w, rfl, du, dw⟩ := dva2 d1
      obtain ⟨r1, vs, rfl, g1, k1⟩ := src_of s1.ok du e1
      obtain ⟨r2, us, rfl, g2, k2⟩ := src_of s1.ok dw e2
      refine ⟨r1, r2, rfl, ⟨vs, g1 _ _ s1.ok (Same.refl _)⟩, ⟨us, g2 _ _ s1.ok (Same.refl _)⟩, h _ Hi1 H1 s1 ?_⟩
      refine walkD_pair (XgIter.walk_x (G := fun H => r1.rd c.K H vs ∧ r2.rd c.K H us) (fun _ g => g.1) (fun _ g => g.2)) ?_ (fun Hi2 H2 ok2 s2 => ⟨g1 _ _ ok2 s2, g2 _ _ ok2 s2⟩) fun i d x y ed ex ey => ?_
      · rw [List.length_map, List.length_zip, k1.length, k2.length]
      · rw [List.getElem?_map] at ed
        obtain ⟨⟨p1, p2⟩, ep, rfl⟩ := Option.map_eq_some_iff.mp ed
        rw [List.getElem?_zip_eq_some] at ep
        obtain ⟨v1, f1, dv1⟩ := k1.get ep.1
        obtain ⟨v2, f2, dv2⟩ := k2.get ep.2
        rw [f1] at ex
        rw [f2] at ey
        cases ex
        cases ey
        exact ⟨_, _, rfl, dv1, dv2⟩
    · exact h.elim
  · exact h.elim
theorem ji_enum (ha : JA c W ta fs) : JI c W (XgIter.iEnumX c.K ta) (iEnum fs) := fun σ ρ Hi H ok sv Q h => by
  refine ha σ ρ Hi H ok sv _ ((Meet.bind h).imp (fun d h v Hi1 H1 s1 d1 => ?_) fun x k => k)
  split at h
  · rename_i a
    split at h
    · rename_i xs e1
      obtain ⟨u, rfl, du⟩ := dva1 d1
      obtain ⟨r1, vs, rfl, g1, k1⟩ := src_of s1.ok du e1
      refine ⟨r1, rfl, ⟨vs, g1 _ _ s1.ok (Same.refl _)⟩, h _ Hi1 H1 s1 ?_⟩
      refine walkD_pair (XgIter.walk_y (G := fun H => r1.rd c.K H vs) (fun _ g => g)) ?_ (fun Hi2 H2 ok2 s2 => g1 _ _ ok2 s2) fun i d x y ed ex ey => ?_
      · rw [List.length_map, List.length_zipIdx, k1.length]
      · rw [List.getElem?_map] at ed
        obtain ⟨⟨p1, p2⟩, ep, rfl⟩ := Option.map_eq_some_iff.mp ed
        rw [List.getElem?_zipIdx] at ep
        obtain ⟨p3, ep2, e4⟩ := Option.map_eq_some_iff.mp ep
        cases e4
        obtain ⟨v1, f1, dv1⟩ := k1.get ep2
        rw [f1] at ey
        cases ex
        cases ey
        rw [Nat.zero_add]
        exact ⟨_, _, rfl, .int _, dv1⟩
    · exact h.elim
  · exact h.elim
end

/-! ### for -/
def forR (g : MG) (b : MS) : List D → Rho → Option O
  | [], ρ => some (.nx ρ)
  | d :: ds, ρ => match g d ρ with
    | none => none
    | some ρ1 => match b ρ1 with
      | some (.nx ρ') => forR g b ds ρ'
      | some (.ct ρ') => forR g b ds ρ'
      | some (.bk ρ') => some (.nx ρ')
      | o => o
def sFor (f : Rho → R (List D)) (g : MG) (b : MS) : MS := fun ρ => lift (f ρ) ρ fun ds => forR g b ds ρ
theorem js_for {c : Cc} {W : WE} {wi : TI} {fi : Rho → R (List D)} {g : TG} {fg : MG} {tb : TS} {b : MS} {ix : List Nat} (hi : JI c W wi fi) (hg : JG c ix g fg) (hb : JS c W tb b) : JS c W (tFor wi g tb) (sFor fi fg b) := fun σ ρ Hi H ok sv Dn h => by
  refine hi σ ρ Hi H ok sv _ ((AftO.lift h sv).imp (fun ds h J Hi1 H1 s1 w => ?_) fun x k => k)
  obtain ⟨G, Y, wk, hG, hY⟩ := w.ex
  refine for_it wk (fun i σ' H' => ∃ Hi' ρ', Ok c Hi' H' ∧ Same Hi1 Hi' ∧ Sv c Hi' H' σ' ρ' ∧ AftO c W Hi' Dn (forR fg b (ds.drop i) ρ')) ?_ ?_ ?_ ?_
  · exact ⟨Hi1, ρ, s1.ok, Same.refl _, sv.step s1, AftO.to h s1.hi⟩
  · rintro i σ' H' _ ⟨Hi', ρ', ok', sm, _, _⟩
    exact hG Hi' H' ok' sm
  · rintro i x σ' H2 H3 hi' ⟨Hi', ρ', ok', sm, sv', a⟩ y
    have ed : ds[i]? = some ds[i] := by simp [hi']
    obtain ⟨Hi3, s3, dv⟩ := hY i ds[i] Hi' H2 H3 x ed ok' sm y
    have ex : ds.drop i = ds[i] :: ds.drop (i + 1) := List.drop_eq_getElem_cons hi'
    rw [ex] at a
    unfold forR at a
    cases hgd : fg ds[i] ρ' with
    | none => rw [hgd] at a; exact a.elim
    | some ρ1 =>
      rw [hgd] at a
      simp only at a
      refine hg σ' ρ' ρ1 Hi3 H3 x _ s3.ok (sv'.step s3) dv hgd _ fun σ2 sv2 _ => ?_
      refine hb σ2 ρ1 Hi3 H3 s3.ok sv2 _ ?_
      cases hbr : b ρ1 with
      | none => rw [hbr] at a; exact a.elim
      | some o =>
        rw [hbr] at a
        cases o with
        | nx ρ2 => exact fun σ4 Hi4 H4 sm4 ok4 sv4 => ⟨Hi4, ρ2, ok4, (sm.trans s3.hi).trans sm4, sv4, AftO.to a (s3.hi.trans sm4)⟩
        | ct ρ2 => exact fun σ4 Hi4 H4 sm4 ok4 sv4 => ⟨Hi4, ρ2, ok4, (sm.trans s3.hi).trans sm4, sv4, AftO.to a (s3.hi.trans sm4)⟩
        | bk ρ2 => exact Nx.to a s3.hi
        | rt d => exact fun v Hi4 H4 sm4 => a v Hi4 H4 (s3.hi.trans sm4)
        | rf xs => exact fun p vs Hi4 H4 sm4 => a p vs Hi4 H4 (s3.hi.trans sm4)
        | ex x ρ2 => exact fun σ4 Hi4 H4 sm4 => a σ4 Hi4 H4 (s3.hi.trans sm4)
  · rintro σ' H' ⟨Hi', ρ', ok', sm, sv', a⟩
    rw [List.drop_length] at a
    exact a σ' Hi' H' (Same.refl _) ok' sv'

/-! ### while, with fuel -/
def whR (t : Rho → R Bool) (b : MS) : Nat → Rho → Option O
  | 0, _ => none
  | n + 1, ρ => lift (t ρ) ρ fun k => if k = true then match b ρ with
      | some (.nx ρ') => whR t b n ρ'
      | some (.ct ρ') => whR t b n ρ'
      | some (.bk ρ') => some (.nx ρ')
      | o => o
    else some (.nx ρ)
def sWhile (n : Nat) (t : Rho → R Bool) (b : MS) : MS := whR t b n
theorem js_while {c : Cc} {W : WE} {tt : TT} {fb : Rho → R Bool} {tb : TS} {b : MS} (n : Nat) (ht : JT c W tt fb) (hb : JS c W tb b) : JS c W (tWhile tt tb) (sWhile n fb b) := fun σ ρ Hi H ok sv Dn h => by
  refine ⟨fun m σ' H' => ∃ Hi' ρ', Ok c Hi' H' ∧ Sv c Hi' H' σ' ρ' ∧ AftO c W Hi' Dn (whR fb b m ρ'), ⟨n, Hi, ρ, ok, sv, h⟩, ?_⟩
  rintro m σ' H' ⟨Hi', ρ', ok', sv', a⟩
  cases m with
  | zero => exact a.elim
  | succ m =>
    unfold whR at a
    refine ht σ' ρ' Hi' H' ok' sv' _ ((AftO.lift a sv').imp (fun k a Hi1 H1 s1 => ?_) fun x k => k)
    cases k with
    | false => exact a σ' Hi1 H1 s1.hi s1.ok (sv'.step s1)
    | true =>
      rw [if_pos rfl]
      rw [if_pos rfl] at a
      refine ⟨fun σ2 H2 => ∃ Hi2 ρ2, Ok c Hi2 H2 ∧ Sv c Hi2 H2 σ2 ρ2 ∧ AftO c W Hi2 Dn (whR fb b m ρ2), fun σ2 H2 w => ⟨m, Nat.lt_succ_self m, w⟩, ?_⟩
      refine hb σ' ρ' Hi1 H1 s1.ok (sv'.step s1) _ ?_
      cases hbr : b ρ' with
      | none => rw [hbr] at a; exact a.elim
      | some o =>
        rw [hbr] at a
        cases o with
        | nx ρ2 => exact fun σ4 Hi4 H4 sm4 ok4 sv4 => ⟨Hi4, ρ2, ok4, sv4, AftO.to a (s1.hi.trans sm4)⟩
        | ct ρ2 => exact fun σ4 Hi4 H4 sm4 ok4 sv4 => ⟨Hi4, ρ2, ok4, sv4, AftO.to a (s1.hi.trans sm4)⟩
        | bk ρ2 => exact Nx.to a s1.hi
        | rt d => exact fun v Hi4 H4 sm4 => a v Hi4 H4 (s1.hi.trans sm4)
        | rf xs => exact fun p vs Hi4 H4 sm4 => a p vs Hi4 H4 (s1.hi.trans sm4)
        | ex x ρ2 => exact fun σ4 Hi4 H4 sm4 => a σ4 Hi4 H4 (s1.hi.trans sm4)

/-! ### comprehensions -/
def lcR (g : MG) (t : Rho → R Bool) (e : Rho → R D) (ρ : Rho) : List D → R (List D)
  | [] => .ok []
  | d :: ds => match g d ρ with
    | none => .bad
    | some ρ1 => (t ρ1).bind fun b => if b = true then (e ρ1).bind fun x => (lcR g t e ρ ds).bind fun r => .ok (x :: r) else lcR g t e ρ ds
def wipeR (ρ : Rho) : List Nat → Rho
  | [] => ρ
  | i :: r => (wipeR ρ r).set i .un
def lLc (f : Rho → R (List D)) (g : MG) (t : Rho → R Bool) (e : Rho → R D) (vs : List Nat) : Rho → R (List D) := fun ρ => (f ρ).bind fun ds => if ds.length ≤ 100000 then noX (lcR g t e (wipeR ρ vs) ds) else .bad
section
variable {c : Cc} {W : WE}
abbrev W0 : WE := fun _ _ _ _ => False
theorem Sv.wipe {Hi H : Hp} {σ : St} {ρ : Rho} (sv : Sv c Hi H σ ρ) : ∀ vs : List Nat, Sv c Hi H (L2.wipe σ vs) (wipeR ρ vs)
  | [] => sv
  | i :: r => (Sv.wipe sv r).setUn i none
theorem Sv.other {Hi H : Hp} {σ : St} {ρ : Rho} (sv : Sv c Hi H σ ρ) {p : Addr} {o : HO} (h : ∀ (j : Nat) (ys : List D), ρ[j]? = some (.own ys) → σ[j]? ≠ some (some (.ref p))) : Sv c Hi (upd H p o) σ ρ := by
  refine ⟨sv.len, fun i o' s a b => ?_, sv.apart⟩
  have k := sv.at' i o' s a b
  cases s with
  | un => trivial
  | err => exact k
  | val d => exact k
  | own xs =>
    obtain ⟨q, vs, e, e2, e3, e4, e5⟩ := k
    subst e
    refine ⟨q, vs, rfl, ?_, e3, e4, e5⟩
    rw [upd_ne]
    · exact e2
    · intro z
      subst z
      exact h i xs b a
theorem noX_meet {α : Type} {r : R α} {p : α → Prop} {q : Xc → Prop} (h : Meet (noX r) p q) : Meet r p fun _ => False := by
  cases r with
  | ok a => exact h
  | exc x => exact h
  | bad => exact h
theorem Step.chg {Hi H Hi' H' : Hp} {p : Addr} {vs ws : List V} (s : Step c Hi H Hi' H') (n : H p = none) (e : H' p = some (.lst vs)) (n' : Hi' p = none) : Step c Hi H Hi' (upd H' p (.lst ws)) :=
  ⟨s.hi, fun b o nb e1 => by rw [upd_ne (ne_of_none e1 n)]; exact s.h b o nb e1, s.fr, s.ok0, s.ok.change e n' (s.ok0.free0 n)⟩
theorem jl_lc {wi : TI} {fi : Rho → R (List D)} {g : TG} {fg : MG} {tt : TT} {fb : Rho → R Bool} {te : TE} {fe : Rho → R D} {ix : List Nat} (vs : List Nat) (hi : JI c W wi fi) (hg : JG c ix g fg) (ht : JT c W0 tt fb) (he : JE c W0 te fe)
    (hs : ∀ j ∈ ix, j ∈ vs) : JL c W (tLc wi g tt te vs) (lLc fi fg fb fe vs) := fun σ ρ Hi H ok sv Q h => by
  refine hi σ ρ Hi H ok sv _ ((Meet.bind h).imp (fun ds h J Hi1 H1 s1 w => ?_) fun x k => k)
  obtain ⟨hl, h⟩ := meet_if h
  have h := noX_meet h
  obtain ⟨G, Y, wk, hG, hY⟩ := w.ex
  intro D nD
  have sv1 := (sv.step s1).wipe vs
  have nown : ∀ (j : Nat) (ys : List Xd.D), (wipeR ρ vs)[j]? = some (.own ys) → (L2.wipe σ vs)[j]? ≠ some (some (.ref D)) := own_ne sv1 nD
  refine lc_it wk (fun i H' => ∃ Hi' acc done, Step c Hi1 H1 Hi' H' ∧ Hi' D = none ∧ H' D = some (.lst acc) ∧ DvA c.K c.cl Hi' acc done ∧ done.length ≤ i ∧
    Sv c Hi' H' (L2.wipe σ vs) (wipeR ρ vs) ∧ Meet (lcR fg fb fe (wipeR ρ vs) (ds.drop i)) (fun r => RetL c Hi H Q (done ++ r)) (fun _ => False)) ?_ ?_ ?_ ?_
  · have s2 := Step.newOwn (o := .lst []) s1.ok nD
    exact ⟨Hi1, [], [], s2, s1.ok.free nD, upd_same, .nil, Nat.le_refl _, sv1.step s2, h⟩
  · rintro i H' _ ⟨Hi', acc, done, st, _⟩
    exact hG Hi' H' st.ok st.hi
  · rintro i x H2 H3 hi' ⟨Hi', acc, done, st, nd, hD, dD, dl, sv', m⟩ y
    have ed : ds[i]? = some ds[i] := by simp [hi']
    obtain ⟨Hi3, s3, dv⟩ := hY i ds[i] Hi' H2 H3 x ed st.ok st.hi y
    have ex : ds.drop i = ds[i] :: ds.drop (i + 1) := List.drop_eq_getElem_cons hi'
    rw [ex] at m
    unfold lcR at m
    cases hgd : fg ds[i] (wipeR ρ vs) with
    | none => rw [hgd] at m; exact m.elim
    | some ρ1 =>
      rw [hgd] at m
      simp only at m
      refine hg _ _ ρ1 Hi3 H3 x _ s3.ok (sv'.step s3) dv hgd _ fun σ2 sv2 ch => ⟨ch.wipe hs, ?_⟩
      refine ht σ2 ρ1 Hi3 H3 s3.ok sv2 _ ((Meet.bind m).imp (fun b m Hi4 H4 s4 => ?_) fun x k => k.elim)
      have s34 := s3.trans s4
      cases b with
      | false =>
        rw [if_neg Bool.false_ne_true] at m ⊢
        exact ⟨Hi4, acc, done, st.trans s34, s34.fr _ _ hD nd, s34.lst hD, dD.up s34.hi, by omega, sv'.step s34, m⟩
      | true =>
        rw [if_pos rfl] at m ⊢
        refine he σ2 ρ1 Hi4 H4 s4.ok (sv2.step s4) _ ((Meet.bind m).imp (fun d m v Hi5 H5 s5 d5 => ?_) fun x k => k.elim)
        have s345 := s34.trans s5
        have nd5 := s345.fr _ _ hD nd
        have hD5 := s345.lst hD
        have sv5 := sv'.step s345
        refine ⟨acc, hD5, lim_lt (by rw [dD.length]; have := hi'; omega), Hi5, acc ++ [v], done ++ [d], (st.trans s345).chg nD hD5 nd5, nd5, upd_same,
          (dD.up s345.hi).append (.cons d5 .nil), by rw [List.length_append, List.length_singleton]; omega, sv5.other nown, ?_⟩
        refine (Meet.bind m).imp (fun r k => ?_) fun x k => k.elim
        have k : RetL c Hi H Q (done ++ (d :: r)) := k
        rw [List.append_assoc]
        exact k
  · rintro H' ⟨Hi', acc, done, st, nd, hD, dD, dl, sv', m⟩
    rw [List.drop_length] at m
    have m : RetL c Hi H Q (done ++ []) := m
    rw [List.append_nil] at m
    exact m D acc Hi' H' (s1.trans st) (s1.free nD) nd hD dD
end
end Xd
namespace Xd
open PySem L2 Xg

/-! ### errors -/
def XcAt (K : PySem.W.Frag) (cl : Nat → Addr) (Hi : Hp) (x : Xc) (e : Value) (d : Option Addr) : Prop :=
  ∃ dx vs, e = .ref (cl x.c) ∧ d = some dx ∧ Hi dx = some (.xd (x.ns.zip vs)) ∧ x.ns.length = vs.length ∧ DvA K cl Hi vs x.xs
def wX (K : PySem.W.Frag) (cl : Nat → Addr) (W : WX) : Xd.WE := fun x σ Hi H => ∀ e d, XcAt K cl Hi x e d → W e d σ H
abbrev wE (E : XK) : WX := fun cls d _ H => E cls d H

/-! ### promises -/
def spD (K : PySem.W.Frag) (cl : Nat → Addr) (tb : List Addr) (m : List D → R D) : Sp := fun vs H Q E => ∃ Hq ds, Ok ⟨K, cl, Hq, H, 0, tb⟩ Hq H ∧ DvA K cl Hq vs ds ∧
  Meet (m ds) (fun d => ∀ v Hi' H', Ok ⟨K, cl, Hq, H, 0, tb⟩ Hi' H' → Dv K cl Hi' v d → Q v H') (fun x => ∀ Hi' H', Ok ⟨K, cl, Hq, H, 0, tb⟩ Hi' H' → ∀ e d, XcAt K cl Hi' x e d → E e d H')
def spL (K : PySem.W.Frag) (cl : Nat → Addr) (tb : List Addr) (m : List D → R (List D)) : Sp := fun vs H Q E => ∃ Hq ds, Ok ⟨K, cl, Hq, H, 0, tb⟩ Hq H ∧ DvA K cl Hq vs ds ∧
  Meet (m ds) (fun xs => ∀ p us Hi' H', Ok ⟨K, cl, Hq, H, 0, tb⟩ Hi' H' → H p = none → Hi' p = none → H' p = some (.lst us) → DvA K cl Hi' us xs → Q (.ref p) H') (fun x => ∀ Hi' H', Ok ⟨K, cl, Hq, H, 0, tb⟩ Hi' H' → ∀ e d, XcAt K cl Hi' x e d → E e d H')
def rho0 (n : Nat) (ds : List D) : Rho := ds.map Sl.val ++ List.replicate (n - ds.length) .un
def outD : Option O → R D
  | some (.rt d) => .ok d
  | some (.rf xs) => .ok (.lst xs)
  | some (.nx _) => .ok .non
  | some (.ex x _) => .exc x
  | _ => .bad
def outL : Option O → R (List D)
  | some (.rf xs) => .ok xs
  | some (.ex x _) => .exc x
  | _ => .bad
/-- what a def with n slots and k parameters gives -/
def runD (n k : Nat) (g : MS) (ds : List D) : R D := if ds.length = k then outD (g (rho0 n ds)) else .bad
def runL (n k : Nat) (g : MS) (ds : List D) : R (List D) := if ds.length = k then outL (g (rho0 n ds)) else .bad
section
variable {P : Program} {w : World} {K : PySem.W.Frag} {mg : Str → Option Value} {base : Heap} {cl : Nat → Addr} {tb : List Addr}
theorem sv_start {c : Cc} {N : List Str} {Hi H : Hp} {vs : List V} {ds : List D} (d : DvA c.K c.cl Hi vs ds) : Sv c Hi H (L2.start N vs) (rho0 N.length ds) := by
  have hl := d.length
  unfold L2.start rho0
  refine ⟨by simp [hl], fun i o s a b => ?_, fun i j p xs ys a b _ _ => ?_⟩
  · by_cases hi : i < ds.length
    · rw [List.getElem?_append_left (by simpa [hl] using hi)] at a
      rw [List.getElem?_append_left (by simpa using hi)] at b
      rw [List.getElem?_map] at a b
      obtain ⟨d', e1, rfl⟩ := Option.map_eq_some_iff.mp b
      obtain ⟨v, e2, dv⟩ := d.get e1
      rw [e2] at a
      cases a
      exact ⟨v, rfl, dv⟩
    · rw [List.getElem?_append_right (by simpa using hi)] at b
      have := List.getElem?_replicate (n := N.length - ds.length) (i := i - (ds.map Sl.val).length) (a := Sl.un)
      rw [this] at b
      split at b
      · cases b; trivial
      · cases b
  · exfalso
    by_cases hi : i < ds.length
    · rw [List.getElem?_append_left (by simpa using hi), List.getElem?_map] at a
      obtain ⟨d', e1, e2⟩ := Option.map_eq_some_iff.mp a
      cases e2
    · rw [List.getElem?_append_right (by simpa using hi)] at a
      have := List.getElem?_replicate (n := N.length - ds.length) (i := i - (ds.map Sl.val).length) (a := Sl.un)
      rw [this] at a
      split at a <;> cases a
theorem runD_len {n k : Nat} {g : MS} {ds : List D} {p : D → Prop} {q : Xc → Prop} (h : Meet (runD n k g ds) p q) : ds.length = k ∧ Meet (outD (g (rho0 n ds))) p q := meet_if h
theorem runL_len {n k : Nat} {g : MS} {ds : List D} {p : List D → Prop} {q : Xc → Prop} (h : Meet (runL n k g ds) p q) : ds.length = k ∧ Meet (outL (g (rho0 n ds))) p q := meet_if h
/-- a def that raises nothing -/
theorem okD {x qual : Str} {st : Stmt} {f : Addr} {fd : FuncData} {N ps : List Str} {k : Nat} {g : MS} (F : Fun K x qual st f fd) (S : FnScope N ps (defScope st))
    (body : ∀ (cdv : Value) (A : Around) (outer : List Env) (s : Shared) (H Hq : Hp) (E : XK), Room k (A.deeper (PyProof.Rows.envOfC qual (defScope st) s.heap.objs.size f cdv)) →
      ∃ t, PSs (cxOf CX0 P w K mg base N qual (defScope st) f cdv A outer s H E).nox (defBody st) t ∧ JS ⟨K, cl, Hq, H, 0, tb⟩ W0 t g) :
    FnOk P w K mg base CX0 (k + 1) f fd ps (spD K cl tb fun ds => noX (runD N.length ps.length g ds)) := by
  refine F.ok S (fun vs H Q E h => ?_) (fun cdv A' outer s H vs Q E hr h => ?_)
  · obtain ⟨Hq, ds, _, d, m⟩ := h
    rw [d.length]
    exact (runD_len (noX_meet m)).1
  · obtain ⟨Hq, ds, sm, d, m⟩ := h
    obtain ⟨t, h1, h2⟩ := body cdv A' outer s H Hq E hr
    refine ⟨t, h1, h2 _ (rho0 N.length ds) Hq H sm (sv_start d) _ ?_⟩
    have m := (runD_len (noX_meet m)).2
    cases hg : g (rho0 N.length ds) with
    | none => rw [hg] at m; exact m.elim
    | some o =>
      rw [hg] at m
      cases o with
      | nx ρ => exact fun σ' Hi' H' sm' ok' sv' => m _ Hi' H' ok' .non
      | bk ρ => exact m.elim
      | ct ρ => exact m.elim
      | rt d => exact fun v Hi' H' sm' ok' dv => m v Hi' H' ok' dv
      | rf xs => exact fun p us Hi' H' sm' ok' e n n0 dv => m _ _ H' (ok'.freeze e (fun _ z => by cases z) n n0) (.lst upd_same (dv.up (same_upd n)))
      | ex x ρ => exact m.elim
theorem okL {x qual : Str} {st : Stmt} {f : Addr} {fd : FuncData} {N ps : List Str} {k : Nat} {g : MS} (F : Fun K x qual st f fd) (S : FnScope N ps (defScope st))
    (body : ∀ (cdv : Value) (A : Around) (outer : List Env) (s : Shared) (H Hq : Hp) (E : XK), Room k (A.deeper (PyProof.Rows.envOfC qual (defScope st) s.heap.objs.size f cdv)) →
      ∃ t, PSs (cxOf CX0 P w K mg base N qual (defScope st) f cdv A outer s H E).nox (defBody st) t ∧ JS ⟨K, cl, Hq, H, 0, tb⟩ W0 t g) :
    FnOk P w K mg base CX0 (k + 1) f fd ps (spL K cl tb fun ds => noX (runL N.length ps.length g ds)) := by
  refine F.ok S (fun vs H Q E h => ?_) (fun cdv A' outer s H vs Q E hr h => ?_)
  · obtain ⟨Hq, ds, _, d, m⟩ := h
    rw [d.length]
    exact (runL_len (noX_meet m)).1
  · obtain ⟨Hq, ds, sm, d, m⟩ := h
    obtain ⟨t, h1, h2⟩ := body cdv A' outer s H Hq E hr
    refine ⟨t, h1, h2 _ (rho0 N.length ds) Hq H sm (sv_start d) _ ?_⟩
    have m := (runL_len (noX_meet m)).2
    cases hg : g (rho0 N.length ds) with
    | none => rw [hg] at m; exact m.elim
    | some o =>
      rw [hg] at m
      cases o with
      | rf xs => exact fun p us Hi' H' sm' ok' e n n0 dv => m p us Hi' H' ok' n0 n e dv
      | _ => exact m.elim
/-- a def that may raise -/
theorem okDX {x qual : Str} {st : Stmt} {f : Addr} {fd : FuncData} {N ps : List Str} {k : Nat} {g : MS} (F : Fun K x qual st f fd) (S : FnScope N ps (defScope st))
    (body : ∀ (cdv : Value) (A : Around) (outer : List Env) (s : Shared) (H Hq : Hp) (E : XK), Room k (A.deeper (PyProof.Rows.envOfC qual (defScope st) s.heap.objs.size f cdv)) →
      ∃ t, PSs (cxOf (L2.CX P w) P w K mg base N qual (defScope st) f cdv A outer s H E) (defBody st) t ∧ JS ⟨K, cl, Hq, H, 0, tb⟩ (wX K cl (wE E)) t g) :
    FnOk P w K mg base (L2.CX P w) (k + 1) f fd ps (spD K cl tb (runD N.length ps.length g)) := by
  refine F.okX S (fun vs H Q E h => ?_) (fun cdv A' outer s H vs Q E hr h => ?_)
  · obtain ⟨Hq, ds, _, d, m⟩ := h
    rw [d.length]
    exact (runD_len m).1
  · obtain ⟨Hq, ds, sm, d, m⟩ := h
    obtain ⟨t, h1, h2⟩ := body cdv A' outer s H Hq E hr
    refine ⟨t, h1, h2 _ (rho0 N.length ds) Hq H sm (sv_start d) _ ?_⟩
    have m := (runD_len m).2
    cases hg : g (rho0 N.length ds) with
    | none => rw [hg] at m; exact m.elim
    | some o =>
      rw [hg] at m
      cases o with
      | nx ρ => exact fun σ' Hi' H' sm' ok' sv' => m _ Hi' H' ok' .non
      | bk ρ => exact m.elim
      | ct ρ => exact m.elim
      | rt d => exact fun v Hi' H' sm' ok' dv => m v Hi' H' ok' dv
      | rf xs => exact fun p us Hi' H' sm' ok' e n n0 dv => m _ _ H' (ok'.freeze e (fun _ z => by cases z) n n0) (.lst upd_same (dv.up (same_upd n)))
      | ex x ρ => exact fun σ' Hi' H' sm' ok' sv' e d ha => m Hi' H' ok' e d ha
theorem okLX {x qual : Str} {st : Stmt} {f : Addr} {fd : FuncData} {N ps : List Str} {k : Nat} {g : MS} (F : Fun K x qual st f fd) (S : FnScope N ps (defScope st))
    (body : ∀ (cdv : Value) (A : Around) (outer : List Env) (s : Shared) (H Hq : Hp) (E : XK), Room k (A.deeper (PyProof.Rows.envOfC qual (defScope st) s.heap.objs.size f cdv)) →
      ∃ t, PSs (cxOf (L2.CX P w) P w K mg base N qual (defScope st) f cdv A outer s H E) (defBody st) t ∧ JS ⟨K, cl, Hq, H, 0, tb⟩ (wX K cl (wE E)) t g) :
    FnOk P w K mg base (L2.CX P w) (k + 1) f fd ps (spL K cl tb (runL N.length ps.length g)) := by
  refine F.okX S (fun vs H Q E h => ?_) (fun cdv A' outer s H vs Q E hr h => ?_)
  · obtain ⟨Hq, ds, _, d, m⟩ := h
    rw [d.length]
    exact (runL_len m).1
  · obtain ⟨Hq, ds, sm, d, m⟩ := h
    obtain ⟨t, h1, h2⟩ := body cdv A' outer s H Hq E hr
    refine ⟨t, h1, h2 _ (rho0 N.length ds) Hq H sm (sv_start d) _ ?_⟩
    have m := (runL_len m).2
    cases hg : g (rho0 N.length ds) with
    | none => rw [hg] at m; exact m.elim
    | some o =>
      rw [hg] at m
      cases o with
      | rf xs => exact fun p us Hi' H' sm' ok' e n n0 dv => m p us Hi' H' ok' n0 n e dv
      | ex x ρ => exact fun σ' Hi' H' sm' ok' sv' e d ha => m Hi' H' ok' e d ha
      | _ => exact m.elim
end

/-! ### calls -/
section
variable {c : Cc} {W : Xd.WE} {ts : TA} {fs : Rho → R (List D)}
theorem ok_step {Hi H Hi' H' : Hp} (ok : Ok c Hi H) (o2 : Ok ⟨c.K, c.cl, Hi, H, 0, c.tb⟩ Hi' H') : Step c Hi H Hi' H' := by
  refine ⟨o2.q, o2.h, fun p o e n => ?_, ok, o2.le, ok.q.trans o2.q, ok.h.trans o2.h, fun p o e n => ?_, o2.tab, o2.tabI⟩
  · cases k : Hi' p with
    | none => rfl
    | some u =>
      have := o2.new p u k n
      rw [show H p = none from this] at e
      cases e
  · cases k : Hi p with
    | some u => exact ok.new p u k n
    | none => exact ok.free0 (o2.new p o e k)
theorem Ok.here {Hi H : Hp} (ok : Ok c Hi H) : Ok ⟨c.K, c.cl, Hi, H, 0, c.tb⟩ Hi H := ⟨ok.le, Same.refl _, SameT.refl _ _, fun p o e n => (by
    have n' : Hi p = none := n
    rw [e] at n'
    cases n'), ok.tab, ok.tabI⟩
theorem je_call0 {m : List D → R D} (ha : JA c W ts fs) : JE c W (tCall (spD c.K c.cl c.tb m) [] E0 ts) (eCall (fun ds => noX (m ds)) fs) := fun σ ρ Hi H ok sv Q h => by
  refine ha σ ρ Hi H ok sv _ ((Meet.bind h).imp (fun ds h vs Hi1 H1 s1 d1 => ?_) fun x k => k)
  rw [List.append_nil]
  refine ⟨Hi1, ds, s1.ok.here, d1, (noX_meet h).imp (fun d k v Hi2 H2 o2 dv => ?_) fun x k => k.elim⟩
  exact k v Hi2 H2 (s1.trans (ok_step s1.ok o2)) dv
theorem jl_call0 {m : List D → R (List D)} (ha : JA c W ts fs) : JL c W (tCall (spL c.K c.cl c.tb m) [] E0 ts) (lCall (fun ds => noX (m ds)) fs) := fun σ ρ Hi H ok sv Q h => by
  refine ha σ ρ Hi H ok sv _ ((Meet.bind h).imp (fun ds h vs Hi1 H1 s1 d1 => ?_) fun x k => k)
  rw [List.append_nil]
  refine ⟨Hi1, ds, s1.ok.here, d1, (noX_meet h).imp (fun d k p us Hi2 H2 o2 n n' e dv => ?_) fun x k => k.elim⟩
  exact k p us Hi2 H2 (s1.trans (ok_step s1.ok o2)) (s1.free n) n' e dv
theorem je_callE {m : List D → R D} {E : XK} (ha : JA c (wX c.K c.cl (wE E)) ts fs) : JE c (wX c.K c.cl (wE E)) (tCall (spD c.K c.cl c.tb m) [] E ts) (eCall m fs) := fun σ ρ Hi H ok sv Q h => by
  refine ha σ ρ Hi H ok sv _ ((Meet.bind h).imp (fun ds h vs Hi1 H1 s1 d1 => ?_) fun x k => k)
  rw [List.append_nil]
  refine ⟨Hi1, ds, s1.ok.here, d1, h.imp (fun d k v Hi2 H2 o2 dv => ?_) fun x k Hi2 H2 o2 e d a => ?_⟩
  · exact k v Hi2 H2 (s1.trans (ok_step s1.ok o2)) dv
  · exact k Hi2 H2 (s1.trans (ok_step s1.ok o2)) e d a
theorem jl_callE {m : List D → R (List D)} {E : XK} (ha : JA c (wX c.K c.cl (wE E)) ts fs) : JL c (wX c.K c.cl (wE E)) (tCall (spL c.K c.cl c.tb m) [] E ts) (lCall m fs) := fun σ ρ Hi H ok sv Q h => by
  refine ha σ ρ Hi H ok sv _ ((Meet.bind h).imp (fun ds h vs Hi1 H1 s1 d1 => ?_) fun x k => k)
  rw [List.append_nil]
  refine ⟨Hi1, ds, s1.ok.here, d1, h.imp (fun d k p us Hi2 H2 o2 n n' e dv => ?_) fun x k Hi2 H2 o2 e d a => ?_⟩
  · exact k p us Hi2 H2 (s1.trans (ok_step s1.ok o2)) (s1.free n) n' e dv
  · exact k Hi2 H2 (s1.trans (ok_step s1.ok o2)) e d a
/-- in a try -/
theorem je_callS {m : List D → R D} {V : WX} (ha : JA c (wX c.K c.cl V) ts fs) : JE c (wX c.K c.cl V) (tCallS (spD c.K c.cl c.tb m) (L2.WE V) ts) (eCall m fs) := fun σ ρ Hi H ok sv Q h => by
  refine ha σ ρ Hi H ok sv _ ((Meet.bind h).imp (fun ds h vs Hi1 H1 s1 d1 => ?_) fun x k => k)
  refine ⟨Hi1, ds, s1.ok.here, d1, h.imp (fun d k v Hi2 H2 o2 dv => ?_) fun x k Hi2 H2 o2 e d a => ?_⟩
  · exact k v Hi2 H2 (s1.trans (ok_step s1.ok o2)) dv
  · exact k Hi2 H2 (s1.trans (ok_step s1.ok o2)) e d a
theorem jl_callS {m : List D → R (List D)} {V : WX} (ha : JA c (wX c.K c.cl V) ts fs) : JL c (wX c.K c.cl V) (tCallS (spL c.K c.cl c.tb m) (L2.WE V) ts) (lCall m fs) := fun σ ρ Hi H ok sv Q h => by
  refine ha σ ρ Hi H ok sv _ ((Meet.bind h).imp (fun ds h vs Hi1 H1 s1 d1 => ?_) fun x k => k)
  refine ⟨Hi1, ds, s1.ok.here, d1, h.imp (fun d k p us Hi2 H2 o2 n n' e dv => ?_) fun x k Hi2 H2 o2 e d a => ?_⟩
  · exact k p us Hi2 H2 (s1.trans (ok_step s1.ok o2)) (s1.free n) n' e dv
  · exact k Hi2 H2 (s1.trans (ok_step s1.ok o2)) e d a

/-! ### raise -/
def sRaise1 (n : Nat) (f : Str) (fs : Rho → R (List D)) : MS := fun ρ => lift (fs ρ) ρ fun ds => match ds with
  | [.str y] => if y.length ≤ 100000 then some (.ex ⟨n, [f], [.str y]⟩ ρ) else none
  | _ => none
def sRaise2 (n : Nat) (fs : Rho → R (List D)) : MS := fun ρ => lift (fs ρ) ρ fun ds => match ds with
  | [.int i, .int j] => if (0 ≤ i ∧ i < 2 ^ 62) ∧ 0 ≤ j ∧ j < 2 ^ 62 then some (.ex ⟨n, ["column", "line"], [.int j, .int i]⟩ ρ) else none
  | _ => none
theorem aft_if {P : Prop} [Decidable P] {Hi : Hp} {Dn : Ends} {a : Option O} (h : AftO c W Hi Dn (if P then a else none)) : P ∧ AftO c W Hi Dn a := by
  by_cases hp : P
  · rw [if_pos hp] at h; exact ⟨hp, h⟩
  · rw [if_neg hp] at h; exact h.elim
theorem js_raise1 {V : WX} {n : Nat} {f : Str} (ha : JA c (wX c.K c.cl V) ts fs) : JS c (wX c.K c.cl V) (fun _ σ H => XgSup.tMkS (c.cl n) f ts σ H fun cls d H' => V cls d σ H') (sRaise1 n f fs) := fun σ ρ Hi H ok sv Dn h => by
  refine ha σ ρ Hi H ok sv _ ((AftO.lift h sv).imp (fun ds h vs Hi1 H1 s1 d1 => ?_) fun x k => k)
  split at h
  · rename_i y
    obtain ⟨hy, h⟩ := aft_if h
    obtain ⟨v, rfl, dv⟩ := dva1 d1
    cases dv
    refine ⟨y, rfl, hy, fun d nd => ?_⟩
    have s2 := Step.new (o := .xd [(f, .str y)]) s1.ok nd
    exact h σ _ _ (s1.hi.trans s2.hi) s2.ok (sv.step (s1.trans s2)) _ _ ⟨d, [.str y], rfl, rfl, upd_same, rfl, .cons (.str _) .nil⟩
  · exact h.elim
theorem js_raise2 {V : WX} {n : Nat} (ha : JA c (wX c.K c.cl V) ts fs) : JS c (wX c.K c.cl V) (fun _ σ H => XgSup2.tMkS (c.cl n) ts σ H fun cls d H' => V cls d σ H') (sRaise2 n fs) := fun σ ρ Hi H ok sv Dn h => by
  refine ha σ ρ Hi H ok sv _ ((AftO.lift h sv).imp (fun ds h vs Hi1 H1 s1 d1 => ?_) fun x k => k)
  split at h
  · rename_i i j
    obtain ⟨⟨⟨h1, h2⟩, h3, h4⟩, h⟩ := aft_if h
    obtain ⟨v, u, rfl, dv, du⟩ := dva2 d1
    cases dv
    cases du
    refine ⟨i, j, rfl, XgSup2.log_small h1 h2, XgSup2.log_small h3 h4, fun d nd => ?_⟩
    have s2 := Step.new (o := .xd [("column", .int j), ("line", .int i)]) s1.ok nd
    exact h σ _ _ (s1.hi.trans s2.hi) s2.ok (sv.step (s1.trans s2)) _ _ ⟨d, [.int j, .int i], rfl, rfl, upd_same, rfl, .cons (.int _) (.cons (.int _) .nil)⟩
  · exact h.elim
end
end Xd
namespace Xd
open PySem L2 Xg

/-! ### built-in functions -/
def cListL (as : List D) : Option (List D) := match as with
  | [.lst xs] => some xs
  | [.tup xs] => some xs
  | _ => none
def cTuple (as : List D) : Option D := match as with
  | [.lst xs] => some (.tup xs)
  | [.tup xs] => some (.tup xs)
  | _ => none
def cInt (as : List D) : Option D := match as with
  | [.int i] => some (.int i)
  | [.bl k] => some (.int (if k then 1 else 0))
  | [.str a] => if a.length ≤ 640 then (PySem.intText? a).map fun n => .int n else none
  | _ => none
def cStr (as : List D) : Option D := match as with
  | [.int i] => if i.natAbs < 2 ^ 62 then some (.str (toString i)) else none
  | _ => none
def cAbs (as : List D) : Option D := match as with
  | [.int i] => some (.int (if i < 0 then -i else i))
  | _ => none
def cMax2 (as : List D) : Option D := match as with
  | [.int i, .int j] => some (.int (if j > i then j else i))
  | _ => none
def cMin2 (as : List D) : Option D := match as with
  | [.int i, .int j] => some (.int (if j < i then j else i))
  | _ => none
def rIntX : List V → Hp → VK → Prop := fun xs H Q => ((∃ i, xs = [.int i] ∧ Q (.int i) H) ∨ ∃ k, xs = [.bl k] ∧ Q (.int (if k then 1 else 0)) H) ∨ ∃ a n, xs = [.str a] ∧ PySem.intText? a = some n ∧ a.length ≤ 640 ∧ Q (.int n) H
theorem call_intX {X : Cx} : CallR X (.type "int") rIntX := CallR.or call_int1 call_int_str
section
variable {c : Cc}
theorem jcl_list : JCL c (fun xs H Q => ∃ p ys, xs = [.ref p] ∧ (SqL c.K H p ys ∨ SqT c.K H p ys) ∧ ∀ l, H l = none → Q (.ref l) (upd H l (.lst ys))) cListL := fun Hi H ok xs as d Q hx e q => by
  unfold cListL at e
  split at e
  · cases e
    obtain ⟨v, rfl, h⟩ := dva1 hx
    cases h with
    | lst h1 h2 => exact ⟨_, _, rfl, .inl (.inl (.inl (ok.le _ _ h1))), fun p np => q.lst ok h2 p np⟩
  · cases e
    obtain ⟨v, rfl, h⟩ := dva1 hx
    cases h with
    | tup h1 h2 => exact ⟨_, _, rfl, .inr (same_t ok.le h1), fun p np => q.lst ok h2 p np⟩
  · cases e
theorem jc_tuple : JC c (fun xs H Q => ∃ p ys, xs = [.ref p] ∧ ((SqL c.K H p ys ∧ ∀ l, H l = none → Q (.ref l) (upd H l (.tup ys))) ∨ (SqT c.K H p ys ∧ Q (.ref p) H))) cTuple := fun Hi H ok xs as d Q hx e q => by
  unfold cTuple at e
  split at e
  · cases e
    obtain ⟨v, rfl, h⟩ := dva1 hx
    cases h with
    | lst h1 h2 => exact ⟨_, _, rfl, .inl ⟨.inl (.inl (ok.le _ _ h1)), fun p np => q.tup ok h2 p np⟩⟩
  · cases e
    obtain ⟨v, rfl, h⟩ := dva1 hx
    cases h with
    | tup h1 h2 => exact ⟨_, _, rfl, .inr ⟨same_t ok.le h1, q.here ok (.tup h1 h2)⟩⟩
  · cases e
theorem jc_int : JC c rIntX cInt := fun Hi H ok xs as d Q hx e q => by
  unfold cInt at e
  split at e
  · cases e
    obtain ⟨v, rfl, h⟩ := dva1 hx
    cases h
    exact .inl (.inl ⟨_, rfl, q.here ok (.int _)⟩)
  · cases e
    obtain ⟨v, rfl, h⟩ := dva1 hx
    cases h
    exact .inl (.inr ⟨_, rfl, q.here ok (.int _)⟩)
  · rename_i a
    by_cases ha : a.length ≤ 640
    · rw [if_pos ha] at e
      obtain ⟨n, e1, rfl⟩ := Option.map_eq_some_iff.mp e
      obtain ⟨v, rfl, h⟩ := dva1 hx
      cases h
      exact .inr ⟨_, n, rfl, e1, ha, q.here ok (.int _)⟩
    · rw [if_neg ha] at e
      cases e
  · cases e
theorem jc_str : JC c (fun xs H Q => ∃ i, xs = [.int i] ∧ i.natAbs.log2 < 1920 ∧ Q (.str (toString i)) H) cStr := fun Hi H ok xs as d Q hx e q => by
  unfold cStr at e
  split at e
  · rename_i i
    obtain ⟨hi, rfl⟩ := if_some e
    obtain ⟨v, rfl, h⟩ := dva1 hx
    cases h
    refine ⟨_, rfl, ?_, q.here ok (.str _)⟩
    by_cases hz : i.natAbs = 0
    · rw [hz]; decide
    · exact Nat.lt_trans ((Nat.log2_lt hz).mpr hi) (by decide)
  · cases e
theorem jc_abs : JC c (fun xs H Q => ∃ i, xs = [.int i] ∧ Q (.int (if i < 0 then -i else i)) H) cAbs := fun Hi H ok xs as d Q hx e q => by
  unfold cAbs at e
  split at e
  · cases e
    obtain ⟨v, rfl, h⟩ := dva1 hx
    cases h
    exact ⟨_, rfl, q.here ok (.int _)⟩
  · cases e
theorem jc_max2 : JC c (fun xs H Q => ∃ i j, xs = [.int i, .int j] ∧ Q (.int (if j > i then j else i)) H) cMax2 := fun Hi H ok xs as d Q hx e q => by
  unfold cMax2 at e
  split at e
  · cases e
    obtain ⟨v, u, rfl, h, h'⟩ := dva2 hx
    cases h
    cases h'
    exact ⟨_, _, rfl, q.here ok (.int _)⟩
  · cases e
theorem jc_min2 : JC c (fun xs H Q => ∃ i j, xs = [.int i, .int j] ∧ Q (.int (if j < i then j else i)) H) cMin2 := fun Hi H ok xs as d Q hx e q => by
  unfold cMin2 at e
  split at e
  · cases e
    obtain ⟨v, u, rfl, h, h'⟩ := dva2 hx
    cases h
    cases h'
    exact ⟨_, _, rfl, q.here ok (.int _)⟩
  · cases e

/-! ### isinstance of data, built-in types -/
def tyD : D → Option String
  | .non => some "NoneType"
  | .bl _ => some "bool"
  | .int _ => some "int"
  | .str _ => some "str"
  | .lst _ => some "list"
  | .tup _ => some "tuple"
  | _ => none
def isub (a b : String) : Bool := a == b || (a == "bool" && b == "int")
def tyL : List String := ["NoneType", "bool", "int", "str", "list", "tuple", "dict"]
/-- what the fragment's decider says of built-in types -/
def KitOk (K : PySem.W.Frag) : Prop := ∀ a ∈ tyL, ∀ b ∈ tyL, PySem.W.kitOne K (.type a) (.type b) = some (isub a b)
def cIsi (as : List D) : Option D := match as with
  | [a, .opq (.ty n)] => match tyD a with
    | some t => if n ∈ tyL then some (.bl (isub t n)) else none
    | none => none
  | _ => none
theorem tyT {K : PySem.W.Frag} {H : Hp} {a : Addr} {xs : List V} (h : SqT K H a xs) : TyX K H (.ref a) (.type "tuple") := by
  rcases h with (h | ⟨o, h⟩) | ⟨o, its, n, e, cc, _⟩
  · exact .base (.tup h)
  · exact .fTuple h
  · exact .kTuple e cc
theorem tyD_ok {Hi H : Hp} (ok : Ok c Hi H) {v : V} {d : D} {t : String} (h : Dv c.K c.cl Hi v d) (e : tyD d = some t) : TyX c.K H v (.type t) ∧ t ∈ tyL := by
  cases d with
  | non => cases e; cases h; exact ⟨.base .non, by decide⟩
  | bl b => cases e; cases h; exact ⟨.base (.bl b), by decide⟩
  | int i => cases e; cases h; exact ⟨.base (.int i), by decide⟩
  | str s => cases e; cases h; exact ⟨.base (.str s), by decide⟩
  | lst xs => cases e; cases h with | lst h1 h2 => exact ⟨.base (.lst (ok.le _ _ h1)), by decide⟩
  | tup xs => cases e; cases h with | tup h1 h2 => exact ⟨tyT (same_t ok.le h1), by decide⟩
  | _ => cases e
theorem jc_isi (kit : KitOk c.K) : JC c (rIsi c.K) cIsi := fun Hi H ok xs as d Q hx e q => by
  unfold cIsi at e
  split at e
  · rename_i a n
    split at e
    · rename_i t et
      obtain ⟨hn, rfl⟩ := if_some e
      obtain ⟨v, u, rfl, h, h'⟩ := dva2 hx
      cases h'
      obtain ⟨ty, ht⟩ := tyD_ok ok h et
      exact ⟨v, .ty n, .type t, .type n, isub t n, rfl, .ty n, ty, kit t ht n hn, q.here ok (.bl _)⟩
    · cases e
  · cases e
end

/-! ### texts -/
/-- one sign or more between -/
def mSplitL (a : D) (as : List D) : Option (List D) := match a, as with
  | .str a, [.str b] => if (b.length == 0) = false ∧ a.length ≤ 100000 then some ((Txt.split a b).map D.str) else none
  | _, _ => none
def strList : List D → Option (List Str)
  | [] => some []
  | .str s :: r => match strList r with
    | some ss => some (s :: ss)
    | none => none
  | _ => none
def mJoin (a : D) (as : List D) : Option D := match a, as with
  | .str a, [.lst xs] => match strList xs with
    | some ys => if (ys.map (·.length)).sum + ys.length * a.length ≤ 100000 then some (.str (Txt.join a ys)) else none
    | none => none
  | .str a, [.tup xs] => match strList xs with
    | some ys => if (ys.map (·.length)).sum + ys.length * a.length ≤ 100000 then some (.str (Txt.join a ys)) else none
    | none => none
  | _, _ => none
def mStripC (a : D) (as : List D) : Option D := match a, as with
  | .str a, [.str b] => if a.length ≤ 100000 then some (.str (Txt.stripChars a b)) else none
  | _, _ => none
def eM1 (o : D → List D → Option D) (f g : Rho → R D) : Rho → R D := fun ρ => (f ρ).bind fun a => match a with
  | .str _ => (g ρ).bind fun b => ro (o a [b])
  | _ => .bad
def lM1 (o : D → List D → Option (List D)) (f g : Rho → R D) : Rho → R (List D) := fun ρ => (f ρ).bind fun a => match a with
  | .str _ => (g ρ).bind fun b => ro (o a [b])
  | _ => .bad
section
variable {c : Cc} {W : Xd.WE} {ta tb : TE} {f g : Rho → R D}
theorem je_m1 {r : V → List V → Hp → VK → Prop} {o : D → List D → Option D} (ho : JM c r o) (ha : JE c W ta f) (hb : JE c W tb g) : JE c W (tM1 r ta tb) (eM1 o f g) := fun σ ρ Hi H ok sv Q h => by
  refine ha σ ρ Hi H ok sv _ ((Meet.bind h).imp (fun a h v Hi1 H1 s1 d1 => ?_) fun x k => k)
  cases a with
  | str s =>
    cases d1
    refine ⟨⟨s, rfl⟩, hb σ ρ Hi1 H1 s1.ok (sv.step s1) _ (meet_step s1 (Meet.bind h) fun b h v2 Hi2 H2 s2 d2 => ?_)⟩
    exact ro_meet h fun d e q => ho Hi2 H2 s2.ok _ _ _ _ d Q (.str s) (.cons d2 .nil) e (RetD.to q (s1.trans s2))
  | _ => exact h.elim
theorem jl_m1 {r : V → List V → Hp → VK → Prop} {o : D → List D → Option (List D)} (ho : JML c r o) (ha : JE c W ta f) (hb : JE c W tb g) : JL c W (tM1 r ta tb) (lM1 o f g) := fun σ ρ Hi H ok sv Q h => by
  refine ha σ ρ Hi H ok sv _ ((Meet.bind h).imp (fun a h v Hi1 H1 s1 d1 => ?_) fun x k => k)
  cases a with
  | str s =>
    cases d1
    refine ⟨⟨s, rfl⟩, hb σ ρ Hi1 H1 s1.ok (sv.step s1) _ (meet_step s1 (Meet.bind h) fun b h v2 Hi2 H2 s2 d2 => ?_)⟩
    exact ro_meet h fun d e q => ho Hi2 H2 s2.ok _ _ _ _ d Q (.str s) (.cons d2 .nil) e (RetL.to (fun p v Hi2 H2 s2 n n2 e e2 => q p v Hi2 H2 s2 n n2 e e2) (s1.trans s2))
  | _ => exact h.elim
theorem dva_strl {K : PySem.W.Frag} {cl : Nat → Addr} {Hi : Hp} : ∀ zs : List Str, DvA K cl Hi (zs.map V.str) (zs.map D.str)
  | [] => .nil
  | z :: r => .cons (.str z) (dva_strl r)
theorem strList_ok {K : PySem.W.Frag} {cl : Nat → Addr} {Hi : Hp} : ∀ {xs : List D} {vs : List V} {ys : List Str}, DvA K cl Hi vs xs → strList xs = some ys → vs = ys.map V.str
  | [], _, _, h, e => by cases h; simp [strList] at e; subst e; rfl
  | d :: r, _, ys, h, e => by
    cases h with
    | cons h1 h2 =>
      cases d with
      | str s =>
        simp only [strList] at e
        split at e
        · rename_i ss e1
          cases e
          cases h1
          rw [strList_ok h2 e1]
          rfl
        · cases e
      | _ => simp [strList] at e
theorem jml_split : JML c (fun x xs H Q => ∃ a b, x = .str a ∧ xs = [.str b] ∧ (b.length == 0) = false ∧ a.length + 2 ≤ sizeLine ∧ rNewStrs (Txt.split a b) H Q) mSplitL := fun Hi H ok x xs a as d Q hx hs e q => by
  unfold mSplitL at e
  split at e
  · rename_i a b
    obtain ⟨⟨h1, h2⟩, rfl⟩ := if_some e
    cases hx
    obtain ⟨v, rfl, h⟩ := dva1 hs
    cases h
    exact ⟨_, _, rfl, rfl, h1, Nat.le_trans (Nat.add_le_add_right h2 2) (by decide), fun p np => q.lst ok (dva_strl _) p np⟩
  · cases e
theorem jm_join : JM c (fun x xs H Q => ∃ a p, ∃ ys : List Str, x = .str a ∧ xs = [.ref p] ∧ (SqL c.K H p (ys.map V.str) ∨ SqT c.K H p (ys.map V.str)) ∧
      (ys.map (·.length)).sum + ys.length * a.length ≤ 16777216 ∧ Q (.str (Txt.join a ys)) H) mJoin := fun Hi H ok x xs a as d Q hx hs e q => by
  unfold mJoin at e
  split at e
  · split at e
    · rename_i ys ey
      obtain ⟨h1, rfl⟩ := if_some e
      cases hx
      obtain ⟨v, rfl, h⟩ := dva1 hs
      cases h with
      | lst k1 k2 =>
        have z := strList_ok k2 ey
        subst z
        exact ⟨_, _, ys, rfl, rfl, .inl (.inl (.inl (ok.le _ _ k1))), Nat.le_trans h1 (by decide), q.here ok (.str _)⟩
    · cases e
  · split at e
    · rename_i ys ey
      obtain ⟨h1, rfl⟩ := if_some e
      cases hx
      obtain ⟨v, rfl, h⟩ := dva1 hs
      cases h with
      | tup k1 k2 =>
        have z := strList_ok k2 ey
        subst z
        exact ⟨_, _, ys, rfl, rfl, .inr (same_t ok.le k1), Nat.le_trans h1 (by decide), q.here ok (.str _)⟩
    · cases e
  · cases e
theorem jm_stripC : JM c (fun x xs H Q => ∃ a b, x = .str a ∧ xs = [.str b] ∧ a.length ≤ sizeLine ∧ Q (.str (Txt.stripChars a b)) H) mStripC := fun Hi H ok x xs a as d Q hx hs e q => by
  unfold mStripC at e
  split at e
  · obtain ⟨h1, rfl⟩ := if_some e
    cases hx
    obtain ⟨v, rfl, h⟩ := dva1 hs
    cases h
    exact ⟨_, _, rfl, rfl, lim_le h1, q.here ok (.str _)⟩
  · cases e
end

/-! ### try .. except X as e -/
def noErr : Rho → Rho := List.map fun s => match s with
  | .err => .un
  | s => s
def eXf (x : Xc) (f : Str) : Rho → R D := fun _ => ro ((x.ns.zip x.xs).lookup f)
def aftTry (i : Nat) : Option O → Option O
  | some (.nx ρ) => some (.nx (noErr (ρ.set i .un)))
  | some (.bk ρ) => some (.bk (noErr (ρ.set i .un)))
  | some (.ct ρ) => some (.ct (noErr (ρ.set i .un)))
  | some (.rt d) => some (.rt d)
  | some (.rf xs) => some (.rf xs)
  | _ => none
def sTry (exm : Nat → Option Bool) (i : Nat) (gb : MS) (gs : Xc → MS) : MS := fun ρ => match gb ρ with
  | some (.ex x ρ') => match exm x.c with
    | some true => aftTry i (gs x ((noErr ρ').set i .err))
    | some false => some (.ex x ρ')
    | none => none
  | o => o
section
variable {c : Cc}
theorem Ok.turn {Hi H : Hp} (ok : Ok c Hi H) (a : Addr) : Ok ⟨c.K, c.cl, Hi, c.H0, a, c.tb⟩ Hi H := ⟨ok.le, Same.refl _, ok.h, fun p o e n => (by
    have n' : Hi p = none := n
    rw [e] at n'
    cases n'), ok.tab, ok.tabI⟩
theorem Ok.back {Hi0 Hi H H0 : Hp} {a : Addr} (ok0 : Ok c Hi0 H0) (ok : Ok ⟨c.K, c.cl, Hi0, c.H0, a, c.tb⟩ Hi H) : Ok c Hi H := ⟨ok.le, ok0.q.trans ok.q, ok.h, fun p o e n => (by
    cases k : Hi0 p with
    | some u => exact ok0.new p u k n
    | none => exact ok.new p o e k), ok.tab, ok.tabI⟩
theorem noErr_get {ρ : Rho} {j : Nat} {s : Sl} (h : (noErr ρ)[j]? = some s) : s ≠ .err ∧ (s = .un ∨ ρ[j]? = some s) := by
  unfold noErr at h
  rw [List.getElem?_map] at h
  obtain ⟨s', h1, h2⟩ := Option.map_eq_some_iff.mp h
  cases s' <;> (simp at h2; subst h2; first | exact ⟨by simp, .inl rfl⟩ | exact ⟨by simp, .inr h1⟩)
/-- another context, but for the caught error -/
theorem Sv.recx {K : PySem.W.Frag} {cl : Nat → Addr} {Hq Hq' H0 Hi H : Hp} {a a' : Addr} {tb : List Addr} {σ : L2.St} {ρ : Rho} (sv : Sv ⟨K, cl, Hq, H0, a, tb⟩ Hi H σ ρ) : Sv ⟨K, cl, Hq', H0, a', tb⟩ Hi H σ (noErr ρ) := by
  refine ⟨by simp [noErr, sv.len], fun j o s x y => ?_, fun j k p xs ys x y x' y' => ?_⟩
  · obtain ⟨h1, h2⟩ := noErr_get y
    rcases h2 with rfl | h2
    · trivial
    · have k := sv.at' j o s x h2
      cases s with
      | un => trivial
      | err => exact absurd rfl h1
      | val d => exact k
      | own zs => exact k
  · obtain ⟨_, h1⟩ := noErr_get x
    obtain ⟨_, h2⟩ := noErr_get y
    rcases h1 with h1 | h1
    · cases h1
    rcases h2 with h2 | h2
    · cases h2
    exact sv.apart j k p _ _ h1 h2 x' y'
theorem Sv.setErr {c : Cc} {Hi H : Hp} {σ : L2.St} {ρ : Rho} (sv : Sv c Hi H σ ρ) (i : Nat) : Sv c Hi H (σ.set i (some (.ref c.ea))) (ρ.set i .err) := by
  have sv2 := sv.setUn i (some (.ref c.ea))
  refine ⟨by simp [sv.len], fun j o s x y => ?_, fun j k p xs ys x y x' y' => ?_⟩
  · by_cases hj : j = i
    · subst hj
      have h1 : j < σ.length := by
        have := (List.getElem?_eq_some_iff.mp x).1
        simpa using this
      have h2 : j < ρ.length := by rw [← sv.len]; exact h1
      rw [List.getElem?_set_self h1] at x
      rw [List.getElem?_set_self h2] at y
      cases x
      cases y
      rfl
    · rw [List.getElem?_set_ne (Ne.symm hj)] at x y
      exact sv.at' j o s x y
  · have f : ∀ (j : Nat) (zs : List D), (ρ.set i .err)[j]? = some (.own zs) → (ρ.set i .un)[j]? = some (.own zs) := fun j zs h => by
      by_cases hj : j = i
      · subst hj
        have h2 : j < ρ.length := by
          have := (List.getElem?_eq_some_iff.mp h).1
          simpa using this
        rw [List.getElem?_set_self h2] at h
        cases h
      · rw [List.getElem?_set_ne (Ne.symm hj)] at h ⊢
        exact h
    exact sv2.apart j k p _ _ (f j _ x) (f k _ y) x' y'
def aftTry' (i : Nat) (ρ : Rho) : Rho := noErr (ρ.set i .un)
theorem js_try {tb : WX → TS} {ts : Addr → Value → Option Addr → TS} {Vout : WX} {gb : MS} {gs : Xc → MS} {exm : Nat → Option Bool} {cv : Value} {i : Nat} (hb : ∀ V : WX, JS c (wX c.K c.cl V) (tb V) gb)
    (hs : ∀ (a : Addr) (x : Xc) (cls : Value) (d : Option Addr) (Hi0 : Hp), XcAt c.K c.cl Hi0 x cls d → JS ⟨c.K, c.cl, Hi0, c.H0, a, c.tb⟩ W0 (ts a cls d) (gs x))
    (hm : ∀ n b, exm n = some b → PySem.W.exmOne c.K (.ref (c.cl n)) cv = some b) : JS c (wX c.K c.cl Vout) (fun Dn σ H => tb (wAs c.K cv i ts Vout Dn) Dn σ H) (sTry exm i gb gs) := fun σ ρ Hi H ok sv Dn h => by
  refine hb _ σ ρ Hi H ok sv Dn ?_
  unfold sTry at h
  cases hg : gb ρ with
  | none => rw [hg] at h; exact h
  | some o =>
    rw [hg] at h
    cases o with
    | ex x ρ' =>
      intro σ' Hi' H' sm ok' sv' cls d xa
      simp only at h
      cases hx : exm x.c with
      | none => rw [hx] at h; exact h.elim
      | some b =>
        rw [hx] at h
        have e1 := hm _ _ hx
        obtain ⟨dx, vs, rfl, _⟩ := id xa
        cases b with
        | false => exact ⟨false, e1, (fun z => nomatch z), fun _ => h σ' Hi' H' sm ok' sv' _ d xa⟩
        | true =>
          refine ⟨true, e1, fun _ a na => ?_, (fun z => nomatch z)⟩
          have ok2 := ok'.turn a
          have sv2 : Sv ⟨c.K, c.cl, Hi', c.H0, a, c.tb⟩ Hi' H' (σ'.set i (some (.ref a))) ((noErr ρ').set i .err) := Sv.setErr (c := ⟨c.K, c.cl, Hi', c.H0, a, c.tb⟩) (Sv.recx (a := c.ea) (Hq := c.Hq) sv') i
          refine hs a x _ d Hi' xa _ _ Hi' H' ok2 sv2 _ ?_
          have fin : ∀ {Kn : L2.St → Hp → Prop} {ρ2 : Rho}, Nx c Hi Kn (noErr (ρ2.set i .un)) → Nx ⟨c.K, c.cl, Hi', c.H0, a, c.tb⟩ Hi' (fun σ3 H3 => Kn (σ3.set i none) H3) ρ2 := fun {Kn ρ2} k σ3 Hi3 H3 s3 ok3 sv3 =>
            k _ Hi3 H3 (sm.trans s3) (ok'.back ok3) (Sv.recx (a := a) (Hq := Hi') (a' := c.ea) (Hq' := c.Hq) (sv3.setUn i none))
          cases hr : gs x ((noErr ρ').set i .err) with
          | none => rw [hr] at h; exact h.elim
          | some o2 =>
            rw [hr] at h
            cases o2 with
            | nx ρ2 => exact fin h
            | bk ρ2 => exact fin h
            | ct ρ2 => exact fin h
            | rt d2 => exact fun v Hi3 H3 s3 ok3 dv => h v Hi3 H3 (sm.trans s3) (ok'.back ok3) dv
            | rf xs => exact fun p us Hi3 H3 s3 ok3 e3 n3 n0 dv => h p us Hi3 H3 (sm.trans s3) (ok'.back ok3) e3 n3 n0 dv
            | ex y ρ2 => exact h.elim
    | _ => exact h
def eErr (i : Nat) (k : R D) : Rho → R D := fun ρ => match ρ[i]? with
  | some .err => k
  | _ => .bad
theorem Sv.err {Hi H : Hp} {σ : L2.St} {ρ : Rho} (e : Sv c Hi H σ ρ) {i : Nat} (h : ρ[i]? = some .err) : σ[i]? = some (some (.ref c.ea)) := by
  obtain ⟨o, h1, h2⟩ := e.find h
  rw [h1]
  congr
theorem lookup_zip {K : PySem.W.Frag} {cl : Nat → Addr} {Hi : Hp} {f : Str} {d : D} : ∀ {ns : List Str} {vs : List V} {xs : List D}, DvA K cl Hi vs xs → (ns.zip xs).lookup f = some d → ∃ v, (ns.zip vs).lookup f = some v ∧ Dv K cl Hi v d
  | [], _, _, _, e => by simp at e
  | n :: ns, _, [], _, e => by simp at e
  | n :: ns, _, x :: xs, h, e => by
    cases h with
    | cons h1 h2 =>
      simp only [List.zip_cons_cons, List.lookup_cons] at e ⊢
      split at e
      · cases e
        exact ⟨_, rfl, h1⟩
      · exact lookup_zip h2 e
theorem je_xf {W : Xd.WE} {a : Addr} {cls : Value} {d : Option Addr} {n : Nat} {f : Str} {i : Nat} {x : Xc} {Hi0 : Hp} (hx : XcAt c.K c.cl Hi0 x cls d) :
    JE ⟨c.K, c.cl, Hi0, c.H0, a, c.tb⟩ W (tXf a cls d (c.cl n) f (tVar i)) (eErr i (if x.c = n then ro ((x.ns.zip x.xs).lookup f) else .bad)) := fun σ ρ Hi H ok sv Q h => by
  unfold eErr at h
  split at h
  · rename_i he
    obtain ⟨hn, h⟩ := meet_if h
    obtain ⟨dx, vs, e1, e2, e3, e4, e5⟩ := hx
    have es := sv.err he
    refine ro_meet h fun z ez q => ?_
    obtain ⟨v, l1, dv⟩ := lookup_zip e5 ez
    refine ⟨_, es, rfl, by rw [e1, hn], dx, _, v, e2, ok.le _ _ (ok.q _ _ e3), l1, q v Hi H (Step.refl ok) (dv.up ok.q)⟩
  · exact h.elim
/-- arguments that are constants -/
def EvC (ts : TA) (vs : List V) : Prop := ∀ σ H (Q : List V → Hp → Prop), Q vs H → ts σ H Q
theorem evc_nil : EvC tNil [] := fun _ _ _ q => q
theorem evc_cons {ts : TA} {v : V} {vs : List V} (h : EvC ts vs) : EvC (tCons (tC v) ts) (v :: vs) := fun σ H Q q => h σ H _ q
theorem je_isX1 {W : Xd.WE} {a : Addr} {cls : Value} {d : Option Addr} {i : Nat} {x : Xc} {Hi0 : Hp} {y : V} {u : Value} {tab : Nat → Option Bool} (hx : XcAt c.K c.cl Hi0 x cls d) (hc : ClsV y u)
    (hk : ∀ n b, tab n = some b → PySem.W.kitOne c.K (.ref (c.cl n)) u = some b ∧ ExcC c.K (c.cl n)) :
    JE ⟨c.K, c.cl, Hi0, c.H0, a, c.tb⟩ W (tCB (XgIsa.rIsX c.K a cls d) (tCons (tVar i) (tCons (tC y) tNil))) (eErr i (ro ((tab x.c).map .bl))) := fun σ ρ Hi H ok sv Q h => by
  unfold eErr at h
  split at h
  · rename_i he
    obtain ⟨dx, vs, e1, e2, e3, e4, e5⟩ := hx
    have es := sv.err he
    refine ro_meet h fun z ez q => ?_
    obtain ⟨b, eb, rfl⟩ := Option.map_eq_some_iff.mp ez
    obtain ⟨k1, k2⟩ := hk _ _ eb
    exact ⟨_, es, c.cl x.c, dx, _, y, b, rfl, e1, k2, e2, ok.le _ _ (ok.q _ _ e3), .inl ⟨u, hc, k1⟩, q _ Hi H (Step.refl ok) (.bl b)⟩
  · exact h.elim
theorem je_isXT {W : Xd.WE} {a : Addr} {cls : Value} {d : Option Addr} {i : Nat} {x : Xc} {Hi0 : Hp} {ts : TA} {ys : List V} {us : List Value} {tab : Nat → Option Bool} (hx : XcAt c.K c.cl Hi0 x cls d) (ht : EvC ts ys) (hl : ys.length ≤ 1000) (hc : Paired ClsV ys us)
    (hk : ∀ n b, tab n = some b → PySem.W.kitAny c.K (.ref (c.cl n)) us = some b ∧ ExcC c.K (c.cl n)) :
    JE ⟨c.K, c.cl, Hi0, c.H0, a, c.tb⟩ W (tCB (XgIsa.rIsX c.K a cls d) (tCons (tVar i) (tCons (tTup ts) tNil))) (eErr i (ro ((tab x.c).map .bl))) := fun σ ρ Hi H ok sv Q h => by
  unfold eErr at h
  split at h
  · rename_i he
    obtain ⟨dx, vs, e1, e2, e3, e4, e5⟩ := hx
    have es := sv.err he
    refine ro_meet h fun z ez q => ?_
    obtain ⟨b, eb, rfl⟩ := Option.map_eq_some_iff.mp ez
    obtain ⟨k1, k2⟩ := hk _ _ eb
    refine ⟨_, es, ht _ _ _ ⟨lim_le (by omega), fun p np => ?_⟩⟩
    have s2 := Step.new (o := .tup ys) ok np
    refine ⟨c.cl x.c, dx, _, .ref p, b, rfl, e1, k2, e2, s2.keep (ok.le _ _ (ok.q _ _ e3)) (fun _ z => by cases z), .inr ⟨p, ys, us, rfl, upd_same, hc, k1⟩, q _ _ _ s2 (.bl b)⟩
  · exact h.elim
end
end Xd
namespace Xd
open PySem L2 Xg

/-! ### own lists looked at while they stay own -/
def vwS : Sl → Sl
  | .own xs => .val (.lst xs)
  | s => s
def vw (ρ : Rho) : Rho := ρ.map vwS
def bView (f : Rho → R Bool) : Rho → R Bool := fun ρ => noX (f (vw ρ))
def eView (f : Rho → R D) : Rho → R D := fun ρ => (noX (f (vw ρ))).bind fun d => if (sv d).isSome = true then .ok d else .bad
section
variable {c : Cc} {W : Xd.WE}
theorem view_upto {Hi H : Hp} {σ : L2.St} {ρ : Rho} (ok : Ok c Hi H) (sv : Sv c Hi H σ ρ) : ∀ n : Nat, n ≤ ρ.length → ∃ Hv, Same Hi Hv ∧ Ok c Hv H ∧ Sv c Hv H σ ((ρ.take n).map vwS ++ ρ.drop n)
  | 0, _ => ⟨Hi, Same.refl _, ok, by simpa using sv⟩
  | n + 1, h => by
    obtain ⟨Hv, sm, ok', sv'⟩ := view_upto ok sv n (by omega)
    have hn : n < ρ.length := by omega
    have e1 : ρ.drop n = ρ[n] :: ρ.drop (n + 1) := List.drop_eq_getElem_cons hn
    have e2 : ρ.take (n + 1) = ρ.take n ++ [ρ[n]] := by rw [List.take_succ_eq_append_getElem hn]
    have hl : ((ρ.take n).map vwS).length = n := by rw [List.length_map, List.length_take]; omega
    rw [e1] at sv'
    rw [e2, List.map_append, List.append_assoc]
    cases hs : ρ[n] with
    | own xs =>
      rw [hs] at sv'
      have at' : ((ρ.take n).map vwS ++ Sl.own xs :: ρ.drop (n + 1))[n]? = some (.own xs) := by
        rw [List.getElem?_append_right (by rw [hl]; exact Nat.le_refl _), hl, Nat.sub_self]
        rfl
      obtain ⟨Hw, s2, ok2, sv2⟩ := sv'.freeze ok' at'
      refine ⟨Hw, sm.trans s2, ok2, ?_⟩
      rw [List.set_append, hl, if_neg (Nat.lt_irrefl _), Nat.sub_self] at sv2
      exact sv2
    | un => rw [hs] at sv'; exact ⟨Hv, sm, ok', sv'⟩
    | err => rw [hs] at sv'; exact ⟨Hv, sm, ok', sv'⟩
    | val d => rw [hs] at sv'; exact ⟨Hv, sm, ok', sv'⟩
theorem view_all {Hi H : Hp} {σ : L2.St} {ρ : Rho} (ok : Ok c Hi H) (sv : Sv c Hi H σ ρ) : ∃ Hv, Same Hi Hv ∧ Ok c Hv H ∧ Sv c Hv H σ (vw ρ) := by
  obtain ⟨Hv, h1, h2, h3⟩ := view_upto ok sv ρ.length (Nat.le_refl _)
  rw [List.take_length, List.drop_length, List.append_nil] at h3
  exact ⟨Hv, h1, h2, h3⟩
open Classical in
/-- what was frozen for a look alone is let go -/
noncomputable def letGo (Hi H Hv : Hp) : Hp := fun p => if Hi p = none ∧ H p ≠ none then none else Hv p
theorem letGo_step {Hi H Hv Hv' H' : Hp} (ok : Ok c Hi H) (sm : Same Hi Hv) (st : Step c Hv H Hv' H') : Step c Hi H (letGo Hi H Hv') H' := by
  have got : ∀ p o, letGo Hi H Hv' p = some o → Hv' p = some o ∧ ¬ (Hi p = none ∧ H p ≠ none) := fun p o e => by
    unfold letGo at e
    split at e
    · cases e
    · rename_i h; exact ⟨e, h⟩
  have hi : Same Hi (letGo Hi H Hv') := fun p o e => by
    unfold letGo
    rw [if_neg (fun h => by rw [e] at h; cases h.1)]
    exact st.hi _ _ (sm _ _ e)
  refine ⟨hi, st.h, fun p o e n => ?_, ok, fun p o e => st.ok.le _ _ (got p o e).1, ok.q.trans hi, st.ok.h, fun p o e n => ?_, st.ok.tab, fun p hp => ?_⟩
  · unfold letGo
    rw [if_pos ⟨n, by rw [e]; simp⟩]
  · cases k : Hi p with
    | some u => exact ok.new p u k n
    | none =>
      have nn : H p = none := by
        cases k2 : H p with
        | none => rfl
        | some u => exact absurd ⟨k, by rw [k2]; simp⟩ (got p o e).2
      exact ok.free0 nn
  · unfold letGo
    split
    · rfl
    · exact st.ok.tabI p hp
theorem jt_view {tt : TT} {f : Rho → R Bool} (h : JT c W0 tt f) : JT c W tt (bView f) := fun σ ρ Hi H ok sv Q q => by
  obtain ⟨Hv, sm, okv, svv⟩ := view_all ok sv
  refine h σ (vw ρ) Hv H okv svv Q ((noX_meet q).imp (fun b k Hi' H' s => k _ H' (letGo_step ok sm s)) fun x k => k.elim)
theorem je_view {te : TE} {f : Rho → R D} (h : JE c W0 te f) : JE c W te (eView f) := fun σ ρ Hi H ok sv Q q => by
  obtain ⟨Hv, sm, okv, svv⟩ := view_all ok sv
  refine h σ (vw ρ) Hv H okv svv Q ((noX_meet (Meet.bind q)).imp (fun d k v Hi' H' s dv => ?_) fun x k => k.elim)
  obtain ⟨hs, k⟩ := meet_if k
  obtain ⟨x, ex⟩ := Option.isSome_iff_exists.mp hs
  have z := dv.small ex
  subst z
  exact k _ _ H' (letGo_step ok sm s) (Dv.ofSmall ex)
end

/-! ### any(sign .. for sign in text) -/
def eAnyS (pb : Nat → Bool) (f : Rho → R D) : Rho → R D := fun ρ => (f ρ).bind fun d => match d with
  | .str a => .ok (.bl (a.cps.toList.any pb))
  | _ => .bad
theorem je_anyS {c : Cc} {W : Xd.WE} {te : TE} {f : Rho → R D} {pb : Nat → Bool} {P : Addr} (hP : P ∈ c.tb) (ha : JE c W te f) : JE c W (GxR.tAnyS P pb te) (eAnyS pb f) := fun σ ρ Hi H ok sv Q h => by
  refine ha σ ρ Hi H ok sv _ ((Meet.bind h).imp (fun d h v Hi1 H1 s1 d1 => ?_) fun x k => k)
  cases d with
  | str a =>
    cases d1
    refine ⟨a, rfl, s1.ok.tab P hP, fun H2 ⟨tg, same⟩ => ?_⟩
    have nP : ∀ b o, Hi1 b = some o → b ≠ P := fun b o e z => by
      rw [z, s1.ok.tabI P hP] at e
      cases e
    refine h _ Hi1 H2 (s1.trans ⟨Same.refl _, fun b o nb e => ?_, fun p o e n => n, s1.ok, fun b o e => ?_, s1.ok.q, s1.ok.h.trans fun b o nb e => ?_, s1.ok.new, fun q hq => ?_, s1.ok.tabI⟩) (.bl _)
    · rw [same b (fun z => nb (by rw [z]; exact hP))]
      exact e
    · rw [same b (nP b o e)]
      exact s1.ok.le _ _ e
    · rw [same b (fun z => nb (by rw [z]; exact hP))]
      exact e
    · by_cases hz : q = P
      · rw [hz]; exact tg
      · obtain ⟨ps, e, t⟩ := s1.ok.tab q hq
        exact ⟨ps, by rw [same q hz]; exact e, t⟩
  | _ => exact h.elim

/-! ### more operations -/
def oShl : D → D → Option D := oI2 (fun i j => decide (0 ≤ j ∧ j ≤ 1000000 ∧ i.natAbs < 2 ^ 64)) fun i j => .int (i * 2 ^ j.toNat)
def oShr : D → D → Option D := oI2 (fun _ j => decide (0 ≤ j)) fun i j => .int (i / 2 ^ j.toNat)
def oBand : D → D → Option D := oI2 (fun _ _ => true) fun i j => .int (Builtin.bitAnd i j)
def intList : List D → Option (List Int)
  | [] => some []
  | .int i :: r => match intList r with
    | some is => some (i :: is)
    | none => none
  | _ => none
def cSum (as : List D) : Option D := match as with
  | [.lst xs] => (intList xs).map fun ns => .int ns.sum
  | _ => none
def mUpper (a : D) (as : List D) : Option D := match a, as with
  | .str a, [] => if a.length ≤ 100000 then some (.str (Txt.upper a)) else none
  | _, _ => none
def eM0 (o : D → List D → Option D) (f : Rho → R D) : Rho → R D := fun ρ => (f ρ).bind fun a => match a with
  | .str _ => ro (o a [])
  | _ => .bad
def eFmt (f : Rho → R D) : Rho → R D := fun ρ => (f ρ).bind fun d => match d with
  | .str y => if y.length ≤ 100000 then .ok (.str y) else .bad
  | .int i => if i.natAbs < 2 ^ 62 then .ok (.str (toString i)) else .bad
  | _ => .bad
def eJoin : List (Rho → R D) → Str → Rho → R D
  | [], acc => fun _ => .ok (.str acc)
  | f :: fs, acc => fun ρ => (f ρ).bind fun d => match d with
    | .str y => if (acc ++ y).length ≤ 100000 then eJoin fs (acc ++ y) ρ else .bad
    | _ => .bad
section
variable {c : Cc} {W : Xd.WE} {te : TE} {f : Rho → R D}
theorem jo_shl : JO c (rI CPow fun i j => .int (i * 2 ^ j.toNat)) oShl := jo_I (fun i j h => by have h' : 0 ≤ j ∧ j ≤ 1000000 ∧ i.natAbs < 2 ^ 64 := of_decide_eq_true h; exact h') fun _ _ => rfl
theorem jo_shr : JO c (rI (fun _ j => 0 ≤ j) fun i j => .int (i / 2 ^ j.toNat)) oShr := jo_I (fun i j h => of_decide_eq_true h) fun _ _ => rfl
theorem jo_band : JO c (rI0 fun i j => .int (Builtin.bitAnd i j)) oBand := jo_I0 fun _ _ => rfl
theorem intList_ok {K : PySem.W.Frag} {cl : Nat → Addr} {Hi : Hp} : ∀ {xs : List D} {vs : List V} {ns : List Int}, DvA K cl Hi vs xs → intList xs = some ns → vs = ns.map V.int
  | [], _, _, h, e => by cases h; simp [intList] at e; subst e; rfl
  | d :: r, _, ns, h, e => by
    cases h with
    | cons h1 h2 =>
      cases d with
      | int s =>
        simp only [intList] at e
        split at e
        · rename_i ss e1
          cases e
          cases h1
          rw [intList_ok h2 e1]
          rfl
        · cases e
      | _ => simp [intList] at e
theorem jc_sum : JC c (rSum c.K) cSum := fun Hi H ok xs as d Q hx e q => by
  unfold cSum at e
  split at e
  · obtain ⟨ns, e1, rfl⟩ := Option.map_eq_some_iff.mp e
    obtain ⟨v, rfl, h⟩ := dva1 hx
    cases h with
    | lst h1 h2 =>
      have z := intList_ok h2 e1
      subst z
      exact ⟨_, ns, rfl, .inl (.inl (ok.le _ _ h1)), q.here ok (.int _)⟩
  · cases e
theorem je_m0 {r : V → List V → Hp → VK → Prop} {o : D → List D → Option D} (ho : JM c r o) (ha : JE c W te f) : JE c W (tM0 r te) (eM0 o f) := fun σ ρ Hi H ok sv Q h => by
  refine ha σ ρ Hi H ok sv _ ((Meet.bind h).imp (fun a h v Hi1 H1 s1 d1 => ?_) fun x k => k)
  cases a with
  | str s =>
    cases d1
    exact ⟨⟨s, rfl⟩, ro_meet h fun d e q => ho Hi1 H1 s1.ok _ _ _ _ d Q (.str s) .nil e (RetD.to q s1)⟩
  | _ => exact h.elim
theorem jm_upper : JM c (fun x xs H Q => ∃ a, x = .str a ∧ xs = [] ∧ a.length ≤ 5592405 ∧ Q (.str (Txt.upper a)) H) mUpper := fun Hi H ok x xs a as d Q hx hs e q => by
  unfold mUpper at e
  split at e
  · obtain ⟨h1, rfl⟩ := if_some e
    cases hx
    cases hs
    exact ⟨_, rfl, rfl, Nat.le_trans h1 (by decide), q.here ok (.str _)⟩
  · cases e
theorem je_fmt (ha : JE c W te f) : JE c W (tFmt te) (eFmt f) := fun σ ρ Hi H ok sv Q h => by
  refine ha σ ρ Hi H ok sv _ ((Meet.bind h).imp (fun a h v Hi1 H1 s1 d1 => ?_) fun x k => k)
  cases a with
  | str s =>
    cases d1
    obtain ⟨hl, h⟩ := meet_if h
    exact .inl ⟨s, rfl, lim_le hl, h _ _ _ s1 (.str _)⟩
  | int i =>
    cases d1
    obtain ⟨hl, h⟩ := meet_if h
    refine .inr ⟨i, rfl, ?_, h _ _ _ s1 (.str _)⟩
    by_cases hz : i.natAbs = 0
    · rw [hz]; decide
    · exact Nat.lt_trans ((Nat.log2_lt hz).mpr hl) (by decide)
  | _ => exact h.elim
inductive JJ (c : Cc) (W : Xd.WE) : List TE → List (Rho → R D) → Prop where
  | nil : JJ c W [] []
  | cons {t : TE} {ts : List TE} {f : Rho → R D} {fs : List (Rho → R D)} (h : JE c W t f) (r : JJ c W ts fs) : JJ c W (t :: ts) (f :: fs)
theorem je_join' {ts : List TE} {fs : List (Rho → R D)} (h : JJ c W ts fs) : ∀ acc : Str, JE c W (fun σ H Q => tJs ts acc σ H fun out H1 => Q (.str out) H1) (eJoin fs acc) := by
  induction h with
  | nil => exact fun acc σ ρ Hi H ok sv Q q => q _ Hi H (Step.refl ok) (.str acc)
  | @cons t ts f fs h r ih =>
    intro acc σ ρ Hi H ok sv Q q
    refine h σ ρ Hi H ok sv _ ((Meet.bind q).imp (fun a q v Hi1 H1 s1 d1 => ?_) fun x k => k)
    cases a with
    | str y =>
      cases d1
      obtain ⟨hl, q⟩ := meet_if q
      refine ⟨y, rfl, lim_le hl, ih (acc ++ y) σ ρ Hi1 H1 s1.ok (sv.step s1) Q (meet_step s1 q fun d q v Hi2 H2 s2 => q v Hi2 H2 (s1.trans s2))⟩
    | _ => exact q.elim
theorem je_join {ts : List TE} {fs : List (Rho → R D)} (h : JJ c W ts fs) : JE c W (fun σ H Q => tJs ts Str.empty σ H fun out H1 => Q (.str out) H1) (eJoin fs Str.empty) := je_join' h _
/-- the field of a frozen instance -/
def eFld (n : Nat) (g : Str) (f : Rho → R D) : Rho → R D := fun ρ => (f ρ).bind fun d => match d with
  | .ins m ns xs => if m = n then ro ((ns.zip xs).lookup g) else .bad
  | _ => .bad
theorem je_fld {n : Nat} {g : Str} (hc : Cls c.K (c.cl n)) (hn : NoAttr c.K (c.cl n) g) (ha : JE c W te f) : JE c W (tFld c.K te g) (eFld n g f) := fun σ ρ Hi H ok sv Q h => by
  refine ha σ ρ Hi H ok sv _ ((Meet.bind h).imp (fun a h v Hi1 H1 s1 d1 => ?_) fun x k => k)
  cases a with
  | ins m ns xs =>
    have h : Meet (if m = n then ro ((ns.zip xs).lookup g) else .bad) _ _ := h
    obtain ⟨hm, hh⟩ := meet_if h
    clear h
    subst hm
    cases d1 with
    | ins h1 h2 h3 =>
      refine ro_meet hh fun d e q => ?_
      obtain ⟨u, l1, du⟩ := lookup_zip h3 e
      exact ⟨_, _, _, _, u, rfl, s1.ok.le _ _ h1, hc, hn, l1, q u Hi1 H1 s1 du⟩
  | _ => exact h.elim
end
section
variable {c : Cc} {W W' : Xd.WE}
theorem js_w {ts : TS} {g : MS} (h : JS c W' ts g) (hw : ∀ x σ Hi H, W x σ Hi H → W' x σ Hi H) : JS c W ts g := fun σ ρ Hi H ok sv Dn a => by
  refine h σ ρ Hi H ok sv Dn ?_
  cases e : g ρ with
  | none => rw [e] at a; exact a
  | some o =>
    rw [e] at a
    cases o with
    | ex x ρ' => exact fun σ' Hi' H' s ok' sv' => hw _ _ _ _ (a σ' Hi' H' s ok' sv')
    | _ => exact a
/-- a try in a def that raises nothing -/
theorem js_try0 {tb : WX → TS} {ts : Addr → Value → Option Addr → TS} {gb : MS} {gs : Xc → MS} {exm : Nat → Option Bool} {cv : Value} {i : Nat} (hb : ∀ V : WX, JS c (wX c.K c.cl V) (tb V) gb)
    (hs : ∀ (a : Addr) (x : Xc) (cls : Value) (d : Option Addr) (Hi0 : Hp), XcAt c.K c.cl Hi0 x cls d → JS ⟨c.K, c.cl, Hi0, c.H0, a, c.tb⟩ W0 (ts a cls d) (gs x))
    (hm : ∀ n b, exm n = some b → PySem.W.exmOne c.K (.ref (c.cl n)) cv = some b) : JS c W0 (fun Dn σ H => tb (wAs c.K cv i ts (fun _ _ _ _ => False) Dn) Dn σ H) (sTry exm i gb gs) :=
  js_w (js_try hb hs hm) fun _ _ _ _ h => h.elim
end
end Xd
/-! a for whose header gives out a token: the body may replace in texts -/
namespace Xd
open PySem L2 Xg PyProof.Rows CwR
theorem thnK {α : Type} {M : Model} {A : Around} {t : Sem α} {Q Q' : α → Shared → Prop} {E : Value → Shared → Prop} {s : Shared} {n : Nat} (hn : n ≤ s.toks) (h : wpAny M A t Q E s) (k : ∀ a s', n ≤ s'.toks → Q a s' → Q' a s') : wpAny M A t Q' E s :=
  wpAny_mono (wpAny_toks_of hn h) (fun a s' q => k a s' q.1 q.2) fun _ _ z => z.2
/-- evaluating gives out a token -/
def PEK (X : Cx) (e : Expr) (t : TE) : Prop := ∀ pins s σ H Q, Inv X pins σ H s → t σ H Q → wpAny (model X.prog X.w) X.A (eval e X.env) (fun v s' => 1 ≤ s'.toks ∧ EP X pins σ Q v s') X.xe s
def PAK (X : Cx) (es : List Expr) (t : TA) : Prop := ∀ pos pins s σ H Q, Inv X pins σ H s → t σ H Q → wpAny (model X.prog X.w) X.A (spliced (backTo pos (starEach es X.env))) (fun v s' => 1 ≤ s'.toks ∧ AP X pins σ Q v s') X.xe s
def PIK (X : Cx) (tg iter : Expr) (wi : TI) : Prop := ∀ pins s σ H R, Inv X pins σ H s → wi σ H R →
  wpAny (model X.prog X.w) X.A (eval iter X.env) (fun v s' => 1 ≤ s'.toks ∧ wpAny (model X.prog X.w) X.A (pyIter v) (PIE X pins σ tg R) X.xe s') X.xe s
section
variable {X : Cx} {e : Expr} {es : List Expr} {te : TE} {ta : TA} {pos : Pos}
theorem pek_str {c : Str} {j : Nat} : PEK X (.Constant (.str c) j pos) (tC (.str c)) := fun pins s σ H Q I h =>
  Calls.Constant_str ⟨Nat.le_add_left 1 s.toks, .str c, H, I.tok (s.toks + 1), ⟨s.toks, rfl⟩, h⟩
theorem pak_head (h1 : PEK X e te) (h2 : PA X es ta) (hs : starEach (e :: es) X.env = (false, eval e X.env) :: starEach es X.env := by rfl) : PAK X (e :: es) (tCons te ta) := fun at' pins s σ H Q I h => by
  rw [hs]
  exact Calls.spliced_cons (thn (h1 pins s σ H _ I h) fun v s' ⟨k, x, H', I', r, q⟩ => thnK k (h2.run at' pins s' σ H' _ I' q) fun us s2 k2 ⟨xs, H2, I2, r2, q2⟩ => ⟨k2, _, _, I2, .cons r r2, q2⟩)
theorem pek_tup {x1} (h : PAK X es ta) : PEK X (.Tuple es x1 pos) (tTup ta) := fun pins s σ H Q I hq => by
  refine wpAny_Tuple_spliced (thn (h pos pins s σ H _ I hq) fun us s' ⟨k, xs, H', I', r, z, q⟩ => ⟨r.length ▸ z, ?_⟩)
  have fresh := I'.hok.fresh (Nat.le_refl s'.heap.objs.size)
  exact ⟨k, .ref _, upd H' s'.heap.objs.size (.tup xs), I'.laid (t' := s'.toks) (fun _ _ g => Heap.get?_push_of_some _ g) (Nat.le_refl _) (show ObjOk _ _ _ _ _ (.tup xs) from ⟨z, us, r, ⟨_, Heap.get?_push_size _ rfl, rfl, _, rfl⟩⟩), rfl, q _ fresh⟩
theorem pik_tup {tg : Expr} (h : PEK X e te) : PIK X tg e (iTup X.K te) := fun pins s σ H R I hq => by
  refine thn (h pins s σ H _ I hq) fun v s' ⟨k, x, H', I', r, a, ex, ⟨xs, hx⟩, q⟩ => ⟨k, ?_⟩
  cases ex
  cases r
  obtain ⟨vs, _, isT, _⟩ := I'.tuple hx
  have fresh := I'.hok.fresh (Nat.le_refl s'.heap.objs.size)
  refine wpAny_pyIter_tuple (show s'.heap.IsTuple a vs.toArray from isT) ⟨_, [s'.heap.objs.size], _, _, H', rfl, I'.kept (t' := s'.toks) (fun _ _ g => Heap.get?_push_of_some _ g), turn_tuple a _, ⟨_, Heap.get?_push_size _ rfl, rfl, rfl⟩, fun b hb => ?_, q⟩
  rw [List.mem_singleton.mp hb]
  exact I'.fpOk (Nat.le_refl _) fresh
/-- the walk: every turn starts with a token out -/
theorem ps_forK {tg : Expr} {body : List Stmt} {wi : TI} {g : TG} {tb : TS} (own : PassesOwn (model X.prog X.w) X.A X.env X.xe) (calm : X.calm = true) (hi : PIK X tg e wi) (hg : PG X tg g) (hb : PSsT X body tb)
    (fold : ∀ x, foldedSetIterable e X.env x = pure x := by intro _; rfl) : PS X (.For tg e body [] pos) (tFor wi g tb) := ⟨fun pins s σ H D I h => by
  refine wpAny_For (thn (hi pins s σ H _ I h) fun v sa ⟨ka, ha⟩ => thnK ka ha fun itv sb kb w => ?_) fold
  obtain ⟨p, fp, at', J, Hb, rfl, Ib, T, atb, frb, Wk, ⟨m, w0⟩, turn⟩ := w
  let Hold : Nat → Shared → Prop := fun n z => 1 ≤ z.toks ∧ ∃ k ρ L, Inv X pins ρ L z ∧ at' k z.heap ∧ (∀ c ∈ fp, L c = none) ∧ Wk k n ρ L
  have still : ∀ {L : Hp}, (∀ c ∈ fp, L c = none) → ∀ c ∈ fp, FpOk X pins L c := fun free c hc => ⟨free c hc, (frb c hc).2⟩
  refine codeAny_forLoop_any Hold (fun n z hz => ?_) m ⟨kb, 0, σ, Hb, Ib, atb, fun c hc => (frb c hc).1, w0⟩
  obtain ⟨kz, k, ρ, L, Iz, atz, frz, wz⟩ := hz
  rcases turn k n ρ L wz with ⟨stop, q⟩ | ⟨go, Nx, less, step⟩
  · exact wpAny_passesOwn own (thn (T.done X rfl rfl rfl calm k pins z ρ L X.xe Iz (still frz) atz stop) fun r z1 ⟨er, I1⟩ => er ▸ wpAny_execs_nil ⟨ρ, L, I1, q⟩)
  refine wpAny_passesOwn own (thnK kz (T.item X rfl rfl rfl calm k pins z ρ L X.xe Iz (still frz) atz go) fun r z1 k1 ⟨u, er, h1⟩ => ?_)
  subst er
  refine wpAny_passesOwn own (thnK k1 h1 fun _ z2 k2 ⟨x, M2, I2, r2, y2, at2, fr2⟩ => ?_)
  have P2 := I2.pinned (still fr2) (T.obj _ _ at2)
  refine wpAny_passesOwn own (thnK k2 (hg.run _ z2 ρ M2 x u _ P2 r2 (step x M2 y2)) fun _ z3 k3 ⟨ρ3, L3, I3, q3⟩ => ?_)
  refine wpAny_passesOwn own (thnK k3 (hb _ z3 ρ3 L3 _ k3 I3 q3) fun f z4 k4 q4 => ?_)
  have next : ∀ {ρ4 : L2.St} {L4 : Hp}, Inv X (pins ++ pinsAt fp z2.heap) ρ4 L4 z4 → Nx ρ4 L4 → ∃ n', n' < n ∧ Hold n' z4 := fun {ρ4 L4} I4 nx => by
    obtain ⟨n', lt, w4⟩ := less ρ4 L4 nx
    have pin : ∀ {c : Addr} {o : Obj}, c ∈ fp → z2.heap.get? c = some o → z4.heap.get? c = some o ∧ L4 c = none := fun {c o} hc eo => by
      obtain ⟨h1, h2, _⟩ := I4.pin (c, o) (List.mem_append_right _ (List.mem_append_right _ (mem_pinsAt hc eo)))
      exact ⟨h1, h2⟩
    refine ⟨n', lt, k4, k + 1, ρ4, L4, I4.unpinned, T.keep _ _ _ at2 fun c hc o eo => (pin hc eo).1, fun c hc => ?_, w4⟩
    obtain ⟨o, eo, _⟩ := T.obj _ _ at2 c hc
    exact (pin hc eo).2
  cases f with
  | next => exact let ⟨_, _, I4, nx⟩ := q4; next I4 nx
  | cont => exact let ⟨_, _, I4, nx⟩ := q4; next I4 nx
  | brk => exact let ⟨ρ4, L4, I4, d⟩ := q4; ⟨ρ4, L4, I4.unpinned, d⟩
  | ret v => exact let ⟨x4, ρ4, L4, I4, r4, d⟩ := q4; ⟨x4, ρ4, L4, I4.unpinned, r4, d⟩⟩
theorem pik_X {tg : Expr} (h : PEK X e te) : PIK X tg e (tiX X.K te) := fun pins s σ H R I hq => by
  refine thn (h pins s σ H _ I hq) fun v s' ⟨k, x, H', I', r, q⟩ => ⟨k, ?_⟩
  rcases q with ⟨a, ex, ⟨xs, hx⟩, q⟩ | ⟨a, ex, ⟨xs, hx⟩, q⟩ | ⟨z, ex, q⟩
  · cases ex
    cases r
    obtain ⟨vs, _, isL, _⟩ := I'.list hx
    exact wpAny_pyIter_list isL.isList (pi_one (tk := s'.toks) I' _ (turn_list a _) ⟨_, Heap.get?_push_size _ rfl, rfl, rfl⟩ q)
  · cases ex
    cases r
    obtain ⟨vs, _, isT, _⟩ := I'.tuple hx
    exact wpAny_pyIter_tuple (show s'.heap.IsTuple a vs.toArray from isT) (pi_one (tk := s'.toks) I' _ (turn_tuple a _) ⟨_, Heap.get?_push_size _ rfl, rfl, rfl⟩ q)
  · cases ex
    obtain ⟨w, rfl⟩ := r
    cases small : z.cps.all (· < 128)
    · exact wpAny_pyIter_wide small (pi_one (tk := s'.toks) I' _ (turn_str _ z w "str_iterator" (.inr rfl)) ⟨_, Heap.get?_push_size _ rfl, rfl, rfl⟩ q)
    · exact wpAny_pyIter_ascii small (pi_one (tk := s'.toks) I' _ (turn_str _ z w "str_ascii_iterator" (.inl rfl)) ⟨_, Heap.get?_push_size _ rfl, rfl, rfl⟩ q)
theorem pst_set {i : Nat} {x : Str} {at' : Pos} (nd : X.N.Nodup) (hi : X.N[i]? = some x) (hx : Loc X.env.scope x) (he : PET X e te) (hs : swapsWith e (some (.Name x at')) pos.line X.env = pure false := by rfl)
    (hf : X.fn x = true ∨ X.env.scope.names.lookup x = some .local := by first | exact .inl rfl | exact .inr rfl | assumption) : PST X (.Assign [.Name x at'] e pos) (tAsg te (gName i)) := fun pins s σ H D k I h =>
  wpAny_Assign_Name (thn (he pins s σ H _ k I h) fun v s' ⟨y, H', I', r, q⟩ => store_ok I' nd hi hx r (fun s2 I2 => ⟨_, H', I2, q⟩) hf) hs
end

/-! ### written tuples of texts, told by where they stand -/
def KT (K : PySem.W.Frag) (tb : Addr → Option (List Str)) : Prop := ∀ a L, tb a = some L → strsB K a L = true ∧ ∃ o, K.lookup a = some o ∧ o.cls = .type "tuple" ∧ o.dict = none
def kOf (tb : Addr → Option (List Str)) : D → Option (List Str)
  | .opq (.ref a) => tb a
  | _ => none
theorem kOf_dv {K : PySem.W.Frag} {cl : Nat → Addr} {Hi : Hp} {tb : Addr → Option (List Str)} {v : V} {d : D} {L : List Str} (h : Dv K cl Hi v d) (e : kOf tb d = some L) : ∃ a, v = .ref a ∧ tb a = some L := by
  unfold kOf at e
  split at e
  · cases h
    exact ⟨_, rfl, e⟩
  · cases e
abbrev rIdxT (K : PySem.W.Frag) : V → List V → Hp → VK → Prop := fun x xs H Q => ∃ p, ∃ ys : List Str, ∃ z j, x = .ref p ∧ xs = [.str z] ∧ SqT K H p (ys.map V.str) ∧ ys[j]? = some z ∧ (∀ m, m < j → ys[m]? ≠ some z) ∧ Q (.int (j : Nat)) H
/-- the place of a name in a list of names -/
def oIdx (L : List Str) : D → Option D
  | .str z => (L.findIdx? fun y => y == z).map fun j => .int (j : Nat)
  | _ => none
def oInK (tb : Addr → Option (List Str)) (a b : D) : Option D := match a with
  | .str z => (kOf tb b).map fun L => .bl (decide (z ∈ L))
  | _ => none
def eIdxO (tb : Addr → Option (List Str)) (f g : Rho → R D) : Rho → R D := fun ρ => (f ρ).bind fun a => (ro (kOf tb a)).bind fun L => (g ρ).bind fun b => ro (oIdx L b)
def cLenK (tb : Addr → Option (List Str)) (as : List D) : Option D := match as with
  | [d] => (kOf tb d).map fun L => .int (L.length : Nat)
  | _ => none
def oRepl (y z : Str) : D → Option D
  | .str x => if x.length + (x.length + 1) * z.length ≤ 16777216 then some (.str (Txt.replace x y z)) else none
  | _ => none
section
variable {c : Cc} {W : Xd.WE} {tb : Addr → Option (List Str)} {te ta : TE} {f g : Rho → R D}
theorem inV_strs (z : Str) (zs : List Str) : inV (.str z) (zs.map V.str) = decide (z ∈ zs) := by
  rw [Bool.eq_iff_iff, decide_eq_true_eq]
  refine List.any_eq_true.trans ⟨fun ⟨v, hv, e⟩ => ?_, fun h => ⟨.str z, List.mem_map.mpr ⟨z, h, rfl⟩, by simp [eqV]⟩⟩
  obtain ⟨y, hy, rfl⟩ := List.mem_map.mp hv
  have k : y = z := by simpa [eqV] using e
  rw [← k]
  exact hy
theorem flat_texts (zs : List Str) : (zs.map V.str).all flatV = true := List.all_eq_true.mpr fun v hv => by
  obtain ⟨y, _, rfl⟩ := List.mem_map.mp hv
  rfl
theorem jo_inK (ht : KT c.K tb) : JO c (rInX c.K) (oInK tb) := fun Hi H ok x y a b d Q hx hy e q => by
  unfold oInK at e
  split at e
  · obtain ⟨L, e1, rfl⟩ := Option.map_eq_some_iff.mp e
    obtain ⟨p, rfl, e2⟩ := kOf_dv hy e1
    cases hx
    refine .inl ⟨p, _, rfl, .inr (strsB_sq (ht p L e2).1 _), rfl, flat_texts L, ?_⟩
    show Q (.bl (inV _ _)) H
    rw [inV_strs]
    exact q _ _ _ (Step.refl ok) (.bl _)
  · cases e
theorem je_idxO (ht : KT c.K tb) (h1 : JE c W ta f) (h2 : JE c W te g) : JE c W (tBM c.K "tuple" (rIdxT c.K) ta (tCons te tNil)) (eIdxO tb f g) := fun σ ρ Hi H ok sv Q h => by
  refine h1 σ ρ Hi H ok sv _ (h.bind.imp (fun a h v Hi1 H1 s1 d1 => ?_) fun x k => k)
  refine ro_meet h.bind fun L eL h => ?_
  obtain ⟨p, rfl, e2⟩ := kOf_dv d1 eL
  obtain ⟨hs, hk⟩ := ht p L e2
  refine ⟨.inr (.inl ⟨rfl, hk⟩), h2 σ ρ Hi1 H1 s1.ok (sv.step s1) _ (meet_step s1 (Meet.bind h) fun b h v2 Hi2 H2 s2 d2 => ?_)⟩
  refine ro_meet h fun d e q => ?_
  unfold oIdx at e
  split at e
  · rename_i z
    obtain ⟨j, hj, rfl⟩ := Option.map_eq_some_iff.mp e
    cases d2
    obtain ⟨lt, e1, e2⟩ := List.findIdx?_eq_some_iff_getElem.mp hj
    refine ⟨p, L, z, j, rfl, rfl, strsB_sq hs _, ?_, fun m hm k => ?_, q _ _ _ (s1.trans s2) (.int _)⟩
    · rw [List.getElem?_eq_getElem lt, eq_of_beq e1]
    · obtain ⟨hl, ek⟩ := List.getElem?_eq_some_iff.mp k
      have := e2 m hm
      rw [ek] at this
      simp at this
  · cases e
theorem jc_lenK (ht : KT c.K tb) : JC c (rLenX c.K) (cLenK tb) := fun Hi H ok xs as d Q hx e q => by
  unfold cLenK at e
  split at e
  · obtain ⟨L, e1, rfl⟩ := Option.map_eq_some_iff.mp e
    obtain ⟨v, rfl, dv⟩ := dva1 hx
    obtain ⟨p, rfl, e2⟩ := kOf_dv dv e1
    refine .inl ⟨p, _, rfl, .inr (strsB_sq (ht p L e2).1 _), ?_⟩
    rw [List.length_map]
    exact q _ _ _ (Step.refl ok) (.int _)
  · cases e
theorem je_repl {y z : Str} (h1 : JE c W ta f) : JE c W (tReplC ta y z) (e1 (oRepl y z) f) := fun σ ρ Hi H ok sv Q h => by
  refine h1 σ ρ Hi H ok sv _ (h.bind.imp (fun a h v Hi1 H1 s1 d1 => ?_) fun x k => k)
  refine ro_meet h fun d e q => ?_
  unfold oRepl at e
  split at e
  · obtain ⟨hl, rfl⟩ := if_some e
    cases d1
    exact ⟨_, rfl, hl, q _ _ _ s1 (.str _)⟩
  · cases e
end
end Xd
/-! how mirrors are run: small steps, in term style -/
namespace Xd
open PySem L2 Xg CwR
def strsOf : List D → Option (List Str)
  | [] => some []
  | d :: r => match d with
    | .str s => (strsOf r).map fun l => s :: l
    | _ => none
theorem strsOf_map : ∀ zs : List Str, strsOf (zs.map D.str) = some zs
  | [] => rfl
  | z :: zs => by show (strsOf (zs.map D.str)).map _ = _; rw [strsOf_map zs]; rfl
theorem strsOf_some : ∀ {xs : List D} {zs : List Str}, strsOf xs = some zs → xs = zs.map D.str
  | [], zs, h => by cases h; rfl
  | d :: r, zs, h => by
    unfold strsOf at h
    split at h
    · obtain ⟨l, e, rfl⟩ := Option.map_eq_some_iff.mp h
      rw [strsOf_some e]
      rfl
    · cases h
theorem lcR_map {g : MG} {t : Rho → R Bool} {e : Rho → R D} {ρ : Rho} (p : D → Bool) (v : D → D) : ∀ (ds : List D), (∀ d ∈ ds, ∃ ρ1, g d ρ = some ρ1 ∧ t ρ1 = .ok (p d) ∧ (p d = true → e ρ1 = .ok (v d))) → lcR g t e ρ ds = .ok ((ds.filter p).map v)
  | [], _ => rfl
  | d :: ds, h => by
    obtain ⟨ρ1, h1, h2, h3⟩ := h d List.mem_cons_self
    have ih := lcR_map p v ds fun d hd => h d (List.mem_cons_of_mem _ hd)
    unfold lcR
    rw [h1]
    simp only [h2, R.bind_ok]
    by_cases c : p d = true
    · rw [if_pos c, h3 c, ih, List.filter_cons, if_pos c]
      rfl
    · rw [if_neg c, ih, List.filter_cons, if_neg c]
theorem forR_ind {g : MG} {b : MS} (I : List D → Rho → Prop) (step : ∀ d ds ρ, I (d :: ds) ρ → ∃ ρ1 ρ2, g d ρ = some ρ1 ∧ b ρ1 = some (.nx ρ2) ∧ I ds ρ2) : ∀ (ds : List D) (ρ : Rho), I ds ρ → ∃ ρ', forR g b ds ρ = some (.nx ρ') ∧ I [] ρ'
  | [], ρ, h => ⟨ρ, rfl, h⟩
  | d :: ds, ρ, h => by
    obtain ⟨ρ1, ρ2, h1, h2, h3⟩ := step d ds ρ h
    obtain ⟨ρ', h4, h5⟩ := forR_ind I step ds ρ2 h3
    refine ⟨ρ', ?_, h5⟩
    unfold forR
    rw [h1]
    simp only [h2]
    exact h4
theorem oEq_int (i j : Int) : oEq (.int i) (.int j) = some (.bl (decide (i = j))) := by
  unfold oEq eqB
  simp [sv, scal]
theorem oNe_int (i j : Int) : oNe (.int i) (.int j) = some (.bl (!decide (i = j))) := by
  unfold oNe eqB
  simp [sv, scal]
theorem oNe_str (i j : Str) : oNe (.str i) (.str j) = some (.bl (!decide (i = j))) := by
  unfold oNe eqB
  simp [sv, scal]
theorem svs_strs : ∀ zs : List Str, svs (zs.map D.str) = some (zs.map V.str)
  | [] => rfl
  | z :: zs => by
    show (match sv (.str z), svs (zs.map D.str) with | some x, some xs => some (x :: xs) | _, _ => none) = _
    rw [svs_strs zs]
    rfl
theorem oIn_strs (z : Str) (zs : List Str) : oIn (.str z) (.lst (zs.map D.str)) = some (.bl (decide (z ∈ zs))) := by
  show ((svs (zs.map D.str)).map fun vs => inV (.str z) vs).map _ = _
  rw [svs_strs]
  show some (D.bl (inV _ _)) = _
  rw [inV_strs]
theorem oNotIn_strs (z : Str) (zs : List Str) : oNotIn (.str z) (.lst (zs.map D.str)) = some (.bl (!decide (z ∈ zs))) := by
  show ((svs (zs.map D.str)).map fun vs => inV (.str z) vs).map _ = _
  rw [svs_strs]
  show some (D.bl (!inV _ _)) = _
  rw [inV_strs]
theorem oMul_2 (p : Int) : oMul (.int 2) (.int p) = some (.int (2 * p)) := by
  show (if (-(2 ^ 64) < (2 : Int) ∧ (2 : Int) < 2 ^ 64) ∨ (-(2 ^ 64) < p ∧ p < 2 ^ 64) then some (D.int (2 * p)) else none) = _
  rw [if_pos (.inl (by decide))]
theorem oMul_16 (p : Int) : oMul (.int 16) (.int p) = some (.int (16 * p)) := by
  show (if (-(2 ^ 64) < (16 : Int) ∧ (16 : Int) < 2 ^ 64) ∨ (-(2 ^ 64) < p ∧ p < 2 ^ 64) then some (D.int (16 * p)) else none) = _
  rw [if_pos (.inl (by decide))]
theorem oAdd_int (i j : Int) : oAdd (.int i) (.int j) = some (.int (i + j)) := rfl
theorem oSub_int (i j : Int) : oSub (.int i) (.int j) = some (.int (i - j)) := rfl
theorem oMod_int {i j : Int} (h : 0 < j) : oMod (.int i) (.int j) = some (.int (i % j)) := by
  show (if decide (0 < j) = true then some (D.int (i % j)) else none) = _
  rw [if_pos (decide_eq_true h)]
theorem oFdiv_int {i j : Int} (h : 0 < j ∧ j < 1073741824) : oFdiv (.int i) (.int j) = some (.int (i / j)) := by
  show (if decide (0 < j ∧ j < 1073741824) = true then some (D.int (i / j)) else none) = _
  rw [if_pos (decide_eq_true h)]
theorem oMod_2 (i : Int) : oMod (.int i) (.int 2) = some (.int (i % 2)) := oMod_int (by decide)
theorem oMod_3 (i : Int) : oMod (.int i) (.int 3) = some (.int (i % 3)) := oMod_int (by decide)
theorem oFdiv_2 (i : Int) : oFdiv (.int i) (.int 2) = some (.int (i / 2)) := oFdiv_int (by decide)
theorem cInt_int (i : Int) : cInt [.int i] = some (.int i) := rfl
theorem asB_bl (b : Bool) : asB (.bl b) = .ok b := rfl
theorem noX_ok {α : Type} (a : α) : noX (R.ok a) = .ok a := rfl
theorem seq_nx {a b : MS} {ρ ρ' : Rho} (h : a ρ = some (.nx ρ')) : sSeq a b ρ = b ρ' := by
  unfold sSeq
  rw [h]
theorem set_ok {i : Nat} {f : Rho → R D} {ρ : Rho} {d : D} (h : f ρ = .ok d) : sSet i f ρ = some (.nx (ρ.set i (.val d))) := by
  unfold sSet
  rw [h]
  rfl
theorem setL_ok {i : Nat} {f : Rho → R (List D)} {ρ : Rho} {d : List D} (h : f ρ = .ok d) : sSetL i f ρ = some (.nx (ρ.set i (.own d))) := by
  unfold sSetL
  rw [h]
  rfl
theorem ret_ok {f : Rho → R D} {ρ : Rho} {d : D} (h : f ρ = .ok d) : sRet f ρ = some (.rt d) := by
  unfold sRet
  rw [h]
  rfl
theorem if_yes {t : Rho → R Bool} {a b : MS} {ρ : Rho} (h : t ρ = .ok true) : sIf t a b ρ = a ρ := by
  unfold sIf
  rw [h]
  rfl
theorem if_no {t : Rho → R Bool} {a b : MS} {ρ : Rho} (h : t ρ = .ok false) : sIf t a b ρ = b ρ := by
  unfold sIf
  rw [h]
  rfl
theorem for_ok {f : Rho → R (List D)} {g : MG} {b : MS} {ρ : Rho} {ds : List D} (h : f ρ = .ok ds) : sFor f g b ρ = forR g b ds ρ := by
  unfold sFor
  rw [h]
  rfl
theorem app_ok {i : Nat} {f : Rho → R D} {ρ : Rho} {d : D} {xs : List D} (h : ρ[i]? = some (.own xs)) (h2 : f ρ = .ok d) (h3 : xs.length < 100000) : sApp i f ρ = some (.nx (ρ.set i (.own (xs ++ [d])))) := by
  unfold sApp
  rw [h]
  show lift (f ρ) ρ _ = _
  rw [h2, lift_ok, if_pos h3]
theorem runD_rt {n k : Nat} {g : MS} {ds : List D} {d : D} (h : ds.length = k) (h2 : g (rho0 n ds) = some (.rt d)) : runD n k g ds = .ok d := by
  unfold runD
  rw [if_pos h, h2]
  rfl
theorem runL_rf {n k : Nat} {g : MS} {ds : List D} {d : List D} (h : ds.length = k) (h2 : g (rho0 n ds) = some (.rf d)) : runL n k g ds = .ok d := by
  unfold runL
  rw [if_pos h, h2]
  rfl
theorem lc_ok {f : Rho → R (List D)} {g : MG} {t : Rho → R Bool} {e : Rho → R D} {vs : List Nat} {ρ : Rho} {ds : List D} (p : D → Bool) (v : D → D) (h : f ρ = .ok ds) (hl : ds.length ≤ 100000)
    (k : ∀ d ∈ ds, ∃ ρ1, g d (wipeR ρ vs) = some ρ1 ∧ t ρ1 = .ok (p d) ∧ (p d = true → e ρ1 = .ok (v d))) : lLc f g t e vs ρ = .ok ((ds.filter p).map v) := by
  unfold lLc
  rw [h, R.bind_ok, if_pos hl, lcR_map p v ds k]
  rfl
theorem fz_ok {f : Rho → R (List D)} {ρ : Rho} {xs : List D} (h : f ρ = .ok xs) : eFz f ρ = .ok (.lst xs) := by
  unfold eFz
  rw [h]
  rfl
theorem a1_ok {f : Rho → R D} {ρ : Rho} {d : D} (h : f ρ = .ok d) : aCons f aNil ρ = .ok [d] := by
  unfold aCons
  rw [h]
  rfl
theorem a2_ok {f g : Rho → R D} {ρ : Rho} {d e : D} (h : f ρ = .ok d) (h2 : g ρ = .ok e) : aCons f (aCons g aNil) ρ = .ok [d, e] := by
  unfold aCons
  rw [h, h2]
  rfl
theorem call_ok {m : List D → R D} {fs : Rho → R (List D)} {ρ : Rho} {ds : List D} (h : fs ρ = .ok ds) : eCall m fs ρ = m ds := by
  unfold eCall
  rw [h]
  rfl
theorem callL_ok {m : List D → R (List D)} {fs : Rho → R (List D)} {ρ : Rho} {ds : List D} (h : fs ρ = .ok ds) : lCall m fs ρ = m ds := by
  unfold lCall
  rw [h]
  rfl
theorem cb_ok {o : List D → Option D} {fs : Rho → R (List D)} {ρ : Rho} {ds : List D} (h : fs ρ = .ok ds) : eCB o fs ρ = ro (o ds) := by
  unfold eCB
  rw [h]
  rfl
theorem intList_map (w : Str → Int) : ∀ zs : List Str, intList (zs.map fun z => D.int (w z)) = some (zs.map w)
  | [] => rfl
  | z :: zs => by
    show (match intList (zs.map fun z => D.int (w z)) with | some is => some (w z :: is) | none => none) = _
    rw [intList_map w zs]
    rfl
theorem sum_cast (w : Str → Nat) : ∀ zs : List Str, (zs.map fun z => ((w z : Nat) : Int)).sum = ((zs.map w).sum : Nat)
  | [] => rfl
  | z :: zs => by
    rw [List.map_cons, List.sum_cons, sum_cast w zs, List.map_cons, List.sum_cons]
    omega
theorem and_one (m : Nat) : Builtin.bitAnd (m : Int) 1 = ((m % 2 : Nat) : Int) := by
  unfold Builtin.bitAnd
  rw [decide_eq_true (show (0 : Int) ≤ (m : Int) by omega), decide_eq_true (show (0 : Int) ≤ 1 by decide)]
  show (((m : Int).toNat &&& (1 : Int).toNat : Nat) : Int) = _
  rw [Int.toNat_natCast]
  show ((m &&& 1 : Nat) : Int) = _
  rw [Nat.and_one_is_mod]
theorem oShr_nat (n i : Nat) : oShr (.int n) (.int i) = some (.int ((n / 2 ^ i : Nat) : Int)) := by
  show (if decide ((0 : Int) ≤ i) = true then some (D.int ((n : Int) / 2 ^ (i : Int).toNat)) else none) = _
  rw [if_pos (decide_eq_true (by omega)), Int.toNat_natCast, Int.natCast_ediv]
  simp
theorem oBand_1 (m : Nat) : oBand (.int m) (.int 1) = some (.int ((m % 2 : Nat) : Int)) := by
  show (if true = true then some (D.int (Builtin.bitAnd m 1)) else none) = _
  rw [if_pos rfl, and_one]
theorem isi_eq {a : D} {t n : String} (h : tyD a = some t) (hn : n ∈ tyL := by decide) : cIsi [a, .opq (.ty n)] = some (.bl (isub t n)) := by
  show (match tyD a with | some t => if n ∈ tyL then some (D.bl (isub t n)) else none | none => none) = _
  rw [h]
  exact if_pos hn
theorem isi_ok {a : D} {t n : String} {i : Nat} {ρ : Rho} {b : Bool} (h : eVar i ρ = .ok a) (ht : tyD a = some t) (hb : isub t n = b) (hn : n ∈ tyL := by decide) : eCB cIsi (aCons (eVar i) (aCons (eC (.opq (.ty n))) aNil)) ρ = .ok (.bl b) := by
  refine (cb_ok (a2_ok h rfl)).trans ?_
  rw [isi_eq ht hn, hb]
  rfl
theorem test_ok {f : Rho → R D} {ρ : Rho} {b : Bool} (h : f ρ = .ok (.bl b)) : bTest f ρ = .ok b := by
  unfold bTest
  rw [h]
  rfl
theorem not_ok {f : Rho → R Bool} {ρ : Rho} {b : Bool} (h : f ρ = .ok b) : bNot f ρ = .ok (!b) := by
  unfold bNot
  rw [h]
  rfl
theorem or_no {f g : Rho → R Bool} {ρ : Rho} {b : Bool} (h : f ρ = .ok false) (h2 : g ρ = .ok b) : bOr f g ρ = .ok b := by
  unfold bOr
  rw [h]
  exact h2
theorem op_ok {o : D → D → Option D} {f g : Rho → R D} {ρ : Rho} {a b d : D} (h : f ρ = .ok a) (h2 : g ρ = .ok b) (h3 : o a b = some d) : e2 o f g ρ = .ok d := by
  unfold e2
  rw [h, h2]
  show ro (o a b) = _
  rw [h3]
  rfl
theorem oNe_bl (i j : Bool) : oNe (D.bl i) (D.bl j) = some (.bl (!decide (i = j))) := by
  unfold oNe eqB
  simp [sv, scal]
theorem noX_of {α : Type} {r : R α} {a : α} (h : r = .ok a) : noX r = .ok a := by rw [h]; rfl
theorem ty_int (i : Int) : tyD (.int i) = some "int" := rfl
theorem ty_str (i : Str) : tyD (.str i) = some "str" := rfl
theorem ty_tup (xs : List D) : tyD (.tup xs) = some "tuple" := rfl
theorem r1_ok {fs : Rho → R (List D)} {ρ : Rho} {n : Nat} (h : fs ρ = .ok [.int (n : Nat)]) (hn : n ≤ 100000) : iR1 fs ρ = .ok (rIntD 0 n) := by
  unfold iR1
  rw [h, R.bind_ok]
  have hc : (-(2 ^ 62) : Int) ≤ (n : Nat) ∧ ((n : Nat) : Int) < 2 ^ 62 := by omega
  simp only [hc, and_self, if_true, Int.toNat_natCast]
theorem at_ok {α : Type} {xs : List α} {k : Nat} (h : k < xs.length) : atI xs ((k : Nat) : Int) = some xs[k] := by
  unfold atI ixN
  rw [if_pos (by omega), if_pos (by omega)]
  simp [h]
theorem and_ok {f g : Rho → R D} {ρ : Rho} {d : D} (h : f ρ = .ok (.bl true)) (h2 : g ρ = .ok d) : eAnd f g ρ = .ok d := by
  unfold eAnd
  rw [h]
  exact h2
theorem forR_each {j : Nat} {b : MS} {ρ : Rho} : ∀ (ds : List D), (∀ d ∈ ds, b (ρ.set j (.val d)) = some (.nx (ρ.set j (.val d)))) → ∀ y, ∃ y', forR (gN j) b ds (ρ.set j y) = some (.nx (ρ.set j y'))
  | [], _, y => ⟨y, rfl⟩
  | d :: ds, h, y => by
    obtain ⟨y', e⟩ := forR_each ds (fun d hd => h d (List.mem_cons_of_mem _ hd)) (.val d)
    refine ⟨y', ?_⟩
    unfold forR
    show (match b ((ρ.set j y).set j (.val d)) with
      | some (.nx ρ') => forR (gN j) b ds ρ'
      | some (.ct ρ') => forR (gN j) b ds ρ'
      | some (.bk ρ') => some (.nx ρ')
      | o => o) = _
    rw [List.set_set, h d List.mem_cons_self]
    exact e
theorem rint_mem {n : Nat} {d : D} (h : d ∈ rIntD 0 n) : ∃ k : Nat, k < n ∧ d = .int (k : Nat) := by
  unfold rIntD at h
  obtain ⟨k, hk, rfl⟩ := List.mem_map.mp h
  exact ⟨k, List.mem_range.mp hk, by rw [Int.zero_add]⟩
theorem rint_len (n : Nat) : (rIntD 0 n).length = n := by
  unfold rIntD
  rw [List.length_map, List.length_range]
theorem ask_ok {m : List D → R D} {j : Nat} {d : D} {ρ : Rho} (hj : eVar j ρ = .ok d) (h : m [d] = .ok (.bl true)) : (sIf (bNot (bTest (eCall (fun ds => noX (m ds)) (aCons (eVar j) aNil)))) (sRet (eC (.bl false))) sNext) ρ = some (.nx ρ) :=
  (if_no (not_ok (b := true) (test_ok ((call_ok (a1_ok hj)).trans (noX_of h))))).trans rfl
theorem lst_ok {fs : Rho → R (List D)} {ρ : Rho} {xs : List D} (h : fs ρ = .ok xs) (hl : xs.length ≤ 100000) : lLst fs ρ = .ok xs := by
  unfold lLst
  rw [h]
  exact if_pos hl
theorem tup_ok {fs : Rho → R (List D)} {ρ : Rho} {xs : List D} (h : fs ρ = .ok xs) (hl : xs.length ≤ 100000) : eTup fs ρ = .ok (.tup xs) := by
  unfold eTup
  rw [h]
  exact if_pos hl
theorem cons_ok {f : Rho → R D} {fs : Rho → R (List D)} {ρ : Rho} {d : D} {ds : List D} (h : f ρ = .ok d) (h2 : fs ρ = .ok ds) : aCons f fs ρ = .ok (d :: ds) := by
  unfold aCons
  rw [h, h2]
  rfl
theorem seq_val {f : Rho → R D} {ρ : Rho} {xs : List D} (h : f ρ = .ok (.lst xs)) : Xd.iSeq f ρ = .ok xs := by
  unfold Xd.iSeq
  rw [h]
  rfl
theorem frz_ok {i : Nat} {g : MS} {ρ : Rho} {xs : List D} (h : ρ[i]? = some (.own xs)) : sFrz i g ρ = g (ρ.set i (.val (.lst xs))) := by
  unfold sFrz
  rw [h]
def okB : R D → Bool
  | .ok (.bl b) => b
  | _ => false
theorem okB_eq {r : R D} (h : okB r = true) : r = .ok (.bl true) := by
  unfold okB at h
  split at h
  · rw [h]
  · cases h
end Xd
/-! partition, xs[::-1], list.index -/
namespace Xd
open PySem L2 Xg
def mPart (a : D) (as : List D) : Option D := match a, as with
  | .str a, [.str b] => if (b.length == 0) = false ∧ a.length ≤ 100000 then some (.tup [.str (Txt.partition a b).1, .str (Txt.partition a b).2.1, .str (Txt.partition a b).2.2]) else none
  | _, _ => none
section
variable {c : Cc} {W : Xd.WE} {ta tb : TE} {f g : Rho → R D}
theorem jm_part : JM c (fun x xs H Q => ∃ a b, x = .str a ∧ xs = [.str b] ∧ (b.length == 0) = false ∧ a.length ≤ sizeLine ∧
    ∀ p, H p = none → Q (.ref p) (upd H p (.tup [.str (Txt.partition a b).1, .str (Txt.partition a b).2.1, .str (Txt.partition a b).2.2]))) mPart := fun Hi H ok x xs a as d Q hx hs e q => by
  unfold mPart at e
  split at e
  · obtain ⟨⟨h1, h2⟩, rfl⟩ := if_some e
    cases hx
    obtain ⟨v, rfl, h⟩ := dva1 hs
    cases h
    exact ⟨_, _, rfl, rfl, h1, lim_le h2, fun p np => q.tup ok (.cons (.str _) (.cons (.str _) (.cons (.str _) .nil))) p np⟩
  · cases e
theorem DvA.rev {K : PySem.W.Frag} {cl : Nat → Addr} {Hi : Hp} : ∀ {ds : List D} {vs : List V}, DvA K cl Hi vs ds → DvA K cl Hi vs.reverse ds.reverse
  | [], _, h => by cases h; exact .nil
  | d :: ds, _, h => by
    cases h with
    | cons h1 h2 =>
      rw [List.reverse_cons, List.reverse_cons]
      exact (DvA.rev h2).append (.cons h1 .nil)
def lRev (f : Rho → R D) : Rho → R (List D) := fun ρ => (f ρ).bind fun d => match d with
  | .lst xs => .ok xs.reverse
  | _ => .bad
theorem jl_rev (ha : JE c W ta f) : JL c W (tRevL c.K ta) (lRev f) := fun σ ρ Hi H ok sv Q h => by
  refine ha σ ρ Hi H ok sv _ ((Meet.bind h).imp (fun a h v Hi1 H1 s1 d1 => ?_) fun x k => k)
  split at h
  · rename_i xs
    cases d1 with
    | lst h1 h2 =>
      exact ⟨_, _, rfl, SqL.of (s1.ok.le _ _ h1), fun p np => RetL.lst (RetL.to (fun p v Hi2 H2 s2 n n2 e e2 => h p v Hi2 H2 s2 n n2 e e2) s1) s1.ok h2.rev p np⟩
  · exact h.elim
/-- the place of the first that is equal -/
def idxV (y : V) : List V → Option Nat
  | [] => none
  | z :: zs => if eqV z y = true then some 0 else (idxV y zs).map (· + 1)
theorem idxV_some {y : V} : ∀ {ys : List V} {j : Nat}, idxV y ys = some j → (∃ z, ys[j]? = some z ∧ eqV z y = true) ∧ ∀ (m : Nat) (z : V), m < j → ys[m]? = some z → eqV z y = false
  | [], j, h => by cases h
  | z :: zs, j, h => by
    unfold idxV at h
    split at h
    · rename_i hz
      cases h
      exact ⟨⟨z, rfl, hz⟩, fun m _ hm => absurd hm (Nat.not_lt_zero m)⟩
    · rename_i hz
      obtain ⟨k, hk, rfl⟩ := Option.map_eq_some_iff.mp h
      obtain ⟨⟨w, h1, h2⟩, h3⟩ := idxV_some hk
      refine ⟨⟨w, by simpa using h1, h2⟩, fun m u hm e => ?_⟩
      cases m with
      | zero =>
        simp at e
        subst e
        simpa using hz
      | succ m => exact h3 m u (by omega) (by simpa using e)
def mIdx (a : D) (as : List D) : Option D := match a, as with
  | .lst xs, [y] => match svs xs, sv y with
    | some vs, some u => (idxV u vs).map fun j => .int (j : Nat)
    | _, _ => none
  | _, _ => none
def eIdxL (f g : Rho → R D) : Rho → R D := fun ρ => (f ρ).bind fun a => match a with
  | .lst xs => (g ρ).bind fun b => ro (mIdx (.lst xs) [b])
  | _ => .bad
theorem je_idxL (ha : JE c W ta f) (hb : JE c W tb g) : JE c W (tBM c.K "list" (rIndex c.K) ta (tCons tb tNil)) (eIdxL f g) := fun σ ρ Hi H ok sv Q h => by
  refine ha σ ρ Hi H ok sv _ ((Meet.bind h).imp (fun a h v Hi1 H1 s1 d1 => ?_) fun x k => k)
  split at h
  · rename_i xs
    cases d1 with
    | lst h1 h2 =>
      rename_i p vs
      refine ⟨.inl ⟨rfl, _, SqL.of (s1.ok.le _ _ h1)⟩, hb σ ρ Hi1 H1 s1.ok (sv.step s1) _ (meet_step s1 (Meet.bind h) fun b h v2 Hi2 H2 s2 d2 => ?_)⟩
      refine ro_meet h fun d e q => ?_
      have e : (match svs xs, Xd.sv b with | some vs, some u => (idxV u vs).map fun j => D.int (j : Nat) | _, _ => none) = some d := e
      split at e
      · rename_i us u ex eu
        obtain ⟨j, ej, rfl⟩ := Option.map_eq_some_iff.mp e
        have e1 := h2.small ex
        subst e1
        have e2 := d2.small eu
        subst e2
        obtain ⟨⟨z, k1, k2⟩, k3⟩ := idxV_some ej
        exact ⟨p, _, _, j, z, rfl, rfl, SqL.of (s2.ok.le _ _ (s2.hi _ _ h1)), sv_flat eu, svs_flat ex, k1, k2, k3, q _ _ _ (s1.trans s2) (.int _)⟩
      · cases e
  · exact h.elim
/-- own.extend(xs) -/
def sExt (i : Nat) (f : Rho → R D) : MS := fun ρ => match ρ[i]? with
  | some (.own xs) => lift (f ρ) ρ fun d => match d with
    | .lst ys => if xs.length + ys.length ≤ 100000 then some (.nx (ρ.set i (.own (xs ++ ys)))) else none
    | _ => none
  | _ => none
theorem js_ext (i : Nat) (ha : JE c W ta f) : JS c W (tDrop (tBM c.K "list" rExtend (tVar i) (tCons ta tNil))) (sExt i f) := fun σ ρ Hi H ok sv Dn h => by
  unfold sExt at h
  split at h
  · rename_i xs hr
    obtain ⟨p, vs, e1, e2, e3, e4, e5⟩ := sv.own hr
    refine ⟨_, e1, .inl ⟨rfl, _, SqL.of e2⟩, ?_⟩
    refine ha σ ρ Hi H ok sv _ ((AftO.lift h sv).imp (fun a h v Hi1 H1 s1 d1 => ?_) fun x k => k)
    cases a with
    | lst ys =>
      have h : AftO c W Hi Dn (if xs.length + ys.length ≤ 100000 then some (.nx (ρ.set i (.own (xs ++ ys)))) else none) := h
      by_cases hl : xs.length + ys.length ≤ 100000
      · rw [if_pos hl] at h
        cases d1 with
        | lst k1 k2 =>
          refine ⟨p, _, vs, _, rfl, rfl, s1.lst e2, s1.ok.le _ _ k1, lim_le (by rw [e5.length, k2.length]; exact hl), ?_⟩
          exact h σ Hi1 _ s1.hi (s1.ok.change (s1.lst e2) (s1.fr _ _ e2 e3) e4) ((sv.step s1).change hr e1 ((e5.up s1.hi).append k2))
      · rw [if_neg hl] at h
        exact h.elim
    | _ => exact h.elim
  · exact h.elim
end
end Xd
/-! XgTry: several handlers with a name each (except A as n: .. except B as n: ..). -/
namespace Xg
open PySem PySem.Spec PyProof.Rows L2
/-- what a row of named handlers wishes, one behind the other -/
def wTries (K : PySem.W.Frag) (Wo : WX) (D : Ends) : List (Value × Nat × (Addr → Value → Option Addr → TS)) → WX
  | [] => Wo
  | q :: r => wAs K q.1 q.2.1 q.2.2 (wTries K Wo D r) D
/-- a row of named handlers and what is known of each -/
inductive Hn (X : Cx) : List ExceptHandler → List (Value × Nat × (Addr → Value → Option Addr → TS)) → Prop
  | nil : Hn X [] []
  | cons {x n : Str} {cv : Value} {i : Nat} {ts : Addr → Value → Option Addr → TS} {st : Stmt} {more : List Stmt} {np hp : Pos} {hds : List ExceptHandler} {l : List (Value × Nat × (Addr → Value → Option Addr → TS))}
      (slot : X.N[i]? = some n) (kind : X.env.kindOf n = some .local) (nm : Names X x cv)
      (su : ∀ (p : Addr) (ob : Obj) (k : Value) (d : Option Addr) (pn : List (Addr × Obj)), Zc k d ob → (∃ fs, ob.data = .fields fs) → PSs (X.suite p ((p, ob) :: pn)) (st :: more) (ts p k d))
      (rest : Hn X hds l) : Hn X (.ExceptHandler (some (.Name x np)) (some n) (st :: more) hp :: hds) ((cv, i, ts) :: l)
section
variable {X : Cx} {bd : List Stmt} {h0 : ExceptHandler} {hds : List ExceptHandler} {l : List (Value × Nat × (Addr → Value → Option Addr → TS))} {pos : Pos} {tb : WX → TS} {Wo : WX}
theorem ps_tries (stk : X.stack = X.env :: X.outer) (frm : X.env.frame = some X.env.locals) (nod : X.N.Nodup) (tk : Takes X Wo)
    (hb : ∀ (V : WX) (ps : List (Addr × Obj)) (E : Value → Shared → Prop), Takes (X.tr ps E) V → PassesOwn (model X.prog X.w) X.A X.env E → PSs (X.tr ps E) bd (tb V))
    (hn : Hn X (h0 :: hds) l) : PS X (.Try bd (h0 :: hds) [] [] pos) (fun D σ H => tb (wTries X.K Wo D l) D σ H) := by
  constructor
  intro pins s σ H D I wish
  have ok := I.ok
  have fr0 : X.A.frames = some (X.env :: X.outer) := ok.frames.trans (congrArg some stk)
  apply wpAny_Try_except
  have main := (hb (wTries X.K Wo D l) (X.pn ++ pins) (fun e t1 => wpAny (model X.prog X.w) X.A (noteFrame e X.env) (fun _ t2 => wpAny (model X.prog X.w) X.A (setFlight e none)
    (fun _ t3 => wpAny (model X.prog X.w) X.A (handleBy e X.env (h0 :: hds)) (SP X pins D) X.xe t3) X.xe t2) X.xe t1) ?caught PassesOwn.looking).run [] s σ H D (I.toTry _) wish
  case caught =>
    rintro u t ⟨a, Bd, tI, pins2, τ, G, k, d, rfl, Jt, nbd, upt, skyt, nowhere, ofs, agr, wsh⟩
    have J0 : Inv X pins τ G tI := Jt.ofTry ok
    have sky0 : Sky Bd (X.env :: X.outer) a (Zc k d) X.env.locals t.heap := stk ▸ skyt
    change wpAny (model X.prog X.w) X.A (noteFrame (.ref a) X.env) _ _ _
    apply Sky.land Zc.steady fr0 frm sky0
    intro g3 fl u3
    have upg := upt.trans u3
    obtain ⟨ob, fs, hob, zob, dob⟩ := fl.there
    have noF : ∀ {g : Heap} {o : Obj} {fz : Array Value}, g.FunFrames Bd (X.env :: X.outer) → g.get? a = some o → o.data = .fields fz → a ∉ frs (X.env :: X.outer) := by
      intro g o fz ff ho hd ha
      obtain ⟨_, o2, ho2, bad⟩ := ff.mem ha
      cases ho.symm.trans ho2
      exact bad _ hd
    have a_out := noF fl.2.2.1 hob dob
    have a_loc : a ≠ X.env.locals := by
      rintro rfl
      exact a_out (List.mem_filterMap.mpr ⟨X.env, .head _, frm⟩)
    have a_fs : a ∉ X.fs := by
      intro ha
      obtain ⟨ev, hev, hq⟩ := List.mem_filterMap.mp ha
      exact a_out (List.mem_filterMap.mpr ⟨ev, .tail _ hev, hq⟩)
    have J3 : Inv X pins τ G { t with heap := g3 } := J0.landed nbd fl.1 upg ofs agr
    have Su := J3.suite hob dob nowhere a_loc a_fs
    have step : ∀ {hs2 : List ExceptHandler} {l2 : List (Value × Nat × (Addr → Value → Option Addr → TS))}, Hn X hs2 l2 → wTries X.K Wo D l2 k d τ G →
        wpAny (model X.prog X.w) X.A (handleBy (.ref a) X.env hs2) (SP X pins D) X.xe { t with heap := g3 } := by
      intro hs2 l2 hn2
      induction hn2 with
      | nil =>
        intro out
        apply wpAny_handleBy_nil
        obtain ⟨_, _, _, o5, f5, T5, oT5, tr5, h5, _, d5, n5, _⟩ := id fl
        unfold PySem.passOn
        apply wpAny_bind
        apply wpAny_field h5 d5 n5
        rw [if_neg (by simp : ¬ ((Value.ref T5 == Value.none) = true))]
        have leave : wpAny (model X.prog X.w) X.A (setFlight (.ref a) X.env.frame) (fun _ t4 => wpAny (model X.prog X.w) X.A (throw (.ref a) : Sem Flow) (SP X pins D) X.xe t4) X.xe { t with heap := g3 } := by
          rw [frm]
          apply HandSPX.setFlight_upZ fl
          intro g4 up4 le4
          exact wpAny_throw (tk _ _ ⟨a, Bd, tI, pins, τ, G, k, d, rfl, J0, nbd, upg.trans le4, .inr (.inr (stk ▸ up4)), nowhere, ofs, agr, out⟩)
        first
          | exact wpAny_bind leave
          | exact wpAny_bind (wpAny_pure (wpAny_bind leave))
      | @cons x n cv i ts st more np hp hs3 l3 slot kind nm su rest ih =>
        rintro ⟨b, eb, yes, no⟩
        refine wpAny_handleBy_cons (codeAny_handlers_test ?_) (fun z => nomatch z)
        have looks : PySem.W.Looks (model X.prog X.w) g3 (typeOf (.ref a)) k := by
          intro A Q E t7 kp q
          exact wpAny_typeOf_ref (kp _ _ hob) (zob.1 ▸ q)
        have one := PySem.W.exm_one (M := model X.prog X.w) (J3.kIn) looks eb
        have named : ∀ {Q E : Value → Shared → Prop}, Q cv { t with heap := g3 } → wpAny (model X.prog X.w) (X.A.mark (some (.ref a))) (eval (.Name x np) X.env) Q E { t with heap := g3 } := by
          intro Q E q
          obtain ⟨gl, dbg, md | ⟨md, bv, nn⟩⟩ := nm
          · exact ld_glob (X := X.suite a ((a, ob) :: (X.pn ++ pins))) Su gl md q dbg
          · exact ld_blt (X := X.suite a ((a, ob) :: (X.pn ++ pins))) Su gl md bv q nn dbg
        apply named
        apply one.here
        cases b with
        | false => exact ih (no rfl)
        | true =>
          apply codeAny_handlers_suite_as
          apply HandSPX.lands_againZ fl
          intro g4 fl4 up4
          have J4 : Inv X pins τ G { t with heap := g4 } := J0.landed nbd fl4.1 (upg.trans up4) ofs agr
          obtain ⟨ob4, fs4, hob4, zob4, dob4⟩ := fl4.there
          apply store_ok (X := X.suite a ((a, ob4) :: (X.pn ++ pins))) (v := .ref a) (J4.suite hob4 dob4 nowhere a_loc a_fs) nod slot (.inl kind) rfl ?_ (.inr kind)
          intro t5 I5
          have run := (su a ob4 k d (X.pn ++ pins) zob4 ⟨_, dob4⟩).run [] t5 _ G _ I5 (yes rfl a nowhere)
          refine wpAny_mono run ?_ (fun _ _ bad => False.elim bad)
          intro fl6 t6 sp
          have close : ∀ {τ6 : L2.St} {G6 : Hp} {Q : Shared → Prop}, Inv (X.suite a ((a, ob4) :: (X.pn ++ pins))) [] τ6 G6 t6 → (∀ t7, Inv X pins (τ6.set i none) G6 t7 → Q t7) →
              wpAny (model X.prog X.w) X.A (do bindName X.env n .none; unbindBehindTheSuite X.env n hp) (fun _ t7 => Q t7) X.xe t6 := by
            intro τ6 G6 Q I6 hq
            exact gone_ok (I6.unsuite ok) nod slot kind hq
          cases fl6 with
          | ret u6 =>
            obtain ⟨v6, τ6, G6, I6, r6, q6⟩ := sp
            exact close I6 (fun t7 J7 => ⟨v6, _, _, J7, r6, q6⟩)
          | next =>
            obtain ⟨τ6, G6, I6, q6⟩ := sp
            exact close I6 (fun t7 J7 => ⟨_, _, J7, q6⟩)
          | brk =>
            obtain ⟨τ6, G6, I6, q6⟩ := sp
            exact close I6 (fun t7 J7 => ⟨_, _, J7, q6⟩)
          | cont =>
            obtain ⟨τ6, G6, I6, q6⟩ := sp
            exact close I6 (fun t7 J7 => ⟨_, _, J7, q6⟩)
    exact step hn wsh
  refine wpAny_mono main ?_ (fun _ _ he => he)
  intro fl t sp
  cases fl with
  | ret u =>
    obtain ⟨v, τ, G, I1, r1, q1⟩ := sp
    exact ⟨v, τ, G, I1.ofTry ok, r1, q1⟩
  | next =>
    obtain ⟨τ, G, I1, q1⟩ := sp
    exact wpAny_execs_nil ⟨τ, G, I1.ofTry ok, q1⟩
  | brk =>
    obtain ⟨τ, G, I1, q1⟩ := sp
    exact ⟨τ, G, I1.ofTry ok, q1⟩
  | cont =>
    obtain ⟨τ, G, I1, q1⟩ := sp
    exact ⟨τ, G, I1.ofTry ok, q1⟩
end
end Xg
namespace Xd
open PySem L2 Xg
/-- a row of handlers over mirrors -/
abbrev Hm := (Nat → Option Bool) × Nat × (Xc → MS)
def goTries : List Hm → Xc → Rho → Option O
  | [], x, ρ => some (.ex x ρ)
  | q :: r, x, ρ => match q.1 x.c with
    | some true => aftTry q.2.1 (q.2.2 x ((noErr ρ).set q.2.1 .err))
    | some false => goTries r x ρ
    | none => none
def sTries (gb : MS) (l : List Hm) : MS := fun ρ => match gb ρ with
  | some (.ex x ρ') => goTries l x ρ'
  | o => o
section
variable {c : Cc}
inductive Jh (c : Cc) : List (Value × Nat × (Addr → Value → Option Addr → TS)) → List Hm → Prop
  | nil : Jh c [] []
  | cons {cv : Value} {i : Nat} {ts : Addr → Value → Option Addr → TS} {exm : Nat → Option Bool} {gs : Xc → MS} {l : List (Value × Nat × (Addr → Value → Option Addr → TS))} {lm : List Hm}
      (hs : ∀ (a : Addr) (x : Xc) (cls : Value) (d : Option Addr) (Hi0 : Hp), XcAt c.K c.cl Hi0 x cls d → JS ⟨c.K, c.cl, Hi0, c.H0, a, c.tb⟩ W0 (ts a cls d) (gs x))
      (hm : ∀ n b, exm n = some b → PySem.W.exmOne c.K (.ref (c.cl n)) cv = some b) (r : Jh c l lm) : Jh c ((cv, i, ts) :: l) ((exm, i, gs) :: lm)
theorem js_tries {tb : WX → TS} {l : List (Value × Nat × (Addr → Value → Option Addr → TS))} {lm : List Hm} {Vout : WX} {gb : MS} (hb : ∀ V : WX, JS c (wX c.K c.cl V) (tb V) gb)
    (hl : Jh c l lm) : JS c (wX c.K c.cl Vout) (fun Dn σ H => tb (wTries c.K Vout Dn l) Dn σ H) (sTries gb lm) := fun σ ρ Hi H ok sv Dn h => by
  refine hb _ σ ρ Hi H ok sv Dn ?_
  unfold sTries at h
  cases hg : gb ρ with
  | none => rw [hg] at h; exact h
  | some o =>
    rw [hg] at h
    cases o with
    | ex x ρ' =>
      intro σ' Hi' H' sm ok' sv' cls d xa
      simp only at h
      clear hg hb
      induction hl with
      | nil => exact h σ' Hi' H' sm ok' sv' cls d xa
      | @cons cv i ts exm gs l lm hs hm r ih =>
        unfold goTries at h
        dsimp only at h
        cases hx : exm x.c with
        | none => rw [hx] at h; exact h.elim
        | some b =>
          rw [hx] at h
          have e1 := hm _ _ hx
          obtain ⟨dx, vs, rfl, _⟩ := id xa
          cases b with
          | false => exact ⟨false, e1, (fun z => nomatch z), fun _ => ih h⟩
          | true =>
            refine ⟨true, e1, fun _ a na => ?_, (fun z => nomatch z)⟩
            have ok2 := ok'.turn a
            have sv2 : Sv ⟨c.K, c.cl, Hi', c.H0, a, c.tb⟩ Hi' H' (σ'.set i (some (.ref a))) ((noErr ρ').set i .err) := Sv.setErr (c := ⟨c.K, c.cl, Hi', c.H0, a, c.tb⟩) (Sv.recx (a := c.ea) (Hq := c.Hq) sv') i
            refine hs a x _ d Hi' xa _ _ Hi' H' ok2 sv2 _ ?_
            have fin : ∀ {Kn : L2.St → Hp → Prop} {ρ2 : Rho}, Nx c Hi Kn (noErr (ρ2.set i .un)) → Nx ⟨c.K, c.cl, Hi', c.H0, a, c.tb⟩ Hi' (fun σ3 H3 => Kn (σ3.set i none) H3) ρ2 := fun {Kn ρ2} k σ3 Hi3 H3 s3 ok3 sv3 =>
              k _ Hi3 H3 (sm.trans s3) (ok'.back ok3) (Sv.recx (a := a) (Hq := Hi') (a' := c.ea) (Hq' := c.Hq) (sv3.setUn i none))
            cases hr : gs x ((noErr ρ').set i .err) with
            | none => simp only [hr] at h; exact h.elim
            | some o2 =>
              simp only [hr] at h
              cases o2 with
              | nx ρ2 => exact fin h
              | bk ρ2 => exact fin h
              | ct ρ2 => exact fin h
              | rt d2 => exact fun v Hi3 H3 s3 ok3 dv => h v Hi3 H3 (sm.trans s3) (ok'.back ok3) dv
              | rf xs => exact fun p us Hi3 H3 s3 ok3 e3 n3 n0 dv => h p us Hi3 H3 (sm.trans s3) (ok'.back ok3) e3 n3 n0 dv
              | ex y ρ2 => exact h.elim
    | _ => exact h
/-- the same in a def that raises nothing -/
theorem js_tries0 {tb : WX → TS} {l : List (Value × Nat × (Addr → Value → Option Addr → TS))} {lm : List Hm} {gb : MS} (hb : ∀ V : WX, JS c (wX c.K c.cl V) (tb V) gb)
    (hl : Jh c l lm) : JS c W0 (fun Dn σ H => tb (wTries c.K (fun _ _ _ _ => False) Dn l) Dn σ H) (sTries gb lm) :=
  js_w (js_tries hb hl) fun _ _ _ _ h => h.elim
end
end Xd
/-! what every law's text needs: the row of digits, the top's facts, the promise of a law -/
namespace Xd
open PySem L2 Xg CwR
section
variable {K : PySem.W.Frag} {cl : Nat → Addr} {Hi : Hp}
theorem dva_strs : ∀ {zs : List Str} {vs : List V}, DvA K cl Hi vs (zs.map D.str) → vs = zs.map V.str
  | [], vs, h => by cases h; rfl
  | z :: zs, vs, h => by
    cases h with
    | cons h1 h2 =>
      cases h1
      rw [dva_strs h2]
      rfl
theorem dva_of_strs : ∀ {zs : List Str}, DvA K cl Hi (zs.map V.str) (zs.map D.str)
  | [] => .nil
  | z :: zs => .cons (.str z) dva_of_strs
theorem ints_dva : ∀ row : List Int, DvA K cl Hi (row.map V.int) (row.map D.int)
  | [] => .nil
  | i :: r => .cons (.int i) (ints_dva r)
end
/-- a method of a class as the text has it -/
def Me (K : PySem.W.Frag) (x qual : Str) (st : Stmt) (f : Addr) (ps : List Str) : Prop := ∃ fd, Fun K x qual st f fd ∧ Binds K fd ps []
def meD (c x qual : Str) (st : Stmt) : He.FnD := ⟨(c, some x), x, qual, defArgs st, defBody st, defScope st⟩
theorem me_of {K : PySem.W.Frag} {fa : List He.Fa} {ml : List He.FnD} (c : He.SaysE fa ml K) (i : Nat) {C x qual : Str} {st : Stmt} {ps : List Str} (h1 : ml[i]? = some (meD C x qual st)) (k : PySem.W.keepIn K (.ref (He.ma K (He.ga K C) x)) = true)
    (b : ∀ (kV doc pm : Value) (an : Option Addr) (cdv ct : Value) (us : List Value), us.length = ps.length → bindArgs (PySem.W.fnOf x qual (defArgs st) (defBody st) (defScope st) .none kV doc pm an cdv ct) ⟨us, []⟩ = pure (ps.zip us)) : Me K x qual st (He.ma K (He.ga K C) x) ps := by
  obtain ⟨oc, od, osl, kV, doc, pm, an, cdv, ct, l, cd⟩ := c.def_ i h1
  have F : Fun K x qual st (He.ma K (He.ga K C) x) _ := fun_mk l cd k
  exact ⟨_, F, F.binds b⟩
/-- a plain tuple stands there -/
def tupB (K : PySem.W.Frag) (a : Addr) : Bool := match K.lookup a with
  | some ⟨.type "tuple", none, _, _⟩ => true
  | _ => false
theorem tupB_ok {K : PySem.W.Frag} {a : Addr} (h : tupB K a = true) : ∃ o, K.lookup a = some o ∧ o.cls = .type "tuple" ∧ o.dict = none := by
  unfold tupB at h
  split at h
  · rename_i d s e
    exact ⟨_, e, rfl, rfl⟩
  · cases h
def kitB (K : PySem.W.Frag) : Bool := tyL.all fun a => tyL.all fun b => decide (PySem.W.kitOne K (.type a) (.type b) = some (isub a b))
theorem kitB_ok {K : PySem.W.Frag} (h : kitB K = true) : KitOk K := fun a ha b hb => of_decide_eq_true (List.all_eq_true.mp (List.all_eq_true.mp h a ha) b hb)
theorem same_sqL {K : PySem.W.Frag} {H H' : Hp} {a : Addr} {xs : List V} (e : Same H H') (h : SqL K H a xs) : SqL K H' a xs := e.seq h
def spLaw (K : PySem.W.Frag) : Sp := fun vs H Q _ => ∃ (a : Addr) (ns : List Int), vs = [.ref a] ∧ SqL K H a (ns.map V.int) ∧ ns.length ≤ 63 ∧ ∀ H', Q (.bl true) H'
theorem sv_un {c : Cc} {Hi H : Hp} {σ : L2.St} {n : Nat} (h : σ.length = n) : Sv c Hi H σ (List.replicate n .un) := by
  refine ⟨by rw [h, List.length_replicate], fun i o s _ e => ?_, fun i j p xs ys e _ _ _ => ?_⟩
  · have := List.eq_of_mem_replicate (List.mem_of_getElem? e)
    subst this
    trivial
  · cases List.eq_of_mem_replicate (List.mem_of_getElem? e)
/-- behind the row's making: the heap as the mirrors see it -/
theorem row_ok {K : PySem.W.Frag} {cl : Nat → Addr} {H H1 : Hp} {p1 : Addr} {row : List Int} (s1 : Same H H1) (n1 : H p1 = none) (h1 : H1 p1 = some (.lst (row.map V.int))) :
    Ok ⟨K, cl, fun _ => none, H, 0, []⟩ (upd (fun _ => none) p1 (.lst (row.map V.int))) H1 := by
  refine ⟨fun b o e => ?_, fun b o e => (by cases e), fun b o _ e => s1 b o e, fun b o e _ => ?_, fun b hb => (nomatch hb), fun b hb => (nomatch hb)⟩
  · by_cases hb : b = p1
    · subst hb
      rw [upd_same] at e
      rw [h1]
      exact e
    · rw [upd_ne hb] at e
      cases e
  · by_cases hb : b = p1
    · subst hb
      exact n1
    · rw [upd_ne hb] at e
      cases e
end Xd
/-! how mirrors are run, the second part: loops as folds, equality of data, cuts -/
namespace Xd
open PySem L2 Xg CwR
theorem seq_rt {a b : MS} {ρ : Rho} {d : D} (h : a ρ = some (.rt d)) : sSeq a b ρ = some (.rt d) := by
  unfold sSeq
  rw [h]
theorem seq_ex {a b : MS} {ρ ρ' : Rho} {x : Xc} (h : a ρ = some (.ex x ρ')) : sSeq a b ρ = some (.ex x ρ') := by
  unfold sSeq
  rw [h]
theorem retO_ok {i : Nat} {ρ : Rho} {xs : List D} (h : ρ[i]? = some (.own xs)) : sRetO i ρ = some (.rf xs) := by
  unfold sRetO
  rw [h]
theorem retL_ok {f : Rho → R (List D)} {ρ : Rho} {d : List D} (h : f ρ = .ok d) : sRetL f ρ = some (.rf d) := by
  unfold sRetL
  rw [h]
  rfl
theorem expr_ok {f : Rho → R D} {ρ : Rho} {d : D} (h : f ρ = .ok d) : sExpr f ρ = some (.nx ρ) := by
  unfold sExpr
  rw [h]
  rfl
theorem expr_exc {f : Rho → R D} {ρ : Rho} {x : Xc} (h : f ρ = .exc x) : sExpr f ρ = some (.ex x ρ) := by
  unfold sExpr
  rw [h]
  rfl
theorem runD_nx {n k : Nat} {g : MS} {ds : List D} {ρ : Rho} (h : ds.length = k) (h2 : g (rho0 n ds) = some (.nx ρ)) : runD n k g ds = .ok .non := by
  unfold runD
  rw [if_pos h, h2]
  rfl
theorem runD_ex {n k : Nat} {g : MS} {ds : List D} {x : Xc} {ρ : Rho} (h : ds.length = k) (h2 : g (rho0 n ds) = some (.ex x ρ)) : runD n k g ds = .exc x := by
  unfold runD
  rw [if_pos h, h2]
  rfl
theorem runL_ex {n k : Nat} {g : MS} {ds : List D} {x : Xc} {ρ : Rho} (h : ds.length = k) (h2 : g (rho0 n ds) = some (.ex x ρ)) : runL n k g ds = .exc x := by
  unfold runL
  rw [if_pos h, h2]
  rfl
theorem and_no {f g : Rho → R Bool} {ρ : Rho} (h : f ρ = .ok false) : bAnd f g ρ = .ok false := by
  unfold bAnd
  rw [h]
  rfl
theorem and_yes {f g : Rho → R Bool} {ρ : Rho} {b : Bool} (h : f ρ = .ok true) (h2 : g ρ = .ok b) : bAnd f g ρ = .ok b := by
  unfold bAnd
  rw [h]
  exact h2
theorem or_yes {f g : Rho → R Bool} {ρ : Rho} (h : f ρ = .ok true) : bOr f g ρ = .ok true := by
  unfold bOr
  rw [h]
  rfl
theorem a0_ok {ρ : Rho} : aNil ρ = .ok [] := rfl
theorem a3_ok {f g k : Rho → R D} {ρ : Rho} {d e u : D} (h : f ρ = .ok d) (h2 : g ρ = .ok e) (h3 : k ρ = .ok u) : aCons f (aCons g (aCons k aNil)) ρ = .ok [d, e, u] := cons_ok h (a2_ok h2 h3)
theorem callL_exc {m : List D → R (List D)} {fs : Rho → R (List D)} {ρ : Rho} {ds : List D} {x : Xc} (h : fs ρ = .ok ds) (h2 : m ds = .exc x) : eFz (lCall m fs) ρ = .exc x := by
  unfold eFz lCall
  rw [h]
  show ((m ds).bind _) = _
  rw [h2]
  rfl
theorem if_b {t : Rho → R Bool} {a b : MS} {ρ : Rho} {k : Bool} (h : t ρ = .ok k) : sIf t a b ρ = if k = true then a ρ else b ρ := by
  unfold sIf
  rw [h]
  rfl
/-- a loop over a list of numbers from 0 -/
theorem forR_range {g : MG} {b : MS} {n : Nat} (I : Nat → Rho → Prop) (step : ∀ k ρ, k < n → I k ρ → ∃ ρ1 ρ2, g (.int (k : Nat)) ρ = some ρ1 ∧ b ρ1 = some (.nx ρ2) ∧ I (k + 1) ρ2) {ρ : Rho} (h : I 0 ρ) :
    ∃ ρ', forR g b (rIntD 0 n) ρ = some (.nx ρ') ∧ I n ρ' := by
  have key := forR_ind (g := g) (b := b) (fun ds ρ => ∃ k, k ≤ n ∧ ds = (rIntD 0 n).drop k ∧ I k ρ) ?_ (rIntD 0 n) ρ ⟨0, Nat.zero_le _, by rw [List.drop_zero], h⟩
  · obtain ⟨ρ', e, k, hk, e2, i⟩ := key
    refine ⟨ρ', e, ?_⟩
    have : (rIntD 0 n).length ≤ k := List.drop_eq_nil_iff.mp e2.symm
    rw [rint_len] at this
    have q : k = n := by omega
    rw [← q]
    exact i
  · rintro d ds ρ ⟨k, hk, e, i⟩
    have hlt : k < n := by
      rcases Nat.lt_or_ge k n with h | h
      · exact h
      · rw [List.drop_eq_nil_of_le (by rw [rint_len]; exact h)] at e
        cases e
    have hl : k < (rIntD 0 n).length := by rw [rint_len]; exact hlt
    rw [List.drop_eq_getElem_cons hl] at e
    injection e with e1 e2
    have e3 : (rIntD 0 n)[k]? = some (.int (k : Nat)) := by
      unfold rIntD
      rw [List.getElem?_map, List.getElem?_range hlt]
      show some (D.int (0 + (k : Int))) = _
      rw [Int.zero_add]
    have e4 : (rIntD 0 n)[k] = .int (k : Nat) := by
      rw [List.getElem?_eq_getElem hl] at e3
      exact Option.some.inj e3
    rw [e1, e4]
    obtain ⟨ρ1, ρ2, h1, h2, h3⟩ := step k ρ hlt i
    exact ⟨ρ1, ρ2, h1, h2, k + 1, hlt, e2, h3⟩
/-- a loop whose environment is a fold -/
theorem forR_fold {α β : Type} {f : α → D} {j : Nat} {b : MS} (E : β → Sl → Rho) (st : β → α → β) (J : β → List α → Prop) (hg : ∀ s y a, (E s y).set j (.val (f a)) = E s (.val (f a)))
    (h : ∀ s a r, J s (a :: r) → b (E s (.val (f a))) = some (.nx (E (st s a) (.val (f a)))) ∧ J (st s a) r) :
    ∀ (xs : List α) (s : β) (y : Sl), J s xs → ∃ y', forR (gN j) b (xs.map f) (E s y) = some (.nx (E (xs.foldl st s) y'))
  | [], s, y, _ => ⟨y, rfl⟩
  | a :: r, s, y, i => by
    obtain ⟨h1, h2⟩ := h s a r i
    obtain ⟨y', e⟩ := forR_fold E st J hg h r (st s a) (.val (f a)) h2
    refine ⟨y', ?_⟩
    show (match b ((E s y).set j (.val (f a))) with
      | some (.nx ρ') => forR (gN j) b (r.map f) ρ'
      | some (.ct ρ') => forR (gN j) b (r.map f) ρ'
      | some (.bk ρ') => some (.nx ρ')
      | o => o) = _
    rw [hg, h1]
    exact e
theorem cut_ok {xs : List D} {i j : Nat} (hi : i ≤ xs.length) (hj : j ≤ xs.length) : cutD xs (some (i : Nat)) (some (j : Nat)) = (xs.drop i).take (j - i) := by
  have e : ∀ (d k : Nat), k ≤ xs.length → HT.sIx xs.length d (some (k : Nat)) = k := fun d k h => by
    rw [HT.sIx_nat, Nat.min_eq_left h]
  unfold cutD
  rw [e _ _ hi, e _ _ hj]
theorem oNotIn_tup (z : Str) (zs : List Str) : oNotIn (.str z) (.tup (zs.map D.str)) = some (.bl (!decide (z ∈ zs))) := by
  show ((svs (zs.map D.str)).map fun vs => inV (.str z) vs).map _ = _
  rw [svs_strs]
  show some (D.bl (!inV _ _)) = _
  rw [inV_strs]
theorem oIn_tup (z : Str) (zs : List Str) : oIn (.str z) (.tup (zs.map D.str)) = some (.bl (decide (z ∈ zs))) := by
  show ((svs (zs.map D.str)).map fun vs => inV (.str z) vs).map _ = _
  rw [svs_strs]
  show some (D.bl (inV _ _)) = _
  rw [inV_strs]
theorem toPys_strs : ∀ zs : List Str, toPys (zs.map D.str) = some (zs.map PyData.str)
  | [] => rfl
  | z :: zs => by
    show (match toPy (.str z), toPys (zs.map D.str) with | some p, some ps => some (p :: ps) | _, _ => none) = _
    rw [toPys_strs zs]
    rfl
theorem eqB_same {d : D} {p : PyData} (h0 : sv d = none) (h1 : toPy d = some p) (h2 : PySem.SeqAt.shaped p = true) : eqB d d = some true := by
  unfold eqB
  rw [h0, h1]
  show (if (PySem.SeqAt.shaped p && PySem.SeqAt.shaped p) = true then some (PyData.eqv p p) else none) = _
  rw [h2, if_pos (show (true && true) = true from rfl), PySem.SeqAt.eqv_refl _ (PySem.SeqAt.canLay_of_shaped h2)]
theorem lay_strs : ∀ {zs : List Str}, (∀ z ∈ zs, PyData.strOk z = true) → PyData.canLayAll0 (zs.map PyData.str) = true ∧ PyData.depthAll (zs.map PyData.str) = 0
  | [], _ => ⟨by simp [PyData.canLayAll0], by simp [PyData.depthAll]⟩
  | z :: zs, h => by
    obtain ⟨a, b⟩ := lay_strs fun y hy => h y (List.mem_cons_of_mem _ hy)
    exact ⟨by rw [List.map_cons, PyData.canLayAll0, PyData.canLay0, h z List.mem_cons_self, a]; rfl, by rw [List.map_cons, PyData.depthAll, b]; simp [PyData.depth]⟩
theorem eqB_strs {zs : List Str} (h : ∀ z ∈ zs, PyData.strOk z = true) : eqB (.lst (zs.map D.str)) (.lst (zs.map D.str)) = some true := by
  obtain ⟨a, b⟩ := lay_strs h
  refine eqB_same (p := .list (zs.map PyData.str)) rfl ?_ ?_
  · show (toPys (zs.map D.str)).map PyData.list = _
    rw [toPys_strs]
    rfl
  · unfold PySem.SeqAt.shaped
    rw [PyData.canLay0, a, PyData.depth, b]
    rfl
end Xd
namespace P70
open PySem L2 Xg Xd
def top (i : Nat) : Stmt := PySem.Challenge.pw_guestlives_k70_delays_in_schedules.main.body.getD i (.Pass ⟨0, 0, 0, 0⟩)
abbrev S_check_action : Stmt := top 7
theorem sc_check_action : FnScope ["action"] ["action"] (defScope S_check_action) := ⟨rfl, rfl, rfl, by decide +kernel, rfl, by decide +kernel, by decide +kernel⟩
abbrev S_check_range : Stmt := top 8
theorem sc_check_range : FnScope ["name", "number", "least", "most"] ["name", "number", "least", "most"] (defScope S_check_range) := ⟨rfl, rfl, rfl, by decide +kernel, rfl, by decide +kernel, by decide +kernel⟩
abbrev S_check_processor : Stmt := top 9
theorem sc_check_processor : FnScope ["p"] ["p"] (defScope S_check_processor) := ⟨rfl, rfl, rfl, by decide +kernel, rfl, by decide +kernel, by decide +kernel⟩
abbrev S_delays : Stmt := top 11
theorem sc_delays : FnScope ["schedule", "p", "action", "found", "waited"] ["schedule", "p"] (defScope S_delays) := ⟨rfl, rfl, rfl, by decide +kernel, rfl, by decide +kernel, by decide +kernel⟩
abbrev S__law_row : Stmt := top 13
theorem sc__law_row : FnScope ["_law_script", "_law_most", "_law_row_here", "_law_cell", "_law_rest", "_law_k"] ["_law_script", "_law_most"] (defScope S__law_row) := ⟨rfl, rfl, rfl, by decide +kernel, rfl, by decide +kernel, by decide +kernel⟩
abbrev S__law_digit : Stmt := top 14
theorem sc__law_digit : FnScope ["_law_row_here", "_law_at"] ["_law_row_here", "_law_at"] (defScope S__law_digit) := ⟨rfl, rfl, rfl, by decide +kernel, rfl, by decide +kernel, by decide +kernel⟩
abbrev S__law_pick : Stmt := top 15
theorem sc__law_pick : FnScope ["_law_row_here", "_law_at", "_law_limit", "_law_value"] ["_law_row_here", "_law_at", "_law_limit"] (defScope S__law_pick) := ⟨rfl, rfl, rfl, by decide +kernel, rfl, by decide +kernel, by decide +kernel⟩
abbrev S__law_whole : Stmt := top 16
theorem sc__law_whole : FnScope ["_law_value"] ["_law_value"] (defScope S__law_whole) := ⟨rfl, rfl, rfl, by decide +kernel, rfl, by decide +kernel, by decide +kernel⟩
abbrev S__law_numbers : Stmt := top 17
theorem sc__law_numbers : FnScope ["_law_actual", "_law_expected", "_law_k"] ["_law_actual", "_law_expected"] (defScope S__law_numbers) := ⟨rfl, rfl, rfl, by decide +kernel, rfl, by decide +kernel, by decide +kernel⟩
abbrev S__law_schedule : Stmt := top 18
theorem sc__law_schedule : FnScope ["_law_row_here", "_law_at", "_law_names", "_law_k"] ["_law_row_here", "_law_at"] (defScope S__law_schedule) := ⟨rfl, rfl, rfl, by decide +kernel, rfl, by decide +kernel, by decide +kernel⟩
abbrev S__law_behind : Stmt := top 19
theorem sc__law_behind : FnScope ["_law_schedule_here", "_law_place", "_law_p", "_law_behind_here", "_law_k"] ["_law_schedule_here", "_law_place", "_law_p"] (defScope S__law_behind) := ⟨rfl, rfl, rfl, by decide +kernel, rfl, by decide +kernel, by decide +kernel⟩
abbrev S__law_due : Stmt := top 20
theorem sc__law_due : FnScope ["_law_schedule_here", "_law_p", "_law_waits", "_law_place", "_law_raised", "_law_count", "_law_action"] ["_law_schedule_here", "_law_p"] (defScope S__law_due) := ⟨rfl, rfl, rfl, by decide +kernel, rfl, by decide +kernel, by decide +kernel⟩
abbrev S__law_refusal : Stmt := top 21
theorem sc__law_refusal : FnScope ["_law_schedule_here", "_law_p", "e"] ["_law_schedule_here", "_law_p"] (defScope S__law_refusal) := ⟨rfl, rfl, rfl, by decide +kernel, rfl, by decide +kernel, by decide +kernel⟩
abbrev S_law : Stmt := top 22
theorem sc_law : FnScope ["_law_script", "_law_row_here", "_law_schedule_here", "_law_kept", "_law_p", "_law_told", "_law_place", "_law_wrong", "_law_bad"] ["_law_script"] (defScope S_law) := ⟨rfl, rfl, rfl, by decide +kernel, rfl, by decide +kernel, by decide +kernel⟩
abbrev L_ACTIONS : List Str := ["g0", "g1", "t0", "t1", "r0", "r1", "i0", "i1", "p0", "p1", "d"]
def d_ACTIONS : D := .tup (L_ACTIONS.map D.str)
structure Ad where
  tM_PROCESSORS : Tok
  i_ActionError : Addr
  i_SettingError : Addr
  ActionError : Addr
  SettingError : Addr
  GuestlivesError : Addr
  ACTIONS : Addr
  check_action : Addr
  check_range : Addr
  check_processor : Addr
  delays : Addr
  _law_row : Addr
  _law_digit : Addr
  _law_pick : Addr
  _law_whole : Addr
  _law_numbers : Addr
  _law_schedule : Addr
  _law_behind : Addr
  _law_due : Addr
  _law_refusal : Addr
def clA (A : Ad) : Nat → Addr
  | 5 => A.ActionError
  | 6 => A.SettingError
  | 8 => A.GuestlivesError
  | _ => 0
def tbA (_ : Ad) : List Addr := []
def e_ActionError (n : Nat) : Option Bool := if n = 5 then some true else if n = 6 then some false else none
def e_SettingError (n : Nat) : Option Bool := if n = 5 then some false else if n = 6 then some true else none
def t_GuestlivesError (n : Nat) : Option Bool := if n = 5 then some true else if n = 6 then some true else none
def t_ValueError (n : Nat) : Option Bool := if n = 5 then some true else if n = 6 then some true else none
structure Tp (P : Program) (w : World) (K : PySem.W.Frag) (mg : Str → Option Value) (A : Ad) : Prop where
  n_ValueError : mg "ValueError" = none
  n_abs : mg "abs" = none
  n_bool : mg "bool" = none
  n_int : mg "int" = none
  n_isinstance : mg "isinstance" = none
  n_len : mg "len" = none
  n_list : mg "list" = none
  n_range : mg "range" = none
  n_str : mg "str" = none
  g_ActionError : mg "ActionError" = some (.ref A.ActionError)
  g_SettingError : mg "SettingError" = some (.ref A.SettingError)
  g_GuestlivesError : mg "GuestlivesError" = some (.ref A.GuestlivesError)
  g_ACTIONS : mg "ACTIONS" = some (.ref A.ACTIONS)
  g_PROCESSORS : mg "PROCESSORS" = some (.int 2 A.tM_PROCESSORS)
  x_ActionError : XgSup.STxt P K mg "ActionError" "action" "this is no action: " A.ActionError A.i_ActionError
  xf_ActionError : XfC K A.ActionError
  no_ActionError_action : PySem.W.findIn K (.ref A.ActionError) "action" = some none
  x_SettingError : XgSup.STxt P K mg "SettingError" "name" "the setting is out of range: " A.SettingError A.i_SettingError
  xf_SettingError : XfC K A.SettingError
  no_SettingError_name : PySem.W.findIn K (.ref A.SettingError) "name" = some none
  e_ActionError : ∀ n b, e_ActionError n = some b → PySem.W.exmOne K (.ref (clA A n)) (.ref A.ActionError) = some b
  e_SettingError : ∀ n b, e_SettingError n = some b → PySem.W.exmOne K (.ref (clA A n)) (.ref A.SettingError) = some b
  k_GuestlivesError : ∀ n b, t_GuestlivesError n = some b → PySem.W.kitOne K (.ref (clA A n)) (.ref A.GuestlivesError) = some b ∧ ExcC K (clA A n)
  k_ValueError : ∀ n b, t_ValueError n = some b → PySem.W.kitOne K (.ref (clA A n)) (.type "ValueError") = some b ∧ ExcC K (clA A n)
  kit : KitOk K
  s_ACTIONS : strsB K A.ACTIONS L_ACTIONS = true
  k_ACTIONS : ∃ o, K.lookup A.ACTIONS = some o ∧ o.cls = .type "tuple" ∧ o.dict = none
  d_check_action : Df K mg "check_action" "check_action" S_check_action A.check_action ["action"]
  d_check_range : Df K mg "check_range" "check_range" S_check_range A.check_range ["name", "number", "least", "most"]
  d_check_processor : Df K mg "check_processor" "check_processor" S_check_processor A.check_processor ["p"]
  d_delays : Df K mg "delays" "delays" S_delays A.delays ["schedule", "p"]
  d__law_row : Df K mg "_law_row" "_law_row" S__law_row A._law_row ["_law_script", "_law_most"]
  d__law_digit : Df K mg "_law_digit" "_law_digit" S__law_digit A._law_digit ["_law_row_here", "_law_at"]
  d__law_pick : Df K mg "_law_pick" "_law_pick" S__law_pick A._law_pick ["_law_row_here", "_law_at", "_law_limit"]
  d__law_whole : Df K mg "_law_whole" "_law_whole" S__law_whole A._law_whole ["_law_value"]
  d__law_numbers : Df K mg "_law_numbers" "_law_numbers" S__law_numbers A._law_numbers ["_law_actual", "_law_expected"]
  d__law_schedule : Df K mg "_law_schedule" "_law_schedule" S__law_schedule A._law_schedule ["_law_row_here", "_law_at"]
  d__law_behind : Df K mg "_law_behind" "_law_behind" S__law_behind A._law_behind ["_law_schedule_here", "_law_place", "_law_p"]
  d__law_due : Df K mg "_law_due" "_law_due" S__law_due A._law_due ["_law_schedule_here", "_law_p"]
  d__law_refusal : Df K mg "_law_refusal" "_law_refusal" S__law_refusal A._law_refusal ["_law_schedule_here", "_law_p"]
section
variable {P : Program} {w : World} {K : PySem.W.Frag} {mg : Str → Option Value} {A : Ad}
theorem Tp.v_ACTIONS (T : Tp P w K mg A) {cl : Nat → Addr} (Hi : Hp) : Dv K cl Hi (.ref A.ACTIONS) d_ACTIONS := .tup (strsB_sq T.s_ACTIONS Hi) dva_of_strs
end
end P70
namespace P70
open PySem L2 Xg Xd
def g_check_action : MS :=
  (sIf (bTest (e2 oNotIn (eVar 0) (eC d_ACTIONS)))
    (sRaise1 5 "action" (aCons (eVar 0) aNil))
    sNext)
def m_check_action : List D → R D := fun ds => runD 1 1 g_check_action ds
def g_check_range : MS :=
  (sIf (bOr (bTest (e2 oLt (eVar 1) (eVar 2))) (bTest (e2 oGt (eVar 1) (eVar 3))))
    (sRaise1 6 "name" (aCons (eVar 0) aNil))
    sNext)
def m_check_range : List D → R D := fun ds => runD 4 4 g_check_range ds
def g_check_processor : MS :=
  (sExpr (eCall m_check_range (aCons (eC (.str "processor")) (aCons (eVar 0) (aCons (eC (.int 0)) (aCons (e2 oSub (eC (.int 2)) (eC (.int 1))) aNil))))))
def m_check_processor : List D → R D := fun ds => runD 1 1 g_check_processor ds
def g_delays : MS :=
  (sSeq (sFor (iSeq (eVar 0)) (gN 2)
    (sExpr (eCall m_check_action (aCons (eVar 2) aNil))))
  (sSeq (sExpr (eCall m_check_processor (aCons (eVar 1) aNil)))
  (sSeq (sSetL 3 (lLst aNil))
  (sSeq (sSet 4 (eC .non))
  (sSeq (sFor (iSeq (eVar 0)) (gN 2)
    (sIf (bTest (e2 oEq (eVar 2) (eJoin [(eC (.str "t")), (eFmt (eVar 1))] Str.empty)))
    (sSeq (sApp 3 (eIf (bTest (e2 oIs (eVar 4) (eC .non))) (eC (.int 0)) (eVar 4)))
  (sSet 4 (eC .non)))
    (sIf (bAnd (bTest (e2 oEq (eVar 2) (eJoin [(eC (.str "r")), (eFmt (eVar 1))] Str.empty))) (bTest (e2 oIs (eVar 4) (eC .non))))
    (sSet 4 (eC (.int 0)))
    (sIf (bAnd (bTest (e2 oEq (eVar 2) (eJoin [(eC (.str "g")), (eFmt (eVar 1))] Str.empty))) (bTest (e2 oIsNot (eVar 4) (eC .non))))
    (sSet 4 (e2 oAdd (eVar 4) (eC (.int 1))))
    sNext))))
  (sRetO 3))))))
def m_delays : List D → R (List D) := fun ds => runL 5 2 g_delays ds
def g__law_digit : MS :=
  (sSeq (sIf (bTest (e2 oLt (eVar 1) (eCB cLen (aCons (eVar 0) aNil))))
    (sRet (e2 oIx (eVar 0) (eVar 1)))
    sNext)
  (sRet (eC (.int 0))))
def m__law_digit : List D → R D := fun ds => noX (runD 2 2 g__law_digit ds)
def g__law_pick : MS :=
  (sSeq (sSet 3 (eC (.int 0)))
  (sSeq (sIf (bTest (e2 oLt (eVar 1) (eCB cLen (aCons (eVar 0) aNil))))
    (sSet 3 (e2 oIx (eVar 0) (eVar 1)))
    sNext)
  (sSeq (sIf (bTest (e2 oLt (e2 oAdd (eVar 1) (eC (.int 1))) (eCB cLen (aCons (eVar 0) aNil))))
    (sSet 3 (e2 oAdd (eVar 3) (e2 oMul (eC (.int 16)) (e2 oIx (eVar 0) (e2 oAdd (eVar 1) (eC (.int 1)))))))
    sNext)
  (sRet (e2 oMod (eCB cInt (aCons (eVar 3) aNil)) (eVar 2))))))
def m__law_pick : List D → R D := fun ds => noX (runD 4 3 g__law_pick ds)
def g__law_whole : MS :=
  (sRet (eAnd (eCB cIsi (aCons (eVar 0) (aCons (eC (.opq (.ty "int"))) aNil))) (eNot (eCB cIsi (aCons (eVar 0) (aCons (eC (.opq (.ty "bool"))) aNil))))))
def m__law_whole : List D → R D := fun ds => noX (runD 1 1 g__law_whole ds)
def g__law_numbers : MS :=
  (sSeq (sIf (bOr (bNot (bTest (eCB cIsi (aCons (eVar 0) (aCons (eC (.opq (.ty "list"))) aNil))))) (bTest (e2 oNe (eCB cLen (aCons (eVar 0) aNil)) (eCB cLen (aCons (eVar 1) aNil)))))
    (sRet (eC (.bl false)))
    sNext)
  (sSeq (sFor (iR1 (aCons (eCB cLen (aCons (eVar 1) aNil)) aNil)) (gN 2)
    (sIf (bOr (bNot (bTest (eCall (fun ds => noX (m__law_whole ds)) (aCons (e2 oIx (eVar 0) (eVar 2)) aNil)))) (bTest (e2 oNe (e2 oIx (eVar 0) (eVar 2)) (e2 oIx (eVar 1) (eVar 2)))))
    (sRet (eC (.bl false)))
    sNext))
  (sRet (eC (.bl true)))))
def m__law_numbers : List D → R D := fun ds => noX (runD 3 2 g__law_numbers ds)
def g__law_schedule : MS :=
  (sSeq (sSet 2 (eFz (lLst (aCons (eC (.str "g0")) (aCons (eC (.str "r0")) (aCons (eC (.str "t0")) (aCons (eC (.str "g1")) (aCons (eC (.str "r1")) (aCons (eC (.str "t1")) (aCons (eC (.str "g0")) (aCons (eC (.str "g0")) (aCons (eC (.str "g1")) (aCons (eC (.str "r0")) (aCons (eC (.str "t0")) (aCons (eC (.str "i0")) (aCons (eC (.str "i1")) (aCons (eC (.str "p0")) (aCons (eC (.str "p1")) (aCons (eC (.str "d")) aNil)))))))))))))))))))
  (sRetL (lLc (iR1 (aCons (eCall (fun ds => noX (m__law_pick ds)) (aCons (eVar 0) (aCons (eVar 1) (aCons (eC (.int 61)) aNil)))) aNil)) (gN 3) bYes (e2 oIx (eVar 2) (eCall (fun ds => noX (m__law_digit ds)) (aCons (eVar 0) (aCons (e2 oAdd (e2 oAdd (eVar 1) (eC (.int 2))) (eVar 3)) aNil)))) [3])))
def m__law_schedule : List D → R (List D) := fun ds => noX (runL 4 2 g__law_schedule ds)
def g__law_behind : MS :=
  (sSeq (sSet 3 (eC (.int 0)))
  (sSeq (sFor (iR1 (aCons (eVar 1) aNil)) (gN 4)
    (sIf (bTest (e2 oEq (e2 oIx (eVar 0) (eVar 4)) (e2 oAdd (eC (.str "t")) (eCB cStr (aCons (eVar 2) aNil)))))
    (sSet 3 (e2 oAdd (eVar 4) (eC (.int 1))))
    sNext))
  (sRet (eVar 3))))
def m__law_behind : List D → R D := fun ds => noX (runD 5 3 g__law_behind ds)
def g__law_due : MS :=
  (sSeq (sSetL 2 (lLst aNil))
  (sSeq (sFor (iR1 (aCons (eCB cLen (aCons (eVar 0) aNil)) aNil)) (gN 3)
    (sIf (bTest (e2 oEq (e2 oIx (eVar 0) (eVar 3)) (e2 oAdd (eC (.str "t")) (eCB cStr (aCons (eVar 1) aNil)))))
    (sSeq (sSet 4 (eC (.bl false)))
  (sSeq (sSet 5 (eC (.int 0)))
  (sSeq (sFor (iSeq (eSl oSl (eVar 0) (pSome (eCall (fun ds => noX (m__law_behind ds)) (aCons (eVar 0) (aCons (eVar 3) (aCons (eVar 1) aNil))))) (pSome (eVar 3)))) (gN 6)
    (sSeq (sIf (bAnd (bTest (e2 oEq (eVar 6) (e2 oAdd (eC (.str "g")) (eCB cStr (aCons (eVar 1) aNil))))) (bTest (eVar 4)))
    (sSet 5 (e2 oAdd (eVar 5) (eC (.int 1))))
    sNext)
  (sIf (bTest (e2 oEq (eVar 6) (e2 oAdd (eC (.str "r")) (eCB cStr (aCons (eVar 1) aNil)))))
    (sSet 4 (eC (.bl true)))
    sNext)))
  (sApp 2 (eVar 5)))))
    sNext))
  (sRetO 2)))
def m__law_due : List D → R (List D) := fun ds => noX (runL 7 2 g__law_due ds)
def g__law_refusal : MS :=
  (sSeq (sTries (sExpr (eFz (lCall m_delays (aCons (eVar 0) (aCons (eVar 1) aNil)))))
    [(e_ActionError, 2, fun x => (sRet (eTup (aCons (eC (.str "action")) (aCons (eAnd (eErr 2 (ro ((t_GuestlivesError x.c).map .bl))) (eErr 2 (ro ((t_ValueError x.c).map .bl)))) (aCons (eErr 2 (if x.c = 5 then ro ((x.ns.zip x.xs).lookup ("action" : Str)) else .bad)) aNil)))))), (e_SettingError, 2, fun x => (sRet (eTup (aCons (eC (.str "setting")) (aCons (eAnd (eErr 2 (ro ((t_GuestlivesError x.c).map .bl))) (eErr 2 (ro ((t_ValueError x.c).map .bl)))) (aCons (eErr 2 (if x.c = 6 then ro ((x.ns.zip x.xs).lookup ("name" : Str)) else .bad)) aNil))))))])
  (sRet (eTup (aCons (eC (.str "accepted")) (aCons (eC (.bl true)) (aCons (eC (.str "")) aNil))))))
def m__law_refusal : List D → R D := fun ds => noX (runD 3 2 g__law_refusal ds)
section
variable {P : Program} {w : World} {K : PySem.W.Frag} {mg : Str → Option Value} {base : Heap} {A : Ad}
theorem ok_check_action {fd : FuncData} (F : Fun K "check_action" "check_action" S_check_action A.check_action fd) (T : Tp P w K mg A) : FnOk P w K mg base (L2.CX P w) 1 A.check_action fd ["action"] (spD K (clA A) (tbA A) m_check_action) := by
  refine okDX (k := 0) F sc_check_action fun cdv A' outer s H Hq E hr => ?_
  refine ⟨_, (pss_one (ps_if (pt_cmpR (show OpR _ (compareOp .NotIn) (rNotInX K) from op_notInX) (pv 0) (pe_glob (v := .ref _) (by rfl) T.g_ACTIONS rfl) (by rfl))
    (pss_one (ps_raise rfl (takes_of rfl rfl rfl rfl) (XgSup.pmk_sup T.x_ActionError (by decide +kernel) hr (pa_cons (pv 0) pa_nil) (by rfl))))
    pss_nil)), ?_⟩
  exact (js_if (jt_test (je_op jo_notIn (je_var 0) (je_c T.v_ACTIONS)))
    (js_raise1 (n := 5) (ja_cons (je_var 0) ja_nil))
    js_next)
theorem ok_check_range {fd : FuncData} (F : Fun K "check_range" "check_range" S_check_range A.check_range fd) (T : Tp P w K mg A) : FnOk P w K mg base (L2.CX P w) 1 A.check_range fd ["name", "number", "least", "most"] (spD K (clA A) (tbA A) m_check_range) := by
  refine okDX (k := 0) F sc_check_range fun cdv A' outer s H Hq E hr => ?_
  refine ⟨_, (pss_one (ps_if (PW.pt (pw_or (pt_cmpR op_lt (pv 1) (pv 2) (nomark _)) (pw_or1 (pt_cmpR op_gt (pv 1) (pv 3) (nomark _)))))
    (pss_one (ps_raise rfl (takes_of rfl rfl rfl rfl) (XgSup.pmk_sup T.x_SettingError (by decide +kernel) hr (pa_cons (pv 0) pa_nil) (by rfl))))
    pss_nil)), ?_⟩
  exact (js_if (jt_or (jt_test (je_op jo_lt (je_var 1) (je_var 2))) (jt_test (je_op jo_gt (je_var 1) (je_var 3))))
    (js_raise1 (n := 6) (ja_cons (je_var 0) ja_nil))
    js_next)
theorem ok_check_processor {fd : FuncData} (F : Fun K "check_processor" "check_processor" S_check_processor A.check_processor fd) (T : Tp P w K mg A) : FnOk P w K mg base (L2.CX P w) 2 A.check_processor fd ["p"] (spD K (clA A) (tbA A) m_check_processor) := by
  obtain ⟨fd_check_range, F_check_range, b_check_range⟩ := T.d_check_range.ex
  have G_check_range : FnOk P w K mg base (L2.CX P w) 1 A.check_range fd_check_range ["name", "number", "least", "most"] (spD K (clA A) (tbA A) m_check_range) := ok_check_range F_check_range T
  refine okDX (k := 1) F sc_check_processor fun cdv A' outer s H Hq E hr => ?_
  refine ⟨_, (pss_one (ps_expr (pe_call G_check_range (hr.mono (by decide)) (by rfl) T.d_check_range.g T.d_check_range.k b_check_range .nil (passes_call (W := wE E) (takes_of rfl rfl rfl rfl) (fun _ _ _ _ h => h)) (pa_cons pe_str (pa_cons (pv 0) (pa_cons pe_int (pa_cons (pe_op op_sub (pe_glob (v := .int 2) (by rfl) T.g_PROCESSORS ⟨_, rfl⟩) pe_int) pa_nil))))))), ?_⟩
  exact (js_expr (je_callE (ja_cons je_str (ja_cons (je_var 0) (ja_cons je_int (ja_cons (je_op jo_sub je_int je_int) ja_nil))))))
theorem ok_delays {fd : FuncData} (F : Fun K "delays" "delays" S_delays A.delays fd) (T : Tp P w K mg A) : FnOk P w K mg base (L2.CX P w) 3 A.delays fd ["schedule", "p"] (spL K (clA A) (tbA A) m_delays) := by
  obtain ⟨fd_check_action, F_check_action, b_check_action⟩ := T.d_check_action.ex
  have G_check_action : FnOk P w K mg base (L2.CX P w) 1 A.check_action fd_check_action ["action"] (spD K (clA A) (tbA A) m_check_action) := ok_check_action F_check_action T
  obtain ⟨fd_check_processor, F_check_processor, b_check_processor⟩ := T.d_check_processor.ex
  have G_check_processor : FnOk P w K mg base (L2.CX P w) 2 A.check_processor fd_check_processor ["p"] (spD K (clA A) (tbA A) m_check_processor) := ok_check_processor F_check_processor T
  refine okLX (k := 2) F sc_delays fun cdv A' outer s H Hq E hr => ?_
  refine ⟨_, (pss_cons (ps_for (passes_of rfl) rfl (show PI _ _ _ (tiX K _) from pi_X (pv 0)) (pg_name (i := 2) sc_delays.nd rfl (Or.inl rfl))
    (pss_one (ps_expr (pe_call G_check_action (hr.mono (by decide)) (by rfl) T.d_check_action.g T.d_check_action.k b_check_action .nil (passes_call (W := wE E) (takes_of rfl rfl rfl rfl) (fun _ _ _ _ h => h)) (pa_cons (pv 2) pa_nil)))))
  (pss_cons (ps_expr (pe_call G_check_processor (hr.mono (by decide)) (by rfl) T.d_check_processor.g T.d_check_processor.k b_check_processor .nil (passes_call (W := wE E) (takes_of rfl rfl rfl rfl) (fun _ _ _ _ h => h)) (pa_cons (pv 1) pa_nil)))
  (pss_cons (ps_set (i := 3) sc_delays.nd rfl (Or.inl rfl) (pe_lst pa_nil))
  (pss_cons (ps_set (i := 4) sc_delays.nd rfl (Or.inl rfl) pe_non)
  (pss_cons (ps_for (passes_of rfl) rfl (show PI _ _ _ (tiX K _) from pi_X (pv 0)) (pg_name (i := 2) sc_delays.nd rfl (Or.inl rfl))
    (pss_one (ps_if (pt_cmpR (show OpR _ (compareOp .Eq) (rEqX K) from op_eqX hr.units) (pv 2) (pe_joined (PJ.cons pe_str (PJ.cons (pe_fmt (pv 1)) PJ.nil))) (nomark _))
    (pss_cons (ps_expr (pe_bm PySem.F.plainAttrs_list PySem.F.slot_list_append PySem.F.type_list_append mt_append (pv 3) (pa_cons (pe_ifExp (pt_cmpR op_isX (pv 4) pe_non (nomark _)) pe_int (pv 4)) pa_nil)))
  (pss_one (ps_set (i := 4) sc_delays.nd rfl (Or.inl rfl) pe_non)))
    (pss_one (ps_if (PW.pt (pw_and (pt_cmpR (show OpR _ (compareOp .Eq) (rEqX K) from op_eqX hr.units) (pv 2) (pe_joined (PJ.cons pe_str (PJ.cons (pe_fmt (pv 1)) PJ.nil))) (nomark _)) (pw_and1 (pt_cmpR op_isX (pv 4) pe_non (nomark _)))))
    (pss_one (ps_set (i := 4) sc_delays.nd rfl (Or.inl rfl) pe_int))
    (pss_one (ps_if (PW.pt (pw_and (pt_cmpR (show OpR _ (compareOp .Eq) (rEqX K) from op_eqX hr.units) (pv 2) (pe_joined (PJ.cons pe_str (PJ.cons (pe_fmt (pv 1)) PJ.nil))) (nomark _)) (pw_and1 (pt_cmpR op_isNotX (pv 4) pe_non (nomark _)))))
    (pss_one (ps_set (i := 4) sc_delays.nd rfl (Or.inl rfl) (pe_op (show OpR _ (binaryOp .Add) (rAddX K) from op_addX) (pv 4) pe_int)))
    pss_nil)))))))
  (pss_one (ps_ret (pv 3)))))))), ?_⟩
  exact (js_seq (js_for (ji_seq (je_var 0)) (jg_name 2)
    (js_expr (je_callE (ja_cons (je_var 2) ja_nil))))
  (js_seq (js_expr (je_callE (ja_cons (je_var 1) ja_nil)))
  (js_seq (js_setL 3 (jl_lst ja_nil))
  (js_seq (js_set 4 je_non)
  (js_seq (js_for (ji_seq (je_var 0)) (jg_name 2)
    (js_if (jt_test (je_op jo_eq (je_var 2) (je_join (JJ.cons je_str (JJ.cons (je_fmt (je_var 1)) JJ.nil)))))
    (js_seq (js_app 3 (je_if (jt_test (je_op jo_is (je_var 4) je_non)) je_int (je_var 4)))
  (js_set 4 je_non))
    (js_if (jt_and (jt_test (je_op jo_eq (je_var 2) (je_join (JJ.cons je_str (JJ.cons (je_fmt (je_var 1)) JJ.nil))))) (jt_test (je_op jo_is (je_var 4) je_non)))
    (js_set 4 je_int)
    (js_if (jt_and (jt_test (je_op jo_eq (je_var 2) (je_join (JJ.cons je_str (JJ.cons (je_fmt (je_var 1)) JJ.nil))))) (jt_test (je_op jo_isNot (je_var 4) je_non)))
    (js_set 4 (je_op jo_add (je_var 4) je_int))
    js_next))))
  (js_retO 3))))))
theorem ok__law_digit {fd : FuncData} (F : Fun K "_law_digit" "_law_digit" S__law_digit A._law_digit fd) (T : Tp P w K mg A) : FnOk P w K mg base CX0 1 A._law_digit fd ["_law_row_here", "_law_at"] (spD K (clA A) (tbA A) m__law_digit) := by
  refine okD (k := 0) F sc__law_digit fun cdv A' outer s H Hq E hr => ?_
  refine ⟨_, (pss_cons (ps_if (pt_cmpR op_lt (pv 1) (pe_callB (show CallR _ (.builtin "len") (rLenX K) from call_lenX) (by rfl) T.n_len PySem.boot_len (pa_cons (pv 0) pa_nil)) (nomark _))
    (pss_one (ps_ret (pe_ix (show IxR _ (rIx K) from ix_X) (pv 0) (pv 1) (fun _ _ => rfl))))
    pss_nil)
  (pss_one (ps_ret pe_int))), ?_⟩
  exact (js_seq (js_if (jt_test (je_op jo_lt (je_var 1) (je_cb jc_len (ja_cons (je_var 0) ja_nil))))
    (js_ret (je_op jo_ix (je_var 0) (je_var 1)))
    js_next)
  (js_ret je_int))
theorem ok__law_pick {fd : FuncData} (F : Fun K "_law_pick" "_law_pick" S__law_pick A._law_pick fd) (T : Tp P w K mg A) : FnOk P w K mg base CX0 1 A._law_pick fd ["_law_row_here", "_law_at", "_law_limit"] (spD K (clA A) (tbA A) m__law_pick) := by
  refine okD (k := 0) F sc__law_pick fun cdv A' outer s H Hq E hr => ?_
  refine ⟨_, (pss_cons (ps_set (i := 3) sc__law_pick.nd rfl (Or.inl rfl) pe_int)
  (pss_cons (ps_if (pt_cmpR op_lt (pv 1) (pe_callB (show CallR _ (.builtin "len") (rLenX K) from call_lenX) (by rfl) T.n_len PySem.boot_len (pa_cons (pv 0) pa_nil)) (nomark _))
    (pss_one (ps_set (i := 3) sc__law_pick.nd rfl (Or.inl rfl) (pe_ix (show IxR _ (rIx K) from ix_X) (pv 0) (pv 1) (fun _ _ => rfl))))
    pss_nil)
  (pss_cons (ps_if (pt_cmpR op_lt (pe_op (show OpR _ (binaryOp .Add) (rAddX K) from op_addX) (pv 1) pe_int) (pe_callB (show CallR _ (.builtin "len") (rLenX K) from call_lenX) (by rfl) T.n_len PySem.boot_len (pa_cons (pv 0) pa_nil)) (nomark _))
    (pss_one (ps_set (i := 3) sc__law_pick.nd rfl (Or.inl rfl) (pe_op (show OpR _ (binaryOp .Add) (rAddX K) from op_addX) (pv 3) (pe_op (show OpR _ (binaryOp .Mult) (rMulX K) from op_mulX) pe_int (pe_ix (show IxR _ (rIx K) from ix_X) (pv 0) (pe_op (show OpR _ (binaryOp .Add) (rAddX K) from op_addX) (pv 1) pe_int) (fun _ _ => rfl))))))
    pss_nil)
  (pss_one (ps_ret (pe_op op_mod (pe_callTy (show CallR _ (.type "int") rIntX from call_intX) (by rfl) T.n_int (by decide +kernel) (pa_cons (pv 3) pa_nil)) (pv 2))))))), ?_⟩
  exact (js_seq (js_set 3 je_int)
  (js_seq (js_if (jt_test (je_op jo_lt (je_var 1) (je_cb jc_len (ja_cons (je_var 0) ja_nil))))
    (js_set 3 (je_op jo_ix (je_var 0) (je_var 1)))
    js_next)
  (js_seq (js_if (jt_test (je_op jo_lt (je_op jo_add (je_var 1) je_int) (je_cb jc_len (ja_cons (je_var 0) ja_nil))))
    (js_set 3 (je_op jo_add (je_var 3) (je_op jo_mul je_int (je_op jo_ix (je_var 0) (je_op jo_add (je_var 1) je_int)))))
    js_next)
  (js_ret (je_op jo_mod (je_cb jc_int (ja_cons (je_var 3) ja_nil)) (je_var 2))))))
theorem ok__law_whole {fd : FuncData} (F : Fun K "_law_whole" "_law_whole" S__law_whole A._law_whole fd) (T : Tp P w K mg A) : FnOk P w K mg base CX0 1 A._law_whole fd ["_law_value"] (spD K (clA A) (tbA A) m__law_whole) := by
  refine okD (k := 0) F sc__law_whole fun cdv A' outer s H Hq E hr => ?_
  refine ⟨_, (pss_one (ps_ret (pe_and (pe_callB (show CallR _ (.builtin "isinstance") (rIsi K) from call_isi) (by rfl) T.n_isinstance (by decide +kernel) (pa_cons (pv 0) (pa_cons (pe_bltn (v := .ty "int") (by rfl) T.n_int (by decide +kernel) rfl) pa_nil))) (pe_one (pe_not (pe_callB (show CallR _ (.builtin "isinstance") (rIsi K) from call_isi) (by rfl) T.n_isinstance (by decide +kernel) (pa_cons (pv 0) (pa_cons (pe_bltn (v := .ty "bool") (by rfl) T.n_bool (by decide +kernel) rfl) pa_nil)))))))), ?_⟩
  exact (js_ret (je_and (je_cb (jc_isi T.kit) (ja_cons (je_var 0) (ja_cons je_opq ja_nil))) (je_not (je_cb (jc_isi T.kit) (ja_cons (je_var 0) (ja_cons je_opq ja_nil))))))
theorem ok__law_numbers {fd : FuncData} (F : Fun K "_law_numbers" "_law_numbers" S__law_numbers A._law_numbers fd) (T : Tp P w K mg A) : FnOk P w K mg base CX0 2 A._law_numbers fd ["_law_actual", "_law_expected"] (spD K (clA A) (tbA A) m__law_numbers) := by
  obtain ⟨fd__law_whole, F__law_whole, b__law_whole⟩ := T.d__law_whole.ex
  have G__law_whole : FnOk P w K mg base CX0 1 A._law_whole fd__law_whole ["_law_value"] (spD K (clA A) (tbA A) m__law_whole) := ok__law_whole F__law_whole T
  refine okD (k := 1) F sc__law_numbers fun cdv A' outer s H Hq E hr => ?_
  refine ⟨_, (pss_cons (ps_if (PW.pt (pw_or (pt_not (pt_val (pe_callB (show CallR _ (.builtin "isinstance") (rIsi K) from call_isi) (by rfl) T.n_isinstance (by decide +kernel) (pa_cons (pv 0) (pa_cons (pe_bltn (v := .ty "list") (by rfl) T.n_list (by decide +kernel) rfl) pa_nil))))) (pw_or1 (pt_cmpR (show OpR _ (compareOp .NotEq) (rNeX K) from op_neX hr.units) (pe_callB (show CallR _ (.builtin "len") (rLenX K) from call_lenX) (by rfl) T.n_len PySem.boot_len (pa_cons (pv 0) pa_nil)) (pe_callB (show CallR _ (.builtin "len") (rLenX K) from call_lenX) (by rfl) T.n_len PySem.boot_len (pa_cons (pv 1) pa_nil)) (nomark _)))))
    (pss_one (ps_ret pe_bl))
    pss_nil)
  (pss_cons (ps_for PassesOwn.never rfl (pi_range1 (by rfl) T.n_range (pa_cons (pe_callB (show CallR _ (.builtin "len") (rLenX K) from call_lenX) (by rfl) T.n_len PySem.boot_len (pa_cons (pv 1) pa_nil)) pa_nil)) (pg_name (i := 2) sc__law_numbers.nd rfl (Or.inl rfl))
    (pss_one (ps_if (PW.pt (pw_or (pt_not (pt_val (pe_call G__law_whole (hr.mono (by decide)) (by rfl) T.d__law_whole.g T.d__law_whole.k b__law_whole .nil pass0 (pa_cons (pe_ix (show IxR _ (rIx K) from ix_X) (pv 0) (pv 2) (fun _ _ => rfl)) pa_nil)))) (pw_or1 (pt_cmpR (show OpR _ (compareOp .NotEq) (rNeX K) from op_neX hr.units) (pe_ix (show IxR _ (rIx K) from ix_X) (pv 0) (pv 2) (fun _ _ => rfl)) (pe_ix (show IxR _ (rIx K) from ix_X) (pv 1) (pv 2) (fun _ _ => rfl)) (nomark _)))))
    (pss_one (ps_ret pe_bl))
    pss_nil)))
  (pss_one (ps_ret pe_bl)))), ?_⟩
  exact (js_seq (js_if (jt_or (jt_not (jt_B (je_cb (jc_isi T.kit) (ja_cons (je_var 0) (ja_cons je_opq ja_nil))))) (jt_test (je_op jo_ne (je_cb jc_len (ja_cons (je_var 0) ja_nil)) (je_cb jc_len (ja_cons (je_var 1) ja_nil)))))
    (js_ret je_bl)
    js_next)
  (js_seq (js_for (ji_r1 (ja_cons (je_cb jc_len (ja_cons (je_var 1) ja_nil)) ja_nil)) (jg_name 2)
    (js_if (jt_or (jt_not (jt_B (je_call0 (ja_cons (je_op jo_ix (je_var 0) (je_var 2)) ja_nil)))) (jt_test (je_op jo_ne (je_op jo_ix (je_var 0) (je_var 2)) (je_op jo_ix (je_var 1) (je_var 2)))))
    (js_ret je_bl)
    js_next))
  (js_ret je_bl)))
theorem ok__law_schedule {fd : FuncData} (F : Fun K "_law_schedule" "_law_schedule" S__law_schedule A._law_schedule fd) (T : Tp P w K mg A) : FnOk P w K mg base CX0 2 A._law_schedule fd ["_law_row_here", "_law_at"] (spL K (clA A) (tbA A) m__law_schedule) := by
  obtain ⟨fd__law_digit, F__law_digit, b__law_digit⟩ := T.d__law_digit.ex
  have G__law_digit : FnOk P w K mg base CX0 1 A._law_digit fd__law_digit ["_law_row_here", "_law_at"] (spD K (clA A) (tbA A) m__law_digit) := ok__law_digit F__law_digit T
  obtain ⟨fd__law_pick, F__law_pick, b__law_pick⟩ := T.d__law_pick.ex
  have G__law_pick : FnOk P w K mg base CX0 1 A._law_pick fd__law_pick ["_law_row_here", "_law_at", "_law_limit"] (spD K (clA A) (tbA A) m__law_pick) := ok__law_pick F__law_pick T
  refine okL (k := 1) F sc__law_schedule fun cdv A' outer s H Hq E hr => ?_
  refine ⟨_, (pss_cons (ps_set (i := 2) sc__law_schedule.nd rfl (Or.inr rfl) (pe_lst (pa_cons pe_str (pa_cons pe_str (pa_cons pe_str (pa_cons pe_str (pa_cons pe_str (pa_cons pe_str (pa_cons pe_str (pa_cons pe_str (pa_cons pe_str (pa_cons pe_str (pa_cons pe_str (pa_cons pe_str (pa_cons pe_str (pa_cons pe_str (pa_cons pe_str (pa_cons pe_str pa_nil))))))))))))))))))
  (pss_one (ps_ret (by exact (pe_lc (own := [("_law_k", 3)]) (g := gName 3) (tt := tYes) rfl sc__law_schedule.nd (pi_range1 (by rfl) T.n_range (pa_cons (pe_call G__law_pick (hr.mono (by decide)) (by rfl) T.d__law_pick.g T.d__law_pick.k b__law_pick .nil pass0 (pa_cons (pv 0) (pa_cons (pv 1) (pa_cons pe_int pa_nil)))) pa_nil)) (blkOk_by (N := ["_law_row_here", "_law_at", "_law_names", "_law_k"]) (sc := defScope S__law_schedule) (by decide +kernel)) (fun _ _ _ _ _ => (by exact (pg_name (i := 3) sc__law_schedule.nd rfl (Or.inl rfl)))) (fun _ _ _ _ _ => (by exact pts_nil)) (fun _ _ _ _ _ => (by exact (pe_ix (show IxR _ (rIx K) from ix_X) (pv 2) (pe_call G__law_digit (hr.mono (by decide)) (by rfl) T.d__law_digit.g T.d__law_digit.k b__law_digit .nil pass0 (pa_cons (pv 0) (pa_cons (pe_op (show OpR _ (binaryOp .Add) (rAddX K) from op_addX) (pe_op (show OpR _ (binaryOp .Add) (rAddX K) from op_addX) (pv 1) pe_int) (pv 3)) pa_nil))) (fun _ _ => rfl))))))))), ?_⟩
  exact (js_seq (js_set 2 (je_fz (jl_lst (ja_cons je_str (ja_cons je_str (ja_cons je_str (ja_cons je_str (ja_cons je_str (ja_cons je_str (ja_cons je_str (ja_cons je_str (ja_cons je_str (ja_cons je_str (ja_cons je_str (ja_cons je_str (ja_cons je_str (ja_cons je_str (ja_cons je_str (ja_cons je_str ja_nil)))))))))))))))))))
  (js_retL (jl_lc [3] (ji_r1 (ja_cons (je_call0 (ja_cons (je_var 0) (ja_cons (je_var 1) (ja_cons je_int ja_nil)))) ja_nil)) (jg_name 3) jt_yes (je_op jo_ix (je_var 2) (je_call0 (ja_cons (je_var 0) (ja_cons (je_op jo_add (je_op jo_add (je_var 1) je_int) (je_var 3)) ja_nil)))) (by decide))))
theorem ok__law_behind {fd : FuncData} (F : Fun K "_law_behind" "_law_behind" S__law_behind A._law_behind fd) (T : Tp P w K mg A) : FnOk P w K mg base CX0 1 A._law_behind fd ["_law_schedule_here", "_law_place", "_law_p"] (spD K (clA A) (tbA A) m__law_behind) := by
  refine okD (k := 0) F sc__law_behind fun cdv A' outer s H Hq E hr => ?_
  refine ⟨_, (pss_cons (ps_set (i := 3) sc__law_behind.nd rfl (Or.inl rfl) pe_int)
  (pss_cons (ps_for PassesOwn.never rfl (pi_range1 (by rfl) T.n_range (pa_cons (pv 1) pa_nil)) (pg_name (i := 4) sc__law_behind.nd rfl (Or.inl rfl))
    (pss_one (ps_if (pt_cmpR (show OpR _ (compareOp .Eq) (rEqX K) from op_eqX hr.units) (pe_ix (show IxR _ (rIx K) from ix_X) (pv 0) (pv 4) (fun _ _ => rfl)) (pe_op (show OpR _ (binaryOp .Add) (rAddX K) from op_addX) pe_str (pe_callTy call_str_int (by rfl) T.n_str (by decide +kernel) (pa_cons (pv 2) pa_nil))) (nomark _))
    (pss_one (ps_set (i := 3) sc__law_behind.nd rfl (Or.inl rfl) (pe_op (show OpR _ (binaryOp .Add) (rAddX K) from op_addX) (pv 4) pe_int)))
    pss_nil)))
  (pss_one (ps_ret (pv 3))))), ?_⟩
  exact (js_seq (js_set 3 je_int)
  (js_seq (js_for (ji_r1 (ja_cons (je_var 1) ja_nil)) (jg_name 4)
    (js_if (jt_test (je_op jo_eq (je_op jo_ix (je_var 0) (je_var 4)) (je_op jo_add je_str (je_cb jc_str (ja_cons (je_var 2) ja_nil)))))
    (js_set 3 (je_op jo_add (je_var 4) je_int))
    js_next))
  (js_ret (je_var 3))))
theorem ok__law_due {fd : FuncData} (F : Fun K "_law_due" "_law_due" S__law_due A._law_due fd) (T : Tp P w K mg A) : FnOk P w K mg base CX0 2 A._law_due fd ["_law_schedule_here", "_law_p"] (spL K (clA A) (tbA A) m__law_due) := by
  obtain ⟨fd__law_behind, F__law_behind, b__law_behind⟩ := T.d__law_behind.ex
  have G__law_behind : FnOk P w K mg base CX0 1 A._law_behind fd__law_behind ["_law_schedule_here", "_law_place", "_law_p"] (spD K (clA A) (tbA A) m__law_behind) := ok__law_behind F__law_behind T
  refine okL (k := 1) F sc__law_due fun cdv A' outer s H Hq E hr => ?_
  refine ⟨_, (pss_cons (ps_set (i := 2) sc__law_due.nd rfl (Or.inl rfl) (pe_lst pa_nil))
  (pss_cons (ps_for PassesOwn.never rfl (pi_range1 (by rfl) T.n_range (pa_cons (pe_callB (show CallR _ (.builtin "len") (rLenX K) from call_lenX) (by rfl) T.n_len PySem.boot_len (pa_cons (pv 0) pa_nil)) pa_nil)) (pg_name (i := 3) sc__law_due.nd rfl (Or.inl rfl))
    (pss_one (ps_if (pt_cmpR (show OpR _ (compareOp .Eq) (rEqX K) from op_eqX hr.units) (pe_ix (show IxR _ (rIx K) from ix_X) (pv 0) (pv 3) (fun _ _ => rfl)) (pe_op (show OpR _ (binaryOp .Add) (rAddX K) from op_addX) pe_str (pe_callTy call_str_int (by rfl) T.n_str (by decide +kernel) (pa_cons (pv 1) pa_nil))) (nomark _))
    (pss_cons (ps_set (i := 4) sc__law_due.nd rfl (Or.inl rfl) pe_bl)
  (pss_cons (ps_set (i := 5) sc__law_due.nd rfl (Or.inl rfl) pe_int)
  (pss_cons (ps_for PassesOwn.never rfl (show PI _ _ _ (tiX K _) from pi_X (pe_slice (show SlR _ (rSlX K) from sl_X) (pv 0) (po_some (pe_call G__law_behind (hr.mono (by decide)) (by rfl) T.d__law_behind.g T.d__law_behind.k b__law_behind .nil pass0 (pa_cons (pv 0) (pa_cons (pv 3) (pa_cons (pv 1) pa_nil))))) (po_some (pv 3)))) (pg_name (i := 6) sc__law_due.nd rfl (Or.inl rfl))
    (pss_cons (ps_if (PW.pt (pw_and (pt_cmpR (show OpR _ (compareOp .Eq) (rEqX K) from op_eqX hr.units) (pv 6) (pe_op (show OpR _ (binaryOp .Add) (rAddX K) from op_addX) pe_str (pe_callTy call_str_int (by rfl) T.n_str (by decide +kernel) (pa_cons (pv 1) pa_nil))) (nomark _)) (pw_and1 (pt_val (pv 4)))))
    (pss_one (ps_set (i := 5) sc__law_due.nd rfl (Or.inl rfl) (pe_op (show OpR _ (binaryOp .Add) (rAddX K) from op_addX) (pv 5) pe_int)))
    pss_nil)
  (pss_one (ps_if (pt_cmpR (show OpR _ (compareOp .Eq) (rEqX K) from op_eqX hr.units) (pv 6) (pe_op (show OpR _ (binaryOp .Add) (rAddX K) from op_addX) pe_str (pe_callTy call_str_int (by rfl) T.n_str (by decide +kernel) (pa_cons (pv 1) pa_nil))) (nomark _))
    (pss_one (ps_set (i := 4) sc__law_due.nd rfl (Or.inl rfl) pe_bl))
    pss_nil))))
  (pss_one (ps_expr (pe_bm PySem.F.plainAttrs_list PySem.F.slot_list_append PySem.F.type_list_append mt_append (pv 2) (pa_cons (pv 5) pa_nil)))))))
    pss_nil)))
  (pss_one (ps_ret (pv 2))))), ?_⟩
  exact (js_seq (js_setL 2 (jl_lst ja_nil))
  (js_seq (js_for (ji_r1 (ja_cons (je_cb jc_len (ja_cons (je_var 0) ja_nil)) ja_nil)) (jg_name 3)
    (js_if (jt_test (je_op jo_eq (je_op jo_ix (je_var 0) (je_var 3)) (je_op jo_add je_str (je_cb jc_str (ja_cons (je_var 1) ja_nil)))))
    (js_seq (js_set 4 je_bl)
  (js_seq (js_set 5 je_int)
  (js_seq (js_for (ji_seq (je_sl js_sl (je_var 0) (jp_some (je_call0 (ja_cons (je_var 0) (ja_cons (je_var 3) (ja_cons (je_var 1) ja_nil))))) (jp_some (je_var 3)))) (jg_name 6)
    (js_seq (js_if (jt_and (jt_test (je_op jo_eq (je_var 6) (je_op jo_add je_str (je_cb jc_str (ja_cons (je_var 1) ja_nil))))) (jt_B (je_var 4)))
    (js_set 5 (je_op jo_add (je_var 5) je_int))
    js_next)
  (js_if (jt_test (je_op jo_eq (je_var 6) (je_op jo_add je_str (je_cb jc_str (ja_cons (je_var 1) ja_nil)))))
    (js_set 4 je_bl)
    js_next)))
  (js_app 2 (je_var 5)))))
    js_next))
  (js_retO 2)))
theorem ok__law_refusal {fd : FuncData} (F : Fun K "_law_refusal" "_law_refusal" S__law_refusal A._law_refusal fd) (T : Tp P w K mg A) : FnOk P w K mg base CX0 4 A._law_refusal fd ["_law_schedule_here", "_law_p"] (spD K (clA A) (tbA A) m__law_refusal) := by
  obtain ⟨fd_delays, F_delays, b_delays⟩ := T.d_delays.ex
  have G_delays : FnOk P w K mg base (L2.CX P w) 3 A.delays fd_delays ["schedule", "p"] (spL K (clA A) (tbA A) m_delays) := ok_delays F_delays T
  refine okD (k := 3) F sc__law_refusal fun cdv A' outer s H Hq E hr => ?_
  refine ⟨_, (pss_cons (Xg.ps_tries rfl rfl sc__law_refusal.nd takes0
    (fun W pn xe tk _ => (pss_one (ps_expr (pe_callS G_delays (hr.mono (by decide)) (by rfl) T.d_delays.g T.d_delays.k b_delays (fun σ => passAt tk σ) (pa_cons (pv 0) (pa_cons (pv 1) pa_nil))))))
    (.cons (i := 2) rfl rfl ⟨rfl, by decide, Or.inl T.g_ActionError⟩
    (fun a oe cls d pn hz hf => (pss_one (ps_ret (pe_tup (pa_cons pe_str (pa_cons (pe_and (pe_callB (XgIsa.call_isX hz hf) (by rfl) T.n_isinstance (by decide +kernel) (pa_cons (pv 2) (pa_cons (pe_glob (v := .ref _) (by rfl) T.g_GuestlivesError rfl) pa_nil))) (pe_one (pe_callB (XgIsa.call_isX hz hf) (by rfl) T.n_isinstance (by decide +kernel) (pa_cons (pv 2) (pa_cons (pe_bltn (v := .ty "ValueError") (by rfl) T.n_ValueError (by decide +kernel) rfl) pa_nil))))) (pa_cons (pe_xf T.xf_ActionError T.no_ActionError_action hz hf (pv 2)) pa_nil)))))))
    (.cons (i := 2) rfl rfl ⟨rfl, by decide, Or.inl T.g_SettingError⟩
    (fun a oe cls d pn hz hf => (pss_one (ps_ret (pe_tup (pa_cons pe_str (pa_cons (pe_and (pe_callB (XgIsa.call_isX hz hf) (by rfl) T.n_isinstance (by decide +kernel) (pa_cons (pv 2) (pa_cons (pe_glob (v := .ref _) (by rfl) T.g_GuestlivesError rfl) pa_nil))) (pe_one (pe_callB (XgIsa.call_isX hz hf) (by rfl) T.n_isinstance (by decide +kernel) (pa_cons (pv 2) (pa_cons (pe_bltn (v := .ty "ValueError") (by rfl) T.n_ValueError (by decide +kernel) rfl) pa_nil))))) (pa_cons (pe_xf T.xf_SettingError T.no_SettingError_name hz hf (pv 2)) pa_nil)))))))
    .nil)))
  (pss_one (ps_ret (pe_tup (pa_cons pe_str (pa_cons pe_bl (pa_cons pe_str pa_nil))))))), ?_⟩
  exact (js_seq (js_tries0 (fun V => (js_expr (je_fz (jl_callS (ja_cons (je_var 0) (ja_cons (je_var 1) ja_nil))))))
    (.cons (exm := e_ActionError) (fun a x cls d Hi0 hx => (js_ret (je_tup (ja_cons je_str (ja_cons (je_and (je_isX1 (tab := t_GuestlivesError) hx (.own _) T.k_GuestlivesError) (je_isX1 (tab := t_ValueError) hx (.ty _) T.k_ValueError)) (ja_cons (je_xf (n := 5) hx) ja_nil)))))) T.e_ActionError
    (.cons (exm := e_SettingError) (fun a x cls d Hi0 hx => (js_ret (je_tup (ja_cons je_str (ja_cons (je_and (je_isX1 (tab := t_GuestlivesError) hx (.own _) T.k_GuestlivesError) (je_isX1 (tab := t_ValueError) hx (.ty _) T.k_ValueError)) (ja_cons (je_xf (n := 6) hx) ja_nil)))))) T.e_SettingError
    .nil)))
  (js_ret (je_tup (ja_cons je_str (ja_cons je_bl (ja_cons je_str ja_nil))))))
end
end P70
namespace P70
open PySem L2 Xg Xd CwR
def g_rest : MS :=
  (sSeq (sSet 2 (eFz (lCall (fun ds => noX (m__law_schedule ds)) (aCons (eVar 1) (aCons (eC (.int 0)) aNil)))))
  (sSeq (sSet 3 (eFz (lCB cListL (aCons (eVar 2) aNil))))
  (sSeq (sFor (iSeq (eFz (lLst (aCons (eC (.int 0)) (aCons (eC (.int 1)) (aCons (eC (.int 0)) aNil)))))) (gN 4)
    (sSeq (sSetL 5 (lCall (fun ds => noX (m_delays ds)) (aCons (eVar 2) (aCons (eVar 4) aNil))))
  (sSeq (sIf (bView (bOr (bNot (bTest (eCall (fun ds => noX (m__law_numbers ds)) (aCons (eVar 5) (aCons (eFz (lCall (fun ds => noX (m__law_due ds)) (aCons (eVar 3) (aCons (eVar 4) aNil)))) aNil))))) (bTest (e2 oNe (eVar 2) (eVar 3)))))
    (sRet (eC (.bl false)))
    sNext)
  (sApp 5 (eC (.int 9))))))
  (sSeq (sSet 6 (eCall (fun ds => noX (m__law_pick ds)) (aCons (eVar 1) (aCons (eC (.int 63)) (aCons (e2 oAdd (eCB cLen (aCons (eVar 2) aNil)) (eC (.int 1))) aNil)))))
  (sSeq (sSet 7 (e2 oIx (eFz (lLst (aCons (eC (.str "g")) (aCons (eC (.str "")) (aCons (eC (.str "g2")) (aCons (eC (.str "G0")) (aCons (eC (.str "t0 ")) (aCons (eC (.str "go")) (aCons (eC (.str "0")) (aCons (eC (.str "d0")) aNil)))))))))) (e2 oMod (eCB cInt (aCons (eCall (fun ds => noX (m__law_digit ds)) (aCons (eVar 1) (aCons (eC (.int 65)) aNil))) aNil)) (eC (.int 8)))))
  (sSeq (sSet 8 (eFz (e2L oAddL (eFz (e2L oAddL (eSl oSl (eVar 2) pNo (pSome (eVar 6))) (eFz (lLst (aCons (eVar 7) aNil))))) (eSl oSl (eVar 2) (pSome (eVar 6)) pNo))))
  (sSeq (sFor (iSeq (eFz (lLst (aCons (eC (.int 0)) (aCons (eC (.int 1)) (aCons (eC (.int 2)) (aCons (e1 uNeg (eC (.int 1))) aNil))))))) (gN 4)
    (sIf (bOr (bTest (e2 oNe (eCall (fun ds => noX (m__law_refusal ds)) (aCons (eVar 8) (aCons (eVar 4) aNil))) (eTup (aCons (eC (.str "action")) (aCons (eC (.bl true)) (aCons (eVar 7) aNil)))))) (bTest (e2 oNe (eCall (fun ds => noX (m__law_refusal ds)) (aCons (eFz (e2L oAddL (eVar 8) (eFz (lLst (aCons (eC (.str "x")) aNil))))) (aCons (eVar 4) aNil))) (eTup (aCons (eC (.str "action")) (aCons (eC (.bl true)) (aCons (eVar 7) aNil)))))))
    (sRet (eC (.bl false)))
    sNext))
  (sSeq (sFor (iSeq (eFz (lLst (aCons (eC (.int 2)) (aCons (e1 uNeg (eC (.int 1))) (aCons (eC (.int 64)) aNil)))))) (gN 4)
    (sIf (bTest (e2 oNe (eCall (fun ds => noX (m__law_refusal ds)) (aCons (eVar 2) (aCons (eVar 4) aNil))) (eTup (aCons (eC (.str "setting")) (aCons (eC (.bl true)) (aCons (eC (.str "processor")) aNil))))))
    (sRet (eC (.bl false)))
    sNext))
  (sRet (eAnd (eCall (fun ds => noX (m__law_numbers ds)) (aCons (eFz (lCall (fun ds => noX (m_delays ds)) (aCons (eVar 2) (aCons (eC (.int 1)) aNil)))) (aCons (eFz (lCall (fun ds => noX (m__law_due ds)) (aCons (eVar 3) (aCons (eC (.int 1)) aNil)))) aNil))) (e2 oEq (eVar 2) (eVar 3))))))))))))
section
variable {P : Program} {w : World} {K : PySem.W.Frag} {mg : Str → Option Value} {base : Heap} {A : Ad}
theorem ok__law_row {fd : FuncData} (F : Fun K "_law_row" "_law_row" S__law_row A._law_row fd) (T : Tp P w K mg A) : FnOk P w K mg base CX0 1 A._law_row fd ["_law_script", "_law_most"] (spRow K) := by
  refine F.ok sc__law_row (fun vs H Q E h => ?_) (fun cdv A' outer s H vs Q E hr h => ?_)
  · obtain ⟨a, ns, m, rfl, _⟩ := h
    rfl
  · obtain ⟨a, ns, m, rfl, hS, hl, hm0, hm1, hok⟩ := h
    refine ⟨_, (pss_cons (ps_set (i := 2) sc__law_row.nd rfl (Or.inl rfl) (pe_lst pa_nil))
  (pss_cons (ps_for PassesOwn.never rfl (pi_list (pv 0)) (pg_name (i := 3) sc__law_row.nd rfl (Or.inl rfl))
    (pss_cons (ps_set (i := 4) sc__law_row.nd rfl (Or.inl rfl) (pe_callB call_abs (by rfl) T.n_abs (by decide +kernel) (pa_cons (pe_callTy call_int1 (by rfl) T.n_int (by decide +kernel) (pa_cons (pv 3) pa_nil)) pa_nil)))
  (pss_one (ps_for PassesOwn.never rfl (pi_range1 (by rfl) T.n_range (pa_cons pe_int pa_nil)) (pg_name (i := 5) sc__law_row.nd rfl (Or.inl rfl))
    (pss_cons (ps_if (pt_cmpR op_lt (pe_callB call_len_seq (by rfl) T.n_len PySem.boot_len (pa_cons (pv 2) pa_nil)) (pv 1) (nomark _))
    (pss_one (ps_expr (pe_bm PySem.F.plainAttrs_list PySem.F.slot_list_append PySem.F.type_list_append mt_append (pv 2) (pa_cons (pe_op op_mod (pv 4) pe_int) pa_nil))))
    pss_nil)
  (pss_cons (ps_set (i := 4) sc__law_row.nd rfl (Or.inl rfl) (pe_op op_fdiv (pv 4) pe_int))
  (pss_one (ps_if (pt_cmpR op_eq (pv 4) pe_int (nomark _))
    (pss_one ps_break)
    pss_nil))))))))
  (pss_one (ps_ret (pv 2))))), ?_⟩
    refine ⟨(by show 0 ≤ sizeLine; decide), fun p np => ⟨_, rfl, a, rfl, ⟨_, same_sqL (same_new (Same.refl H) np) hS⟩, for_it (walk_list (xs := ns.map V.int)) (fun _ σ H' => Same H H' ∧ (∃ v3 v4 v5, σ = [some (.ref a), some (.int m), some (.ref p), v3, v4, v5]) ∧ ∃ row : List Int, H' p = some (.lst (row.map V.int)) ∧ (row.length : Int) ≤ m ∧ Dig row) ⟨same_new (Same.refl H) np, ⟨_, _, _, rfl⟩, [], upd_same, by simpa using hm0, dig_nil⟩ (fun i σ H' _ h => same_sqL h.1 hS) ?_ ?_⟩⟩
    · rintro i x σ H1 H2 hi ⟨sm, ⟨v3, v4, v5, rfl⟩, row, hp, hlen, hd⟩ ⟨rfl, ex⟩
      rw [List.getElem?_map] at ex
      obtain ⟨n, hn, rfl⟩ := Option.map_eq_some_iff.mp ex
      refine ⟨_, rfl, .inl ⟨n, rfl, n, rfl, 60, rfl, by decide, by decide, ?_⟩⟩
      refine for_it walk_range (fun _ σ H' => Same H H' ∧ (∃ r v5, 0 ≤ r ∧ σ = [some (.ref a), some (.int m), some (.ref p), some (.int n), some (.int r), v5]) ∧ ∃ row : List Int, H' p = some (.lst (row.map V.int)) ∧ (row.length : Int) ≤ m ∧ Dig row) ⟨sm, ⟨_, _, ?_, rfl⟩, row, hp, hlen, hd⟩ (fun _ _ _ _ _ => True.intro) ?_ ?_
      · split <;> omega
      · rintro j x σ H2 H3 hj ⟨sm2, ⟨r, v5, hr0, rfl⟩, row2, hp2, hlen2, hd2⟩ ⟨rfl, rfl⟩
        refine ⟨_, rfl, p, _, rfl, .inl (SqL.of hp2), _, rfl, _, _, rfl, rfl, _, rfl, ?_⟩
        rw [List.length_map]
        refine ite2 (fun c => ?_) (fun c => ?_)
        · have c' : (row2.length : Int) < m := of_decide_eq_true c
          refine ⟨_, rfl, .inl ⟨rfl, _, SqL.of hp2⟩, _, rfl, _, _, rfl, rfl, (by show (0 : Int) < 16; decide), p, _, _, rfl, rfl, hp2, lt1000 (by rw [List.length_map]; omega), ?_⟩
          have s3 := same_mut (o := .lst (row2.map V.int ++ [V.int (r % 16)])) sm2 np
          refine ⟨_, rfl, _, _, rfl, rfl, ⟨by decide, by decide⟩, _, rfl, rfl, _, rfl, ite2 (fun d => ?_) (fun d => ?_)⟩
          · exact ⟨s3, ⟨_, _, _, rfl⟩, row2 ++ [r % 16], (by rw [upd_same, List.map_append]; rfl), (by rw [List.length_append]; show ((row2.length + 1 : Nat) : Int) ≤ m; omega), dig_more hd2 (by omega) (by omega)⟩
          · exact ⟨s3, ⟨_, _, by omega, rfl⟩, row2 ++ [r % 16], (by rw [upd_same, List.map_append]; rfl), (by rw [List.length_append]; show ((row2.length + 1 : Nat) : Int) ≤ m; omega), dig_more hd2 (by omega) (by omega)⟩
        · refine ⟨_, rfl, _, _, rfl, rfl, ⟨by decide, by decide⟩, _, rfl, rfl, _, rfl, ite2 (fun d => ?_) (fun d => ?_)⟩
          · exact ⟨sm2, ⟨_, _, _, rfl⟩, row2, hp2, hlen2, hd2⟩
          · exact ⟨sm2, ⟨_, _, by omega, rfl⟩, row2, hp2, hlen2, hd2⟩
      · rintro σ H2 ⟨sm2, ⟨r, v5, hr0, rfl⟩, h⟩
        exact ⟨sm2, ⟨_, _, _, rfl⟩, h⟩
    · rintro σ H1 ⟨sm, ⟨v3, v4, v5, rfl⟩, row, hp, hlen, hd⟩
      exact ⟨_, rfl, hok H1 p row sm np hp hlen hd⟩

theorem ok_law {fd : FuncData} {f : Addr} (F : Fun K "law" "law" S_law f fd) (T : Tp P w K mg A) (hlaw : ∀ row : List Int, Dig row → row.length ≤ 70 → g_rest (((List.replicate 9 Sl.un : Rho).set 1 (.val (.lst (row.map D.int)))) : Rho) = some (.rt (.bl true))) : FnOk P w K mg base CX0 5 f fd ["_law_script"] (spLaw K) := by
  obtain ⟨fd__law_digit, F__law_digit, b__law_digit⟩ := T.d__law_digit.ex
  have G__law_digit : FnOk P w K mg base CX0 1 A._law_digit fd__law_digit ["_law_row_here", "_law_at"] (spD K (clA A) (tbA A) m__law_digit) := ok__law_digit F__law_digit T
  obtain ⟨fd__law_due, F__law_due, b__law_due⟩ := T.d__law_due.ex
  have G__law_due : FnOk P w K mg base CX0 2 A._law_due fd__law_due ["_law_schedule_here", "_law_p"] (spL K (clA A) (tbA A) m__law_due) := ok__law_due F__law_due T
  obtain ⟨fd__law_numbers, F__law_numbers, b__law_numbers⟩ := T.d__law_numbers.ex
  have G__law_numbers : FnOk P w K mg base CX0 2 A._law_numbers fd__law_numbers ["_law_actual", "_law_expected"] (spD K (clA A) (tbA A) m__law_numbers) := ok__law_numbers F__law_numbers T
  obtain ⟨fd__law_pick, F__law_pick, b__law_pick⟩ := T.d__law_pick.ex
  have G__law_pick : FnOk P w K mg base CX0 1 A._law_pick fd__law_pick ["_law_row_here", "_law_at", "_law_limit"] (spD K (clA A) (tbA A) m__law_pick) := ok__law_pick F__law_pick T
  obtain ⟨fd__law_refusal, F__law_refusal, b__law_refusal⟩ := T.d__law_refusal.ex
  have G__law_refusal : FnOk P w K mg base CX0 4 A._law_refusal fd__law_refusal ["_law_schedule_here", "_law_p"] (spD K (clA A) (tbA A) m__law_refusal) := ok__law_refusal F__law_refusal T
  obtain ⟨fd__law_row, F__law_row, b__law_row⟩ := T.d__law_row.ex
  have G__law_row : FnOk P w K mg base CX0 1 A._law_row fd__law_row ["_law_script", "_law_most"] (spRow K) := ok__law_row F__law_row T
  obtain ⟨fd__law_schedule, F__law_schedule, b__law_schedule⟩ := T.d__law_schedule.ex
  have G__law_schedule : FnOk P w K mg base CX0 2 A._law_schedule fd__law_schedule ["_law_row_here", "_law_at"] (spL K (clA A) (tbA A) m__law_schedule) := ok__law_schedule F__law_schedule T
  obtain ⟨fd_delays, F_delays, b_delays⟩ := T.d_delays.ex
  have G_delays : FnOk P w K mg base (L2.CX P w) 3 A.delays fd_delays ["schedule", "p"] (spL K (clA A) (tbA A) m_delays) := ok_delays F_delays T
  refine F.ok sc_law (fun vs H Q E h => ?_) (fun cdv A' outer s H vs Q E hr h => ?_)
  · obtain ⟨a, ns, rfl, _⟩ := h
    rfl
  · obtain ⟨a, ns, rfl, hS, hl, q⟩ := h
    refine ⟨_, (pss_cons (ps_set (i := 1) sc_law.nd rfl (Or.inl rfl) (pe_call G__law_row (hr.mono (by decide)) (by rfl) T.d__law_row.g T.d__law_row.k b__law_row .nil pass0 (pa_cons (pv 0) (pa_cons pe_int pa_nil))))
  (pss_cons (ps_set (i := 2) sc_law.nd rfl (Or.inl rfl) (pe_call G__law_schedule (hr.mono (by decide)) (by rfl) T.d__law_schedule.g T.d__law_schedule.k b__law_schedule .nil pass0 (pa_cons (pv 1) (pa_cons pe_int pa_nil))))
  (pss_cons (ps_set (i := 3) sc_law.nd rfl (Or.inl rfl) (pe_callTy (show CallR _ (.type "list") _ from call_list_of) (by rfl) T.n_list (by decide +kernel) (pa_cons (pv 2) pa_nil)))
  (pss_cons (ps_for PassesOwn.never rfl (show PI _ _ _ (tiX K _) from pi_X (pe_lst (pa_cons pe_int (pa_cons pe_int (pa_cons pe_int pa_nil))))) (pg_name (i := 4) sc_law.nd rfl (Or.inl rfl))
    (pss_cons (ps_set (i := 5) sc_law.nd rfl (Or.inl rfl) (pe_call G_delays (hr.mono (by decide)) (by rfl) T.d_delays.g T.d_delays.k b_delays .nil passL (pa_cons (pv 2) (pa_cons (pv 4) pa_nil))))
  (pss_cons (ps_if (PW.pt (pw_or (pt_not (pt_val (pe_call G__law_numbers (hr.mono (by decide)) (by rfl) T.d__law_numbers.g T.d__law_numbers.k b__law_numbers .nil pass0 (pa_cons (pv 5) (pa_cons (pe_call G__law_due (hr.mono (by decide)) (by rfl) T.d__law_due.g T.d__law_due.k b__law_due .nil pass0 (pa_cons (pv 3) (pa_cons (pv 4) pa_nil))) pa_nil))))) (pw_or1 (pt_cmpR (show OpR _ (compareOp .NotEq) (rNeX K) from op_neX hr.units) (pv 2) (pv 3) (nomark _)))))
    (pss_one (ps_ret pe_bl))
    pss_nil)
  (pss_one (ps_expr (pe_bm PySem.F.plainAttrs_list PySem.F.slot_list_append PySem.F.type_list_append mt_append (pv 5) (pa_cons pe_int pa_nil)))))))
  (pss_cons (ps_set (i := 6) sc_law.nd rfl (Or.inl rfl) (pe_call G__law_pick (hr.mono (by decide)) (by rfl) T.d__law_pick.g T.d__law_pick.k b__law_pick .nil pass0 (pa_cons (pv 1) (pa_cons pe_int (pa_cons (pe_op (show OpR _ (binaryOp .Add) (rAddX K) from op_addX) (pe_callB (show CallR _ (.builtin "len") (rLenX K) from call_lenX) (by rfl) T.n_len PySem.boot_len (pa_cons (pv 2) pa_nil)) pe_int) pa_nil)))))
  (pss_cons (ps_set (i := 7) sc_law.nd rfl (Or.inl rfl) (pe_ix (show IxR _ (rIx K) from ix_X) (pe_lst (pa_cons pe_str (pa_cons pe_str (pa_cons pe_str (pa_cons pe_str (pa_cons pe_str (pa_cons pe_str (pa_cons pe_str (pa_cons pe_str pa_nil))))))))) (pe_op op_mod (pe_callTy (show CallR _ (.type "int") rIntX from call_intX) (by rfl) T.n_int (by decide +kernel) (pa_cons (pe_call G__law_digit (hr.mono (by decide)) (by rfl) T.d__law_digit.g T.d__law_digit.k b__law_digit .nil pass0 (pa_cons (pv 1) (pa_cons pe_int pa_nil))) pa_nil)) pe_int) (fun _ _ => rfl)))
  (pss_cons (ps_set (i := 8) sc_law.nd rfl (Or.inl rfl) (pe_op (show OpR _ (binaryOp .Add) (rAddX K) from op_addX) (pe_op (show OpR _ (binaryOp .Add) (rAddX K) from op_addX) (pe_slice (show SlR _ (rSlX K) from sl_X) (pv 2) po_none (po_some (pv 6))) (pe_lst (pa_cons (pv 7) pa_nil))) (pe_slice (show SlR _ (rSlX K) from sl_X) (pv 2) (po_some (pv 6)) po_none)))
  (pss_cons (ps_for PassesOwn.never rfl (show PI _ _ _ (tiX K _) from pi_X (pe_lst (pa_cons pe_int (pa_cons pe_int (pa_cons pe_int (pa_cons (pe_un un_neg pe_int) pa_nil)))))) (pg_name (i := 4) sc_law.nd rfl (Or.inl rfl))
    (pss_one (ps_if (PW.pt (pw_or (pt_cmpR (show OpR _ (compareOp .NotEq) (rNeX K) from op_neX hr.units) (pe_call G__law_refusal (hr.mono (by decide)) (by rfl) T.d__law_refusal.g T.d__law_refusal.k b__law_refusal .nil pass0 (pa_cons (pv 8) (pa_cons (pv 4) pa_nil))) (pe_tup (pa_cons pe_str (pa_cons pe_bl (pa_cons (pv 7) pa_nil)))) (nomark _)) (pw_or1 (pt_cmpR (show OpR _ (compareOp .NotEq) (rNeX K) from op_neX hr.units) (pe_call G__law_refusal (hr.mono (by decide)) (by rfl) T.d__law_refusal.g T.d__law_refusal.k b__law_refusal .nil pass0 (pa_cons (pe_op (show OpR _ (binaryOp .Add) (rAddX K) from op_addX) (pv 8) (pe_lst (pa_cons pe_str pa_nil))) (pa_cons (pv 4) pa_nil))) (pe_tup (pa_cons pe_str (pa_cons pe_bl (pa_cons (pv 7) pa_nil)))) (nomark _)))))
    (pss_one (ps_ret pe_bl))
    pss_nil)))
  (pss_cons (ps_for PassesOwn.never rfl (show PI _ _ _ (tiX K _) from pi_X (pe_lst (pa_cons pe_int (pa_cons (pe_un un_neg pe_int) (pa_cons pe_int pa_nil))))) (pg_name (i := 4) sc_law.nd rfl (Or.inl rfl))
    (pss_one (ps_if (pt_cmpR (show OpR _ (compareOp .NotEq) (rNeX K) from op_neX hr.units) (pe_call G__law_refusal (hr.mono (by decide)) (by rfl) T.d__law_refusal.g T.d__law_refusal.k b__law_refusal .nil pass0 (pa_cons (pv 2) (pa_cons (pv 4) pa_nil))) (pe_tup (pa_cons pe_str (pa_cons pe_bl (pa_cons pe_str pa_nil)))) (nomark _))
    (pss_one (ps_ret pe_bl))
    pss_nil)))
  (pss_one (ps_ret (pe_and (pe_call G__law_numbers (hr.mono (by decide)) (by rfl) T.d__law_numbers.g T.d__law_numbers.k b__law_numbers .nil pass0 (pa_cons (pe_call G_delays (hr.mono (by decide)) (by rfl) T.d_delays.g T.d_delays.k b_delays .nil passL (pa_cons (pv 2) (pa_cons pe_int pa_nil))) (pa_cons (pe_call G__law_due (hr.mono (by decide)) (by rfl) T.d__law_due.g T.d__law_due.k b__law_due .nil pass0 (pa_cons (pv 3) (pa_cons pe_int pa_nil))) pa_nil))) (pe_one (pe_cmpR (show OpR _ (compareOp .Eq) (rEqX K) from op_eqX hr.units) (pv 2) (pv 3) (nomark _))))))))))))))), ?_⟩
    refine ⟨_, rfl, a, ns, 70, rfl, hS, hl, by decide, by decide, fun H1 p1 row s1 n1 h1 l1 d1 => ?_⟩
    refine (show JS ⟨K, clA A, fun _ => none, H, 0, tbA A⟩ W0 _ g_rest from (js_seq (js_set 2 (je_fz (jl_call0 (ja_cons (je_var 1) (ja_cons je_int ja_nil)))))
  (js_seq (js_set 3 (je_fz (jl_cb jcl_list (ja_cons (je_var 2) ja_nil))))
  (js_seq (js_for (ji_seq (je_fz (jl_lst (ja_cons je_int (ja_cons je_int (ja_cons je_int ja_nil)))))) (jg_name 4)
    (js_seq (js_setL 5 (jl_call0 (ja_cons (je_var 2) (ja_cons (je_var 4) ja_nil))))
  (js_seq (js_if (jt_view (jt_or (jt_not (jt_B (je_call0 (ja_cons (je_var 5) (ja_cons (je_fz (jl_call0 (ja_cons (je_var 3) (ja_cons (je_var 4) ja_nil)))) ja_nil))))) (jt_test (je_op jo_ne (je_var 2) (je_var 3)))))
    (js_ret je_bl)
    js_next)
  (js_app 5 je_int))))
  (js_seq (js_set 6 (je_call0 (ja_cons (je_var 1) (ja_cons je_int (ja_cons (je_op jo_add (je_cb jc_len (ja_cons (je_var 2) ja_nil)) je_int) ja_nil)))))
  (js_seq (js_set 7 (je_op jo_ix (je_fz (jl_lst (ja_cons je_str (ja_cons je_str (ja_cons je_str (ja_cons je_str (ja_cons je_str (ja_cons je_str (ja_cons je_str (ja_cons je_str ja_nil)))))))))) (je_op jo_mod (je_cb jc_int (ja_cons (je_call0 (ja_cons (je_var 1) (ja_cons je_int ja_nil))) ja_nil)) je_int)))
  (js_seq (js_set 8 (je_fz (jl_op jol_add (je_fz (jl_op jol_add (je_sl js_sl (je_var 2) jp_no (jp_some (je_var 6))) (je_fz (jl_lst (ja_cons (je_var 7) ja_nil))))) (je_sl js_sl (je_var 2) (jp_some (je_var 6)) jp_no))))
  (js_seq (js_for (ji_seq (je_fz (jl_lst (ja_cons je_int (ja_cons je_int (ja_cons je_int (ja_cons (je_un ju_neg je_int) ja_nil))))))) (jg_name 4)
    (js_if (jt_or (jt_test (je_op jo_ne (je_call0 (ja_cons (je_var 8) (ja_cons (je_var 4) ja_nil))) (je_tup (ja_cons je_str (ja_cons je_bl (ja_cons (je_var 7) ja_nil)))))) (jt_test (je_op jo_ne (je_call0 (ja_cons (je_fz (jl_op jol_add (je_var 8) (je_fz (jl_lst (ja_cons je_str ja_nil))))) (ja_cons (je_var 4) ja_nil))) (je_tup (ja_cons je_str (ja_cons je_bl (ja_cons (je_var 7) ja_nil)))))))
    (js_ret je_bl)
    js_next))
  (js_seq (js_for (ji_seq (je_fz (jl_lst (ja_cons je_int (ja_cons (je_un ju_neg je_int) (ja_cons je_int ja_nil)))))) (jg_name 4)
    (js_if (jt_test (je_op jo_ne (je_call0 (ja_cons (je_var 2) (ja_cons (je_var 4) ja_nil))) (je_tup (ja_cons je_str (ja_cons je_bl (ja_cons je_str ja_nil))))))
    (js_ret je_bl)
    js_next))
  (js_ret (je_and (je_call0 (ja_cons (je_fz (jl_call0 (ja_cons (je_var 2) (ja_cons je_int ja_nil)))) (ja_cons (je_fz (jl_call0 (ja_cons (je_var 3) (ja_cons je_int ja_nil)))) ja_nil))) (je_op jo_eq (je_var 2) (je_var 3))))))))))))) _ _ _ H1 (row_ok s1 n1 h1) ((sv_un (n := 9) rfl).setVal 1 (.lst upd_same (ints_dva row))) _ ?_
    rw [hlaw row d1 (by omega)]
    intro v Hi' H' _ _ dv
    cases dv
    exact q H'
end
end P70
namespace P70
open PySem L2 Xg Xd CwR
/-! ### small defs -/
theorem digit_ok (row : List Int) (hl : row.length ≤ 5000) (k : Nat) : m__law_digit [.lst (row.map D.int), .int k] = .ok (.int (row.getD k 0)) := by
  refine noX_of (runD_rt rfl ?_)
  show g__law_digit [.val (.lst (row.map D.int)), .val (.int k)] = _
  unfold g__law_digit
  have ht : bTest (e2 oLt (eVar 1) (eCB cLen (aCons (eVar 0) aNil))) [.val (.lst (row.map D.int)), .val (.int k)] = .ok (decide ((k : Int) < ((row.map D.int).length : Nat))) := rfl
  by_cases h : k < row.length
  · refine seq_rt ((if_yes (ht.trans ?_)).trans (ret_ok (op_ok rfl rfl ?_)))
    · rw [decide_eq_true (by rw [List.length_map]; omega)]
    · show atI (row.map D.int) (k : Nat) = _
      rw [at_ok (by rw [List.length_map]; exact h), List.getElem_map]
      simp [List.getD, h]
  · refine (seq_nx ((if_no (ht.trans ?_)).trans rfl)).trans (ret_ok ?_)
    · rw [decide_eq_false (by rw [List.length_map]; omega)]
    · rw [getD_out (by omega)]
      rfl
theorem pick_ok (row : List Int) (hl : row.length ≤ 5000) (k : Nat) {m : Int} (hm : 0 < m) : m__law_pick [.lst (row.map D.int), .int k, .int m] = .ok (.int (Xg.pick row k m)) := by
  refine noX_of (runD_rt rfl ?_)
  show g__law_pick [.val (.lst (row.map D.int)), .val (.int k), .val (.int m), .un] = _
  unfold g__law_pick
  refine (seq_nx (set_ok (d := .int 0) rfl)).trans ?_
  have one : (sIf (bTest (e2 oLt (eVar 1) (eCB cLen (aCons (eVar 0) aNil)))) (sSet 3 (e2 oIx (eVar 0) (eVar 1))) sNext) [.val (.lst (row.map D.int)), .val (.int k), .val (.int m), .val (.int 0)] = some (.nx [.val (.lst (row.map D.int)), .val (.int k), .val (.int m), .val (.int (row.getD k 0))]) := by
    have ht : bTest (e2 oLt (eVar 1) (eCB cLen (aCons (eVar 0) aNil))) [.val (.lst (row.map D.int)), .val (.int k), .val (.int m), .val (.int 0)] = .ok (decide ((k : Int) < ((row.map D.int).length : Nat))) := rfl
    by_cases h : k < row.length
    · refine (if_yes (ht.trans ?_)).trans (set_ok (op_ok rfl rfl ?_))
      · rw [decide_eq_true (by rw [List.length_map]; omega)]
      · show atI (row.map D.int) (k : Nat) = _
        rw [at_ok (by rw [List.length_map]; exact h), List.getElem_map]
        simp [List.getD, h]
    · refine (if_no (ht.trans ?_)).trans ?_
      · rw [decide_eq_false (by rw [List.length_map]; omega)]
      · rw [getD_out (by omega)]
        rfl
  refine (seq_nx one).trans ?_
  have two : (sIf (bTest (e2 oLt (e2 oAdd (eVar 1) (eC (.int 1))) (eCB cLen (aCons (eVar 0) aNil)))) (sSet 3 (e2 oAdd (eVar 3) (e2 oMul (eC (.int 16)) (e2 oIx (eVar 0) (e2 oAdd (eVar 1) (eC (.int 1))))))) sNext) [.val (.lst (row.map D.int)), .val (.int k), .val (.int m), .val (.int (row.getD k 0))]
      = some (.nx [.val (.lst (row.map D.int)), .val (.int k), .val (.int m), .val (.int (row.getD k 0 + 16 * row.getD (k + 1) 0))]) := by
    have ht : bTest (e2 oLt (e2 oAdd (eVar 1) (eC (.int 1))) (eCB cLen (aCons (eVar 0) aNil))) [.val (.lst (row.map D.int)), .val (.int k), .val (.int m), .val (.int (row.getD k 0))] = .ok (decide ((k : Int) + 1 < ((row.map D.int).length : Nat))) := rfl
    by_cases h : k + 1 < row.length
    · refine (if_yes (ht.trans ?_)).trans (set_ok (op_ok rfl (op_ok rfl (op_ok rfl (d := .int (row.getD (k + 1) 0)) (b := .int ((k + 1 : Nat) : Int)) rfl ?_) (oMul_16 _)) (oAdd_int _ _)))
      · rw [decide_eq_true (by rw [List.length_map]; omega)]
      · show atI (row.map D.int) ((k + 1 : Nat) : Int) = _
        rw [at_ok (by rw [List.length_map]; exact h), List.getElem_map]
        simp [List.getD, h]
    · refine (if_no (ht.trans ?_)).trans ?_
      · rw [decide_eq_false (by rw [List.length_map]; omega)]
      · rw [getD_out (show row.length ≤ k + 1 by omega), Int.mul_zero, Int.add_zero]
        rfl
  refine (seq_nx two).trans (ret_ok ((op_ok ((cb_ok (a1_ok rfl)).trans rfl) rfl (oMod_int hm)).trans ?_))
  unfold Xg.pick
  rw [show ((k : Int)).toNat = k from Int.toNat_natCast k]
theorem whole_ok (i : Int) : m__law_whole [.int i] = .ok (.bl true) := by
  refine noX_of (runD_rt rfl ?_)
  unfold g__law_whole
  exact ret_ok (and_ok ((cb_ok (a2_ok rfl rfl)).trans rfl) rfl)
theorem same_ok (is : List Int) (hl : is.length ≤ 1000) : m__law_numbers [.lst (is.map D.int), .lst (is.map D.int)] = .ok (.bl true) := by
  refine noX_of (runD_rt rfl ?_)
  show g__law_numbers [.val (.lst (is.map D.int)), .val (.lst (is.map D.int)), .un] = _
  unfold g__law_numbers
  refine (seq_nx ((if_no (or_no (not_ok (b := true) (test_ok ((cb_ok (a2_ok rfl rfl)).trans rfl))) (test_ok (op_ok rfl rfl ((oNe_int _ _).trans ?_))))).trans rfl)).trans ?_
  · rw [decide_eq_true rfl]
    rfl
  have lp := forR_range (g := gN 2) (b := sIf (bOr (bNot (bTest (eCall (fun ds => noX (m__law_whole ds)) (aCons (e2 oIx (eVar 0) (eVar 2)) aNil)))) (bTest (e2 oNe (e2 oIx (eVar 0) (eVar 2)) (e2 oIx (eVar 1) (eVar 2)))))
    (sRet (eC (.bl false))) sNext) (n := is.length) (fun _ ρ => ∃ y, ρ = [.val (.lst (is.map D.int)), .val (.lst (is.map D.int)), y]) ?_ ⟨.un, rfl⟩
  · obtain ⟨ρ', e, y, rfl⟩ := lp
    refine (seq_nx ((for_ok (r1_ok (n := is.length) (a1_ok ?_) (by omega))).trans e)).trans rfl
    show R.ok (D.int ((is.map D.int).length : Nat)) = _
    rw [List.length_map]
  · rintro k ρ hk ⟨y, rfl⟩
    have hx : atI (is.map D.int) ((k : Nat) : Int) = some (.int is[k]) := by rw [at_ok (by rw [List.length_map]; exact hk), List.getElem_map]
    refine ⟨_, _, rfl, (if_no (or_no (not_ok (b := true) (test_ok ((call_ok (a1_ok (op_ok rfl rfl hx))).trans (noX_of (whole_ok _))))) (test_ok (op_ok (op_ok rfl rfl hx) (op_ok rfl rfl hx) ((oNe_int _ _).trans ?_))))).trans rfl, _, rfl⟩
    rw [decide_eq_true rfl]
    rfl
/-! ### actions -/
theorem act_ok {a : Str} (h : a ∈ L_ACTIONS) : m_check_action [.str a] = .ok .non := by
  refine runD_nx (ρ := [.val (.str a)]) rfl ?_
  show g_check_action [.val (.str a)] = _
  unfold g_check_action
  refine (if_no (test_ok (op_ok rfl rfl ((oNotIn_tup _ _).trans ?_)))).trans rfl
  rw [decide_eq_true h]
  rfl
theorem act_exc {a : Str} (h : a ∉ L_ACTIONS) (hl : a.length ≤ 1000) : m_check_action [.str a] = .exc ⟨5, ["action"], [.str a]⟩ := by
  refine runD_ex (ρ := [.val (.str a)]) rfl ?_
  show g_check_action [.val (.str a)] = _
  unfold g_check_action
  refine (if_yes (test_ok (op_ok rfl rfl ((oNotIn_tup _ _).trans ?_)))).trans ?_
  · rw [decide_eq_false h]
    rfl
  · show (if a.length ≤ 100000 then _ else _) = _
    exact if_pos (by omega)
theorem range_no {nm : Str} {n l m : Int} (h : l ≤ n) (h2 : n ≤ m) : m_check_range [.str nm, .int n, .int l, .int m] = .ok .non := by
  refine runD_nx (ρ := [.val (.str nm), .val (.int n), .val (.int l), .val (.int m)]) rfl ?_
  show g_check_range [.val (.str nm), .val (.int n), .val (.int l), .val (.int m)] = _
  unfold g_check_range
  have e1 : bTest (e2 oLt (eVar 1) (eVar 2)) [.val (.str nm), .val (.int n), .val (.int l), .val (.int m)] = .ok (decide (n < l)) := rfl
  have e2 : bTest (e2 oGt (eVar 1) (eVar 3)) [.val (.str nm), .val (.int n), .val (.int l), .val (.int m)] = .ok (decide (m < n)) := rfl
  rw [decide_eq_false (by omega)] at e1 e2
  exact (if_no (or_no e1 e2)).trans rfl
theorem range_exc {nm : Str} {n l m : Int} (h : n < l ∨ m < n) (hl : nm.length ≤ 1000) : m_check_range [.str nm, .int n, .int l, .int m] = .exc ⟨6, ["name"], [.str nm]⟩ := by
  refine runD_ex (ρ := [.val (.str nm), .val (.int n), .val (.int l), .val (.int m)]) rfl ?_
  show g_check_range [.val (.str nm), .val (.int n), .val (.int l), .val (.int m)] = _
  unfold g_check_range
  have e1 : bTest (e2 oLt (eVar 1) (eVar 2)) [.val (.str nm), .val (.int n), .val (.int l), .val (.int m)] = .ok (decide (n < l)) := rfl
  have e2 : bTest (e2 oGt (eVar 1) (eVar 3)) [.val (.str nm), .val (.int n), .val (.int l), .val (.int m)] = .ok (decide (m < n)) := rfl
  have rs : sRaise1 6 "name" (aCons (eVar 0) aNil) [.val (.str nm), .val (.int n), .val (.int l), .val (.int m)] = some (.ex ⟨6, ["name"], [.str nm]⟩ [.val (.str nm), .val (.int n), .val (.int l), .val (.int m)]) := by
    show (if nm.length ≤ 100000 then _ else _) = _
    exact if_pos (by omega)
  by_cases c : n < l
  · rw [decide_eq_true c] at e1
    exact (if_yes (or_yes e1)).trans rs
  · rw [decide_eq_false c] at e1
    rw [decide_eq_true (by omega)] at e2
    exact (if_yes (or_no e1 e2)).trans rs
theorem proc_ok {p : Int} (h : 0 ≤ p) (h2 : p ≤ 1) : m_check_processor [.int p] = .ok .non := by
  refine runD_nx (ρ := [.val (.int p)]) rfl ?_
  show g_check_processor [.val (.int p)] = _
  unfold g_check_processor
  exact expr_ok ((call_ok (ds := [.str "processor", .int p, .int 0, .int 1]) rfl).trans (range_no h h2))
theorem proc_exc {p : Int} (h : p < 0 ∨ 1 < p) : m_check_processor [.int p] = .exc ⟨6, ["name"], [.str "processor"]⟩ := by
  refine runD_ex (ρ := [.val (.int p)]) rfl ?_
  show g_check_processor [.val (.int p)] = _
  unfold g_check_processor
  exact expr_exc ((call_ok (ds := [.str "processor", .int p, .int 0, .int 1]) rfl).trans (range_exc h (by decide)))
/-! ### the waits -/
def stepW (t r g : Str) (s : List Nat × Option Nat) (a : Str) : List Nat × Option Nat :=
  if a = t then (s.1 ++ [s.2.getD 0], none) else if a = r ∧ s.2 = none then (s.1, some 0) else if a = g ∧ s.2 ≠ none then (s.1, s.2.map (· + 1)) else s
def wD : Option Nat → D
  | none => .non
  | some n => .int n
def nats (l : List Nat) : List D := l.map fun n : Nat => D.int n
/-- the three words of a processor, as the texts make them -/
structure Nm (p : Int) (t r g : Str) : Prop where
  jt : ∀ ρ, eVar 1 ρ = .ok (.int p) → eJoin [eC (.str "t"), eFmt (eVar 1)] Str.empty ρ = .ok (.str t)
  jr : ∀ ρ, eVar 1 ρ = .ok (.int p) → eJoin [eC (.str "r"), eFmt (eVar 1)] Str.empty ρ = .ok (.str r)
  jg : ∀ ρ, eVar 1 ρ = .ok (.int p) → eJoin [eC (.str "g"), eFmt (eVar 1)] Str.empty ρ = .ok (.str g)
  st : ∀ ρ i, eVar i ρ = .ok (.int p) → e2 oAdd (eC (.str "t")) (eCB cStr (aCons (eVar i) aNil)) ρ = .ok (.str t)
  sr : ∀ ρ i, eVar i ρ = .ok (.int p) → e2 oAdd (eC (.str "r")) (eCB cStr (aCons (eVar i) aNil)) ρ = .ok (.str r)
  sg : ∀ ρ i, eVar i ρ = .ok (.int p) → e2 oAdd (eC (.str "g")) (eCB cStr (aCons (eVar i) aNil)) ρ = .ok (.str g)
  tr : t ≠ r
  tg : t ≠ g
  rg : r ≠ g
theorem join_of {p : Int} {x y : Str} (h : (match eJoin [eC (.str x), eFmt (eC (.int p))] Str.empty [] with | .ok (.str z) => decide (z = y) | _ => false) = true) (ρ : Rho) (e : eVar 1 ρ = .ok (.int p)) : eJoin [eC (.str x), eFmt (eVar 1)] Str.empty ρ = .ok (.str y) := by
  have e0 : eJoin [eC (.str x), eFmt (eVar 1)] Str.empty ρ = eJoin [eC (.str x), eFmt (eC (.int p))] Str.empty [] := by
    unfold eJoin eFmt
    show (R.ok (D.str x)).bind _ = (R.ok (D.str x)).bind _
    simp only [R.bind_ok]
    unfold eJoin
    simp only [e, R.bind_ok]
    rfl
  rw [e0]
  split at h
  · rename_i z ez
    rw [ez, of_decide_eq_true h]
  · cases h
theorem add_of {p : Int} {x y : Str} (h : (match cStr [.int p] with | some (.str z) => decide (x.length + z.length ≤ 100000 ∧ x ++ z = y) | _ => false) = true) (ρ : Rho) (i : Nat) (e : eVar i ρ = .ok (.int p)) : e2 oAdd (eC (.str x)) (eCB cStr (aCons (eVar i) aNil)) ρ = .ok (.str y) := by
  split at h
  · rename_i z ez
    obtain ⟨h1, h2⟩ := of_decide_eq_true h
    refine op_ok rfl ((cb_ok (a1_ok e)).trans (by rw [ez]; rfl)) ?_
    show (if x.length + z.length ≤ 100000 then some (D.str (x ++ z)) else none) = _
    rw [if_pos h1, h2]
  · cases h
theorem nm0 : Nm 0 "t0" "r0" "g0" := ⟨join_of (by decide +kernel), join_of (by decide +kernel), join_of (by decide +kernel), add_of (by decide +kernel), add_of (by decide +kernel), add_of (by decide +kernel), by decide +kernel, by decide +kernel, by decide +kernel⟩
theorem nm1 : Nm 1 "t1" "r1" "g1" := ⟨join_of (by decide +kernel), join_of (by decide +kernel), join_of (by decide +kernel), add_of (by decide +kernel), add_of (by decide +kernel), add_of (by decide +kernel), by decide +kernel, by decide +kernel, by decide +kernel⟩
theorem oEq_str (i j : Str) : oEq (.str i) (.str j) = some (.bl (decide (i = j))) := by
  unfold oEq eqB
  simp [sv, scal]
theorem eq_ok {f g : Rho → R D} {ρ : Rho} {x y : Str} (h : f ρ = .ok (.str x)) (h2 : g ρ = .ok (.str y)) : bTest (e2 oEq f g) ρ = .ok (decide (x = y)) := test_ok (op_ok h h2 (oEq_str _ _))
/-! ### delays -/
theorem acts_loop {S : List Str} (hS : ∀ a ∈ S, a ∈ L_ACTIONS) (p x3 x4 : Sl) (y : Sl) : ∃ y', forR (gN 2) (sExpr (eCall m_check_action (aCons (eVar 2) aNil))) (S.map D.str) [.val (.lst (S.map D.str)), p, y, x3, x4] = some (.nx [.val (.lst (S.map D.str)), p, y', x3, x4]) := by
  obtain ⟨y', e⟩ := forR_fold (f := D.str) (j := 2) (b := sExpr (eCall m_check_action (aCons (eVar 2) aNil))) (fun (_ : Unit) y => [.val (.lst (S.map D.str)), p, y, x3, x4]) (fun s _ => s) (fun _ r => ∀ a ∈ r, a ∈ L_ACTIONS) (fun _ _ _ => rfl)
    (fun s a r h => ⟨expr_ok ((call_ok (a1_ok rfl)).trans (act_ok (h a List.mem_cons_self))), fun b hb => h b (List.mem_cons_of_mem _ hb)⟩) S () y hS
  exact ⟨y', e⟩
theorem acts_exc {p x3 x4 T : Sl} {a : Str} (ha : a ∉ L_ACTIONS) (hl : a.length ≤ 1000) (S2 : List Str) : ∀ (S1 : List Str) (_ : ∀ z ∈ S1, z ∈ L_ACTIONS) (y : Sl), ∃ y', forR (gN 2) (sExpr (eCall m_check_action (aCons (eVar 2) aNil))) ((S1 ++ a :: S2).map D.str) [T, p, y, x3, x4] = some (.ex ⟨5, ["action"], [.str a]⟩ [T, p, y', x3, x4])
  | [], _, y => ⟨.val (.str a), by
    show (match sExpr (eCall m_check_action (aCons (eVar 2) aNil)) [T, p, .val (.str a), x3, x4] with
      | some (.nx ρ') => forR (gN 2) _ (S2.map D.str) ρ'
      | some (.ct ρ') => forR (gN 2) _ (S2.map D.str) ρ'
      | some (.bk ρ') => some (.nx ρ')
      | o => o) = _
    rw [expr_exc ((call_ok (a1_ok rfl)).trans (act_exc ha hl))]⟩
  | z :: S1, h, y => by
    obtain ⟨y', e⟩ := acts_exc ha hl S2 S1 (fun b hb => h b (List.mem_cons_of_mem _ hb)) (.val (.str z))
    refine ⟨y', ?_⟩
    show (match sExpr (eCall m_check_action (aCons (eVar 2) aNil)) [T, p, .val (.str z), x3, x4] with
      | some (.nx ρ') => forR (gN 2) _ ((S1 ++ a :: S2).map D.str) ρ'
      | some (.ct ρ') => forR (gN 2) _ ((S1 ++ a :: S2).map D.str) ρ'
      | some (.bk ρ') => some (.nx ρ')
      | o => o) = _
    rw [expr_ok ((call_ok (a1_ok rfl)).trans (act_ok (h z List.mem_cons_self)))]
    exact e
def delB : MS := (sIf (bTest (e2 oEq (eVar 2) (eJoin [(eC (.str "t")), (eFmt (eVar 1))] Str.empty)))
    (sSeq (sApp 3 (eIf (bTest (e2 oIs (eVar 4) (eC .non))) (eC (.int 0)) (eVar 4)))
  (sSet 4 (eC .non)))
    (sIf (bAnd (bTest (e2 oEq (eVar 2) (eJoin [(eC (.str "r")), (eFmt (eVar 1))] Str.empty))) (bTest (e2 oIs (eVar 4) (eC .non))))
    (sSet 4 (eC (.int 0)))
    (sIf (bAnd (bTest (e2 oEq (eVar 2) (eJoin [(eC (.str "g")), (eFmt (eVar 1))] Str.empty))) (bTest (e2 oIsNot (eVar 4) (eC .non))))
    (sSet 4 (e2 oAdd (eVar 4) (eC (.int 1))))
    sNext)))
theorem delB_ok {p : Int} {t r g : Str} (N : Nm p t r g) (T : Sl) (s : List Nat × Option Nat) (a : Str) (hs : s.1.length < 1000) :
    delB [T, .val (.int p), .val (.str a), .own (nats s.1), .val (wD s.2)] = some (.nx [T, .val (.int p), .val (.str a), .own (nats (stepW t r g s a).1), .val (wD (stepW t r g s a).2)]) := by
  have et := eq_ok (f := eVar 2) (ρ := [T, .val (.int p), .val (.str a), .own (nats s.1), .val (wD s.2)]) (x := a) rfl (N.jt _ rfl)
  have er := eq_ok (f := eVar 2) (ρ := [T, .val (.int p), .val (.str a), .own (nats s.1), .val (wD s.2)]) (x := a) rfl (N.jr _ rfl)
  have eg := eq_ok (f := eVar 2) (ρ := [T, .val (.int p), .val (.str a), .own (nats s.1), .val (wD s.2)]) (x := a) rfl (N.jg _ rfl)
  obtain ⟨f, w⟩ := s
  have en : bTest (e2 oIs (eVar 4) (eC .non)) [T, .val (.int p), .val (.str a), .own (nats f), .val (wD w)] = .ok (decide (w = none)) := by cases w <;> rfl
  have em : bTest (e2 oIsNot (eVar 4) (eC .non)) [T, .val (.int p), .val (.str a), .own (nats f), .val (wD w)] = .ok (decide (w ≠ none)) := by cases w <;> rfl
  unfold delB stepW
  refine (if_b et).trans ?_
  by_cases ct : a = t
  · rw [if_pos (decide_eq_true ct), if_pos ct]
    have ev : eIf (bTest (e2 oIs (eVar 4) (eC .non))) (eC (.int 0)) (eVar 4) [T, .val (.int p), .val (.str a), .own (nats f), .val (wD w)] = .ok (.int (w.getD 0 : Nat)) := by
      unfold eIf
      rw [en]
      cases w <;> rfl
    refine (seq_nx (app_ok rfl ev (by rw [show (nats f).length = f.length from List.length_map ..]; exact Nat.lt_of_lt_of_le hs (by decide)))).trans ?_
    show some (O.nx [T, .val (.int p), .val (.str a), .own (nats f ++ [.int (w.getD 0 : Nat)]), .val .non]) = _
    unfold nats
    rw [List.map_append]
    rfl
  · rw [if_neg (by rw [decide_eq_false ct]; simp), if_neg ct]
    refine (if_b (b := _) (k := decide (a = r ∧ w = none)) ?_).trans ?_
    · by_cases cr : a = r
      · rw [decide_eq_true cr] at er
        rw [and_yes er en]
        simp [cr]
      · rw [decide_eq_false cr] at er
        rw [and_no er]
        simp [cr]
    by_cases cr : a = r ∧ w = none
    · rw [if_pos (decide_eq_true cr), if_pos cr]
      rfl
    · rw [if_neg (by rw [decide_eq_false cr]; simp), if_neg cr]
      refine (if_b (b := _) (k := decide (a = g ∧ w ≠ none)) ?_).trans ?_
      · by_cases cg : a = g
        · rw [decide_eq_true cg] at eg
          rw [and_yes eg em]
          simp [cg]
        · rw [decide_eq_false cg] at eg
          rw [and_no eg]
          simp [cg]
      by_cases cg : a = g ∧ w ≠ none
      · rw [if_pos (decide_eq_true cg), if_pos cg]
        obtain ⟨_, cw⟩ := cg
        cases w with
        | none => exact absurd rfl cw
        | some n => rfl
      · rw [if_neg (by rw [decide_eq_false cg]; simp), if_neg cg]
        rfl
theorem step_len (t r g : Str) (s : List Nat × Option Nat) (a : Str) : (stepW t r g s a).1.length ≤ s.1.length + 1 := by
  unfold stepW
  split
  · simp
  · split
    · simp
    · split <;> simp
theorem delays_ok {p : Int} {t r g : Str} (N : Nm p t r g) (h0 : 0 ≤ p) (h1 : p ≤ 1) {S : List Str} (hS : ∀ a ∈ S, a ∈ L_ACTIONS) (hl : S.length ≤ 500) :
    m_delays [.lst (S.map D.str), .int p] = .ok (nats (S.foldl (stepW t r g) ([], none)).1) := by
  refine runL_rf rfl ?_
  show g_delays [.val (.lst (S.map D.str)), .val (.int p), .un, .un, .un] = _
  unfold g_delays
  obtain ⟨y, e⟩ := acts_loop hS (.val (.int p)) .un .un .un
  refine (seq_nx ((for_ok rfl).trans e)).trans ?_
  refine (seq_nx (expr_ok ((call_ok (a1_ok rfl)).trans (proc_ok h0 h1)))).trans ?_
  refine (seq_nx (setL_ok (lst_ok rfl (by decide)))).trans ?_
  refine (seq_nx (set_ok (d := .non) rfl)).trans ?_
  obtain ⟨y', e'⟩ := forR_fold (f := D.str) (j := 2) (b := delB) (fun (s : List Nat × Option Nat) y => [.val (.lst (S.map D.str)), .val (.int p), y, .own (nats s.1), .val (wD s.2)]) (stepW t r g) (fun s q => s.1.length + q.length ≤ 500) (fun _ _ _ => rfl)
    (fun s a q h => ⟨delB_ok N _ s a (by rw [List.length_cons] at h; omega), by have := step_len t r g s a; rw [List.length_cons] at h; omega⟩) S ([], none) y (by simpa using hl)
  exact (seq_nx ((for_ok rfl).trans e')).trans rfl
end P70
namespace P70
open PySem L2 Xg Xd CwR
/-! ### what is due -/
def beh (t : Str) (S : List Str) : Nat → Nat
  | 0 => 0
  | k + 1 => if S[k]? = some t then k + 1 else beh t S k
theorem beh_le (t : Str) (S : List Str) : ∀ k, beh t S k ≤ k
  | 0 => Nat.le_refl _
  | k + 1 => by
    unfold beh
    split
    · exact Nat.le_refl _
    · exact Nat.le_trans (beh_le t S k) (Nat.le_succ k)
def stepI (r g : Str) (s : Bool × Nat) (a : Str) : Bool × Nat := (s.1 || decide (a = r), if a = g ∧ s.1 = true then s.2 + 1 else s.2)
def seg (S : List Str) (i j : Nat) : List Str := (S.drop i).take (j - i)
def cnt (t r g : Str) (S : List Str) (k : Nat) : Bool × Nat := (seg S (beh t S k) k).foldl (stepI r g) (false, 0)
def due (t r g : Str) (S : List Str) : Nat → List Nat
  | 0 => []
  | k + 1 => if S[k]? = some t then due t r g S k ++ [(cnt t r g S k).2] else due t r g S k
theorem due_len (t r g : Str) (S : List Str) : ∀ k, (due t r g S k).length ≤ k
  | 0 => Nat.le_refl _
  | k + 1 => by
    have := due_len t r g S k
    unfold due
    split
    · rw [List.length_append]
      exact Nat.succ_le_succ this
    · omega
theorem seg_self (S : List Str) (i : Nat) : seg S i i = [] := by
  unfold seg
  rw [Nat.sub_self]
  exact List.take_zero
theorem seg_succ {S : List Str} {i k : Nat} (h : i ≤ k) (hk : k < S.length) : seg S i (k + 1) = seg S i k ++ [S[k]] := by
  unfold seg
  rw [show k + 1 - i = (k - i) + 1 by omega, List.take_succ]
  congr
  rw [List.getElem?_drop, show i + (k - i) = k by omega, List.getElem?_eq_getElem hk]
  rfl
theorem cnt_zero (r g : Str) : ∀ (l : List Str) (s : Bool × Nat), (s.1 = false → s.2 = 0) → ((l.foldl (stepI r g) s).1 = false → (l.foldl (stepI r g) s).2 = 0)
  | [], s, h => h
  | a :: l, s, h => cnt_zero r g l _ (by
    obtain ⟨b, n⟩ := s
    unfold stepI
    cases b
    · simp at h ⊢
      intro _
      exact h
    · simp)
def optW (s : Bool × Nat) : Option Nat := if s.1 = true then some s.2 else none
theorem fold_due {t r g : Str} (tr : t ≠ r) (tg : t ≠ g) (rg : r ≠ g) (S : List Str) : ∀ k, k ≤ S.length → (S.take k).foldl (stepW t r g) ([], none) = (due t r g S k, optW (cnt t r g S k))
  | 0, _ => by
    unfold cnt beh
    rw [seg_self]
    rfl
  | k + 1, h => by
    have ih := fold_due tr tg rg S k (by omega)
    have hk : k < S.length := h
    rw [List.take_succ_eq_append_getElem hk, List.foldl_append, ih]
    have hz := cnt_zero r g (seg S (beh t S k) k) (false, 0) (fun _ => rfl)
    change ((cnt t r g S k).1 = false → (cnt t r g S k).2 = 0) at hz
    have e1 : due t r g S (k + 1) = if S[k]? = some t then due t r g S k ++ [(cnt t r g S k).2] else due t r g S k := rfl
    have e2 : cnt t r g S (k + 1) = if S[k] = t then (false, 0) else stepI r g (cnt t r g S k) S[k] := by
      unfold cnt
      have eb : beh t S (k + 1) = if S[k]? = some t then k + 1 else beh t S k := rfl
      rw [eb, List.getElem?_eq_getElem hk]
      by_cases c : S[k] = t
      · rw [if_pos (congrArg some c), if_pos c, seg_self]
        rfl
      · rw [if_neg (fun z => c (Option.some.inj z)), if_neg c, seg_succ (beh_le t S k) hk, List.foldl_append]
        rfl
    rw [e1, e2, List.getElem?_eq_getElem hk]
    generalize cnt t r g S k = s at hz
    generalize S[k] = a
    show stepW t r g (due t r g S k, optW s) a = _
    obtain ⟨b, n⟩ := s
    unfold stepW optW stepI
    by_cases c : a = t
    · subst c
      cases b
      · simp at hz
        simp [hz]
      · simp
    · have c' : ¬ some a = some t := fun z => c (Option.some.inj z)
      rw [if_neg c, if_neg c', if_neg c]
      by_cases cr : a = r
      · subst cr
        cases b
        · simp at hz
          simp [hz]
        · simp [rg]
      · by_cases cg : a = g
        · subst cg
          cases b <;> simp [cr]
        · cases b <;> simp [cr, cg]
/-! ### the law's own walk -/
def actAt (S : List Str) (k : Nat) (h : k < S.length) : atI (S.map D.str) ((k : Nat) : Int) = some (.str S[k]) := by
  rw [at_ok (by rw [List.length_map]; exact h), List.getElem_map]
theorem behind_ok {p : Int} {t r g : Str} (N : Nm p t r g) {S : List Str} {k : Nat} (hk : k ≤ S.length) (hl : S.length ≤ 500) : m__law_behind [.lst (S.map D.str), .int k, .int p] = .ok (.int (beh t S k : Nat)) := by
  refine noX_of (runD_rt rfl ?_)
  show g__law_behind [.val (.lst (S.map D.str)), .val (.int k), .val (.int p), .un, .un] = _
  unfold g__law_behind
  refine (seq_nx (set_ok (d := .int 0) rfl)).trans ?_
  obtain ⟨ρ', e, y, rfl⟩ := forR_range (g := gN 4) (b := sIf (bTest (e2 oEq (e2 oIx (eVar 0) (eVar 4)) (e2 oAdd (eC (.str "t")) (eCB cStr (aCons (eVar 2) aNil))))) (sSet 3 (e2 oAdd (eVar 4) (eC (.int 1)))) sNext) (n := k)
    (fun j ρ => ∃ y, ρ = [.val (.lst (S.map D.str)), .val (.int k), .val (.int p), .val (.int (beh t S j : Nat)), y]) (fun j ρ hj i => by
      obtain ⟨y, rfl⟩ := i
      have hjS : j < S.length := by omega
      refine ⟨_, _, rfl, (if_b (eq_ok (x := S[j]) (op_ok rfl rfl (actAt S j hjS)) (N.st _ 2 rfl))).trans (?_ : _ = some (O.nx [.val (.lst (S.map D.str)), .val (.int k), .val (.int p), .val (.int (beh t S (j + 1) : Nat)), .val (.int (j : Nat))])), _, rfl⟩
      have eb : beh t S (j + 1) = if S[j]? = some t then j + 1 else beh t S j := rfl
      rw [eb, List.getElem?_eq_getElem hjS]
      by_cases c : S[j] = t
      · rw [if_pos (decide_eq_true c), if_pos (congrArg some c)]
        exact set_ok (op_ok rfl rfl (by rw [oAdd_int, Int.natCast_add]; rfl))
      · rw [if_neg (by rw [decide_eq_false c]; simp), if_neg (fun z => c (Option.some.inj z))]
        rfl) (ρ := [.val (.lst (S.map D.str)), .val (.int k), .val (.int p), .val (.int 0), .un]) ⟨.un, rfl⟩
  exact (seq_nx ((for_ok (r1_ok (a1_ok rfl) (by omega))).trans e)).trans rfl
def dueI : MS := (sSeq (sIf (bAnd (bTest (e2 oEq (eVar 6) (e2 oAdd (eC (.str "g")) (eCB cStr (aCons (eVar 1) aNil))))) (bTest (eVar 4)))
    (sSet 5 (e2 oAdd (eVar 5) (eC (.int 1))))
    sNext)
  (sIf (bTest (e2 oEq (eVar 6) (e2 oAdd (eC (.str "r")) (eCB cStr (aCons (eVar 1) aNil)))))
    (sSet 4 (eC (.bl true)))
    sNext))
theorem dueI_ok {p : Int} {t r g : Str} (N : Nm p t r g) (T x2 x3 : Sl) (s : Bool × Nat) (a : Str) :
    dueI [T, .val (.int p), x2, x3, .val (.bl s.1), .val (.int (s.2 : Nat)), .val (.str a)] = some (.nx [T, .val (.int p), x2, x3, .val (.bl (stepI r g s a).1), .val (.int ((stepI r g s a).2 : Nat)), .val (.str a)]) := by
  obtain ⟨b, n⟩ := s
  unfold dueI stepI
  have one : sIf (bAnd (bTest (e2 oEq (eVar 6) (e2 oAdd (eC (.str "g")) (eCB cStr (aCons (eVar 1) aNil))))) (bTest (eVar 4))) (sSet 5 (e2 oAdd (eVar 5) (eC (.int 1)))) sNext [T, .val (.int p), x2, x3, .val (.bl b), .val (.int (n : Nat)), .val (.str a)]
      = some (.nx [T, .val (.int p), x2, x3, .val (.bl b), .val (.int ((if a = g ∧ b = true then n + 1 else n : Nat))), .val (.str a)]) := by
    have eg := eq_ok (f := eVar 6) (ρ := [T, .val (.int p), x2, x3, .val (.bl b), .val (.int (n : Nat)), .val (.str a)]) (x := a) rfl (N.sg _ 1 rfl)
    by_cases cg : a = g
    · rw [decide_eq_true cg] at eg
      refine (if_b (and_yes (b := b) eg rfl)).trans ?_
      cases b
      · simp [sNext]
      · rw [if_pos rfl, if_pos ⟨cg, rfl⟩]
        exact set_ok (op_ok rfl rfl (by rw [oAdd_int, Int.natCast_add]; rfl))
    · rw [decide_eq_false cg] at eg
      refine (if_no (and_no eg)).trans ?_
      rw [if_neg (fun z => cg z.1)]
      rfl
  refine (seq_nx one).trans ?_
  refine (if_b (eq_ok (x := a) rfl (N.sr _ 1 rfl))).trans ?_
  by_cases cr : a = r
  · rw [if_pos (decide_eq_true cr)]
    refine (set_ok (d := .bl true) rfl).trans ?_
    show some (O.nx [T, .val (.int p), x2, x3, .val (.bl true), _, _]) = some (O.nx [T, .val (.int p), x2, x3, .val (.bl (b || decide (a = r))), _, _])
    rw [decide_eq_true cr, Bool.or_true]
  · rw [if_neg (by rw [decide_eq_false cr]; simp)]
    show some (O.nx [T, .val (.int p), x2, x3, .val (.bl b), _, _]) = some (O.nx [T, .val (.int p), x2, x3, .val (.bl (b || decide (a = r))), _, _])
    rw [decide_eq_false cr, Bool.or_false]
theorem due_ok {p : Int} {t r g : Str} (N : Nm p t r g) {S : List Str} (hl : S.length ≤ 500) : m__law_due [.lst (S.map D.str), .int p] = .ok (nats (due t r g S S.length)) := by
  refine noX_of (runL_rf rfl ?_)
  show g__law_due [.val (.lst (S.map D.str)), .val (.int p), .un, .un, .un, .un, .un] = _
  unfold g__law_due
  refine (seq_nx (setL_ok (lst_ok rfl (by decide)))).trans ?_
  obtain ⟨ρ', e, y3, y4, y5, y6, rfl⟩ := forR_range (g := gN 3) (b := sIf (bTest (e2 oEq (e2 oIx (eVar 0) (eVar 3)) (e2 oAdd (eC (.str "t")) (eCB cStr (aCons (eVar 1) aNil)))))
    (sSeq (sSet 4 (eC (.bl false)))
  (sSeq (sSet 5 (eC (.int 0)))
  (sSeq (sFor (Xd.iSeq (eSl oSl (eVar 0) (pSome (eCall (fun ds => noX (m__law_behind ds)) (aCons (eVar 0) (aCons (eVar 3) (aCons (eVar 1) aNil))))) (pSome (eVar 3)))) (gN 6) dueI)
  (sApp 2 (eVar 5)))))
    sNext) (n := S.length)
    (fun j ρ => ∃ y3 y4 y5 y6, ρ = [.val (.lst (S.map D.str)), .val (.int p), .own (nats (due t r g S j)), y3, y4, y5, y6]) (fun j ρ hj i => by
      obtain ⟨y3, y4, y5, y6, rfl⟩ := i
      have e0 := if_b (a := (sSeq (sSet 4 (eC (.bl false)))
  (sSeq (sSet 5 (eC (.int 0)))
  (sSeq (sFor (Xd.iSeq (eSl oSl (eVar 0) (pSome (eCall (fun ds => noX (m__law_behind ds)) (aCons (eVar 0) (aCons (eVar 3) (aCons (eVar 1) aNil))))) (pSome (eVar 3)))) (gN 6) dueI)
  (sApp 2 (eVar 5)))))) (b := sNext) (eq_ok (f := e2 oIx (eVar 0) (eVar 3)) (g := e2 oAdd (eC (.str "t")) (eCB cStr (aCons (eVar 1) aNil))) (x := S[j]) (ρ := [.val (.lst (S.map D.str)), .val (.int p), .own (nats (due t r g S j)), .val (.int (j : Nat)), y4, y5, y6]) (op_ok rfl rfl (actAt S j hj)) (N.st _ 1 rfl))
      have eb : due t r g S (j + 1) = if S[j]? = some t then due t r g S j ++ [(cnt t r g S j).2] else due t r g S j := rfl
      rw [List.getElem?_eq_getElem hj] at eb
      by_cases c : S[j] = t
      · rw [if_pos (decide_eq_true c)] at e0
        rw [if_pos (congrArg some c)] at eb
        obtain ⟨y6', e6⟩ := forR_fold (f := D.str) (j := 6) (b := dueI) (fun (s : Bool × Nat) y => [.val (.lst (S.map D.str)), .val (.int p), .own (nats (due t r g S j)), .val (.int (j : Nat)), .val (.bl s.1), .val (.int (s.2 : Nat)), y]) (stepI r g) (fun _ _ => True) (fun _ _ _ => rfl)
          (fun s a q _ => ⟨dueI_ok N _ _ _ s a, trivial⟩) (seg S (beh t S j) j) (false, 0) y6 trivial
        refine ⟨_, _, rfl, e0.trans ((seq_nx (set_ok (d := .bl false) rfl)).trans ((seq_nx (set_ok (d := .int 0) rfl)).trans ((seq_nx ((for_ok (ds := (seg S (beh t S j) j).map D.str) ?_).trans e6)).trans (app_ok (d := .int ((cnt t r g S j).2 : Nat)) rfl rfl ?_)))), .val (.int (j : Nat)), .val (.bl (cnt t r g S j).1), .val (.int ((cnt t r g S j).2 : Nat)), y6', ?_⟩
        · refine seq_val ?_
          unfold eSl pSome
          have ec : eCall (fun ds => noX (m__law_behind ds)) (aCons (eVar 0) (aCons (eVar 3) (aCons (eVar 1) aNil))) [.val (.lst (S.map D.str)), .val (.int p), .own (nats (due t r g S j)), .val (.int (j : Nat)), .val (.bl false), .val (.int 0), y6] = .ok (.int (beh t S j : Nat)) := (call_ok (a3_ok rfl rfl rfl)).trans (noX_of (behind_ok N (by omega) hl))
          show ((R.ok (D.lst (S.map D.str))).bind fun a => ((eCall (fun ds => noX (m__law_behind ds)) (aCons (eVar 0) (aCons (eVar 3) (aCons (eVar 1) aNil))) [.val (.lst (S.map D.str)), .val (.int p), .own (nats (due t r g S j)), .val (.int (j : Nat)), .val (.bl false), .val (.int 0), y6]).bind _).bind _) = _
          rw [ec]
          show ro (some (D.lst (cutD (S.map D.str) (some (beh t S j : Nat)) (some (j : Nat))))) = _
          have := beh_le t S j
          rw [cut_ok (by rw [List.length_map]; omega) (by rw [List.length_map]; omega), ← List.map_drop, ← List.map_take]
          rfl
        · have := due_len t r g S j
          rw [show (nats (due t r g S j)).length = _ from List.length_map ..]
          omega
        · rw [eb]
          unfold nats
          rw [List.map_append]
          rfl
      · rw [if_neg (by rw [decide_eq_false c]; simp)] at e0
        rw [if_neg (fun z => c (Option.some.inj z))] at eb
        exact ⟨_, _, rfl, e0, .val (.int (j : Nat)), y4, y5, y6, by rw [eb]⟩) (ρ := [.val (.lst (S.map D.str)), .val (.int p), .own [], .un, .un, .un, .un]) ⟨.un, .un, .un, .un, rfl⟩
  refine (seq_nx ((for_ok (r1_ok (n := S.length) (a1_ok ?_) (by omega))).trans e)).trans rfl
  show R.ok (D.int ((S.map D.str).length : Nat)) = _
  rw [List.length_map]
end P70
namespace P70
open PySem L2 Xg Xd CwR
abbrev N16 : List Str := ["g0", "r0", "t0", "g1", "r1", "t1", "g0", "g0", "g1", "r0", "t0", "i0", "i1", "p0", "p1", "d"]
theorem n16_act : ∀ a ∈ N16, a ∈ L_ACTIONS := by decide +kernel
theorem act_strOk : ∀ a ∈ L_ACTIONS, PyData.strOk a = true := by decide +kernel
theorem sched_ok {row : List Int} (d : Dig row) (hl : row.length ≤ 70) : ∃ S : List Str, m__law_schedule [.lst (row.map D.int), .int 0] = .ok (S.map D.str) ∧ (∀ a ∈ S, a ∈ L_ACTIONS) ∧ S.length ≤ 60 := by
  have hp0 := Xg.pick_lo (row := row) (i := ((0 : Nat) : Int)) (m := 61) (by decide)
  have hp1 := Xg.pick_hi (row := row) (i := ((0 : Nat) : Int)) (m := 61) (by decide)
  obtain ⟨n, hn⟩ := Int.eq_ofNat_of_zero_le hp0
  have hg : ∀ k : Nat, ∃ a ∈ N16, atI (N16.map D.str) (row.getD k 0) = some (.str a) := fun k => by
    obtain ⟨h0, h1⟩ := dig_getD d k
    obtain ⟨m, hm⟩ := Int.eq_ofNat_of_zero_le h0
    rw [hm]
    have hm2 : m < N16.length := by
      have : N16.length = 16 := rfl
      omega
    exact ⟨N16[m], List.getElem_mem hm2, by rw [at_ok (by rw [List.length_map]; exact hm2), List.getElem_map]⟩
  have hgc : ∀ k : Nat, N16.getD (row.getD k 0).toNat "d" ∈ N16 ∧ atI (N16.map D.str) (row.getD k 0) = some (.str (N16.getD (row.getD k 0).toNat "d")) := fun k => by
    obtain ⟨h0, h1⟩ := dig_getD d k
    obtain ⟨m, hm⟩ := Int.eq_ofNat_of_zero_le h0
    rw [hm]
    have hm2 : m < N16.length := by
      have : N16.length = 16 := rfl
      omega
    rw [Int.toNat_natCast, at_ok (by rw [List.length_map]; exact hm2), List.getElem_map]
    have e : N16.getD m "d" = N16[m] := by
      unfold List.getD
      rw [List.getElem?_eq_getElem hm2]
      rfl
    rw [e]
    exact ⟨List.getElem_mem hm2, rfl⟩
  refine ⟨(List.range n).map fun k => N16.getD (row.getD (2 + k) 0).toNat "d", ?_, fun a ha => ?_, by rw [List.length_map, List.length_range]; omega⟩
  · refine noX_of (runL_rf rfl ?_)
    show g__law_schedule [.val (.lst (row.map D.int)), .val (.int 0), .un, .un] = _
    unfold g__law_schedule
    refine (seq_nx (set_ok (d := .lst (N16.map D.str)) rfl)).trans (retL_ok ?_)
    refine (lc_ok (ds := rIntD 0 n) (fun _ => true) (fun x => match x with
      | .int k => .str (N16.getD (row.getD (2 + k.toNat) 0).toNat "d")
      | x => x) (r1_ok (a1_ok ?_) (by omega)) (by rw [rint_len]; omega) fun x hx => ?_).trans ?_
    · refine ((call_ok (a3_ok rfl rfl rfl)).trans (noX_of (pick_ok row (by omega) 0 (by decide)))).trans ?_
      rw [hn]
    · obtain ⟨k, hk, rfl⟩ := rint_mem hx
      refine ⟨_, rfl, rfl, fun _ => op_ok (o := oIx) (a := .lst (N16.map D.str)) (b := .int (row.getD (2 + k) 0)) rfl ((call_ok (ds := [.lst (row.map D.int), .int ((2 + k : Nat) : Int)]) (a2_ok rfl (op_ok (op_ok rfl rfl (oAdd_int _ _)) rfl (by rw [oAdd_int, Int.natCast_add]; rfl)))).trans (noX_of (digit_ok row (by omega) _))) ?_⟩
      show atI (N16.map D.str) _ = _
      rw [(hgc (2 + k)).2]
      rfl
    · congr 1
      rw [List.filter_eq_self.mpr (fun _ _ => rfl)]
      unfold rIntD
      rw [List.map_map, List.map_map]
      refine List.map_congr_left fun k _ => ?_
      show D.str (N16.getD (row.getD (2 + (0 + (k : Int)).toNat) 0).toNat "d") = _
      rw [Int.zero_add, Int.toNat_natCast]
      rfl
  · obtain ⟨k, _, rfl⟩ := List.mem_map.mp ha
    exact n16_act _ (hgc (2 + k)).1
/-! ### the two walks agree -/
theorem agree {t r g : Str} {p : Int} (N : Nm p t r g) (S : List Str) : (S.foldl (stepW t r g) ([], none)).1 = due t r g S S.length := by
  have := fold_due N.tr N.tg N.rg S S.length (Nat.le_refl _)
  rw [List.take_length] at this
  rw [this]
theorem nats_ints (l : List Nat) : nats l = (l.map fun n : Nat => (n : Int)).map D.int := by
  unfold nats
  rw [List.map_map]
  rfl
theorem nums_ok (l : List Nat) (hl : l.length ≤ 1000) : m__law_numbers [.lst (nats l), .lst (nats l)] = .ok (.bl true) := by
  rw [nats_ints]
  exact same_ok _ (by rw [List.length_map]; exact hl)
/-! ### refusals -/
theorem delays_act {p : Int} {a : Str} (ha : a ∉ L_ACTIONS) (hl : a.length ≤ 1000) (S1 S2 : List Str) (h1 : ∀ z ∈ S1, z ∈ L_ACTIONS) : m_delays [.lst ((S1 ++ a :: S2).map D.str), .int p] = .exc ⟨5, ["action"], [.str a]⟩ := by
  obtain ⟨y', e⟩ := acts_exc (p := .val (.int p)) (x3 := .un) (x4 := .un) (T := .val (.lst ((S1 ++ a :: S2).map D.str))) ha hl S2 S1 h1 .un
  refine runL_ex rfl ?_ (ρ := [.val (.lst ((S1 ++ a :: S2).map D.str)), .val (.int p), y', .un, .un])
  show g_delays [.val (.lst ((S1 ++ a :: S2).map D.str)), .val (.int p), .un, .un, .un] = _
  unfold g_delays
  exact seq_ex ((for_ok rfl).trans e)
theorem delays_set {p : Int} (hp : p < 0 ∨ 1 < p) {S : List Str} (hS : ∀ a ∈ S, a ∈ L_ACTIONS) : m_delays [.lst (S.map D.str), .int p] = .exc ⟨6, ["name"], [.str "processor"]⟩ := by
  obtain ⟨y, e⟩ := acts_loop hS (.val (.int p)) .un .un .un
  refine runL_ex rfl ?_ (ρ := [.val (.lst (S.map D.str)), .val (.int p), y, .un, .un])
  show g_delays [.val (.lst (S.map D.str)), .val (.int p), .un, .un, .un] = _
  unfold g_delays
  exact (seq_nx ((for_ok rfl).trans e)).trans (seq_ex (expr_exc ((call_ok (a1_ok rfl)).trans (proc_exc hp))))
theorem refuse_act {S : D} {p : Int} {a : Str} (h : m_delays [S, .int p] = .exc ⟨5, ["action"], [.str a]⟩) : m__law_refusal [S, .int p] = .ok (.tup [.str "action", .bl true, .str a]) := by
  refine noX_of (runD_rt rfl ?_)
  show g__law_refusal [.val S, .val (.int p), .un] = _
  unfold g__law_refusal
  refine seq_rt ?_
  unfold sTries
  rw [expr_exc (callL_exc (a2_ok rfl rfl) h)]
  rfl
theorem refuse_set {S : D} {p : Int} {a : Str} (h : m_delays [S, .int p] = .exc ⟨6, ["name"], [.str a]⟩) : m__law_refusal [S, .int p] = .ok (.tup [.str "setting", .bl true, .str a]) := by
  refine noX_of (runD_rt rfl ?_)
  show g__law_refusal [.val S, .val (.int p), .un] = _
  unfold g__law_refusal
  refine seq_rt ?_
  unfold sTries
  rw [expr_exc (callL_exc (a2_ok rfl rfl) h)]
  rfl
theorem tup3_same {x y : Str} (hx : PyData.strOk x = true) (hy : PyData.strOk y = true) : eqB (.tup [.str x, .bl true, .str y]) (.tup [.str x, .bl true, .str y]) = some true := by
  refine eqB_same (p := .tuple [.str x, .bool true, .str y]) rfl rfl ?_
  unfold PySem.SeqAt.shaped
  simp [PyData.canLay0, PyData.canLayAll0, PyData.depth, PyData.depthAll, hx, hy]
theorem ne_no {f g : Rho → R D} {ρ : Rho} {d : D} (h : f ρ = .ok d) (h2 : g ρ = .ok d) (h3 : eqB d d = some true) : bTest (e2 oNe f g) ρ = .ok false := by
  refine test_ok (op_ok h h2 ?_)
  unfold oNe
  rw [h3]
  rfl
end P70
namespace P70
open PySem L2 Xg Xd CwR
abbrev W8 : List Str := ["g", "", "g2", "G0", "t0 ", "go", "0", "d0"]
theorem w8_ok : ∀ a ∈ W8, a ∉ L_ACTIONS ∧ a.length ≤ 1000 ∧ PyData.strOk a = true := by decide +kernel
theorem fz2 {m : List D → R (List D)} {fs : Rho → R (List D)} {ρ : Rho} {ds l : List D} (h : fs ρ = .ok ds) (h2 : m ds = .ok l) : eFz (lCall (fun ds => noX (m ds)) fs) ρ = .ok (.lst l) := fz_ok ((callL_ok h).trans (noX_of h2))
theorem cl2 {m : List D → R D} {fs : Rho → R (List D)} {ρ : Rho} {ds : List D} {d : D} (h : fs ρ = .ok ds) (h2 : m ds = .ok d) : eCall (fun ds => noX (m ds)) fs ρ = .ok d := (call_ok h).trans (noX_of h2)
def lp1 : MS := (sSeq (sSetL 5 (lCall (fun ds => noX (m_delays ds)) (aCons (eVar 2) (aCons (eVar 4) aNil))))
  (sSeq (sIf (bView (bOr (bNot (bTest (eCall (fun ds => noX (m__law_numbers ds)) (aCons (eVar 5) (aCons (eFz (lCall (fun ds => noX (m__law_due ds)) (aCons (eVar 3) (aCons (eVar 4) aNil)))) aNil))))) (bTest (e2 oNe (eVar 2) (eVar 3)))))
    (sRet (eC (.bl false)))
    sNext)
  (sApp 5 (eC (.int 9)))))
theorem lp1_ok {S : List Str} (hS : ∀ a ∈ S, a ∈ L_ACTIONS) (hl : S.length ≤ 60) {p : Int} (hp : p = 0 ∨ p = 1) (row told : Sl) : ∃ told', lp1 [.un, row, .val (.lst (S.map D.str)), .val (.lst (S.map D.str)), .val (.int p), told, .un, .un, .un] =
    some (.nx [.un, row, .val (.lst (S.map D.str)), .val (.lst (S.map D.str)), .val (.int p), told', .un, .un, .un]) := by
  have key : ∀ {t r g : Str}, Nm p t r g → 0 ≤ p → p ≤ 1 → ∃ l : List Nat, l.length ≤ 60 ∧ m_delays [.lst (S.map D.str), .int p] = .ok (nats l) ∧ m__law_due [.lst (S.map D.str), .int p] = .ok (nats l) := fun {t r g} N h0 h1 =>
    ⟨due t r g S S.length, Nat.le_trans (due_len t r g S _) hl, by rw [delays_ok N h0 h1 hS (by omega), agree N], due_ok N (by omega)⟩
  obtain ⟨l, hll, e1, e2⟩ : ∃ l : List Nat, l.length ≤ 60 ∧ m_delays [.lst (S.map D.str), .int p] = .ok (nats l) ∧ m__law_due [.lst (S.map D.str), .int p] = .ok (nats l) := by
    rcases hp with rfl | rfl
    · exact key nm0 (by decide) (by decide)
    · exact key nm1 (by decide) (by decide)
  have hlen : (nats l).length = l.length := List.length_map ..
  refine ⟨.own (nats l ++ [.int 9]), ?_⟩
  unfold lp1
  refine (seq_nx (setL_ok ((callL_ok (a2_ok rfl rfl)).trans (noX_of e1)))).trans ?_
  refine (seq_nx ((if_no ?_).trans rfl)).trans (app_ok rfl rfl (by omega))
  unfold bView
  refine noX_of ?_
  have ed : eFz (lCall (fun ds => noX (m__law_due ds)) (aCons (eVar 3) (aCons (eVar 4) aNil))) (vw [.un, row, .val (.lst (S.map D.str)), .val (.lst (S.map D.str)), .val (.int p), .own (nats l), .un, .un, .un]) = .ok (.lst (nats l)) := fz_ok ((callL_ok (ds := [.lst (S.map D.str), .int p]) (a2_ok rfl rfl)).trans (noX_of e2))
  have en : bTest (eCall (fun ds => noX (m__law_numbers ds)) (aCons (eVar 5) (aCons (eFz (lCall (fun ds => noX (m__law_due ds)) (aCons (eVar 3) (aCons (eVar 4) aNil)))) aNil))) (vw [.un, row, .val (.lst (S.map D.str)), .val (.lst (S.map D.str)), .val (.int p), .own (nats l), .un, .un, .un]) = .ok true := test_ok ((call_ok (ds := [.lst (nats l), .lst (nats l)]) (a2_ok rfl ed)).trans (noX_of (nums_ok l (by omega))))
  exact or_no (not_ok en) (ne_no rfl rfl (eqB_strs fun a ha => act_strOk a (hS a ha)))
theorem law_ok (row : List Int) (d : Dig row) (hl : row.length ≤ 70) : g_rest (((List.replicate 9 Sl.un : Rho).set 1 (.val (.lst (row.map D.int)))) : Rho) = some (.rt (.bl true)) := by
  show g_rest [.un, .val (.lst (row.map D.int)), .un, .un, .un, .un, .un, .un, .un] = _
  unfold g_rest
  obtain ⟨S, eS, hS, lS⟩ := sched_ok d hl
  have okS : ∀ z ∈ S, PyData.strOk z = true := fun a ha => act_strOk a (hS a ha)
  refine (seq_nx (set_ok (fz_ok ((callL_ok (a2_ok rfl rfl)).trans (noX_of eS))))).trans ?_
  refine (seq_nx (set_ok (d := .lst (S.map D.str)) rfl)).trans ?_
  -- the three questions
  have three : ∃ y told, sFor (Xd.iSeq (eFz (lLst (aCons (eC (.int 0)) (aCons (eC (.int 1)) (aCons (eC (.int 0)) aNil)))))) (gN 4) lp1 [.un, .val (.lst (row.map D.int)), .val (.lst (S.map D.str)), .val (.lst (S.map D.str)), .un, .un, .un, .un, .un]
      = some (.nx [.un, .val (.lst (row.map D.int)), .val (.lst (S.map D.str)), .val (.lst (S.map D.str)), y, told, .un, .un, .un]) := by
    obtain ⟨ρ', e, _, y, told, h⟩ := forR_ind (g := gN 4) (b := lp1) (fun ds ρ => (∀ x ∈ ds, x = .int 0 ∨ x = .int 1) ∧ ∃ y told, ρ = [.un, .val (.lst (row.map D.int)), .val (.lst (S.map D.str)), .val (.lst (S.map D.str)), y, told, .un, .un, .un]) (fun x ds ρ i => by
      obtain ⟨hx, y, told, rfl⟩ := i
      obtain ⟨p, hp, rfl⟩ : ∃ p : Int, (p = 0 ∨ p = 1) ∧ x = .int p := by
        rcases hx x List.mem_cons_self with rfl | rfl
        · exact ⟨0, .inl rfl, rfl⟩
        · exact ⟨1, .inr rfl, rfl⟩
      obtain ⟨told', e⟩ := lp1_ok hS lS hp (.val (.lst (row.map D.int))) told
      exact ⟨_, _, rfl, e, fun z hz => hx z (List.mem_cons_of_mem _ hz), _, _, rfl⟩) [.int 0, .int 1, .int 0] [.un, .val (.lst (row.map D.int)), .val (.lst (S.map D.str)), .val (.lst (S.map D.str)), .un, .un, .un, .un, .un] ⟨by simp, .un, .un, rfl⟩
    subst h
    exact ⟨y, told, (for_ok (seq_val (fz_ok (lst_ok rfl (by decide))))).trans e⟩
  obtain ⟨y, told, e3⟩ := three
  refine (seq_nx e3).trans ?_
  -- the place and the word
  have hp0 := Xg.pick_lo (row := row) (i := ((63 : Nat) : Int)) (m := ((S.length + 1 : Nat) : Int)) (by omega)
  have hp1 := Xg.pick_hi (row := row) (i := ((63 : Nat) : Int)) (m := ((S.length + 1 : Nat) : Int)) (by omega)
  obtain ⟨n, hn⟩ := Int.eq_ofNat_of_zero_le hp0
  have epl : eCall (fun ds => noX (m__law_pick ds)) (aCons (eVar 1) (aCons (eC (.int 63)) (aCons (e2 oAdd (eCB cLen (aCons (eVar 2) aNil)) (eC (.int 1))) aNil))) [.un, .val (.lst (row.map D.int)), .val (.lst (S.map D.str)), .val (.lst (S.map D.str)), y, told, .un, .un, .un] = .ok (.int (n : Nat)) := by
    refine (call_ok (ds := [.lst (row.map D.int), .int ((63 : Nat) : Int), .int ((S.length + 1 : Nat) : Int)]) (a3_ok rfl rfl (op_ok (a := .int (S.length : Nat)) ((cb_ok (a1_ok rfl)).trans ?_) rfl (by rw [oAdd_int, Int.natCast_add]; rfl)))).trans ?_
    · show R.ok (D.int ((S.map D.str).length : Nat)) = _
      rw [List.length_map]
    · refine (noX_of (pick_ok row (by omega) 63 (by omega))).trans ?_
      rw [hn]
  refine (seq_nx (set_ok epl)).trans ?_
  have hnS : n ≤ S.length := by omega
  obtain ⟨w, hw, ew⟩ : ∃ w ∈ W8, e2 oIx (eFz (lLst (aCons (eC (.str "g")) (aCons (eC (.str "")) (aCons (eC (.str "g2")) (aCons (eC (.str "G0")) (aCons (eC (.str "t0 ")) (aCons (eC (.str "go")) (aCons (eC (.str "0")) (aCons (eC (.str "d0")) aNil)))))))))) (e2 oMod (eCB cInt (aCons (eCall (fun ds => noX (m__law_digit ds)) (aCons (eVar 1) (aCons (eC (.int 65)) aNil))) aNil)) (eC (.int 8)))
      [.un, .val (.lst (row.map D.int)), .val (.lst (S.map D.str)), .val (.lst (S.map D.str)), y, told, .val (.int (n : Nat)), .un, .un] = .ok (.str w) := by
    have hm0 : 0 ≤ row.getD 65 0 % 8 := Int.emod_nonneg _ (by decide)
    have hm1 : row.getD 65 0 % 8 < 8 := Int.emod_lt_of_pos _ (by decide)
    obtain ⟨m, hm⟩ := Int.eq_ofNat_of_zero_le hm0
    have hm2 : m < W8.length := by
      have : W8.length = 8 := rfl
      omega
    refine ⟨W8[m], List.getElem_mem hm2, op_ok (o := oIx) (a := .lst (W8.map D.str)) (b := .int (m : Nat)) rfl (op_ok ((cb_ok (a1_ok ((call_ok (ds := [.lst (row.map D.int), .int ((65 : Nat) : Int)]) (a2_ok rfl rfl)).trans (noX_of (digit_ok row (by omega) 65))))).trans rfl) rfl ((oMod_int (by decide)).trans (by rw [hm]))) ?_⟩
    show atI (W8.map D.str) ((m : Nat) : Int) = _
    rw [at_ok (by rw [List.length_map]; exact hm2), List.getElem_map]
  obtain ⟨w1, w2, w3⟩ := w8_ok w hw
  refine (seq_nx (set_ok ew)).trans ?_
  -- the schedule with the word
  have eT : eSl oSl (eVar 2) pNo (pSome (eVar 6)) [.un, .val (.lst (row.map D.int)), .val (.lst (S.map D.str)), .val (.lst (S.map D.str)), y, told, .val (.int (n : Nat)), .val (.str w), .un] = .ok (.lst ((S.take n).map D.str)) := by
    show ro (some (D.lst (cutD (S.map D.str) none (some (n : Nat))))) = _
    have := cut_ok (xs := S.map D.str) (i := 0) (j := n) (Nat.zero_le _) (by rw [List.length_map]; omega)
    have e0 : cutD (S.map D.str) none (some (n : Nat)) = cutD (S.map D.str) (some (0 : Nat)) (some (n : Nat)) := by
      unfold cutD
      rw [HT.sIx_nat _ _ 0, Nat.zero_min]
      rfl
    rw [e0, this, List.drop_zero, Nat.sub_zero, ← List.map_take]
    rfl
  have eD : eSl oSl (eVar 2) (pSome (eVar 6)) pNo [.un, .val (.lst (row.map D.int)), .val (.lst (S.map D.str)), .val (.lst (S.map D.str)), y, told, .val (.int (n : Nat)), .val (.str w), .un] = .ok (.lst ((S.drop n).map D.str)) := by
    show ro (some (D.lst (cutD (S.map D.str) (some (n : Nat)) none))) = _
    have := cut_ok (xs := S.map D.str) (i := n) (j := (S.map D.str).length) (by rw [List.length_map]; omega) (Nat.le_refl _)
    have e0 : cutD (S.map D.str) (some (n : Nat)) none = cutD (S.map D.str) (some (n : Nat)) (some ((S.map D.str).length : Nat)) := by
      unfold cutD
      rw [HT.sIx_nat _ _ ((S.map D.str).length), Nat.min_self]
      rfl
    rw [e0, this, List.take_of_length_le (by rw [List.length_drop]; exact Nat.le_refl _), ← List.map_drop]
    rfl
  have addL : ∀ {a b : List Str}, a.length + b.length ≤ 100000 → oAddL (.lst (a.map D.str)) (.lst (b.map D.str)) = some ((a ++ b).map D.str) := fun {a b} h => by
    show (if (a.map D.str).length + (b.map D.str).length ≤ 100000 then some (a.map D.str ++ b.map D.str) else none) = _
    rw [List.length_map, List.length_map, if_pos h, List.map_append]
  have op2L : ∀ {f g : Rho → R D} {ρ : Rho} {a b : List Str}, f ρ = .ok (.lst (a.map D.str)) → g ρ = .ok (.lst (b.map D.str)) → a.length + b.length ≤ 100000 → eFz (e2L oAddL f g) ρ = .ok (.lst ((a ++ b).map D.str)) := fun {f g ρ a b} h1 h2 h3 => by
    refine fz_ok ?_
    unfold e2L
    rw [h1, h2]
    show ro (oAddL _ _) = _
    rw [addL h3]
    rfl
  have lt1 : (S.take n).length ≤ 60 := Nat.le_trans (List.length_take_le' ..) lS
  have lt2 : (S.drop n).length ≤ 60 := by rw [List.length_drop]; omega
  refine (seq_nx (set_ok (op2L (op2L eT (fz_ok (xs := [w].map D.str) (lst_ok rfl (Nat.le_of_ble_eq_true rfl))) (b := [w]) (by simp; omega)) eD (by simp; omega)))).trans ?_
  have eB : S.take n ++ [w] ++ S.drop n = S.take n ++ w :: S.drop n := by simp
  rw [eB]
  have h1 : ∀ z ∈ S.take n, z ∈ L_ACTIONS := fun z hz => hS z (List.mem_of_mem_take hz)
  -- refused for the word
  have four : ∀ x ∈ ([.int 0, .int 1, .int 2, .int (-1)] : List D), (sIf (bOr (bTest (e2 oNe (eCall (fun ds => noX (m__law_refusal ds)) (aCons (eVar 8) (aCons (eVar 4) aNil))) (eTup (aCons (eC (.str "action")) (aCons (eC (.bl true)) (aCons (eVar 7) aNil)))))) (bTest (e2 oNe (eCall (fun ds => noX (m__law_refusal ds)) (aCons (eFz (e2L oAddL (eVar 8) (eFz (lLst (aCons (eC (.str "x")) aNil))))) (aCons (eVar 4) aNil))) (eTup (aCons (eC (.str "action")) (aCons (eC (.bl true)) (aCons (eVar 7) aNil)))))))
    (sRet (eC (.bl false))) sNext) (([.un, .val (.lst (row.map D.int)), .val (.lst (S.map D.str)), .val (.lst (S.map D.str)), y, told, .val (.int (n : Nat)), .val (.str w), .val (.lst ((S.take n ++ w :: S.drop n).map D.str))] : Rho).set 4 (.val x)) =
      some (.nx (([.un, .val (.lst (row.map D.int)), .val (.lst (S.map D.str)), .val (.lst (S.map D.str)), y, told, .val (.int (n : Nat)), .val (.str w), .val (.lst ((S.take n ++ w :: S.drop n).map D.str))] : Rho).set 4 (.val x))) := fun x hx => by
    obtain ⟨p, rfl⟩ : ∃ p : Int, x = .int p := by
      simp at hx
      rcases hx with rfl | rfl | rfl | rfl <;> exact ⟨_, rfl⟩
    refine (if_no (or_no ?_ ?_)).trans rfl
    · exact ne_no ((call_ok (a2_ok rfl rfl)).trans (noX_of (refuse_act (delays_act w1 w2 _ _ h1)))) (tup_ok (a3_ok rfl rfl rfl) (Nat.le_of_ble_eq_true rfl)) (tup3_same (by decide +kernel) w3)
    · refine ne_no ((call_ok (a2_ok (op2L (b := ["x"]) rfl (fz_ok (lst_ok rfl (by decide))) (by simp; omega)) rfl)).trans (noX_of (refuse_act ?_))) (tup_ok (a3_ok rfl rfl rfl) (Nat.le_of_ble_eq_true rfl)) (tup3_same (by decide +kernel) w3)
      rw [show S.take n ++ w :: S.drop n ++ [("x" : Str)] = S.take n ++ w :: (S.drop n ++ [("x" : Str)]) by simp]
      exact delays_act w1 w2 _ _ h1
  obtain ⟨y4, e4⟩ := forR_each (j := 4) _ four y
  refine (seq_nx ((for_ok (seq_val (fz_ok (lst_ok rfl (by decide))))).trans e4)).trans ?_
  -- refused for the processor
  have setp : ∀ x ∈ ([.int 2, .int (-1), .int 64] : List D), (sIf (bTest (e2 oNe (eCall (fun ds => noX (m__law_refusal ds)) (aCons (eVar 2) (aCons (eVar 4) aNil))) (eTup (aCons (eC (.str "setting")) (aCons (eC (.bl true)) (aCons (eC (.str "processor")) aNil))))))
    (sRet (eC (.bl false))) sNext) (([.un, .val (.lst (row.map D.int)), .val (.lst (S.map D.str)), .val (.lst (S.map D.str)), y, told, .val (.int (n : Nat)), .val (.str w), .val (.lst ((S.take n ++ w :: S.drop n).map D.str))] : Rho).set 4 (.val x)) =
      some (.nx (([.un, .val (.lst (row.map D.int)), .val (.lst (S.map D.str)), .val (.lst (S.map D.str)), y, told, .val (.int (n : Nat)), .val (.str w), .val (.lst ((S.take n ++ w :: S.drop n).map D.str))] : Rho).set 4 (.val x))) := fun x hx => by
    obtain ⟨p, hp, rfl⟩ : ∃ p : Int, (p < 0 ∨ 1 < p) ∧ x = .int p := by
      simp at hx
      rcases hx with rfl | rfl | rfl <;> exact ⟨_, by decide, rfl⟩
    refine (if_no ?_).trans rfl
    exact ne_no ((call_ok (a2_ok rfl rfl)).trans (noX_of (refuse_set (delays_set hp hS)))) (tup_ok (a3_ok rfl rfl rfl) (by decide)) (tup3_same (by decide +kernel) (by decide +kernel))
  obtain ⟨y5, e5⟩ := forR_each (j := 4) _ setp y4
  refine (seq_nx ((for_ok (seq_val (fz_ok (lst_ok rfl (by decide))))).trans e5)).trans ?_
  have hll := due_len "t1" "r1" "g1" S S.length
  have f1 : m_delays [.lst (S.map D.str), .int 1] = .ok (nats (due "t1" "r1" "g1" S S.length)) := by rw [delays_ok nm1 (by decide) (by decide) hS (by omega), agree nm1]
  have f2 := due_ok nm1 (S := S) (by omega)
  have f3 := nums_ok (due "t1" "r1" "g1" S S.length) (by omega)
  generalize due "t1" "r1" "g1" S S.length = l at f1 f2 f3
  refine ret_ok (and_ok (cl2 (a2_ok (fz2 (a2_ok rfl rfl) f1) (fz2 (a2_ok rfl rfl) f2)) f3) (op_ok rfl rfl ?_))
  unfold oEq
  rw [eqB_strs okS]
  rfl
end P70
namespace P70
open PySem L2 Xg Xd
def faL : List He.Fa := [.glo "check_action", .keep "check_action", .glo "check_range", .keep "check_range", .glo "check_processor", .keep "check_processor", .glo "delays", .keep "delays", .glo "_law_row", .keep "_law_row", .glo "_law_digit", .keep "_law_digit", .glo "_law_pick", .keep "_law_pick", .glo "_law_whole", .keep "_law_whole", .glo "_law_numbers", .keep "_law_numbers", .glo "_law_schedule", .keep "_law_schedule", .glo "_law_behind", .keep "_law_behind", .glo "_law_due", .keep "_law_due", .glo "_law_refusal", .keep "_law_refusal", .free "ValueError", .free "abs", .free "bool", .free "int", .free "isinstance", .free "len", .free "list", .free "range", .free "str", .glo "GuestlivesError", .glo "ACTIONS", .int "PROCESSORS" 2, .glo "law", .keep "law"]
def fnL : List He.FnD := [Xg.fnD "check_action" S_check_action, Xg.fnD "check_range" S_check_range, Xg.fnD "check_processor" S_check_processor, Xg.fnD "delays" S_delays, Xg.fnD "_law_row" S__law_row, Xg.fnD "_law_digit" S__law_digit, Xg.fnD "_law_pick" S__law_pick, Xg.fnD "_law_whole" S__law_whole, Xg.fnD "_law_numbers" S__law_numbers, Xg.fnD "_law_schedule" S__law_schedule, Xg.fnD "_law_behind" S__law_behind, Xg.fnD "_law_due" S__law_due, Xg.fnD "_law_refusal" S__law_refusal, Xg.fnD "law" S_law]
def meL : List He.FnD := []
def AK (K : PySem.W.Frag) (ActionError_C ActionError_I SettingError_C SettingError_I : Addr) (tM_PROCESSORS : Tok) : Ad := { tM_PROCESSORS := tM_PROCESSORS, i_ActionError := ActionError_I, i_SettingError := SettingError_I, ActionError := ActionError_C, SettingError := SettingError_C, GuestlivesError := He.ga K "GuestlivesError", ACTIONS := He.ga K "ACTIONS", check_action := He.ga K "check_action", check_range := He.ga K "check_range", check_processor := He.ga K "check_processor", delays := He.ga K "delays", _law_row := He.ga K "_law_row", _law_digit := He.ga K "_law_digit", _law_pick := He.ga K "_law_pick", _law_whole := He.ga K "_law_whole", _law_numbers := He.ga K "_law_numbers", _law_schedule := He.ga K "_law_schedule", _law_behind := He.ga K "_law_behind", _law_due := He.ga K "_law_due", _law_refusal := He.ga K "_law_refusal" }
theorem fin {l : PySem.W.OpenLaw} {w : World} {K : PySem.W.Frag} {h : Heap} {mg : Str → Option Value} {fa ActionError_C ActionError_I SettingError_C SettingError_I  : Addr} (X : K.In h) (G : h.Ns mainGlobals mg) (hfa : mg "law" = some (.ref fa)) (c : He.obsE faL fnL K = He.valE fnL) (cm : He.obsE [] meL K = He.valE meL)
    (x_ActionError : XgSup.STxt l.prog K mg "ActionError" "action" "this is no action: " ActionError_C ActionError_I)
    (xc_ActionError : ExcC K ActionError_C)
    (x_SettingError : XgSup.STxt l.prog K mg "SettingError" "name" "the setting is out of range: " SettingError_C SettingError_I)
    (xc_SettingError : ExcC K SettingError_C)
    (z_ACTIONS : strsB K (He.ga K "ACTIONS") L_ACTIONS = true)
    (u_ACTIONS : tupB K (He.ga K "ACTIONS") = true)
    (kt : kitB K = true)
    (e_ActionError_ActionError : PySem.W.exmOne K (.ref ActionError_C) (.ref ActionError_C) = some true)
    (e_ActionError_SettingError : PySem.W.exmOne K (.ref SettingError_C) (.ref ActionError_C) = some false)
    (e_SettingError_ActionError : PySem.W.exmOne K (.ref ActionError_C) (.ref SettingError_C) = some false)
    (e_SettingError_SettingError : PySem.W.exmOne K (.ref SettingError_C) (.ref SettingError_C) = some true)
    (t_GuestlivesError_ActionError : PySem.W.kitOne K (.ref ActionError_C) (.ref (He.ga K "GuestlivesError")) = some true)
    (t_GuestlivesError_SettingError : PySem.W.kitOne K (.ref SettingError_C) (.ref (He.ga K "GuestlivesError")) = some true)
    (t_ValueError_ActionError : PySem.W.kitOne K (.ref ActionError_C) (.type "ValueError") = some true)
    (t_ValueError_SettingError : PySem.W.kitOne K (.ref SettingError_C) (.type "ValueError") = some true) :
    ∃ fd : FuncData, (∀ (s : Shared) (u : Value), BindsTo s fd ⟨[u], []⟩ [("_law_script", u)]) ∧ ∀ base : Heap, K.In base → base.Ns mainGlobals mg → FnOk l.prog w K mg base CX0 5 fa fd ["_law_script"] (spLaw K) := by
  have c' : He.SaysE faL fnL K := c
  have cm' : He.SaysE [] meL K := cm
  have e := hfa.symm.trans (He.glo_ok X G (c'.fact 38))
  cases e
  obtain ⟨tM_PROCESSORS, hM_PROCESSORS⟩ := He.int_ok X G (c'.fact 37)
  have T : Tp l.prog w K mg (AK K ActionError_C ActionError_I SettingError_C SettingError_I tM_PROCESSORS ) := {
    n_ValueError := He.free_ok X G (c'.fact 26)
    n_abs := He.free_ok X G (c'.fact 27)
    n_bool := He.free_ok X G (c'.fact 28)
    n_int := He.free_ok X G (c'.fact 29)
    n_isinstance := He.free_ok X G (c'.fact 30)
    n_len := He.free_ok X G (c'.fact 31)
    n_list := He.free_ok X G (c'.fact 32)
    n_range := He.free_ok X G (c'.fact 33)
    n_str := He.free_ok X G (c'.fact 34)
    g_GuestlivesError := He.glo_ok X G (c'.fact 35)
    g_ACTIONS := He.glo_ok X G (c'.fact 36)
    g_PROCESSORS := hM_PROCESSORS
    g_ActionError := x_ActionError.gC
    x_ActionError := x_ActionError
    xf_ActionError := ⟨x_ActionError.ga, x_ActionError.gg, x_ActionError.exC, x_ActionError.hdC⟩
    no_ActionError_action := x_ActionError.noN
    g_SettingError := x_SettingError.gC
    x_SettingError := x_SettingError
    xf_SettingError := ⟨x_SettingError.ga, x_SettingError.gg, x_SettingError.exC, x_SettingError.hdC⟩
    no_SettingError_name := x_SettingError.noN
    e_ActionError := fun n b h => by
      unfold e_ActionError at h
      split at h
      · rename_i q
        subst q
        cases h
        exact e_ActionError_ActionError
      split at h
      · rename_i q
        subst q
        cases h
        exact e_ActionError_SettingError
      cases h
    e_SettingError := fun n b h => by
      unfold e_SettingError at h
      split at h
      · rename_i q
        subst q
        cases h
        exact e_SettingError_ActionError
      split at h
      · rename_i q
        subst q
        cases h
        exact e_SettingError_SettingError
      cases h
    k_GuestlivesError := fun n b h => by
      unfold t_GuestlivesError at h
      split at h
      · rename_i q
        subst q
        cases h
        exact ⟨t_GuestlivesError_ActionError, xc_ActionError⟩
      split at h
      · rename_i q
        subst q
        cases h
        exact ⟨t_GuestlivesError_SettingError, xc_SettingError⟩
      cases h
    k_ValueError := fun n b h => by
      unfold t_ValueError at h
      split at h
      · rename_i q
        subst q
        cases h
        exact ⟨t_ValueError_ActionError, xc_ActionError⟩
      split at h
      · rename_i q
        subst q
        cases h
        exact ⟨t_ValueError_SettingError, xc_SettingError⟩
      cases h
    kit := kitB_ok kt
    s_ACTIONS := z_ACTIONS
    k_ACTIONS := tupB_ok u_ACTIONS
    d_check_action := df_mk X G c' 0 rfl rfl rfl (fun _ _ _ _ _ _ us hl => match us, hl with | [_], _ => rfl)
    d_check_range := df_mk X G c' 1 rfl rfl rfl (fun _ _ _ _ _ _ us hl => match us, hl with | [_, _, _, _], _ => rfl)
    d_check_processor := df_mk X G c' 2 rfl rfl rfl (fun _ _ _ _ _ _ us hl => match us, hl with | [_], _ => rfl)
    d_delays := df_mk X G c' 3 rfl rfl rfl (fun _ _ _ _ _ _ us hl => match us, hl with | [_, _], _ => rfl)
    d__law_row := df_mk X G c' 4 rfl rfl rfl (fun _ _ _ _ _ _ us hl => match us, hl with | [_, _], _ => rfl)
    d__law_digit := df_mk X G c' 5 rfl rfl rfl (fun _ _ _ _ _ _ us hl => match us, hl with | [_, _], _ => rfl)
    d__law_pick := df_mk X G c' 6 rfl rfl rfl (fun _ _ _ _ _ _ us hl => match us, hl with | [_, _, _], _ => rfl)
    d__law_whole := df_mk X G c' 7 rfl rfl rfl (fun _ _ _ _ _ _ us hl => match us, hl with | [_], _ => rfl)
    d__law_numbers := df_mk X G c' 8 rfl rfl rfl (fun _ _ _ _ _ _ us hl => match us, hl with | [_, _], _ => rfl)
    d__law_schedule := df_mk X G c' 9 rfl rfl rfl (fun _ _ _ _ _ _ us hl => match us, hl with | [_, _], _ => rfl)
    d__law_behind := df_mk X G c' 10 rfl rfl rfl (fun _ _ _ _ _ _ us hl => match us, hl with | [_, _, _], _ => rfl)
    d__law_due := df_mk X G c' 11 rfl rfl rfl (fun _ _ _ _ _ _ us hl => match us, hl with | [_, _], _ => rfl)
    d__law_refusal := df_mk X G c' 12 rfl rfl rfl (fun _ _ _ _ _ _ us hl => match us, hl with | [_, _], _ => rfl)
  }
  obtain ⟨oc, od, osl, kV, doc, pm, an, cdv, ct, ll, cd⟩ := c'.def_ 13 (d := Xg.fnD "law" S_law) rfl
  have k := He.keep_ok (c'.fact 39)
  have F : Fun K "law" "law" S_law (He.ga K "law") _ := fun_mk ll cd k
  exact ⟨_, fun s v => .of_eq rfl, fun base _ _ => ok_law F T law_ok⟩
end P70
open PySem PySem.W PyProof.Rows L2
set_option maxRecDepth 100000 in
set_option maxHeartbeats 0 in
theorem PySem.Challenge.cw_guestlives_k70_delays_in_schedules_holds : PySem.Challenge.rw_guestlives_k70_delays_in_schedules.Holds := by
  w_on; o_law; k_head; (case hw => w_witness2)
  k_fill
  refine L2.walk_ofK (n := 63) (k := 5) (CX := CX0) (sp := Xd.spLaw) (x := "_law_script") rfl (by decide) rfl ⟨rfl, by decide, by decide⟩ (fun w h Y => PySem.W.kIn_of Y) ?F (fun K _ a ns hl _ hS => ⟨a, ns, rfl, hS, hl, fun _ => rfl⟩) fun _ _ _ _ z => z
  case F =>
    intro w mg fa h KX G hmg
    refine' P70.fin (l := PySem.Challenge.rw_guestlives_k70_delays_in_schedules) KX G hmg ?c ?cm (Xg.stxt_mk KX G XgSup.fok_action ?ActionError_gC ?ActionError_iC ?ActionError_cl1 ?ActionError_cl2 ?ActionError_sa ?ActionError_ga ?ActionError_gg ?ActionError_noN ?ActionError_tC ?ActionError_kC ?ActionError_exC ?ActionError_veC ?ActionError_tyC ?ActionError_hdC ?ActionError_sup ?ActionError_slf ?ActionError_nop ?ActionError_gS ?ActionError_tops ?ActionError_g1 ?ActionError_g2 ?ActionError_g3 ?ActionError_g4 ?ActionError_g5 ?ActionError_g6 ?ActionError_g7) (Xg.excC_mk ?ActionError_h1 ?ActionError_h2 ?ActionError_h3 ?ActionError_h4 ?ActionError_h5 ?ActionError_h6 ?ActionError_h7 ?ActionError_h8) (Xg.stxt_mk KX G XgSup.fok_name ?SettingError_gC ?SettingError_iC ?SettingError_cl1 ?SettingError_cl2 ?SettingError_sa ?SettingError_ga ?SettingError_gg ?SettingError_noN ?SettingError_tC ?SettingError_kC ?SettingError_exC ?SettingError_veC ?SettingError_tyC ?SettingError_hdC ?SettingError_sup ?SettingError_slf ?SettingError_nop ?SettingError_gS ?SettingError_tops ?SettingError_g1 ?SettingError_g2 ?SettingError_g3 ?SettingError_g4 ?SettingError_g5 ?SettingError_g6 ?SettingError_g7) (Xg.excC_mk ?SettingError_h1 ?SettingError_h2 ?SettingError_h3 ?SettingError_h4 ?SettingError_h5 ?SettingError_h6 ?SettingError_h7 ?SettingError_h8) ?z_ACTIONS ?u_ACTIONS ?kt ?e_ActionError_ActionError ?e_ActionError_SettingError ?e_SettingError_ActionError ?e_SettingError_SettingError ?t_GuestlivesError_ActionError ?t_GuestlivesError_SettingError ?t_ValueError_ActionError ?t_ValueError_SettingError
    (case ActionError_gC => with_unfolding_all rfl)
    (case ActionError_iC => with_unfolding_all rfl)
    (case ActionError_cl1 => with_unfolding_all rfl)
    (case ActionError_g1 => with_unfolding_all rfl)
    (case ActionError_g3 => with_unfolding_all rfl)
    (case ActionError_g4 => with_unfolding_all rfl)
    (case ActionError_g6 => with_unfolding_all rfl)
    (case SettingError_gC => with_unfolding_all rfl)
    (case SettingError_iC => with_unfolding_all rfl)
    (case SettingError_cl1 => with_unfolding_all rfl)
    (case SettingError_g1 => with_unfolding_all rfl)
    (case SettingError_g3 => with_unfolding_all rfl)
    (case SettingError_g4 => with_unfolding_all rfl)
    (case SettingError_g6 => with_unfolding_all rfl)
    (case ActionError_g7 => exact fun _ => ⟨_, rfl⟩)
    (case SettingError_g7 => exact fun _ => ⟨_, rfl⟩)
    all_goals kernel_rfl
