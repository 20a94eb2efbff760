import PyProof.Rows.All
import Wide.All
import OpenK.AllK
import Wide.FinOn
import KE.KExcSuper
import HandS.ForMost
import HandS.ForExc
import HandS.ExcSuper
import HandS.ExcInit
import HandS.FStr
import HandS.ExcIs
import HandS.ExcField
import HandS.Evl
import HandS.Walk
import HandS.Zip
import HandS.IsInst
import KE.GoesEnum
import HandS.Strs
import HandS.SetFor
import HandS.More
import HandS.HeadHook1
import HandS.OwnIter
import HandS.IterVal
import HandS.Words
import HandS.ClsMeth
import HandS.ExcOwn
import HandS.AnyAll
import HandS.Style
import HandS.Defaults
import HandS.TupAny
import HandS.TupMul
import HandS.TupLe
import HandS.ReplaceLit
import HandS.SetKeys
import HandS.Small
import HandS.MakeKw
import HandS.MakeKwOnly
import PySem.Challenge.RW_guestlives_k44_shortest_moves_of_explici
set_option Elab.async false
set_option linter.all false
set_option maxRecDepth 100000
set_option maxHeartbeats 4000000
namespace XgSup
open PySem PySem.W PySem.Calls PyProof.Rows
/-! An own error class whose maker first asks its parent for a text that shows one field, then keeps the field. -/
abbrev wrapO (x : Addr) : Obj := kxs_mw "ValueError.__init__" x
section
variable {prog : Program} {w : World} {A : Around} {E : Value → Shared → Prop} {h : Heap} {g : Array GenState} {d : Drawn} {t : Nat} {os : OsState}
variable {nm q : Str} {C N : Addr} {bs bm : List Value} {hdct : Bool} {sn : List Str} {sub : List Value} {ab : Bool} {col : Option Bool} {dd : Option Addr} {k0 k1 k2 k3 k5 : Option Value}
theorem parent_call {u e t0 : Addr} {rest : List Value} {Q : Value → Shared → Prop}
    (hC : h.get? C = some (excClassObj nm q C N bs bm hdct sn sub ab col dd k0 k1 k2 k3 k5 "ValueError.__new__"))
    (he : h.get? e = some (HandSPX.excO C t0)) (hu : h.get? u = some (wrapO e)) (hrest : rest.length ≤ sizeLine)
    (hq : ∀ h' t1, (∀ b o, b ≠ e → h.get? b = some o → h'.get? b = some o) → h'.get? e = some (HandSPX.excO C t1) → Q .none ⟨h', g, d, t, os⟩) :
    wpAny (model prog w) A (call (.ref u) rest) Q E ⟨h, g, d, t, os⟩ := by
  have FB := F.excBase_ValueError
  refine wpAny_call (codeAny_of_tree ?_)
  show wpAny _ A.in1 (callAny (.ref u) ⟨rest, []⟩) _ _ _
  simp only [callAny]
  refine wpAny_bind (wpAny_load hu ?_)
  have hmw : (Value.type "method-wrapper" == Value.type "method" || Value.type "method-wrapper" == Value.type "builtin_function_or_method" || Value.type "method-wrapper" == Value.type "method-wrapper") = true := by decide
  simp only [wrapO, kxs_mw, hmw, if_true]
  refine KFB.if_so (by decide) ?_
  refine wpAny_bind (check_bound_init FB.toExcCallFacts hC he rfl ?_)
  refine wpAny_bind (wpAny_pure (wpAny_pure ?_))
  refine ⟨plainId_quiet FB.init.plain _, codeAny_builtin FB.initEntry ?_⟩
  rw [Around.under_plainId FB.init.plain _]
  wp_walk
  refine hq _ h.objs.size (fun b o hb ho => ?_) ?_
  · rw [Heap.get?_update_other _ _ (Ne.symm hb)]
    exact Heap.get?_push_of_some _ ho
  · rw [Heap.get?_update_self _ (Heap.get?_push_of_some _ he) rfl]
    rfl
end
/-! the maker's text -/
def mA (f : Str) (p1 p2 : Pos) : Arguments := { posonlyargs := [], args := [{ arg := "self", annotation := none, pos := p1 }, { arg := f, annotation := none, pos := p2 }], vararg := none, kwonlyargs := [], kw_defaults := [], kwarg := none, defaults := [] }
def mB (f txt : Str) (a1 a2 a3 a4 a5 b1 b2 b3 b4 c1 c2 c3 c4 : Pos) : List Stmt :=
  [.Expr (.Call (.Attribute (.Call (.Name "super" a1) [] [] a2) "__init__" a3) [.JoinedStr [.Constant (.str txt) 0 b1, .FormattedValue (.Name f b2) (-1) none b3] b4] [] a4) a5,
   .Assign [.Attribute (.Name "self" c1) f c2] (.Name f c3) c4]
def mS (f : Str) : Scope := { kind := .function, names := [(PySem.Str.ofString "self", .local), (f, .local), (PySem.Str.ofString "__class__", .free), (PySem.Str.ofString "super", .globalImplicit)], isGenerator := false, isCoroutine := false, more := [] }
/-- what is asked of the field's name -/
structure FOk (f : Str) : Prop where
  db : (f == ("__debug__" : Str)) = false
  lk : (mS f).names.lookup f = some .local
  ls : (mS f).names.lookup ("self" : Str) = some .local
  lc : (mS f).names.lookup ("__class__" : Str) = some .free
  lp : (mS f).names.lookup ("super" : Str) = some .globalImplicit
  ne : (f == ("self" : Str)) = false
  sn : ("self" == f) = false
  cell : ∀ x ∈ (mS f).names, x.2 ≠ .cell
  bd : ∀ (qual : Str) (p1 p2 : Pos) (body : List Stmt) (doc pm cdv ct : Value) (an : Option Addr) (cc : Addr) (u v : Value), bindArgs (ksFn "__init__" qual (mA f p1 p2) body (mS f) .none .none doc pm an cdv ct cc) ⟨[u, v], []⟩ = pure [(("self" : Str), u), (f, v)]
theorem fok_name : FOk "name" := ⟨by decide, rfl, rfl, rfl, rfl, by decide, by decide, by decide, fun _ _ _ _ _ _ _ _ _ _ _ _ => rfl⟩
theorem fok_field : FOk "field" := ⟨by decide, rfl, rfl, rfl, rfl, by decide, by decide, by decide, fun _ _ _ _ _ _ _ _ _ _ _ _ => rfl⟩
theorem fok_action : FOk "action" := ⟨by decide, rfl, rfl, rfl, rfl, by decide, by decide, by decide, fun _ _ _ _ _ _ _ _ _ _ _ _ => rfl⟩
theorem fok_reason : FOk "reason" := ⟨by decide, rfl, rfl, rfl, rfl, by decide, by decide, by decide, fun _ _ _ _ _ _ _ _ _ _ _ _ => rfl⟩
/-- the parent's call, as the text says it -/
def askE (f txt : Str) (a1 a2 a3 a4 b1 b2 b3 b4 : Pos) : Expr := .Call (.Attribute (.Call (.Name "super" a1) [] [] a2) "__init__" a3) [.JoinedStr [.Constant (.str txt) 0 b1, .FormattedValue (.Name f b2) (-1) none b3] b4] [] a4
def AskOk (qual f txt : Str) (a1 a2 a3 a4 b1 b2 b3 b4 : Pos) (fI cda cc : Addr) : Prop := ∀ L : Addr, ∃ pl : Sem Bool, eval (askE f txt a1 a2 a3 a4 b1 b2 b3 b4) (ksEnv qual (mS f) L fI (.ref cda) cc) = (do
  let ov ← attributeBase (.Call (.Name "super" a1) [] [] a2) "__init__" (ksEnv qual (mS f) L fI (.ref cda) cc) (eval (.Call (.Name "super" a1) [] [] a2) (ksEnv qual (mS f) L fI (.ref cda) cc))
  standAt a3.atName
  let (g, first) ← holding [ov] (getMethod ov "__init__" pl)
  callWith a4 g first (backTo a4 (starEach [.JoinedStr [.Constant (.str txt) 0 b1, .FormattedValue (.Name f b2) (-1) none b3] b4] (ksEnv qual (mS f) L fI (.ref cda) cc))) [])
/-- what the written part says of the class at C and of its maker at fI -/
structure STxt (prog : Program) (K : Frag) (mg : Str → Option Value) (x f txt : Str) (C fI : Addr) : Prop where
  fok : FOk f
  gC : mg x = some (.ref C)
  cls : ∃ nm q N bs bm sn sub ab col dd k0 k1 k2 k3 k5, K.lookup C = some (excClassObj nm q C N bs bm true sn sub ab col dd k0 k1 k2 k3 k5 "ValueError.__new__") ∧ HandSPX.refsVE bm = true
  sa : findIn K (.ref C) "__setattr__" = some (some (.builtin "object.__setattr__"))
  ga : findIn K (.ref C) "__getattribute__" = some (some (.builtin "BaseException.__getattribute__"))
  gg : findIn K (.ref C) "__getattr__" = some none
  noN : findIn K (.ref C) f = some none
  iC : findIn K (.ref C) "__init__" = some (some (.ref fI))
  tC : typeIn K (.ref fI) = some (.type "function")
  kC : keepIn K (.ref C) = true
  exC : subIn K (.ref C) (.type "BaseException") = some true
  veC : subIn K (.ref C) (.type "ValueError") = some true
  tyC : typeIn K (.ref C) = some (.type "type")
  hdC : hasDictIn K C = true
  sup : ks_superIn K C C "__init__" = some (some (.builtin "ValueError.__init__"))
  slf : mroIn K C (.ref C) = some true
  nop : nsIn K cStatics "thirdparty.any" = some none
  gS : mg "super" = none
  tops : (prog.main.scope.names.lookup ("super" : Str)).isSome = false
  fn : ∃ (qual : Str) (oc : Value) (od : Option Addr) (doc pm : Value) (an : Option Addr) (cda cc : Addr) (ct : Value) (osl : Array (Option Value)) (p1 p2 a1 a2 a3 a4 a5 b1 b2 b3 b4 c1 c2 c3 c4 : Pos)
      (ccl : Value) (cdd : Option Addr) (vs : Array Value) (ccs : Array (Option Value)) (file : Str) (tf : Tok) (cl : Value) (cld : Option Addr) (csl : Array (Option Value)),
    K.lookup fI = some ⟨oc, od, .func (ksFn "__init__" qual (mA f p1 p2) (mB f txt a1 a2 a3 a4 a5 b1 b2 b3 b4 c1 c2 c3 c4) (mS f) .none .none doc pm an (.ref cda) ct cc), osl⟩ ∧ codeIn K (.ref cda) qual = true ∧
    K.lookup cda = some ⟨ccl, cdd, .fields vs, ccs⟩ ∧ vs[2]? = some (.str file tf) ∧ ((prog.main.file : Str) == file) = true ∧
    K.lookup cc = some ⟨cl, cld, .cell (some (.ref C)), csl⟩ ∧ AskOk qual f txt a1 a2 a3 a4 b1 b2 b3 b4 fI cda cc
/-- what the maker leaves of a fresh error at x -/
structure MEnd (h h' : Heap) (x C dx : Addr) (f : Str) (v : Value) : Prop where
  keep : ∀ b o, b ≠ x → h.get? b = some o → h'.get? b = some o
  obj : ∃ t1 : Addr, h'.get? x = some { cls := .ref C, dict := some dx, data := .fields #[.ref t1, .none, .none, .none, .bool false, .none] }
  dbig : h.objs.size ≤ dx
  dne : dx ≠ x
  ns : h'.Ns1 dx (fun y => if y = f then some v else none)
section
variable {prog : Program} {w : World} {A : Around} {E : Value → Shared → Prop} {R : Result → Shared → Prop} {s : Shared} {K : Frag} {mg : Str → Option Value} {xn f txt : Str} {C fI : Addr} {base : Heap}
theorem maker_run (T : STxt prog K mg xn f txt C fI) (Mo : L2.Mod K mg base) {x t0 : Addr} {y : Str} {ty : Tok} (bk : ∀ b o, base.get? b = some o → s.heap.get? b = some o) (hx : s.heap.get? x = some (HandSPX.excO C t0))
    (hnx : K.lookup x = none) (hroom : A.depth < recursionLimit) (hz : y.length ≤ sizeLine) (hzt : txt.length ≤ sizeLine) (hzz : (txt ++ y).length ≤ sizeLine)
    (hq : ∀ h' tk dx, MEnd s.heap h' x C dx f (.str y ty) → R (.ok (.ret .none)) { s with heap := h', toks := tk }) :
    codeAny (model prog w) A (.call (.ref fI) ⟨[.ref x, .str y ty], []⟩) R s := by
  obtain ⟨qual, oc, od, doc, pm, an, cda, cc, ct, osl, p1, p2, a1, a2, a3, a4, a5, b1, b2, b3, b4, c1, c2, c3, c4, ccl, cdd, vs, ccs, file, tf, cl, cld, csl, ho, hcd, hcode, hvs, hfile, hcell, hask⟩ := T.fn
  obtain ⟨nm, q, N, bs, bm, sn, sub, ab, col, dd, k0, k1, k2, k3, k5, hC, hbm⟩ := T.cls
  have FO := T.fok
  have X : K.In s.heap := Mo.kin.keeps bk
  have hlim : s.heap.NoLimit := Mo.nolimit.keeps bk
  have hcl : clsIn K C = some { name := nm, bases := bs, mro := .ref C :: bm, ns := N, qualname := q, hasDict := true, slotNames := sn, subclasses := sub, abstract := ab, collection := col, hasDel := false } := by unfold clsIn; rw [hC] <;> rfl
  refine ks_codeAny_call_defAt (fd := ksFn "__init__" qual (mA f p1 p2) (mB f txt a1 a2 a3 a4 a5 b1 b2 b3 b4 c1 c2 c3 c4) (mS f) .none .none doc pm an (.ref cda) ct cc) (binds := [(("self" : Str), .ref x), (f, .str y ty)])
    hroom (X _ _ ho) rfl hlim (codeRec_of X hcd) rfl (BindsTo.of_eq ?_) FO.cell ?_ (fun h₁ hns hk₁ => ?_) rfl rfl rfl
  · exact FO.bd _ _ _ _ _ _ _ _ _ _ _ _
  · intro y hy
    rcases List.mem_cons.mp hy with rfl | hy
    · exact FO.ls
    rcases List.mem_cons.mp hy with rfl | hy
    · exact FO.lk
    · cases hy
  · have X1 : K.In h₁ := X.keeps hk₁
    have bk1 : ∀ b o, base.get? b = some o → h₁.get? b = some o := fun b o e => hk₁ b o (bk b o e)
    have hx1 := hk₁ _ _ hx
    obtain ⟨oD, hD1, hD2⟩ : ∃ oD, h₁.get? C = some oD ∧ oD.data = .cls { name := nm, bases := bs, mro := .ref C :: bm, ns := N, qualname := q, hasDict := true, slotNames := sn, subclasses := sub, abstract := ab, collection := col, hasDel := false } := ⟨_, X1 _ _ hC, rfl⟩
    have hxC : x ≠ C := fun z => by
      rw [z, hC] at hnx
      cases hnx
    have sL : s.heap.get? s.heap.objs.size = none := by
      cases z : s.heap.get? s.heap.objs.size with
      | none => rfl
      | some o => exact absurd (Heap.lt_size z) (Nat.lt_irrefl _)
    obtain ⟨mb, hb1, hb2⟩ := Mo.blt
    refine ks_wpAt_execs_cons (ks_wpAt_Expr_any ?_)
    obtain ⟨pl, hpl⟩ := hask s.heap.objs.size
    refine ks_wpAt_MethodCall (pl := pl) ?_ hpl
    refine ks_wpAt_super_base FO.lp FO.lc (by decide) rfl (X1 _ _ ho) rfl rfl rfl (X1 _ _ hcode) rfl hvs hfile T.tops ?_
    refine ks_loadName_global rfl FO.lp (loadGlobal_builtin (Mo.glob.keeps bk1) T.gS (hb1.keeps bk1) ((hb2 _ (by decide)).trans (by decide +kernel)) ⟨rfl, ?_⟩)
    refine wpAny_loadName_free rfl FO.lc rfl ⟨_, X1 _ _ hcell, rfl⟩ ?_
    refine wpAny_loadName_local rfl FO.ls hns (v := .ref x) ?_ ?_
    · show List.lookup ("self" : Str) [(f, Value.str y ty), (("self" : Str), Value.ref x)] = some (Value.ref x)
      simp [List.lookup, FO.sn]
    refine ks_wpAny_isType_cls hD1 hD2 ⟨rfl, ?_⟩
    refine ks_wpAny_call_super hD1 hD2 hx1 rfl (fun c z => nomatch z) (looks_mroIn X1 T.slf) (fun h2 e2 k2 => ?_)
    have X2 : K.In h2 := X1.keeps k2
    have hx2 := k2 _ _ hx1
    have I2 : InstAt h2 x (HandSPX.excO C t0) C none := ⟨hx2, rfl, rfl, trivial⟩
    have hal : alongIn K "__init__" (((Value.ref C :: bm).dropWhile (· != .ref C)).drop 1) = some (some (.builtin "ValueError.__init__")) := by
      have z := T.sup
      unfold ks_superIn at z
      rw [hcl] at z
      exact z
    refine kxs_getMethod kxs_ValueError e2 (looks_opaque X2 T.nop) (l₀ := .ref C :: bm) (fun A Q E s k q => wpAny_bind ((looks_clsIn X2 hcl) A _ E s k (wpAny_pure q))) rfl X2 hal (I2.type.andThen (looks_subIn X2 T.veC)) hxC (by decide) ?_
    have k3 : ∀ b o, h2.get? b = some o → (h2.push (wrapO x)).get? b = some o := fun b o e => Heap.get?_push_of_some _ e
    have hu3 : (h2.push (wrapO x)).get? h2.objs.size = some (wrapO x) := Heap.get?_push_at rfl rfl
    have k13 : ∀ b o, h₁.get? b = some o → (h2.push (wrapO x)).get? b = some o := fun b o e => k3 b o (k2 b o e)
    have hns3 := hns.keeps k13
    have hx3 := k3 _ _ hx2
    have hC3 := k13 _ _ (X1 _ _ hC)
    refine kxs_callWith (i := "ValueError.__init__") (x := x) rfl (evalArgs_plain ?_)
    refine PyProof.Rows.spliced_more (e := .JoinedStr [.Constant (.str txt) 0 b1, .FormattedValue (.Name f b2) (-1) none b3] b4) (rest := []) (env := ksEnv qual (mS f) s.heap.objs.size fI (.ref cda) cc) (pos := a4) ?_
    refine wpAny_JoinedStr ?_
    show Joins _ _ _ [eval (.Constant (.str txt) 0 b1) _, eval (.FormattedValue (.Name f b2) (-1) none b3) _] Str.empty _ _
    refine Calls.Constant_str ⟨txt, _, rfl, ?_, ?_⟩
    · show (Str.empty ++ txt).length ≤ sizeLine
      have z : (Str.empty ++ txt).length = txt.length := by
        show (Str.empty ++ txt).cps.size = txt.cps.size
        show (Str.empty.cps ++ txt.cps).size = txt.cps.size
        rw [Array.size_append]
        exact Nat.zero_add _
      rw [z]
      exact hzt
    have zz : (Str.empty ++ txt ++ y).length ≤ sizeLine := by
      have e : Str.empty ++ txt = txt := by
        show (⟨Str.empty.cps ++ txt.cps⟩ : Str) = txt
        have e2 : Str.empty.cps ++ txt.cps = txt.cps := Array.empty_append
        rw [e2]
      rw [e]
      exact hzz
    refine wpAny_FormattedValue_plain (ESX.ldL (m := fun y' => [(("self" : Str), Value.ref x), (f, .str y ty)].reverse.lookup y') (hns3) (v := .str y ty) ?_ ?_ rfl FO.lk FO.db)
    · show List.lookup f [(f, Value.str y ty), (("self" : Str), Value.ref x)] = some (Value.str y ty)
      simp [List.lookup]
    refine wpAny_formatField_str ⟨y, _, rfl, zz, zz, ?_⟩ ⟨y, _, rfl, zz, zz, ?_⟩ hz
    all_goals
      refine PyProof.Rows.spliced_none ⟨hu3, ?_⟩
      refine parent_call hC3 hx3 hu3 (by rw [sizeLine_eq]; show 1 ≤ 16777216; decide) (fun h4 t1 k4 hx4 => ?_)
      have Lx : s.heap.objs.size ≠ x := Nat.ne_of_gt (Heap.lt_size hx)
      have hns4 : h4.Ns s.heap.objs.size (fun y' => [(("self" : Str), Value.ref x), (f, Value.str y ty)].reverse.lookup y') := by
        obtain ⟨oL, es, ep, hL, r⟩ := hns3
        exact ⟨oL, es, ep, k4 _ _ Lx hL, r⟩
      have X4 : K.In h4 := fun b o e => k4 b o (fun z => by rw [z, hnx] at e; cases e) (k13 _ _ (X1 b o e))
      refine wpAt_of_wpAny (wpAny_execs_cons (plainObj_wpAny_Assign_Attribute ?_))
      refine ESX.ldL hns4 (v := .str y ty) (by show List.lookup f [(f, Value.str y ty), (("self" : Str), Value.ref x)] = some (Value.str y ty); simp [List.lookup]) ?_ rfl FO.lk FO.db
      refine ESX.ldL hns4 (v := .ref x) (by show List.lookup ("self" : Str) [(f, Value.str y ty), (("self" : Str), Value.ref x)] = some (Value.ref x); simp [List.lookup, FO.sn]) ?_ rfl FO.ls (by decide)
      refine set_plain X4 (ox := HandSPX.excO C t1) (od := none) ⟨hx4, rfl, rfl, trivial⟩ T.sa ?_
      refine HandSPX.exc_osa X4 hx4 hcl (show HandSPX.refsVE (.ref C :: bm) = true from hbm) rfl T.noN (fun h5 tk5 dx k5 dn dne hx5 hn5 => ?_)
      refine wpAny_execs_nil (hq h5 tk5 dx ⟨fun b o hb e => k5 b o hb (k4 b o hb (k13 _ _ (hk₁ b o e))), ⟨t1, hx5⟩, ?_, dne, hn5⟩)
      have z1 : s.heap.objs.size < h4.objs.size := hns4.lt
      exact Nat.le_of_lt (Nat.lt_of_lt_of_le z1 dn)
/-- an error of C that has just been made: at e, its own dict at d -/
structure MMade (h h' : Heap) (e C d : Addr) (f : Str) (v : Value) : Prop where
  keep : ∀ b o, h.get? b = some o → h'.get? b = some o
  new : h.objs.size ≤ e
  obj : ∃ oe vs, h'.get? e = some oe ∧ oe.cls = .ref C ∧ oe.dict = some d ∧ oe.data = .fields vs ∧ vs[1]? = some .none
  dbig : h.objs.size ≤ d
  dne : d ≠ e
  ns : h'.Ns1 d (fun y => if y = f then some v else none)
theorem made_run (T : STxt prog K mg xn f txt C fI) (Mo : L2.Mod K mg base) {y : Str} {ty : Tok} (bk : ∀ b o, base.get? b = some o → s.heap.get? b = some o) (hroom : A.depth + 1 < recursionLimit)
    (hz : y.length ≤ sizeLine) (hzt : txt.length ≤ sizeLine) (hzz : (txt ++ y).length ≤ sizeLine)
    (hq : ∀ h' tk e d, MMade s.heap h' e C d f (.str y ty) → R (.ok (.ret (.ref e))) { s with heap := h', toks := tk }) :
    codeAny (model prog w) A (.call (.ref C) ⟨[.str y ty], []⟩) R s := by
  obtain ⟨nm, q, N, bs, bm, sn, sub, ab, col, dd, k0, k1, k2, k3, k5, hC, hbm⟩ := T.cls
  have X : K.In s.heap := Mo.kin.keeps bk
  obtain ⟨hp, g, dr, tk, os⟩ := s
  have old : ∀ b o, hp.get? b = some o → ((hp.push (kdv_tup [Value.str y ty])).push (HandSPX.excO C hp.objs.size)).get? b = some o := fun b o e => Heap.get?_push_of_some _ (Heap.get?_push_of_some _ e)
  have at_e : ((hp.push (kdv_tup [Value.str y ty])).push (HandSPX.excO C hp.objs.size)).get? (hp.objs.size + 1) = some (HandSPX.excO C hp.objs.size) := by heap_get
  have noK : K.lookup (hp.objs.size + 1) = none := by
    cases e : K.lookup (hp.objs.size + 1) with
    | none => rfl
    | some o =>
      have z : hp.get? (hp.objs.size + 1) = some o := X _ _ e
      exact absurd (Nat.lt_of_succ_lt (Heap.lt_size z)) (Nat.lt_irrefl _)
  refine HandSPX.call_own F.excBase_ValueError (fun X => HandSPX.refsVE_contains X bm hbm) (X _ _ hC) (looks_findIn X T.iC) (fun self => bind_fn X self T.tC) (by rw [sizeLine_eq]; show 1 ≤ 16777216; decide) ?_
  refine maker_run (s := ⟨(hp.push (kdv_tup [Value.str y ty])).push (HandSPX.excO C hp.objs.size), g, dr, tk, os⟩) T Mo (fun b o e => old b o (bk b o e)) at_e noK ?_ hz hzt hzz fun h' tk' dx M => ?_
  · show A.depth + 1 < recursionLimit
    exact hroom
  · have keep : ∀ b o, hp.get? b = some o → h'.get? b = some o := fun b o e => M.keep b o (Nat.ne_of_lt (Nat.lt_succ_of_lt (Heap.lt_size e))) (old b o e)
    have z : hp.objs.size + 1 + 1 ≤ dx := by
      have zz := M.dbig
      rw [Heap.size_push, Heap.size_push] at zz
      exact zz
    obtain ⟨t1, ho⟩ := M.obj
    exact ⟨rfl, hq h' tk' (hp.objs.size + 1) dx ⟨keep, Nat.le_succ _, ⟨_, _, ho, rfl, rfl, rfl, rfl⟩, Nat.le_trans (Nat.le_trans (Nat.le_succ _) (Nat.le_succ _)) z, M.dne, M.ns⟩⟩
end
end XgSup
namespace XgSup
open PySem L2 PySem.Spec PyProof.Rows
theorem relO_one {v : V} {v' : Value} (r : RelV v v') (f g : Str) : RelO (List.lookup g [(f, v)]) (if g = f then some v' else none) := by
  by_cases hw : g = f
  · subst hw
    rw [if_pos rfl]
    have q : List.lookup g [(g, v)] = some v := by simp [List.lookup]
    rw [q]
    exact r
  · rw [if_neg hw]
    have qw : (g == f) = false := by simpa using hw
    have q2 : List.lookup g [(f, v)] = none := by simp [List.lookup, qw]
    rw [q2]
    trivial
section
variable {X : Cx} {C fI : Addr} {xn f txt : Str}
/-- C(e), e a text -/
def tMkS (C : Addr) (f : Str) (ta : TA) : L2.St → Hp → XK → Prop := fun σ H Q => ta σ H fun vs H1 => ∃ y : Str, vs = [.str y] ∧ y.length ≤ 100000 ∧ ∀ d, H1 d = none → Q (.ref C) (some d) (upd H1 d (.xd [(f, .str y)]))
theorem pmk_sup {a : Expr} {ta : TA} {p pos : Pos} {k : Nat} (T : STxt X.prog X.K X.mg xn f txt C fI) (hlt : txt.length ≤ 100000) (hr : Room k X.A) (ha : PA X [a] ta) (hg : Gl X xn)
    (hdb : (xn == ("__debug__" : Str)) = false := by decide)
    (he : starEach (a :: []) X.env = (false, eval a X.env) :: starEach [] X.env := by rfl) (hpl : (backTo pos (starEach [] X.env)).any (·.1) = false := by rfl) :
    PMk X (.Call (.Name xn p) [a] [] pos) (tMkS C f ta) := by
  intro pins s σ H Q I h
  refine wpAny_Call_Name_kw (ld_glob I hg T.gC ?_ hdb)
  refine PySem.W.callWith_K (h₀ := X.base) I.ok.mod.kin T.kC (thn (ha.run pos pins s σ H _ I h) fun us s1 hh => ?_) he hpl
  obtain ⟨vs, H1, I1, r1, y, ev, hy, q1⟩ := hh
  subst ev
  refine ⟨I1.kIn, ?_⟩
  cases r1 with
  | cons rv rn =>
    rename_i v' us'
    cases rn
    obtain ⟨ty, rfl⟩ := rv
    show wpAny _ _ (call (.ref C) [_]) _ _ _
    have bk1 := I1.bk
    obtain ⟨hp, g, dr, tk, os⟩ := s1
    have zy : y.length ≤ sizeLine := by rw [sizeLine_eq]; omega
    have zt : txt.length ≤ sizeLine := by rw [sizeLine_eq]; omega
    have zz : (txt ++ y).length ≤ sizeLine := by
      have e : (txt ++ y).length = txt.length + y.length := by
        show (txt.cps ++ y.cps).size = txt.cps.size + y.cps.size
        exact Array.size_append
      rw [e, sizeLine_eq]
      omega
    refine wpAny_call (made_run T I1.mod bk1 (by have := hr.dp; omega) zy zt zz fun h' tk' e d M => ?_)
    show MkP X pins σ Q (.ref e) ⟨h', g, dr, tk', os⟩
    obtain ⟨oe, fv, hoe, hc, hd, hdat, h1⟩ := M.obj
    have hns := M.ns
    obtain ⟨G', g1, g2⟩ := restrict h' fun b => decide (b ≠ e)
    have gk : ∀ b, b ≠ e → G'.get? b = h'.get? b := fun b hb => g1 b (decide_eq_true hb)
    have ge : G'.get? e = none := g2 e (by simp)
    have old : ∀ b o, hp.get? b = some o → G'.get? b = some o := fun b o q => (gk b (Nat.ne_of_lt (Nat.lt_of_lt_of_le (Heap.lt_size q) M.new))).trans (M.keep b o q)
    have ob : ObjOk X.prog X.w (upd H1 d (.xd [(f, V.str y)])) G' d (.xd [(f, V.str y)]) :=
      ⟨_, hns.at (fun o q => (gk d M.dne).trans q), fun g' => relO_one (v := V.str y) (v' := Value.str y ty) (show RelV (V.str y) (Value.str y ty) from ⟨ty, rfl⟩) f g'⟩
    have J : Inv X pins σ (upd H1 d (.xd [(f, V.str y)])) ⟨G', g, dr, tk', os⟩ := I1.laid (t' := tk') old M.dbig ob
    refine ⟨e, oe, fv, ⟨G', g, dr, tk', os⟩, _, .ref C, some d, rfl, J, fun b o q => ?_, ge, hoe, ⟨hc, hd⟩, hdat, h1, ?_, rfl, I1.bare, raises_own T.exC T.tyC, q1 d (I1.hok.fresh M.dbig)⟩
    · by_cases hb : b = e
      · have q' : G'.get? b = some o := q
        rw [hb, ge] at q'; cases q'
      · exact (gk b hb).symm.trans q
    · rw [upd_ne (Ne.symm M.dne)]
      exact I1.hok.fresh M.new
end
end XgSup
/-! An own error class whose maker asks its parent for a text that shows two numbers, then keeps both: line, column. -/
namespace XgSup2
open PySem PySem.W PySem.Calls PyProof.Rows XgSup
abbrev fL : Str := "line"
abbrev fC : Str := "column"
abbrev tA : Str := "the text is wrong in line "
abbrev tB : Str := " at column "
def mA (p1 p2 p3 : Pos) : Arguments := { posonlyargs := [], args := [{ arg := "self", annotation := none, pos := p1 }, { arg := fL, annotation := none, pos := p2 }, { arg := fC, annotation := none, pos := p3 }], vararg := none, kwonlyargs := [], kw_defaults := [], kwarg := none, defaults := [] }
def askE (a1 a2 a3 a4 b1 b2 b3 b4 b5 b6 b7 : Pos) : Expr := .Call (.Attribute (.Call (.Name "super" a1) [] [] a2) "__init__" a3) [.JoinedStr [.Constant (.str tA) 0 b1, .FormattedValue (.Name fL b2) (-1) none b3, .Constant (.str tB) 0 b4, .FormattedValue (.Name fC b5) (-1) none b6] b7] [] a4
def mB (a1 a2 a3 a4 a5 b1 b2 b3 b4 b5 b6 b7 c1 c2 c3 c4 d1 d2 d3 d4 : Pos) : List Stmt :=
  [.Expr (askE a1 a2 a3 a4 b1 b2 b3 b4 b5 b6 b7) a5, .Assign [.Attribute (.Name "self" c1) fL c2] (.Name fL c3) c4, .Assign [.Attribute (.Name "self" d1) fC d2] (.Name fC d3) d4]
def mS : Scope := { kind := .function, names := [(PySem.Str.ofString "self", .local), (fL, .local), (fC, .local), (PySem.Str.ofString "__class__", .free), (PySem.Str.ofString "super", .globalImplicit)], isGenerator := false, isCoroutine := false, more := [] }
theorem mS_cell : ∀ x ∈ mS.names, x.2 ≠ .cell := by decide
def AskOk (qual : Str) (a1 a2 a3 a4 b1 b2 b3 b4 b5 b6 b7 : Pos) (fI cda cc : Addr) : Prop := ∀ L : Addr, ∃ pl : Sem Bool, eval (askE a1 a2 a3 a4 b1 b2 b3 b4 b5 b6 b7) (ksEnv qual mS L fI (.ref cda) cc) = (do
  let ov ← attributeBase (.Call (.Name "super" a1) [] [] a2) "__init__" (ksEnv qual mS L fI (.ref cda) cc) (eval (.Call (.Name "super" a1) [] [] a2) (ksEnv qual mS L fI (.ref cda) cc))
  standAt a3.atName
  let (g, first) ← holding [ov] (getMethod ov "__init__" pl)
  callWith a4 g first (backTo a4 (starEach [.JoinedStr [.Constant (.str tA) 0 b1, .FormattedValue (.Name fL b2) (-1) none b3, .Constant (.str tB) 0 b4, .FormattedValue (.Name fC b5) (-1) none b6] b7] (ksEnv qual mS L fI (.ref cda) cc))) [])
/-- what the written part says of the class at C and of its maker at fI -/
structure STxt (prog : Program) (K : Frag) (mg : Str → Option Value) (x : Str) (C fI : Addr) : Prop where
  gC : mg x = some (.ref C)
  cls : ∃ nm q N bs bm sn sub ab col dd k0 k1 k2 k3 k5, K.lookup C = some (excClassObj nm q C N bs bm true sn sub ab col dd k0 k1 k2 k3 k5 "ValueError.__new__") ∧ HandSPX.refsVE bm = true
  sa : findIn K (.ref C) "__setattr__" = some (some (.builtin "object.__setattr__"))
  ga : findIn K (.ref C) "__getattribute__" = some (some (.builtin "BaseException.__getattribute__"))
  gg : findIn K (.ref C) "__getattr__" = some none
  noL : findIn K (.ref C) fL = some none
  noC : findIn K (.ref C) fC = some none
  iC : findIn K (.ref C) "__init__" = some (some (.ref fI))
  tC : typeIn K (.ref fI) = some (.type "function")
  kC : keepIn K (.ref C) = true
  exC : subIn K (.ref C) (.type "BaseException") = some true
  veC : subIn K (.ref C) (.type "ValueError") = some true
  tyC : typeIn K (.ref C) = some (.type "type")
  hdC : hasDictIn K C = true
  sup : ks_superIn K C C "__init__" = some (some (.builtin "ValueError.__init__"))
  slf : mroIn K C (.ref C) = some true
  nop : nsIn K cStatics "thirdparty.any" = some none
  gS : mg "super" = none
  tops : (prog.main.scope.names.lookup ("super" : Str)).isSome = false
  fn : ∃ (qual : Str) (oc : Value) (od : Option Addr) (doc pm : Value) (an : Option Addr) (cda cc : Addr) (ct : Value) (osl : Array (Option Value)) (p1 p2 p3 a1 a2 a3 a4 a5 b1 b2 b3 b4 b5 b6 b7 c1 c2 c3 c4 d1 d2 d3 d4 : Pos)
      (ccl : Value) (cdd : Option Addr) (vs : Array Value) (ccs : Array (Option Value)) (file : Str) (tf : Tok) (cl : Value) (cld : Option Addr) (csl : Array (Option Value)),
    K.lookup fI = some ⟨oc, od, .func (ksFn "__init__" qual (mA p1 p2 p3) (mB a1 a2 a3 a4 a5 b1 b2 b3 b4 b5 b6 b7 c1 c2 c3 c4 d1 d2 d3 d4) mS .none .none doc pm an (.ref cda) ct cc), osl⟩ ∧ codeIn K (.ref cda) qual = true ∧
    K.lookup cda = some ⟨ccl, cdd, .fields vs, ccs⟩ ∧ vs[2]? = some (.str file tf) ∧ ((prog.main.file : Str) == file) = true ∧
    K.lookup cc = some ⟨cl, cld, .cell (some (.ref C)), csl⟩ ∧ AskOk qual a1 a2 a3 a4 b1 b2 b3 b4 b5 b6 b7 fI cda cc
/-- both kept -/
def two (u v : Value) : Str → Option Value := fun y => if y = fC then some v else if y = fL then some u else none
/-- what the maker leaves of a fresh error at x -/
structure MEnd (h h' : Heap) (x C dx : Addr) (u v : Value) : Prop where
  keep : ∀ b o, b ≠ x → h.get? b = some o → h'.get? b = some o
  obj : ∃ t1 : Addr, h'.get? x = some { cls := .ref C, dict := some dx, data := .fields #[.ref t1, .none, .none, .none, .bool false, .none] }
  dbig : h.objs.size ≤ dx
  dne : dx ≠ x
  ns : h'.Ns1 dx (two u v)
section
variable {prog : Program} {w : World} {A : Around} {E : Value → Shared → Prop} {R : Result → Shared → Prop} {s : Shared} {K : Frag} {mg : Str → Option Value} {xn : Str} {C fI : Addr} {base : Heap}
theorem maker_run (T : STxt prog K mg xn C fI) (Mo : L2.Mod K mg base) {x t0 : Addr} {i j : Int} {ti tj : Tok} (bk : ∀ b o, base.get? b = some o → s.heap.get? b = some o) (hx : s.heap.get? x = some (HandSPX.excO C t0))
    (hnx : K.lookup x = none) (hroom : A.depth < recursionLimit) (hi : i.natAbs.log2 < 1920) (hj : j.natAbs.log2 < 1920) (z1 : (Str.empty ++ tA).length ≤ sizeLine) (z2 : (Str.empty ++ tA ++ (toString i : String)).length ≤ sizeLine) (z3 : (Str.empty ++ tA ++ (toString i : String) ++ tB).length ≤ sizeLine) (z4 : (Str.empty ++ tA ++ (toString i : String) ++ tB ++ (toString j : String)).length ≤ sizeLine)
    (hq : ∀ h' tk dx, MEnd s.heap h' x C dx (.int i ti) (.int j tj) → R (.ok (.ret .none)) { s with heap := h', toks := tk }) :
    codeAny (model prog w) A (.call (.ref fI) ⟨[.ref x, .int i ti, .int j tj], []⟩) R s := by
  obtain ⟨qual, oc, od, doc, pm, an, cda, cc, ct, osl, p1, p2, p3, a1, a2, a3, a4, a5, b1, b2, b3, b4, b5, b6, b7, c1, c2, c3, c4, d1, d2, d3, d4, ccl, cdd, vs, ccs, file, tf, cl, cld, csl, ho, hcd, hcode, hvs, hfile, hcell, hask⟩ := T.fn
  obtain ⟨nm, q, N, bs, bm, sn, sub, ab, col, dd, k0, k1, k2, k3, k5, hC, hbm⟩ := T.cls
  have X : K.In s.heap := Mo.kin.keeps bk
  have hlim : s.heap.NoLimit := Mo.nolimit.keeps bk
  have hcl : clsIn K C = some { name := nm, bases := bs, mro := .ref C :: bm, ns := N, qualname := q, hasDict := true, slotNames := sn, subclasses := sub, abstract := ab, collection := col, hasDel := false } := by unfold clsIn; rw [hC] <;> rfl
  refine ks_codeAny_call_defAt (fd := ksFn "__init__" qual (mA p1 p2 p3) (mB a1 a2 a3 a4 a5 b1 b2 b3 b4 b5 b6 b7 c1 c2 c3 c4 d1 d2 d3 d4) mS .none .none doc pm an (.ref cda) ct cc) (binds := [(("self" : Str), .ref x), (fL, .int i ti), (fC, .int j tj)])
    hroom (X _ _ ho) rfl hlim (codeRec_of X hcd) rfl (BindsTo.of_eq ?_) mS_cell ?_ (fun h₁ hns hk₁ => ?_) rfl rfl rfl
  · rfl
  · intro y hy
    rcases List.mem_cons.mp hy with rfl | hy
    · rfl
    rcases List.mem_cons.mp hy with rfl | hy
    · rfl
    rcases List.mem_cons.mp hy with rfl | hy
    · rfl
    · cases hy
  · have X1 : K.In h₁ := X.keeps hk₁
    have bk1 : ∀ b o, base.get? b = some o → h₁.get? b = some o := fun b o e => hk₁ b o (bk b o e)
    have hx1 := hk₁ _ _ hx
    obtain ⟨oD, hD1, hD2⟩ : ∃ oD, h₁.get? C = some oD ∧ oD.data = .cls { name := nm, bases := bs, mro := .ref C :: bm, ns := N, qualname := q, hasDict := true, slotNames := sn, subclasses := sub, abstract := ab, collection := col, hasDel := false } := ⟨_, X1 _ _ hC, rfl⟩
    have hxC : x ≠ C := fun z => by
      rw [z, hC] at hnx
      cases hnx
    have sL : s.heap.get? s.heap.objs.size = none := by
      cases z : s.heap.get? s.heap.objs.size with
      | none => rfl
      | some o => exact absurd (Heap.lt_size z) (Nat.lt_irrefl _)
    obtain ⟨mb, hb1, hb2⟩ := Mo.blt
    refine ks_wpAt_execs_cons (ks_wpAt_Expr_any ?_)
    obtain ⟨pl, hpl⟩ := hask s.heap.objs.size
    refine ks_wpAt_MethodCall (pl := pl) ?_ hpl
    refine ks_wpAt_super_base rfl rfl (by decide) rfl (X1 _ _ ho) rfl rfl rfl (X1 _ _ hcode) rfl hvs hfile T.tops ?_
    refine ks_loadName_global rfl rfl (loadGlobal_builtin (Mo.glob.keeps bk1) T.gS (hb1.keeps bk1) ((hb2 _ (by decide)).trans (by decide +kernel)) ⟨rfl, ?_⟩)
    refine wpAny_loadName_free rfl rfl rfl ⟨_, X1 _ _ hcell, rfl⟩ ?_
    refine wpAny_loadName_local rfl rfl hns (v := .ref x) ?_ ?_
    · show List.lookup ("self" : Str) [(fC, Value.int j tj), (fL, Value.int i ti), (("self" : Str), Value.ref x)] = some (Value.ref x)
      rfl
    refine ks_wpAny_isType_cls hD1 hD2 ⟨rfl, ?_⟩
    refine ks_wpAny_call_super hD1 hD2 hx1 rfl (fun c z => nomatch z) (looks_mroIn X1 T.slf) (fun h2 e2 k2 => ?_)
    have X2 : K.In h2 := X1.keeps k2
    have hx2 := k2 _ _ hx1
    have I2 : InstAt h2 x (HandSPX.excO C t0) C none := ⟨hx2, rfl, rfl, trivial⟩
    have hal : alongIn K "__init__" (((Value.ref C :: bm).dropWhile (· != .ref C)).drop 1) = some (some (.builtin "ValueError.__init__")) := by
      have z := T.sup
      unfold ks_superIn at z
      rw [hcl] at z
      exact z
    refine kxs_getMethod kxs_ValueError e2 (looks_opaque X2 T.nop) (l₀ := .ref C :: bm) (fun A Q E s k q => wpAny_bind ((looks_clsIn X2 hcl) A _ E s k (wpAny_pure q))) rfl X2 hal (I2.type.andThen (looks_subIn X2 T.veC)) hxC (by decide) ?_
    have k3 : ∀ b o, h2.get? b = some o → (h2.push (wrapO x)).get? b = some o := fun b o e => Heap.get?_push_of_some _ e
    have hu3 : (h2.push (wrapO x)).get? h2.objs.size = some (wrapO x) := Heap.get?_push_at rfl rfl
    have k13 : ∀ b o, h₁.get? b = some o → (h2.push (wrapO x)).get? b = some o := fun b o e => k3 b o (k2 b o e)
    have hns3 := hns.keeps k13
    have hx3 := k3 _ _ hx2
    have hC3 := k13 _ _ (X1 _ _ hC)
    refine kxs_callWith (i := "ValueError.__init__") (x := x) rfl (evalArgs_plain ?_)
    refine PyProof.Rows.spliced_more (e := .JoinedStr [.Constant (.str tA) 0 b1, .FormattedValue (.Name fL b2) (-1) none b3, .Constant (.str tB) 0 b4, .FormattedValue (.Name fC b5) (-1) none b6] b7) (rest := []) (env := ksEnv qual mS s.heap.objs.size fI (.ref cda) cc) (pos := a4) ?_
    refine wpAny_JoinedStr ?_
    show Joins _ _ _ [eval (.Constant (.str tA) 0 b1) _, eval (.FormattedValue (.Name fL b2) (-1) none b3) _, eval (.Constant (.str tB) 0 b4) _, eval (.FormattedValue (.Name fC b5) (-1) none b6) _] Str.empty _ _
    refine Calls.Constant_str ⟨tA, _, rfl, z1, ?_⟩
    refine wpAny_FormattedValue_plain (ESX.ldL (m := fun y' => [(("self" : Str), Value.ref x), (fL, .int i ti), (fC, .int j tj)].reverse.lookup y') (hns3) (v := .int i ti) rfl ?_ rfl rfl (by decide))
    refine wpAny_formatField_int hi ⟨_, _, rfl, z2, ?_⟩
    refine Calls.Constant_str ⟨tB, _, rfl, z3, ?_⟩
    refine wpAny_FormattedValue_plain (ESX.ldL (m := fun y' => [(("self" : Str), Value.ref x), (fL, .int i ti), (fC, .int j tj)].reverse.lookup y') (hns3) (v := .int j tj) rfl ?_ rfl rfl (by decide))
    refine wpAny_formatField_int hj ⟨_, _, rfl, z4, z4, ?_⟩
    all_goals
      refine PyProof.Rows.spliced_none ⟨hu3, ?_⟩
      refine parent_call hC3 hx3 hu3 (by rw [sizeLine_eq]; show 1 ≤ 16777216; decide) (fun h4 t1 k4 hx4 => ?_)
      have Lx : s.heap.objs.size ≠ x := Nat.ne_of_gt (Heap.lt_size hx)
      have hns4 : h4.Ns s.heap.objs.size (fun y' => [(("self" : Str), Value.ref x), (fL, Value.int i ti), (fC, Value.int j tj)].reverse.lookup y') := by
        obtain ⟨oL, es, ep, hL, r⟩ := hns3
        exact ⟨oL, es, ep, k4 _ _ Lx hL, r⟩
      have X4 : K.In h4 := fun b o e => k4 b o (fun z => by rw [z, hnx] at e; cases e) (k13 _ _ (X1 b o e))
      refine wpAt_of_wpAny (wpAny_execs_cons (plainObj_wpAny_Assign_Attribute ?_))
      refine ESX.ldL hns4 (v := .int i ti) rfl ?_ rfl rfl (by decide)
      refine ESX.ldL hns4 (v := .ref x) rfl ?_ rfl rfl (by decide)
      refine set_plain X4 (ox := HandSPX.excO C t1) (od := none) ⟨hx4, rfl, rfl, trivial⟩ T.sa ?_
      refine HandSPX.exc_osa X4 hx4 hcl (show HandSPX.refsVE (.ref C :: bm) = true from hbm) rfl T.noL (fun h5 tk5 dx k5 dn dne hx5 hn5 => ?_)
      have hns5 : h5.Ns s.heap.objs.size (fun y' => [(("self" : Str), Value.ref x), (fL, Value.int i ti), (fC, Value.int j tj)].reverse.lookup y') := by
        obtain ⟨oL, es, ep, hL, r⟩ := hns4
        exact ⟨oL, es, ep, k5 _ _ Lx hL, r⟩
      have X5 : K.In h5 := fun b o e => k5 b o (fun z => by rw [z, hnx] at e; cases e) (X4 b o e)
      obtain ⟨oD5, es5, ep5, hoD5, r5⟩ := id hn5
      refine wpAny_execs_cons (plainObj_wpAny_Assign_Attribute ?_)
      refine ESX.ldL hns5 (v := .int j tj) rfl ?_ rfl rfl (by decide)
      refine ESX.ldL hns5 (v := .ref x) rfl ?_ rfl rfl (by decide)
      refine set_plain X5 (ox := { cls := .ref C, dict := some dx, data := .fields #[.ref t1, .none, .none, .none, .bool false, .none] }) (od := some oD5) ⟨hx5, rfl, rfl, hoD5⟩ T.sa ?_
      refine PySem.OEX.osa_old X5 hx5 hn5 (nl := [fL]) (Within.cons fL _ Within.nil) (by decide) hcl (show HandSPX.refsVE (.ref C :: bm) = true from hbm) rfl T.noC (fun h6 tk6 k6 hn6 => ?_)
      refine wpAny_execs_nil (hq h6 tk6 dx ⟨fun b o hb e => k6 b o (fun z => ?_) (k5 b o hb (k4 b o hb (k13 _ _ (hk₁ b o e)))), ⟨t1, k6 _ _ (Ne.symm dne) hx5⟩, ?_, dne, hn6⟩)
      · have z1 : s.heap.objs.size < h4.objs.size := hns4.lt
        rw [z] at e
        exact absurd (Nat.lt_of_lt_of_le (Nat.lt_trans (Heap.lt_size e) z1) dn) (Nat.lt_irrefl _)
      · have z1 : s.heap.objs.size < h4.objs.size := hns4.lt
        exact Nat.le_of_lt (Nat.lt_of_lt_of_le z1 dn)
/-- an error of C that has just been made: at e, its own dict at d -/
structure MMade (h h' : Heap) (e C d : Addr) (u v : Value) : Prop where
  keep : ∀ b o, h.get? b = some o → h'.get? b = some o
  new : h.objs.size ≤ e
  obj : ∃ oe vs, h'.get? e = some oe ∧ oe.cls = .ref C ∧ oe.dict = some d ∧ oe.data = .fields vs ∧ vs[1]? = some .none
  dbig : h.objs.size ≤ d
  dne : d ≠ e
  ns : h'.Ns1 d (two u v)
theorem made_run (T : STxt prog K mg xn C fI) (Mo : L2.Mod K mg base) {i j : Int} {ti tj : Tok} (bk : ∀ b o, base.get? b = some o → s.heap.get? b = some o) (hroom : A.depth + 1 < recursionLimit)
    (hi : i.natAbs.log2 < 1920) (hj : j.natAbs.log2 < 1920) (z1 : (Str.empty ++ tA).length ≤ sizeLine) (z2 : (Str.empty ++ tA ++ (toString i : String)).length ≤ sizeLine) (z3 : (Str.empty ++ tA ++ (toString i : String) ++ tB).length ≤ sizeLine) (z4 : (Str.empty ++ tA ++ (toString i : String) ++ tB ++ (toString j : String)).length ≤ sizeLine)
    (hq : ∀ h' tk e d, MMade s.heap h' e C d (.int i ti) (.int j tj) → R (.ok (.ret (.ref e))) { s with heap := h', toks := tk }) :
    codeAny (model prog w) A (.call (.ref C) ⟨[.int i ti, .int j tj], []⟩) R s := by
  obtain ⟨nm, q, N, bs, bm, sn, sub, ab, col, dd, k0, k1, k2, k3, k5, hC, hbm⟩ := T.cls
  have X : K.In s.heap := Mo.kin.keeps bk
  obtain ⟨hp, g, dr, tk, os⟩ := s
  have old : ∀ b o, hp.get? b = some o → ((hp.push (kdv_tup [Value.int i ti, Value.int j tj])).push (HandSPX.excO C hp.objs.size)).get? b = some o := fun b o e => Heap.get?_push_of_some _ (Heap.get?_push_of_some _ e)
  have at_e : ((hp.push (kdv_tup [Value.int i ti, Value.int j tj])).push (HandSPX.excO C hp.objs.size)).get? (hp.objs.size + 1) = some (HandSPX.excO C hp.objs.size) := by heap_get
  have noK : K.lookup (hp.objs.size + 1) = none := by
    cases e : K.lookup (hp.objs.size + 1) with
    | none => rfl
    | some o =>
      have z : hp.get? (hp.objs.size + 1) = some o := X _ _ e
      exact absurd (Nat.lt_of_succ_lt (Heap.lt_size z)) (Nat.lt_irrefl _)
  refine HandSPX.call_own F.excBase_ValueError (fun X => HandSPX.refsVE_contains X bm hbm) (X _ _ hC) (looks_findIn X T.iC) (fun self => bind_fn X self T.tC) (by rw [sizeLine_eq]; show 2 ≤ 16777216; decide) ?_
  refine maker_run (s := ⟨(hp.push (kdv_tup [Value.int i ti, Value.int j tj])).push (HandSPX.excO C hp.objs.size), g, dr, tk, os⟩) T Mo (fun b o e => old b o (bk b o e)) at_e noK ?_ hi hj z1 z2 z3 z4 fun h' tk' dx M => ?_
  · show A.depth + 1 < recursionLimit
    exact hroom
  · have keep : ∀ b o, hp.get? b = some o → h'.get? b = some o := fun b o e => M.keep b o (Nat.ne_of_lt (Nat.lt_succ_of_lt (Heap.lt_size e))) (old b o e)
    have z : hp.objs.size + 1 + 1 ≤ dx := by
      have zz := M.dbig
      rw [Heap.size_push, Heap.size_push] at zz
      exact zz
    obtain ⟨t1, ho⟩ := M.obj
    exact ⟨rfl, hq h' tk' (hp.objs.size + 1) dx ⟨keep, Nat.le_succ _, ⟨_, _, ho, rfl, rfl, rfl, rfl⟩, Nat.le_trans (Nat.le_trans (Nat.le_succ _) (Nat.le_succ _)) z, M.dne, M.ns⟩⟩
end
end XgSup2
namespace XgSup2
open PySem L2 PySem.Spec PyProof.Rows
theorem relO_two {u v : V} {u' v' : Value} (ru : RelV u u') (rv : RelV v v') (g : Str) : RelO (List.lookup g [(fC, v), (fL, u)]) (two u' v' g) := by
  unfold two
  by_cases h1 : g = fC
  · subst h1
    exact rv
  · rw [if_neg h1]
    have q1 : (g == fC) = false := by simpa using h1
    by_cases h2 : g = fL
    · subst h2
      exact ru
    · rw [if_neg h2]
      have q2 : (g == fL) = false := by simpa using h2
      have e : List.lookup g [(fC, v), (fL, u)] = none := by simp [List.lookup, q1, q2]
      rw [e]
      trivial
section
variable {X : Cx} {C fI : Addr} {xn : Str}
/-- C(a, b), two numbers whose texts are short -/
def tMkS (C : Addr) (ta : TA) : L2.St → Hp → XK → Prop := fun σ H Q => ta σ H fun vs H1 => ∃ i j : Int, vs = [.int i, .int j] ∧ i.natAbs.log2 < 1920 ∧ j.natAbs.log2 < 1920 ∧ ∀ d, H1 d = none → Q (.ref C) (some d) (upd H1 d (.xd [(fC, .int j), (fL, .int i)]))
theorem pmk_two {a b : Expr} {ta : TA} {p pos : Pos} {k : Nat} (T : STxt X.prog X.K X.mg xn C fI) (hr : Room k X.A) (ha : PA X [a, b] ta) (hg : Gl X xn)
    (hdb : (xn == ("__debug__" : Str)) = false := by decide)
    (he : starEach (a :: [b]) X.env = (false, eval a X.env) :: starEach [b] X.env := by rfl) (hpl : (backTo pos (starEach [b] X.env)).any (·.1) = false := by rfl) :
    PMk X (.Call (.Name xn p) [a, b] [] pos) (tMkS C ta) := by
  intro pins s σ H Q I h
  refine wpAny_Call_Name_kw (ld_glob I hg T.gC ?_ hdb)
  refine PySem.W.callWith_K (h₀ := X.base) I.ok.mod.kin T.kC (thn (ha.run pos pins s σ H _ I h) fun us s1 hh => ?_) he hpl
  obtain ⟨vs, H1, I1, r1, i, j, ev, hi, hj, q1⟩ := hh
  subst ev
  refine ⟨I1.kIn, ?_⟩
  obtain ⟨u1, u2, rfl, r11, r12⟩ := vals2 r1
  · obtain ⟨ti, rfl⟩ := r11
    obtain ⟨tj, rfl⟩ := r12
    show wpAny _ _ (call (.ref C) [_, _]) _ _ _
    have bk1 := I1.bk
    obtain ⟨hp, g, dr, tk, os⟩ := s1
    have lap : ∀ x y : Str, (x ++ y).length = x.length + y.length := fun x y => by
      show (x.cps ++ y.cps).size = x.cps.size + y.cps.size
      exact Array.size_append
    have le : Str.empty.length = 0 := rfl
    have la : tA.length ≤ 100 := by decide +kernel
    have lb : tB.length ≤ 100 := by decide +kernel
    have li := int_text_len_1921 hi
    have lj := int_text_len_1921 hj
    refine wpAny_call (made_run T I1.mod bk1 (by have := hr.dp; omega) hi hj (by rw [lap, sizeLine_eq]; omega) (by rw [lap, lap, sizeLine_eq]; omega) (by rw [lap, lap, lap, sizeLine_eq]; omega) (by rw [lap, lap, lap, lap, sizeLine_eq]; omega) fun h' tk' e d M => ?_)
    show MkP X pins σ Q (.ref e) ⟨h', g, dr, tk', os⟩
    obtain ⟨oe, fv, hoe, hc, hd, hdat, h1⟩ := M.obj
    have hns := M.ns
    obtain ⟨G', g1, g2⟩ := restrict h' fun b => decide (b ≠ e)
    have gk : ∀ b, b ≠ e → G'.get? b = h'.get? b := fun b hb => g1 b (decide_eq_true hb)
    have ge : G'.get? e = none := g2 e (by simp)
    have old : ∀ b o, hp.get? b = some o → G'.get? b = some o := fun b o q => (gk b (Nat.ne_of_lt (Nat.lt_of_lt_of_le (Heap.lt_size q) M.new))).trans (M.keep b o q)
    have ob : ObjOk X.prog X.w (upd H1 d (.xd [(fC, V.int j), (fL, V.int i)])) G' d (.xd [(fC, V.int j), (fL, V.int i)]) :=
      ⟨_, hns.at (fun o q => (gk d M.dne).trans q), fun g' => relO_two (u := V.int i) (v := V.int j) (u' := Value.int i ti) (v' := Value.int j tj) ⟨ti, rfl⟩ ⟨tj, rfl⟩ g'⟩
    have J : Inv X pins σ (upd H1 d (.xd [(fC, V.int j), (fL, V.int i)])) ⟨G', g, dr, tk', os⟩ := I1.laid (t' := tk') old M.dbig ob
    refine ⟨e, oe, fv, ⟨G', g, dr, tk', os⟩, _, .ref C, some d, rfl, J, fun b o q => ?_, ge, hoe, ⟨hc, hd⟩, hdat, h1, ?_, rfl, I1.bare, raises_own T.exC T.tyC, q1 d (I1.hok.fresh M.dbig)⟩
    · by_cases hb : b = e
      · have q' : G'.get? b = some o := q
        rw [hb, ge] at q'; cases q'
      · exact (gk b hb).symm.trans q
    · rw [upd_ne (Ne.symm M.dne)]
      exact I1.hok.fresh M.new
end
end XgSup2
namespace XgSup2
theorem log_small {i : Int} (h0 : 0 ≤ i) (h1 : i < 2 ^ 62) : i.natAbs.log2 < 1920 := by
  by_cases h : i.natAbs = 0
  · rw [h]
    decide
  · have q := (Nat.log2_lt h (k := 62)).mpr (by omega)
    omega
end XgSup2
namespace XgIsa
open PySem PySem.W PySem.Spec PySem.Calls PyProof.Rows
section
variable {prog : Program} {w : World} {A : Around} {E : Value → Shared → Prop} {s : Shared} {K : Frag} {x D : Addr} {ox : Obj}
theorem find_cls {C : Addr} {od : Option Obj} {name : Str} {a g : Value} (hc : (clsIn K C).isSome = true) (ha : findIn K (.ref C) name = some (some a)) (hg : specialIn K a "__get__" = some (some g)) (ht : takesIn K a = some true) :
    findObj K C od name = some (.bind g a) := by
  obtain ⟨cd, hc⟩ := Option.isSome_iff_exists.mp hc
  unfold findObj
  rw [hc, Option.bind_some, ha, Option.bind_some]
  simp [hg, ht]
theorem ask_class {od : Option Obj} {Q : Option Value → Shared → Prop} (T : L2.ExcC K D) (X : K.In s.heap) (I : InstAt s.heap x ox D od) (h : Q (some (.ref D)) { s with toks := s.toks + 1 }) : wpAny (model prog w) A (getAttr? (.ref x) "__class__") Q E s := by
  have hf : findObj K D od "__class__" = some (.bind (.builtin "getset_descriptor.__get__") (.builtin "object.__class__")) := find_cls (by obtain ⟨cd, hc, _⟩ := any_some T.hd; rw [hc]; rfl) T.ha T.hn T.ht
  obtain ⟨hp, g, d, t, os⟩ := s
  have l0 := I.type (M := model prog w)
  have l1 := looks_findIn (M := model prog w) X T.hg
  have l2 := looks_findIn (M := model prog w) X T.hk
  have l3 := looks_find (M := model prog w) X I hf
  have sub : Looks (model prog w) hp (isInstance (.ref x) (.type "BaseException")) true := l0.andThen (looks_subIn X T.hs)
  have q0 : (false && onTheHeap (Value.builtin "BaseException.__getattribute__")) = false := rfl
  have q2 : (Value.builtin "BaseException.__getattribute__" == Value.builtin "object.__getattribute__") = false := by decide +kernel
  have q1 : (onTheHeap (Value.ref D) && Value.builtin "BaseException.__getattribute__" == Value.builtin "object.__getattribute__") = false := by rw [q2]; rfl
  unfold getAttr? getAttrBy? getAttrBy
  refine wpAny_bind (wpAny_mkText (wpAny_bind (wpAny_attempt (wpAny_holding (wpAny_bind (l0.at (wpAny_bind (l1.at ?_))))))))
  show wpAny _ _ (if (onTheHeap (Value.ref D) && Value.builtin "BaseException.__getattribute__" == Value.builtin "object.__getattribute__") = true then _ else _) _ _ _
  rw [q1, if_neg Bool.false_ne_true]
  unfold getAttrByItsOwn hookBefore
  refine wpAny_bind ?_
  rw [if_pos (show onTheHeap (Value.ref D) = true from rfl)]
  refine l2.at ?_
  refine wpAny_bind (wpAny_attempt (wpAny_holding ?_))
  unfold callGetattribute
  rw [q0, if_neg Bool.false_ne_true]
  unfold boundAndCalled
  rw [PySem.F.excAttr_ValueError.ga.bind (.ref x)]
  refine wpAny_bind (wpAny_pure ?_)
  show wpAny _ _ (call (.builtin "BaseException.__getattribute__") [.ref x, .str "__class__" t]) _ _ _
  refine wpAny_call (codeAny_call_builtin PySem.F.excAttr_ValueError.ga.plain PySem.F.entry_bexc_ga ?_)
  refine @check_slot (model prog w) _ _ ⟨hp, g, d, t + 1, os⟩ "BaseException.__getattribute__" "BaseException" "__getattribute__" (.ref x) [.str "__class__" t] [] _ (by decide +kernel) (by decide +kernel) sub (PySem.F.args_bexc_ga (.ref x) (.str "__class__" t)) ?_
  unfold Builtin.«object.__getattribute__»
  refine wpAny_bind (wpAny_of_eq (a := ((Value.ref x : Value), [Value.str "__class__" t])) (by first | rfl | (simp only [slotArgs]; rfl)) ?_)
  refine wpAny_bind (wpAny_pure (wpAny_bind (l0.at (wpAny_bind (l3.at ?_)))))
  show wpAny _ _ (holding [Value.builtin "object.__class__"] (call (.builtin "getset_descriptor.__get__") [.builtin "object.__class__", .ref x, .ref D]) >>= ret) _ _ _
  refine wpAny_bind (wpAny_holding (wpAny_call (class_get (s := ⟨hp, g, d, t + 1, os⟩) (ox := ox) (od := od) X I T.hm ?_)))
  refine wpAny_pure ?_
  show wpAny _ _ (handedOut (.ref D)) _ _ _
  rw [handedOut_of (v := .ref D) rfl]
  first
    | exact wpAny_pure (wpAny_pure h)
    | exact wpAny_pure h
    | exact wpAny_pure (wpAny_bind (wpAny_pure (wpAny_pure h)))
theorem kitx_err (T : L2.ExcC K D) : KitX K (.ref x) (.ref D) (fun h => ∃ od, InstAt h x ox D od) where
  ty := fun _ _ _ ⟨_, I⟩ => I.type
  it := fun _ _ X _ => by
    obtain ⟨cdD, hcD, _⟩ := any_some T.hd
    unfold clsIn at hcD
    split at hcD
    · rename_i c' d' cd' sl' ho
      intro A' Q' E' s' k q
      unfold isType loadHead
      exact wpAny_bind (wpAny_loadPart (k _ _ (X _ _ ho)) (wpAny_pure q))
    · cases hcD
  ne := fun h tp dd its n sl X htp => by
    obtain ⟨cdD, hcD, _⟩ := any_some T.hd
    refine Bool.eq_false_iff.mpr fun q => ?_
    have e : D = tp := Value.ref.inj (beq_iff_eq.mp q)
    subst e
    unfold clsIn at hcD
    split at hcD
    · rename_i c' d' cd' sl' ho
      have z := (X _ _ ho).symm.trans htp
      cases z
    · cases hcD
  ca := fun X ⟨_, I⟩ k => ask_class T X I k
end
end XgIsa
namespace XgIsa
open PySem PySem.Spec PyProof.Rows L2
/-- isinstance(e, c), isinstance(e, (c1, c2, ..)), e the error that the suite holds at a (class at D, dict d) -/
def rIsX (K : PySem.W.Frag) (a : Addr) (cls : Value) (d : Option Addr) : List V → Hp → VK → Prop := fun xs H Q => ∃ (D : Addr) (dd : Addr) (fs : List (Str × V)) (y : V) (b : Bool), xs = [.ref a, y] ∧ cls = .ref D ∧ ExcC K D ∧ d = some dd ∧ H dd = some (.xd fs) ∧
  ((∃ u, ClsV y u ∧ PySem.W.kitOne K (.ref D) u = some b) ∨ ∃ tp cs us, y = .ref tp ∧ H tp = some (.tup cs) ∧ Paired ClsV cs us ∧ PySem.W.kitAny K (.ref D) us = some b) ∧ Q (.bl b) H
theorem call_isX {X : Cx} {a : Addr} {cls : Value} {d : Option Addr} {oe : Obj} {pn : List (Addr × Obj)} (hz : Zc cls d oe) (hf : ∃ vs, oe.data = .fields vs) : CallR (X.suite a ((a, oe) :: pn)) (.builtin "isinstance") (rIsX X.K a cls d) := by
  intro pins s σ H xs us Q I r h
  obtain ⟨D, dd, fs, y, b, rfl, ec, T, ed, hd, ho, q⟩ := h
  obtain ⟨u1, u2, rfl, r1, r2⟩ := vals2 r
  cases (show u1 = Value.ref a from r1)
  subst ec
  subst ed
  obtain ⟨hget, _⟩ := I.pin (a, oe) (List.mem_append.mpr (.inl List.mem_cons_self))
  obtain ⟨vs, hv⟩ := hf
  obtain ⟨mA, hns, _⟩ := (show ObjOk X.prog X.w H s.heap dd (.xd fs) from I.hok dd _ hd)
  obtain ⟨od, hod, _⟩ := lookIn_ns hns
  have J : PySem.W.InstAt s.heap a oe D (some od) := ⟨hget, hz.1, by unfold PySem.W.notCls; rw [hv] <;> rfl, by rw [hz.2]; exact hod⟩
  rcases ho with ⟨u, hc, e⟩ | ⟨tp, cs, ws, rfl, hT, k, e⟩
  · have ew := hc.eq r2
    subst ew
    exact PySem.W.kia_one (kitx_err T) I.kIn ⟨_, J⟩ e (fun z => nomatch z) fun tk => ⟨.bl b, H, I.kept (t' := tk) fun _ _ z => z, rfl, q⟩
  · cases (show u2 = Value.ref tp from r2)
    obtain ⟨_, its, rv, o, h1, h2, n, h3⟩ := (show ObjOk X.prog X.w H s.heap tp (.tup cs) from I.hok tp _ hT)
    have e3 := ClsV.all k rv
    subst e3
    obtain ⟨oc, od', dt, sl⟩ := o
    simp only at h2 h3
    subst h2 h3
    exact PySem.W.kia_tup (kitx_err T) I.kIn ⟨_, J⟩ h1 e (fun z => nomatch z) fun tk => ⟨.bl b, H, I.kept (t' := tk) fun _ _ z => z, rfl, q⟩
end XgIsa
namespace XgIter
open PySem PySem.Spec PyProof.Rows L2 PySem.W
/-! Pairs walked: zip of two of (list, tuple, text) in any mix; enumerate of a tuple. -/
/-- what is walked: a list, a tuple, a text -/
inductive Src where
  | L (a : Addr)
  | T (a : Addr)
  | S (z : Str)
/-- its items -/
def Src.rd (K : PySem.W.Frag) : Src → Hp → List V → Prop
  | .L a, H, xs => SqL K H a xs
  | .T a, H, xs => SqT K H a xs
  | .S z, _, xs => xs = z.cps.toList.map fun c => V.str ⟨#[c]⟩
def Src.v : Src → V
  | .L a => .ref a
  | .T a => .ref a
  | .S z => .str z
/-- the same, with the text's token -/
inductive Srm where
  | L (a : Addr)
  | T (a : Addr)
  | S (z : Str) (t : Tok)
def Srm.src : Srm → Src
  | .L a => .L a
  | .T a => .T a
  | .S z _ => .S z
def Srm.ext : Srm → List Addr
  | .L a => [a]
  | .T a => [a]
  | .S _ _ => []
def Srm.val : Srm → Value
  | .L a => .ref a
  | .T a => .ref a
  | .S z t => .str z t
def Srm.it : Srm → Addr → Nat → Heap → Prop
  | .L a, b, i, h => h.IsListIter b a i
  | .T a, b, i, h => h.IsTupleIter b a i
  | .S z t, b, i, h => h.IsStrIter b (strIterType z) z t i
def Srm.beg : Srm → Obj
  | .L a => { cls := .type "list_iterator", data := .fields #[.ref a, .int 0 0] }
  | .T a => { cls := .type "tuple_iterator", data := .fields #[.ref a, .int 0 0] }
  | .S z t => { cls := .type (strIterType z), data := .fields #[.str z t, .int 0 0] }
theorem Srm.itAt {r : Srm} {b : Addr} {i : Nat} {h h' : Heap} (st : r.it b i h) (k : ∀ o, h.get? b = some o → h'.get? b = some o) : r.it b i h' := by
  cases r with
  | L a => exact Heap.IsListIter.at st k
  | T a => exact Heap.IsTupleIter.at st k
  | S z t => obtain ⟨o, e, rest⟩ := st; exact ⟨o, k o e, rest⟩
theorem Srm.itObj {r : Srm} {b : Addr} {i : Nat} {h : Heap} (st : r.it b i h) : ∃ o, h.get? b = some o ∧ ∀ v, o.data ≠ .cell v := by
  cases r with
  | L a => obtain ⟨o, e, _, d⟩ := st; exact ⟨o, e, fun v q => by rw [d] at q; cases q⟩
  | T a => obtain ⟨o, e, _, d⟩ := st; exact ⟨o, e, fun v q => by rw [d] at q; cases q⟩
  | S z t => obtain ⟨o, e, _, d⟩ := st; exact ⟨o, e, fun v q => by rw [d] at q; cases q⟩
theorem Srm.itBeg {r : Srm} {b : Addr} {h : Heap} (e : h.get? b = some r.beg) : r.it b 0 h := by
  cases r with
  | L a => exact ⟨_, e, rfl, rfl⟩
  | T a => exact ⟨_, e, rfl, rfl⟩
  | S z t => exact ⟨_, e, rfl, rfl⟩
section
variable {X : Cx} {pins : List (Addr × Obj)} {σ : L2.St} {H : Hp} {s : Shared}
/-- what its iterator draws -/
theorem drawn (I : Inv X pins σ H s) {A : Around} (hh : A.handled = none) {r : Srm} {b : Addr} {xs : List V} (hq : r.src.rd X.K H xs) (hb : b ∉ r.ext) :
    ∃ (P : Nat → Value → Prop) (St : Nat → Heap → Prop), Draws X.prog X.w A b (b :: r.ext) xs.length P St ∧ (∀ i, r.it b i s.heap → St i s.heap) ∧ (∀ i h, St i h → r.it b i h) ∧ ∀ i v, P i v → ∃ y, xs[i]? = some y ∧ RelV y v := by
  cases r with
  | L a =>
    obtain ⟨its, rv, p, _⟩ := I.list hq
    have hne : a ≠ b := fun z => hb (by rw [z]; exact List.mem_cons_self)
    refine ⟨fun i v => its.toArray[i]? = some v, fun i h => h.IsListIter b a i ∧ h.IsList a its.toArray, ?_, fun i st => ⟨st, p.isList⟩, fun i h st => st.1, fun i v hv => ?_⟩
    · rw [rv.length]
      exact Draws.list hh b a hne its.toArray
    · have hv' : its[i]? = some v := by simpa using hv
      have hl : i < its.length := (List.getElem?_eq_some_iff.mp hv').1
      have hx : i < xs.length := by rw [rv.length]; exact hl
      obtain ⟨u, hu, ru⟩ := rv.get (List.getElem?_eq_getElem hx)
      rw [hv'] at hu
      cases hu
      exact ⟨_, List.getElem?_eq_getElem hx, ru⟩
  | T a =>
    obtain ⟨its, rv, p, _⟩ := I.tuple hq
    have hne : a ≠ b := fun z => hb (by rw [z]; exact List.mem_cons_self)
    refine ⟨fun i v => its.toArray[i]? = some v, fun i h => h.IsTupleIter b a i ∧ h.IsTuple a its.toArray, ?_, fun i st => ⟨st, p⟩, fun i h st => st.1, fun i v hv => ?_⟩
    · rw [rv.length]
      exact Draws.tuple hh b a hne its.toArray
    · have hv' : its[i]? = some v := by simpa using hv
      have hl : i < its.length := (List.getElem?_eq_some_iff.mp hv').1
      have hx : i < xs.length := by rw [rv.length]; exact hl
      obtain ⟨u, hu, ru⟩ := rv.get (List.getElem?_eq_getElem hx)
      rw [hv'] at hu
      cases hu
      exact ⟨_, List.getElem?_eq_getElem hx, ru⟩
  | S z t =>
    have hq' : xs = z.cps.toList.map fun c => V.str ⟨#[c]⟩ := hq
    subst hq'
    refine ⟨fun i v => ∃ c u, z.cps[i]? = some c ∧ v = .str ⟨#[c]⟩ u, fun i h => h.IsStrIter b (strIterType z) z t i, ?_, fun i st => st, fun i h st => st, fun i v hv => ?_⟩
    · rw [List.length_map]
      exact Draws.text hh b z t
    · obtain ⟨c, u, hc, rfl⟩ := hv
      refine ⟨.str ⟨#[c]⟩, ?_, ⟨u, rfl⟩⟩
      rw [List.getElem?_map]
      have hc' : z.cps.toList[i]? = some c := by simpa using hc
      rw [hc']
      rfl
theorem rd_inj (I : Inv X pins σ H s) {r : Src} {xs ys : List V} (h1 : r.rd X.K H xs) (h2 : r.rd X.K H ys) : xs = ys := by
  cases r with
  | L a => exact I.list_inj h1 h2
  | T a => exact I.tuple_inj h1 h2
  | S z =>
    have e1 : xs = z.cps.toList.map fun c => V.str ⟨#[c]⟩ := h1
    have e2 : ys = z.cps.toList.map fun c => V.str ⟨#[c]⟩ := h2
    rw [e1, e2]
theorem begins {r : Srm} {xs : List V} (I : Inv X pins σ H s) (hq : r.src.rd X.K H xs) : ∃ P : Heap → Prop, Begins r.val r.beg P ∧ P s.heap ∧ ∀ b ∈ r.ext, b < s.heap.objs.size := by
  cases r with
  | L a =>
    obtain ⟨its, rv, p, _⟩ := I.list hq
    exact ⟨_, begins_list a its.toArray, p.isList, fun b hb => by rw [List.mem_singleton.mp hb]; exact p.lt⟩
  | T a =>
    obtain ⟨its, rv, p, _⟩ := I.tuple hq
    obtain ⟨o, ho, _⟩ := id p
    exact ⟨_, begins_tuple a its.toArray, p, fun b hb => by rw [List.mem_singleton.mp hb]; exact Heap.lt_size ho⟩
  | S z t => exact ⟨_, begins_text z t, True.intro, fun b hb => absurd hb (by show b ∉ ([] : List Addr); simp)⟩
end
/-- two of them, in new pairs -/
def Itx (K : PySem.W.Frag) (s1 s2 : Src) : It :=
  ⟨fun i H => ∃ xs ys : List V, s1.rd K H xs ∧ s2.rd K H ys ∧ i < min xs.length ys.length,
    fun i H v H' => ∃ T x y, v = .ref T ∧ H T = none ∧ H' = upd H T (.tup [x, y]) ∧ (∀ xs, s1.rd K H xs → xs[i]? = some x) ∧ ∀ ys, s2.rd K H ys → ys[i]? = some y,
    fun i H => ∃ xs ys : List V, s1.rd K H xs ∧ s2.rd K H ys ∧ i = min xs.length ys.length⟩
theorem turn_x {P : Program} {w : World} {K : PySem.W.Frag} {elts : List Expr} {kk : Nat} {tpos : Pos} {r1 r2 : Srm} {z TI TO i1 i2 : Addr} (D : ZipSep2 z TI TO i1 i2 (i1 :: r1.ext) (i2 :: r2.ext)) (n1 : i1 ∉ r1.ext) (n2 : i2 ∉ r2.ext) :
    Turn P w K (.Tuple elts kk tpos) (Itx K r1.src r2.src) [z, TI, TO, i1, i2] z (fun i h => IsZip h z TI TO .none ∧ IsTupOf2 h TI (.ref i1) (.ref i2) ∧ (∃ x y, IsTupOf2 h TO x y) ∧ r1.it i1 i h ∧ r2.it i2 i h) where
  mem := by simp
  obj := fun i h st c hc => by
    obtain ⟨hz, hTI, ⟨x, y, hTO⟩, h1, h2⟩ := st
    have e' : c = z ∨ c = TI ∨ c = TO ∨ c = i1 ∨ c = i2 := by simpa using hc
    rcases e' with q | q | q | q | q
    · rw [q]; exact ⟨_, hz, fun v q => nomatch q⟩
    · rw [q]; exact ⟨_, hTI, fun v q => nomatch q⟩
    · rw [q]; exact ⟨_, hTO, fun v q => nomatch q⟩
    · rw [q]; exact Srm.itObj h1
    · rw [q]; exact Srm.itObj h2
  keep := fun i h h' st k => by
    obtain ⟨hz, hTI, ⟨x, y, hTO⟩, h1, h2⟩ := st
    exact ⟨k z (by simp) _ hz, k TI (by simp) _ hTI, ⟨x, y, k TO (by simp) _ hTO⟩, Srm.itAt h1 fun o q => k i1 (by simp) o q, Srm.itAt h2 fun o q => k i2 (by simp) o q⟩
  item := by
    intro X hP hw hK hc i pins s σ H E I hf st hg
    subst hP hw hK
    obtain ⟨hz, hTI, hTO, h1, h2⟩ := st
    obtain ⟨xs, ys, hqx, hqy, hlt⟩ := hg
    have hh : X.A.in1.handled = none := I.ok.hd hc
    obtain ⟨P1, S1, D1, a1, b1, c1⟩ := drawn I hh hqx n1
    obtain ⟨P2, S2, D2, a2, b2, c2⟩ := drawn I hh hqy n2
    have W := WalksT.zipD2 D D1 D2
    refine W.item i s _ _ hlt ⟨hz, hTI, hTO, a1 i h1, a2 i h2⟩ fun T vals h' tk hv hT hIs hM hk => ⟨.ref T, rfl, ?_⟩
    obtain ⟨v1, v2, p1, p2, rfl⟩ := hv
    obtain ⟨x, hx, rx⟩ := c1 i v1 p1
    obtain ⟨y, hy, ry⟩ := c2 i v2 p2
    refine W.go elts kk tpos i T _ _ _ hM fun h'' hst hk2 => ?_
    have apT := W.apart i T h' hM
    obtain ⟨oT, hoT, hcT, nT, hdT⟩ := hIs
    have hoT2 := hk2 T oT apT hoT
    have new : ObjOk X.prog X.w (upd H T (.tup [x, y])) h'' T (.tup [x, y]) := ⟨by show 2 ≤ sizeLine; decide, [v1, v2], .cons rx (.cons ry .nil), ⟨oT, hoT2, hcT, nT, hdT⟩⟩
    have wr5 : ∀ c, c ∈ [z, TO, i1, i2] → c ∈ [z, TI, TO, i1, i2] := fun c hcm => by
      have e' : c = z ∨ c = TO ∨ c = i1 ∨ c = i2 := by simpa using hcm
      rcases e' with q | q | q | q <;> simp [q]
    have I1 : Inv X pins σ (upd H T (.tup [x, y])) { s with heap := h'', toks := tk } :=
      I.turnedNew (t' := tk) (ch := [z, TI, TO, i1, i2]) (fun c o hb q => hk2 c o (fun z => hb (wr5 c z)) (hk c o (fun z => hb (wr5 c z)) q)) hf hT new
    obtain ⟨gz, gTI, gTO, g1, g2⟩ := hst
    refine ⟨.ref T, _, I1, rfl, ⟨T, x, y, rfl, I.hok.fresh hT, rfl, fun l hl => by rw [rd_inj I hl hqx]; exact hx, fun l hl => by rw [rd_inj I hl hqy]; exact hy⟩, ⟨gz, gTI, gTO, b1 _ _ g1, b2 _ _ g2⟩, fun c hcm => ?_⟩
    have hlt2 : c < s.heap.objs.size := by
      have e' : c = z ∨ c = TI ∨ c = TO ∨ c = i1 ∨ c = i2 := by simpa using hcm
      obtain ⟨_, _, hTO⟩ := hTO
      rcases e' with q | q | q | q | q
      · rw [q]; exact Heap.lt_size hz
      · rw [q]; exact Heap.lt_size hTI
      · rw [q]; exact Heap.lt_size hTO
      · rw [q]; obtain ⟨_, e1, _⟩ := Srm.itObj h1; exact Heap.lt_size e1
      · rw [q]; obtain ⟨_, e2, _⟩ := Srm.itObj h2; exact Heap.lt_size e2
    rw [upd_ne (Nat.ne_of_lt (Nat.lt_of_lt_of_le hlt2 hT))]
    exact (hf c hcm).1
  done := by
    intro X hP hw hK hc i pins s σ H E I hf st hg
    subst hP hw hK
    obtain ⟨hz, hTI, hTO, h1, h2⟩ := st
    obtain ⟨xs, ys, hqx, hqy, rfl⟩ := hg
    have hh : X.A.in1.handled = none := I.ok.hd hc
    obtain ⟨P1, S1, D1, a1, b1, c1⟩ := drawn I hh hqx n1
    obtain ⟨P2, S2, D2, a2, b2, c2⟩ := drawn I hh hqy n2
    have W := WalksT.zipD2 D D1 D2
    have wr5 : ∀ c, c ∈ [z, TO, i1, i2] → c ∈ [z, TI, TO, i1, i2] := fun c hcm => by
      have e' : c = z ∨ c = TO ∨ c = i1 ∨ c = i2 := by simpa using hcm
      rcases e' with q | q | q | q <;> simp [q]
    exact W.done s _ _ ⟨hz, hTI, hTO, a1 _ h1, a2 _ h2⟩ fun h' tk hk => ⟨rfl, I.turnedL (t' := tk) (ch := [z, TI, TO, i1, i2]) (fun c o hb q => hk c o (fun z => hb (wr5 c z)) q) hf⟩
  self := fun A i s Q E st h => wpAny_pyIter_zip st.1 h
def iZipX (K : PySem.W.Frag) (ta : TA) : TI := fun σ H R => ta σ H fun vs H1 => ∃ s1 s2 : Src, vs = [s1.v, s2.v] ∧ (∃ xs, s1.rd K H1 xs) ∧ (∃ ys, s2.rd K H1 ys) ∧ R (Itx K s1 s2) H1
theorem srm_of {s1 : Src} {u : Value} (r : RelV s1.v u) : ∃ r1 : Srm, r1.src = s1 ∧ u = r1.val := by
  cases s1 with
  | L a => exact ⟨.L a, rfl, r⟩
  | T a => exact ⟨.T a, rfl, r⟩
  | S z => obtain ⟨t, e⟩ := (show ∃ t, u = Value.str z t from r); exact ⟨.S z t, rfl, e⟩
theorem pi_zipX {X : Cx} {e e2 : Expr} {ta : TA} {p pos tpos : Pos} {elts : List Expr} {kk : Nat} (hg : Gl X "zip") (hm : X.mg "zip" = none) (ha : PA X [e, e2] ta)
    (hs : starEach [e, e2] X.env = (false, eval e X.env) :: starEach [e2] X.env := by rfl) (hpl : (backTo pos (starEach [e2] X.env)).any (·.1) = false := by rfl) :
    PI X (.Tuple elts kk tpos) (.Call (.Name "zip" p) [e, e2] [] pos) (iZipX X.K ta) := by
  refine ⟨fun pins s σ H R I h => ?_⟩
  refine Call_ (ld_blt I hg hm PyProof.Rows.boot_zip (PyProof.Rows.callWith_type1 (thn (ha.run pos pins s σ H _ I h) fun us s1 ⟨vs, H1, I1, r1, q1⟩ => ?_) hs hpl))
  obtain ⟨sa, sb, ex, ⟨xs, hqx⟩, ⟨ys, hqy⟩, q⟩ := q1
  subst ex
  obtain ⟨u1, u2, rfl, ra, rb⟩ := vals2 r1
  obtain ⟨m1, rfl, rfl⟩ := srm_of ra
  obtain ⟨m2, rfl, rfl⟩ := srm_of rb
  obtain ⟨Pa, Ba, pa, la⟩ := begins I1 hqx
  obtain ⟨Pb, Bb, pb, lb⟩ := begins I1 hqy
  refine zip_begins2 Ba Bb pa pb fun h' hz hTI hTO g1 g2 hsz hk => wpAny_pyIter_zip hz ?_
  have I2 : Inv X pins σ H1 { s1 with heap := h' } := I1.kept (t' := s1.toks) hk
  have fresh5 : ∀ c, c ∈ [s1.heap.objs.size + 4, s1.heap.objs.size + 2, s1.heap.objs.size + 3, s1.heap.objs.size, s1.heap.objs.size + 1] → FpOk X pins H1 c := fun c hcm => by
    have e' : c = s1.heap.objs.size + 4 ∨ c = s1.heap.objs.size + 2 ∨ c = s1.heap.objs.size + 3 ∨ c = s1.heap.objs.size ∨ c = s1.heap.objs.size + 1 := by simpa using hcm
    have hle : s1.heap.objs.size ≤ c := by
      rcases e' with z | z | z | z | z
      · rw [z]; exact Nat.le_add_right _ _
      · rw [z]; exact Nat.le_add_right _ _
      · rw [z]; exact Nat.le_add_right _ _
      · rw [z]; exact Nat.le_refl _
      · rw [z]; exact Nat.le_add_right _ _
    exact I1.fpOk hle (I1.hok.fresh hle)
  exact ⟨s1.heap.objs.size + 4, [s1.heap.objs.size + 4, s1.heap.objs.size + 2, s1.heap.objs.size + 3, s1.heap.objs.size, s1.heap.objs.size + 1], _, _, H1, rfl, I2,
    turn_x (zip_sep2 la lb) (fun hm => absurd (la _ hm) (Nat.lt_irrefl _)) (fun hm => absurd (lb _ hm) (by intro z; exact absurd z (Nat.not_lt.mpr (Nat.le_succ _)))), ⟨hz, hTI, ⟨_, _, hTO⟩, Srm.itBeg g1, Srm.itBeg g2⟩, fresh5, q⟩
theorem walk_x {K : PySem.W.Frag} {s1 s2 : Src} {G : Hp → Prop} {xs ys : List V} (h1 : ∀ H, G H → s1.rd K H xs) (h2 : ∀ H, G H → s2.rd K H ys) :
    L2.Walk (Itx K s1 s2) (min xs.length ys.length) G (L2.YPair (fun i => xs[i]?) fun i => ys[i]?) where
  goes := fun i H hi g => ⟨xs, ys, h1 H g, h2 H g, hi⟩
  stops := fun H g => ⟨xs, ys, h1 H g, h2 H g, rfl⟩
  yields := fun i H v H' hi g ⟨T, x, y, e, n, eh, q1, q2⟩ => ⟨T, x, y, e, n, eh, q1 _ (h1 H g), q2 _ (h2 H g)⟩
/-! enumerate of a list, a tuple, a text -/
set_option maxHeartbeats 4000000 in
theorem enum_new {v : Value} {o : Obj} {P : Heap → Prop} (B : Begins v o P) :
    Meets (Builtin.«enumerate.__new__» ⟨[.type "enumerate", v], []⟩) (fun _ R s => P s.heap ∧
      R (.ok (.ret (.ref (s.heap.push o).objs.size))) { s with heap := (s.heap.push o).push { cls := .type "enumerate", data := .fields #[.none, .bool false, .ref s.heap.objs.size, rawInt 0, .none, .none] } }) :=
  .of_wp fun prog w A R s hyp => by
    obtain ⟨hp, g, d, tk, os⟩ := s
    obtain ⟨h1, hyp⟩ := hyp
    have hsub := sub_enumerate
    have q1 : ∀ {A' : Around} {E : Value → Shared → Prop} {Q : Value → Shared → Prop}, Q (.ref hp.objs.size) ⟨hp.push o, g, d, tk, os⟩ → wpAny (model prog w) A' (pyIter v) Q E ⟨hp, g, d, tk, os⟩ :=
      fun q => B.iter prog w _ _ ⟨hp, g, d, tk, os⟩ _ h1 q
    wp_walk using q1
    refine wpAny_stack_any fun st => wpAny_pure ?_
    split
    · rename_i c _ _ _ _ _
      cases (c == Value.type "enumerate")
      · wp_walk using q1
        exact ⟨_, rfl, hyp⟩
      · wp_walk using q1
        exact ⟨_, rfl, hyp⟩
    · wp_walk using q1
      exact ⟨_, rfl, hyp⟩
theorem enum_call {prog : Program} {w : World} {A : Around} {E : Value → Shared → Prop} {s : Shared} {v : Value} {o : Obj} {P : Heap → Prop} {Q : Value → Shared → Prop} (B : Begins v o P) (h1 : P s.heap)
    (h : ∀ h', IsEnum h' (s.heap.objs.size + 1) s.heap.objs.size 0 .none → h'.get? s.heap.objs.size = some o → (∀ b u, s.heap.get? b = some u → h'.get? b = some u) → Q (.ref (s.heap.objs.size + 1)) { s with heap := h' }) :
    wpAny (model prog w) A (call (.type "enumerate") [v]) Q E s := by
  refine callType_new F.called_enumerate (by decide) (F.typeCall_enumerate_1 _) (F.newCall_enumerate_1 _) (fun obj => F.args_object_init_2 obj _) F.entry_enumerate_new
    (enum_new B) ⟨h1, ?_⟩
  have hz : (s.heap.push o).objs.size = s.heap.objs.size + 1 := Heap.size_push ..
  show _ ∧ _
  rw [hz]
  have he : IsEnum ((s.heap.push o).push { cls := .type "enumerate", data := .fields #[.none, .bool false, .ref s.heap.objs.size, rawInt 0, .none, .none] }) (s.heap.objs.size + 1) s.heap.objs.size 0 .none := by
    have z := Heap.get?_push_size (s.heap.push o) (o := { cls := .type "enumerate", data := .fields #[.none, .bool false, .ref s.heap.objs.size, rawInt 0, .none, .none] }) rfl
    rw [hz] at z
    exact z
  exact ⟨⟨_, he, rfl⟩, h _ he (Heap.get?_push_of_some _ (Heap.get?_push_size _ B.free)) fun b u x => Heap.get?_push_of_some _ (Heap.get?_push_of_some _ x)⟩
def Ity (K : PySem.W.Frag) (s1 : Src) : It :=
  ⟨fun i H => ∃ xs : List V, s1.rd K H xs ∧ i < xs.length,
    fun i H v H' => ∃ T y, v = .ref T ∧ H T = none ∧ H' = upd H T (.tup [.int (i : Nat), y]) ∧ ∀ xs, s1.rd K H xs → xs[i]? = some y,
    fun i H => ∃ xs : List V, s1.rd K H xs ∧ i = xs.length⟩
theorem turn_y {P : Program} {w : World} {K : PySem.W.Frag} {elts : List Expr} {kk : Nat} {tpos : Pos} {r1 : Srm} {e i1 : Addr} (n1 : i1 ∉ r1.ext) (he1 : e ≠ i1) (he2 : e ∉ r1.ext) :
    Turn P w K (.Tuple elts kk tpos) (Ity K r1.src) [e, i1] e (fun i h => (∃ old, IsEnum h e i1 ((0 : Int) + (i : Int)) old) ∧ r1.it i1 i h) where
  mem := by simp
  obj := fun i h st c hc => by
    obtain ⟨⟨old, he⟩, h1⟩ := st
    have e' : c = e ∨ c = i1 := by simpa using hc
    rcases e' with q | q
    · rw [q]; exact ⟨_, he, fun v q => nomatch q⟩
    · rw [q]; exact Srm.itObj h1
  keep := fun i h h' st k => by
    obtain ⟨⟨old, he⟩, h1⟩ := st
    exact ⟨⟨old, k e (by simp) _ he⟩, Srm.itAt h1 fun o q => k i1 (by simp) o q⟩
  item := by
    intro X hP hw hK hc i pins s σ H E I hf st hg
    subst hP hw hK
    obtain ⟨he, h1⟩ := st
    obtain ⟨xs, hqx, hlt⟩ := hg
    have hh : X.A.in1.handled = none := I.ok.hd hc
    obtain ⟨P1, S1, D1, a1, b1, c1⟩ := drawn I hh hqx n1
    have W := WalksT.enumFrom 0 D1 e he1 (by intro z; rcases List.mem_cons.mp z with z | z; exact he1 z; exact he2 z) List.mem_cons_self
    refine W.item i s _ _ hlt ⟨he, a1 i h1⟩ fun T vals h' tk hv hT hIs hM hk => ⟨.ref T, rfl, ?_⟩
    obtain ⟨t1, v1, p1, rfl⟩ := hv
    obtain ⟨x, hx, rx⟩ := c1 i v1 p1
    refine W.go elts kk tpos i T _ _ _ hM fun h'' hst hk2 => ?_
    have apT := W.apart i T h' hM
    obtain ⟨oT, hoT, hcT, nT, hdT⟩ := hIs
    have hoT2 := hk2 T oT apT hoT
    have e0 : (0 : Int) + (i : Int) = ((i : Nat) : Int) := by omega
    rw [e0] at hdT
    have new : ObjOk X.prog X.w (upd H T (.tup [.int (i : Nat), x])) h'' T (.tup [.int (i : Nat), x]) := ⟨by show 2 ≤ sizeLine; decide, [.int (i : Nat) t1, v1], .cons ⟨_, rfl⟩ (.cons rx .nil), ⟨oT, hoT2, hcT, nT, hdT⟩⟩
    have I1 : Inv X pins σ (upd H T (.tup [.int (i : Nat), x])) { s with heap := h'', toks := tk } :=
      I.turnedNew (t' := tk) (ch := [e, i1]) (fun c o hb q => hk2 c o hb (hk c o hb q)) hf hT new
    obtain ⟨ge, g1⟩ := hst
    refine ⟨.ref T, _, I1, rfl, ⟨T, x, rfl, I.hok.fresh hT, rfl, fun l hl => by rw [rd_inj I hl hqx]; exact hx⟩, ⟨ge, b1 _ _ g1⟩, fun c hcm => ?_⟩
    have hlt2 : c < s.heap.objs.size := by
      have e' : c = e ∨ c = i1 := by simpa using hcm
      obtain ⟨_, he⟩ := he
      rcases e' with q | q
      · rw [q]; exact Heap.lt_size he
      · rw [q]; obtain ⟨_, e1, _⟩ := Srm.itObj h1; exact Heap.lt_size e1
    rw [upd_ne (Nat.ne_of_lt (Nat.lt_of_lt_of_le hlt2 hT))]
    exact (hf c hcm).1
  done := by
    intro X hP hw hK hc i pins s σ H E I hf st hg
    subst hP hw hK
    obtain ⟨he, h1⟩ := st
    obtain ⟨xs, hqx, rfl⟩ := hg
    have hh : X.A.in1.handled = none := I.ok.hd hc
    obtain ⟨P1, S1, D1, a1, b1, c1⟩ := drawn I hh hqx n1
    have W := WalksT.enumFrom 0 D1 e he1 (by intro z; rcases List.mem_cons.mp z with z | z; exact he1 z; exact he2 z) List.mem_cons_self
    exact W.done s _ _ ⟨he, a1 _ h1⟩ fun h' tk hk => ⟨rfl, I.turnedL (t' := tk) (ch := [e, i1]) (fun c o hb q => hk c o hb q) hf⟩
  self := fun A i s Q E st h => let ⟨⟨_, he⟩, _⟩ := st; wpAny_pyIter_enum he h
def iEnumX (K : PySem.W.Frag) (ta : TA) : TI := fun σ H R => ta σ H fun vs H1 => ∃ s1 : Src, vs = [s1.v] ∧ (∃ xs, s1.rd K H1 xs) ∧ R (Ity K s1) H1
theorem pi_enumX {X : Cx} {e : Expr} {ta : TA} {p pos tpos : Pos} {elts : List Expr} {kk : Nat} (hg : Gl X "enumerate") (hm : X.mg "enumerate" = none) (ha : PA X [e] ta) (hs : starEach [e] X.env = [(false, eval e X.env)] := by rfl) :
    PI X (.Tuple elts kk tpos) (.Call (.Name "enumerate" p) [e] [] pos) (iEnumX X.K ta) := by
  refine ⟨fun pins s σ H R I h => ?_⟩
  refine Call_ (ld_blt I hg hm boot_enumerate (PyProof.Rows.callWith_type1 (thn (ha.run pos pins s σ H _ I h) fun us s1 ⟨vs, H1, I1, r1, q1⟩ => ?_) hs rfl))
  obtain ⟨sa, ex, ⟨xs, hqx⟩, q⟩ := q1
  subst ex
  cases r1 with
  | cons ra rr =>
    cases rr
    obtain ⟨m1, rfl, rfl⟩ := srm_of ra
    obtain ⟨Pa, Ba, pa, la⟩ := begins I1 hqx
    refine enum_call Ba pa fun h' he g1 hk => wpAny_pyIter_enum he ?_
    have I2 : Inv X pins σ H1 { s1 with heap := h' } := I1.kept (t' := s1.toks) hk
    refine ⟨s1.heap.objs.size + 1, [s1.heap.objs.size + 1, s1.heap.objs.size], _, _, H1, rfl, I2,
      turn_y (fun hm => absurd (la _ hm) (Nat.lt_irrefl _)) (Nat.succ_ne_self _) (fun hm => absurd (la _ hm) (by intro z; exact absurd z (Nat.not_lt.mpr (Nat.le_succ _)))), ⟨⟨.none, he⟩, Srm.itBeg g1⟩, fun b hb => ?_, q⟩
    have e' : b = s1.heap.objs.size + 1 ∨ b = s1.heap.objs.size := by simpa using hb
    have hle : s1.heap.objs.size ≤ b := by
      rcases e' with z | z
      · rw [z]; exact Nat.le_add_right _ _
      · rw [z]; exact Nat.le_refl _
    exact I1.fpOk hle (I1.hok.fresh hle)
theorem walk_y {K : PySem.W.Frag} {s1 : Src} {G : Hp → Prop} {xs : List V} (h1 : ∀ H, G H → s1.rd K H xs) :
    L2.Walk (Ity K s1) xs.length G (L2.YPair (fun i => some (.int (i : Nat))) fun i => xs[i]?) where
  goes := fun i H hi g => ⟨xs, h1 H g, hi⟩
  stops := fun H g => ⟨xs, h1 H g, rfl⟩
  yields := fun i H v H' hi g ⟨T, x, e, n, eh, q1⟩ => ⟨T, _, x, e, n, eh, rfl, q1 _ (h1 H g)⟩
end XgIter
namespace XgSet
open PySem PySem.Spec PyProof.Rows L2
/-- set(t), t a tuple of ints -/
def rSetT (K : PySem.W.Frag) (w : World) : List V → Hp → VK → Prop := fun xs H Q => ∃ (l : Addr) (ns : List Int), xs = [.ref l] ∧ SqT K H l (ns.map V.int) ∧ ns.length ≤ 50 ∧
  ∀ (a : Addr) (c : Nat), H a = none → c ≤ ns.length → Q (.ref a) (upd H a (SetO w a (fun j => decide (j ∈ ns)) c))
theorem cr_setT {X : Cx} (hc : X.calm = true) : CallR X (.type "set") (rSetT X.K X.w) := by
  intro pins s σ H xs us Q I r h
  obtain ⟨l, ns, rfl, hq, hl, q⟩ := h
  cases r with
  | cons r rr =>
    cases rr
    cases r
    obtain ⟨its, rv, pt, hz⟩ := I.tuple hq
    have hi : IntsAre its.toArray.toList ns := ints_of_vals rv
    have hd := I.ok.hd hc
    refine call_set_tupI ns hd (show s.heap.IsTuple l its.toArray from pt) hi (by unfold scanBound; omega) fun h' tk c R1 hcn k => ?_
    have hn : H s.heap.objs.size = none := I.hok.fresh (Nat.le_refl _)
    exact ⟨.ref s.heap.objs.size, _, I.laid (t' := tk) k (Nat.le_refl _) (setO_new R1), rfl, q _ c hn hcn⟩
end XgSet
namespace Xg
open PySem L2
/-! ### tuples of the written part, read by a computation -/
def kTup (K : PySem.W.Frag) (a : Addr) : Option (List Value) := match K.lookup a with
  | some ⟨.type "tuple", _, .seq its _, _⟩ => if its.size ≤ 1000 then some its.toList else none
  | _ => none
theorem kTup_sq {K : PySem.W.Frag} {a : Addr} {us : List Value} (h : kTup K a = some us) {xs : List V} (r : Vals xs us) (H : Hp) : SqT K H a xs := by
  unfold kTup at h
  split at h
  · rename_i d its n sl e
    split at h
    · rename_i hz
      cases h
      exact Or.inr ⟨_, its, n, e, rfl, rfl, Nat.le_trans hz (by decide), r⟩
    · cases h
  · cases h
def strsV : List Value → List Str → Bool
  | [], [] => true
  | .str x _ :: us, z :: zs => decide (x = z) && strsV us zs
  | _, _ => false
theorem strsV_vals : ∀ {us : List Value} {zs : List Str}, strsV us zs = true → Vals (zs.map V.str) us
  | [], [], _ => .nil
  | [], _ :: _, h => by simp [strsV] at h
  | u :: us, [], h => by cases u <;> simp [strsV] at h
  | u :: us, z :: zs, h => by
    cases u with
    | str x t =>
      have h' : (decide (x = z) && strsV us zs) = true := h
      obtain ⟨h1, h2⟩ := Bool.and_eq_true_iff.mp h'
      have e := of_decide_eq_true h1
      subst e
      exact .cons ⟨t, rfl⟩ (strsV_vals h2)
    | _ => simp [strsV] at h
def strsB (K : PySem.W.Frag) (a : Addr) (zs : List Str) : Bool := match kTup K a with
  | some us => strsV us zs
  | none => false
theorem strsB_sq {K : PySem.W.Frag} {a : Addr} {zs : List Str} (h : strsB K a zs = true) (H : Hp) : SqT K H a (zs.map V.str) := by
  unfold strsB at h
  split at h
  · rename_i us e
    exact kTup_sq e (strsV_vals h) H
  · cases h
def pairsV (K : PySem.W.Frag) : List Value → List (Str × Str) → Bool
  | [], [] => true
  | .ref b :: us, z :: zs => strsB K b [z.1, z.2] && pairsV K us zs
  | _, _ => false
theorem pairsV_as {K : PySem.W.Frag} : ∀ {us : List Value} {zs : List (Str × Str)}, pairsV K us zs = true → ∃ as : List Addr, as.length = zs.length ∧ Vals (as.map V.ref) us ∧
    ∀ (i : Nat) (b : Addr) (z : Str × Str), as[i]? = some b → zs[i]? = some z → ∀ H, SqT K H b [V.str z.1, V.str z.2]
  | [], [], _ => ⟨[], rfl, .nil, fun i b z h => by simp at h⟩
  | [], _ :: _, h => by simp [pairsV] at h
  | u :: us, [], h => by cases u <;> simp [pairsV] at h
  | u :: us, z :: zs, h => by
    cases u with
    | ref b =>
      have h' : (strsB K b [z.1, z.2] && pairsV K us zs) = true := h
      obtain ⟨h1, h2⟩ := Bool.and_eq_true_iff.mp h'
      obtain ⟨as, l, v, k⟩ := pairsV_as h2
      refine ⟨b :: as, by simp [l], .cons rfl v, fun i b' z' e1 e2 H => ?_⟩
      cases i with
      | zero =>
        have q1 : b = b' := by simpa using e1
        have q2 : z = z' := by simpa using e2
        subst q1
        subst q2
        exact strsB_sq h1 H
      | succ i => exact k i b' z' (by simpa using e1) (by simpa using e2) H
    | _ => simp [pairsV] at h
def pairsB (K : PySem.W.Frag) (a : Addr) (zs : List (Str × Str)) : Bool := match kTup K a with
  | some us => pairsV K us zs
  | none => false
theorem pairsB_sq {K : PySem.W.Frag} {a : Addr} {zs : List (Str × Str)} (h : pairsB K a zs = true) : ∃ as : List Addr, as.length = zs.length ∧ (∀ H, SqT K H a (as.map V.ref)) ∧
    ∀ (i : Nat) (b : Addr) (z : Str × Str), as[i]? = some b → zs[i]? = some z → ∀ H, SqT K H b [V.str z.1, V.str z.2] := by
  unfold pairsB at h
  split at h
  · rename_i us e
    obtain ⟨as, l, v, k⟩ := pairsV_as h
    exact ⟨as, l, fun H => kTup_sq e v H, k⟩
  · cases h
/-! ### a def of the text as its callers see it -/
structure Df (K : PySem.W.Frag) (mg : Str → Option Value) (x qual : Str) (st : Stmt) (f : Addr) (ps : List Str) : Prop where
  g : mg x = some (.ref f)
  k : PySem.W.keepIn K (.ref f) = true
  ex : ∃ fd, Fun K x qual st f fd ∧ Binds K fd ps []
/-! ### heaps -/
theorem same_new {H H' : Hp} {p : Addr} {o : HO} (e : Same H H') (h : H' p = none) : Same H (upd H' p o) := fun b u q => by
  rw [upd_ne (ne_of_none (e b u q) h)]
  exact e b u q
theorem same_mut {H H' : Hp} {p : Addr} {o : HO} (e : Same H H') (h : H p = none) : Same H (upd H' p o) := fun b u q => by
  rw [upd_ne (ne_of_none q h)]
  exact e b u q
theorem same_sqT {K : PySem.W.Frag} {H H' : Hp} {a : Addr} {xs : List V} (e : Same H H') (h : SqT K H a xs) : SqT K H' a xs := by
  rcases h with (h | ⟨o, h⟩) | h
  · exact .inl (.inl (e _ _ h))
  · exact .inl (.inr ⟨o, e _ _ h⟩)
  · exact .inr h
theorem sz1000 {n : Nat} (h : n ≤ 1000) : n ≤ sizeLine := Nat.le_trans h (by decide)
theorem lt1000 {n : Nat} (h : n ≤ 1000) : n < sizeLine := Nat.lt_of_le_of_lt h (by decide)
/-! ### the row of digits -/
structure Dig (row : List Int) : Prop where
  lo : ∀ v ∈ row, 0 ≤ v ∧ v < 16
def pick (row : List Int) (i : Int) (m : Int) : Int := (row.getD i.toNat 0 + 16 * row.getD (i.toNat + 1) 0) % m
theorem pick_lo {row : List Int} {i m : Int} (h : 0 < m) : 0 ≤ pick row i m := Int.emod_nonneg _ (by omega)
theorem pick_hi {row : List Int} {i m : Int} (h : 0 < m) : pick row i m < m := Int.emod_lt_of_pos _ h
def spRow (K : PySem.W.Frag) : Sp := fun vs H Q _ => ∃ (a : Addr) (ns : List Int) (m : Int), vs = [.ref a, .int m] ∧ SqL K H a (ns.map V.int) ∧ ns.length ≤ 63 ∧ 0 ≤ m ∧ m ≤ 900 ∧
  ∀ (H' : Hp) (p : Addr) (row : List Int), Same H H' → H p = none → H' p = some (.lst (row.map V.int)) → (row.length : Int) ≤ m → Dig row → Q (.ref p) H'
def spPick (K : PySem.W.Frag) : Sp := fun vs H Q _ => ∃ (a : Addr) (row : List Int) (i m : Int), vs = [.ref a, .int i, .int m] ∧ SqL K H a (row.map V.int) ∧ Dig row ∧ 0 ≤ i ∧ i < 100000 ∧ 0 < m ∧ Q (.int (pick row i m)) H
theorem atI_int {row : List Int} {i : Int} (h0 : 0 ≤ i) (h1 : i < (row.length : Int)) : atI (row.map V.int) i = some (.int (row.getD i.toNat 0)) := by
  obtain ⟨k, rfl⟩ := Int.eq_ofNat_of_zero_le h0
  have hk : k < row.length := by omega
  refine (atI_nat (xs := row.map V.int) (j := k) (v := .int (row.getD k 0)) ?_)
  rw [List.getElem?_map, List.getElem?_eq_getElem hk]
  simp [List.getD, List.getElem?_eq_getElem hk]
theorem getD_out {row : List Int} {k : Nat} (h : row.length ≤ k) : row.getD k 0 = 0 := by
  simp [List.getD, List.getElem?_eq_none h]
theorem dig_getD {row : List Int} (d : Dig row) (k : Nat) : 0 ≤ row.getD k 0 ∧ row.getD k 0 < 16 := by
  by_cases h : k < row.length
  · have e : row.getD k 0 = row[k] := by simp [List.getD, List.getElem?_eq_getElem h]
    rw [e]
    exact d.lo _ (List.getElem_mem h)
  · rw [getD_out (by omega)]
    omega
theorem dig_nil : Dig [] := ⟨fun v hv => nomatch hv⟩
theorem dig_more {row : List Int} {v : Int} (d : Dig row) (h0 : 0 ≤ v) (h1 : v < 16) : Dig (row ++ [v]) := ⟨fun u hu => by
  rcases List.mem_append.mp hu with hu | hu
  · exact d.lo u hu
  · rw [List.mem_singleton.mp hu]
    exact ⟨h0, h1⟩⟩
end Xg
namespace Xg
open PySem L2
open PySem.Spec PyProof.Rows
section
variable {X : Cx} {tg : Expr}
/-- a for over a list or a tuple -/
def iSeq (K : PySem.W.Frag) (tl : TE) : TI := fun σ H R => tl σ H fun x H1 => ∃ a, x = .ref a ∧ (((∃ xs, SqL K H1 a xs) ∧ R (Itl K a) H1) ∨ ((∃ xs, SqT K H1 a xs) ∧ R (Itt K a) H1))
theorem pi_seq {l : Expr} {tl : TE} (hl : PE X l tl) : PI X tg l (iSeq X.K tl) := by
  refine ⟨fun pins s σ H R I h => ?_⟩
  refine thn (hl.run pins s σ H _ I h) fun v s1 ⟨x, H1, I1, r1, q1⟩ => ?_
  obtain ⟨a, e, q1⟩ := q1
  subst e
  cases r1
  rcases q1 with ⟨⟨xs, hq⟩, q⟩ | ⟨⟨xs, hq⟩, q⟩
  · obtain ⟨its, rv, p, hz⟩ := I1.list hq
    refine wpAny_pyIter_list p.isList ?_
    refine ⟨s1.heap.objs.size, [s1.heap.objs.size], _, _, H1, rfl, I1.kept (t' := s1.toks) fun b o e => Heap.get?_push_of_some _ e, turn_list a _, ⟨_, Heap.get?_push_size _ rfl, rfl, rfl⟩, fun b hb => ?_, q⟩
    have e : b = s1.heap.objs.size := by simpa using hb
    subst e
    exact I1.fpOk (Nat.le_refl _) (I1.hok.fresh (Nat.le_refl _))
  · obtain ⟨its, rv, p, hz⟩ := I1.tuple hq
    refine wpAny_pyIter_tuple (show s1.heap.IsTuple a its.toArray from p) ?_
    refine ⟨s1.heap.objs.size, [s1.heap.objs.size], _, _, H1, rfl, I1.kept (t' := s1.toks) fun b o e => Heap.get?_push_of_some _ e, turn_tuple a _, ⟨_, Heap.get?_push_size _ rfl, rfl, rfl⟩, fun b hb => ?_, q⟩
    have e : b = s1.heap.objs.size := by simpa using hb
    subst e
    exact I1.fpOk (Nat.le_refl _) (I1.hok.fresh (Nat.le_refl _))
end
/-! ### data -/
theorem dpAll_ints {K : PySem.W.Frag} {H : Hp} : ∀ ns : List Int, DpAll K H (ns.map V.int) (ns.map PyData.int)
  | [] => .nil
  | n :: r => .cons (.int n) (dpAll_ints r)
theorem dp_L {K : PySem.W.Frag} {H : Hp} {a : Addr} {ns : List Int} (h : SqL K H a (ns.map V.int)) : Dp K H (.ref a) (.list (ns.map PyData.int)) := .lst h (dpAll_ints ns)
theorem dp_T {K : PySem.W.Frag} {H : Hp} {a : Addr} {ns : List Int} (h : SqT K H a (ns.map V.int)) : Dp K H (.ref a) (.tuple (ns.map PyData.int)) := .tup h (dpAll_ints ns)
theorem sh_L (ns : List Int) : PySem.SeqAt.shaped (.list (ns.map PyData.int)) = true := PySem.W.shaped_ints ns
theorem sh_T (ns : List Int) : PySem.SeqAt.shaped (.tuple (ns.map PyData.int)) = true := by
  have h1 := PySem.W.depthAll_ints ns
  have h2 : PyData.depth (.tuple (ns.map PyData.int)) ≤ 64 := by simp only [PyData.depth]; omega
  show (PyData.canLay0 (.tuple (ns.map PyData.int)) && decide (PyData.depth (.tuple (ns.map PyData.int)) ≤ 64)) = true
  rw [Bool.and_eq_true]
  exact ⟨by simp only [PyData.canLay0]; exact PySem.W.canLayAll0_ints ns, decide_eq_true h2⟩
theorem ev_L (ns : List Int) : PyData.eqv (.list (ns.map PyData.int)) (.list (ns.map PyData.int)) = true := PySem.SeqAt.eqv_refl _ (PySem.SeqAt.canLay_of_shaped (sh_L ns))
theorem ev_T (ns : List Int) : PyData.eqv (.tuple (ns.map PyData.int)) (.tuple (ns.map PyData.int)) = true := PySem.SeqAt.eqv_refl _ (PySem.SeqAt.canLay_of_shaped (sh_T ns))
end Xg
namespace Xg
open PySem L2
open PySem.Spec PyProof.Rows
/-! ### lists of texts as data -/
theorem dpAll_strs {K : PySem.W.Frag} {H : Hp} : ∀ zs : List Str, DpAll K H (zs.map V.str) (zs.map PyData.str)
  | [] => .nil
  | n :: r => .cons (.str n) (dpAll_strs r)
theorem dp_LS {K : PySem.W.Frag} {H : Hp} {a : Addr} {zs : List Str} (h : SqL K H a (zs.map V.str)) : Dp K H (.ref a) (.list (zs.map PyData.str)) := .lst h (dpAll_strs zs)
theorem lay_strs : ∀ zs : List Str, (∀ z ∈ zs, PyData.strOk z = true) → PyData.canLayAll0 (zs.map PyData.str) = true
  | [], _ => by simp [PyData.canLayAll0]
  | z :: r, h => by simp [PyData.canLayAll0, PyData.canLay0, lay_strs r fun y hy => h y (List.mem_cons_of_mem _ hy), h z List.mem_cons_self]
theorem deep_strs : ∀ zs : List Str, PyData.depthAll (zs.map PyData.str) ≤ 1
  | [] => by simp [PyData.depthAll]
  | _ :: r => by
    have q := deep_strs r
    simp only [List.map_cons, PyData.depthAll, PyData.depth]
    omega
theorem sh_LS {zs : List Str} (h : ∀ z ∈ zs, PyData.strOk z = true) : PySem.SeqAt.shaped (.list (zs.map PyData.str)) = true := by
  have h1 := deep_strs zs
  have h2 : PyData.depth (.list (zs.map PyData.str)) ≤ 64 := by simp only [PyData.depth]; omega
  show (PyData.canLay0 (.list (zs.map PyData.str)) && decide (PyData.depth (.list (zs.map PyData.str)) ≤ 64)) = true
  rw [Bool.and_eq_true]
  exact ⟨by simp only [PyData.canLay0]; exact lay_strs zs h, decide_eq_true h2⟩
theorem ev_LS {zs : List Str} (h : ∀ z ∈ zs, PyData.strOk z = true) : PyData.eqv (.list (zs.map PyData.str)) (.list (zs.map PyData.str)) = true := PySem.SeqAt.eqv_refl _ (PySem.SeqAt.canLay_of_shaped (sh_LS h))
end Xg
namespace Xg
open PySem L2 PySem.Spec PyProof.Rows
/-! ### what the top has left, told by one computation -/
def fnD (x : Str) (st : Stmt) : He.FnD := ⟨(x, none), x, x, defArgs st, defBody st, defScope st⟩
theorem df_mk {K : PySem.W.Frag} {h : Heap} {mg : Str → Option Value} {x : Str} {st : Stmt} {ps : List Str} (X : K.In h) (G : h.Ns mainGlobals mg) {fa : List He.Fa} {fn : List He.FnD} (c : He.SaysE fa fn K) (i : Nat)
    (h1 : fn[i]? = some (fnD x st)) (h2 : fa[2 * i]? = some (.glo x)) (h3 : fa[2 * i + 1]? = some (.keep x))
    (b : ∀ (kV doc pm : Value) (an : Option Addr) (cdv ct : Value) (us : List Value), us.length = ps.length → bindArgs (PySem.W.fnOf x x (defArgs st) (defBody st) (defScope st) .none kV doc pm an cdv ct) ⟨us, []⟩ = pure (ps.zip us)) :
    Df K mg x x st (He.ga K x) ps := by
  obtain ⟨oc, od, osl, kV, doc, pm, an, cdv, ct, l, cd⟩ := c.def_ i h1
  have k := He.keep_ok (c.fact _ h3)
  have F : Fun K x x st (He.ga K x) _ := fun_mk l cd k
  exact ⟨He.glo_ok X G (c.fact _ h2), k, _, F, F.binds b⟩
def kInt (K : PySem.W.Frag) (a : Addr) (x : Str) (i : Int) : Bool := match PySem.W.nsIn K a x with
  | some (some (.int j _)) => decide (j = i)
  | _ => false
theorem kInt_ok {K : PySem.W.Frag} {a : Addr} {x : Str} {i : Int} (h : kInt K a x i = true) : ∃ u, PySem.W.nsIn K a x = some (some u) ∧ RelV (.int i) u := by
  unfold kInt at h
  split at h
  · rename_i j t e
    have q := of_decide_eq_true h
    subst q
    exact ⟨_, e, t, rfl⟩
  · cases h
def dObs (K : PySem.W.Frag) (a : Addr) : Option (Bool × List (Option Str × Int)) := match K.lookup a with
  | some ⟨c, none, .dict es _, sl⟩ => some (decide (c = .type "dict") && decide (sl.size = 0), es.toList.map fun e => ((match e.key with
    | .str x _ => some x
    | _ => none), e.hash))
  | _ => none
theorem keys_of {P : Params} : ∀ {es : List DictEntry} {zs : List Str}, (es.map fun e => ((match e.key with
    | .str x _ => some x
    | _ => none : Option Str), e.hash)) = zs.map (fun x => (some x, PyData.keyHash P x)) → PySem.W.KeysLit P es
  | [], _, _ => True.intro
  | _ :: _, [], h => by cases h
  | e :: es, z :: zs, h => by
    rw [List.map_cons, List.map_cons] at h
    injection h with h1 h2
    injection h1 with h3 h4
    refine ⟨?_, keys_of h2⟩
    cases hk : e.key with
    | str x t =>
      rw [hk] at h3
      have h5 : some x = some z := h3
      cases h5
      exact ⟨z, t, rfl, h4⟩
    | _ =>
      rw [hk] at h3
      cases h3
theorem dObs_ok {K : PySem.W.Frag} {P : Params} {a : Addr} {zs : List Str} (h : dObs K a = some (true, zs.map fun x => (some x, PyData.keyHash P x))) : ∃ es n, K.lookup a = some ⟨.type "dict", none, .dict es n, #[]⟩ ∧ PySem.W.KeysLit P es.toList := by
  unfold dObs at h
  split at h
  · rename_i c es n sl e
    injection h with h
    injection h with h1 h2
    obtain ⟨h3, h4⟩ := Bool.and_eq_true_iff.mp h1
    have h5 := of_decide_eq_true h3
    have h6 := Array.eq_empty_of_size_eq_zero (of_decide_eq_true h4)
    subst h5 h6
    exact ⟨es, n, e, keys_of h2⟩
  · cases h
end Xg
namespace Xg
open PySem L2 PySem.Spec PyProof.Rows
/-- an own error's class and its maker, told by rows that each compute -/
theorem stxt_mk {P : Program} {K : PySem.W.Frag} {h : Heap} {mg : Str → Option Value} {x f txt : Str} {C fI : Addr} (X : K.In h) (G : h.Ns mainGlobals mg) (fok : XgSup.FOk f)
    (gC : PySem.W.nsIn K mainGlobals x = some (some (.ref C)))
    (iC : PySem.W.findIn K (.ref C) "__init__" = some (some (.ref fI)))
    {nm q N bs bm sn sub ab col dd k0 k1 k2 k3 k5} (cl1 : K.lookup C = some (excClassObj nm q C N bs bm true sn sub ab col dd k0 k1 k2 k3 k5 "ValueError.__new__")) (cl2 : HandSPX.refsVE bm = true)
    (sa : PySem.W.findIn K (.ref C) "__setattr__" = some (some (.builtin "object.__setattr__")))
    (ga : PySem.W.findIn K (.ref C) "__getattribute__" = some (some (.builtin "BaseException.__getattribute__")))
    (gg : PySem.W.findIn K (.ref C) "__getattr__" = some none) (noN : PySem.W.findIn K (.ref C) f = some none)
    (tC : PySem.W.typeIn K (.ref fI) = some (.type "function")) (kC : PySem.W.keepIn K (.ref C) = true)
    (exC : PySem.W.subIn K (.ref C) (.type "BaseException") = some true) (veC : PySem.W.subIn K (.ref C) (.type "ValueError") = some true)
    (tyC : PySem.W.typeIn K (.ref C) = some (.type "type")) (hdC : PySem.W.hasDictIn K C = true)
    (sup : PySem.W.ks_superIn K C C "__init__" = some (some (.builtin "ValueError.__init__"))) (slf : PySem.W.mroIn K C (.ref C) = some true)
    (nop : PySem.W.nsIn K cStatics "thirdparty.any" = some none) (gS : PySem.W.nsIn K mainGlobals "super" = some none)
    (tops : (P.main.scope.names.lookup ("super" : Str)).isSome = false)
    {qual : Str} {oc : Value} {od : Option Addr} {doc pm : Value} {an : Option Addr} {cda cc : Addr} {ct : Value} {osl : Array (Option Value)} {p1 p2 a1 a2 a3 a4 a5 b1 b2 b3 b4 c1 c2 c3 c4 : Pos}
    {ccl : Value} {cdd : Option Addr} {vs : Array Value} {ccs : Array (Option Value)} {file : Str} {tf : Tok} {cl : Value} {cld : Option Addr} {csl : Array (Option Value)}
    (g1 : K.lookup fI = some ⟨oc, od, .func (PySem.W.ksFn "__init__" qual (XgSup.mA f p1 p2) (XgSup.mB f txt a1 a2 a3 a4 a5 b1 b2 b3 b4 c1 c2 c3 c4) (XgSup.mS f) .none .none doc pm an (.ref cda) ct cc), osl⟩)
    (g2 : PySem.W.codeIn K (.ref cda) qual = true)
    (g3 : K.lookup cda = some ⟨ccl, cdd, .fields vs, ccs⟩) (g4 : vs[2]? = some (.str file tf)) (g5 : ((P.main.file : Str) == file) = true)
    (g6 : K.lookup cc = some ⟨cl, cld, .cell (some (.ref C)), csl⟩) (g7 : XgSup.AskOk qual f txt a1 a2 a3 a4 b1 b2 b3 b4 fI cda cc) :
    XgSup.STxt P K mg x f txt C fI :=
  ⟨fok, PySem.W.mg_of X G gC, ⟨_, _, _, _, _, _, _, _, _, _, _, _, _, _, _, cl1, cl2⟩, sa, ga, gg, noN, iC, tC, kC, exC, veC, tyC, hdC, sup, slf, nop, PySem.W.mg_none_of X G gS, tops,
    ⟨_, _, _, _, _, _, _, _, _, _, _, _, _, _, _, _, _, _, _, _, _, _, _, _, _, _, _, _, _, _, _, _, _, _, g1, g2, g3, g4, g5, g6, g7⟩⟩
theorem excC_mk {K : PySem.W.Frag} {D : Addr} (h1 : PySem.W.findIn K (.ref D) "__getattribute__" = some (some (.builtin "BaseException.__getattribute__"))) (h2 : PySem.W.findIn K (.ref D) "__getattr__" = some none)
    (h3 : PySem.W.subIn K (.ref D) (.type "BaseException") = some true) (h4 : PySem.W.hasDictIn K D = true) (h5 : PySem.W.findIn K (.ref D) "__class__" = some (some (.builtin "object.__class__")))
    (h6 : PySem.W.specialIn K (.builtin "object.__class__") "__get__" = some (some (.builtin "getset_descriptor.__get__"))) (h7 : PySem.W.takesIn K (.builtin "object.__class__") = some true) (h8 : PySem.W.mroIn K D (.type "object") = some true) : ExcC K D :=
  ⟨h1, h2, h3, h4, h5, h6, h7, h8⟩
end Xg
namespace Xg
open PySem L2 PySem.Spec PyProof.Rows
/-- an own error's class and its maker, told by rows that each compute -/
theorem stxt_mk2 {P : Program} {K : PySem.W.Frag} {h : Heap} {mg : Str → Option Value} {x : Str} {C fI : Addr} (X : K.In h) (G : h.Ns mainGlobals mg)
    (gC : PySem.W.nsIn K mainGlobals x = some (some (.ref C)))
    (iC : PySem.W.findIn K (.ref C) "__init__" = some (some (.ref fI)))
    {nm q N bs bm sn sub ab col dd k0 k1 k2 k3 k5} (cl1 : K.lookup C = some (excClassObj nm q C N bs bm true sn sub ab col dd k0 k1 k2 k3 k5 "ValueError.__new__")) (cl2 : HandSPX.refsVE bm = true)
    (sa : PySem.W.findIn K (.ref C) "__setattr__" = some (some (.builtin "object.__setattr__")))
    (ga : PySem.W.findIn K (.ref C) "__getattribute__" = some (some (.builtin "BaseException.__getattribute__")))
    (gg : PySem.W.findIn K (.ref C) "__getattr__" = some none) (noL : PySem.W.findIn K (.ref C) XgSup2.fL = some none) (noC : PySem.W.findIn K (.ref C) XgSup2.fC = some none)
    (tC : PySem.W.typeIn K (.ref fI) = some (.type "function")) (kC : PySem.W.keepIn K (.ref C) = true)
    (exC : PySem.W.subIn K (.ref C) (.type "BaseException") = some true) (veC : PySem.W.subIn K (.ref C) (.type "ValueError") = some true)
    (tyC : PySem.W.typeIn K (.ref C) = some (.type "type")) (hdC : PySem.W.hasDictIn K C = true)
    (sup : PySem.W.ks_superIn K C C "__init__" = some (some (.builtin "ValueError.__init__"))) (slf : PySem.W.mroIn K C (.ref C) = some true)
    (nop : PySem.W.nsIn K cStatics "thirdparty.any" = some none) (gS : PySem.W.nsIn K mainGlobals "super" = some none)
    (tops : (P.main.scope.names.lookup ("super" : Str)).isSome = false)
    {qual : Str} {oc : Value} {od : Option Addr} {doc pm : Value} {an : Option Addr} {cda cc : Addr} {ct : Value} {osl : Array (Option Value)} {p1 p2 p3 a1 a2 a3 a4 a5 b1 b2 b3 b4 b5 b6 b7 c1 c2 c3 c4 d1 d2 d3 d4 : Pos}
    {ccl : Value} {cdd : Option Addr} {vs : Array Value} {ccs : Array (Option Value)} {file : Str} {tf : Tok} {cl : Value} {cld : Option Addr} {csl : Array (Option Value)}
    (g1 : K.lookup fI = some ⟨oc, od, .func (PySem.W.ksFn "__init__" qual (XgSup2.mA p1 p2 p3) (XgSup2.mB a1 a2 a3 a4 a5 b1 b2 b3 b4 b5 b6 b7 c1 c2 c3 c4 d1 d2 d3 d4) XgSup2.mS .none .none doc pm an (.ref cda) ct cc), osl⟩)
    (g2 : PySem.W.codeIn K (.ref cda) qual = true)
    (g3 : K.lookup cda = some ⟨ccl, cdd, .fields vs, ccs⟩) (g4 : vs[2]? = some (.str file tf)) (g5 : ((P.main.file : Str) == file) = true)
    (g6 : K.lookup cc = some ⟨cl, cld, .cell (some (.ref C)), csl⟩) (g7 : XgSup2.AskOk qual a1 a2 a3 a4 b1 b2 b3 b4 b5 b6 b7 fI cda cc) :
    XgSup2.STxt P K mg x C fI :=
  ⟨PySem.W.mg_of X G gC, ⟨_, _, _, _, _, _, _, _, _, _, _, _, _, _, _, cl1, cl2⟩, sa, ga, gg, noL, noC, iC, tC, kC, exC, veC, tyC, hdC, sup, slf, nop, PySem.W.mg_none_of X G gS, tops,
    ⟨_, _, _, _, _, _, _, _, _, _, _, _, _, _, _, _, _, _, _, _, _, _, _, _, _, _, _, _, _, _, _, _, _, _, _, _, _, _, _, _, _, _, g1, g2, g3, g4, g5, g6, g7⟩⟩
end Xg
namespace XgOwn
open PySem PySem.Spec PyProof.Rows L2
/-! ### a def whose promise may know how many objects there are when it starts -/
structure FnS (P : Program) (w : World) (K : PySem.W.Frag) (mg : Str → Option Value) (base : Heap) (k : Nat) (f : Addr) (fd : FuncData) (ps : List Str) (sp : Nat → Sp) : Prop where
  ln : ∀ n vs H Q E, sp n vs H Q E → vs.length = ps.length
  go : ∀ {A : Around} {outer : List Env} {s : Shared} {H : Hp} {args : Args} {us : List Value} {vs : List V} {Q : VK}, Room k A → Env0 P w K mg base A outer s H → BindsTo s fd args (ps.zip us) → Vals vs us → sp s.heap.objs.size vs H Q E0 →
    codeAny (model P w) A (.call (.ref f) args) (CR CX0 outer P w H s Q E0) s
section
variable {P : Program} {w : World} {K : PySem.W.Frag} {mg : Str → Option Value} {base : Heap}
theorem fnS_mk {x qual : Str} {st : Stmt} {f : Addr} {fd : FuncData} {N ps : List Str} {k : Nat} {sp : Nat → Sp} (F : Fun K x qual st f fd) (S : FnScope N ps (defScope st)) (ln : ∀ n vs H Q E, sp n vs H Q E → vs.length = ps.length)
    (hb : ∀ (cdv : Value) (A : Around) (outer : List Env) (s : Shared) (H : Hp) (vs : List V) (Q : VK), Room k (A.deeper (envOfC qual (defScope st) s.heap.objs.size f cdv)) → sp s.heap.objs.size vs H Q E0 →
      ∃ t, PSs (cxOf CX0 P w K mg base N qual (defScope st) f cdv A outer s H E0).nox (defBody st) t ∧ t { nx := fun _ H' => Q .non H', rt := Q } (start N vs) H) : FnS P w K mg base (k + 1) f fd ps sp := by
  obtain ⟨oc, od, kV, doc, pm, an, cdv, ct, osl, rfl, lk, hcd⟩ := F.ex
  refine ⟨ln, fun {A outer s H args us vs Q} hr e0 bt r hsp => ?_⟩
  have hl := ln _ _ _ _ _ hsp
  have kx : K.In s.heap := e0.mod.kin.keeps fun b o e => And.left (e0.bs b o e)
  have nl : s.heap.NoLimit := e0.mod.nolimit.keeps fun b o e => And.left (e0.bs b o e)
  refine codeAny_call_function hr.depth (kx _ _ lk) rfl S.co S.gen rfl (PySem.W.codeRec_of kx hcd) (bt _ _ _ _ ?_)
  refine wpAny_newFunctionEnv_cells S.kind ?_ fun env he s1 x => ?_
  · rintro ⟨n, v⟩ hy
    rcases S.par n (List.of_mem_zip hy).1 with q | q
    · exact Or.inl q
    · exact Or.inr ⟨q, PySem.W.cellsFrom_some _ _ _ (Or.inl q)⟩
  subst he
  refine ⟨nl.keeps x.toInCall.keep, codeAny_func ?_⟩
  obtain ⟨t, ht, hq⟩ := hb cdv A outer s H vs Q (hr.deeper _) hsp
  have I : Inv (cxOf CX0 P w K mg base N qual (defScope st) f cdv A outer s H E0) [] (start N vs) H s1 := inv_start S hr.hd e0 hl r x
  refine wpAny_mono (ht.nox.run [] s1 (start N vs) H _ I hq) (fun fl s' hs => ?_) fun e s' hs => hs
  cases fl with
  | ret u =>
    obtain ⟨v, _, H', J, rv, q⟩ := hs
    exact ⟨v, H', J.os, J.bare, J.base, J.hok, rv, q⟩
  | next =>
    obtain ⟨_, H', J, q⟩ := hs
    exact ⟨V.non, H', J.os, J.bare, J.base, J.hok, rfl, q⟩
  | brk =>
    obtain ⟨_, _, _, q⟩ := hs
    exact q.elim
  | cont =>
    obtain ⟨_, _, _, q⟩ := hs
    exact q.elim
end
section
variable {X : Cx} {k : Nat} {f : Addr} {fd : FuncData} {ps : List Str} {sp : Nat → Sp}
theorem runS {A1 : Around} {pins : List (Addr × Obj)} {σ : L2.St} {H : Hp} {s : Shared} {Q : VK} {us : List Value} {vs : List V} (F : FnS X.prog X.w X.K X.mg X.base k f fd ps sp) (sb : Sub X k A1) (hb : Binds X.K fd ps [])
    (I : Inv X pins σ H s) (r : Vals vs us) (h : sp s.heap.objs.size vs H Q E0) : wpAny (model X.prog X.w) A1 (call (.ref f) us) (EP X pins σ Q) X.xe s := by
  have e := I.env0
  have e0 : Env0 X.prog X.w X.K X.mg X.base A1 X.stack s H := ⟨sb.fr.trans e.frames, e.mod, e.bs, e.bsz, e.funs, e.frf, e.hok, e.bare⟩
  have hl : us.length = ps.length := r.length.symm.trans (F.ln _ _ _ _ _ h)
  have bt := hb s us I.kIn (by simpa using hl)
  rw [List.append_nil] at bt
  refine wpAny_call (codeAny_mono (F.go sb.room e0 bt r h) fun r s' hq => ?_)
  cases r with
  | error e => exact hq.elim
  | ok fl =>
    cases fl with
    | ret u => exact I.after hq
    | _ => exact hq.elim
end
end XgOwn
namespace XgOwn
open PySem PySem.Spec PyProof.Rows L2
/-! ### a tuple's iterator, known by its one object -/
def tiObj (t : Addr) (i : Nat) : Obj := { cls := .type "tuple_iterator", data := .fields #[.ref t, .int i 0] }
def TiO (t it : Addr) : HO := .ext fun h => h.get? it = some (tiObj t 0)
theorem tiO_ok {P : Program} {w : World} {H : Hp} {h : Heap} {t it : Addr} (e : h.get? it = some (tiObj t 0)) : ObjOk P w H h it (TiO t it) := ⟨e, ⟨_, e⟩, fun h1 h2 q k => k _ q⟩
section
variable {X : Cx}
/-- iter(xs), xs a tuple -/
def rIterT (K : PySem.W.Frag) (n : Nat) : List V → Hp → VK → Prop := fun xs H Q => ∃ (t : Addr) (zs : List V), xs = [.ref t] ∧ SqT K H t zs ∧ ∀ it, H it = none → n ≤ it → Q (.ref it) (upd H it (TiO t it))
theorem call_iterT : CallR X (.builtin "iter") (rIterT X.K X.s_0.heap.objs.size) := by
  intro pins s σ H xs us Q I r h
  obtain ⟨t, zs, rfl, hq, q⟩ := h
  obtain ⟨u, rfl, ru⟩ := r.one
  cases ru
  obtain ⟨its, rv, pt, hz⟩ := I.tuple hq
  refine Calls.call_function_entry (by decide +kernel) (by decide +kernel) PySem.W.kdk_entry_iter (PySem.W.kdk_args_iter _) ?_
  unfold Builtin.«iter»
  refine wpAny_bind (m := someArgs "iter" 1 2 _) (wpAny_of_eq (a := [Value.ref t]) (by first | rfl | kernel_rfl!) ?_)
  show wpAny _ _ (pyIter (.ref t) >>= _) _ _ _
  refine wpAny_bind (wpAny_pyIter_tuple (show s.heap.IsTuple t its.toArray from pt) ?_)
  refine wpAny_pure ⟨.ref s.heap.objs.size, rfl, ?_⟩
  exact ⟨.ref s.heap.objs.size, _, I.laid (t' := s.toks) (fun b u e => Heap.get?_push_of_some _ e) (Nat.le_refl _) (tiO_ok (Heap.get?_push_size _ rfl)), rfl, q _ (I.hok.fresh (Nat.le_refl _)) I.sz⟩
end
/-! ### own operators, own in -/
section
variable {X : Cx} {C f a : Addr} {fd : FuncData} {ps : List Str} {sp : Sp} {k : Nat} {E : XK} {CI : CXT}
/-- x OP y, both of the class at C, by its own def: sp is the def's promise -/
def rOpO (C : Addr) (sp : Sp) (E : XK) : R2 := fun x y H Q => ∃ a b dx dy fs gs, x = .ref a ∧ y = .ref b ∧ H a = some (.ins C dx fs) ∧ H b = some (.ins C dy gs) ∧ sp [.ref a, .ref b] H (fun v H' => (∃ p, v = .ref p) ∧ Q v H') E
theorem op_own {op : Operator} (FN : FnOk X.prog X.w X.K X.mg X.base CI k f fd ps sp) (hr : Room k X.A) (hb : Binds X.K fd ps []) (hx : Passes CI X E) (hc : PySem.W.selfFirst X.K C = true)
    (hs : PySem.W.findIn X.K (.ref C) (PySem.dunder op.info.2) = some (some (.ref f))) (hf : PySem.W.isFn X.K (.ref f) = true) : OpR X (binaryOp op) (rOpO C sp E) := by
  intro pins s σ H x y v u Q I rx ry h
  obtain ⟨a, b, dx, dy, fs, gs, rfl, rfl, ha, hb', hsp⟩ := h
  cases rx
  cases ry
  obtain ⟨mA, J, _⟩ := ins_get I.hok ha
  obtain ⟨mB, J', _⟩ := ins_get I.hok hb'
  obtain ⟨od, J, _⟩ := J.look
  obtain ⟨od', J', _⟩ := J'.look
  obtain ⟨m, hF⟩ := I.fr
  refine PySem.W.binop_K hF I.ok.mod.kin J J'.type hc hs hf ?_
  refine thn (run_fn (ds := []) (dvs := []) FN hr hb .nil hx I (vs := [.ref a, .ref b]) (us := [.ref a, .ref b]) (.cons rfl (.cons rfl .nil)) hsp) fun w s' hq => ?_
  obtain ⟨z, H', I', rz, ⟨p, ez⟩, q⟩ := hq
  subst ez
  cases rz
  exact ⟨.ref p, H', I', rfl, q⟩
/-- v in o, o of the class at C, by its own def, whose answer is a bool -/
def rInO (C : Addr) (neg : Bool) (sp : Sp) (E : XK) : R2 := fun x y H Q => ∃ a dx fs, y = .ref a ∧ H a = some (.ins C dx fs) ∧ sp [.ref a, x] H (fun v H' => ∃ c, v = .bl c ∧ Q (.bl (if neg then !c else c)) H') E
theorem op_inO (FN : FnOk X.prog X.w X.K X.mg X.base CI k f fd ps sp) (hr : Room k X.A) (hb : Binds X.K fd ps []) (hx : Passes CI X E)
    (hs : PySem.W.findIn X.K (.ref C) "__contains__" = some (some (.ref f))) (hf : PySem.W.isFn X.K (.ref f) = true) : OpR X (compareOp .In) (rInO C false sp E) := by
  intro pins s σ H x y v u Q I rx ry h
  obtain ⟨a, dx, fs, rfl, ha, hsp⟩ := h
  cases ry
  obtain ⟨mA, J, _⟩ := ins_get I.hok ha
  obtain ⟨od, J, _⟩ := J.look
  obtain ⟨m, hF⟩ := I.fr
  refine PySem.W.in_K hF I.ok.mod.kin J hs hf ?_
  refine thn (run_fn (ds := []) (dvs := []) FN hr hb .nil hx I (vs := [.ref a, x]) (us := [.ref a, v]) (.cons rfl (.cons rx .nil)) hsp) fun w s' hq => ?_
  obtain ⟨z, H', I', rz, c, ez, q⟩ := hq
  subst ez
  cases rz
  exact wpAny_truthy_bool ⟨.bl c, H', I', rfl, q⟩
end
end XgOwn
namespace XgOwn
open PySem PySem.Spec PyProof.Rows L2
/-! ### walking an own object whose __iter__ hands out its tuple's iterator -/
def spIter (K : PySem.W.Frag) (C : Addr) (fld : Str) : Nat → Sp := fun n vs H Q _ => ∃ a dx fs t zs, vs = [.ref a] ∧ H a = some (.ins C dx fs) ∧ fs.lookup fld = some (.ref t) ∧ SqT K H t zs ∧ ∀ it, H it = none → n ≤ it → Q (.ref it) (upd H it (TiO t it))
structure ItsC (K : PySem.W.Frag) (C fi : Addr) : Prop where
  it : PySem.W.findIn K (.ref C) "__iter__" = some (some (.ref fi))
  itF : PySem.W.isFn K (.ref fi) = true
  nolen : PySem.W.findIn K (.ref C) "__len__" = some none
  nohint : PySem.W.findIn K (.ref C) "__length_hint__" = some none
section
variable {X : Cx} {C fi : Addr} {fd : FuncData} {ps : List Str} {k : Nat} {fld : Str}
/-- __iter__ runs, the iterator stands there young and untouched -/
theorem own_iter {A1 : Around} {pins : List (Addr × Obj)} {σ : L2.St} {H : Hp} {s : Shared} {a dx t : Addr} {fs : List (Str × V)} {zs : List V} {Q : Value → Shared → Prop} (sb : Sub X k A1) (hc : ItsC X.K C fi)
    (F : FnS X.prog X.w X.K X.mg X.base k fi fd ps (spIter X.K C fld)) (hb : Binds X.K fd ps []) (I : Inv X pins σ H s) (ha : H a = some (.ins C dx fs)) (hl : fs.lookup fld = some (.ref t)) (ht : SqT X.K H t zs)
    (hq : ∀ (it : Addr) (s' : Shared), Inv X pins σ H s' → s'.heap.IsTupleIter it t 0 → FpOk X pins H it → Q (.ref it) s') : wpAny (model X.prog X.w) A1 (pyIter (.ref a)) Q X.xe s := by
  obtain ⟨mA, J, _⟩ := ins_get I.hok ha
  obtain ⟨od, J, _⟩ := J.look
  obtain ⟨m, hF⟩ := I.fr
  refine PySem.W.owit_iter hF I.ok.mod.kin J hc.it hc.itF ?_
  refine thn (runS (vs := [.ref a]) (us := [.ref a]) (Q := fun v H' => ∃ it, v = .ref it ∧ H it = none ∧ s.heap.objs.size ≤ it ∧ H' = upd H it (TiO t it)) F sb hb I (.cons rfl .nil) ⟨a, dx, fs, t, zs, rfl, ha, hl, ht, fun it h1 h2 => ⟨it, rfl, h1, h2, rfl⟩⟩) fun w s' hh => ?_
  obtain ⟨v, H', I', rv, it, ev, h1, h2, eH⟩ := hh
  subst ev eH
  cases rv
  have eo : s'.heap.get? it = some (tiObj t 0) := (I'.hok it _ upd_same).1
  have st : s'.heap.IsTupleIter it t 0 := ⟨_, eo, rfl, rfl⟩
  have I2 : Inv X pins σ (ItX.dropH (upd H it (TiO t it)) it) s' := ItX.inv_drop I' upd_same
  have fp := ItX.inv_fp I' (a := it) upd_same (Nat.le_trans I.sz h2)
  rw [ItX.dropH_upd h1] at I2 fp
  unfold PySem.W.OwitIt
  exact wpAny_specialOf (s := s') ⟨_, eo, rfl⟩ PyProof.Rows.slot_tupleiter_next.lookup (hq it s' I2 st fp)
/-- a for over a list, a tuple or such an object -/
def iAny (K : PySem.W.Frag) (C : Addr) (fld : Str) (tl : TE) : TI := fun σ H R => tl σ H fun x H1 => ∃ a, x = .ref a ∧ (((∃ xs, SqL K H1 a xs) ∧ R (Itl K a) H1) ∨ ((∃ xs, SqT K H1 a xs) ∧ R (Itt K a) H1) ∨
  ∃ dx fs t zs, H1 a = some (.ins C dx fs) ∧ fs.lookup fld = some (.ref t) ∧ SqT K H1 t zs ∧ R (Itt K t) H1)
theorem pi_any {tg l : Expr} {tl : TE} (hl : PE X l tl) (hr : Room k X.A) (hc : ItsC X.K C fi) (F : FnS X.prog X.w X.K X.mg X.base k fi fd ps (spIter X.K C fld)) (hb : Binds X.K fd ps []) : PI X tg l (iAny X.K C fld tl) := by
  refine ⟨fun pins s σ H R I h => ?_⟩
  refine thn (hl.run pins s σ H _ I h) fun v s1 ⟨x, H1, I1, r1, q1⟩ => ?_
  obtain ⟨a, e, q1⟩ := q1
  subst e
  cases r1
  have young : ∀ b ∈ [s1.heap.objs.size], FpOk X pins H1 b := fun b hb => by
    rw [List.mem_singleton.mp hb]
    exact I1.fpOk (Nat.le_refl _) (I1.hok.fresh (Nat.le_refl _))
  rcases q1 with ⟨⟨xs, hq⟩, q⟩ | ⟨⟨xs, hq⟩, q⟩ | ⟨dx, fs, t, zs, ha, hlk, ht, q⟩
  · obtain ⟨its, rv, p, hz⟩ := I1.list hq
    refine wpAny_pyIter_list p.isList ?_
    exact ⟨s1.heap.objs.size, [s1.heap.objs.size], _, _, H1, rfl, I1.kept (t' := s1.toks) fun b o e => Heap.get?_push_of_some _ e, turn_list a _, ⟨_, Heap.get?_push_size _ rfl, rfl, rfl⟩, young, q⟩
  · obtain ⟨its, rv, p, hz⟩ := I1.tuple hq
    refine wpAny_pyIter_tuple (show s1.heap.IsTuple a its.toArray from p) ?_
    exact ⟨s1.heap.objs.size, [s1.heap.objs.size], _, _, H1, rfl, I1.kept (t' := s1.toks) fun b o e => Heap.get?_push_of_some _ e, turn_tuple a _, ⟨_, Heap.get?_push_size _ rfl, rfl, rfl⟩, young, q⟩
  · refine own_iter ⟨hr, rfl⟩ hc F hb I1 ha hlk ht fun it s2 I2 st fp => ?_
    refine ⟨it, [it], _, _, H1, rfl, I2, turn_tuple t it, st, fun b hb => ?_, q⟩
    rw [List.mem_singleton.mp hb]
    exact fp
end
end XgOwn
namespace XgOwn
open PySem PySem.Spec PyProof.Rows L2
/-! ### list(o) of such an object -/
section
variable {X : Cx} {C fi : Addr} {fd : FuncData} {ps : List Str} {k : Nat} {fld : Str} {pins : List (Addr × Obj)} {σ : L2.St} {H : Hp}
theorem hint_none {M : Model} {A : Around} {E : Value → Shared → Prop} {s : Shared} {Q : Bool → Shared → Prop} {K : PySem.W.Frag} {a : Addr} {ox : Obj} {od : Option Obj} (hc : ItsC K C fi) (hK : K.In s.heap) (J : PySem.W.InstAt s.heap a ox C od) (h : Q true s) :
    wpAny M A (Builtin.List.listLengthHint (.ref a)) Q E s := by
  have q1 := PySem.W.looks_findIn (M := M) hK hc.nolen
  have q2 := PySem.W.looks_findIn (M := M) hK hc.nohint
  unfold Builtin.List.listLengthHint
  refine wpAny_bind (wpAny_bind (J.type.here (q1.here ?_)))
  refine PySem.W.KFB.if_not rfl (PySem.W.KFB.if_not rfl ?_)
  exact wpAny_bind (wpAny_bind (J.type.here (q2.here (wpAny_pure h))))
theorem tup_loop {A1 : Around} {Rs : Result → Shared → Prop} {q it t : Addr} {zs : List V} (hd : A1.in1.handled = none) (hq0 : H q = none) (ht : SqT X.K H t zs) (hdone : ∀ s, Inv X pins σ (upd H q (.lst zs)) s → Rs (.ok (.ret .none)) s) :
    ∀ (m i : Nat) (s : Shared), m + i = zs.length → Inv X pins σ (upd H q (.lst (zs.take i))) s → s.heap.IsTupleIter it t i → FpOk X pins (upd H q (.lst (zs.take i))) it →
      codeAny (model X.prog X.w) A1 (.builtin "list.extend.loop" ⟨[.ref q, .ref it, .none], []⟩) Rs s := by
  intro m
  induction m with
  | zero =>
    intro i s hm I st fp
    have hi : i = zs.length := by omega
    have ht' : SqT X.K (upd H q (.lst (zs.take i))) t zs := Xg.same_sqT (Xg.same_new (Same.refl H) hq0) ht
    obtain ⟨its, rv, p, hz⟩ := I.tuple ht'
    obtain ⟨f0, f1, f2, f3, f4, f5⟩ := fp
    have hl := rv.length
    refine codeAny_builtin PySem.F.entry_extend_loop ?_
    rw [Around.under_plainId PySem.F.plain_extend_loop _]
    show wpAny _ A1.in1 (pyNext (.ref it) >>= _) _ _ s
    refine wpAny_bind (wpAny_pyNext_tuple_end hd st (show s.heap.IsTuple t its.toArray from p) (by simp; omega) fun h' eb => ?_)
    refine wpAny_pure (hdone _ ?_)
    have I1 := I.turned (t' := s.toks) (fun b o hb e => eb b o hb e) f0 f1 f3 f4 f5
    rw [hi, List.take_length] at I1
    exact I1
  | succ m ih =>
    intro i s hm I st fp
    have hi : i < zs.length := by omega
    have ht' : SqT X.K (upd H q (.lst (zs.take i))) t zs := Xg.same_sqT (Xg.same_new (Same.refl H) hq0) ht
    obtain ⟨its, rv, p, hz⟩ := I.tuple ht'
    have hx : zs[i]? = some zs[i] := List.getElem?_eq_getElem hi
    obtain ⟨u, hu, ru⟩ := rv.get hx
    have fp' := fp
    obtain ⟨f0, f1, f2, f3, f4, f5⟩ := fp
    refine codeAny_builtin PySem.F.entry_extend_loop ?_
    rw [Around.under_plainId PySem.F.plain_extend_loop _]
    show wpAny _ A1.in1 (pyNext (.ref it) >>= _) _ _ s
    refine wpAny_bind (wpAny_pyNext_tuple_item st (show s.heap.IsTuple t its.toArray from p) (x := u) (by simpa using hu) fun h' st' sb => ?_)
    have I1 : Inv X pins σ (upd H q (.lst (zs.take i))) { s with heap := h' } := I.turned (t' := s.toks) (fun b o hb e => (sb.2 b hb).trans e) f0 f1 f3 f4 f5
    show wpAny _ A1.in1 (updateSeq q (·.push u) >>= _) _ _ _
    obtain ⟨z, its2, k2, r2, hl2, e⟩ := I1.lstM upd_same
    have hn : it ≠ q := fun z => by rw [z, upd_same] at f0; cases f0
    have hz2 : zs.length ≤ sizeLine := hz
    have l2 : its2.length ≤ sizeLine := by
      have := r2.length
      rw [List.length_take] at this
      omega
    refine wpAny_bind (wpAny_updateSeq e rfl (wpAny_pure ⟨plainId_quiet PySem.F.plain_extend_loop _, ?_⟩) (by rw [List.size_toArray]; omega) (by show (its2.toArray.push u).size ≤ sizeLine + 1; rw [Array.size_push, List.size_toArray]; omega))
    have tk : zs.take (i + 1) = zs.take i ++ [zs[i]] := by
      rw [List.take_succ, hx]
      rfl
    have I2 := I1.lset (f := (·.push u)) (its' := its2 ++ [u]) (ys := zs.take (i + 1)) (t' := s.toks) upd_same e (by simp) (by rw [tk]; exact r2.append (.cons ru .nil)) (by rw [List.length_take]; omega)
    rw [upd_upd] at I2
    refine ih (i + 1) _ (by omega) I2 ?_ ⟨by rw [upd_ne hn]; rw [upd_ne hn] at f0; exact f0, f1, f2, f3, f4, f5⟩
    exact st'.at fun o ho => (Heap.get?_update_other _ _ (Ne.symm hn)).trans ho
end
end XgOwn
namespace XgOwn
open PySem PySem.Spec PyProof.Rows L2
section
variable {X : Cx} {C fi : Addr} {fd : FuncData} {ps : List Str} {k : Nat} {fld : Str} {pins : List (Addr × Obj)} {σ : L2.St} {H : Hp}
theorem tup_extend {A1 : Around} {Rs : Result → Shared → Prop} {s : Shared} {q a dx t : Addr} {fs : List (Str × V)} {zs : List V} (sb : Sub X k A1.in1) (hc : ItsC X.K C fi)
    (F : FnS X.prog X.w X.K X.mg X.base k fi fd ps (spIter X.K C fld)) (hb : Binds X.K fd ps []) (hq0 : H q = none) (I : Inv X pins σ (upd H q (.lst [])) s) (ha : H a = some (.ins C dx fs)) (hlk : fs.lookup fld = some (.ref t)) (ht : SqT X.K H t zs)
    (hdone : ∀ s, Inv X pins σ (upd H q (.lst zs)) s → Rs (.ok (.ret .none)) s) (herr : ∀ e s, X.xe e s → Rs (.error e) s) :
    wpAny (model X.prog X.w) A1.in1 (Builtin.List.listExtendWith (.ref q) (.ref a) .none)
      (fun fin s' => match fin with | .done f => Rs (.ok f) s' | .again c' => c'.quiet = true ∧ codeAny (model X.prog X.w) A1 c' Rs s') (fun e s' => Rs (.error e) s') s := by
  have hne : q ≠ a := (ne_of_none ha hq0).symm
  have ha' : upd H q (.lst []) a = some (.ins C dx fs) := by rw [upd_ne hne.symm]; exact ha
  have ht' : SqT X.K (upd H q (.lst [])) t zs := Xg.same_sqT (Xg.same_new (Same.refl H) hq0) ht
  obtain ⟨mA, J, _⟩ := ins_get I.hok ha'
  obtain ⟨od, J, _⟩ := J.look
  unfold Builtin.List.listExtendWith
  refine wpAny_bind (J.type.here ?_)
  have b1 : Builtin.List.listSameRef (.ref q) (.ref a) = false := by simp [Builtin.List.listSameRef, hne]
  have b2 : (Value.ref C == Value.type "list") = false := rfl
  have b3 : (Value.ref C == Value.type "tuple") = false := rfl
  simp only [b1, b2, b3, Bool.or_false, Bool.false_eq_true, if_false]
  refine wpAny_bind (wpAny_mono (own_iter sb hc F hb I ha' hlk ht' (Q := fun v s' => ∃ it, v = .ref it ∧ Inv X pins σ (upd H q (.lst [])) s' ∧ s'.heap.IsTupleIter it t 0 ∧ FpOk X pins (upd H q (.lst [])) it)
    fun it s' I' st fp => ⟨it, rfl, I', st, fp⟩) (fun w s' hh => ?_) fun e s' he => herr e s' he)
  obtain ⟨it, rfl, I', st, fp⟩ := hh
  obtain ⟨mB, J', _⟩ := ins_get I'.hok ha'
  obtain ⟨od', J', _⟩ := J'.look
  have hn : it ≠ q := fun z => by
    have f0 := fp.1
    rw [z, upd_same] at f0
    cases f0
  refine wpAny_bind (wpAny_holding (hint_none hc I'.kIn J' ?_))
  have go : ∀ s2, Inv X pins σ (upd H q (.lst [])) s2 → s2.heap.IsTupleIter it t 0 → codeAny (model X.prog X.w) A1 (.builtin "list.extend.loop" ⟨[.ref q, .ref it, .none], []⟩) Rs s2 := fun s2 I2 st2 =>
    tup_loop sb.room.hd hq0 ht hdone zs.length 0 s2 (by omega) I2 st2 fp
  obtain ⟨z, its, k0, r3, hl3, e3⟩ := I'.lstM upd_same
  cases r3
  refine wpAny_ite_split (fun _ => ?_) (fun _ => wpAny_pure ⟨plainId_quiet PySem.F.plain_extend_loop _, go s' I' st⟩)
  refine wpAny_bind (wpAny_rule (wpAny_bind ?_))
  show wpAny _ _ (updateSeq q (·.push .none) >>= fun _ => updateSeq q (·.pop)) _ _ _
  refine wpAny_bind (wpAny_updateSeq e3 rfl ?_)
  have I2 := I'.lset (f := (·.push Value.none)) (its' := [Value.none]) (ys := [.non]) (t' := s'.toks) upd_same e3 (by simp) (.cons rfl .nil) (by rw [List.length_singleton, sizeLine_eq]; decide)
  obtain ⟨z4, its4, k4, r4, hl4, e4⟩ := I2.lstM upd_same
  obtain ⟨u4, rfl, ru4⟩ := r4.one
  refine wpAny_updateSeq e4 rfl ?_ (by show 1 ≤ sizeLine; rw [sizeLine_eq]; decide) (by show 0 ≤ sizeLine + 1; exact Nat.zero_le _)
  have I3 := I2.lset (f := (·.pop)) (its := [u4]) (its' := []) (ys := []) (t' := s'.toks) upd_same e4 (by rfl) .nil (Nat.zero_le _)
  rw [upd_upd, upd_upd] at I3
  refine wpAny_pure ⟨plainId_quiet PySem.F.plain_extend_loop _, go _ I3 ?_⟩
  exact (st.at fun o ho => (Heap.get?_update_other _ _ (Ne.symm hn)).trans ho).at fun o ho => (Heap.get?_update_other _ _ (Ne.symm hn)).trans ho
def rListO (K : PySem.W.Frag) (C : Addr) (fld : Str) : List V → Hp → VK → Prop := fun xs H Q => ∃ a dx fs t zs, xs = [.ref a] ∧ H a = some (.ins C dx fs) ∧ fs.lookup fld = some (.ref t) ∧ SqT K H t zs ∧ ∀ q, H q = none → Q (.ref q) (upd H q (.lst zs))
theorem call_listIt (hr : Room (k + 2) X.A) (hc : ItsC X.K C fi) (F : FnS X.prog X.w X.K X.mg X.base k fi fd ps (spIter X.K C fld)) (hb : Binds X.K fd ps []) : CallR X (.type "list") (rListO X.K C fld) := by
  intro pins s σ H xs us Q I rv h
  obtain ⟨a, dx, fs, t, zs, rfl, ha, hlk, ht, hq⟩ := h
  obtain ⟨u, rfl, ru⟩ := rv.one
  cases ru
  have sb : Sub X k X.A.in1.in1 := Sub.in1 (Sub.in1 (⟨hr, rfl⟩ : Sub X (k + 2) X.A))
  refine callType_codes (Q₁ := fun obj s₁ => obj = .ref s.heap.objs.size ∧ s₁ = { s with heap := s.heap.push { cls := .type "list", data := .seq #[] } }) PySem.F.called_list (PySem.F.typeCall_list_1 _) PySem.F.entry_list_init
    (code_list_new _ ⟨rfl, rfl⟩) fun obj s1 hh => ?_
  obtain ⟨rfl, rfl⟩ := hh
  have eS : (s.heap.push { cls := .type "list", data := .seq #[] }).get? s.heap.objs.size = some { cls := .type "list", data := .seq #[] } := Heap.get?_push_size _ rfl
  refine ⟨⟨_, eS, rfl⟩, PySem.F.args_list_init_2 _ _, ?_⟩
  have fr : H s.heap.objs.size = none := I.hok.fresh (Nat.le_refl _)
  have I1 : Inv X pins σ (upd H s.heap.objs.size (.lst [])) { s with heap := s.heap.push { cls := .type "list", data := .seq #[] } } := I.lnew (its := []) (t' := s.toks) .nil (Nat.zero_le _)
  show wpAny _ _ (do let old ← Builtin.List.listItems (.ref s.heap.objs.size); Builtin.List.listUpdate (.ref s.heap.objs.size) (fun _ => #[]); letGo old.toList.reverse; Builtin.List.listExtendWith (.ref s.heap.objs.size) (.ref a) .none) _ _ _
  refine wpAny_bind ?_
  unfold Builtin.List.listItems
  refine wpAny_bind (wpAny_seqItems eS rfl (wpAny_pure ?_))
  show wpAny _ _ (updateSeq s.heap.objs.size (fun _ => #[]) >>= fun _ => letGo (#[] : Array Value).toList.reverse >>= fun _ => Builtin.List.listExtendWith (.ref s.heap.objs.size) (.ref a) .none) _ _ _
  refine wpAny_bind (wpAny_updateSeq eS rfl ?_)
  have I2 := I1.lset (f := fun _ => #[]) (its := []) (its' := []) (ys := []) (t' := s.toks) upd_same eS rfl .nil (Nat.zero_le _)
  rw [upd_upd] at I2
  refine wpAny_bind (wpAny_letGo ?_)
  exact tup_extend (A1 := X.A.in1) (Rs := wants (fun r s₂ => r = .none ∧ EP X pins σ Q (.ref s.heap.objs.size) s₂) X.xe) sb hc F hb fr I2 ha hlk ht
    (fun s' I' => ⟨rfl, .ref s.heap.objs.size, _, I', rfl, hq _ fr⟩) fun e s' he => he
end
end XgOwn
namespace XgOwn
open PySem PySem.Spec PyProof.Rows L2
/-! ### a static method without arguments, called on its class -/
structure SMet (K : PySem.W.Frag) (C : Addr) (mc : Value) (m : Str) (p g : Addr) : Prop where
  at_ : PySem.W.findCls K (.ref C) mc m = some (.get (.builtin "staticmethod.__get__") (.ref p) .none (.ref C))
  rc : ∃ rest, PySem.W.recIn K p "staticmethod" = some (.ref g :: rest)
  kp : PySem.W.keepIn K (.ref g) = true
def tStat0 (C : Addr) (sp : Sp) (E : XK) (ta : TE) : TE := fun σ H Q => ta σ H fun x H1 => x = .ref C ∧ sp [] H1 Q E
theorem pe_stat0 {X : Cx} {CI : CXT} {k : Nat} {C p g : Addr} {mc : Value} {sp : Sp} {E : XK} {fd : FuncData} {ps : List Str} {o : Expr} {m : Str} {pos apos : Pos} {ta : TE} {pl : Sem Bool} (he : PE X o ta) (r : ClX.CRead X.K C mc) (c : SMet X.K C mc m p g)
    (F : FnOk X.prog X.w X.K X.mg X.base CI k g fd ps sp) (hr : Room k X.A) (hb : Binds X.K fd ps []) (hx : Passes CI X E)
    (ht : eval (.Call (.Attribute o m apos) [] [] pos) X.env = (do
      let ov ← eval o X.env
      standAt apos.atName
      let (f, first) ← holding [ov] (getMethod ov m pl)
      callWith pos f first (backTo pos (starEach [] X.env)) (backToKw pos (keywordEach [] X.env))) := by rfl) :
    PE X (.Call (.Attribute o m apos) [] [] pos) (tStat0 C sp E ta) := by
  refine ⟨fun pins s σ H Q I h => ?_⟩
  refine PySem.W.methodCall_KW (pl := pl) (thn (he.run pins s σ H _ I h) fun u s1 ⟨x, H1, I1, rx, ex, q⟩ => ?_) ht
  subst ex
  obtain rfl : u = Value.ref C := rx
  obtain ⟨rest, hp⟩ := c.rc
  refine PySem.W.method_cls I1.kIn r.ga (PySem.W.cls_bind I1.kIn r.rd c.at_ (wpAny_call (PySem.W.sm_get (s := { s1 with toks := s1.toks + 1 }) I1.kIn hp (PySem.W.handed_on rfl ?_))))
  have I2 : Inv X pins σ H1 { s1 with toks := s1.toks + 1 } := I1.tok _
  exact PySem.W.callWith_K0 I2.kIn c.kp (run_fn (us := []) (vs := []) (ds := []) (dvs := []) F hr hb .nil hx I2 .nil q)
end XgOwn
namespace XgOwn
open PySem PySem.Spec PyProof.Rows L2
/-! ### an object made where its maker may raise, inside a try -/
section
variable {X : Cx} {CI : CXT} {k : Nat} {f C : Addr} {fd : FuncData} {ps : List Str} {sp : Sp} {E : L2.St → XK} {x : Str} {p pos : Pos} {e : Expr} {es : List Expr} {t : TA}
def tMakeS (C : Addr) (sp : Sp) (E : L2.St → XK) (t : TA) : TE := fun σ H Q => t σ H fun vs H1 => ∀ x dx, H1 x = none → H1 dx = none → dx ≠ x → sp (.ref x :: vs) (upd (upd H1 dx (.own x)) x (.ins C dx [])) (fun v H2 => v = .non ∧ Q (.ref x) H2) (E σ)
theorem pe_makeS (M : Mk X.K C f) (F : FnOk X.prog X.w X.K X.mg X.base CI k f fd ps sp) (hr : Room (k + 1) X.A) (hg : Gl X x) (hm : X.mg x = some (.ref C)) (hb : Binds X.K fd ps []) (hx : ∀ σ, PassesAt CI X σ (E σ))
    (ha : PA X (e :: es) t) (hdb : (x == ("__debug__" : Str)) = false := by decide) (he : starEach (e :: es) X.env = (false, eval e X.env) :: starEach es X.env := by rfl) (hpl : (backTo pos (starEach es X.env)).any (·.1) = false := by rfl) :
    PE X (.Call (.Name x p) (e :: es) [] pos) (tMakeS C sp E t) := by
  refine ⟨fun pins s σ H Q I h => ?_⟩
  refine wpAny_Call_Name_kw (ld_glob I hg hm ?_ hdb)
  refine PySem.W.callWith_K (h₀ := X.base) I.ok.mod.kin M.kp (thn (ha.run pos pins s σ H _ I h) fun us s1 ⟨vs, H1, I1, r, q⟩ => ⟨I1.kIn, ?_⟩) he hpl
  have hq := q (s1.heap.objs.size + 1) s1.heap.objs.size (I1.hok.fresh (Nat.le_succ _)) (I1.hok.fresh (Nat.le_refl _)) (Nat.ne_of_lt (Nat.lt_succ_self _))
  have I2 := Inv.made (C := C) I1
  have r2 : Vals (V.ref (s1.heap.objs.size + 1) :: vs) (Value.ref (s1.heap.objs.size + 1) :: us) := .cons rfl r
  have hl : (Value.ref (s1.heap.objs.size + 1) :: us).length = ps.length := r2.length.symm.trans (F.len _ _ _ _ hq)
  have bt := hb _ (Value.ref (s1.heap.objs.size + 1) :: us) I2.kIn (by rw [List.append_nil]; exact hl)
  rw [List.append_nil] at bt
  have run := F.run _ X.stack _ _ ⟨Value.ref (s1.heap.objs.size + 1) :: us, []⟩ _ _ _ (E σ) (hr.make C us []) (I2.env0.make C us []) bt r2 hq
  refine wpAny_call (make_map (f := f) I1.kIn M.makes M.init (beq_iff_eq.mp M.fn) (codeAny_mono run fun r s' hq' => ?_))
  cases r with
  | error e => exact hx σ pins _ _ e s' I2 hq'
  | ok fl =>
    cases fl with
    | ret u =>
      obtain ⟨v, H', I3, rv, ev, q3⟩ := I2.after hq'
      subst ev
      exact ⟨rv, V.ref (s1.heap.objs.size + 1), H', I3, rfl, q3⟩
    | _ => exact hq'.elim
end
/-! ### what a loop walks: a list, a tuple, an object that hands out its tuple -/
def SrcOk (K : PySem.W.Frag) (C : Addr) (fld : Str) (H : Hp) (v : V) (xs : List V) : Prop := ∃ a, v = .ref a ∧ (SqL K H a xs ∨ SqT K H a xs ∨ ∃ dx fs t, H a = some (.ins C dx fs) ∧ fs.lookup fld = some (.ref t) ∧ SqT K H t xs)
theorem iAny_var {K : PySem.W.Frag} {C : Addr} {fld : Str} {i : Nat} {σ : L2.St} {H H0 : Hp} {R : It → Hp → Prop} {v : V} {xs : List V} (hv : σ[i]? = some (some v)) (h : SrcOk K C fld H0 v xs) (s : Same H0 H)
    (rest : ∀ J, Walk J xs.length (fun H' => Same H0 H') (YAt xs) → R J H) : iAny K C fld (tVar i) σ H R := by
  obtain ⟨a, rfl, h⟩ := h
  refine ⟨_, hv, a, rfl, ?_⟩
  rcases h with h | h | ⟨dx, fs, t, h1, h2, h3⟩
  · exact .inl ⟨⟨_, s.seq h⟩, rest _ (walk_list.mono (fun H' s => s.seq h) fun _ _ _ _ _ _ y => y)⟩
  · exact .inr (.inl ⟨⟨_, Xg.same_sqT s h⟩, rest _ (walk_tup.mono (fun H' s => Xg.same_sqT s h) fun _ _ _ _ _ _ y => y)⟩)
  · exact .inr (.inr ⟨dx, fs, t, xs, s _ _ h1, h2, Xg.same_sqT s h3, rest _ (walk_tup.mono (fun H' s => Xg.same_sqT s h3) fun _ _ _ _ _ _ y => y)⟩)
end XgOwn
namespace XgOwn
open PySem L2
/-- a for over such a thing that stands in slot i -/
theorem for_any {K : PySem.W.Frag} {C : Addr} {fld : Str} {j : Nat} {g : TG} {tb : TS} {D : Ends} {σ : L2.St} {H H0 : Hp} {v : V} {xs : List V} (hv : σ[j]? = some (some v)) (h : SrcOk K C fld H0 v xs) (s : Same H0 H)
    (Pv : Nat → L2.St → Hp → Prop) (h0 : Pv 0 σ H) (hG : ∀ i σ H', i ≤ xs.length → Pv i σ H' → Same H0 H')
    (hs : ∀ i x σ H', xs[i]? = some x → Pv i σ H' → g x σ H' fun σ2 H2 => tb { D with nx := Pv (i + 1), ct := Pv (i + 1), bk := D.nx } σ2 H2) (hd : ∀ σ H', Pv xs.length σ H' → D.nx σ H') : tFor (iAny K C fld (tVar j)) g tb D σ H :=
  iAny_var (R := fun J H1 => ∃ W : Nat → Nat → L2.St → Hp → Prop, (∃ m, W 0 m σ H1) ∧ ∀ i m σ H, W i m σ H →
      (J.stop i H ∧ D.nx σ H) ∨ (J.go i H ∧ ∃ N : L2.St → Hp → Prop, (∀ σ' H', N σ' H' → ∃ m', m' < m ∧ W (i + 1) m' σ' H') ∧ ∀ x H', J.yld i H x H' → g x σ H' fun σ2 H2 => tb { D with nx := N, ct := N, bk := D.nx } σ2 H2)) hv h s fun J wk =>
    for_it wk Pv h0 hG (fun i x σ H H' _ p y => by
      obtain ⟨e, y⟩ := y
      subst e
      exact hs i x σ _ y p) hd
end XgOwn
namespace XgOwn
open PySem L2
/-- a comprehension over such a thing that stands in slot i -/
theorem lc_any {K : PySem.W.Frag} {C : Addr} {fld : Str} {j : Nat} {g : TG} {tt : TT} {te : TE} {vs : List Nat} {σ : L2.St} {H H0 : Hp} {v : V} {xs : List V} {Q : VK} (hv : σ[j]? = some (some v)) (h : SrcOk K C fld H0 v xs) (s : Same H0 H)
    (k : ∀ D, H D = none → ∃ Pv : Nat → Hp → Prop, Pv 0 (upd H D (.lst [])) ∧ (∀ i H', i ≤ xs.length → Pv i H' → Same H0 H') ∧
      (∀ i x H', xs[i]? = some x → Pv i H' → g x (wipe σ vs) H' fun σ2 H2 => wipe σ2 vs = wipe σ vs ∧ tt σ2 H2 fun b H3 =>
        if b = true then te σ2 H3 fun y H4 => ∃ acc, H4 D = some (.lst acc) ∧ acc.length < sizeLine ∧ Pv (i + 1) (upd H4 D (.lst (acc ++ [y]))) else Pv (i + 1) H3) ∧ ∀ H', Pv xs.length H' → Q (.ref D) H') :
    tLc (iAny K C fld (tVar j)) g tt te vs σ H Q :=
  iAny_var (R := fun J H1 => ∀ D, H1 D = none → ∃ W : Nat → Nat → Hp → Prop, (∃ m, W 0 m (upd H1 D (.lst []))) ∧ ∀ i m H, W i m H →
      (J.stop i H ∧ Q (.ref D) H) ∨ (J.go i H ∧ ∃ Nx : Hp → Prop, (∀ H', Nx H' → ∃ m', m' < m ∧ W (i + 1) m' H') ∧ ∀ x H', J.yld i H x H' → g x (wipe σ vs) H' fun σ2 H2 => wipe σ2 vs = wipe σ vs ∧ tt σ2 H2 fun b H3 =>
        if b = true then te σ2 H3 fun y H4 => ∃ acc, H4 D = some (.lst acc) ∧ acc.length < sizeLine ∧ Nx (upd H4 D (.lst (acc ++ [y]))) else Nx H3)) hv h s fun J wk D hD => by
    obtain ⟨Pv, h0, hG, hs, hd⟩ := k D hD
    exact lc_it (Qd := Q (.ref D)) wk Pv h0 hG (fun i x H H' _ p y => by
      obtain ⟨e, y⟩ := y
      subst e
      exact hs i x _ y p) hd
end XgOwn
/-! any of a generator expression over a text, whose element may read the module's own names (the library's rule lets it read the sign alone) -/
namespace XgAny
open PySem PySem.Spec PyProof.Rows L2 GxR
/-- the element at the sign k, wherever the generator runs: what stood at the law's start stands -/
def EltM (X : Cx) (scope : Scope) (x : Str) (elt : Expr) (pb : Nat → Bool) : Prop :=
  ∀ (cv : Env) (B : Around) (Er : Value → Shared → Prop) (k : Nat) (tk : Tok) (u : Shared) (m : Str → Option Value), cv.scope = scope → cv.globals = mainGlobals → (∀ b o, X.base.get? b = some o → u.heap.get? b = some o) →
    u.heap.Ns cv.locals m → m x = some (.str ⟨#[k]⟩ tk) → wpAny (model X.prog X.w) B (eval elt cv) (fun y u' => y = .bool (pb k) ∧ Keeps u u') Er u
/-- x not in G, G a text of the module -/
theorem elt_notIn {X : Cx} {scope : Scope} {x g : Str} {z : Str} {tz : Tok} {p1 p2 p3 : Pos} (M : Mod X.K X.mg X.base) (hk : scope.kind = .function) (hl : scope.names.lookup x = some .local) (hg : scope.names.lookup g = some .globalImplicit)
    (hm : X.mg g = some (.str z tz)) (hd : (x == ("__debug__" : Str)) = false := by decide) (hd2 : (g == ("__debug__" : Str)) = false := by decide) :
    EltM X scope x (.Compare (.Name x p1) [.NotIn] [.Name g p2] p3) (fun k => !decide (k ∈ z.cps.toList)) := by
  intro cv B Er k tk u m hs hgl bk hn hmx
  have kind : cv.scope.kind = .function := by rw [hs]; exact hk
  have ns : u.heap.Ns cv.globals X.mg := by rw [hgl]; exact M.glob.keeps bk
  have first : ∀ {Q : Value → Shared → Prop}, Q (.str ⟨#[k]⟩ tk) u → wpAny (model X.prog X.w) B (eval (.Name x p1) cv) Q Er u := fun q =>
    wpAny_Name (wpAny_loadName_local kind (show cv.scope.names.lookup x = some .local by rw [hs]; exact hl) hn hmx q) hd
  have second : ∀ {Q : Value → Shared → Prop}, Q (.str z tz) u → wpAny (model X.prog X.w) B (eval (.Name g p2) cv) Q Er u := fun q =>
    Calls.Name_function_global kind (show cv.scope.names.lookup g = some .globalImplicit by rw [hs]; exact hg) (Calls.loadGlobal_global ns hm q) hd2
  refine wpAny_Compare1 (first (second ?_))
  refine PyProof.Rows.notIn_str ⟨?_, keeps_refl _⟩
  have e := PySem.StrLaws.found_one z k
  first
    | rw [e]
    | rw [← e]
    | simp [e]
section
variable {X : Cx} {pins : List (Addr × Obj)} {σ : L2.St} {H : Hp} {s : Shared}
theorem gen_made {cd P : Addr} {elt iter : Expr} {x : Str} {px gp : Pos} {scope : Scope} {pb : Nat → Bool} {te : TE} {lv : Nat} {Z : Value → Shared → Prop} {Rd : Str → Hp → Prop}
    (room : Room lv X.A) (TB : TabB X.base X.mg cd P) (code : X.env.code = .ref cd) (S : GenS X.env scope x) (pe : PE X iter te) (el : EltM X scope x elt pb)
    (fold : ∀ v, genFold iter X.env v = pure v) (I : Inv X pins σ H s) (rd : te σ H fun v H1 => ∃ a : Str, v = .str a ∧ TabG H1 P ∧ Rd a H1)
    (out : ∀ a H1 g s5, Rd a H1 → Ready X pins σ H1 P a pb g s5 → Z (.ref g) s5) :
    wpAny (model X.prog X.w) X.A (eval (.GeneratorExp elt [⟨.Name x px, iter, [], 0⟩] scope gp) X.env) Z X.xe s := by
  refine wpAny_GeneratorExp_walksQ room.hd S.co (closure_ok S.free) S.cell S.dot S.loc S.kind (by have := room.dp; omega) ?_ fold
  refine thn (pe.run pins s σ H _ I rd) fun xv sa ⟨v, Ha, Ia, ra, qa⟩ => ?_
  obtain ⟨a, rfl, ⟨tbl, hT, good⟩, want⟩ := qa
  obtain ⟨ta, rfl⟩ := _root_.id ra
  refine wpAny_pyIter_str fun itO St walks st0 => ?_
  have tblS : sa.heap.get? P = some { cls := .none, data := .fields tbl } := Ia.hok P _ hT
  have ltP : P < sa.heap.objs.size := Heap.lt_size tblS
  have tblP : (sa.heap.push itO).get? P = some { cls := .none, data := .fields tbl } := Heap.get?_push_of_some _ tblS
  have hd : PySem.W.CodeHd (sa.heap.push itO) cd P := TB.code.keeps fun b o e => Heap.get?_push_of_some _ (Ia.bk b o e)
  have free : (sa.heap.push itO).NoLimit := Ia.nolimit.push itO
  have szI : (sa.heap.push itO).objs.size = sa.heap.objs.size + 1 := Heap.size_push ..
  -- the code object is found or made: what stands but for the table stays
  refine ⟨free, wpAny_mono (Q := fun _ s3 => ∃ (hc : Heap) (tk : Nat) (tbl2 : Array Value), s3 = { sa with heap := hc, toks := tk } ∧ Heap.ExtBut P (sa.heap.push itO) hc ∧ (sa.heap.push itO).objs.size ≤ hc.objs.size ∧
    hc.get? P = some { cls := .none, data := .fields tbl2 } ∧ (∃ grown, tbl2 = tbl ++ grown) ∧ TriplesOk tbl2.toList) ?_ (fun cv s3 made => ?_) fun _ _ e => e⟩
  · cases among : codeAmong gp tbl.toList with
    | some cv =>
      refine wpAny_genexprCode_hit code (hd.code tblP good) among ?_
      exact ⟨sa.heap.push itO, sa.toks, tbl, rfl, Heap.ExtBut.refl _ _, Nat.le_refl _, tblP, ⟨#[], by simp⟩, good⟩
    | none =>
      refine wpAny_genexprCodeX code (hd.code tblP good) (hd.tab tblP) among fun c' h' tk ext ge lt rec _ tab' _ => ?_
      obtain ⟨o1, vs, f1, tf, fl, tg, inF, tx, tt, op, _, _, _, _, _, _, _, _, _, good2, _⟩ := rec
      exact ⟨h', tk, _, rfl, ext, Nat.le_trans ge (Nat.le_of_lt lt), tab'.2, ⟨_, rfl⟩, good2⟩
  · obtain ⟨hc, tk, tbl2, rfl, ext, sz, atP, grown, good2⟩ := made
    obtain ⟨bm, ob, b1, b2, b3, b4, b5, b6, b7, b8⟩ := TB.bm
    have statP : cStatics ≠ P := fun e => by
      obtain ⟨_, hns, _⟩ := Ia.nolimit
      obtain ⟨o', es, ep, ho, hdd, _⟩ := hns
      rw [e, tblS] at ho
      cases ho
      cases hdd
    have statLt : cStatics < sa.heap.objs.size := let ⟨_, hns, _⟩ := Ia.nolimit; hns.lt
    have old : ∀ b o, b ≠ P → sa.heap.get? b = some o → hc.get? b = some o := fun b o nb e => ext b o nb (Heap.get?_push_of_some _ e)
    -- what the law began with stands in hc too
    have baseNe : ∀ b o, X.base.get? b = some o → b ≠ P := fun b o e z => by
      have k1 := (Ia.bs b o e).2
      rw [z, hT] at k1
      cases k1
    have baseIn : ∀ b o, X.base.get? b = some o → hc.get? b = some o := fun b o e => old b o (baseNe b o e) (Ia.bk b o e)
    refine wpAny_builtinsFor (m := X.mg) (by rw [Ia.ok.glob]; exact ((Ia.mod.glob.keeps Ia.bk).push itO).extBut ext TB.gP) b1 b2 (old _ _ b4 (Ia.bk _ _ b5)) b6 b7 b8 ?_
    refine ⟨sa.heap.objs.size, [sa.heap.objs.size], [sa.heap.objs.size], a.cps.size, SignAt a, St, (fun _ => true), (fun i y => ∃ n, a.cps[i]? = some n ∧ y = .bool (pb n)), rfl, walks, ?_, ?_, free.extBut ext statP, ?_, ?_, ?_⟩
    · refine (walks X.A room.hd).frame _ _ _ st0 fun b hb o e => ext b o (fun z => ?_) e
      have zb : b = sa.heap.objs.size := by simpa using hb
      exact Nat.ne_of_lt ltP (z.symm.trans zb)
    · intro b hb
      have zb : b = sa.heap.objs.size := by simpa using hb
      rw [zb]
      show sa.heap.objs.size < hc.objs.size
      omega
    · intro hb
      have zb : cStatics = sa.heap.objs.size := by simpa using hb
      exact Nat.ne_of_lt statLt zb
    · intro href keep
      refine ⟨fun B Er i v u m hB hv hn hm hk => ?_, fun B Er i v u m hB hv hp hn hm hk => ?_⟩
      · rw [List.forIn_nil]
        exact wpAny_pure ⟨rfl, keeps_refl _⟩
      · obtain ⟨n, tn, hc1, rfl⟩ := hv
        refine wpAny_mono (el _ B Er n tn u m rfl Ia.ok.glob (fun b o e => ?_) hn hm) (fun y u' r => ⟨⟨n, hc1, r.1⟩, r.2⟩) fun _ _ e => e
        have e1 := baseIn b o e
        refine hk b (List.mem_range.mpr (Heap.lt_size e1)) (fun hb => ?_) o (keep b o e1)
        have zb : b = sa.heap.objs.size := by simpa using hb
        exact Nat.ne_of_lt (Heap.lt_size (Ia.bk b o e)) zb
    · intro g hg tg gs bare above szg keepg W5 at0
      simp only [GxR.passing_true, List.length_range] at W5
      refine out a Ha g _ want ⟨_, _, _, _, _, W5.in4_1, at0, ?_, fun s' moved => ?_⟩
      · intro j y sj Qj Ej hy hQj
        obtain ⟨i, hij, n, hn, rfl⟩ := hy
        obtain ⟨hj, ej⟩ := List.getElem?_eq_some_iff.mp hij
        rw [List.getElem_range] at ej
        subst ej
        have en : a.cps.toList[j]? = some n := by rw [Array.getElem?_toList]; exact hn
        have hQ2 : Qj (trF pb a.cps.toList j) sj := hQj
        rw [trF_some en] at hQ2
        exact wpAny_truthy_bool hQ2
      · obtain ⟨more, em⟩ := grown
        have apart : ∀ b o, sa.heap.get? b = some o → b ∉ hc.objs.size :: [sa.heap.objs.size] := fun b o e hb => by
          have lb := Heap.lt_size e
          have zb : b = hc.objs.size ∨ b = sa.heap.objs.size := by simpa using hb
          have le : sa.heap.objs.size ≤ hc.objs.size := by omega
          rcases zb with z | z
          · rw [z] at lb
            exact absurd lb (Nat.not_lt.mpr le)
          · rw [z] at lb
            exact absurd lb (Nat.lt_irrefl _)
        have J := inv_tab (more := more) (h' := s'.heap) (g' := s'.gens) (d' := s'.drawn) (t' := s'.toks) Ia hT (fun b o nb e => moved.heap b o (apart b o e) (keepg b o (old b o nb e)))
          (by rw [← em]; exact moved.heap P _ (apart P _ tblS) (keepg P _ atP)) (AllBare.movedS (Ia.bare.push bare) moved)
        rw [sh_eta sa s' moved.os] at J
        exact ⟨upd Ha P (.tbl (tbl ++ more)), ⟨⟨tbl ++ more, upd_same, by rw [← em]; exact good2⟩, fun b hb => upd_ne hb⟩, J⟩
theorem pe_any {cd P : Addr} {elt iter : Expr} {x : Str} {px p pos gp : Pos} {scope : Scope} {pb : Nat → Bool} {te : TE} {lv : Nat}
    (room : Room lv X.A) (hg : Gl X "any") (hm : X.mg "any" = none) (TB : TabB X.base X.mg cd P) (code : X.env.code = .ref cd) (S : GenS X.env scope x) (pe : PE X iter te) (el : EltM X scope x elt pb)
    (fold : ∀ v, genFold iter X.env v = pure v)
    (plain : starEach [.GeneratorExp elt [⟨.Name x px, iter, [], 0⟩] scope gp] X.env = (false, eval (.GeneratorExp elt [⟨.Name x px, iter, [], 0⟩] scope gp) X.env) :: starEach [] X.env := by rfl) :
    PE X (.Call (.Name "any" p) [.GeneratorExp elt [⟨.Name x px, iter, [], 0⟩] scope gp] [] pos) (tAnyS P pb te) := by
  refine ⟨fun pins s σ H Q I h => wpAny_Call_Name_kw (ld_blt I hg hm boot_any (PyProof.Rows.callWith_builtin1 ?_ plain (by rfl)))⟩
  rw [plain]
  refine Calls.spliced_cons (gen_made (Rd := fun a H1 => ∀ H2, Tabbed P H1 H2 → Q (.bl (a.cps.toList.any pb)) H2) room TB code S pe el fold I h fun a H1 g s5 want ready => Calls.spliced_nil ?_)
  obtain ⟨fp, wr, G, F, St, W, st, tr, inv⟩ := ready
  refine call_any_walkS (W.self 0 _ _ _ st ⟨g, fp, wr, G, _, F, St, _, rfl, W, st, tr, fun s' moved => ?_⟩)
  obtain ⟨H2, tab, J⟩ := inv s' moved
  refine ⟨.bl _, H2, J, rfl, ?_⟩
  rw [any_signs a pb]
  exact want H2 tab
end
end XgAny
namespace Xd
open PySem L2

/-! ### data, results -/
inductive D where
  | non | bl (b : Bool) | int (i : Int) | str (s : Str)
  | lst (xs : List D) | tup (xs : List D) | ins (c : Nat) (ns : List Str) (xs : List D)
  /-- a dict: t tells whether its keys are tuples -/
  | dic (t : Bool) (ks : List D) (xs : List D)
  | opq (v : V)
structure Xc where
  c : Nat
  ns : List Str
  xs : List D
inductive R (α : Type) where
  | ok (a : α) | exc (x : Xc) | bad
def R.bind {α β : Type} (r : R α) (k : α → R β) : R β := match r with
  | .ok a => k a
  | .exc x => .exc x
  | .bad => .bad
@[simp] theorem R.bind_ok {α β : Type} (a : α) (k : α → R β) : (R.ok a).bind k = k a := rfl
@[simp] theorem R.bind_exc {α β : Type} (x : Xc) (k : α → R β) : (R.exc x).bind k = .exc x := rfl
@[simp] theorem R.bind_bad {α β : Type} (k : α → R β) : (R.bad : R α).bind k = .bad := rfl
def Meet {α : Type} (r : R α) (p : α → Prop) (q : Xc → Prop) : Prop := match r with
  | .ok a => p a
  | .exc x => q x
  | .bad => False
theorem Meet.bind {α β : Type} {r : R α} {k : α → R β} {p : β → Prop} {q : Xc → Prop} (h : Meet (r.bind k) p q) : Meet r (fun a => Meet (k a) p q) q := by
  cases r with
  | ok a => exact h
  | exc x => exact h
  | bad => exact h
theorem Meet.imp {α : Type} {r : R α} {p p' : α → Prop} {q q' : Xc → Prop} (h : Meet r p q) (hp : ∀ a, p a → p' a) (hq : ∀ x, q x → q' x) : Meet r p' q' := by
  cases r with
  | ok a => exact hp a h
  | exc x => exact hq x h
  | bad => exact h

/-! ### keys -/
def keyD : L2.Key → D
  | .inl i => .int i
  | .inr s => .str s
def keyT (k : List L2.Key) : D := .tup (k.map keyD)
/-! ### what a value stands for, in the part of the heap that stays as it is -/
mutual
inductive Dv (K : PySem.W.Frag) (cl : Nat → Addr) (Hi : Hp) : V → D → Prop
  | non : Dv K cl Hi .non .non
  | bl (b : Bool) : Dv K cl Hi (.bl b) (.bl b)
  | int (i : Int) : Dv K cl Hi (.int i) (.int i)
  | str (s : Str) : Dv K cl Hi (.str s) (.str s)
  | lst {a : Addr} {vs : List V} {xs : List D} : Hi a = some (.lst vs) → DvA K cl Hi vs xs → Dv K cl Hi (.ref a) (.lst xs)
  | tup {a : Addr} {vs : List V} {xs : List D} : SqT K Hi a vs → DvA K cl Hi vs xs → Dv K cl Hi (.ref a) (.tup xs)
  | ins {a dx : Addr} {c : Nat} {ns : List Str} {vs : List V} {xs : List D} : Hi a = some (.ins (cl c) dx (ns.zip vs)) → ns.length = vs.length → DvA K cl Hi vs xs → Dv K cl Hi (.ref a) (.ins c ns xs)
  | opq (v : V) : Dv K cl Hi v (.opq v)
  | dicK {a : Addr} {kk : List L2.Key} {vs : List V} {xs : List D} : Hi a = some (.dK (kk.zip vs)) → kk.length = vs.length → DvA K cl Hi vs xs → Dv K cl Hi (.ref a) (.dic false (kk.map keyD) xs)
  | dicT {a : Addr} {kk : List (List L2.Key)} {vs : List V} {xs : List D} : Hi a = some (.dT (kk.zip vs)) → kk.length = vs.length → DvA K cl Hi vs xs → Dv K cl Hi (.ref a) (.dic true (kk.map keyT) xs)
inductive DvA (K : PySem.W.Frag) (cl : Nat → Addr) (Hi : Hp) : List V → List D → Prop
  | nil : DvA K cl Hi [] []
  | cons {v : V} {vs : List V} {d : D} {ds : List D} : Dv K cl Hi v d → DvA K cl Hi vs ds → DvA K cl Hi (v :: vs) (d :: ds)
end
theorem same_t {K : PySem.W.Frag} {H H' : Hp} {a : Addr} {xs : List V} (e : Same H H') (h : SqT K H a xs) : SqT K H' a xs := by
  rcases h with (h | ⟨o, h⟩) | h
  · exact .inl (.inl (e _ _ h))
  · exact .inl (.inr ⟨o, e _ _ h⟩)
  · exact .inr h
section
variable {K : PySem.W.Frag} {cl : Nat → Addr} {Hi Hi' : Hp}
mutual
theorem Dv.mono (e : Same Hi Hi') : ∀ (d : D) (v : V), Dv K cl Hi v d → Dv K cl Hi' v d
  | .non, _, h => by cases h; exact .non
  | .bl _, _, h => by cases h; exact .bl _
  | .int _, _, h => by cases h; exact .int _
  | .str _, _, h => by cases h; exact .str _
  | .lst xs, _, h => by cases h with | lst h1 h2 => exact .lst (e _ _ h1) (DvA.mono e xs _ h2)
  | .tup xs, _, h => by cases h with | tup h1 h2 => exact .tup (same_t e h1) (DvA.mono e xs _ h2)
  | .ins c ns xs, _, h => by cases h with | ins h1 h2 h3 => exact .ins (e _ _ h1) h2 (DvA.mono e xs _ h3)
  | .opq _, _, h => by cases h; exact .opq _
  | .dic t ks xs, _, h => by
    cases h with
    | dicK h1 h2 h3 => exact .dicK (e _ _ h1) h2 (DvA.mono e xs _ h3)
    | dicT h1 h2 h3 => exact .dicT (e _ _ h1) h2 (DvA.mono e xs _ h3)
theorem DvA.mono (e : Same Hi Hi') : ∀ (ds : List D) (vs : List V), DvA K cl Hi vs ds → DvA K cl Hi' vs ds
  | [], _, h => by cases h; exact .nil
  | d :: ds, _, h => by cases h with | cons h1 h2 => exact .cons (Dv.mono e d _ h1) (DvA.mono e ds _ h2)
end
theorem Dv.up {v : V} {d : D} (h : Dv K cl Hi v d) (e : Same Hi Hi') : Dv K cl Hi' v d := Dv.mono e d v h
theorem DvA.up {vs : List V} {ds : List D} (h : DvA K cl Hi vs ds) (e : Same Hi Hi') : DvA K cl Hi' vs ds := DvA.mono e ds vs h
theorem DvA.length : ∀ {ds : List D} {vs : List V}, DvA K cl Hi vs ds → vs.length = ds.length
  | [], _, h => by cases h; rfl
  | d :: ds, _, h => by cases h with | cons h1 h2 => rw [List.length_cons, List.length_cons, DvA.length h2]
theorem DvA.get : ∀ {ds : List D} {vs : List V} {i : Nat} {d : D}, DvA K cl Hi vs ds → ds[i]? = some d → ∃ v, vs[i]? = some v ∧ Dv K cl Hi v d
  | [], _, i, d, h, e => by simp at e
  | d :: ds, _, i, d', h, e => by
    cases h with
    | cons h1 h2 =>
      cases i with
      | zero => simp at e; subst e; exact ⟨_, rfl, h1⟩
      | succ i => simpa using DvA.get h2 (by simpa using e)
theorem DvA.getV : ∀ {ds : List D} {vs : List V} {i : Nat} {v : V}, DvA K cl Hi vs ds → vs[i]? = some v → ∃ d, ds[i]? = some d ∧ Dv K cl Hi v d
  | [], _, i, d, h, e => by cases h; simp at e
  | d :: ds, _, i, d', h, e => by
    cases h with
    | cons h1 h2 =>
      cases i with
      | zero => simp at e; subst e; exact ⟨_, rfl, h1⟩
      | succ i => simpa using DvA.getV h2 (by simpa using e)
theorem DvA.append : ∀ {ds es : List D} {vs us : List V}, DvA K cl Hi vs ds → DvA K cl Hi us es → DvA K cl Hi (vs ++ us) (ds ++ es)
  | [], _, _, _, h, g => by cases h; exact g
  | d :: ds, _, _, _, h, g => by cases h with | cons h1 h2 => exact .cons h1 (DvA.append h2 g)
theorem DvA.drop : ∀ {ds : List D} {vs : List V} (n : Nat), DvA K cl Hi vs ds → DvA K cl Hi (vs.drop n) (ds.drop n)
  | [], _, _, h => by cases h; simp; exact .nil
  | d :: ds, _, 0, h => h
  | d :: ds, _, n + 1, h => by cases h with | cons h1 h2 => exact DvA.drop n h2
theorem DvA.take : ∀ {ds : List D} {vs : List V} (n : Nat), DvA K cl Hi vs ds → DvA K cl Hi (vs.take n) (ds.take n)
  | [], _, _, h => by cases h; simp; exact .nil
  | d :: ds, _, 0, h => .nil
  | d :: ds, _, n + 1, h => by cases h with | cons h1 h2 => exact .cons h1 (DvA.take n h2)
theorem DvA.set : ∀ {ds : List D} {vs : List V} (n : Nat) {v : V} {d : D}, DvA K cl Hi vs ds → Dv K cl Hi v d → DvA K cl Hi (vs.set n v) (ds.set n d)
  | [], _, _, _, _, h, _ => by cases h; exact .nil
  | d :: ds, _, 0, _, _, h, g => by cases h with | cons h1 h2 => exact .cons g h2
  | d :: ds, _, n + 1, _, _, h, g => by cases h with | cons h1 h2 => exact .cons h1 (DvA.set n h2 g)
theorem DvA.dropLast : ∀ {ds : List D} {vs : List V}, DvA K cl Hi vs ds → DvA K cl Hi vs.dropLast ds.dropLast := fun {ds vs} h => by
  rw [List.dropLast_eq_take, List.dropLast_eq_take, h.length]
  exact h.take _
end

/-! ### where one stands -/
structure Cc where
  K : PySem.W.Frag
  cl : Nat → Addr
  Hq : Hp
  H0 : Hp
  ea : Addr
  /-- where the tables of code objects stand -/
  tb : List Addr
def SameT (tb : List Addr) (H H' : Hp) : Prop := ∀ b o, b ∉ tb → H b = some o → H' b = some o
theorem SameT.refl (tb : List Addr) (H : Hp) : SameT tb H H := fun _ _ _ h => h
theorem SameT.trans {tb : List Addr} {H H1 H2 : Hp} (a : SameT tb H H1) (b : SameT tb H1 H2) : SameT tb H H2 := fun c o n h => b c o n (a c o n h)
structure Ok (c : Cc) (Hi H : Hp) : Prop where
  le : Same Hi H
  q : Same c.Hq Hi
  h : SameT c.tb c.H0 H
  new : ∀ p o, Hi p = some o → c.Hq p = none → c.H0 p = none
  tab : ∀ p ∈ c.tb, GxR.TabG H p
  tabI : ∀ p ∈ c.tb, Hi p = none
structure Step (c : Cc) (Hi H Hi' H' : Hp) : Prop where
  hi : Same Hi Hi'
  h : SameT c.tb H H'
  fr : ∀ p o, H p = some o → Hi p = none → Hi' p = none
  ok0 : Ok c Hi H
  ok : Ok c Hi' H'
section
variable {c : Cc} {Hi H Hi' H' Hi2 H2 : Hp} {p : Addr} {o : HO}
theorem Ok.notTab (ok : Ok c Hi H) (e : H p = some o) (ho : ∀ ps, o ≠ .tbl ps) : p ∉ c.tb := fun z => by
  obtain ⟨ps, h, _⟩ := ok.tab p z
  rw [e] at h
  exact ho ps (Option.some.inj h)
theorem Ok.nTab (ok : Ok c Hi H) (e : H p = none) : p ∉ c.tb := fun z => by
  obtain ⟨ps, h, _⟩ := ok.tab p z
  rw [e] at h
  cases h
theorem Ok.free0 (ok : Ok c Hi H) (n : H p = none) : c.H0 p = none := by
  cases k : c.H0 p with
  | none => rfl
  | some u =>
    rw [ok.h p u (ok.nTab n) k] at n
    cases n
theorem Step.keep (s : Step c Hi H Hi' H') (e : H p = some o) (ho : ∀ ps, o ≠ .tbl ps) : H' p = some o := s.h p o (s.ok0.notTab e ho) e
theorem Step.lst (s : Step c Hi H Hi' H') {vs : List V} (e : H p = some (.lst vs)) : H' p = some (.lst vs) := s.keep e fun _ z => by cases z
theorem Step.free (s : Step c Hi H Hi' H') (n : H' p = none) : H p = none := by
  cases k : H p with
  | none => rfl
  | some u =>
    rw [s.h p u (s.ok.nTab n) k] at n
    cases n
theorem Step.refl (ok : Ok c Hi H) : Step c Hi H Hi H := ⟨Same.refl _, SameT.refl _ _, fun _ _ _ h => h, ok, ok⟩
theorem Step.trans (a : Step c Hi H Hi' H') (b : Step c Hi' H' Hi2 H2) : Step c Hi H Hi2 H2 :=
  ⟨a.hi.trans b.hi, a.h.trans b.h, fun p o h n => by
    by_cases hp : p ∈ c.tb
    · exact b.ok.tabI p hp
    · exact b.fr p o (a.h p o hp h) (a.fr p o h n), a.ok0, b.ok⟩
theorem same_upd {H : Hp} {p : Addr} {o : HO} (n : H p = none) : Same H (upd H p o) := fun b u e => by
  rw [upd_ne (ne_of_none e n)]
  exact e
theorem samet_upd {tb : List Addr} {H : Hp} {p : Addr} {o : HO} (n : H p = none) : SameT tb H (upd H p o) := fun b u _ e => same_upd n b u e
theorem Ok.free (ok : Ok c Hi H) (n : H p = none) : Hi p = none := ok.le.free n
theorem tab_upd {P : Addr} (h : GxR.TabG H P) (n : H p = none) : GxR.TabG (upd H p o) P := by
  obtain ⟨ps, e, t⟩ := h
  exact ⟨ps, same_upd n _ _ e, t⟩
theorem Step.new (ok : Ok c Hi H) (n : H p = none) : Step c Hi H (upd Hi p o) (upd H p o) := by
  have ni := ok.free n
  refine ⟨same_upd ni, samet_upd n, fun b u e k => ?_, ok, ?_, ok.q.trans (same_upd ni), ok.h.trans (samet_upd n), fun b u e k => ?_, fun b hb => tab_upd (ok.tab b hb) n, fun b hb => ?_⟩
  · rw [upd_ne (ne_of_none e n)]
    exact k
  · intro b u e
    by_cases hb : b = p
    · subst hb
      rw [upd_same] at e ⊢
      exact e
    · rw [upd_ne hb] at e ⊢
      exact ok.le _ _ e
  · by_cases hb : b = p
    · subst hb
      exact ok.free0 n
    · rw [upd_ne hb] at e
      exact ok.new _ _ e k
  · rw [upd_ne (show b ≠ p from fun z => ok.nTab n (by rw [← z]; exact hb))]
    exact ok.tabI b hb
/-- a new object that stays out of the frozen part -/
theorem Step.newOwn (ok : Ok c Hi H) (n : H p = none) : Step c Hi H Hi (upd H p o) :=
  ⟨Same.refl _, samet_upd n, fun _ _ _ k => k, ok, ok.le.trans (same_upd n), ok.q, ok.h.trans (samet_upd n), ok.new, fun b hb => tab_upd (ok.tab b hb) n, ok.tabI⟩
/-- an own object is frozen -/
theorem Ok.freeze (ok : Ok c Hi H) (e : H p = some o) (ho : ∀ ps, o ≠ .tbl ps) (n : Hi p = none) (n0 : c.H0 p = none) : Ok c (upd Hi p o) H := by
  refine ⟨fun b u k => ?_, ok.q.trans (same_upd n), ok.h, fun b u k j => ?_, ok.tab, fun b hb => ?_⟩
  · by_cases hb : b = p
    · subst hb
      rw [upd_same] at k
      rw [e]
      exact k
    · rw [upd_ne hb] at k
      exact ok.le _ _ k
  · by_cases hb : b = p
    · subst hb
      exact n0
    · rw [upd_ne hb] at k
      exact ok.new _ _ k j
  · rw [upd_ne (show b ≠ p from fun z => ok.notTab e ho (by rw [← z]; exact hb))]
    exact ok.tabI b hb
end

/-! ### the slots -/
/-- what one slot alone has: a list, a dict -/
inductive Mo where
  | lst (xs : List D) | dct (t : Bool) (ks xs : List D)
def moD : Mo → D
  | .lst xs => .lst xs
  | .dct t ks xs => .dic t ks xs
def MoOk (K : PySem.W.Frag) (cl : Nat → Addr) (Hi : Hp) (o : HO) : Mo → Prop
  | .lst xs => ∃ vs, o = .lst vs ∧ DvA K cl Hi vs xs
  | .dct false ks xs => ∃ (kk : List L2.Key) (vs : List V), o = .dK (kk.zip vs) ∧ kk.length = vs.length ∧ ks = kk.map keyD ∧ DvA K cl Hi vs xs
  | .dct true ks xs => ∃ (kk : List (List L2.Key)) (vs : List V), o = .dT (kk.zip vs) ∧ kk.length = vs.length ∧ ks = kk.map keyT ∧ DvA K cl Hi vs xs
section
variable {K : PySem.W.Frag} {cl : Nat → Addr} {Hi Hi' : Hp} {o : HO} {m : Mo}
theorem MoOk.up (h : MoOk K cl Hi o m) (e : Same Hi Hi') : MoOk K cl Hi' o m := by
  cases m with
  | lst xs => obtain ⟨vs, h1, h2⟩ := h; exact ⟨vs, h1, h2.up e⟩
  | dct t ks xs =>
    cases t with
    | false => obtain ⟨kk, vs, h1, h2, h3, h4⟩ := h; exact ⟨kk, vs, h1, h2, h3, h4.up e⟩
    | true => obtain ⟨kk, vs, h1, h2, h3, h4⟩ := h; exact ⟨kk, vs, h1, h2, h3, h4.up e⟩
theorem MoOk.notTbl (h : MoOk K cl Hi o m) : ∀ ps, o ≠ .tbl ps := by
  cases m with
  | lst xs => obtain ⟨vs, h1, h2⟩ := h; subst h1; exact fun _ z => by cases z
  | dct t ks xs =>
    cases t with
    | false => obtain ⟨kk, vs, h1, h2, h3, h4⟩ := h; subst h1; exact fun _ z => by cases z
    | true => obtain ⟨kk, vs, h1, h2, h3, h4⟩ := h; subst h1; exact fun _ z => by cases z
/-- what an own thing is once it is frozen -/
theorem MoOk.dv (h : MoOk K cl Hi o m) {a : Addr} (e : Hi a = some o) : Dv K cl Hi (.ref a) (moD m) := by
  cases m with
  | lst xs => obtain ⟨vs, h1, h2⟩ := h; subst h1; exact .lst e h2
  | dct t ks xs =>
    cases t with
    | false => obtain ⟨kk, vs, h1, h2, h3, h4⟩ := h; subst h1 h3; exact .dicK e h2 h4
    | true => obtain ⟨kk, vs, h1, h2, h3, h4⟩ := h; subst h1 h3; exact .dicT e h2 h4
end
inductive Sl where
  | un | val (d : D) | mo (m : Mo) | err
abbrev Sl.own (xs : List D) : Sl := .mo (.lst xs)
abbrev Sl.dct (t : Bool) (ks xs : List D) : Sl := .mo (.dct t ks xs)
abbrev Rho := List Sl
def SlOk (c : Cc) (Hi H : Hp) (o : Option V) : Sl → Prop
  | .un => True
  | .err => o = some (.ref c.ea)
  | .val d => ∃ v, o = some v ∧ Dv c.K c.cl Hi v d
  | .mo m => ∃ p u, o = some (.ref p) ∧ H p = some u ∧ Hi p = none ∧ c.H0 p = none ∧ MoOk c.K c.cl Hi u m
structure Sv (c : Cc) (Hi H : Hp) (σ : St) (ρ : Rho) : Prop where
  len : σ.length = ρ.length
  at' : ∀ (i : Nat) (o : Option V) (s : Sl), σ[i]? = some o → ρ[i]? = some s → SlOk c Hi H o s
  apart : ∀ (i j : Nat) (p : Addr) (xs ys : Mo), ρ[i]? = some (.mo xs) → ρ[j]? = some (.mo ys) → σ[i]? = some (some (.ref p)) → σ[j]? = some (some (.ref p)) → i = j
section
variable {c : Cc} {Hi H Hi' H' Hi2 H2 : Hp} {p : Addr} {o : HO} {σ : St} {ρ : Rho}
theorem Sv.find (e : Sv c Hi H σ ρ) {i : Nat} {s : Sl} (h : ρ[i]? = some s) : ∃ o, σ[i]? = some o ∧ SlOk c Hi H o s := by
  have hi := (List.getElem?_eq_some_iff.mp h).1
  have hi' : i < σ.length := by rw [e.len]; exact hi
  exact ⟨σ[i], by simp [hi'], e.at' i _ s (by simp [hi']) h⟩
theorem SlOk.step {o : Option V} {s : Sl} (st : Step c Hi H Hi' H') (h : SlOk c Hi H o s) : SlOk c Hi' H' o s := by
  cases s with
  | un => trivial
  | err => exact h
  | val d => obtain ⟨v, e, h⟩ := h; exact ⟨v, e, h.up st.hi⟩
  | mo m => obtain ⟨p, u, e, h1, h2, h3, h4⟩ := h; exact ⟨p, u, e, st.keep h1 h4.notTbl, st.fr _ _ h1 h2, h3, h4.up st.hi⟩
theorem Sv.step (e : Sv c Hi H σ ρ) (st : Step c Hi H Hi' H') : Sv c Hi' H' σ ρ := ⟨e.len, fun i o s a b => (e.at' i o s a b).step st, e.apart⟩
theorem Sv.setVal (e : Sv c Hi H σ ρ) (i : Nat) {v : V} {d : D} (h : Dv c.K c.cl Hi v d) : Sv c Hi H (σ.set i (some v)) (ρ.set i (.val d)) := by
  refine ⟨by simp [e.len], fun j o s a b => ?_, fun j k p xs ys a b a' b' => ?_⟩
  · by_cases hj : j = i
    · subst hj
      have h1 : j < σ.length := by
        have := (List.getElem?_eq_some_iff.mp a).1
        simpa using this
      have h2 : j < ρ.length := by rw [← e.len]; exact h1
      rw [List.getElem?_set_self h1] at a
      rw [List.getElem?_set_self h2] at b
      cases a
      cases b
      exact ⟨v, rfl, h⟩
    · rw [List.getElem?_set_ne (Ne.symm hj)] at a b
      exact e.at' j o s a b
  · by_cases hj : j = i
    · subst hj
      have h2 : j < ρ.length := by
        have := (List.getElem?_eq_some_iff.mp a).1
        simpa using this
      rw [List.getElem?_set_self h2] at a
      cases a
    · by_cases hk : k = i
      · subst hk
        have h2 : k < ρ.length := by
          have := (List.getElem?_eq_some_iff.mp b).1
          simpa using this
        rw [List.getElem?_set_self h2] at b
        cases b
      · rw [List.getElem?_set_ne (Ne.symm hj)] at a a'
        rw [List.getElem?_set_ne (Ne.symm hk)] at b b'
        exact e.apart j k p xs ys a b a' b'
theorem Sv.setUn (e : Sv c Hi H σ ρ) (i : Nat) (o : Option V) : Sv c Hi H (σ.set i o) (ρ.set i .un) := by
  refine ⟨by simp [e.len], fun j o' s a b => ?_, fun j k p xs ys a b a' b' => ?_⟩
  · by_cases hj : j = i
    · subst hj
      have h1 : j < σ.length := by
        have := (List.getElem?_eq_some_iff.mp a).1
        simpa using this
      have h2 : j < ρ.length := by rw [← e.len]; exact h1
      rw [List.getElem?_set_self h2] at b
      cases b
      trivial
    · rw [List.getElem?_set_ne (Ne.symm hj)] at a b
      exact e.at' j o' s a b
  · by_cases hj : j = i
    · subst hj
      have h2 : j < ρ.length := by
        have := (List.getElem?_eq_some_iff.mp a).1
        simpa using this
      rw [List.getElem?_set_self h2] at a
      cases a
    · by_cases hk : k = i
      · subst hk
        have h2 : k < ρ.length := by
          have := (List.getElem?_eq_some_iff.mp b).1
          simpa using this
        rw [List.getElem?_set_self h2] at b
        cases b
      · rw [List.getElem?_set_ne (Ne.symm hj)] at a a'
        rw [List.getElem?_set_ne (Ne.symm hk)] at b b'
        exact e.apart j k p xs ys a b a' b'
/-- an own list comes into a slot: its place is none of the other own ones -/
theorem Sv.setMo (e : Sv c Hi H σ ρ) (i : Nat) {m : Mo} (h1 : H p = some o) (h2 : Hi p = none) (h3 : c.H0 p = none) (h4 : MoOk c.K c.cl Hi o m)
    (ne : ∀ j ys, j ≠ i → ρ[j]? = some (.mo ys) → σ[j]? ≠ some (some (.ref p))) : Sv c Hi H (σ.set i (some (.ref p))) (ρ.set i (.mo m)) := by
  refine ⟨by simp [e.len], fun j o s a b => ?_, fun j k q xs' ys a b a' b' => ?_⟩
  · by_cases hj : j = i
    · subst hj
      have h1' : j < σ.length := by
        have := (List.getElem?_eq_some_iff.mp a).1
        simpa using this
      have h2' : j < ρ.length := by rw [← e.len]; exact h1'
      rw [List.getElem?_set_self h1'] at a
      rw [List.getElem?_set_self h2'] at b
      cases a
      cases b
      exact ⟨p, _, rfl, h1, h2, h3, h4⟩
    · rw [List.getElem?_set_ne (Ne.symm hj)] at a b
      exact e.at' j o s a b
  · by_cases hj : j = i
    · by_cases hk : k = i
      · rw [hj, hk]
      · subst hj
        have h1' : j < σ.length := by
          have := (List.getElem?_eq_some_iff.mp a').1
          simpa using this
        rw [List.getElem?_set_self h1'] at a'
        cases a'
        rw [List.getElem?_set_ne (Ne.symm hk)] at b b'
        exact absurd b' (ne k _ hk b)
    · by_cases hk : k = i
      · subst hk
        have h1' : k < σ.length := by
          have := (List.getElem?_eq_some_iff.mp b').1
          simpa using this
        rw [List.getElem?_set_self h1'] at b'
        cases b'
        rw [List.getElem?_set_ne (Ne.symm hj)] at a a'
        exact absurd a' (ne j _ hj a)
      · rw [List.getElem?_set_ne (Ne.symm hj)] at a a'
        rw [List.getElem?_set_ne (Ne.symm hk)] at b b'
        exact e.apart j k q xs' ys a b a' b'
theorem Sv.setOwn (e : Sv c Hi H σ ρ) (i : Nat) {vs : List V} {xs : List D} (h1 : H p = some (.lst vs)) (h2 : Hi p = none) (h3 : c.H0 p = none) (h4 : DvA c.K c.cl Hi vs xs)
    (ne : ∀ j ys, j ≠ i → ρ[j]? = some (.mo ys) → σ[j]? ≠ some (some (.ref p))) : Sv c Hi H (σ.set i (some (.ref p))) (ρ.set i (.own xs)) := e.setMo i h1 h2 h3 ⟨vs, rfl, h4⟩ ne
/-- the own list in slot i changes -/
theorem Sv.changeMo (e : Sv c Hi H σ ρ) {i : Nat} {m m' : Mo} {u' : HO} (hr : ρ[i]? = some (.mo m)) (hs : σ[i]? = some (some (.ref p))) (hd : MoOk c.K c.cl Hi u' m') :
    Sv c Hi (upd H p u') σ (ρ.set i (.mo m')) := by
  refine ⟨by simp [e.len], fun j o s a b => ?_, fun j k q xs' ys' a b a' b' => ?_⟩
  · by_cases hj : j = i
    · subst hj
      have h2' : j < ρ.length := (List.getElem?_eq_some_iff.mp hr).1
      rw [List.getElem?_set_self h2'] at b
      rw [hs] at a
      cases a
      cases b
      obtain ⟨q, vs, e1, e2, e3, e4, e5⟩ := e.at' j _ _ hs hr
      cases e1
      exact ⟨p, _, rfl, upd_same, e3, e4, hd⟩
    · rw [List.getElem?_set_ne (Ne.symm hj)] at b
      have h := e.at' j o s a b
      cases s with
      | un => trivial
      | err => exact h
      | val d => exact h
      | mo zs =>
        obtain ⟨q, vs, e1, e2, e3, e4, e5⟩ := h
        subst e1
        refine ⟨q, vs, rfl, ?_, e3, e4, e5⟩
        rw [upd_ne]
        · exact e2
        · intro z
          subst z
          exact hj (e.apart j i q zs m b hr a hs)
  · have fj : ∀ (j : Nat) (zs : Mo), (ρ.set i (.mo m'))[j]? = some (.mo zs) → ∃ us, ρ[j]? = some (.mo us) := fun j zs h => by
      by_cases hj : j = i
      · subst hj
        exact ⟨m, hr⟩
      · rw [List.getElem?_set_ne (Ne.symm hj)] at h
        exact ⟨_, h⟩
    obtain ⟨u1, a1⟩ := fj j _ a
    obtain ⟨u2, b1⟩ := fj k _ b
    exact e.apart j k q u1 u2 a1 b1 a' b'
theorem Sv.change (e : Sv c Hi H σ ρ) {i : Nat} {xs ys : List D} {ws : List V} (hr : ρ[i]? = some (.own xs)) (hs : σ[i]? = some (some (.ref p))) (hd : DvA c.K c.cl Hi ws ys) :
    Sv c Hi (upd H p (.lst ws)) σ (ρ.set i (.own ys)) := e.changeMo hr hs ⟨ws, rfl, hd⟩
theorem Ok.changeMo (ok : Ok c Hi H) {u u' : HO} (h1 : H p = some u) (ht : ∀ ps, u ≠ .tbl ps) (h2 : Hi p = none) (h3 : c.H0 p = none) : Ok c Hi (upd H p u') := by
  have np := ok.notTab h1 ht
  refine ⟨fun b u k => ?_, ok.q, fun b u nb k => ?_, ok.new, fun b hb => ?_, ok.tabI⟩
  · rw [upd_ne (ne_of_none k h2)]
    exact ok.le _ _ k
  · rw [upd_ne (ne_of_none k h3)]
    exact ok.h _ _ nb k
  · obtain ⟨ps, e, t⟩ := ok.tab b hb
    exact ⟨ps, by rw [upd_ne (show b ≠ p from fun z => np (by rw [← z]; exact hb))]; exact e, t⟩
theorem Ok.change (ok : Ok c Hi H) {vs ws : List V} (h1 : H p = some (.lst vs)) (h2 : Hi p = none) (h3 : c.H0 p = none) : Ok c Hi (upd H p (.lst ws)) := ok.changeMo h1 (fun _ z => by cases z) h2 h3
/-- the own list in slot i is frozen -/
theorem Sv.freezeMo (e : Sv c Hi H σ ρ) (ok : Ok c Hi H) {i : Nat} {m : Mo} (hr : ρ[i]? = some (.mo m)) :
    ∃ Hi', Same Hi Hi' ∧ Ok c Hi' H ∧ Sv c Hi' H σ (ρ.set i (.val (moD m))) := by
  obtain ⟨o, hs, p, u0, rfl, e2, e3, e4, e5⟩ := e.find hr
  have sm : Same Hi (upd Hi p u0) := same_upd e3
  refine ⟨upd Hi p u0, sm, ok.freeze e2 e5.notTbl e3 e4, by simp [e.len], fun j o s a b => ?_, fun j k q xs' ys' a b a' b' => ?_⟩
  · by_cases hj : j = i
    · subst hj
      have h2' : j < ρ.length := (List.getElem?_eq_some_iff.mp hr).1
      rw [List.getElem?_set_self h2'] at b
      rw [hs] at a
      cases a
      cases b
      exact ⟨_, rfl, (e5.up sm).dv upd_same⟩
    · rw [List.getElem?_set_ne (Ne.symm hj)] at b
      have h := e.at' j o s a b
      cases s with
      | un => trivial
      | err => exact h
      | val d => obtain ⟨v, e1, h⟩ := h; exact ⟨v, e1, h.up sm⟩
      | mo zs =>
        obtain ⟨q, us, e1, f2, f3, f4, f5⟩ := h
        subst e1
        refine ⟨q, us, rfl, f2, ?_, f4, f5.up sm⟩
        rw [upd_ne]
        · exact f3
        · intro z
          subst z
          exact hj (e.apart j i q zs m b hr a hs)
  · have fj : ∀ (j : Nat) (zs : Mo), (ρ.set i (.val (moD m)))[j]? = some (.mo zs) → j ≠ i ∧ ρ[j]? = some (.mo zs) := fun j zs h => by
      by_cases hj : j = i
      · subst hj
        have h2' : j < ρ.length := (List.getElem?_eq_some_iff.mp hr).1
        rw [List.getElem?_set_self h2'] at h
        cases h
      · rw [List.getElem?_set_ne (Ne.symm hj)] at h
        exact ⟨hj, h⟩
    exact e.apart j k q _ _ (fj j _ a).2 (fj k _ b).2 a' b'
theorem Sv.freeze (e : Sv c Hi H σ ρ) (ok : Ok c Hi H) {i : Nat} {xs : List D} (hr : ρ[i]? = some (.own xs)) :
    ∃ Hi', Same Hi Hi' ∧ Ok c Hi' H ∧ Sv c Hi' H σ (ρ.set i (.val (.lst xs))) := e.freezeMo ok hr
end
end Xd
namespace Xd
open PySem L2

/-! ### judgements of expressions -/
abbrev WE := Xc → St → Hp → Hp → Prop
abbrev ME := Rho → R D
def JE (c : Cc) (W : WE) (te : TE) (f : Rho → R D) : Prop := ∀ (σ : St) (ρ : Rho) (Hi H : Hp), Ok c Hi H → Sv c Hi H σ ρ → ∀ Q : VK,
  Meet (f ρ) (fun d => ∀ v Hi' H', Step c Hi H Hi' H' → Dv c.K c.cl Hi' v d → Q v H') (fun x => ∀ Hi' H', Step c Hi H Hi' H' → W x σ Hi' H') → te σ H Q
def JT (c : Cc) (W : WE) (te : TT) (f : Rho → R Bool) : Prop := ∀ (σ : St) (ρ : Rho) (Hi H : Hp), Ok c Hi H → Sv c Hi H σ ρ → ∀ Q : Bool → Hp → Prop,
  Meet (f ρ) (fun b => ∀ Hi' H', Step c Hi H Hi' H' → Q b H') (fun x => ∀ Hi' H', Step c Hi H Hi' H' → W x σ Hi' H') → te σ H Q
def JA (c : Cc) (W : WE) (te : TA) (f : Rho → R (List D)) : Prop := ∀ (σ : St) (ρ : Rho) (Hi H : Hp), Ok c Hi H → Sv c Hi H σ ρ → ∀ Q : List V → Hp → Prop,
  Meet (f ρ) (fun ds => ∀ vs Hi' H', Step c Hi H Hi' H' → DvA c.K c.cl Hi' vs ds → Q vs H') (fun x => ∀ Hi' H', Step c Hi H Hi' H' → W x σ Hi' H') → te σ H Q
def JP (c : Cc) (W : WE) (te : TO) (f : Rho → R (Option Int)) : Prop := ∀ (σ : St) (ρ : Rho) (Hi H : Hp), Ok c Hi H → Sv c Hi H σ ρ → ∀ Q : Option Int → Hp → Prop,
  Meet (f ρ) (fun b => ∀ Hi' H', Step c Hi H Hi' H' → Q b H') (fun x => ∀ Hi' H', Step c Hi H Hi' H' → W x σ Hi' H') → te σ H Q
/-- a new list that nobody else has -/
def JL (c : Cc) (W : WE) (te : TE) (f : Rho → R (List D)) : Prop := ∀ (σ : St) (ρ : Rho) (Hi H : Hp), Ok c Hi H → Sv c Hi H σ ρ → ∀ Q : VK,
  Meet (f ρ) (fun xs => ∀ p vs Hi' H', Step c Hi H Hi' H' → H p = none → Hi' p = none → H' p = some (.lst vs) → DvA c.K c.cl Hi' vs xs → Q (.ref p) H') (fun x => ∀ Hi' H', Step c Hi H Hi' H' → W x σ Hi' H') → te σ H Q
/-- operations on values -/
def RetD (c : Cc) (Hi H : Hp) (Q : VK) (d : D) : Prop := ∀ v Hi' H', Step c Hi H Hi' H' → Dv c.K c.cl Hi' v d → Q v H'
def RetL (c : Cc) (Hi H : Hp) (Q : VK) (xs : List D) : Prop := ∀ p vs Hi' H', Step c Hi H Hi' H' → H p = none → Hi' p = none → H' p = some (.lst vs) → DvA c.K c.cl Hi' vs xs → Q (.ref p) H'
def JO (c : Cc) (r : R2) (o : D → D → Option D) : Prop := ∀ (Hi H : Hp), Ok c Hi H → ∀ (x y : V) (a b d : D) (Q : VK), Dv c.K c.cl Hi x a → Dv c.K c.cl Hi y b → o a b = some d → RetD c Hi H Q d → r x y H Q
def JOL (c : Cc) (r : R2) (o : D → D → Option (List D)) : Prop := ∀ (Hi H : Hp), Ok c Hi H → ∀ (x y : V) (a b : D) (d : List D) (Q : VK), Dv c.K c.cl Hi x a → Dv c.K c.cl Hi y b → o a b = some d → RetL c Hi H Q d → r x y H Q
def JU (c : Cc) (r : V → Hp → VK → Prop) (o : D → Option D) : Prop := ∀ (Hi H : Hp), Ok c Hi H → ∀ (x : V) (a d : D) (Q : VK), Dv c.K c.cl Hi x a → o a = some d → RetD c Hi H Q d → r x H Q
def JC (c : Cc) (r : List V → Hp → VK → Prop) (o : List D → Option D) : Prop := ∀ (Hi H : Hp), Ok c Hi H → ∀ (xs : List V) (as : List D) (d : D) (Q : VK), DvA c.K c.cl Hi xs as → o as = some d → RetD c Hi H Q d → r xs H Q
def JCL (c : Cc) (r : List V → Hp → VK → Prop) (o : List D → Option (List D)) : Prop := ∀ (Hi H : Hp), Ok c Hi H → ∀ (xs : List V) (as : List D) (d : List D) (Q : VK), DvA c.K c.cl Hi xs as → o as = some d → RetL c Hi H Q d → r xs H Q
def JM (c : Cc) (r : V → List V → Hp → VK → Prop) (o : D → List D → Option D) : Prop := ∀ (Hi H : Hp), Ok c Hi H → ∀ (x : V) (xs : List V) (a : D) (as : List D) (d : D) (Q : VK), Dv c.K c.cl Hi x a → DvA c.K c.cl Hi xs as → o a as = some d → RetD c Hi H Q d → r x xs H Q
def JML (c : Cc) (r : V → List V → Hp → VK → Prop) (o : D → List D → Option (List D)) : Prop := ∀ (Hi H : Hp), Ok c Hi H → ∀ (x : V) (xs : List V) (a : D) (as d : List D) (Q : VK), Dv c.K c.cl Hi x a → DvA c.K c.cl Hi xs as → o a as = some d → RetL c Hi H Q d → r x xs H Q
def JS3 (c : Cc) (r : V → Option Int → Option Int → Hp → VK → Prop) (o : D → Option Int → Option Int → Option D) : Prop := ∀ (Hi H : Hp), Ok c Hi H → ∀ (x : V) (i j : Option Int) (a : D) (d : D) (Q : VK), Dv c.K c.cl Hi x a → o a i j = some d → RetD c Hi H Q d → r x i j H Q
def JSL3 (c : Cc) (r : V → Option Int → Option Int → Hp → VK → Prop) (o : D → Option Int → Option Int → Option (List D)) : Prop := ∀ (Hi H : Hp), Ok c Hi H → ∀ (x : V) (i j : Option Int) (a : D) (d : List D) (Q : VK), Dv c.K c.cl Hi x a → o a i j = some d → RetL c Hi H Q d → r x i j H Q

/-! ### mirrors -/
def eVar (i : Nat) : Rho → R D := fun ρ => match ρ[i]? with
  | some (.val d) => .ok d
  | _ => .bad
def eC (d : D) : Rho → R D := fun _ => .ok d
def ro {α : Type} : Option α → R α
  | some a => .ok a
  | none => .bad
@[simp] theorem ro_some {α : Type} (a : α) : ro (some a) = .ok a := rfl
@[simp] theorem ro_none {α : Type} : ro (none : Option α) = .bad := rfl
def e1 (o : D → Option D) (f : Rho → R D) : Rho → R D := fun ρ => (f ρ).bind fun a => ro (o a)
def e2 (o : D → D → Option D) (f g : Rho → R D) : Rho → R D := fun ρ => (f ρ).bind fun a => (g ρ).bind fun b => ro (o a b)
def e2L (o : D → D → Option (List D)) (f g : Rho → R D) : Rho → R (List D) := fun ρ => (f ρ).bind fun a => (g ρ).bind fun b => ro (o a b)
def aNil : Rho → R (List D) := fun _ => .ok []
def aCons (f : Rho → R D) (g : Rho → R (List D)) : Rho → R (List D) := fun ρ => (f ρ).bind fun a => (g ρ).bind fun b => .ok (a :: b)
def eFz (f : Rho → R (List D)) : Rho → R D := fun ρ => (f ρ).bind fun xs => .ok (.lst xs)
def eTup (f : Rho → R (List D)) : Rho → R D := fun ρ => (f ρ).bind fun xs => if xs.length ≤ 100000 then .ok (.tup xs) else .bad
def lLst (f : Rho → R (List D)) : Rho → R (List D) := fun ρ => (f ρ).bind fun xs => if xs.length ≤ 100000 then .ok xs else .bad
def eCB (o : List D → Option D) (f : Rho → R (List D)) : Rho → R D := fun ρ => (f ρ).bind fun as => ro (o as)
def lCB (o : List D → Option (List D)) (f : Rho → R (List D)) : Rho → R (List D) := fun ρ => (f ρ).bind fun as => ro (o as)
def eCall (m : List D → R D) (f : Rho → R (List D)) : Rho → R D := fun ρ => (f ρ).bind m
def lCall (m : List D → R (List D)) (f : Rho → R (List D)) : Rho → R (List D) := fun ρ => (f ρ).bind m
def noX {α : Type} : R α → R α
  | .ok a => .ok a
  | _ => .bad
def eMt (o : D → List D → Option D) (f : Rho → R D) (g : Rho → R (List D)) : Rho → R D := fun ρ => (f ρ).bind fun a => (g ρ).bind fun b => ro (o a b)
def lMt (o : D → List D → Option (List D)) (f : Rho → R D) (g : Rho → R (List D)) : Rho → R (List D) := fun ρ => (f ρ).bind fun a => (g ρ).bind fun b => ro (o a b)
def asB : D → R Bool
  | .bl b => .ok b
  | _ => .bad
def asI : D → R Int
  | .int b => .ok b
  | _ => .bad
def bTest (f : Rho → R D) : Rho → R Bool := fun ρ => (f ρ).bind asB
def bNot (f : Rho → R Bool) : Rho → R Bool := fun ρ => (f ρ).bind fun b => .ok (!b)
def bAnd (f g : Rho → R Bool) : Rho → R Bool := fun ρ => (f ρ).bind fun b => if b = true then g ρ else .ok false
def bOr (f g : Rho → R Bool) : Rho → R Bool := fun ρ => (f ρ).bind fun b => if b = true then .ok true else g ρ
def bYes : Rho → R Bool := fun _ => .ok true
def eAnd (f g : Rho → R D) : Rho → R D := fun ρ => (f ρ).bind fun d => (asB d).bind fun b => if b = true then g ρ else .ok (.bl false)
def eOr (f g : Rho → R D) : Rho → R D := fun ρ => (f ρ).bind fun d => (asB d).bind fun b => if b = true then .ok (.bl true) else g ρ
def eNot (f : Rho → R D) : Rho → R D := fun ρ => (f ρ).bind fun d => (asB d).bind fun b => .ok (.bl (!b))
def eIf (t : Rho → R Bool) (f g : Rho → R D) : Rho → R D := fun ρ => (t ρ).bind fun b => if b = true then f ρ else g ρ
def pNo : Rho → R (Option Int) := fun _ => .ok none
def pSome (f : Rho → R D) : Rho → R (Option Int) := fun ρ => (f ρ).bind fun d => (asI d).bind fun i => .ok (some i)
def eSl (o : D → Option Int → Option Int → Option D) (f : Rho → R D) (l h : Rho → R (Option Int)) : Rho → R D := fun ρ => (f ρ).bind fun a => (l ρ).bind fun i => (h ρ).bind fun j => ro (o a i j)
def lSl (o : D → Option Int → Option Int → Option (List D)) (f : Rho → R D) (l h : Rho → R (Option Int)) : Rho → R (List D) := fun ρ => (f ρ).bind fun a => (l ρ).bind fun i => (h ρ).bind fun j => ro (o a i j)
def eChain (o o' : D → D → Option D) (f g h : Rho → R D) : Rho → R D := fun ρ => (f ρ).bind fun a => (g ρ).bind fun b => (ro (o a b)).bind fun z => (asB z).bind fun k => if k = true then (h ρ).bind fun d => ro (o' b d) else .ok (.bl false)

section
variable {c : Cc} {W : WE} {ta tb tc : TE} {tt tu : TT} {ts tr : TA} {f g h : Rho → R D} {fb gb : Rho → R Bool} {fs gs : Rho → R (List D)} {r r' : R2} {o o' : D → D → Option D}
theorem Sv.val {Hi H : Hp} {σ : St} {ρ : Rho} (e : Sv c Hi H σ ρ) {i : Nat} {d : D} (h : ρ[i]? = some (.val d)) : ∃ v, σ[i]? = some (some v) ∧ Dv c.K c.cl Hi v d := by
  obtain ⟨o, h1, v, rfl, h2⟩ := e.find h
  exact ⟨v, h1, h2⟩
theorem je_var (i : Nat) : JE c W (tVar i) (eVar i) := fun σ ρ Hi H ok sv Q h => by
  unfold eVar at h
  split at h
  · rename_i d hd
    obtain ⟨v, h1, h2⟩ := sv.val hd
    exact ⟨v, h1, h v Hi H (Step.refl ok) h2⟩
  · exact h.elim
theorem je_c {v : V} {d : D} (hd : ∀ Hi, Dv c.K c.cl Hi v d) : JE c W (tC v) (eC d) := fun σ ρ Hi H ok sv Q h => h v Hi H (Step.refl ok) (hd Hi)
theorem je_int {i : Int} : JE c W (tC (.int i)) (eC (.int i)) := je_c fun _ => .int _
theorem je_str {i : Str} : JE c W (tC (.str i)) (eC (.str i)) := je_c fun _ => .str _
theorem je_bl {i : Bool} : JE c W (tC (.bl i)) (eC (.bl i)) := je_c fun _ => .bl _
theorem je_non : JE c W (tC .non) (eC .non) := je_c fun _ => .non
theorem je_opq {v : V} : JE c W (tC v) (eC (.opq v)) := je_c fun _ => .opq _
/-- one evaluation behind another -/
theorem Step.exc {σ : St} {Hi H Hi' H' : Hp} {x : Xc} (st : Step c Hi H Hi' H') (h : ∀ Hi2 H2, Step c Hi H Hi2 H2 → W x σ Hi2 H2) : ∀ Hi2 H2, Step c Hi' H' Hi2 H2 → W x σ Hi2 H2 := fun Hi2 H2 s2 => h Hi2 H2 (st.trans s2)
theorem meet_step {α : Type} {m : R α} {σ : St} {Hi H Hi' H' : Hp} {p p' : α → Prop} (st : Step c Hi H Hi' H') (h : Meet m p fun x => ∀ Hi2 H2, Step c Hi H Hi2 H2 → W x σ Hi2 H2) (hp : ∀ a, p a → p' a) :
    Meet m p' fun x => ∀ Hi2 H2, Step c Hi' H' Hi2 H2 → W x σ Hi2 H2 := h.imp hp fun x k => st.exc k
theorem ro_meet {α : Type} {m : Option α} {p : α → Prop} {q : Xc → Prop} {G : Prop} (h : Meet (ro m) p q) (k : ∀ a, m = some a → p a → G) : G := by
  cases m with
  | some a => exact k a rfl h
  | none => exact h.elim
theorem je_op (ho : JO c r o) (ha : JE c W ta f) (hb : JE c W tb g) : JE c W (tOp r ta tb) (e2 o f g) := fun σ ρ Hi H ok sv Q h => by
  refine ha σ ρ Hi H ok sv _ (h.bind.imp (fun a h v Hi1 H1 s1 d1 => ?_) fun x k => k)
  refine hb σ ρ Hi1 H1 s1.ok (sv.step s1) _ (meet_step s1 h.bind fun b h v2 Hi2 H2 s2 d2 => ?_)
  exact ro_meet h fun d e q => ho Hi2 H2 s2.ok v v2 a b d Q (d1.up s2.hi) d2 e fun v3 Hi3 H3 s3 d3 => q v3 Hi3 H3 ((s1.trans s2).trans s3) d3
theorem je_exact (ha : JE c W ta f) (e : f = g) : JE c W ta g := e ▸ ha
theorem RetD.to {Hi H Hi' H' : Hp} {Q : VK} {d : D} (h : RetD c Hi H Q d) (s : Step c Hi H Hi' H') : RetD c Hi' H' Q d := fun v Hi2 H2 s2 e => h v Hi2 H2 (s.trans s2) e
theorem RetL.to {Hi H Hi' H' : Hp} {Q : VK} {d : List D} (h : RetL c Hi H Q d) (s : Step c Hi H Hi' H') : RetL c Hi' H' Q d := fun p v Hi2 H2 s2 n n2 e e2 => h p v Hi2 H2 (s.trans s2) (s.free n) n2 e e2
theorem jl_op {o : D → D → Option (List D)} (ho : JOL c r o) (ha : JE c W ta f) (hb : JE c W tb g) : JL c W (tOp r ta tb) (e2L o f g) := fun σ ρ Hi H ok sv Q h => by
  refine ha σ ρ Hi H ok sv _ (h.bind.imp (fun a h v Hi1 H1 s1 d1 => ?_) fun x k => k)
  refine hb σ ρ Hi1 H1 s1.ok (sv.step s1) _ (meet_step s1 h.bind fun b h v2 Hi2 H2 s2 d2 => ?_)
  exact ro_meet h fun d e q => ho Hi2 H2 s2.ok v v2 a b d Q (d1.up s2.hi) d2 e (RetL.to (fun p v Hi2 H2 s2 n n2 e e2 => q p v Hi2 H2 s2 n n2 e e2) (s1.trans s2))
theorem je_un {r : V → Hp → VK → Prop} {o : D → Option D} (ho : JU c r o) (ha : JE c W ta f) : JE c W (tUn r ta) (e1 o f) := fun σ ρ Hi H ok sv Q h => by
  refine ha σ ρ Hi H ok sv _ (h.bind.imp (fun a h v Hi1 H1 s1 d1 => ?_) fun x k => k)
  exact ro_meet h fun d e q => ho Hi1 H1 s1.ok v a d Q d1 e (RetD.to q s1)
/-- a new list, frozen -/
theorem Step.frozen {Hi H Hi' H' : Hp} {p : Addr} {o : HO} (ok : Ok c Hi H) (s : Step c Hi H Hi' H') (n : H p = none) (n' : Hi' p = none) (e : H' p = some o) (ho : ∀ ps, o ≠ .tbl ps := by intro _ z; cases z) : Step c Hi H (upd Hi' p o) H' := by
  refine ⟨s.hi.trans (same_upd n'), s.h, fun q u e1 e2 => ?_, ok, s.ok.freeze e ho n' (ok.free0 n)⟩
  rw [upd_ne (ne_of_none e1 n)]
  exact s.fr q u e1 e2
theorem je_fz (h : JL c W ta fs) : JE c W ta (eFz fs) := fun σ ρ Hi H ok sv Q hq => by
  refine h σ ρ Hi H ok sv Q (hq.bind.imp (fun xs k p vs Hi' H' s n n' e dv => ?_) fun x k => k)
  exact k _ _ _ (Step.frozen ok s n n' e) (.lst upd_same (dv.up (same_upd n')))
theorem ja_nil : JA c W tNil aNil := fun σ ρ Hi H ok sv Q h => h [] Hi H (Step.refl ok) .nil
theorem ja_cons (ha : JE c W ta f) (hr : JA c W tr fs) : JA c W (tCons ta tr) (aCons f fs) := fun σ ρ Hi H ok sv Q h => by
  refine ha σ ρ Hi H ok sv _ (h.bind.imp (fun a h v Hi1 H1 s1 d1 => ?_) fun x k => k)
  refine hr σ ρ Hi1 H1 s1.ok (sv.step s1) _ (meet_step s1 h.bind fun b h vs Hi2 H2 s2 d2 => ?_)
  exact h (v :: vs) Hi2 H2 (s1.trans s2) (.cons (d1.up s2.hi) d2)
theorem lim_le {n : Nat} (h : n ≤ 100000) : n ≤ sizeLine := Nat.le_trans h (by decide)
theorem lim_lt {n : Nat} (h : n < 100000) : n < sizeLine := Nat.lt_of_lt_of_le h (by decide)
theorem meet_if {α : Type} {P : Prop} [Decidable P] {a : R α} {p : α → Prop} {q : Xc → Prop} (h : Meet (if P then a else .bad) p q) : P ∧ Meet a p q := by
  by_cases hp : P
  · rw [if_pos hp] at h; exact ⟨hp, h⟩
  · rw [if_neg hp] at h; exact h.elim
theorem RetD.tup {Hi H : Hp} {Q : VK} {vs : List V} {xs : List D} (q : RetD c Hi H Q (.tup xs)) (ok : Ok c Hi H) (h : DvA c.K c.cl Hi vs xs) (p : Addr) (np : H p = none) : Q (.ref p) (upd H p (.tup vs)) := by
  have s := Step.new (o := .tup vs) ok np
  exact q _ _ _ s (.tup (.inl (.inl upd_same)) (h.up s.hi))
theorem RetL.lst {Hi H : Hp} {Q : VK} {vs : List V} {xs : List D} (q : RetL c Hi H Q xs) (ok : Ok c Hi H) (h : DvA c.K c.cl Hi vs xs) (p : Addr) (np : H p = none) : Q (.ref p) (upd H p (.lst vs)) :=
  q p _ _ _ (Step.newOwn ok np) np (ok.free np) upd_same h
theorem RetD.lst {Hi H : Hp} {Q : VK} {vs : List V} {xs : List D} (q : RetD c Hi H Q (.lst xs)) (ok : Ok c Hi H) (h : DvA c.K c.cl Hi vs xs) (p : Addr) (np : H p = none) : Q (.ref p) (upd H p (.lst vs)) := by
  have s := Step.new (o := .lst vs) ok np
  exact q _ _ _ s (.lst upd_same (h.up s.hi))
theorem RetD.here {Hi H : Hp} {Q : VK} {v : V} {d : D} (q : RetD c Hi H Q d) (ok : Ok c Hi H) (h : Dv c.K c.cl Hi v d) : Q v H := q v Hi H (Step.refl ok) h
/-- what gives a new list gives it frozen too -/
theorem RetL.of {Hi H : Hp} {Q : VK} {xs : List D} (q : RetD c Hi H Q (.lst xs)) (ok : Ok c Hi H) : RetL c Hi H Q xs := fun p vs Hi' H' s n n' e dv => q _ _ _ (Step.frozen ok s n n' e) (.lst upd_same (dv.up (same_upd n')))
theorem je_tup (ha : JA c W ts fs) : JE c W (tTup ts) (eTup fs) := fun σ ρ Hi H ok sv Q h => by
  refine ha σ ρ Hi H ok sv _ (h.bind.imp (fun xs h vs Hi1 H1 s1 d1 => ?_) fun x k => k)
  obtain ⟨hl, h⟩ := meet_if h
  refine ⟨lim_le (by rw [d1.length]; exact hl), fun p np => ?_⟩
  have s2 := Step.new (o := .tup vs) s1.ok np
  exact h _ _ _ (s1.trans s2) (.tup (.inl (.inl upd_same)) (d1.up s2.hi))
theorem jl_lst (ha : JA c W ts fs) : JL c W (tLst ts) (lLst fs) := fun σ ρ Hi H ok sv Q h => by
  refine ha σ ρ Hi H ok sv _ (h.bind.imp (fun xs h vs Hi1 H1 s1 d1 => ?_) fun x k => k)
  obtain ⟨hl, h⟩ := meet_if h
  refine ⟨lim_le (by rw [d1.length]; exact hl), fun p np => ?_⟩
  have s2 := Step.newOwn (o := .lst vs) s1.ok np
  exact h p vs _ _ (s1.trans s2) (s1.free np) (s1.ok.free np) upd_same d1
/-! ### calls of what is built in -/
theorem je_cb {rr : List V → Hp → VK → Prop} {o : List D → Option D} (ho : JC c rr o) (ha : JA c W ts fs) : JE c W (tCB rr ts) (eCB o fs) := fun σ ρ Hi H ok sv Q h => by
  refine ha σ ρ Hi H ok sv _ (h.bind.imp (fun xs h vs Hi1 H1 s1 d1 => ?_) fun x k => k)
  exact ro_meet h fun d e q => ho Hi1 H1 s1.ok vs xs d Q d1 e (RetD.to q s1)
theorem jl_cb {rr : List V → Hp → VK → Prop} {o : List D → Option (List D)} (ho : JCL c rr o) (ha : JA c W ts fs) : JL c W (tCB rr ts) (lCB o fs) := fun σ ρ Hi H ok sv Q h => by
  refine ha σ ρ Hi H ok sv _ (h.bind.imp (fun xs h vs Hi1 H1 s1 d1 => ?_) fun x k => k)
  exact ro_meet h fun d e q => ho Hi1 H1 s1.ok vs xs d Q d1 e (RetL.to (fun p v Hi2 H2 s2 n n2 e e2 => q p v Hi2 H2 s2 n n2 e e2) s1)
/-! ### tests -/
theorem asB_ok {d : D} {p : Bool → Prop} {q : Xc → Prop} {G : Prop} (h : Meet (asB d) p q) (k : ∀ b, d = .bl b → p b → G) : G := by
  cases d <;> first | exact k _ rfl h | exact h.elim
theorem jt_test (ha : JE c W ta f) : JT c W (tTest ta) (bTest f) := fun σ ρ Hi H ok sv Q h => by
  refine ha σ ρ Hi H ok sv _ (h.bind.imp (fun a h v Hi1 H1 s1 d1 => ?_) fun x k => k)
  refine asB_ok h fun b e q => ?_
  subst e
  cases d1
  exact ⟨b, rfl, q _ _ s1⟩
theorem jt_B (ha : JE c W ta f) : JT c W (tB ta) (bTest f) := fun σ ρ Hi H ok sv Q h => by
  refine ha σ ρ Hi H ok sv _ (h.bind.imp (fun a h v Hi1 H1 s1 d1 => ?_) fun x k => k)
  refine asB_ok h fun b e q => ?_
  subst e
  cases d1
  exact ⟨b, rfl, q _ _ s1⟩
theorem jt_not (ha : JT c W tt fb) : JT c W (tNot tt) (bNot fb) := fun σ ρ Hi H ok sv Q h =>
  ha σ ρ Hi H ok sv _ (h.bind.imp (fun a h Hi1 H1 s1 => h Hi1 H1 s1) fun x k => k)
theorem jt_and (ha : JT c W tt fb) (hb : JT c W tu gb) : JT c W (tAnd tt tu) (bAnd fb gb) := fun σ ρ Hi H ok sv Q h => by
  refine ha σ ρ Hi H ok sv _ (h.bind.imp (fun b h Hi1 H1 s1 => ?_) fun x k => k)
  cases b with
  | true => exact hb σ ρ Hi1 H1 s1.ok (sv.step s1) _ (meet_step s1 h fun b h Hi2 H2 s2 => h Hi2 H2 (s1.trans s2))
  | false => exact h Hi1 H1 s1
theorem jt_or (ha : JT c W tt fb) (hb : JT c W tu gb) : JT c W (tOr tt tu) (bOr fb gb) := fun σ ρ Hi H ok sv Q h => by
  refine ha σ ρ Hi H ok sv _ (h.bind.imp (fun b h Hi1 H1 s1 => ?_) fun x k => k)
  cases b with
  | false => exact hb σ ρ Hi1 H1 s1.ok (sv.step s1) _ (meet_step s1 h fun b h Hi2 H2 s2 => h Hi2 H2 (s1.trans s2))
  | true => exact h Hi1 H1 s1
theorem jt_yes : JT c W tYes bYes := fun σ ρ Hi H ok sv Q h => h Hi H (Step.refl ok)
theorem je_and (ha : JE c W ta f) (hb : JE c W tb g) : JE c W (tAndV ta tb) (eAnd f g) := fun σ ρ Hi H ok sv Q h => by
  refine ha σ ρ Hi H ok sv _ (h.bind.imp (fun a h v Hi1 H1 s1 d1 => ?_) fun x k => k)
  refine asB_ok h.bind fun b e q => ?_
  subst e
  cases d1
  refine ⟨b, rfl, ?_⟩
  cases b with
  | true => exact hb σ ρ Hi1 H1 s1.ok (sv.step s1) _ (meet_step s1 q fun b h v2 Hi2 H2 s2 => h v2 Hi2 H2 (s1.trans s2))
  | false => exact q _ _ _ s1 (.bl false)
theorem je_or (ha : JE c W ta f) (hb : JE c W tb g) : JE c W (tOrV ta tb) (eOr f g) := fun σ ρ Hi H ok sv Q h => by
  refine ha σ ρ Hi H ok sv _ (h.bind.imp (fun a h v Hi1 H1 s1 d1 => ?_) fun x k => k)
  refine asB_ok h.bind fun b e q => ?_
  subst e
  cases d1
  refine ⟨b, rfl, ?_⟩
  cases b with
  | false => exact hb σ ρ Hi1 H1 s1.ok (sv.step s1) _ (meet_step s1 q fun b h v2 Hi2 H2 s2 => h v2 Hi2 H2 (s1.trans s2))
  | true => exact q _ _ _ s1 (.bl true)
theorem je_not (ha : JE c W ta f) : JE c W (tNotV ta) (eNot f) := fun σ ρ Hi H ok sv Q h => by
  refine ha σ ρ Hi H ok sv _ (h.bind.imp (fun a h v Hi1 H1 s1 d1 => ?_) fun x k => k)
  refine asB_ok h.bind fun b e q => ?_
  subst e
  cases d1
  exact ⟨b, rfl, q _ _ _ s1 (.bl _)⟩
theorem je_if (ht : JT c W tt fb) (ha : JE c W ta f) (hb : JE c W tb g) : JE c W (tIf tt ta tb) (eIf fb f g) := fun σ ρ Hi H ok sv Q h => by
  refine ht σ ρ Hi H ok sv _ (h.bind.imp (fun b h Hi1 H1 s1 => ?_) fun x k => k)
  cases b with
  | true => exact ha σ ρ Hi1 H1 s1.ok (sv.step s1) _ (meet_step s1 h fun b h v2 Hi2 H2 s2 => h v2 Hi2 H2 (s1.trans s2))
  | false => exact hb σ ρ Hi1 H1 s1.ok (sv.step s1) _ (meet_step s1 h fun b h v2 Hi2 H2 s2 => h v2 Hi2 H2 (s1.trans s2))
theorem je_chain (ho : JO c r o) (ho' : JO c r' o') (ha : JE c W ta f) (hb : JE c W tb g) (hc : JE c W tc h) : JE c W (tChain r r' ta tb tc) (eChain o o' f g h) := fun σ ρ Hi H ok sv Q hq => by
  refine ha σ ρ Hi H ok sv _ (hq.bind.imp (fun a hq v Hi1 H1 s1 d1 => ?_) fun x k => k)
  refine hb σ ρ Hi1 H1 s1.ok (sv.step s1) _ (meet_step s1 hq.bind fun b hq v2 Hi2 H2 s2 d2 => ?_)
  refine ro_meet hq.bind fun z ez q => ho Hi2 H2 s2.ok v v2 a b z _ (d1.up s2.hi) d2 ez fun v3 Hi3 H3 s3 d3 => ?_
  refine asB_ok q.bind fun k e q => ?_
  subst e
  cases d3
  refine ⟨k, rfl, ?_⟩
  have s123 := (s1.trans s2).trans s3
  cases k with
  | true =>
    refine hc σ ρ Hi3 H3 s3.ok (sv.step s123) _ (meet_step s123 (Meet.bind q) fun d h v4 Hi4 H4 s4 d4 => ?_)
    exact ro_meet h fun z2 ez2 q => ho' Hi4 H4 s4.ok v2 v4 b d z2 Q (d2.up (s3.hi.trans s4.hi)) d4 ez2 (RetD.to q (s123.trans s4))
  | false => exact q _ _ _ s123 (.bl false)
/-! ### slices -/
theorem jp_no : JP c W tNoPart pNo := fun σ ρ Hi H ok sv Q h => h Hi H (Step.refl ok)
theorem jp_some (ha : JE c W ta f) : JP c W (tPart ta) (pSome f) := fun σ ρ Hi H ok sv Q h => by
  refine ha σ ρ Hi H ok sv _ (h.bind.imp (fun a h v Hi1 H1 s1 d1 => ?_) fun x k => k)
  cases a <;> first | exact h.elim | (cases d1; exact ⟨_, rfl, h _ _ s1⟩)
theorem je_sl {rr : V → Option Int → Option Int → Hp → VK → Prop} {oo : D → Option Int → Option Int → Option D} {tl th : TO} {pl ph : Rho → R (Option Int)} (ho : JS3 c rr oo) (ha : JE c W ta f) (hl : JP c W tl pl) (hh : JP c W th ph) :
    JE c W (tSl rr ta tl th) (eSl oo f pl ph) := fun σ ρ Hi H ok sv Q h => by
  refine ha σ ρ Hi H ok sv _ (h.bind.imp (fun a h v Hi1 H1 s1 d1 => ?_) fun x k => k)
  refine hl σ ρ Hi1 H1 s1.ok (sv.step s1) _ (meet_step s1 h.bind fun i h Hi2 H2 s2 => ?_)
  have s12 := s1.trans s2
  refine hh σ ρ Hi2 H2 s2.ok (sv.step s12) _ (meet_step s12 h.bind fun j h Hi3 H3 s3 => ?_)
  exact ro_meet h fun d e q => ho Hi3 H3 s3.ok v i j a d Q (d1.up (s2.hi.trans s3.hi)) e (RetD.to q (s12.trans s3))
theorem jl_sl {rr : V → Option Int → Option Int → Hp → VK → Prop} {oo : D → Option Int → Option Int → Option (List D)} {tl th : TO} {pl ph : Rho → R (Option Int)} (ho : JSL3 c rr oo) (ha : JE c W ta f) (hl : JP c W tl pl) (hh : JP c W th ph) :
    JL c W (tSl rr ta tl th) (lSl oo f pl ph) := fun σ ρ Hi H ok sv Q h => by
  refine ha σ ρ Hi H ok sv _ (h.bind.imp (fun a h v Hi1 H1 s1 d1 => ?_) fun x k => k)
  refine hl σ ρ Hi1 H1 s1.ok (sv.step s1) _ (meet_step s1 h.bind fun i h Hi2 H2 s2 => ?_)
  have s12 := s1.trans s2
  refine hh σ ρ Hi2 H2 s2.ok (sv.step s12) _ (meet_step s12 h.bind fun j h Hi3 H3 s3 => ?_)
  exact ro_meet h fun d e q => ho Hi3 H3 s3.ok v i j a d Q (d1.up (s2.hi.trans s3.hi)) e (RetL.to (fun p v Hi2 H2 s2 n n2 e e2 => q p v Hi2 H2 s2 n n2 e e2) (s12.trans s3))
end
end Xd
namespace Xd
open PySem L2 Xg

/-! ### one of several rules -/
theorem OpR.or {X : Cx} {f : Value → Value → Sem Value} {r1 r2 : R2} (h1 : OpR X f r1) (h2 : OpR X f r2) : OpR X f (fun x y H Q => r1 x y H Q ∨ r2 x y H Q) := fun pins s σ H x y v u Q I rx ry h =>
  h.elim (h1 pins s σ H x y v u Q I rx ry) (h2 pins s σ H x y v u Q I rx ry)
theorem CallR.or {X : Cx} {f : Value} {r1 r2 : List V → Hp → VK → Prop} (h1 : CallR X f r1) (h2 : CallR X f r2) : CallR X f (fun xs H Q => r1 xs H Q ∨ r2 xs H Q) := fun pins s σ H xs us Q I rv h =>
  h.elim (h1 pins s σ H xs us Q I rv) (h2 pins s σ H xs us Q I rv)
theorem SlR.or {X : Cx} {r1 r2 : V → Option Int → Option Int → Hp → VK → Prop} (h1 : SlR X r1) (h2 : SlR X r2) : SlR X (fun x i j H Q => r1 x i j H Q ∨ r2 x i j H Q) := fun pins s σ H x v vl vu lo hi sl Q I rx hs pl pu h =>
  h.elim (h1 pins s σ H x v vl vu lo hi sl Q I rx hs pl pu) (h2 pins s σ H x v vl vu lo hi sl Q I rx hs pl pu)
def rOrStr : R2 := fun x y H Q => ∃ i j, x = .str i ∧ y = .str j ∧ i.length + j.length ≤ sizeLine ∧ Q (.str (i ++ j)) H
def rAddX (K : PySem.W.Frag) : R2 := fun x y H Q => rI0 (fun i j => .int (i + j)) x y H Q ∨ (rOrStr x y H Q ∨ (rCat x y H Q ∨ rCatA K x y H Q))
theorem op_addX {X : Cx} : OpR X (binaryOp .Add) (rAddX X.K) := OpR.or op_add (OpR.or op_add_str (OpR.or op_cat op_catA))
def rMulX (K : PySem.W.Frag) : R2 := fun x y H Q => rI CMul (fun i j => .int (i * j)) x y H Q ∨ (rRep x y H Q ∨ rRepT K x y H Q)
theorem op_mulX {X : Cx} : OpR X (binaryOp .Mult) (rMulX X.K) := OpR.or op_mul (OpR.or op_rep op_repT)

/-! ### small values -/
def sv : D → Option V
  | .non => some .non
  | .bl b => some (.bl b)
  | .int i => some (.int i)
  | .str s => some (.str s)
  | _ => none
section
variable {c : Cc} {K : PySem.W.Frag} {cl : Nat → Addr} {Hi : Hp}
theorem Dv.small {v x : V} {d : D} (h : Dv K cl Hi v d) (e : sv d = some x) : v = x := by
  cases h <;> simp [sv] at e <;> exact e
theorem Dv.ofSmall {x : V} {d : D} (e : sv d = some x) : Dv K cl Hi x d := by
  cases d <;> simp [sv] at e <;> subst e
  · exact .non
  · exact .bl _
  · exact .int _
  · exact .str _
def svs : List D → Option (List V)
  | [] => some []
  | d :: ds => match sv d, svs ds with
    | some x, some xs => some (x :: xs)
    | _, _ => none
theorem DvA.small : ∀ {ds : List D} {vs xs : List V}, DvA K cl Hi vs ds → svs ds = some xs → vs = xs
  | [], _, _, h, e => by cases h; simp [svs] at e; exact e.symm
  | d :: ds, _, xs, h, e => by
    cases h with
    | cons h1 h2 =>
      simp only [svs] at e
      split at e
      · rename_i x ys e1 e2
        cases e
        rw [h1.small e1, DvA.small h2 e2]
      · cases e
theorem svs_flat : ∀ {ds : List D} {xs : List V}, svs ds = some xs → xs.all flatV = true
  | [], xs, e => by simp [svs] at e; subst e; rfl
  | d :: ds, xs, e => by
    simp only [svs] at e
    split at e
    · rename_i x ys e1 e2
      cases e
      rw [List.all_cons, svs_flat e2, Bool.and_true]
      cases d <;> simp [sv] at e1 <;> subst e1 <;> rfl
    · cases e
theorem sv_flat {d : D} {x : V} (e : sv d = some x) : flatV x = true := by
  cases d <;> simp [sv] at e <;> subst e <;> rfl
end

/-! ### arithmetic -/
def oAdd (a b : D) : Option D := match a, b with
  | .int i, .int j => some (.int (i + j))
  | .str i, .str j => if i.length + j.length ≤ 100000 then some (.str (i ++ j)) else none
  | .lst xs, .lst ys => if xs.length + ys.length ≤ 100000 then some (.lst (xs ++ ys)) else none
  | .tup xs, .tup ys => if xs.length + ys.length ≤ 100000 then some (.tup (xs ++ ys)) else none
  | _, _ => none
def oAddL (a b : D) : Option (List D) := match a, b with
  | .lst xs, .lst ys => if xs.length + ys.length ≤ 100000 then some (xs ++ ys) else none
  | _, _ => none
def oMulL (a b : D) : Option (List D) := match a, b with
  | .lst xs, .int k => if 0 ≤ k ∧ k ≤ 100000 ∧ xs.length * k.toNat ≤ 100000 then some (List.replicate k.toNat xs).flatten else none
  | _, _ => none
def oMul (a b : D) : Option D := match a, b with
  | .int i, .int j => if (-(2 ^ 64) < i ∧ i < 2 ^ 64) ∨ (-(2 ^ 64) < j ∧ j < 2 ^ 64) then some (.int (i * j)) else none
  | .tup xs, .int k => if xs ≠ [] ∧ 2 ≤ k ∧ k ≤ 1000 ∧ xs.length ≤ 1000 then some (.tup (List.replicate k.toNat xs).flatten) else none
  | .lst xs, .int k => if 0 ≤ k ∧ k ≤ 100000 ∧ xs.length * k.toNat ≤ 100000 then some (.lst (List.replicate k.toNat xs).flatten) else none
  | _, _ => none
def oI2 (p : Int → Int → Bool) (g : Int → Int → D) (a b : D) : Option D := match a, b with
  | .int i, .int j => if p i j = true then some (g i j) else none
  | _, _ => none
def oSub : D → D → Option D := oI2 (fun _ _ => true) fun i j => .int (i - j)
def oFdiv : D → D → Option D := oI2 (fun _ j => decide (0 < j ∧ j < 1073741824)) fun i j => .int (i / j)
def oMod : D → D → Option D := oI2 (fun _ j => decide (0 < j)) fun i j => .int (i % j)
def oLt : D → D → Option D := oI2 (fun _ _ => true) fun i j => .bl (decide (i < j))
def oLe : D → D → Option D := oI2 (fun _ _ => true) fun i j => .bl (decide (i ≤ j))
def oGt : D → D → Option D := oI2 (fun _ _ => true) fun i j => .bl (decide (j < i))
def oGe : D → D → Option D := oI2 (fun _ _ => true) fun i j => .bl (decide (j ≤ i))
def uNeg (a : D) : Option D := match a with
  | .int i => some (.int (-i))
  | _ => none
section
variable {c : Cc}
theorem oI2_inv {p : Int → Int → Bool} {g : Int → Int → D} {a b d : D} (h : oI2 p g a b = some d) : ∃ i j, a = .int i ∧ b = .int j ∧ p i j = true ∧ d = g i j := by
  unfold oI2 at h
  split at h
  · rename_i i j
    by_cases hp : p i j = true
    · rw [if_pos hp] at h; cases h; exact ⟨i, j, rfl, rfl, hp, rfl⟩
    · rw [if_neg hp] at h; cases h
  · cases h
theorem jo_I0 {g : Int → Int → V} {g' : Int → Int → D} (hg : ∀ i j, sv (g' i j) = some (g i j)) : JO c (rI0 g) (oI2 (fun _ _ => true) g') := fun Hi H ok x y a b d Q hx hy e q => by
  obtain ⟨i, j, rfl, rfl, _, rfl⟩ := oI2_inv e
  cases hx
  cases hy
  exact ⟨i, j, rfl, rfl, q _ _ _ (Step.refl ok) (Dv.ofSmall (hg i j))⟩
theorem jo_I {C : Int → Int → Prop} {p : Int → Int → Bool} {g : Int → Int → V} {g' : Int → Int → D} (hp : ∀ i j, p i j = true → C i j) (hg : ∀ i j, sv (g' i j) = some (g i j)) : JO c (rI C g) (oI2 p g') := fun Hi H ok x y a b d Q hx hy e q => by
  obtain ⟨i, j, rfl, rfl, h, rfl⟩ := oI2_inv e
  cases hx
  cases hy
  exact ⟨i, j, rfl, rfl, hp i j h, q _ _ _ (Step.refl ok) (Dv.ofSmall (hg i j))⟩
theorem jo_sub : JO c (rI0 fun i j => .int (i - j)) oSub := jo_I0 fun _ _ => rfl
theorem jo_fdiv : JO c (rI CDiv fun i j => .int (i / j)) oFdiv := jo_I (fun i j h => (by have h' : 0 < j ∧ j < 1073741824 := of_decide_eq_true h; exact h')) fun _ _ => rfl
theorem jo_mod : JO c (rI (fun _ j => 0 < j) fun i j => .int (i % j)) oMod := jo_I (fun i j h => of_decide_eq_true h) fun _ _ => rfl
theorem jo_lt : JO c (rI0 fun i j => .bl (decide (i < j))) oLt := jo_I0 fun _ _ => rfl
theorem jo_le : JO c (rI0 fun i j => .bl (decide (i ≤ j))) oLe := jo_I0 fun _ _ => rfl
theorem jo_gt : JO c (rI0 fun i j => .bl (decide (j < i))) oGt := jo_I0 fun _ _ => rfl
theorem jo_ge : JO c (rI0 fun i j => .bl (decide (j ≤ i))) oGe := jo_I0 fun _ _ => rfl
theorem ju_neg : JU c (rU fun i => .int (-i)) uNeg := fun Hi H ok x a d Q hx e q => by
  cases a <;> simp [uNeg] at e
  subst e
  cases hx
  exact ⟨_, rfl, q _ _ _ (Step.refl ok) (.int _)⟩
theorem if_some {α : Type} {P : Prop} [Decidable P] {a b : α} (h : (if P then some a else none) = some b) : P ∧ a = b := by
  by_cases hp : P
  · rw [if_pos hp] at h; exact ⟨hp, Option.some.inj h⟩
  · rw [if_neg hp] at h; cases h
theorem DvA.nil_iff {K : PySem.W.Frag} {cl : Nat → Addr} {Hi : Hp} {vs : List V} {ds : List D} (h : DvA K cl Hi vs ds) : vs = [] ↔ ds = [] := by
  cases h with
  | nil => simp
  | cons _ _ => simp
theorem jol_add : JOL c (rAddX c.K) oAddL := fun Hi H ok x y a b d Q hx hy e q => by
  unfold oAddL at e
  split at e
  · rename_i xs ys
    obtain ⟨hl, rfl⟩ := if_some e
    cases hx with
    | lst h1 h2 =>
      cases hy with
      | lst k1 k2 =>
        refine .inr (.inr (.inl ⟨_, _, _, _, rfl, rfl, ok.le _ _ h1, ok.le _ _ k1, lim_le (by rw [h2.length, k2.length]; exact hl), fun p np => ?_⟩))
        exact q p _ _ _ (Step.newOwn ok np) np (ok.free np) upd_same (h2.append k2)
  · cases e
theorem jo_add : JO c (rAddX c.K) oAdd := fun Hi H ok x y a b d Q hx hy e q => by
  unfold oAdd at e
  split at e
  · rename_i i j
    cases e
    cases hx
    cases hy
    exact .inl ⟨i, j, rfl, rfl, q _ _ _ (Step.refl ok) (.int _)⟩
  · rename_i i j
    obtain ⟨hl, rfl⟩ := if_some e
    cases hx
    cases hy
    exact .inr (.inl ⟨i, j, rfl, rfl, lim_le hl, q _ _ _ (Step.refl ok) (.str _)⟩)
  · rename_i xs ys
    obtain ⟨hl, rfl⟩ := if_some e
    refine jol_add Hi H ok x y (.lst xs) (.lst ys) (xs ++ ys) Q hx hy (by unfold oAddL; simp only; rw [if_pos hl]) fun p vs Hi' H' s n n' e dv => ?_
    exact q _ _ _ (Step.frozen ok s n n' e) (.lst upd_same (dv.up (same_upd n')))
  · rename_i xs ys
    obtain ⟨hl, rfl⟩ := if_some e
    cases hx with
    | tup h1 h2 =>
      cases hy with
      | tup k1 k2 =>
        refine .inr (.inr (.inr ⟨_, _, _, _, rfl, rfl, same_t ok.le h1, same_t ok.le k1, lim_le (by rw [h2.length, k2.length]; exact hl), fun z => ?_, fun _ z => ?_, fun _ _ p np => ?_⟩))
        · have e2 := h2.nil_iff.mp z
          subst e2
          exact q _ _ _ (Step.refl ok) (.tup k1 k2)
        · have e2 := k2.nil_iff.mp z
          subst e2
          rw [List.append_nil] at q
          exact q _ _ _ (Step.refl ok) (.tup h1 h2)
        · exact q.tup ok (h2.append k2) p np
  · cases e
theorem DvA.rep {K : PySem.W.Frag} {cl : Nat → Addr} {Hi : Hp} {vs : List V} {ds : List D} (h : DvA K cl Hi vs ds) : ∀ n, DvA K cl Hi (List.replicate n vs).flatten (List.replicate n ds).flatten
  | 0 => .nil
  | n + 1 => by
    rw [List.replicate_succ, List.replicate_succ, List.flatten_cons, List.flatten_cons]
    exact h.append (DvA.rep h n)
theorem jol_mul : JOL c (rMulX c.K) oMulL := fun Hi H ok x y a b d Q hx hy e q => by
  unfold oMulL at e
  split at e
  · rename_i xs k
    obtain ⟨⟨h0, h1, hl⟩, rfl⟩ := if_some e
    cases hy
    cases hx with
    | lst h1' h2 =>
      refine .inr (.inl ⟨_, _, _, rfl, rfl, ok.le _ _ h1', by omega, by omega, lim_le (by rw [h2.length]; exact hl), fun p np => ?_⟩)
      exact q p _ _ _ (Step.newOwn ok np) np (ok.free np) upd_same (h2.rep _)
  · cases e
theorem jo_mul : JO c (rMulX c.K) oMul := fun Hi H ok x y a b d Q hx hy e q => by
  unfold oMul at e
  split at e
  · rename_i i j
    obtain ⟨hc, rfl⟩ := if_some e
    cases hx
    cases hy
    exact .inl ⟨i, j, rfl, rfl, hc, q _ _ _ (Step.refl ok) (.int _)⟩
  · rename_i xs k
    obtain ⟨⟨h0, h1, h2, h3⟩, rfl⟩ := if_some e
    cases hy
    cases hx with
    | tup k1 k2 =>
      refine .inr (.inr ⟨_, _, _, rfl, rfl, same_t ok.le k1, fun z => h0 (k2.nil_iff.mp z), h1, h2, by rw [k2.length]; exact h3, fun p np => ?_⟩)
      exact q.tup ok (k2.rep _) p np
  · rename_i xs k
    obtain ⟨hc, rfl⟩ := if_some e
    refine jol_mul Hi H ok x y (.lst xs) (.int k) _ Q hx hy (by unfold oMulL; simp only; rw [if_pos hc]) fun p vs Hi' H' s n n' e dv => ?_
    exact q _ _ _ (Step.frozen ok s n n' e) (.lst upd_same (dv.up (same_upd n')))
  · cases e
end

/-! ### is None, is True -/
def oIsN (a b : D) : Option D := match a, b with
  | .opq v, .non => some (.bl (decide (v = .non)))
  | .non, .non => some (.bl true)
  | _, .non => some (.bl false)
  | _, _ => none
def oNotN (a b : D) : Option D := match a, b with
  | .opq v, .non => some (.bl (!decide (v = .non)))
  | .non, .non => some (.bl false)
  | _, .non => some (.bl true)
  | _, _ => none
def rIsX : R2 := fun x y H Q => (y = .non ∧ Q (.bl (decide (x = .non))) H) ∨ ∃ a b, x = .bl a ∧ y = .bl b ∧ Q (.bl (decide (a = b))) H
def rIsNotX : R2 := fun x y H Q => (y = .non ∧ Q (.bl (!decide (x = .non))) H) ∨ ∃ a b, x = .bl a ∧ y = .bl b ∧ Q (.bl (!decide (a = b))) H
theorem op_isX {X : Cx} : OpR X (compareOp .Is) rIsX := OpR.or op_isN op_is_bl
theorem op_isNotX {X : Cx} : OpR X (compareOp .IsNot) rIsNotX := OpR.or op_notN op_isnot_bl
def oIs (a b : D) : Option D := match a, b with
  | .bl i, .bl j => some (.bl (decide (i = j)))
  | a, b => oIsN a b
def oIsNot (a b : D) : Option D := match a, b with
  | .bl i, .bl j => some (.bl (!decide (i = j)))
  | a, b => oNotN a b
section
variable {c : Cc}
theorem dv_non {K : PySem.W.Frag} {cl : Nat → Addr} {Hi : Hp} {x : V} {a : D} (h : Dv K cl Hi x a) : (∃ v, a = .opq v ∧ x = v) ∨ (a = .non ∧ x = .non) ∨ ((∀ v, a ≠ .opq v) ∧ a ≠ .non ∧ x ≠ .non) := by
  cases h <;> simp
theorem jo_isN : JO c (fun x y H Q => y = .non ∧ Q (.bl (decide (x = .non))) H) oIsN := fun Hi H ok x y a b d Q hx hy e q => by
  have hb : b = .non := by
    cases b with
    | non => rfl
    | _ => cases a <;> simp [oIsN] at e
  subst hb
  cases hy
  refine ⟨rfl, q _ _ _ (Step.refl ok) ?_⟩
  rcases dv_non hx with ⟨v, rfl, rfl⟩ | ⟨rfl, rfl⟩ | ⟨h1, h2, h3⟩
  · simp [oIsN] at e; subst e; exact .bl _
  · simp [oIsN] at e; subst e; exact .bl _
  · rw [decide_eq_false h3]
    cases a <;> first | exact absurd rfl h2 | exact absurd rfl (h1 _) | (simp [oIsN] at e; subst e; exact .bl _)
theorem jo_notN : JO c (fun x y H Q => y = .non ∧ Q (.bl (!decide (x = .non))) H) oNotN := fun Hi H ok x y a b d Q hx hy e q => by
  have hb : b = .non := by
    cases b with
    | non => rfl
    | _ => cases a <;> simp [oNotN] at e
  subst hb
  cases hy
  refine ⟨rfl, q _ _ _ (Step.refl ok) ?_⟩
  rcases dv_non hx with ⟨v, rfl, rfl⟩ | ⟨rfl, rfl⟩ | ⟨h1, h2, h3⟩
  · simp [oNotN] at e; subst e; first | exact .bl _ | (simp; exact .bl _)
  · simp [oNotN] at e; subst e; exact .bl _
  · rw [decide_eq_false h3]
    cases a <;> first | exact absurd rfl h2 | exact absurd rfl (h1 _) | (simp [oNotN] at e; subst e; exact .bl _)
theorem jo_is : JO c rIsX oIs := fun Hi H ok x y a b d Q hx hy e q => by
  unfold oIs at e
  split at e
  · cases e
    cases hx
    cases hy
    exact .inr ⟨_, _, rfl, rfl, q _ _ _ (Step.refl ok) (.bl _)⟩
  · exact .inl (jo_isN Hi H ok x y a b d Q hx hy e q)
theorem jo_isNot : JO c rIsNotX oIsNot := fun Hi H ok x y a b d Q hx hy e q => by
  unfold oIsNot at e
  split at e
  · cases e
    cases hx
    cases hy
    exact .inr ⟨_, _, rfl, rfl, q _ _ _ (Step.refl ok) (.bl _)⟩
  · exact .inl (jo_notN Hi H ok x y a b d Q hx hy e q)
end

/-! ### == -/
mutual
def toPy : D → Option PyData
  | .non => some .none
  | .bl b => some (.bool b)
  | .int i => some (.int i)
  | .str s => some (.str s)
  | .lst xs => (toPys xs).map .list
  | .tup xs => (toPys xs).map .tuple
  | .ins _ _ _ => none
  | .opq _ => none
  | .dic _ _ _ => none
def toPys : List D → Option (List PyData)
  | [] => some []
  | d :: ds => match toPy d, toPys ds with
    | some p, some ps => some (p :: ps)
    | _, _ => none
end
section
variable {K : PySem.W.Frag} {cl : Nat → Addr} {Hi H : Hp}
mutual
theorem Dv.py (e : Same Hi H) : ∀ (d : D) (v : V) (p : PyData), Dv K cl Hi v d → toPy d = some p → Dp K H v p
  | .non, _, _, h, q => by cases h; simp [toPy] at q; subst q; exact .non
  | .bl _, _, _, h, q => by cases h; simp [toPy] at q; subst q; exact .bl _
  | .int _, _, _, h, q => by cases h; simp [toPy] at q; subst q; exact .int _
  | .str _, _, _, h, q => by cases h; simp [toPy] at q; subst q; exact .str _
  | .lst xs, _, _, h, q => by
    cases h with
    | lst h1 h2 =>
      simp only [toPy, Option.map_eq_some_iff] at q
      obtain ⟨ps, q, rfl⟩ := q
      exact .lst (.inl (.inl (e _ _ h1))) (DvA.py e xs _ ps h2 q)
  | .tup xs, _, _, h, q => by
    cases h with
    | tup h1 h2 =>
      simp only [toPy, Option.map_eq_some_iff] at q
      obtain ⟨ps, q, rfl⟩ := q
      exact .tup (same_t e h1) (DvA.py e xs _ ps h2 q)
  | .ins _ _ _, _, _, _, q => by simp [toPy] at q
  | .opq _, _, _, _, q => by simp [toPy] at q
  | .dic _ _ _, _, _, _, q => by simp [toPy] at q
theorem DvA.py (e : Same Hi H) : ∀ (ds : List D) (vs : List V) (ps : List PyData), DvA K cl Hi vs ds → toPys ds = some ps → DpAll K H vs ps
  | [], _, _, h, q => by cases h; simp [toPys] at q; subst q; exact .nil
  | d :: ds, _, _, h, q => by
    cases h with
    | cons h1 h2 =>
      simp only [toPys] at q
      split at q
      · rename_i p ps q1 q2
        cases q
        exact .cons (Dv.py e d _ p h1 q1) (DvA.py e ds _ ps h2 q2)
      · cases q
end
end
def eqB (a b : D) : Option Bool := match sv a, sv b with
  | some x, some y => if scal x y = true then some (decide (x = y)) else match toPy a, toPy b with
    | some p, some q => if (PySem.SeqAt.shaped p && PySem.SeqAt.shaped q) = true then some (PyData.eqv p q) else none
    | _, _ => none
  | _, _ => match toPy a, toPy b with
    | some p, some q => if (PySem.SeqAt.shaped p && PySem.SeqAt.shaped q) = true then some (PyData.eqv p q) else none
    | _, _ => none
def oEq (a b : D) : Option D := (eqB a b).map fun k => .bl k
def oNe (a b : D) : Option D := (eqB a b).map fun k => .bl (!k)
def rEqX (K : PySem.W.Frag) : R2 := fun x y H Q => rEq x y H Q ∨ rEqD K x y H Q
def rNeX (K : PySem.W.Frag) : R2 := fun x y H Q => rNe x y H Q ∨ rNeD K x y H Q
theorem op_eqX {X : Cx} (hu : X.A.units + 64 < cLine) : OpR X (compareOp .Eq) (rEqX X.K) := OpR.or op_eq (op_eqD hu)
theorem op_neX {X : Cx} (hu : X.A.units + 64 < cLine) : OpR X (compareOp .NotEq) (rNeX X.K) := OpR.or op_ne (op_neD hu)
section
variable {c : Cc}
theorem eqB_inv {a b : D} {k : Bool} (h : eqB a b = some k) : (∃ x y, sv a = some x ∧ sv b = some y ∧ scal x y = true ∧ k = decide (x = y)) ∨ ∃ p q, toPy a = some p ∧ toPy b = some q ∧ PySem.SeqAt.shaped p = true ∧ PySem.SeqAt.shaped q = true ∧ k = PyData.eqv p q := by
  have data : (match toPy a, toPy b with
    | some p, some q => if (PySem.SeqAt.shaped p && PySem.SeqAt.shaped q) = true then some (PyData.eqv p q) else none
    | _, _ => none) = some k → ∃ p q, toPy a = some p ∧ toPy b = some q ∧ PySem.SeqAt.shaped p = true ∧ PySem.SeqAt.shaped q = true ∧ k = PyData.eqv p q := fun h => by
    split at h
    · rename_i p q e1 e2
      obtain ⟨hs, hk⟩ := if_some h
      rw [Bool.and_eq_true] at hs
      exact ⟨p, q, e1, e2, hs.1, hs.2, hk.symm⟩
    · cases h
  unfold eqB at h
  split at h
  · rename_i x y e1 e2
    by_cases hs : scal x y = true
    · rw [if_pos hs] at h
      cases h
      exact .inl ⟨x, y, e1, e2, hs, rfl⟩
    · rw [if_neg hs] at h
      exact .inr (data h)
  · exact .inr (data h)
theorem jo_eq : JO c (rEqX c.K) oEq := fun Hi H ok x y a b d Q hx hy e q => by
  unfold oEq at e
  obtain ⟨k, e0, rfl⟩ := Option.map_eq_some_iff.mp e
  rcases eqB_inv e0 with ⟨x', y', e1, e2, hs, rfl⟩ | ⟨p, p', e1, e2, h1, h2, rfl⟩
  · have z1 := hx.small e1
    have z2 := hy.small e2
    subst z1 z2
    exact .inl ⟨hs, q _ _ _ (Step.refl ok) (.bl _)⟩
  · exact .inr ⟨p, p', Dv.py ok.le a x p hx e1, Dv.py ok.le b y p' hy e2, h1, h2, q _ _ _ (Step.refl ok) (.bl _)⟩
theorem jo_ne : JO c (rNeX c.K) oNe := fun Hi H ok x y a b d Q hx hy e q => by
  unfold oNe at e
  obtain ⟨k, e0, rfl⟩ := Option.map_eq_some_iff.mp e
  rcases eqB_inv e0 with ⟨x', y', e1, e2, hs, rfl⟩ | ⟨p, p', e1, e2, h1, h2, rfl⟩
  · have z1 := hx.small e1
    have z2 := hy.small e2
    subst z1 z2
    exact .inl ⟨hs, q _ _ _ (Step.refl ok) (.bl _)⟩
  · exact .inr ⟨p, p', Dv.py ok.le a x p hx e1, Dv.py ok.le b y p' hy e2, h1, h2, q _ _ _ (Step.refl ok) (.bl _)⟩
end

/-! ### in -/
def inB (a b : D) : Option Bool := match sv a with
  | some x => match b with
    | .lst ys => (svs ys).map fun vs => inV x vs
    | .tup ys => (svs ys).map fun vs => inV x vs
    | .str z => match a with
      | .str s => match s.cps.toList with
        | [k] => some (decide (k ∈ z.cps.toList))
        | _ => none
      | _ => none
    | _ => none
  | none => none
def oIn (a b : D) : Option D := (inB a b).map fun k => .bl k
def oNotIn (a b : D) : Option D := (inB a b).map fun k => .bl (!k)
def rInX (K : PySem.W.Frag) : R2 := fun x y H Q => rIn K false x y H Q ∨ ∃ (c : Nat) (z : Str), x = .str ⟨#[c]⟩ ∧ y = .str z ∧ Q (.bl (decide (c ∈ z.cps.toList))) H
def rNotInX (K : PySem.W.Frag) : R2 := fun x y H Q => rIn K true x y H Q ∨ ∃ (c : Nat) (z : Str), x = .str ⟨#[c]⟩ ∧ y = .str z ∧ Q (.bl (!decide (c ∈ z.cps.toList))) H
theorem op_inX {X : Cx} : OpR X (compareOp .In) (rInX X.K) := OpR.or op_in_seq op_in_sign
theorem op_notInX {X : Cx} : OpR X (compareOp .NotIn) (rNotInX X.K) := OpR.or op_notIn_seq op_notIn_sign
section
variable {c : Cc}
theorem inB_inv {Hi H : Hp} (ok : Ok c Hi H) {x y : V} {a b : D} {k : Bool} (hx : Dv c.K c.cl Hi x a) (hy : Dv c.K c.cl Hi y b) (h : inB a b = some k) :
    (∃ p vs, y = .ref p ∧ (SqL c.K H p vs ∨ SqT c.K H p vs) ∧ flatV x = true ∧ vs.all flatV = true ∧ k = inV x vs) ∨ ∃ (n : Nat) (z : Str), x = .str ⟨#[n]⟩ ∧ y = .str z ∧ k = decide (n ∈ z.cps.toList) := by
  unfold inB at h
  split at h
  · rename_i x' ex
    have z1 := hx.small ex
    subst z1
    split at h
    · rename_i ys
      obtain ⟨vs, e, rfl⟩ := Option.map_eq_some_iff.mp h
      cases hy with
      | lst h1 h2 =>
        have z2 := h2.small e
        subst z2
        exact .inl ⟨_, _, rfl, .inl (.inl (.inl (ok.le _ _ h1))), sv_flat ex, svs_flat e, rfl⟩
    · rename_i ys
      obtain ⟨vs, e, rfl⟩ := Option.map_eq_some_iff.mp h
      cases hy with
      | tup h1 h2 =>
        have z2 := h2.small e
        subst z2
        exact .inl ⟨_, _, rfl, .inr (same_t ok.le h1), sv_flat ex, svs_flat e, rfl⟩
    · rename_i z
      split at h
      · rename_i s
        split at h
        · rename_i n en
          cases h
          cases hx
          cases hy
          refine .inr ⟨n, z, ?_, rfl, rfl⟩
          congr 1
          cases s with
          | mk cps =>
            congr 1
            apply Array.toList_inj.mp
            exact en
        · cases h
      · cases h
    · cases h
  · cases h
theorem jo_in : JO c (rInX c.K) oIn := fun Hi H ok x y a b d Q hx hy e q => by
  unfold oIn at e
  obtain ⟨k, e0, rfl⟩ := Option.map_eq_some_iff.mp e
  rcases inB_inv ok hx hy e0 with ⟨p, vs, rfl, h1, h2, h3, rfl⟩ | ⟨n, z, rfl, rfl, rfl⟩
  · exact .inl ⟨p, vs, rfl, h1, h2, h3, q _ _ _ (Step.refl ok) (.bl _)⟩
  · exact .inr ⟨n, z, rfl, rfl, q _ _ _ (Step.refl ok) (.bl _)⟩
theorem jo_notIn : JO c (rNotInX c.K) oNotIn := fun Hi H ok x y a b d Q hx hy e q => by
  unfold oNotIn at e
  obtain ⟨k, e0, rfl⟩ := Option.map_eq_some_iff.mp e
  rcases inB_inv ok hx hy e0 with ⟨p, vs, rfl, h1, h2, h3, rfl⟩ | ⟨n, z, rfl, rfl, rfl⟩
  · exact .inl ⟨p, vs, rfl, h1, h2, h3, q _ _ _ (Step.refl ok) (.bl _)⟩
  · exact .inr ⟨n, z, rfl, rfl, q _ _ _ (Step.refl ok) (.bl _)⟩
end

/-! ### xs[i], xs[i:j], len -/
def oIx (a b : D) : Option D := match b with
  | .int i => match a with
    | .lst xs => atI xs i
    | .tup xs => atI xs i
    | .str z => if z.length ≤ 100000 then (atI z.cps.toList i).map fun k => .str ⟨#[k]⟩ else none
    | _ => none
  | _ => none
theorem ix_X {X : Cx} : IxR X (rIx X.K) := IxR.or (show IxR X (rIxL X.K) from ix_list) (IxR.or (show IxR X (rIxT X.K) from ix_tup) (show IxR X rIxS from ix_str))
def cutD (xs : List D) (lo hi : Option Int) : List D := (xs.drop (HT.sIx xs.length 0 lo)).take (HT.sIx xs.length xs.length hi - HT.sIx xs.length 0 lo)
def rSlX (K : PySem.W.Frag) : V → Option Int → Option Int → Hp → VK → Prop := fun x i j H Q => rSlL K x i j H Q ∨ (rSlA K x i j H Q ∨ rSlS x i j H Q)
theorem sl_X {X : Cx} : SlR X (rSlX X.K) := SlR.or sl_list (SlR.or sl_tupA sl_str)
def oSlL (a : D) (i j : Option Int) : Option (List D) := match a with
  | .lst xs => some (cutD xs i j)
  | _ => none
def oSl (a : D) (i j : Option Int) : Option D := match a with
  | .lst xs => some (.lst (cutD xs i j))
  | .tup xs => some (.tup (cutD xs i j))
  | .str z => if z.length ≤ 100000 then some (.str (cutS z i j)) else none
  | _ => none
def cLen (as : List D) : Option D := match as with
  | [.lst xs] => some (.int xs.length)
  | [.tup xs] => some (.int xs.length)
  | [.str z] => if z.length ≤ 100000 then some (.int z.length) else none
  | _ => none
def rLenX (K : PySem.W.Frag) : List V → Hp → VK → Prop := fun xs H Q => (∃ p ys, xs = [.ref p] ∧ (SqL K H p ys ∨ SqT K H p ys) ∧ Q (.int ys.length) H) ∨ ∃ z, xs = [.str z] ∧ z.length ≤ sizeLine ∧ Q (.int z.length) H
theorem call_lenX {X : Cx} : CallR X (.builtin "len") (rLenX X.K) := CallR.or call_len_seq call_len_str
section
variable {c : Cc} {Hi H : Hp}
theorem ixN_len {n m : Nat} (e : n = m) (i : Int) : ixN n i = ixN m i := by rw [e]
theorem DvA.atI' {vs : List V} {xs : List D} {i : Int} {d : D} (h : DvA c.K c.cl Hi vs xs) (e : atI xs i = some d) : ∃ v, atI vs i = some v ∧ Dv c.K c.cl Hi v d := by
  unfold atI at e ⊢
  rw [h.length]
  cases k : ixN xs.length i with
  | none => rw [k] at e; cases e
  | some j =>
    rw [k] at e
    obtain ⟨v, e1, e2⟩ := h.get (show xs[j]? = some d from e)
    exact ⟨v, e1, e2⟩
theorem jo_ix : JO c (rIx c.K) oIx := fun Hi H ok x y a b d Q hx hy e q => by
  unfold oIx at e
  split at e
  · rename_i i
    cases hy
    split at e
    · rename_i xs
      cases hx with
      | lst h1 h2 =>
        obtain ⟨v, e1, e2⟩ := h2.atI' e
        exact .inl ⟨_, _, _, _, rfl, rfl, .inl (.inl (ok.le _ _ h1)), e1, q _ _ _ (Step.refl ok) e2⟩
    · rename_i xs
      cases hx with
      | tup h1 h2 =>
        obtain ⟨v, e1, e2⟩ := h2.atI' e
        exact .inr (.inl ⟨_, _, _, _, rfl, rfl, same_t ok.le h1, e1, q _ _ _ (Step.refl ok) e2⟩)
    · rename_i z
      cases hx
      by_cases hz : z.length ≤ 100000
      · rw [if_pos hz] at e
        obtain ⟨k, e1, rfl⟩ := Option.map_eq_some_iff.mp e
        exact .inr (.inr ⟨z, i, k, rfl, rfl, lim_le hz, e1, q _ _ _ (Step.refl ok) (.str _)⟩)
      · rw [if_neg hz] at e
        cases e
    · cases e
  · cases e
theorem DvA.cut {vs : List V} {xs : List D} (h : DvA c.K c.cl Hi vs xs) (i j : Option Int) : DvA c.K c.cl Hi (cutV vs i j) (cutD xs i j) := by
  unfold cutV cutD
  rw [h.length]
  exact (h.drop _).take _
theorem jsl_sl : JSL3 c (rSlX c.K) oSlL := fun Hi H ok x i j a d Q hx e q => by
  unfold oSlL at e
  split at e
  · cases e
    cases hx with
    | lst h1 h2 => exact .inl ⟨_, _, rfl, .inl (.inl (ok.le _ _ h1)), fun p np => q p _ _ _ (Step.newOwn ok np) np (ok.free np) upd_same (h2.cut i j)⟩
  · cases e
theorem js_sl : JS3 c (rSlX c.K) oSl := fun Hi H ok x i j a d Q hx e q => by
  unfold oSl at e
  split at e
  · cases e
    refine jsl_sl Hi H ok x i j _ _ Q hx rfl fun p vs Hi' H' s n n' e dv => ?_
    exact q _ _ _ (Step.frozen ok s n n' e) (.lst upd_same (dv.up (same_upd n')))
  · rename_i xs
    cases e
    cases hx with
    | tup h1 h2 =>
      refine .inr (.inl ⟨_, _, rfl, same_t ok.le h1, fun w => ?_, fun _ p np => ?_⟩)
      · rw [h2.length] at w
        refine q _ _ _ (Step.refl ok) ?_
        have e : cutD xs i j = xs := by
          unfold cutD
          rw [w.1, w.2, List.drop_zero, Nat.sub_zero, List.take_length]
        rw [e]
        exact .tup h1 h2
      · exact q.tup ok (h2.cut i j) p np
  · rename_i z
    obtain ⟨hl, rfl⟩ := if_some e
    cases hx
    exact .inr (.inr ⟨z, rfl, lim_le hl, q _ _ _ (Step.refl ok) (.str _)⟩)
  · cases e
theorem dva1 {K : PySem.W.Frag} {cl : Nat → Addr} {Hi : Hp} {vs : List V} {d : D} (h : DvA K cl Hi vs [d]) : ∃ v, vs = [v] ∧ Dv K cl Hi v d := by
  cases h with
  | cons h1 h2 => cases h2; exact ⟨_, rfl, h1⟩
theorem dva2 {K : PySem.W.Frag} {cl : Nat → Addr} {Hi : Hp} {vs : List V} {d e : D} (h : DvA K cl Hi vs [d, e]) : ∃ v u, vs = [v, u] ∧ Dv K cl Hi v d ∧ Dv K cl Hi u e := by
  cases h with
  | cons h1 h2 =>
    obtain ⟨u, rfl, h3⟩ := dva1 h2
    exact ⟨_, _, rfl, h1, h3⟩
theorem jc_len : JC c (rLenX c.K) cLen := fun Hi H ok xs as d Q hx e q => by
  unfold cLen at e
  split at e
  · cases e
    obtain ⟨v, rfl, h⟩ := dva1 hx
    cases h with
    | lst h1 h2 => exact .inl ⟨_, _, rfl, .inl (.inl (.inl (ok.le _ _ h1))), q _ _ _ (Step.refl ok) (by rw [h2.length]; exact .int _)⟩
  · cases e
    obtain ⟨v, rfl, h⟩ := dva1 hx
    cases h with
    | tup h1 h2 => exact .inl ⟨_, _, rfl, .inr (same_t ok.le h1), q _ _ _ (Step.refl ok) (by rw [h2.length]; exact .int _)⟩
  · obtain ⟨hl, rfl⟩ := if_some e
    obtain ⟨v, rfl, h⟩ := dva1 hx
    cases h
    exact .inr ⟨_, rfl, lim_le hl, q _ _ _ (Step.refl ok) (.int _)⟩
  · cases e
end
end Xd
namespace Xd
open PySem L2 Xg

/-! ### what a statement comes to -/
inductive O where
  | nx (ρ : Rho) | bk (ρ : Rho) | ct (ρ : Rho) | rt (d : D) | rf (xs : List D) | ex (x : Xc) (ρ : Rho)
def lift {α : Type} (r : R α) (ρ : Rho) (k : α → Option O) : Option O := match r with
  | .ok a => k a
  | .exc x => some (.ex x ρ)
  | .bad => none
@[simp] theorem lift_ok {α : Type} (a : α) (ρ : Rho) (k : α → Option O) : lift (.ok a) ρ k = k a := rfl
@[simp] theorem lift_exc {α : Type} (x : Xc) (ρ : Rho) (k : α → Option O) : lift (.exc x) ρ k = some (.ex x ρ) := rfl
@[simp] theorem lift_bad {α : Type} (ρ : Rho) (k : α → Option O) : lift .bad ρ k = none := rfl
def Nx (c : Cc) (Hi : Hp) (K : St → Hp → Prop) (ρ' : Rho) : Prop := ∀ σ' Hi' H', Same Hi Hi' → Ok c Hi' H' → Sv c Hi' H' σ' ρ' → K σ' H'
def Aft (c : Cc) (W : WE) (Hi : Hp) (Dn : Ends) : O → Prop
  | .nx ρ' => Nx c Hi Dn.nx ρ'
  | .bk ρ' => Nx c Hi Dn.bk ρ'
  | .ct ρ' => Nx c Hi Dn.ct ρ'
  | .rt d => ∀ v Hi' H', Same Hi Hi' → Ok c Hi' H' → Dv c.K c.cl Hi' v d → Dn.rt v H'
  | .rf xs => ∀ p vs Hi' H', Same Hi Hi' → Ok c Hi' H' → H' p = some (.lst vs) → Hi' p = none → c.H0 p = none → DvA c.K c.cl Hi' vs xs → Dn.rt (.ref p) H'
  | .ex x ρ' => ∀ σ' Hi' H', Same Hi Hi' → Ok c Hi' H' → Sv c Hi' H' σ' ρ' → W x σ' Hi' H'
def AftO (c : Cc) (W : WE) (Hi : Hp) (Dn : Ends) : Option O → Prop
  | some o => Aft c W Hi Dn o
  | none => False
def JS (c : Cc) (W : WE) (ts : TS) (g : Rho → Option O) : Prop := ∀ (σ : St) (ρ : Rho) (Hi H : Hp), Ok c Hi H → Sv c Hi H σ ρ → ∀ Dn : Ends, AftO c W Hi Dn (g ρ) → ts Dn σ H
theorem Nx.to {c : Cc} {Hi Hi' : Hp} {K : St → Hp → Prop} {ρ : Rho} (h : Nx c Hi K ρ) (s : Same Hi Hi') : Nx c Hi' K ρ := fun σ' Hi2 H2 s2 => h σ' Hi2 H2 (s.trans s2)
theorem Aft.to {c : Cc} {W : WE} {Hi Hi' : Hp} {Dn : Ends} {o : O} (h : Aft c W Hi Dn o) (s : Same Hi Hi') : Aft c W Hi' Dn o := by
  cases o with
  | nx ρ => exact Nx.to h s
  | bk ρ => exact Nx.to h s
  | ct ρ => exact Nx.to h s
  | rt d => exact fun v Hi2 H2 s2 => h v Hi2 H2 (s.trans s2)
  | rf xs => exact fun p vs Hi2 H2 s2 => h p vs Hi2 H2 (s.trans s2)
  | ex x ρ => exact fun σ' Hi2 H2 s2 => h σ' Hi2 H2 (s.trans s2)
theorem AftO.to {c : Cc} {W : WE} {Hi Hi' : Hp} {Dn : Ends} {o : Option O} (h : AftO c W Hi Dn o) (s : Same Hi Hi') : AftO c W Hi' Dn o := by
  cases o with
  | some o => exact Aft.to h s
  | none => exact h
/-- the same but for what comes next -/
theorem Aft.mono {c : Cc} {W : WE} {Hi : Hp} {Dn Dn' : Ends} {o : O} (h : Aft c W Hi Dn o) (h1 : ∀ ρ, o = .nx ρ → Nx c Hi Dn.nx ρ → Nx c Hi Dn'.nx ρ) (h2 : ∀ ρ, o = .bk ρ → Nx c Hi Dn.bk ρ → Nx c Hi Dn'.bk ρ)
    (h3 : ∀ ρ, o = .ct ρ → Nx c Hi Dn.ct ρ → Nx c Hi Dn'.ct ρ) (h4 : Dn.rt = Dn'.rt) : Aft c W Hi Dn' o := by
  cases o with
  | nx ρ => exact h1 ρ rfl h
  | bk ρ => exact h2 ρ rfl h
  | ct ρ => exact h3 ρ rfl h
  | rt d => exact fun v Hi2 H2 a b e => h4 ▸ h v Hi2 H2 a b e
  | rf xs => exact fun p vs Hi2 H2 a b e f g k => h4 ▸ h p vs Hi2 H2 a b e f g k
  | ex x ρ => exact h

/-! ### mirrors of statements -/
abbrev MS := Rho → Option O
def sNext : MS := fun ρ => some (.nx ρ)
def sSeq (g h : MS) : MS := fun ρ => match g ρ with
  | some (.nx ρ') => h ρ'
  | o => o
def sSet (i : Nat) (f : Rho → R D) : MS := fun ρ => lift (f ρ) ρ fun d => some (.nx (ρ.set i (.val d)))
def sSetL (i : Nat) (f : Rho → R (List D)) : MS := fun ρ => lift (f ρ) ρ fun d => some (.nx (ρ.set i (.own d)))
def sExpr (f : Rho → R D) : MS := fun ρ => lift (f ρ) ρ fun _ => some (.nx ρ)
def sRet (f : Rho → R D) : MS := fun ρ => lift (f ρ) ρ fun d => some (.rt d)
def sRetL (f : Rho → R (List D)) : MS := fun ρ => lift (f ρ) ρ fun d => some (.rf d)
/-- return of an own list -/
def sRetO (i : Nat) : MS := fun ρ => match ρ[i]? with
  | some (.mo (.lst xs)) => some (.rf xs)
  | _ => none
def sRetN : MS := fun _ => some (.rt .non)
def sBreak : MS := fun ρ => some (.bk ρ)
def sCont : MS := fun ρ => some (.ct ρ)
def sIf (t : Rho → R Bool) (g h : MS) : MS := fun ρ => lift (t ρ) ρ fun b => if b = true then g ρ else h ρ
def sApp (i : Nat) (f : Rho → R D) : MS := fun ρ => match ρ[i]? with
  | some (.mo (.lst xs)) => lift (f ρ) ρ fun d => if xs.length < 100000 then some (.nx (ρ.set i (.own (xs ++ [d])))) else none
  | _ => none
/-- x = own.pop() -/
def sPop (j i : Nat) : MS := fun ρ => match ρ[i]? with
  | some (.mo (.lst xs)) => match xs[xs.length - 1]? with
    | some d => some (.nx ((ρ.set i (.own xs.dropLast)).set j (.val d)))
    | none => none
  | _ => none
/-- own[e] = f -/
def sPut (i : Nat) (f e : Rho → R D) : MS := fun ρ => match ρ[i]? with
  | some (.mo (.lst xs)) => lift (f ρ) ρ fun d => lift (e ρ) ρ fun k => match (match k with
      | .int k => ixN xs.length k
      | _ => none) with
    | some j => some (.nx (ρ.set i (.own (xs.set j d))))
    | none => none
  | _ => none
/-- an own list is frozen ahead of a statement -/
def sFrz (i : Nat) (g : MS) : MS := fun ρ => match ρ[i]? with
  | some (.mo m) => g (ρ.set i (.val (moD m)))
  | _ => g ρ

section
variable {c : Cc} {W : WE} {ta tb : TE} {tt : TT} {t1 t2 ts : TS} {f g : Rho → R D} {fb : Rho → R Bool} {fs : Rho → R (List D)} {g1 g2 : MS}
theorem AftO.lift {α : Type} {r : R α} {ρ : Rho} {k : α → Option O} {Hi : Hp} {Dn : Ends} (h : AftO c W Hi Dn (lift r ρ k)) {σ : St} {H : Hp} (sv : Sv c Hi H σ ρ) :
    Meet r (fun a => AftO c W Hi Dn (k a)) (fun x => ∀ Hi' H', Step c Hi H Hi' H' → W x σ Hi' H') := by
  cases r with
  | ok a => exact h
  | exc x => exact fun Hi' H' s => h σ Hi' H' s.hi s.ok (sv.step s)
  | bad => exact h
theorem js_next : JS c W tNext sNext := fun σ ρ Hi H ok sv Dn h => h σ Hi H (Same.refl _) ok sv
theorem js_seq (h1 : JS c W t1 g1) (h2 : JS c W t2 g2) : JS c W (tSeq t1 t2) (sSeq g1 g2) := fun σ ρ Hi H ok sv Dn h => by
  refine h1 σ ρ Hi H ok sv { Dn with nx := t2 Dn } ?_
  unfold sSeq at h
  cases hg : g1 ρ with
  | none => rw [hg] at h; exact h
  | some o =>
    rw [hg] at h
    cases o with
    | nx ρ' => exact fun σ' Hi' H' s ok' sv' => h2 σ' ρ' Hi' H' ok' sv' Dn (h.to s)
    | bk ρ' => exact h
    | ct ρ' => exact h
    | rt d => exact h
    | rf xs => exact h
    | ex x ρ' => exact h
theorem js_set (i : Nat) (ha : JE c W ta f) : JS c W (tAsg ta (gName i)) (sSet i f) := fun σ ρ Hi H ok sv Dn h =>
  ha σ ρ Hi H ok sv _ ((AftO.lift h sv).imp (fun a h v Hi1 H1 s1 d1 => h (σ.set i (some v)) Hi1 H1 s1.hi s1.ok ((sv.step s1).setVal i d1)) fun x k => k)
theorem own_ne {Hi H : Hp} {σ : St} {ρ : Rho} (sv : Sv c Hi H σ ρ) {p : Addr} (n : H p = none) : ∀ (j : Nat) (ys : Mo), ρ[j]? = some (.mo ys) → σ[j]? ≠ some (some (.ref p)) := fun j ys h e => by
  obtain ⟨q, vs, e1, e2, _⟩ := sv.at' j _ _ e h
  cases e1
  rw [n] at e2
  cases e2
theorem js_setL (i : Nat) (ha : JL c W ta fs) : JS c W (tAsg ta (gName i)) (sSetL i fs) := fun σ ρ Hi H ok sv Dn h =>
  ha σ ρ Hi H ok sv _ ((AftO.lift h sv).imp (fun a h p vs Hi1 H1 s1 n n' e d1 => h (σ.set i (some (.ref p))) Hi1 H1 s1.hi s1.ok
    ((sv.step s1).setOwn i e n' (ok.free0 n) d1 fun j ys _ hr => own_ne sv n j ys hr)) fun x k => k)
theorem js_expr (ha : JE c W ta f) : JS c W (tDrop ta) (sExpr f) := fun σ ρ Hi H ok sv Dn h =>
  ha σ ρ Hi H ok sv _ ((AftO.lift h sv).imp (fun a h v Hi1 H1 s1 d1 => h σ Hi1 H1 s1.hi s1.ok (sv.step s1)) fun x k => k)
theorem js_ret (ha : JE c W ta f) : JS c W (tRet ta) (sRet f) := fun σ ρ Hi H ok sv Dn h =>
  ha σ ρ Hi H ok sv _ ((AftO.lift h sv).imp (fun a h v Hi1 H1 s1 d1 => h v Hi1 H1 s1.hi s1.ok d1) fun x k => k)
theorem js_retL (ha : JL c W ta fs) : JS c W (tRet ta) (sRetL fs) := fun σ ρ Hi H ok sv Dn h =>
  ha σ ρ Hi H ok sv _ ((AftO.lift h sv).imp (fun a h p vs Hi1 H1 s1 n n' e d1 => h p vs Hi1 H1 s1.hi s1.ok e n' (ok.free0 n) d1) fun x k => k)
theorem Sv.own {Hi H : Hp} {σ : St} {ρ : Rho} (e : Sv c Hi H σ ρ) {i : Nat} {xs : List D} (h : ρ[i]? = some (.own xs)) :
    ∃ p vs, σ[i]? = some (some (.ref p)) ∧ H p = some (.lst vs) ∧ Hi p = none ∧ c.H0 p = none ∧ DvA c.K c.cl Hi vs xs := by
  obtain ⟨o, h1, p, u, rfl, h2, h3, h4, vs, rfl, h5⟩ := e.find h
  exact ⟨p, vs, h1, h2, h3, h4, h5⟩
theorem js_retO (i : Nat) : JS c W (tRet (tVar i)) (sRetO i) := fun σ ρ Hi H ok sv Dn h => by
  unfold sRetO at h
  split at h
  · rename_i xs hr
    obtain ⟨p, vs, e1, e2, e3, e4, e5⟩ := sv.own hr
    exact ⟨_, e1, h p vs Hi H (Same.refl _) ok e2 e3 e4 e5⟩
  · exact h.elim
theorem js_retN : JS c W tRetN sRetN := fun σ ρ Hi H ok sv Dn h => h _ _ _ (Same.refl _) ok .non
theorem js_break : JS c W tBreak sBreak := fun σ ρ Hi H ok sv Dn h => h σ Hi H (Same.refl _) ok sv
theorem js_cont : JS c W tCont sCont := fun σ ρ Hi H ok sv Dn h => h σ Hi H (Same.refl _) ok sv
theorem js_if (ht : JT c W tt fb) (h1 : JS c W t1 g1) (h2 : JS c W t2 g2) : JS c W (tIfS tt t1 t2) (sIf fb g1 g2) := fun σ ρ Hi H ok sv Dn h => by
  refine ht σ ρ Hi H ok sv _ ((AftO.lift h sv).imp (fun b h Hi1 H1 s1 => ?_) fun x k => k)
  cases b with
  | true => exact h1 σ ρ Hi1 H1 s1.ok (sv.step s1) Dn (AftO.to h s1.hi)
  | false => exact h2 σ ρ Hi1 H1 s1.ok (sv.step s1) Dn (AftO.to h s1.hi)
theorem js_app (i : Nat) (ha : JE c W ta f) : JS c W (tDrop (tBM c.K "list" rAppend (tVar i) (tCons ta tNil))) (sApp i f) := fun σ ρ Hi H ok sv Dn h => by
  unfold sApp at h
  split at h
  · rename_i xs hr
    obtain ⟨p, vs, e1, e2, e3, e4, e5⟩ := sv.own hr
    refine ⟨_, e1, .inl ⟨rfl, _, .inl (.inl e2)⟩, ?_⟩
    refine ha σ ρ Hi H ok sv _ ((AftO.lift h sv).imp (fun a h v Hi1 H1 s1 d1 => ?_) fun x k => k)
    by_cases hl : xs.length < 100000
    · rw [if_pos hl] at h
      refine ⟨p, vs, v, rfl, rfl, s1.lst e2, lim_lt (by rw [e5.length]; exact hl), ?_⟩
      exact h σ Hi1 _ s1.hi (s1.ok.change (s1.lst e2) (s1.fr _ _ e2 e3) e4) ((sv.step s1).change hr e1 ((e5.up s1.hi).append (.cons d1 .nil)))
    · rw [if_neg hl] at h
      exact h.elim
  · exact h.elim
theorem js_pop (j i : Nat) : JS c W (tAsg (tBM0 c.K "list" rPop (tVar i)) (gName j)) (sPop j i) := fun σ ρ Hi H ok sv Dn h => by
  unfold sPop at h
  split at h
  · rename_i xs hr
    split at h
    · rename_i d hd
      obtain ⟨p, vs, e1, e2, e3, e4, e5⟩ := sv.own hr
      obtain ⟨v, hv, dv⟩ := e5.get hd
      refine ⟨_, e1, .inl ⟨rfl, _, .inl (.inl e2)⟩, p, vs, v, rfl, rfl, e2, by rw [e5.length]; exact hv, ?_⟩
      exact h _ Hi _ (Same.refl _) (ok.change e2 e3 e4) ((sv.change hr e1 e5.dropLast).setVal j dv)
    · exact h.elim
  · exact h.elim
theorem js_put (i : Nat) (ha : JE c W ta f) (hb : JE c W tb g) : JS c W (tAsg ta (gSub (tVar i) tb rSetL)) (sPut i f g) := fun σ ρ Hi H ok sv Dn h => by
  unfold sPut at h
  split at h
  · rename_i xs hr
    obtain ⟨p, vs, e1, e2, e3, e4, e5⟩ := sv.own hr
    refine ha σ ρ Hi H ok sv _ ((AftO.lift h sv).imp (fun a h v Hi1 H1 s1 d1 => ?_) fun x k => k)
    refine ⟨_, e1, ?_⟩
    refine hb σ ρ Hi1 H1 s1.ok (sv.step s1) _ ((AftO.lift (AftO.to h s1.hi) (sv.step s1)).imp (fun k h v2 Hi2 H2 s2 d2 => ?_) fun x k => k)
    have s12 := s1.trans s2
    split at h
    · rename_i j hj
      cases k with
      | int k =>
        cases d2
        refine ⟨p, vs, k, j, rfl, rfl, s12.lst e2, by rw [e5.length]; exact hj, ?_⟩
        exact h σ Hi2 _ s2.hi (s2.ok.change (s12.lst e2) (s12.fr _ _ e2 e3) e4) ((sv.step s12).change hr e1 ((e5.up s12.hi).set j (d1.up s2.hi)))
      | _ => cases hj
    · exact h.elim
  · exact h.elim
theorem js_frz (i : Nat) (h1 : JS c W t1 g1) : JS c W t1 (sFrz i g1) := fun σ ρ Hi H ok sv Dn h => by
  unfold sFrz at h
  split at h
  · rename_i xs hr
    obtain ⟨Hi', s, ok', sv'⟩ := sv.freezeMo ok hr
    exact h1 σ _ Hi' H ok' sv' Dn (AftO.to h s)
  · exact h1 σ ρ Hi H ok sv Dn h
end
end Xd
namespace Xd
open PySem L2 Xg

/-! ### targets -/
abbrev MG := D → Rho → Option Rho
/-- but for the slots ix nothing changes -/
def Chg (ix : List Nat) (σ σ' : St) : Prop := σ'.length = σ.length ∧ ∀ j, j ∉ ix → σ'[j]? = σ[j]?
theorem Chg.refl (σ : St) : Chg [] σ σ := ⟨rfl, fun _ _ => rfl⟩
theorem Chg.trans {ix iy : List Nat} {σ σ1 σ2 : St} (a : Chg ix σ σ1) (b : Chg iy σ1 σ2) : Chg (ix ++ iy) σ σ2 := ⟨b.1.trans a.1, fun j h => by
  rw [List.mem_append, not_or] at h
  rw [b.2 j h.2, a.2 j h.1]⟩
theorem wipe_get (σ : St) : ∀ (vs : List Nat) (j : Nat), (wipe σ vs)[j]? = if j ∈ vs then (if j < σ.length then some none else none) else σ[j]?
  | [], j => by simp [wipe]
  | v :: vs, j => by
    unfold wipe
    by_cases hj : j = v
    · subst hj
      rw [if_pos List.mem_cons_self, List.getElem?_set_self']
      rw [wipe_get σ vs j]
      by_cases hl : j < σ.length
      · by_cases hm : j ∈ vs
        · simp [hm, hl]
        · simp [hm, hl]
      · by_cases hm : j ∈ vs
        · simp [hm, hl]
        · simp [hm, hl]
    · rw [List.getElem?_set_ne (Ne.symm hj), wipe_get σ vs j]
      have e : (j ∈ v :: vs) ↔ j ∈ vs := by simp [hj]
      by_cases hm : j ∈ vs
      · rw [if_pos hm, if_pos (e.mpr hm)]
      · rw [if_neg hm, if_neg (fun z => hm (e.mp z))]
theorem Chg.wipe {ix vs : List Nat} {σ σ' : St} (h : Chg ix (wipe σ vs) σ') (hs : ∀ j ∈ ix, j ∈ vs) : L2.wipe σ' vs = L2.wipe σ vs := by
  have hl : σ'.length = σ.length := by rw [h.1, wipe_length]
  apply List.ext_getElem?
  intro j
  rw [wipe_get, wipe_get, hl]
  by_cases hm : j ∈ vs
  · rw [if_pos hm, if_pos hm]
  · rw [if_neg hm, if_neg hm, h.2 j (fun z => hm (hs j z)), wipe_get, if_neg hm]
def JG (c : Cc) (ix : List Nat) (g : TG) (f : MG) : Prop := ∀ (σ : St) (ρ ρ' : Rho) (Hi H : Hp) (v : V) (d : D), Ok c Hi H → Sv c Hi H σ ρ → Dv c.K c.cl Hi v d → f d ρ = some ρ' → ∀ Q : St → Hp → Prop, (∀ σ', Sv c Hi H σ' ρ' → Chg ix σ σ' → Q σ' H) → g v σ H Q
def JGs (c : Cc) (ix : List Nat) (g : TGs) (f : List D → Rho → Option Rho) : Prop := ∀ (σ : St) (ρ ρ' : Rho) (Hi H : Hp) (vs : List V) (ds : List D), Ok c Hi H → Sv c Hi H σ ρ → DvA c.K c.cl Hi vs ds → f ds ρ = some ρ' → ∀ Q : St → Hp → Prop, (∀ σ', Sv c Hi H σ' ρ' → Chg ix σ σ' → Q σ' H) → g vs σ H Q
def gN (i : Nat) : MG := fun d ρ => some (ρ.set i (.val d))
def gsNil : List D → Rho → Option Rho := fun ds ρ => match ds with
  | [] => some ρ
  | _ => none
def gsCons (f : MG) (g : List D → Rho → Option Rho) : List D → Rho → Option Rho := fun ds ρ => match ds with
  | d :: ds => (f d ρ).bind fun ρ' => g ds ρ'
  | [] => none
def gT (n : Nat) (g : List D → Rho → Option Rho) : MG := fun d ρ => match d with
  | .tup xs => if xs.length = n then g xs ρ else none
  | _ => none
section
variable {c : Cc} {W : WE}
theorem jg_name (i : Nat) : JG c [i] (gName i) (gN i) := fun σ ρ ρ' Hi H v d ok sv dv e Q q => by
  unfold gN at e
  cases e
  exact q _ (sv.setVal i dv) ⟨by rw [List.length_set], fun j h => List.getElem?_set_ne (fun z => h (by rw [z]; exact List.mem_singleton.mpr rfl))⟩
theorem jgs_nil : JGs c [] gNil gsNil := fun σ ρ ρ' Hi H vs ds ok sv dv e Q q => by
  unfold gsNil at e
  split at e
  · cases e
    cases dv
    exact ⟨rfl, q _ sv (Chg.refl _)⟩
  · cases e
theorem jgs_cons {ix iy : List Nat} {g : TG} {gs : TGs} {f : MG} {fs : List D → Rho → Option Rho} (h1 : JG c ix g f) (h2 : JGs c iy gs fs) : JGs c (ix ++ iy) (gCons g gs) (gsCons f fs) := fun σ ρ ρ' Hi H vs ds ok sv dv e Q q => by
  unfold gsCons at e
  split at e
  · rename_i d ds
    obtain ⟨ρ1, e1, e2⟩ := Option.bind_eq_some_iff.mp e
    cases dv with
    | cons d1 d2 => exact ⟨_, _, rfl, h1 σ ρ ρ1 Hi H _ d ok sv d1 e1 _ fun σ' sv' c1 => h2 σ' ρ1 ρ' Hi H _ ds ok sv' d2 e2 Q fun σ2 sv2 c2 => q σ2 sv2 (c1.trans c2)⟩
  · cases e
theorem jg_tup {ix : List Nat} {gs : TGs} {fs : List D → Rho → Option Rho} {n : Nat} (h : JGs c ix gs fs) : JG c ix (gTup c.K n gs) (gT n fs) := fun σ ρ ρ' Hi H v d ok sv dv e Q q => by
  unfold gT at e
  split at e
  · rename_i xs
    by_cases hn : xs.length = n
    · rw [if_pos hn] at e
      cases dv with
      | tup h1 h2 => exact ⟨_, _, rfl, same_t ok.le h1, by rw [h2.length]; exact hn, h σ ρ ρ' Hi H _ xs ok sv h2 e Q q⟩
    · rw [if_neg hn] at e
      cases e
  · cases e
end
def sAsg (f : Rho → R D) (g : MG) : MS := fun ρ => lift (f ρ) ρ fun d => (g d ρ).map fun ρ' => .nx ρ'
theorem js_asg {c : Cc} {W : WE} {ta : TE} {f : Rho → R D} {g : TG} {fg : MG} {ix : List Nat} (ha : JE c W ta f) (hg : JG c ix g fg) : JS c W (tAsg ta g) (sAsg f fg) := fun σ ρ Hi H ok sv Dn h =>
  ha σ ρ Hi H ok sv _ ((AftO.lift h sv).imp (fun a h v Hi1 H1 s1 d1 => by
    cases e : fg a ρ with
    | none => rw [e] at h; exact h.elim
    | some ρ' =>
      rw [e] at h
      exact hg σ ρ ρ' Hi1 H1 v a s1.ok (sv.step s1) d1 e Dn.nx fun σ' sv' _ => h σ' Hi1 H1 s1.hi s1.ok sv') fun x k => k)

/-! ### what is walked -/
structure WalkD (c : Cc) (Hi0 : Hp) (J : It) (ds : List D) : Prop where
  ex : ∃ (G : Hp → Prop) (Y : Nat → Hp → V → Hp → Prop), Walk J ds.length G Y ∧ (∀ Hi H, Ok c Hi H → Same Hi0 Hi → G H) ∧
    ∀ (i : Nat) (d : D) (Hi H H' : Hp) (v : V), ds[i]? = some d → Ok c Hi H → Same Hi0 Hi → Y i H v H' → ∃ Hi', Step c Hi H Hi' H' ∧ Dv c.K c.cl Hi' v d
def JI (c : Cc) (W : WE) (wi : TI) (f : Rho → R (List D)) : Prop := ∀ (σ : St) (ρ : Rho) (Hi H : Hp), Ok c Hi H → Sv c Hi H σ ρ → ∀ Q : It → Hp → Prop,
  Meet (f ρ) (fun ds => ∀ J Hi' H', Step c Hi H Hi' H' → WalkD c Hi' J ds → Q J H') (fun x => ∀ Hi' H', Step c Hi H Hi' H' → W x σ Hi' H') → wi σ H Q
def rIntD (lo : Int) (n : Nat) : List D := (List.range n).map fun i => .int (lo + (i : Nat))
def iSeq (f : Rho → R D) : Rho → R (List D) := fun ρ => (f ρ).bind fun d => match d with
  | .lst xs => .ok xs
  | .tup xs => .ok xs
  | .str z => .ok (z.cps.toList.map fun k => .str ⟨#[k]⟩)
  | _ => .bad
def iR1 (f : Rho → R (List D)) : Rho → R (List D) := fun ρ => (f ρ).bind fun ds => match ds with
  | [.int j] => if -(2 ^ 62) ≤ j ∧ j < 2 ^ 62 then .ok (rIntD 0 j.toNat) else .bad
  | _ => .bad
def iR2 (f : Rho → R (List D)) : Rho → R (List D) := fun ρ => (f ρ).bind fun ds => match ds with
  | [.int i, .int j] => if -(2 ^ 62) ≤ i ∧ i < 2 ^ 62 ∧ -(2 ^ 62) ≤ j ∧ j < 2 ^ 62 then .ok (rIntD i (j - i).toNat) else .bad
  | _ => .bad
def tiSeq (K : PySem.W.Frag) (te : TE) : TI := fun σ H R => iList K te σ H R ∨ (iTup K te σ H R ∨ iStr te σ H R)
/-- the three of them after one evaluation -/
def tiX (K : PySem.W.Frag) (te : TE) : TI := fun σ H R => te σ H fun x H1 => (∃ a, x = .ref a ∧ (∃ xs, SqL K H1 a xs) ∧ R (Itl K a) H1) ∨ (∃ a, x = .ref a ∧ (∃ xs, SqT K H1 a xs) ∧ R (Itt K a) H1) ∨ ∃ z, x = .str z ∧ R (Its z) H1
end Xd
namespace Xd
open PySem PySem.Spec PyProof.Rows L2
theorem pi_X {X : Cx} {tg l : Expr} {tl : TE} (hl : PE X l tl) : PI X tg l (tiX X.K tl) := by
  refine ⟨fun pins s σ H R I h => ?_⟩
  refine thn (hl.run pins s σ H _ I h) fun v s1 ⟨x, H1, I1, r1, q1⟩ => ?_
  rcases q1 with ⟨a, e, ⟨xs, hq⟩, q⟩ | ⟨a, e, ⟨xs, hq⟩, q⟩ | ⟨z, e, q⟩
  · subst e
    cases r1
    obtain ⟨its, rv, p, hz⟩ := I1.list hq
    refine wpAny_pyIter_list p.isList ?_
    exact pi_one (tk := s1.toks) I1 _ (turn_list a _) ⟨_, Heap.get?_push_size _ rfl, rfl, rfl⟩ q
  · subst e
    cases r1
    obtain ⟨its, rv, p, hz⟩ := I1.tuple hq
    refine wpAny_pyIter_tuple (show s1.heap.IsTuple a its.toArray from p) ?_
    exact pi_one (tk := s1.toks) I1 _ (turn_tuple a _) ⟨_, Heap.get?_push_size _ rfl, rfl, rfl⟩ q
  · subst e
    obtain ⟨t, rfl⟩ := r1
    cases ha : z.cps.all (· < 128)
    · exact wpAny_pyIter_wide ha (pi_one (tk := s1.toks) I1 _ (turn_str _ z t "str_iterator" (.inr rfl)) ⟨_, Heap.get?_push_size _ rfl, rfl, rfl⟩ q)
    · exact wpAny_pyIter_ascii ha (pi_one (tk := s1.toks) I1 _ (turn_str _ z t "str_ascii_iterator" (.inl rfl)) ⟨_, Heap.get?_push_size _ rfl, rfl, rfl⟩ q)
end Xd
namespace Xd
open PySem L2 Xg
section
variable {c : Cc} {W : WE} {te : TE} {ta : TA} {f : Rho → R D} {fs : Rho → R (List D)}
theorem walkD_seq {Hi : Hp} {J : It} {vs : List V} {ds : List D} {G : Hp → Prop} (w : Walk J vs.length G (YAt vs)) (hG : ∀ Hi2 H, Ok c Hi2 H → Same Hi Hi2 → G H) (d : DvA c.K c.cl Hi vs ds) : WalkD c Hi J ds := by
  refine ⟨G, YAt vs, by rw [← d.length]; exact w, hG, fun i x Hi2 H H' v e ok s y => ?_⟩
  obtain ⟨e1, e2⟩ := y
  subst e1
  obtain ⟨v', e3, dv⟩ := d.get e
  rw [e2] at e3
  cases e3
  exact ⟨Hi2, Step.refl ok, dv.up s⟩
theorem walkD_str {Hi : Hp} (z : Str) : WalkD c Hi (Its z) (z.cps.toList.map fun k => .str ⟨#[k]⟩) := by
  have w := walk_str (z := z)
  refine ⟨fun _ => True, _, (by rw [List.length_map, Array.length_toList]; exact w), fun _ _ _ _ => trivial, fun i x Hi2 H H' v e ok s y => ?_⟩
  obtain ⟨e1, k, e2, e3⟩ := y
  subst e1 e3
  rw [List.getElem?_map, Array.getElem?_toList, e2] at e
  cases e
  exact ⟨Hi2, Step.refl ok, .str _⟩
theorem walkD_rng {Hi : Hp} (lo : Int) (n : Nat) : WalkD c Hi (Itr lo n) (rIntD lo n) := by
  have w := walk_range (lo := lo) (n := n)
  refine ⟨fun _ => True, _, (by unfold rIntD; rw [List.length_map, List.length_range]; exact w), fun _ _ _ _ => trivial, fun i x Hi2 H H' v e ok s y => ?_⟩
  obtain ⟨e1, e3⟩ := y
  subst e1 e3
  unfold rIntD at e
  rw [List.getElem?_map] at e
  obtain ⟨j, ej, rfl⟩ := Option.map_eq_some_iff.mp e
  have e5 := List.getElem?_range (n := n) (i := i) (by
    have := (List.getElem?_eq_some_iff.mp ej).1
    simpa using this)
  rw [e5] at ej
  cases ej
  exact ⟨Hi2, Step.refl ok, .int _⟩
theorem ji_seq (ha : JE c W te f) : JI c W (tiX c.K te) (iSeq f) := fun σ ρ Hi H ok sv Q h => by
  refine ha σ ρ Hi H ok sv _ ((Meet.bind h).imp (fun d h v Hi1 H1 s1 d1 => ?_) fun x k => k)
  cases d with
  | lst xs =>
    cases d1 with
    | lst h1 h2 => exact .inl ⟨_, rfl, ⟨_, .inl (.inl (s1.ok.le _ _ h1))⟩, h _ Hi1 H1 s1 (walkD_seq walk_list (fun Hi2 H2 ok2 s2 => .inl (.inl (ok2.le _ _ (s2 _ _ h1)))) h2)⟩
  | tup xs =>
    cases d1 with
    | tup h1 h2 => exact .inr (.inl ⟨_, rfl, ⟨_, same_t s1.ok.le h1⟩, h _ Hi1 H1 s1 (walkD_seq walk_tup (fun Hi2 H2 ok2 s2 => same_t ok2.le (same_t s2 h1)) h2)⟩)
  | str z =>
    cases d1
    exact .inr (.inr ⟨z, rfl, h _ Hi1 H1 s1 (walkD_str z)⟩)
  | _ => exact h.elim
theorem ji_r1 (ha : JA c W ta fs) : JI c W (iRng1 ta) (iR1 fs) := fun σ ρ Hi H ok sv Q h => by
  refine ha σ ρ Hi H ok sv _ ((Meet.bind h).imp (fun d h v Hi1 H1 s1 d1 => ?_) fun x k => k)
  split at h
  · rename_i j
    obtain ⟨hj, h⟩ := meet_if h
    obtain ⟨u, rfl, du⟩ := dva1 d1
    cases du
    exact ⟨j, rfl, hj.1, hj.2, h _ Hi1 H1 s1 (walkD_rng 0 _)⟩
  · exact h.elim
theorem ji_r2 (ha : JA c W ta fs) : JI c W (iRng2 ta) (iR2 fs) := fun σ ρ Hi H ok sv Q h => by
  refine ha σ ρ Hi H ok sv _ ((Meet.bind h).imp (fun d h v Hi1 H1 s1 d1 => ?_) fun x k => k)
  split at h
  · rename_i i j
    obtain ⟨hj, h⟩ := meet_if h
    obtain ⟨u, w, rfl, du, dw⟩ := dva2 d1
    cases du
    cases dw
    exact ⟨i, j, rfl, hj, h _ Hi1 H1 s1 (walkD_rng i _)⟩
  · exact h.elim
/-- zip, enumerate over lists, tuples, texts -/
def itemsOf : D → Option (List D)
  | .lst xs => some xs
  | .tup xs => some xs
  | .str z => some (z.cps.toList.map fun k => .str ⟨#[k]⟩)
  | _ => none
def iZip (f : Rho → R (List D)) : Rho → R (List D) := fun ρ => (f ρ).bind fun ds => match ds with
  | [a, b] => match itemsOf a, itemsOf b with
    | some xs, some ys => .ok ((xs.zip ys).map fun p => .tup [p.1, p.2])
    | _, _ => .bad
  | _ => .bad
def iEnum (f : Rho → R (List D)) : Rho → R (List D) := fun ρ => (f ρ).bind fun ds => match ds with
  | [a] => match itemsOf a with
    | some xs => .ok (xs.zipIdx.map fun p => .tup [.int (p.2 : Nat), p.1])
    | none => .bad
  | _ => .bad
theorem src_of {Hi H : Hp} {v : V} {d : D} {xs : List D} (ok : Ok c Hi H) (dv : Dv c.K c.cl Hi v d) (e : itemsOf d = some xs) :
    ∃ (s1 : XgIter.Src) (vs : List V), v = s1.v ∧ (∀ Hi2 H2, Ok c Hi2 H2 → Same Hi Hi2 → s1.rd c.K H2 vs) ∧ DvA c.K c.cl Hi vs xs := by
  cases d with
  | lst ys =>
    cases e
    cases dv with
    | lst h1 h2 => exact ⟨.L _, _, rfl, fun Hi2 H2 ok2 s2 => .inl (.inl (ok2.le _ _ (s2 _ _ h1))), h2⟩
  | tup ys =>
    cases e
    cases dv with
    | tup h1 h2 => exact ⟨.T _, _, rfl, fun Hi2 H2 ok2 s2 => same_t ok2.le (same_t s2 h1), h2⟩
  | str z =>
    cases e
    cases dv
    refine ⟨.S z, _, rfl, fun Hi2 H2 ok2 s2 => rfl, ?_⟩
    generalize z.cps.toList = l
    induction l with
    | nil => exact .nil
    | cons k r ih => exact .cons (.str _) ih
  | _ => cases e
theorem walkD_pair {Hi : Hp} {J : It} {n : Nat} {xs ys : Nat → Option V} {ds : List D} {G : Hp → Prop} (w : Walk J n G (YPair xs ys)) (hn : n = ds.length) (hG : ∀ Hi2 H, Ok c Hi2 H → Same Hi Hi2 → G H)
    (hd : ∀ i d x y, ds[i]? = some d → xs i = some x → ys i = some y → ∃ a b, d = .tup [a, b] ∧ Dv c.K c.cl Hi x a ∧ Dv c.K c.cl Hi y b) : WalkD c Hi J ds := by
  subst hn
  refine ⟨G, _, w, hG, fun i d Hi2 H H' v e ok s y => ?_⟩
  obtain ⟨T, x, y, rfl, nT, rfl, ex, ey⟩ := y
  obtain ⟨a, b, rfl, da, db⟩ := hd i d x y e ex ey
  have st := Step.new (o := .tup [x, y]) ok nT
  exact ⟨_, st, .tup (.inl (.inl upd_same)) (.cons ((da.up s).up st.hi) (.cons ((db.up s).up st.hi) .nil))⟩
theorem ji_zip (ha : JA c W ta fs) : JI c W (XgIter.iZipX c.K ta) (iZip fs) := fun σ ρ Hi H ok sv Q h => by
  refine ha σ ρ Hi H ok sv _ ((Meet.bind h).imp (fun d h v Hi1 H1 s1 d1 => ?_) fun x k => k)
  split at h
  · rename_i a b
    split at h
    · rename_i xs ys e1 e2
      obtain ⟨u, w, rfl, du, dw⟩ := dva2 d1
      obtain ⟨r1, vs, rfl, g1, k1⟩ := src_of s1.ok du e1
      obtain ⟨r2, us, rfl, g2, k2⟩ := src_of s1.ok dw e2
      refine ⟨r1, r2, rfl, ⟨vs, g1 _ _ s1.ok (Same.refl _)⟩, ⟨us, g2 _ _ s1.ok (Same.refl _)⟩, h _ Hi1 H1 s1 ?_⟩
      refine walkD_pair (XgIter.walk_x (G := fun H => r1.rd c.K H vs ∧ r2.rd c.K H us) (fun _ g => g.1) (fun _ g => g.2)) ?_ (fun Hi2 H2 ok2 s2 => ⟨g1 _ _ ok2 s2, g2 _ _ ok2 s2⟩) fun i d x y ed ex ey => ?_
      · rw [List.length_map, List.length_zip, k1.length, k2.length]
      · rw [List.getElem?_map] at ed
        obtain ⟨⟨p1, p2⟩, ep, rfl⟩ := Option.map_eq_some_iff.mp ed
        rw [List.getElem?_zip_eq_some] at ep
        obtain ⟨v1, f1, dv1⟩ := k1.get ep.1
        obtain ⟨v2, f2, dv2⟩ := k2.get ep.2
        rw [f1] at ex
        rw [f2] at ey
        cases ex
        cases ey
        exact ⟨_, _, rfl, dv1, dv2⟩
    · exact h.elim
  · exact h.elim
theorem ji_enum (ha : JA c W ta fs) : JI c W (XgIter.iEnumX c.K ta) (iEnum fs) := fun σ ρ Hi H ok sv Q h => by
  refine ha σ ρ Hi H ok sv _ ((Meet.bind h).imp (fun d h v Hi1 H1 s1 d1 => ?_) fun x k => k)
  split at h
  · rename_i a
    split at h
    · rename_i xs e1
      obtain ⟨u, rfl, du⟩ := dva1 d1
      obtain ⟨r1, vs, rfl, g1, k1⟩ := src_of s1.ok du e1
      refine ⟨r1, rfl, ⟨vs, g1 _ _ s1.ok (Same.refl _)⟩, h _ Hi1 H1 s1 ?_⟩
      refine walkD_pair (XgIter.walk_y (G := fun H => r1.rd c.K H vs) (fun _ g => g)) ?_ (fun Hi2 H2 ok2 s2 => g1 _ _ ok2 s2) fun i d x y ed ex ey => ?_
      · rw [List.length_map, List.length_zipIdx, k1.length]
      · rw [List.getElem?_map] at ed
        obtain ⟨⟨p1, p2⟩, ep, rfl⟩ := Option.map_eq_some_iff.mp ed
        rw [List.getElem?_zipIdx] at ep
        obtain ⟨p3, ep2, e4⟩ := Option.map_eq_some_iff.mp ep
        cases e4
        obtain ⟨v1, f1, dv1⟩ := k1.get ep2
        rw [f1] at ey
        cases ex
        cases ey
        rw [Nat.zero_add]
        exact ⟨_, _, rfl, .int _, dv1⟩
    · exact h.elim
  · exact h.elim
end

/-! ### for -/
def forR (g : MG) (b : MS) : List D → Rho → Option O
  | [], ρ => some (.nx ρ)
  | d :: ds, ρ => match g d ρ with
    | none => none
    | some ρ1 => match b ρ1 with
      | some (.nx ρ') => forR g b ds ρ'
      | some (.ct ρ') => forR g b ds ρ'
      | some (.bk ρ') => some (.nx ρ')
      | o => o
def sFor (f : Rho → R (List D)) (g : MG) (b : MS) : MS := fun ρ => lift (f ρ) ρ fun ds => forR g b ds ρ
theorem js_for {c : Cc} {W : WE} {wi : TI} {fi : Rho → R (List D)} {g : TG} {fg : MG} {tb : TS} {b : MS} {ix : List Nat} (hi : JI c W wi fi) (hg : JG c ix g fg) (hb : JS c W tb b) : JS c W (tFor wi g tb) (sFor fi fg b) := fun σ ρ Hi H ok sv Dn h => by
  refine hi σ ρ Hi H ok sv _ ((AftO.lift h sv).imp (fun ds h J Hi1 H1 s1 w => ?_) fun x k => k)
  obtain ⟨G, Y, wk, hG, hY⟩ := w.ex
  refine for_it wk (fun i σ' H' => ∃ Hi' ρ', Ok c Hi' H' ∧ Same Hi1 Hi' ∧ Sv c Hi' H' σ' ρ' ∧ AftO c W Hi' Dn (forR fg b (ds.drop i) ρ')) ?_ ?_ ?_ ?_
  · exact ⟨Hi1, ρ, s1.ok, Same.refl _, sv.step s1, AftO.to h s1.hi⟩
  · rintro i σ' H' _ ⟨Hi', ρ', ok', sm, _, _⟩
    exact hG Hi' H' ok' sm
  · rintro i x σ' H2 H3 hi' ⟨Hi', ρ', ok', sm, sv', a⟩ y
    have ed : ds[i]? = some ds[i] := by simp [hi']
    obtain ⟨Hi3, s3, dv⟩ := hY i ds[i] Hi' H2 H3 x ed ok' sm y
    have ex : ds.drop i = ds[i] :: ds.drop (i + 1) := List.drop_eq_getElem_cons hi'
    rw [ex] at a
    unfold forR at a
    cases hgd : fg ds[i] ρ' with
    | none => rw [hgd] at a; exact a.elim
    | some ρ1 =>
      rw [hgd] at a
      simp only at a
      refine hg σ' ρ' ρ1 Hi3 H3 x _ s3.ok (sv'.step s3) dv hgd _ fun σ2 sv2 _ => ?_
      refine hb σ2 ρ1 Hi3 H3 s3.ok sv2 _ ?_
      cases hbr : b ρ1 with
      | none => rw [hbr] at a; exact a.elim
      | some o =>
        rw [hbr] at a
        cases o with
        | nx ρ2 => exact fun σ4 Hi4 H4 sm4 ok4 sv4 => ⟨Hi4, ρ2, ok4, (sm.trans s3.hi).trans sm4, sv4, AftO.to a (s3.hi.trans sm4)⟩
        | ct ρ2 => exact fun σ4 Hi4 H4 sm4 ok4 sv4 => ⟨Hi4, ρ2, ok4, (sm.trans s3.hi).trans sm4, sv4, AftO.to a (s3.hi.trans sm4)⟩
        | bk ρ2 => exact Nx.to a s3.hi
        | rt d => exact fun v Hi4 H4 sm4 => a v Hi4 H4 (s3.hi.trans sm4)
        | rf xs => exact fun p vs Hi4 H4 sm4 => a p vs Hi4 H4 (s3.hi.trans sm4)
        | ex x ρ2 => exact fun σ4 Hi4 H4 sm4 => a σ4 Hi4 H4 (s3.hi.trans sm4)
  · rintro σ' H' ⟨Hi', ρ', ok', sm, sv', a⟩
    rw [List.drop_length] at a
    exact a σ' Hi' H' (Same.refl _) ok' sv'

/-! ### while, with fuel -/
def whR (t : Rho → R Bool) (b : MS) : Nat → Rho → Option O
  | 0, _ => none
  | n + 1, ρ => lift (t ρ) ρ fun k => if k = true then match b ρ with
      | some (.nx ρ') => whR t b n ρ'
      | some (.ct ρ') => whR t b n ρ'
      | some (.bk ρ') => some (.nx ρ')
      | o => o
    else some (.nx ρ)
def sWhile (n : Nat) (t : Rho → R Bool) (b : MS) : MS := whR t b n
theorem js_while {c : Cc} {W : WE} {tt : TT} {fb : Rho → R Bool} {tb : TS} {b : MS} (n : Nat) (ht : JT c W tt fb) (hb : JS c W tb b) : JS c W (tWhile tt tb) (sWhile n fb b) := fun σ ρ Hi H ok sv Dn h => by
  refine ⟨fun m σ' H' => ∃ Hi' ρ', Ok c Hi' H' ∧ Sv c Hi' H' σ' ρ' ∧ AftO c W Hi' Dn (whR fb b m ρ'), ⟨n, Hi, ρ, ok, sv, h⟩, ?_⟩
  rintro m σ' H' ⟨Hi', ρ', ok', sv', a⟩
  cases m with
  | zero => exact a.elim
  | succ m =>
    unfold whR at a
    refine ht σ' ρ' Hi' H' ok' sv' _ ((AftO.lift a sv').imp (fun k a Hi1 H1 s1 => ?_) fun x k => k)
    cases k with
    | false => exact a σ' Hi1 H1 s1.hi s1.ok (sv'.step s1)
    | true =>
      rw [if_pos rfl]
      rw [if_pos rfl] at a
      refine ⟨fun σ2 H2 => ∃ Hi2 ρ2, Ok c Hi2 H2 ∧ Sv c Hi2 H2 σ2 ρ2 ∧ AftO c W Hi2 Dn (whR fb b m ρ2), fun σ2 H2 w => ⟨m, Nat.lt_succ_self m, w⟩, ?_⟩
      refine hb σ' ρ' Hi1 H1 s1.ok (sv'.step s1) _ ?_
      cases hbr : b ρ' with
      | none => rw [hbr] at a; exact a.elim
      | some o =>
        rw [hbr] at a
        cases o with
        | nx ρ2 => exact fun σ4 Hi4 H4 sm4 ok4 sv4 => ⟨Hi4, ρ2, ok4, sv4, AftO.to a (s1.hi.trans sm4)⟩
        | ct ρ2 => exact fun σ4 Hi4 H4 sm4 ok4 sv4 => ⟨Hi4, ρ2, ok4, sv4, AftO.to a (s1.hi.trans sm4)⟩
        | bk ρ2 => exact Nx.to a s1.hi
        | rt d => exact fun v Hi4 H4 sm4 => a v Hi4 H4 (s1.hi.trans sm4)
        | rf xs => exact fun p vs Hi4 H4 sm4 => a p vs Hi4 H4 (s1.hi.trans sm4)
        | ex x ρ2 => exact fun σ4 Hi4 H4 sm4 => a σ4 Hi4 H4 (s1.hi.trans sm4)

/-! ### comprehensions -/
def lcR (g : MG) (t : Rho → R Bool) (e : Rho → R D) (ρ : Rho) : List D → R (List D)
  | [] => .ok []
  | d :: ds => match g d ρ with
    | none => .bad
    | some ρ1 => (t ρ1).bind fun b => if b = true then (e ρ1).bind fun x => (lcR g t e ρ ds).bind fun r => .ok (x :: r) else lcR g t e ρ ds
def wipeR (ρ : Rho) : List Nat → Rho
  | [] => ρ
  | i :: r => (wipeR ρ r).set i .un
def lLc (f : Rho → R (List D)) (g : MG) (t : Rho → R Bool) (e : Rho → R D) (vs : List Nat) : Rho → R (List D) := fun ρ => (f ρ).bind fun ds => if ds.length ≤ 100000 then noX (lcR g t e (wipeR ρ vs) ds) else .bad
section
variable {c : Cc} {W : WE}
abbrev W0 : WE := fun _ _ _ _ => False
theorem Sv.wipe {Hi H : Hp} {σ : St} {ρ : Rho} (sv : Sv c Hi H σ ρ) : ∀ vs : List Nat, Sv c Hi H (L2.wipe σ vs) (wipeR ρ vs)
  | [] => sv
  | i :: r => (Sv.wipe sv r).setUn i none
theorem Sv.other {Hi H : Hp} {σ : St} {ρ : Rho} (sv : Sv c Hi H σ ρ) {p : Addr} {o : HO} (h : ∀ (j : Nat) (ys : Mo), ρ[j]? = some (.mo ys) → σ[j]? ≠ some (some (.ref p))) : Sv c Hi (upd H p o) σ ρ := by
  refine ⟨sv.len, fun i o' s a b => ?_, sv.apart⟩
  have k := sv.at' i o' s a b
  cases s with
  | un => trivial
  | err => exact k
  | val d => exact k
  | mo xs =>
    obtain ⟨q, vs, e, e2, e3, e4, e5⟩ := k
    subst e
    refine ⟨q, vs, rfl, ?_, e3, e4, e5⟩
    rw [upd_ne]
    · exact e2
    · intro z
      subst z
      exact h i xs b a
theorem noX_meet {α : Type} {r : R α} {p : α → Prop} {q : Xc → Prop} (h : Meet (noX r) p q) : Meet r p fun _ => False := by
  cases r with
  | ok a => exact h
  | exc x => exact h
  | bad => exact h
theorem Step.chg {Hi H Hi' H' : Hp} {p : Addr} {vs ws : List V} (s : Step c Hi H Hi' H') (n : H p = none) (e : H' p = some (.lst vs)) (n' : Hi' p = none) : Step c Hi H Hi' (upd H' p (.lst ws)) :=
  ⟨s.hi, fun b o nb e1 => by rw [upd_ne (ne_of_none e1 n)]; exact s.h b o nb e1, s.fr, s.ok0, s.ok.change e n' (s.ok0.free0 n)⟩
theorem jl_lc {wi : TI} {fi : Rho → R (List D)} {g : TG} {fg : MG} {tt : TT} {fb : Rho → R Bool} {te : TE} {fe : Rho → R D} {ix : List Nat} (vs : List Nat) (hi : JI c W wi fi) (hg : JG c ix g fg) (ht : JT c W0 tt fb) (he : JE c W0 te fe)
    (hs : ∀ j ∈ ix, j ∈ vs) : JL c W (tLc wi g tt te vs) (lLc fi fg fb fe vs) := fun σ ρ Hi H ok sv Q h => by
  refine hi σ ρ Hi H ok sv _ ((Meet.bind h).imp (fun ds h J Hi1 H1 s1 w => ?_) fun x k => k)
  obtain ⟨hl, h⟩ := meet_if h
  have h := noX_meet h
  obtain ⟨G, Y, wk, hG, hY⟩ := w.ex
  intro D nD
  have sv1 := (sv.step s1).wipe vs
  have nown : ∀ (j : Nat) (ys : Mo), (wipeR ρ vs)[j]? = some (.mo ys) → (L2.wipe σ vs)[j]? ≠ some (some (.ref D)) := own_ne sv1 nD
  refine lc_it wk (fun i H' => ∃ Hi' acc done, Step c Hi1 H1 Hi' H' ∧ Hi' D = none ∧ H' D = some (.lst acc) ∧ DvA c.K c.cl Hi' acc done ∧ done.length ≤ i ∧
    Sv c Hi' H' (L2.wipe σ vs) (wipeR ρ vs) ∧ Meet (lcR fg fb fe (wipeR ρ vs) (ds.drop i)) (fun r => RetL c Hi H Q (done ++ r)) (fun _ => False)) ?_ ?_ ?_ ?_
  · have s2 := Step.newOwn (o := .lst []) s1.ok nD
    exact ⟨Hi1, [], [], s2, s1.ok.free nD, upd_same, .nil, Nat.le_refl _, sv1.step s2, h⟩
  · rintro i H' _ ⟨Hi', acc, done, st, _⟩
    exact hG Hi' H' st.ok st.hi
  · rintro i x H2 H3 hi' ⟨Hi', acc, done, st, nd, hD, dD, dl, sv', m⟩ y
    have ed : ds[i]? = some ds[i] := by simp [hi']
    obtain ⟨Hi3, s3, dv⟩ := hY i ds[i] Hi' H2 H3 x ed st.ok st.hi y
    have ex : ds.drop i = ds[i] :: ds.drop (i + 1) := List.drop_eq_getElem_cons hi'
    rw [ex] at m
    unfold lcR at m
    cases hgd : fg ds[i] (wipeR ρ vs) with
    | none => rw [hgd] at m; exact m.elim
    | some ρ1 =>
      rw [hgd] at m
      simp only at m
      refine hg _ _ ρ1 Hi3 H3 x _ s3.ok (sv'.step s3) dv hgd _ fun σ2 sv2 ch => ⟨ch.wipe hs, ?_⟩
      refine ht σ2 ρ1 Hi3 H3 s3.ok sv2 _ ((Meet.bind m).imp (fun b m Hi4 H4 s4 => ?_) fun x k => k.elim)
      have s34 := s3.trans s4
      cases b with
      | false =>
        rw [if_neg Bool.false_ne_true] at m ⊢
        exact ⟨Hi4, acc, done, st.trans s34, s34.fr _ _ hD nd, s34.lst hD, dD.up s34.hi, by omega, sv'.step s34, m⟩
      | true =>
        rw [if_pos rfl] at m ⊢
        refine he σ2 ρ1 Hi4 H4 s4.ok (sv2.step s4) _ ((Meet.bind m).imp (fun d m v Hi5 H5 s5 d5 => ?_) fun x k => k.elim)
        have s345 := s34.trans s5
        have nd5 := s345.fr _ _ hD nd
        have hD5 := s345.lst hD
        have sv5 := sv'.step s345
        refine ⟨acc, hD5, lim_lt (by rw [dD.length]; have := hi'; omega), Hi5, acc ++ [v], done ++ [d], (st.trans s345).chg nD hD5 nd5, nd5, upd_same,
          (dD.up s345.hi).append (.cons d5 .nil), by rw [List.length_append, List.length_singleton]; omega, sv5.other nown, ?_⟩
        refine (Meet.bind m).imp (fun r k => ?_) fun x k => k.elim
        have k : RetL c Hi H Q (done ++ (d :: r)) := k
        rw [List.append_assoc]
        exact k
  · rintro H' ⟨Hi', acc, done, st, nd, hD, dD, dl, sv', m⟩
    rw [List.drop_length] at m
    have m : RetL c Hi H Q (done ++ []) := m
    rw [List.append_nil] at m
    exact m D acc Hi' H' (s1.trans st) (s1.free nD) nd hD dD
end
end Xd
namespace Xd
open PySem L2 Xg

/-! ### errors -/
def XcAt (K : PySem.W.Frag) (cl : Nat → Addr) (Hi : Hp) (x : Xc) (e : Value) (d : Option Addr) : Prop :=
  ∃ dx vs, e = .ref (cl x.c) ∧ d = some dx ∧ Hi dx = some (.xd (x.ns.zip vs)) ∧ x.ns.length = vs.length ∧ DvA K cl Hi vs x.xs
def wX (K : PySem.W.Frag) (cl : Nat → Addr) (W : WX) : Xd.WE := fun x σ Hi H => ∀ e d, XcAt K cl Hi x e d → W e d σ H
abbrev wE (E : XK) : WX := fun cls d _ H => E cls d H

/-! ### promises -/
def spD (K : PySem.W.Frag) (cl : Nat → Addr) (tb : List Addr) (m : List D → R D) : Sp := fun vs H Q E => ∃ Hq ds, Ok ⟨K, cl, Hq, H, 0, tb⟩ Hq H ∧ DvA K cl Hq vs ds ∧
  Meet (m ds) (fun d => ∀ v Hi' H', Ok ⟨K, cl, Hq, H, 0, tb⟩ Hi' H' → Dv K cl Hi' v d → Q v H') (fun x => ∀ Hi' H', Ok ⟨K, cl, Hq, H, 0, tb⟩ Hi' H' → ∀ e d, XcAt K cl Hi' x e d → E e d H')
def spL (K : PySem.W.Frag) (cl : Nat → Addr) (tb : List Addr) (m : List D → R (List D)) : Sp := fun vs H Q E => ∃ Hq ds, Ok ⟨K, cl, Hq, H, 0, tb⟩ Hq H ∧ DvA K cl Hq vs ds ∧
  Meet (m ds) (fun xs => ∀ p us Hi' H', Ok ⟨K, cl, Hq, H, 0, tb⟩ Hi' H' → H p = none → Hi' p = none → H' p = some (.lst us) → DvA K cl Hi' us xs → Q (.ref p) H') (fun x => ∀ Hi' H', Ok ⟨K, cl, Hq, H, 0, tb⟩ Hi' H' → ∀ e d, XcAt K cl Hi' x e d → E e d H')
def rho0 (n : Nat) (ds : List D) : Rho := ds.map Sl.val ++ List.replicate (n - ds.length) .un
def outD : Option O → R D
  | some (.rt d) => .ok d
  | some (.rf xs) => .ok (.lst xs)
  | some (.nx _) => .ok .non
  | some (.ex x _) => .exc x
  | _ => .bad
def outL : Option O → R (List D)
  | some (.rf xs) => .ok xs
  | some (.ex x _) => .exc x
  | _ => .bad
/-- what a def with n slots and k parameters gives -/
def runD (n k : Nat) (g : MS) (ds : List D) : R D := if ds.length = k then outD (g (rho0 n ds)) else .bad
def runL (n k : Nat) (g : MS) (ds : List D) : R (List D) := if ds.length = k then outL (g (rho0 n ds)) else .bad
section
variable {P : Program} {w : World} {K : PySem.W.Frag} {mg : Str → Option Value} {base : Heap} {cl : Nat → Addr} {tb : List Addr}
theorem sv_start {c : Cc} {N : List Str} {Hi H : Hp} {vs : List V} {ds : List D} (d : DvA c.K c.cl Hi vs ds) : Sv c Hi H (L2.start N vs) (rho0 N.length ds) := by
  have hl := d.length
  unfold L2.start rho0
  refine ⟨by simp [hl], fun i o s a b => ?_, fun i j p xs ys a b _ _ => ?_⟩
  · by_cases hi : i < ds.length
    · rw [List.getElem?_append_left (by simpa [hl] using hi)] at a
      rw [List.getElem?_append_left (by simpa using hi)] at b
      rw [List.getElem?_map] at a b
      obtain ⟨d', e1, rfl⟩ := Option.map_eq_some_iff.mp b
      obtain ⟨v, e2, dv⟩ := d.get e1
      rw [e2] at a
      cases a
      exact ⟨v, rfl, dv⟩
    · rw [List.getElem?_append_right (by simpa using hi)] at b
      have := List.getElem?_replicate (n := N.length - ds.length) (i := i - (ds.map Sl.val).length) (a := Sl.un)
      rw [this] at b
      split at b
      · cases b; trivial
      · cases b
  · exfalso
    by_cases hi : i < ds.length
    · rw [List.getElem?_append_left (by simpa using hi), List.getElem?_map] at a
      obtain ⟨d', e1, e2⟩ := Option.map_eq_some_iff.mp a
      cases e2
    · rw [List.getElem?_append_right (by simpa using hi)] at a
      have := List.getElem?_replicate (n := N.length - ds.length) (i := i - (ds.map Sl.val).length) (a := Sl.un)
      rw [this] at a
      split at a <;> cases a
theorem runD_len {n k : Nat} {g : MS} {ds : List D} {p : D → Prop} {q : Xc → Prop} (h : Meet (runD n k g ds) p q) : ds.length = k ∧ Meet (outD (g (rho0 n ds))) p q := meet_if h
theorem runL_len {n k : Nat} {g : MS} {ds : List D} {p : List D → Prop} {q : Xc → Prop} (h : Meet (runL n k g ds) p q) : ds.length = k ∧ Meet (outL (g (rho0 n ds))) p q := meet_if h
/-- a def that raises nothing -/
theorem okD {x qual : Str} {st : Stmt} {f : Addr} {fd : FuncData} {N ps : List Str} {k : Nat} {g : MS} (F : Fun K x qual st f fd) (S : FnScope N ps (defScope st))
    (body : ∀ (cdv : Value) (A : Around) (outer : List Env) (s : Shared) (H Hq : Hp) (E : XK), Room k (A.deeper (PyProof.Rows.envOfC qual (defScope st) s.heap.objs.size f cdv)) →
      ∃ t, PSs (cxOf CX0 P w K mg base N qual (defScope st) f cdv A outer s H E).nox (defBody st) t ∧ JS ⟨K, cl, Hq, H, 0, tb⟩ W0 t g) :
    FnOk P w K mg base CX0 (k + 1) f fd ps (spD K cl tb fun ds => noX (runD N.length ps.length g ds)) := by
  refine F.ok S (fun vs H Q E h => ?_) (fun cdv A' outer s H vs Q E hr h => ?_)
  · obtain ⟨Hq, ds, _, d, m⟩ := h
    rw [d.length]
    exact (runD_len (noX_meet m)).1
  · obtain ⟨Hq, ds, sm, d, m⟩ := h
    obtain ⟨t, h1, h2⟩ := body cdv A' outer s H Hq E hr
    refine ⟨t, h1, h2 _ (rho0 N.length ds) Hq H sm (sv_start d) _ ?_⟩
    have m := (runD_len (noX_meet m)).2
    cases hg : g (rho0 N.length ds) with
    | none => rw [hg] at m; exact m.elim
    | some o =>
      rw [hg] at m
      cases o with
      | nx ρ => exact fun σ' Hi' H' sm' ok' sv' => m _ Hi' H' ok' .non
      | bk ρ => exact m.elim
      | ct ρ => exact m.elim
      | rt d => exact fun v Hi' H' sm' ok' dv => m v Hi' H' ok' dv
      | rf xs => exact fun p us Hi' H' sm' ok' e n n0 dv => m _ _ H' (ok'.freeze e (fun _ z => by cases z) n n0) (.lst upd_same (dv.up (same_upd n)))
      | ex x ρ => exact m.elim
theorem okL {x qual : Str} {st : Stmt} {f : Addr} {fd : FuncData} {N ps : List Str} {k : Nat} {g : MS} (F : Fun K x qual st f fd) (S : FnScope N ps (defScope st))
    (body : ∀ (cdv : Value) (A : Around) (outer : List Env) (s : Shared) (H Hq : Hp) (E : XK), Room k (A.deeper (PyProof.Rows.envOfC qual (defScope st) s.heap.objs.size f cdv)) →
      ∃ t, PSs (cxOf CX0 P w K mg base N qual (defScope st) f cdv A outer s H E).nox (defBody st) t ∧ JS ⟨K, cl, Hq, H, 0, tb⟩ W0 t g) :
    FnOk P w K mg base CX0 (k + 1) f fd ps (spL K cl tb fun ds => noX (runL N.length ps.length g ds)) := by
  refine F.ok S (fun vs H Q E h => ?_) (fun cdv A' outer s H vs Q E hr h => ?_)
  · obtain ⟨Hq, ds, _, d, m⟩ := h
    rw [d.length]
    exact (runL_len (noX_meet m)).1
  · obtain ⟨Hq, ds, sm, d, m⟩ := h
    obtain ⟨t, h1, h2⟩ := body cdv A' outer s H Hq E hr
    refine ⟨t, h1, h2 _ (rho0 N.length ds) Hq H sm (sv_start d) _ ?_⟩
    have m := (runL_len (noX_meet m)).2
    cases hg : g (rho0 N.length ds) with
    | none => rw [hg] at m; exact m.elim
    | some o =>
      rw [hg] at m
      cases o with
      | rf xs => exact fun p us Hi' H' sm' ok' e n n0 dv => m p us Hi' H' ok' n0 n e dv
      | _ => exact m.elim
/-- a def that may raise -/
theorem okDX {x qual : Str} {st : Stmt} {f : Addr} {fd : FuncData} {N ps : List Str} {k : Nat} {g : MS} (F : Fun K x qual st f fd) (S : FnScope N ps (defScope st))
    (body : ∀ (cdv : Value) (A : Around) (outer : List Env) (s : Shared) (H Hq : Hp) (E : XK), Room k (A.deeper (PyProof.Rows.envOfC qual (defScope st) s.heap.objs.size f cdv)) →
      ∃ t, PSs (cxOf (L2.CX P w) P w K mg base N qual (defScope st) f cdv A outer s H E) (defBody st) t ∧ JS ⟨K, cl, Hq, H, 0, tb⟩ (wX K cl (wE E)) t g) :
    FnOk P w K mg base (L2.CX P w) (k + 1) f fd ps (spD K cl tb (runD N.length ps.length g)) := by
  refine F.okX S (fun vs H Q E h => ?_) (fun cdv A' outer s H vs Q E hr h => ?_)
  · obtain ⟨Hq, ds, _, d, m⟩ := h
    rw [d.length]
    exact (runD_len m).1
  · obtain ⟨Hq, ds, sm, d, m⟩ := h
    obtain ⟨t, h1, h2⟩ := body cdv A' outer s H Hq E hr
    refine ⟨t, h1, h2 _ (rho0 N.length ds) Hq H sm (sv_start d) _ ?_⟩
    have m := (runD_len m).2
    cases hg : g (rho0 N.length ds) with
    | none => rw [hg] at m; exact m.elim
    | some o =>
      rw [hg] at m
      cases o with
      | nx ρ => exact fun σ' Hi' H' sm' ok' sv' => m _ Hi' H' ok' .non
      | bk ρ => exact m.elim
      | ct ρ => exact m.elim
      | rt d => exact fun v Hi' H' sm' ok' dv => m v Hi' H' ok' dv
      | rf xs => exact fun p us Hi' H' sm' ok' e n n0 dv => m _ _ H' (ok'.freeze e (fun _ z => by cases z) n n0) (.lst upd_same (dv.up (same_upd n)))
      | ex x ρ => exact fun σ' Hi' H' sm' ok' sv' e d ha => m Hi' H' ok' e d ha
theorem okLX {x qual : Str} {st : Stmt} {f : Addr} {fd : FuncData} {N ps : List Str} {k : Nat} {g : MS} (F : Fun K x qual st f fd) (S : FnScope N ps (defScope st))
    (body : ∀ (cdv : Value) (A : Around) (outer : List Env) (s : Shared) (H Hq : Hp) (E : XK), Room k (A.deeper (PyProof.Rows.envOfC qual (defScope st) s.heap.objs.size f cdv)) →
      ∃ t, PSs (cxOf (L2.CX P w) P w K mg base N qual (defScope st) f cdv A outer s H E) (defBody st) t ∧ JS ⟨K, cl, Hq, H, 0, tb⟩ (wX K cl (wE E)) t g) :
    FnOk P w K mg base (L2.CX P w) (k + 1) f fd ps (spL K cl tb (runL N.length ps.length g)) := by
  refine F.okX S (fun vs H Q E h => ?_) (fun cdv A' outer s H vs Q E hr h => ?_)
  · obtain ⟨Hq, ds, _, d, m⟩ := h
    rw [d.length]
    exact (runL_len m).1
  · obtain ⟨Hq, ds, sm, d, m⟩ := h
    obtain ⟨t, h1, h2⟩ := body cdv A' outer s H Hq E hr
    refine ⟨t, h1, h2 _ (rho0 N.length ds) Hq H sm (sv_start d) _ ?_⟩
    have m := (runL_len m).2
    cases hg : g (rho0 N.length ds) with
    | none => rw [hg] at m; exact m.elim
    | some o =>
      rw [hg] at m
      cases o with
      | rf xs => exact fun p us Hi' H' sm' ok' e n n0 dv => m p us Hi' H' ok' n0 n e dv
      | ex x ρ => exact fun σ' Hi' H' sm' ok' sv' e d ha => m Hi' H' ok' e d ha
      | _ => exact m.elim
end

/-! ### calls -/
section
variable {c : Cc} {W : Xd.WE} {ts : TA} {fs : Rho → R (List D)}
theorem ok_step {Hi H Hi' H' : Hp} (ok : Ok c Hi H) (o2 : Ok ⟨c.K, c.cl, Hi, H, 0, c.tb⟩ Hi' H') : Step c Hi H Hi' H' := by
  refine ⟨o2.q, o2.h, fun p o e n => ?_, ok, o2.le, ok.q.trans o2.q, ok.h.trans o2.h, fun p o e n => ?_, o2.tab, o2.tabI⟩
  · cases k : Hi' p with
    | none => rfl
    | some u =>
      have := o2.new p u k n
      rw [show H p = none from this] at e
      cases e
  · cases k : Hi p with
    | some u => exact ok.new p u k n
    | none => exact ok.free0 (o2.new p o e k)
theorem Ok.here {Hi H : Hp} (ok : Ok c Hi H) : Ok ⟨c.K, c.cl, Hi, H, 0, c.tb⟩ Hi H := ⟨ok.le, Same.refl _, SameT.refl _ _, fun p o e n => (by
    have n' : Hi p = none := n
    rw [e] at n'
    cases n'), ok.tab, ok.tabI⟩
theorem je_call0 {m : List D → R D} (ha : JA c W ts fs) : JE c W (tCall (spD c.K c.cl c.tb m) [] E0 ts) (eCall (fun ds => noX (m ds)) fs) := fun σ ρ Hi H ok sv Q h => by
  refine ha σ ρ Hi H ok sv _ ((Meet.bind h).imp (fun ds h vs Hi1 H1 s1 d1 => ?_) fun x k => k)
  rw [List.append_nil]
  refine ⟨Hi1, ds, s1.ok.here, d1, (noX_meet h).imp (fun d k v Hi2 H2 o2 dv => ?_) fun x k => k.elim⟩
  exact k v Hi2 H2 (s1.trans (ok_step s1.ok o2)) dv
theorem jl_call0 {m : List D → R (List D)} (ha : JA c W ts fs) : JL c W (tCall (spL c.K c.cl c.tb m) [] E0 ts) (lCall (fun ds => noX (m ds)) fs) := fun σ ρ Hi H ok sv Q h => by
  refine ha σ ρ Hi H ok sv _ ((Meet.bind h).imp (fun ds h vs Hi1 H1 s1 d1 => ?_) fun x k => k)
  rw [List.append_nil]
  refine ⟨Hi1, ds, s1.ok.here, d1, (noX_meet h).imp (fun d k p us Hi2 H2 o2 n n' e dv => ?_) fun x k => k.elim⟩
  exact k p us Hi2 H2 (s1.trans (ok_step s1.ok o2)) (s1.free n) n' e dv
theorem je_callE {m : List D → R D} {E : XK} (ha : JA c (wX c.K c.cl (wE E)) ts fs) : JE c (wX c.K c.cl (wE E)) (tCall (spD c.K c.cl c.tb m) [] E ts) (eCall m fs) := fun σ ρ Hi H ok sv Q h => by
  refine ha σ ρ Hi H ok sv _ ((Meet.bind h).imp (fun ds h vs Hi1 H1 s1 d1 => ?_) fun x k => k)
  rw [List.append_nil]
  refine ⟨Hi1, ds, s1.ok.here, d1, h.imp (fun d k v Hi2 H2 o2 dv => ?_) fun x k Hi2 H2 o2 e d a => ?_⟩
  · exact k v Hi2 H2 (s1.trans (ok_step s1.ok o2)) dv
  · exact k Hi2 H2 (s1.trans (ok_step s1.ok o2)) e d a
theorem jl_callE {m : List D → R (List D)} {E : XK} (ha : JA c (wX c.K c.cl (wE E)) ts fs) : JL c (wX c.K c.cl (wE E)) (tCall (spL c.K c.cl c.tb m) [] E ts) (lCall m fs) := fun σ ρ Hi H ok sv Q h => by
  refine ha σ ρ Hi H ok sv _ ((Meet.bind h).imp (fun ds h vs Hi1 H1 s1 d1 => ?_) fun x k => k)
  rw [List.append_nil]
  refine ⟨Hi1, ds, s1.ok.here, d1, h.imp (fun d k p us Hi2 H2 o2 n n' e dv => ?_) fun x k Hi2 H2 o2 e d a => ?_⟩
  · exact k p us Hi2 H2 (s1.trans (ok_step s1.ok o2)) (s1.free n) n' e dv
  · exact k Hi2 H2 (s1.trans (ok_step s1.ok o2)) e d a
/-- in a try -/
theorem je_callS {m : List D → R D} {V : WX} (ha : JA c (wX c.K c.cl V) ts fs) : JE c (wX c.K c.cl V) (tCallS (spD c.K c.cl c.tb m) (L2.WE V) ts) (eCall m fs) := fun σ ρ Hi H ok sv Q h => by
  refine ha σ ρ Hi H ok sv _ ((Meet.bind h).imp (fun ds h vs Hi1 H1 s1 d1 => ?_) fun x k => k)
  refine ⟨Hi1, ds, s1.ok.here, d1, h.imp (fun d k v Hi2 H2 o2 dv => ?_) fun x k Hi2 H2 o2 e d a => ?_⟩
  · exact k v Hi2 H2 (s1.trans (ok_step s1.ok o2)) dv
  · exact k Hi2 H2 (s1.trans (ok_step s1.ok o2)) e d a
theorem jl_callS {m : List D → R (List D)} {V : WX} (ha : JA c (wX c.K c.cl V) ts fs) : JL c (wX c.K c.cl V) (tCallS (spL c.K c.cl c.tb m) (L2.WE V) ts) (lCall m fs) := fun σ ρ Hi H ok sv Q h => by
  refine ha σ ρ Hi H ok sv _ ((Meet.bind h).imp (fun ds h vs Hi1 H1 s1 d1 => ?_) fun x k => k)
  refine ⟨Hi1, ds, s1.ok.here, d1, h.imp (fun d k p us Hi2 H2 o2 n n' e dv => ?_) fun x k Hi2 H2 o2 e d a => ?_⟩
  · exact k p us Hi2 H2 (s1.trans (ok_step s1.ok o2)) (s1.free n) n' e dv
  · exact k Hi2 H2 (s1.trans (ok_step s1.ok o2)) e d a

/-! ### raise -/
def sRaise1 (n : Nat) (f : Str) (fs : Rho → R (List D)) : MS := fun ρ => lift (fs ρ) ρ fun ds => match ds with
  | [.str y] => if y.length ≤ 100000 then some (.ex ⟨n, [f], [.str y]⟩ ρ) else none
  | _ => none
def sRaise2 (n : Nat) (fs : Rho → R (List D)) : MS := fun ρ => lift (fs ρ) ρ fun ds => match ds with
  | [.int i, .int j] => if (0 ≤ i ∧ i < 2 ^ 62) ∧ 0 ≤ j ∧ j < 2 ^ 62 then some (.ex ⟨n, ["column", "line"], [.int j, .int i]⟩ ρ) else none
  | _ => none
theorem aft_if {P : Prop} [Decidable P] {Hi : Hp} {Dn : Ends} {a : Option O} (h : AftO c W Hi Dn (if P then a else none)) : P ∧ AftO c W Hi Dn a := by
  by_cases hp : P
  · rw [if_pos hp] at h; exact ⟨hp, h⟩
  · rw [if_neg hp] at h; exact h.elim
theorem js_raise1 {V : WX} {n : Nat} {f : Str} (ha : JA c (wX c.K c.cl V) ts fs) : JS c (wX c.K c.cl V) (fun _ σ H => XgSup.tMkS (c.cl n) f ts σ H fun cls d H' => V cls d σ H') (sRaise1 n f fs) := fun σ ρ Hi H ok sv Dn h => by
  refine ha σ ρ Hi H ok sv _ ((AftO.lift h sv).imp (fun ds h vs Hi1 H1 s1 d1 => ?_) fun x k => k)
  split at h
  · rename_i y
    obtain ⟨hy, h⟩ := aft_if h
    obtain ⟨v, rfl, dv⟩ := dva1 d1
    cases dv
    refine ⟨y, rfl, hy, fun d nd => ?_⟩
    have s2 := Step.new (o := .xd [(f, .str y)]) s1.ok nd
    exact h σ _ _ (s1.hi.trans s2.hi) s2.ok (sv.step (s1.trans s2)) _ _ ⟨d, [.str y], rfl, rfl, upd_same, rfl, .cons (.str _) .nil⟩
  · exact h.elim
theorem js_raise2 {V : WX} {n : Nat} (ha : JA c (wX c.K c.cl V) ts fs) : JS c (wX c.K c.cl V) (fun _ σ H => XgSup2.tMkS (c.cl n) ts σ H fun cls d H' => V cls d σ H') (sRaise2 n fs) := fun σ ρ Hi H ok sv Dn h => by
  refine ha σ ρ Hi H ok sv _ ((AftO.lift h sv).imp (fun ds h vs Hi1 H1 s1 d1 => ?_) fun x k => k)
  split at h
  · rename_i i j
    obtain ⟨⟨⟨h1, h2⟩, h3, h4⟩, h⟩ := aft_if h
    obtain ⟨v, u, rfl, dv, du⟩ := dva2 d1
    cases dv
    cases du
    refine ⟨i, j, rfl, XgSup2.log_small h1 h2, XgSup2.log_small h3 h4, fun d nd => ?_⟩
    have s2 := Step.new (o := .xd [("column", .int j), ("line", .int i)]) s1.ok nd
    exact h σ _ _ (s1.hi.trans s2.hi) s2.ok (sv.step (s1.trans s2)) _ _ ⟨d, [.int j, .int i], rfl, rfl, upd_same, rfl, .cons (.int _) (.cons (.int _) .nil)⟩
  · exact h.elim
end
end Xd
namespace Xd
open PySem L2 Xg

/-! ### built-in functions -/
def cListL (as : List D) : Option (List D) := match as with
  | [.lst xs] => some xs
  | [.tup xs] => some xs
  | _ => none
def cTuple (as : List D) : Option D := match as with
  | [.lst xs] => some (.tup xs)
  | [.tup xs] => some (.tup xs)
  | _ => none
def cInt (as : List D) : Option D := match as with
  | [.int i] => some (.int i)
  | [.bl k] => some (.int (if k then 1 else 0))
  | [.str a] => if a.length ≤ 640 then (PySem.intText? a).map fun n => .int n else none
  | _ => none
def cStr (as : List D) : Option D := match as with
  | [.int i] => if i.natAbs < 2 ^ 62 then some (.str (toString i)) else none
  | _ => none
def cAbs (as : List D) : Option D := match as with
  | [.int i] => some (.int (if i < 0 then -i else i))
  | _ => none
def cMax2 (as : List D) : Option D := match as with
  | [.int i, .int j] => some (.int (if j > i then j else i))
  | _ => none
def cMin2 (as : List D) : Option D := match as with
  | [.int i, .int j] => some (.int (if j < i then j else i))
  | _ => none
def rIntX : List V → Hp → VK → Prop := fun xs H Q => ((∃ i, xs = [.int i] ∧ Q (.int i) H) ∨ ∃ k, xs = [.bl k] ∧ Q (.int (if k then 1 else 0)) H) ∨ ∃ a n, xs = [.str a] ∧ PySem.intText? a = some n ∧ a.length ≤ 640 ∧ Q (.int n) H
theorem call_intX {X : Cx} : CallR X (.type "int") rIntX := CallR.or call_int1 call_int_str
section
variable {c : Cc}
theorem jcl_list : JCL c (fun xs H Q => ∃ p ys, xs = [.ref p] ∧ (SqL c.K H p ys ∨ SqT c.K H p ys) ∧ ∀ l, H l = none → Q (.ref l) (upd H l (.lst ys))) cListL := fun Hi H ok xs as d Q hx e q => by
  unfold cListL at e
  split at e
  · cases e
    obtain ⟨v, rfl, h⟩ := dva1 hx
    cases h with
    | lst h1 h2 => exact ⟨_, _, rfl, .inl (.inl (.inl (ok.le _ _ h1))), fun p np => q.lst ok h2 p np⟩
  · cases e
    obtain ⟨v, rfl, h⟩ := dva1 hx
    cases h with
    | tup h1 h2 => exact ⟨_, _, rfl, .inr (same_t ok.le h1), fun p np => q.lst ok h2 p np⟩
  · cases e
theorem jc_tuple : JC c (fun xs H Q => ∃ p ys, xs = [.ref p] ∧ ((SqL c.K H p ys ∧ ∀ l, H l = none → Q (.ref l) (upd H l (.tup ys))) ∨ (SqT c.K H p ys ∧ Q (.ref p) H))) cTuple := fun Hi H ok xs as d Q hx e q => by
  unfold cTuple at e
  split at e
  · cases e
    obtain ⟨v, rfl, h⟩ := dva1 hx
    cases h with
    | lst h1 h2 => exact ⟨_, _, rfl, .inl ⟨.inl (.inl (ok.le _ _ h1)), fun p np => q.tup ok h2 p np⟩⟩
  · cases e
    obtain ⟨v, rfl, h⟩ := dva1 hx
    cases h with
    | tup h1 h2 => exact ⟨_, _, rfl, .inr ⟨same_t ok.le h1, q.here ok (.tup h1 h2)⟩⟩
  · cases e
theorem jc_int : JC c rIntX cInt := fun Hi H ok xs as d Q hx e q => by
  unfold cInt at e
  split at e
  · cases e
    obtain ⟨v, rfl, h⟩ := dva1 hx
    cases h
    exact .inl (.inl ⟨_, rfl, q.here ok (.int _)⟩)
  · cases e
    obtain ⟨v, rfl, h⟩ := dva1 hx
    cases h
    exact .inl (.inr ⟨_, rfl, q.here ok (.int _)⟩)
  · rename_i a
    by_cases ha : a.length ≤ 640
    · rw [if_pos ha] at e
      obtain ⟨n, e1, rfl⟩ := Option.map_eq_some_iff.mp e
      obtain ⟨v, rfl, h⟩ := dva1 hx
      cases h
      exact .inr ⟨_, n, rfl, e1, ha, q.here ok (.int _)⟩
    · rw [if_neg ha] at e
      cases e
  · cases e
theorem jc_str : JC c (fun xs H Q => ∃ i, xs = [.int i] ∧ i.natAbs.log2 < 1920 ∧ Q (.str (toString i)) H) cStr := fun Hi H ok xs as d Q hx e q => by
  unfold cStr at e
  split at e
  · rename_i i
    obtain ⟨hi, rfl⟩ := if_some e
    obtain ⟨v, rfl, h⟩ := dva1 hx
    cases h
    refine ⟨_, rfl, ?_, q.here ok (.str _)⟩
    by_cases hz : i.natAbs = 0
    · rw [hz]; decide
    · exact Nat.lt_trans ((Nat.log2_lt hz).mpr hi) (by decide)
  · cases e
theorem jc_abs : JC c (fun xs H Q => ∃ i, xs = [.int i] ∧ Q (.int (if i < 0 then -i else i)) H) cAbs := fun Hi H ok xs as d Q hx e q => by
  unfold cAbs at e
  split at e
  · cases e
    obtain ⟨v, rfl, h⟩ := dva1 hx
    cases h
    exact ⟨_, rfl, q.here ok (.int _)⟩
  · cases e
theorem jc_max2 : JC c (fun xs H Q => ∃ i j, xs = [.int i, .int j] ∧ Q (.int (if j > i then j else i)) H) cMax2 := fun Hi H ok xs as d Q hx e q => by
  unfold cMax2 at e
  split at e
  · cases e
    obtain ⟨v, u, rfl, h, h'⟩ := dva2 hx
    cases h
    cases h'
    exact ⟨_, _, rfl, q.here ok (.int _)⟩
  · cases e
theorem jc_min2 : JC c (fun xs H Q => ∃ i j, xs = [.int i, .int j] ∧ Q (.int (if j < i then j else i)) H) cMin2 := fun Hi H ok xs as d Q hx e q => by
  unfold cMin2 at e
  split at e
  · cases e
    obtain ⟨v, u, rfl, h, h'⟩ := dva2 hx
    cases h
    cases h'
    exact ⟨_, _, rfl, q.here ok (.int _)⟩
  · cases e

/-! ### isinstance of data, built-in types -/
def tyD : D → Option String
  | .non => some "NoneType"
  | .bl _ => some "bool"
  | .int _ => some "int"
  | .str _ => some "str"
  | .lst _ => some "list"
  | .tup _ => some "tuple"
  | _ => none
def isub (a b : String) : Bool := a == b || (a == "bool" && b == "int")
def tyL : List String := ["NoneType", "bool", "int", "str", "list", "tuple", "dict"]
/-- what the fragment's decider says of built-in types -/
def KitOk (K : PySem.W.Frag) : Prop := ∀ a ∈ tyL, ∀ b ∈ tyL, PySem.W.kitOne K (.type a) (.type b) = some (isub a b)
def cIsi (as : List D) : Option D := match as with
  | [a, .opq (.ty n)] => match tyD a with
    | some t => if n ∈ tyL then some (.bl (isub t n)) else none
    | none => none
  | _ => none
theorem tyT {K : PySem.W.Frag} {H : Hp} {a : Addr} {xs : List V} (h : SqT K H a xs) : TyX K H (.ref a) (.type "tuple") := by
  rcases h with (h | ⟨o, h⟩) | ⟨o, its, n, e, cc, _⟩
  · exact .base (.tup h)
  · exact .fTuple h
  · exact .kTuple e cc
theorem tyD_ok {Hi H : Hp} (ok : Ok c Hi H) {v : V} {d : D} {t : String} (h : Dv c.K c.cl Hi v d) (e : tyD d = some t) : TyX c.K H v (.type t) ∧ t ∈ tyL := by
  cases d with
  | non => cases e; cases h; exact ⟨.base .non, by decide⟩
  | bl b => cases e; cases h; exact ⟨.base (.bl b), by decide⟩
  | int i => cases e; cases h; exact ⟨.base (.int i), by decide⟩
  | str s => cases e; cases h; exact ⟨.base (.str s), by decide⟩
  | lst xs => cases e; cases h with | lst h1 h2 => exact ⟨.base (.lst (ok.le _ _ h1)), by decide⟩
  | tup xs => cases e; cases h with | tup h1 h2 => exact ⟨tyT (same_t ok.le h1), by decide⟩
  | _ => cases e
theorem jc_isi (kit : KitOk c.K) : JC c (rIsi c.K) cIsi := fun Hi H ok xs as d Q hx e q => by
  unfold cIsi at e
  split at e
  · rename_i a n
    split at e
    · rename_i t et
      obtain ⟨hn, rfl⟩ := if_some e
      obtain ⟨v, u, rfl, h, h'⟩ := dva2 hx
      cases h'
      obtain ⟨ty, ht⟩ := tyD_ok ok h et
      exact ⟨v, .ty n, .type t, .type n, isub t n, rfl, .ty n, ty, kit t ht n hn, q.here ok (.bl _)⟩
    · cases e
  · cases e
end

/-! ### texts -/
/-- one sign or more between -/
def mSplitL (a : D) (as : List D) : Option (List D) := match a, as with
  | .str a, [.str b] => if (b.length == 0) = false ∧ a.length ≤ 100000 then some ((Txt.split a b).map D.str) else none
  | _, _ => none
def strList : List D → Option (List Str)
  | [] => some []
  | .str s :: r => match strList r with
    | some ss => some (s :: ss)
    | none => none
  | _ => none
def mJoin (a : D) (as : List D) : Option D := match a, as with
  | .str a, [.lst xs] => match strList xs with
    | some ys => if (ys.map (·.length)).sum + ys.length * a.length ≤ 100000 then some (.str (Txt.join a ys)) else none
    | none => none
  | .str a, [.tup xs] => match strList xs with
    | some ys => if (ys.map (·.length)).sum + ys.length * a.length ≤ 100000 then some (.str (Txt.join a ys)) else none
    | none => none
  | _, _ => none
def mStripC (a : D) (as : List D) : Option D := match a, as with
  | .str a, [.str b] => if a.length ≤ 100000 then some (.str (Txt.stripChars a b)) else none
  | _, _ => none
def eM1 (o : D → List D → Option D) (f g : Rho → R D) : Rho → R D := fun ρ => (f ρ).bind fun a => match a with
  | .str _ => (g ρ).bind fun b => ro (o a [b])
  | _ => .bad
def lM1 (o : D → List D → Option (List D)) (f g : Rho → R D) : Rho → R (List D) := fun ρ => (f ρ).bind fun a => match a with
  | .str _ => (g ρ).bind fun b => ro (o a [b])
  | _ => .bad
section
variable {c : Cc} {W : Xd.WE} {ta tb : TE} {f g : Rho → R D}
theorem je_m1 {r : V → List V → Hp → VK → Prop} {o : D → List D → Option D} (ho : JM c r o) (ha : JE c W ta f) (hb : JE c W tb g) : JE c W (tM1 r ta tb) (eM1 o f g) := fun σ ρ Hi H ok sv Q h => by
  refine ha σ ρ Hi H ok sv _ ((Meet.bind h).imp (fun a h v Hi1 H1 s1 d1 => ?_) fun x k => k)
  cases a with
  | str s =>
    cases d1
    refine ⟨⟨s, rfl⟩, hb σ ρ Hi1 H1 s1.ok (sv.step s1) _ (meet_step s1 (Meet.bind h) fun b h v2 Hi2 H2 s2 d2 => ?_)⟩
    exact ro_meet h fun d e q => ho Hi2 H2 s2.ok _ _ _ _ d Q (.str s) (.cons d2 .nil) e (RetD.to q (s1.trans s2))
  | _ => exact h.elim
theorem jl_m1 {r : V → List V → Hp → VK → Prop} {o : D → List D → Option (List D)} (ho : JML c r o) (ha : JE c W ta f) (hb : JE c W tb g) : JL c W (tM1 r ta tb) (lM1 o f g) := fun σ ρ Hi H ok sv Q h => by
  refine ha σ ρ Hi H ok sv _ ((Meet.bind h).imp (fun a h v Hi1 H1 s1 d1 => ?_) fun x k => k)
  cases a with
  | str s =>
    cases d1
    refine ⟨⟨s, rfl⟩, hb σ ρ Hi1 H1 s1.ok (sv.step s1) _ (meet_step s1 (Meet.bind h) fun b h v2 Hi2 H2 s2 d2 => ?_)⟩
    exact ro_meet h fun d e q => ho Hi2 H2 s2.ok _ _ _ _ d Q (.str s) (.cons d2 .nil) e (RetL.to (fun p v Hi2 H2 s2 n n2 e e2 => q p v Hi2 H2 s2 n n2 e e2) (s1.trans s2))
  | _ => exact h.elim
theorem dva_strl {K : PySem.W.Frag} {cl : Nat → Addr} {Hi : Hp} : ∀ zs : List Str, DvA K cl Hi (zs.map V.str) (zs.map D.str)
  | [] => .nil
  | z :: r => .cons (.str z) (dva_strl r)
theorem strList_ok {K : PySem.W.Frag} {cl : Nat → Addr} {Hi : Hp} : ∀ {xs : List D} {vs : List V} {ys : List Str}, DvA K cl Hi vs xs → strList xs = some ys → vs = ys.map V.str
  | [], _, _, h, e => by cases h; simp [strList] at e; subst e; rfl
  | d :: r, _, ys, h, e => by
    cases h with
    | cons h1 h2 =>
      cases d with
      | str s =>
        simp only [strList] at e
        split at e
        · rename_i ss e1
          cases e
          cases h1
          rw [strList_ok h2 e1]
          rfl
        · cases e
      | _ => simp [strList] at e
theorem jml_split : JML c (fun x xs H Q => ∃ a b, x = .str a ∧ xs = [.str b] ∧ (b.length == 0) = false ∧ a.length + 2 ≤ sizeLine ∧ rNewStrs (Txt.split a b) H Q) mSplitL := fun Hi H ok x xs a as d Q hx hs e q => by
  unfold mSplitL at e
  split at e
  · rename_i a b
    obtain ⟨⟨h1, h2⟩, rfl⟩ := if_some e
    cases hx
    obtain ⟨v, rfl, h⟩ := dva1 hs
    cases h
    exact ⟨_, _, rfl, rfl, h1, Nat.le_trans (Nat.add_le_add_right h2 2) (by decide), fun p np => q.lst ok (dva_strl _) p np⟩
  · cases e
theorem jm_join : JM c (fun x xs H Q => ∃ a p, ∃ ys : List Str, x = .str a ∧ xs = [.ref p] ∧ (SqL c.K H p (ys.map V.str) ∨ SqT c.K H p (ys.map V.str)) ∧
      (ys.map (·.length)).sum + ys.length * a.length ≤ 16777216 ∧ Q (.str (Txt.join a ys)) H) mJoin := fun Hi H ok x xs a as d Q hx hs e q => by
  unfold mJoin at e
  split at e
  · split at e
    · rename_i ys ey
      obtain ⟨h1, rfl⟩ := if_some e
      cases hx
      obtain ⟨v, rfl, h⟩ := dva1 hs
      cases h with
      | lst k1 k2 =>
        have z := strList_ok k2 ey
        subst z
        exact ⟨_, _, ys, rfl, rfl, .inl (.inl (.inl (ok.le _ _ k1))), Nat.le_trans h1 (by decide), q.here ok (.str _)⟩
    · cases e
  · split at e
    · rename_i ys ey
      obtain ⟨h1, rfl⟩ := if_some e
      cases hx
      obtain ⟨v, rfl, h⟩ := dva1 hs
      cases h with
      | tup k1 k2 =>
        have z := strList_ok k2 ey
        subst z
        exact ⟨_, _, ys, rfl, rfl, .inr (same_t ok.le k1), Nat.le_trans h1 (by decide), q.here ok (.str _)⟩
    · cases e
  · cases e
theorem jm_stripC : JM c (fun x xs H Q => ∃ a b, x = .str a ∧ xs = [.str b] ∧ a.length ≤ sizeLine ∧ Q (.str (Txt.stripChars a b)) H) mStripC := fun Hi H ok x xs a as d Q hx hs e q => by
  unfold mStripC at e
  split at e
  · obtain ⟨h1, rfl⟩ := if_some e
    cases hx
    obtain ⟨v, rfl, h⟩ := dva1 hs
    cases h
    exact ⟨_, _, rfl, rfl, lim_le h1, q.here ok (.str _)⟩
  · cases e
end

/-! ### try .. except X as e -/
def noErr : Rho → Rho := List.map fun s => match s with
  | .err => .un
  | s => s
def eXf (x : Xc) (f : Str) : Rho → R D := fun _ => ro ((x.ns.zip x.xs).lookup f)
def aftTry (i : Nat) : Option O → Option O
  | some (.nx ρ) => some (.nx (noErr (ρ.set i .un)))
  | some (.bk ρ) => some (.bk (noErr (ρ.set i .un)))
  | some (.ct ρ) => some (.ct (noErr (ρ.set i .un)))
  | some (.rt d) => some (.rt d)
  | some (.rf xs) => some (.rf xs)
  | _ => none
def sTry (exm : Nat → Option Bool) (i : Nat) (gb : MS) (gs : Xc → MS) : MS := fun ρ => match gb ρ with
  | some (.ex x ρ') => match exm x.c with
    | some true => aftTry i (gs x ((noErr ρ').set i .err))
    | some false => some (.ex x ρ')
    | none => none
  | o => o
section
variable {c : Cc}
theorem Ok.turn {Hi H : Hp} (ok : Ok c Hi H) (a : Addr) : Ok ⟨c.K, c.cl, Hi, c.H0, a, c.tb⟩ Hi H := ⟨ok.le, Same.refl _, ok.h, fun p o e n => (by
    have n' : Hi p = none := n
    rw [e] at n'
    cases n'), ok.tab, ok.tabI⟩
theorem Ok.back {Hi0 Hi H H0 : Hp} {a : Addr} (ok0 : Ok c Hi0 H0) (ok : Ok ⟨c.K, c.cl, Hi0, c.H0, a, c.tb⟩ Hi H) : Ok c Hi H := ⟨ok.le, ok0.q.trans ok.q, ok.h, fun p o e n => (by
    cases k : Hi0 p with
    | some u => exact ok0.new p u k n
    | none => exact ok.new p o e k), ok.tab, ok.tabI⟩
theorem noErr_get {ρ : Rho} {j : Nat} {s : Sl} (h : (noErr ρ)[j]? = some s) : s ≠ .err ∧ (s = .un ∨ ρ[j]? = some s) := by
  unfold noErr at h
  rw [List.getElem?_map] at h
  obtain ⟨s', h1, h2⟩ := Option.map_eq_some_iff.mp h
  cases s' <;> (simp at h2; subst h2; first | exact ⟨by simp, .inl rfl⟩ | exact ⟨by simp, .inr h1⟩)
/-- another context, but for the caught error -/
theorem Sv.recx {K : PySem.W.Frag} {cl : Nat → Addr} {Hq Hq' H0 Hi H : Hp} {a a' : Addr} {tb : List Addr} {σ : L2.St} {ρ : Rho} (sv : Sv ⟨K, cl, Hq, H0, a, tb⟩ Hi H σ ρ) : Sv ⟨K, cl, Hq', H0, a', tb⟩ Hi H σ (noErr ρ) := by
  refine ⟨by simp [noErr, sv.len], fun j o s x y => ?_, fun j k p xs ys x y x' y' => ?_⟩
  · obtain ⟨h1, h2⟩ := noErr_get y
    rcases h2 with rfl | h2
    · trivial
    · have k := sv.at' j o s x h2
      cases s with
      | un => trivial
      | err => exact absurd rfl h1
      | val d => exact k
      | mo zs => exact k
  · obtain ⟨_, h1⟩ := noErr_get x
    obtain ⟨_, h2⟩ := noErr_get y
    rcases h1 with h1 | h1
    · cases h1
    rcases h2 with h2 | h2
    · cases h2
    exact sv.apart j k p _ _ h1 h2 x' y'
theorem Sv.setErr {c : Cc} {Hi H : Hp} {σ : L2.St} {ρ : Rho} (sv : Sv c Hi H σ ρ) (i : Nat) : Sv c Hi H (σ.set i (some (.ref c.ea))) (ρ.set i .err) := by
  have sv2 := sv.setUn i (some (.ref c.ea))
  refine ⟨by simp [sv.len], fun j o s x y => ?_, fun j k p xs ys x y x' y' => ?_⟩
  · by_cases hj : j = i
    · subst hj
      have h1 : j < σ.length := by
        have := (List.getElem?_eq_some_iff.mp x).1
        simpa using this
      have h2 : j < ρ.length := by rw [← sv.len]; exact h1
      rw [List.getElem?_set_self h1] at x
      rw [List.getElem?_set_self h2] at y
      cases x
      cases y
      rfl
    · rw [List.getElem?_set_ne (Ne.symm hj)] at x y
      exact sv.at' j o s x y
  · have f : ∀ (j : Nat) (zs : Mo), (ρ.set i .err)[j]? = some (.mo zs) → (ρ.set i .un)[j]? = some (.mo zs) := fun j zs h => by
      by_cases hj : j = i
      · subst hj
        have h2 : j < ρ.length := by
          have := (List.getElem?_eq_some_iff.mp h).1
          simpa using this
        rw [List.getElem?_set_self h2] at h
        cases h
      · rw [List.getElem?_set_ne (Ne.symm hj)] at h ⊢
        exact h
    exact sv2.apart j k p _ _ (f j _ x) (f k _ y) x' y'
def aftTry' (i : Nat) (ρ : Rho) : Rho := noErr (ρ.set i .un)
theorem js_try {tb : WX → TS} {ts : Addr → Value → Option Addr → TS} {Vout : WX} {gb : MS} {gs : Xc → MS} {exm : Nat → Option Bool} {cv : Value} {i : Nat} (hb : ∀ V : WX, JS c (wX c.K c.cl V) (tb V) gb)
    (hs : ∀ (a : Addr) (x : Xc) (cls : Value) (d : Option Addr) (Hi0 : Hp), XcAt c.K c.cl Hi0 x cls d → JS ⟨c.K, c.cl, Hi0, c.H0, a, c.tb⟩ W0 (ts a cls d) (gs x))
    (hm : ∀ n b, exm n = some b → PySem.W.exmOne c.K (.ref (c.cl n)) cv = some b) : JS c (wX c.K c.cl Vout) (fun Dn σ H => tb (wAs c.K cv i ts Vout Dn) Dn σ H) (sTry exm i gb gs) := fun σ ρ Hi H ok sv Dn h => by
  refine hb _ σ ρ Hi H ok sv Dn ?_
  unfold sTry at h
  cases hg : gb ρ with
  | none => rw [hg] at h; exact h
  | some o =>
    rw [hg] at h
    cases o with
    | ex x ρ' =>
      intro σ' Hi' H' sm ok' sv' cls d xa
      simp only at h
      cases hx : exm x.c with
      | none => rw [hx] at h; exact h.elim
      | some b =>
        rw [hx] at h
        have e1 := hm _ _ hx
        obtain ⟨dx, vs, rfl, _⟩ := id xa
        cases b with
        | false => exact ⟨false, e1, (fun z => nomatch z), fun _ => h σ' Hi' H' sm ok' sv' _ d xa⟩
        | true =>
          refine ⟨true, e1, fun _ a na => ?_, (fun z => nomatch z)⟩
          have ok2 := ok'.turn a
          have sv2 : Sv ⟨c.K, c.cl, Hi', c.H0, a, c.tb⟩ Hi' H' (σ'.set i (some (.ref a))) ((noErr ρ').set i .err) := Sv.setErr (c := ⟨c.K, c.cl, Hi', c.H0, a, c.tb⟩) (Sv.recx (a := c.ea) (Hq := c.Hq) sv') i
          refine hs a x _ d Hi' xa _ _ Hi' H' ok2 sv2 _ ?_
          have fin : ∀ {Kn : L2.St → Hp → Prop} {ρ2 : Rho}, Nx c Hi Kn (noErr (ρ2.set i .un)) → Nx ⟨c.K, c.cl, Hi', c.H0, a, c.tb⟩ Hi' (fun σ3 H3 => Kn (σ3.set i none) H3) ρ2 := fun {Kn ρ2} k σ3 Hi3 H3 s3 ok3 sv3 =>
            k _ Hi3 H3 (sm.trans s3) (ok'.back ok3) (Sv.recx (a := a) (Hq := Hi') (a' := c.ea) (Hq' := c.Hq) (sv3.setUn i none))
          cases hr : gs x ((noErr ρ').set i .err) with
          | none => rw [hr] at h; exact h.elim
          | some o2 =>
            rw [hr] at h
            cases o2 with
            | nx ρ2 => exact fin h
            | bk ρ2 => exact fin h
            | ct ρ2 => exact fin h
            | rt d2 => exact fun v Hi3 H3 s3 ok3 dv => h v Hi3 H3 (sm.trans s3) (ok'.back ok3) dv
            | rf xs => exact fun p us Hi3 H3 s3 ok3 e3 n3 n0 dv => h p us Hi3 H3 (sm.trans s3) (ok'.back ok3) e3 n3 n0 dv
            | ex y ρ2 => exact h.elim
    | _ => exact h
def eErr (i : Nat) (k : R D) : Rho → R D := fun ρ => match ρ[i]? with
  | some .err => k
  | _ => .bad
theorem Sv.err {Hi H : Hp} {σ : L2.St} {ρ : Rho} (e : Sv c Hi H σ ρ) {i : Nat} (h : ρ[i]? = some .err) : σ[i]? = some (some (.ref c.ea)) := by
  obtain ⟨o, h1, h2⟩ := e.find h
  rw [h1]
  congr
theorem lookup_zip {K : PySem.W.Frag} {cl : Nat → Addr} {Hi : Hp} {f : Str} {d : D} : ∀ {ns : List Str} {vs : List V} {xs : List D}, DvA K cl Hi vs xs → (ns.zip xs).lookup f = some d → ∃ v, (ns.zip vs).lookup f = some v ∧ Dv K cl Hi v d
  | [], _, _, _, e => by simp at e
  | n :: ns, _, [], _, e => by simp at e
  | n :: ns, _, x :: xs, h, e => by
    cases h with
    | cons h1 h2 =>
      simp only [List.zip_cons_cons, List.lookup_cons] at e ⊢
      split at e
      · cases e
        exact ⟨_, rfl, h1⟩
      · exact lookup_zip h2 e
theorem je_xf {W : Xd.WE} {a : Addr} {cls : Value} {d : Option Addr} {n : Nat} {f : Str} {i : Nat} {x : Xc} {Hi0 : Hp} (hx : XcAt c.K c.cl Hi0 x cls d) :
    JE ⟨c.K, c.cl, Hi0, c.H0, a, c.tb⟩ W (tXf a cls d (c.cl n) f (tVar i)) (eErr i (if x.c = n then ro ((x.ns.zip x.xs).lookup f) else .bad)) := fun σ ρ Hi H ok sv Q h => by
  unfold eErr at h
  split at h
  · rename_i he
    obtain ⟨hn, h⟩ := meet_if h
    obtain ⟨dx, vs, e1, e2, e3, e4, e5⟩ := hx
    have es := sv.err he
    refine ro_meet h fun z ez q => ?_
    obtain ⟨v, l1, dv⟩ := lookup_zip e5 ez
    refine ⟨_, es, rfl, by rw [e1, hn], dx, _, v, e2, ok.le _ _ (ok.q _ _ e3), l1, q v Hi H (Step.refl ok) (dv.up ok.q)⟩
  · exact h.elim
/-- arguments that are constants -/
def EvC (ts : TA) (vs : List V) : Prop := ∀ σ H (Q : List V → Hp → Prop), Q vs H → ts σ H Q
theorem evc_nil : EvC tNil [] := fun _ _ _ q => q
theorem evc_cons {ts : TA} {v : V} {vs : List V} (h : EvC ts vs) : EvC (tCons (tC v) ts) (v :: vs) := fun σ H Q q => h σ H _ q
theorem je_isX1 {W : Xd.WE} {a : Addr} {cls : Value} {d : Option Addr} {i : Nat} {x : Xc} {Hi0 : Hp} {y : V} {u : Value} {tab : Nat → Option Bool} (hx : XcAt c.K c.cl Hi0 x cls d) (hc : ClsV y u)
    (hk : ∀ n b, tab n = some b → PySem.W.kitOne c.K (.ref (c.cl n)) u = some b ∧ ExcC c.K (c.cl n)) :
    JE ⟨c.K, c.cl, Hi0, c.H0, a, c.tb⟩ W (tCB (XgIsa.rIsX c.K a cls d) (tCons (tVar i) (tCons (tC y) tNil))) (eErr i (ro ((tab x.c).map .bl))) := fun σ ρ Hi H ok sv Q h => by
  unfold eErr at h
  split at h
  · rename_i he
    obtain ⟨dx, vs, e1, e2, e3, e4, e5⟩ := hx
    have es := sv.err he
    refine ro_meet h fun z ez q => ?_
    obtain ⟨b, eb, rfl⟩ := Option.map_eq_some_iff.mp ez
    obtain ⟨k1, k2⟩ := hk _ _ eb
    exact ⟨_, es, c.cl x.c, dx, _, y, b, rfl, e1, k2, e2, ok.le _ _ (ok.q _ _ e3), .inl ⟨u, hc, k1⟩, q _ Hi H (Step.refl ok) (.bl b)⟩
  · exact h.elim
theorem je_isXT {W : Xd.WE} {a : Addr} {cls : Value} {d : Option Addr} {i : Nat} {x : Xc} {Hi0 : Hp} {ts : TA} {ys : List V} {us : List Value} {tab : Nat → Option Bool} (hx : XcAt c.K c.cl Hi0 x cls d) (ht : EvC ts ys) (hl : ys.length ≤ 1000) (hc : Paired ClsV ys us)
    (hk : ∀ n b, tab n = some b → PySem.W.kitAny c.K (.ref (c.cl n)) us = some b ∧ ExcC c.K (c.cl n)) :
    JE ⟨c.K, c.cl, Hi0, c.H0, a, c.tb⟩ W (tCB (XgIsa.rIsX c.K a cls d) (tCons (tVar i) (tCons (tTup ts) tNil))) (eErr i (ro ((tab x.c).map .bl))) := fun σ ρ Hi H ok sv Q h => by
  unfold eErr at h
  split at h
  · rename_i he
    obtain ⟨dx, vs, e1, e2, e3, e4, e5⟩ := hx
    have es := sv.err he
    refine ro_meet h fun z ez q => ?_
    obtain ⟨b, eb, rfl⟩ := Option.map_eq_some_iff.mp ez
    obtain ⟨k1, k2⟩ := hk _ _ eb
    refine ⟨_, es, ht _ _ _ ⟨lim_le (by omega), fun p np => ?_⟩⟩
    have s2 := Step.new (o := .tup ys) ok np
    refine ⟨c.cl x.c, dx, _, .ref p, b, rfl, e1, k2, e2, s2.keep (ok.le _ _ (ok.q _ _ e3)) (fun _ z => by cases z), .inr ⟨p, ys, us, rfl, upd_same, hc, k1⟩, q _ _ _ s2 (.bl b)⟩
  · exact h.elim
end
end Xd
namespace Xd
open PySem L2 Xg

/-! ### own lists looked at while they stay own -/
def vwS : Sl → Sl
  | .mo m => .val (moD m)
  | s => s
def vw (ρ : Rho) : Rho := ρ.map vwS
def bView (f : Rho → R Bool) : Rho → R Bool := fun ρ => noX (f (vw ρ))
def eView (f : Rho → R D) : Rho → R D := fun ρ => (noX (f (vw ρ))).bind fun d => if (sv d).isSome = true then .ok d else .bad
section
variable {c : Cc} {W : Xd.WE}
theorem view_upto {Hi H : Hp} {σ : L2.St} {ρ : Rho} (ok : Ok c Hi H) (sv : Sv c Hi H σ ρ) : ∀ n : Nat, n ≤ ρ.length → ∃ Hv, Same Hi Hv ∧ Ok c Hv H ∧ Sv c Hv H σ ((ρ.take n).map vwS ++ ρ.drop n)
  | 0, _ => ⟨Hi, Same.refl _, ok, by simpa using sv⟩
  | n + 1, h => by
    obtain ⟨Hv, sm, ok', sv'⟩ := view_upto ok sv n (by omega)
    have hn : n < ρ.length := by omega
    have e1 : ρ.drop n = ρ[n] :: ρ.drop (n + 1) := List.drop_eq_getElem_cons hn
    have e2 : ρ.take (n + 1) = ρ.take n ++ [ρ[n]] := by rw [List.take_succ_eq_append_getElem hn]
    have hl : ((ρ.take n).map vwS).length = n := by rw [List.length_map, List.length_take]; omega
    rw [e1] at sv'
    rw [e2, List.map_append, List.append_assoc]
    cases hs : ρ[n] with
    | mo xs =>
      rw [hs] at sv'
      have at' : ((ρ.take n).map vwS ++ Sl.mo xs :: ρ.drop (n + 1))[n]? = some (.mo xs) := by
        rw [List.getElem?_append_right (by rw [hl]; exact Nat.le_refl _), hl, Nat.sub_self]
        rfl
      obtain ⟨Hw, s2, ok2, sv2⟩ := sv'.freezeMo ok' at'
      refine ⟨Hw, sm.trans s2, ok2, ?_⟩
      rw [List.set_append, hl, if_neg (Nat.lt_irrefl _), Nat.sub_self] at sv2
      exact sv2
    | un => rw [hs] at sv'; exact ⟨Hv, sm, ok', sv'⟩
    | err => rw [hs] at sv'; exact ⟨Hv, sm, ok', sv'⟩
    | val d => rw [hs] at sv'; exact ⟨Hv, sm, ok', sv'⟩
theorem view_all {Hi H : Hp} {σ : L2.St} {ρ : Rho} (ok : Ok c Hi H) (sv : Sv c Hi H σ ρ) : ∃ Hv, Same Hi Hv ∧ Ok c Hv H ∧ Sv c Hv H σ (vw ρ) := by
  obtain ⟨Hv, h1, h2, h3⟩ := view_upto ok sv ρ.length (Nat.le_refl _)
  rw [List.take_length, List.drop_length, List.append_nil] at h3
  exact ⟨Hv, h1, h2, h3⟩
open Classical in
/-- what was frozen for a look alone is let go -/
noncomputable def letGo (Hi H Hv : Hp) : Hp := fun p => if Hi p = none ∧ H p ≠ none then none else Hv p
theorem letGo_step {Hi H Hv Hv' H' : Hp} (ok : Ok c Hi H) (sm : Same Hi Hv) (st : Step c Hv H Hv' H') : Step c Hi H (letGo Hi H Hv') H' := by
  have got : ∀ p o, letGo Hi H Hv' p = some o → Hv' p = some o ∧ ¬ (Hi p = none ∧ H p ≠ none) := fun p o e => by
    unfold letGo at e
    split at e
    · cases e
    · rename_i h; exact ⟨e, h⟩
  have hi : Same Hi (letGo Hi H Hv') := fun p o e => by
    unfold letGo
    rw [if_neg (fun h => by rw [e] at h; cases h.1)]
    exact st.hi _ _ (sm _ _ e)
  refine ⟨hi, st.h, fun p o e n => ?_, ok, fun p o e => st.ok.le _ _ (got p o e).1, ok.q.trans hi, st.ok.h, fun p o e n => ?_, st.ok.tab, fun p hp => ?_⟩
  · unfold letGo
    rw [if_pos ⟨n, by rw [e]; simp⟩]
  · cases k : Hi p with
    | some u => exact ok.new p u k n
    | none =>
      have nn : H p = none := by
        cases k2 : H p with
        | none => rfl
        | some u => exact absurd ⟨k, by rw [k2]; simp⟩ (got p o e).2
      exact ok.free0 nn
  · unfold letGo
    split
    · rfl
    · exact st.ok.tabI p hp
theorem jt_view {tt : TT} {f : Rho → R Bool} (h : JT c W0 tt f) : JT c W tt (bView f) := fun σ ρ Hi H ok sv Q q => by
  obtain ⟨Hv, sm, okv, svv⟩ := view_all ok sv
  refine h σ (vw ρ) Hv H okv svv Q ((noX_meet q).imp (fun b k Hi' H' s => k _ H' (letGo_step ok sm s)) fun x k => k.elim)
theorem je_view {te : TE} {f : Rho → R D} (h : JE c W0 te f) : JE c W te (eView f) := fun σ ρ Hi H ok sv Q q => by
  obtain ⟨Hv, sm, okv, svv⟩ := view_all ok sv
  refine h σ (vw ρ) Hv H okv svv Q ((noX_meet (Meet.bind q)).imp (fun d k v Hi' H' s dv => ?_) fun x k => k.elim)
  obtain ⟨hs, k⟩ := meet_if k
  obtain ⟨x, ex⟩ := Option.isSome_iff_exists.mp hs
  have z := dv.small ex
  subst z
  exact k _ _ H' (letGo_step ok sm s) (Dv.ofSmall ex)
end

/-! ### any(sign .. for sign in text) -/
def eAnyS (pb : Nat → Bool) (f : Rho → R D) : Rho → R D := fun ρ => (f ρ).bind fun d => match d with
  | .str a => .ok (.bl (a.cps.toList.any pb))
  | _ => .bad
theorem je_anyS {c : Cc} {W : Xd.WE} {te : TE} {f : Rho → R D} {pb : Nat → Bool} {P : Addr} (hP : P ∈ c.tb) (ha : JE c W te f) : JE c W (GxR.tAnyS P pb te) (eAnyS pb f) := fun σ ρ Hi H ok sv Q h => by
  refine ha σ ρ Hi H ok sv _ ((Meet.bind h).imp (fun d h v Hi1 H1 s1 d1 => ?_) fun x k => k)
  cases d with
  | str a =>
    cases d1
    refine ⟨a, rfl, s1.ok.tab P hP, fun H2 ⟨tg, same⟩ => ?_⟩
    have nP : ∀ b o, Hi1 b = some o → b ≠ P := fun b o e z => by
      rw [z, s1.ok.tabI P hP] at e
      cases e
    refine h _ Hi1 H2 (s1.trans ⟨Same.refl _, fun b o nb e => ?_, fun p o e n => n, s1.ok, fun b o e => ?_, s1.ok.q, s1.ok.h.trans fun b o nb e => ?_, s1.ok.new, fun q hq => ?_, s1.ok.tabI⟩) (.bl _)
    · rw [same b (fun z => nb (by rw [z]; exact hP))]
      exact e
    · rw [same b (nP b o e)]
      exact s1.ok.le _ _ e
    · rw [same b (fun z => nb (by rw [z]; exact hP))]
      exact e
    · by_cases hz : q = P
      · rw [hz]; exact tg
      · obtain ⟨ps, e, t⟩ := s1.ok.tab q hq
        exact ⟨ps, by rw [same q hz]; exact e, t⟩
  | _ => exact h.elim

/-! ### more operations -/
def oShl : D → D → Option D := oI2 (fun i j => decide (0 ≤ j ∧ j ≤ 1000000 ∧ i.natAbs < 2 ^ 64)) fun i j => .int (i * 2 ^ j.toNat)
def oShr : D → D → Option D := oI2 (fun _ j => decide (0 ≤ j)) fun i j => .int (i / 2 ^ j.toNat)
def oBand : D → D → Option D := oI2 (fun _ _ => true) fun i j => .int (Builtin.bitAnd i j)
def intList : List D → Option (List Int)
  | [] => some []
  | .int i :: r => match intList r with
    | some is => some (i :: is)
    | none => none
  | _ => none
def cSum (as : List D) : Option D := match as with
  | [.lst xs] => (intList xs).map fun ns => .int ns.sum
  | _ => none
def mUpper (a : D) (as : List D) : Option D := match a, as with
  | .str a, [] => if a.length ≤ 100000 then some (.str (Txt.upper a)) else none
  | _, _ => none
def eM0 (o : D → List D → Option D) (f : Rho → R D) : Rho → R D := fun ρ => (f ρ).bind fun a => match a with
  | .str _ => ro (o a [])
  | _ => .bad
def eFmt (f : Rho → R D) : Rho → R D := fun ρ => (f ρ).bind fun d => match d with
  | .str y => if y.length ≤ 100000 then .ok (.str y) else .bad
  | .int i => if i.natAbs < 2 ^ 62 then .ok (.str (toString i)) else .bad
  | _ => .bad
def eJoin : List (Rho → R D) → Str → Rho → R D
  | [], acc => fun _ => .ok (.str acc)
  | f :: fs, acc => fun ρ => (f ρ).bind fun d => match d with
    | .str y => if (acc ++ y).length ≤ 100000 then eJoin fs (acc ++ y) ρ else .bad
    | _ => .bad
section
variable {c : Cc} {W : Xd.WE} {te : TE} {f : Rho → R D}
theorem jo_shl : JO c (rI CPow fun i j => .int (i * 2 ^ j.toNat)) oShl := jo_I (fun i j h => by have h' : 0 ≤ j ∧ j ≤ 1000000 ∧ i.natAbs < 2 ^ 64 := of_decide_eq_true h; exact h') fun _ _ => rfl
theorem jo_shr : JO c (rI (fun _ j => 0 ≤ j) fun i j => .int (i / 2 ^ j.toNat)) oShr := jo_I (fun i j h => of_decide_eq_true h) fun _ _ => rfl
theorem jo_band : JO c (rI0 fun i j => .int (Builtin.bitAnd i j)) oBand := jo_I0 fun _ _ => rfl
theorem intList_ok {K : PySem.W.Frag} {cl : Nat → Addr} {Hi : Hp} : ∀ {xs : List D} {vs : List V} {ns : List Int}, DvA K cl Hi vs xs → intList xs = some ns → vs = ns.map V.int
  | [], _, _, h, e => by cases h; simp [intList] at e; subst e; rfl
  | d :: r, _, ns, h, e => by
    cases h with
    | cons h1 h2 =>
      cases d with
      | int s =>
        simp only [intList] at e
        split at e
        · rename_i ss e1
          cases e
          cases h1
          rw [intList_ok h2 e1]
          rfl
        · cases e
      | _ => simp [intList] at e
theorem jc_sum : JC c (rSum c.K) cSum := fun Hi H ok xs as d Q hx e q => by
  unfold cSum at e
  split at e
  · obtain ⟨ns, e1, rfl⟩ := Option.map_eq_some_iff.mp e
    obtain ⟨v, rfl, h⟩ := dva1 hx
    cases h with
    | lst h1 h2 =>
      have z := intList_ok h2 e1
      subst z
      exact ⟨_, ns, rfl, .inl (.inl (ok.le _ _ h1)), q.here ok (.int _)⟩
  · cases e
theorem je_m0 {r : V → List V → Hp → VK → Prop} {o : D → List D → Option D} (ho : JM c r o) (ha : JE c W te f) : JE c W (tM0 r te) (eM0 o f) := fun σ ρ Hi H ok sv Q h => by
  refine ha σ ρ Hi H ok sv _ ((Meet.bind h).imp (fun a h v Hi1 H1 s1 d1 => ?_) fun x k => k)
  cases a with
  | str s =>
    cases d1
    exact ⟨⟨s, rfl⟩, ro_meet h fun d e q => ho Hi1 H1 s1.ok _ _ _ _ d Q (.str s) .nil e (RetD.to q s1)⟩
  | _ => exact h.elim
theorem jm_upper : JM c (fun x xs H Q => ∃ a, x = .str a ∧ xs = [] ∧ a.length ≤ 5592405 ∧ Q (.str (Txt.upper a)) H) mUpper := fun Hi H ok x xs a as d Q hx hs e q => by
  unfold mUpper at e
  split at e
  · obtain ⟨h1, rfl⟩ := if_some e
    cases hx
    cases hs
    exact ⟨_, rfl, rfl, Nat.le_trans h1 (by decide), q.here ok (.str _)⟩
  · cases e
theorem je_fmt (ha : JE c W te f) : JE c W (tFmt te) (eFmt f) := fun σ ρ Hi H ok sv Q h => by
  refine ha σ ρ Hi H ok sv _ ((Meet.bind h).imp (fun a h v Hi1 H1 s1 d1 => ?_) fun x k => k)
  cases a with
  | str s =>
    cases d1
    obtain ⟨hl, h⟩ := meet_if h
    exact .inl ⟨s, rfl, lim_le hl, h _ _ _ s1 (.str _)⟩
  | int i =>
    cases d1
    obtain ⟨hl, h⟩ := meet_if h
    refine .inr ⟨i, rfl, ?_, h _ _ _ s1 (.str _)⟩
    by_cases hz : i.natAbs = 0
    · rw [hz]; decide
    · exact Nat.lt_trans ((Nat.log2_lt hz).mpr hl) (by decide)
  | _ => exact h.elim
inductive JJ (c : Cc) (W : Xd.WE) : List TE → List (Rho → R D) → Prop where
  | nil : JJ c W [] []
  | cons {t : TE} {ts : List TE} {f : Rho → R D} {fs : List (Rho → R D)} (h : JE c W t f) (r : JJ c W ts fs) : JJ c W (t :: ts) (f :: fs)
theorem je_join' {ts : List TE} {fs : List (Rho → R D)} (h : JJ c W ts fs) : ∀ acc : Str, JE c W (fun σ H Q => tJs ts acc σ H fun out H1 => Q (.str out) H1) (eJoin fs acc) := by
  induction h with
  | nil => exact fun acc σ ρ Hi H ok sv Q q => q _ Hi H (Step.refl ok) (.str acc)
  | @cons t ts f fs h r ih =>
    intro acc σ ρ Hi H ok sv Q q
    refine h σ ρ Hi H ok sv _ ((Meet.bind q).imp (fun a q v Hi1 H1 s1 d1 => ?_) fun x k => k)
    cases a with
    | str y =>
      cases d1
      obtain ⟨hl, q⟩ := meet_if q
      refine ⟨y, rfl, lim_le hl, ih (acc ++ y) σ ρ Hi1 H1 s1.ok (sv.step s1) Q (meet_step s1 q fun d q v Hi2 H2 s2 => q v Hi2 H2 (s1.trans s2))⟩
    | _ => exact q.elim
theorem je_join {ts : List TE} {fs : List (Rho → R D)} (h : JJ c W ts fs) : JE c W (fun σ H Q => tJs ts Str.empty σ H fun out H1 => Q (.str out) H1) (eJoin fs Str.empty) := je_join' h _
/-- the field of a frozen instance -/
def eFld (n : Nat) (g : Str) (f : Rho → R D) : Rho → R D := fun ρ => (f ρ).bind fun d => match d with
  | .ins m ns xs => if m = n then ro ((ns.zip xs).lookup g) else .bad
  | _ => .bad
theorem je_fld {n : Nat} {g : Str} (hc : Cls c.K (c.cl n)) (hn : NoAttr c.K (c.cl n) g) (ha : JE c W te f) : JE c W (tFld c.K te g) (eFld n g f) := fun σ ρ Hi H ok sv Q h => by
  refine ha σ ρ Hi H ok sv _ ((Meet.bind h).imp (fun a h v Hi1 H1 s1 d1 => ?_) fun x k => k)
  cases a with
  | ins m ns xs =>
    have h : Meet (if m = n then ro ((ns.zip xs).lookup g) else .bad) _ _ := h
    obtain ⟨hm, hh⟩ := meet_if h
    clear h
    subst hm
    cases d1 with
    | ins h1 h2 h3 =>
      refine ro_meet hh fun d e q => ?_
      obtain ⟨u, l1, du⟩ := lookup_zip h3 e
      exact ⟨_, _, _, _, u, rfl, s1.ok.le _ _ h1, hc, hn, l1, q u Hi1 H1 s1 du⟩
  | _ => exact h.elim
end
section
variable {c : Cc} {W W' : Xd.WE}
theorem js_w {ts : TS} {g : MS} (h : JS c W' ts g) (hw : ∀ x σ Hi H, W x σ Hi H → W' x σ Hi H) : JS c W ts g := fun σ ρ Hi H ok sv Dn a => by
  refine h σ ρ Hi H ok sv Dn ?_
  cases e : g ρ with
  | none => rw [e] at a; exact a
  | some o =>
    rw [e] at a
    cases o with
    | ex x ρ' => exact fun σ' Hi' H' s ok' sv' => hw _ _ _ _ (a σ' Hi' H' s ok' sv')
    | _ => exact a
/-- a try in a def that raises nothing -/
theorem js_try0 {tb : WX → TS} {ts : Addr → Value → Option Addr → TS} {gb : MS} {gs : Xc → MS} {exm : Nat → Option Bool} {cv : Value} {i : Nat} (hb : ∀ V : WX, JS c (wX c.K c.cl V) (tb V) gb)
    (hs : ∀ (a : Addr) (x : Xc) (cls : Value) (d : Option Addr) (Hi0 : Hp), XcAt c.K c.cl Hi0 x cls d → JS ⟨c.K, c.cl, Hi0, c.H0, a, c.tb⟩ W0 (ts a cls d) (gs x))
    (hm : ∀ n b, exm n = some b → PySem.W.exmOne c.K (.ref (c.cl n)) cv = some b) : JS c W0 (fun Dn σ H => tb (wAs c.K cv i ts (fun _ _ _ _ => False) Dn) Dn σ H) (sTry exm i gb gs) :=
  js_w (js_try hb hs hm) fun _ _ _ _ h => h.elim
end
end Xd
/-! a for whose header gives out a token: the body may replace in texts -/
namespace Xd
open PySem L2 Xg PyProof.Rows CwR
theorem thnK {α : Type} {M : Model} {A : Around} {t : Sem α} {Q Q' : α → Shared → Prop} {E : Value → Shared → Prop} {s : Shared} {n : Nat} (hn : n ≤ s.toks) (h : wpAny M A t Q E s) (k : ∀ a s', n ≤ s'.toks → Q a s' → Q' a s') : wpAny M A t Q' E s :=
  wpAny_mono (wpAny_toks_of hn h) (fun a s' q => k a s' q.1 q.2) fun _ _ z => z.2
/-- evaluating gives out a token -/
def PEK (X : Cx) (e : Expr) (t : TE) : Prop := ∀ pins s σ H Q, Inv X pins σ H s → t σ H Q → wpAny (model X.prog X.w) X.A (eval e X.env) (fun v s' => 1 ≤ s'.toks ∧ EP X pins σ Q v s') X.xe s
def PAK (X : Cx) (es : List Expr) (t : TA) : Prop := ∀ pos pins s σ H Q, Inv X pins σ H s → t σ H Q → wpAny (model X.prog X.w) X.A (spliced (backTo pos (starEach es X.env))) (fun v s' => 1 ≤ s'.toks ∧ AP X pins σ Q v s') X.xe s
def PIK (X : Cx) (tg iter : Expr) (wi : TI) : Prop := ∀ pins s σ H R, Inv X pins σ H s → wi σ H R →
  wpAny (model X.prog X.w) X.A (eval iter X.env) (fun v s' => 1 ≤ s'.toks ∧ wpAny (model X.prog X.w) X.A (pyIter v) (PIE X pins σ tg R) X.xe s') X.xe s
section
variable {X : Cx} {e : Expr} {es : List Expr} {te : TE} {ta : TA} {pos : Pos}
theorem pek_str {c : Str} {j : Nat} : PEK X (.Constant (.str c) j pos) (tC (.str c)) := fun pins s σ H Q I h =>
  Calls.Constant_str ⟨Nat.le_add_left 1 s.toks, .str c, H, I.tok (s.toks + 1), ⟨s.toks, rfl⟩, h⟩
theorem pak_head (h1 : PEK X e te) (h2 : PA X es ta) (hs : starEach (e :: es) X.env = (false, eval e X.env) :: starEach es X.env := by rfl) : PAK X (e :: es) (tCons te ta) := fun at' pins s σ H Q I h => by
  rw [hs]
  exact Calls.spliced_cons (thn (h1 pins s σ H _ I h) fun v s' ⟨k, x, H', I', r, q⟩ => thnK k (h2.run at' pins s' σ H' _ I' q) fun us s2 k2 ⟨xs, H2, I2, r2, q2⟩ => ⟨k2, _, _, I2, .cons r r2, q2⟩)
theorem pek_tup {x1} (h : PAK X es ta) : PEK X (.Tuple es x1 pos) (tTup ta) := fun pins s σ H Q I hq => by
  refine wpAny_Tuple_spliced (thn (h pos pins s σ H _ I hq) fun us s' ⟨k, xs, H', I', r, z, q⟩ => ⟨r.length ▸ z, ?_⟩)
  have fresh := I'.hok.fresh (Nat.le_refl s'.heap.objs.size)
  exact ⟨k, .ref _, upd H' s'.heap.objs.size (.tup xs), I'.laid (t' := s'.toks) (fun _ _ g => Heap.get?_push_of_some _ g) (Nat.le_refl _) (show ObjOk _ _ _ _ _ (.tup xs) from ⟨z, us, r, ⟨_, Heap.get?_push_size _ rfl, rfl, _, rfl⟩⟩), rfl, q _ fresh⟩
theorem pik_tup {tg : Expr} (h : PEK X e te) : PIK X tg e (iTup X.K te) := fun pins s σ H R I hq => by
  refine thn (h pins s σ H _ I hq) fun v s' ⟨k, x, H', I', r, a, ex, ⟨xs, hx⟩, q⟩ => ⟨k, ?_⟩
  cases ex
  cases r
  obtain ⟨vs, _, isT, _⟩ := I'.tuple hx
  have fresh := I'.hok.fresh (Nat.le_refl s'.heap.objs.size)
  refine wpAny_pyIter_tuple (show s'.heap.IsTuple a vs.toArray from isT) ⟨_, [s'.heap.objs.size], _, _, H', rfl, I'.kept (t' := s'.toks) (fun _ _ g => Heap.get?_push_of_some _ g), turn_tuple a _, ⟨_, Heap.get?_push_size _ rfl, rfl, rfl⟩, fun b hb => ?_, q⟩
  rw [List.mem_singleton.mp hb]
  exact I'.fpOk (Nat.le_refl _) fresh
/-- the walk: every turn starts with a token out -/
theorem ps_forK {tg : Expr} {body : List Stmt} {wi : TI} {g : TG} {tb : TS} (own : PassesOwn (model X.prog X.w) X.A X.env X.xe) (calm : X.calm = true) (hi : PIK X tg e wi) (hg : PG X tg g) (hb : PSsT X body tb)
    (fold : ∀ x, foldedSetIterable e X.env x = pure x := by intro _; rfl) : PS X (.For tg e body [] pos) (tFor wi g tb) := ⟨fun pins s σ H D I h => by
  refine wpAny_For (thn (hi pins s σ H _ I h) fun v sa ⟨ka, ha⟩ => thnK ka ha fun itv sb kb w => ?_) fold
  obtain ⟨p, fp, at', J, Hb, rfl, Ib, T, atb, frb, Wk, ⟨m, w0⟩, turn⟩ := w
  let Hold : Nat → Shared → Prop := fun n z => 1 ≤ z.toks ∧ ∃ k ρ L, Inv X pins ρ L z ∧ at' k z.heap ∧ (∀ c ∈ fp, L c = none) ∧ Wk k n ρ L
  have still : ∀ {L : Hp}, (∀ c ∈ fp, L c = none) → ∀ c ∈ fp, FpOk X pins L c := fun free c hc => ⟨free c hc, (frb c hc).2⟩
  refine codeAny_forLoop_any Hold (fun n z hz => ?_) m ⟨kb, 0, σ, Hb, Ib, atb, fun c hc => (frb c hc).1, w0⟩
  obtain ⟨kz, k, ρ, L, Iz, atz, frz, wz⟩ := hz
  rcases turn k n ρ L wz with ⟨stop, q⟩ | ⟨go, Nx, less, step⟩
  · exact wpAny_passesOwn own (thn (T.done X rfl rfl rfl calm k pins z ρ L X.xe Iz (still frz) atz stop) fun r z1 ⟨er, I1⟩ => er ▸ wpAny_execs_nil ⟨ρ, L, I1, q⟩)
  refine wpAny_passesOwn own (thnK kz (T.item X rfl rfl rfl calm k pins z ρ L X.xe Iz (still frz) atz go) fun r z1 k1 ⟨u, er, h1⟩ => ?_)
  subst er
  refine wpAny_passesOwn own (thnK k1 h1 fun _ z2 k2 ⟨x, M2, I2, r2, y2, at2, fr2⟩ => ?_)
  have P2 := I2.pinned (still fr2) (T.obj _ _ at2)
  refine wpAny_passesOwn own (thnK k2 (hg.run _ z2 ρ M2 x u _ P2 r2 (step x M2 y2)) fun _ z3 k3 ⟨ρ3, L3, I3, q3⟩ => ?_)
  refine wpAny_passesOwn own (thnK k3 (hb _ z3 ρ3 L3 _ k3 I3 q3) fun f z4 k4 q4 => ?_)
  have next : ∀ {ρ4 : L2.St} {L4 : Hp}, Inv X (pins ++ pinsAt fp z2.heap) ρ4 L4 z4 → Nx ρ4 L4 → ∃ n', n' < n ∧ Hold n' z4 := fun {ρ4 L4} I4 nx => by
    obtain ⟨n', lt, w4⟩ := less ρ4 L4 nx
    have pin : ∀ {c : Addr} {o : Obj}, c ∈ fp → z2.heap.get? c = some o → z4.heap.get? c = some o ∧ L4 c = none := fun {c o} hc eo => by
      obtain ⟨h1, h2, _⟩ := I4.pin (c, o) (List.mem_append_right _ (List.mem_append_right _ (mem_pinsAt hc eo)))
      exact ⟨h1, h2⟩
    refine ⟨n', lt, k4, k + 1, ρ4, L4, I4.unpinned, T.keep _ _ _ at2 fun c hc o eo => (pin hc eo).1, fun c hc => ?_, w4⟩
    obtain ⟨o, eo, _⟩ := T.obj _ _ at2 c hc
    exact (pin hc eo).2
  cases f with
  | next => exact let ⟨_, _, I4, nx⟩ := q4; next I4 nx
  | cont => exact let ⟨_, _, I4, nx⟩ := q4; next I4 nx
  | brk => exact let ⟨ρ4, L4, I4, d⟩ := q4; ⟨ρ4, L4, I4.unpinned, d⟩
  | ret v => exact let ⟨x4, ρ4, L4, I4, r4, d⟩ := q4; ⟨x4, ρ4, L4, I4.unpinned, r4, d⟩⟩
theorem pik_X {tg : Expr} (h : PEK X e te) : PIK X tg e (tiX X.K te) := fun pins s σ H R I hq => by
  refine thn (h pins s σ H _ I hq) fun v s' ⟨k, x, H', I', r, q⟩ => ⟨k, ?_⟩
  rcases q with ⟨a, ex, ⟨xs, hx⟩, q⟩ | ⟨a, ex, ⟨xs, hx⟩, q⟩ | ⟨z, ex, q⟩
  · cases ex
    cases r
    obtain ⟨vs, _, isL, _⟩ := I'.list hx
    exact wpAny_pyIter_list isL.isList (pi_one (tk := s'.toks) I' _ (turn_list a _) ⟨_, Heap.get?_push_size _ rfl, rfl, rfl⟩ q)
  · cases ex
    cases r
    obtain ⟨vs, _, isT, _⟩ := I'.tuple hx
    exact wpAny_pyIter_tuple (show s'.heap.IsTuple a vs.toArray from isT) (pi_one (tk := s'.toks) I' _ (turn_tuple a _) ⟨_, Heap.get?_push_size _ rfl, rfl, rfl⟩ q)
  · cases ex
    obtain ⟨w, rfl⟩ := r
    cases small : z.cps.all (· < 128)
    · exact wpAny_pyIter_wide small (pi_one (tk := s'.toks) I' _ (turn_str _ z w "str_iterator" (.inr rfl)) ⟨_, Heap.get?_push_size _ rfl, rfl, rfl⟩ q)
    · exact wpAny_pyIter_ascii small (pi_one (tk := s'.toks) I' _ (turn_str _ z w "str_ascii_iterator" (.inl rfl)) ⟨_, Heap.get?_push_size _ rfl, rfl, rfl⟩ q)
theorem pst_set {i : Nat} {x : Str} {at' : Pos} (nd : X.N.Nodup) (hi : X.N[i]? = some x) (hx : Loc X.env.scope x) (he : PET X e te) (hs : swapsWith e (some (.Name x at')) pos.line X.env = pure false := by rfl)
    (hf : X.fn x = true ∨ X.env.scope.names.lookup x = some .local := by first | exact .inl rfl | exact .inr rfl | assumption) : PST X (.Assign [.Name x at'] e pos) (tAsg te (gName i)) := fun pins s σ H D k I h =>
  wpAny_Assign_Name (thn (he pins s σ H _ k I h) fun v s' ⟨y, H', I', r, q⟩ => store_ok I' nd hi hx r (fun s2 I2 => ⟨_, H', I2, q⟩) hf) hs
end

/-! ### written tuples of texts, told by where they stand -/
def KT (K : PySem.W.Frag) (tb : Addr → Option (List Str)) : Prop := ∀ a L, tb a = some L → strsB K a L = true ∧ ∃ o, K.lookup a = some o ∧ o.cls = .type "tuple" ∧ o.dict = none
def kOf (tb : Addr → Option (List Str)) : D → Option (List Str)
  | .opq (.ref a) => tb a
  | _ => none
theorem kOf_dv {K : PySem.W.Frag} {cl : Nat → Addr} {Hi : Hp} {tb : Addr → Option (List Str)} {v : V} {d : D} {L : List Str} (h : Dv K cl Hi v d) (e : kOf tb d = some L) : ∃ a, v = .ref a ∧ tb a = some L := by
  unfold kOf at e
  split at e
  · cases h
    exact ⟨_, rfl, e⟩
  · cases e
abbrev rIdxT (K : PySem.W.Frag) : V → List V → Hp → VK → Prop := fun x xs H Q => ∃ p, ∃ ys : List Str, ∃ z j, x = .ref p ∧ xs = [.str z] ∧ SqT K H p (ys.map V.str) ∧ ys[j]? = some z ∧ (∀ m, m < j → ys[m]? ≠ some z) ∧ Q (.int (j : Nat)) H
/-- the place of a name in a list of names -/
def oIdx (L : List Str) : D → Option D
  | .str z => (L.findIdx? fun y => y == z).map fun j => .int (j : Nat)
  | _ => none
def oInK (tb : Addr → Option (List Str)) (a b : D) : Option D := match a with
  | .str z => (kOf tb b).map fun L => .bl (decide (z ∈ L))
  | _ => none
def eIdxO (tb : Addr → Option (List Str)) (f g : Rho → R D) : Rho → R D := fun ρ => (f ρ).bind fun a => (ro (kOf tb a)).bind fun L => (g ρ).bind fun b => ro (oIdx L b)
def cLenK (tb : Addr → Option (List Str)) (as : List D) : Option D := match as with
  | [d] => (kOf tb d).map fun L => .int (L.length : Nat)
  | _ => none
def oRepl (y z : Str) : D → Option D
  | .str x => if x.length + (x.length + 1) * z.length ≤ 16777216 then some (.str (Txt.replace x y z)) else none
  | _ => none
section
variable {c : Cc} {W : Xd.WE} {tb : Addr → Option (List Str)} {te ta : TE} {f g : Rho → R D}
theorem inV_strs (z : Str) (zs : List Str) : inV (.str z) (zs.map V.str) = decide (z ∈ zs) := by
  rw [Bool.eq_iff_iff, decide_eq_true_eq]
  refine List.any_eq_true.trans ⟨fun ⟨v, hv, e⟩ => ?_, fun h => ⟨.str z, List.mem_map.mpr ⟨z, h, rfl⟩, by simp [eqV]⟩⟩
  obtain ⟨y, hy, rfl⟩ := List.mem_map.mp hv
  have k : y = z := by simpa [eqV] using e
  rw [← k]
  exact hy
theorem flat_texts (zs : List Str) : (zs.map V.str).all flatV = true := List.all_eq_true.mpr fun v hv => by
  obtain ⟨y, _, rfl⟩ := List.mem_map.mp hv
  rfl
theorem jo_inK (ht : KT c.K tb) : JO c (rInX c.K) (oInK tb) := fun Hi H ok x y a b d Q hx hy e q => by
  unfold oInK at e
  split at e
  · obtain ⟨L, e1, rfl⟩ := Option.map_eq_some_iff.mp e
    obtain ⟨p, rfl, e2⟩ := kOf_dv hy e1
    cases hx
    refine .inl ⟨p, _, rfl, .inr (strsB_sq (ht p L e2).1 _), rfl, flat_texts L, ?_⟩
    show Q (.bl (inV _ _)) H
    rw [inV_strs]
    exact q _ _ _ (Step.refl ok) (.bl _)
  · cases e
theorem je_idxO (ht : KT c.K tb) (h1 : JE c W ta f) (h2 : JE c W te g) : JE c W (tBM c.K "tuple" (rIdxT c.K) ta (tCons te tNil)) (eIdxO tb f g) := fun σ ρ Hi H ok sv Q h => by
  refine h1 σ ρ Hi H ok sv _ (h.bind.imp (fun a h v Hi1 H1 s1 d1 => ?_) fun x k => k)
  refine ro_meet h.bind fun L eL h => ?_
  obtain ⟨p, rfl, e2⟩ := kOf_dv d1 eL
  obtain ⟨hs, hk⟩ := ht p L e2
  refine ⟨.inr (.inl ⟨rfl, hk⟩), h2 σ ρ Hi1 H1 s1.ok (sv.step s1) _ (meet_step s1 (Meet.bind h) fun b h v2 Hi2 H2 s2 d2 => ?_)⟩
  refine ro_meet h fun d e q => ?_
  unfold oIdx at e
  split at e
  · rename_i z
    obtain ⟨j, hj, rfl⟩ := Option.map_eq_some_iff.mp e
    cases d2
    obtain ⟨lt, e1, e2⟩ := List.findIdx?_eq_some_iff_getElem.mp hj
    refine ⟨p, L, z, j, rfl, rfl, strsB_sq hs _, ?_, fun m hm k => ?_, q _ _ _ (s1.trans s2) (.int _)⟩
    · rw [List.getElem?_eq_getElem lt, eq_of_beq e1]
    · obtain ⟨hl, ek⟩ := List.getElem?_eq_some_iff.mp k
      have := e2 m hm
      rw [ek] at this
      simp at this
  · cases e
theorem jc_lenK (ht : KT c.K tb) : JC c (rLenX c.K) (cLenK tb) := fun Hi H ok xs as d Q hx e q => by
  unfold cLenK at e
  split at e
  · obtain ⟨L, e1, rfl⟩ := Option.map_eq_some_iff.mp e
    obtain ⟨v, rfl, dv⟩ := dva1 hx
    obtain ⟨p, rfl, e2⟩ := kOf_dv dv e1
    refine .inl ⟨p, _, rfl, .inr (strsB_sq (ht p L e2).1 _), ?_⟩
    rw [List.length_map]
    exact q _ _ _ (Step.refl ok) (.int _)
  · cases e
theorem je_repl {y z : Str} (h1 : JE c W ta f) : JE c W (tReplC ta y z) (e1 (oRepl y z) f) := fun σ ρ Hi H ok sv Q h => by
  refine h1 σ ρ Hi H ok sv _ (h.bind.imp (fun a h v Hi1 H1 s1 d1 => ?_) fun x k => k)
  refine ro_meet h fun d e q => ?_
  unfold oRepl at e
  split at e
  · obtain ⟨hl, rfl⟩ := if_some e
    cases d1
    exact ⟨_, rfl, hl, q _ _ _ s1 (.str _)⟩
  · cases e
end
end Xd
/-! how mirrors are run: small steps, in term style -/
namespace Xd
open PySem L2 Xg CwR
def strsOf : List D → Option (List Str)
  | [] => some []
  | d :: r => match d with
    | .str s => (strsOf r).map fun l => s :: l
    | _ => none
theorem strsOf_map : ∀ zs : List Str, strsOf (zs.map D.str) = some zs
  | [] => rfl
  | z :: zs => by show (strsOf (zs.map D.str)).map _ = _; rw [strsOf_map zs]; rfl
theorem strsOf_some : ∀ {xs : List D} {zs : List Str}, strsOf xs = some zs → xs = zs.map D.str
  | [], zs, h => by cases h; rfl
  | d :: r, zs, h => by
    unfold strsOf at h
    split at h
    · obtain ⟨l, e, rfl⟩ := Option.map_eq_some_iff.mp h
      rw [strsOf_some e]
      rfl
    · cases h
theorem lcR_map {g : MG} {t : Rho → R Bool} {e : Rho → R D} {ρ : Rho} (p : D → Bool) (v : D → D) : ∀ (ds : List D), (∀ d ∈ ds, ∃ ρ1, g d ρ = some ρ1 ∧ t ρ1 = .ok (p d) ∧ (p d = true → e ρ1 = .ok (v d))) → lcR g t e ρ ds = .ok ((ds.filter p).map v)
  | [], _ => rfl
  | d :: ds, h => by
    obtain ⟨ρ1, h1, h2, h3⟩ := h d List.mem_cons_self
    have ih := lcR_map p v ds fun d hd => h d (List.mem_cons_of_mem _ hd)
    unfold lcR
    rw [h1]
    simp only [h2, R.bind_ok]
    by_cases c : p d = true
    · rw [if_pos c, h3 c, ih, List.filter_cons, if_pos c]
      rfl
    · rw [if_neg c, ih, List.filter_cons, if_neg c]
theorem forR_ind {g : MG} {b : MS} (I : List D → Rho → Prop) (step : ∀ d ds ρ, I (d :: ds) ρ → ∃ ρ1 ρ2, g d ρ = some ρ1 ∧ b ρ1 = some (.nx ρ2) ∧ I ds ρ2) : ∀ (ds : List D) (ρ : Rho), I ds ρ → ∃ ρ', forR g b ds ρ = some (.nx ρ') ∧ I [] ρ'
  | [], ρ, h => ⟨ρ, rfl, h⟩
  | d :: ds, ρ, h => by
    obtain ⟨ρ1, ρ2, h1, h2, h3⟩ := step d ds ρ h
    obtain ⟨ρ', h4, h5⟩ := forR_ind I step ds ρ2 h3
    refine ⟨ρ', ?_, h5⟩
    unfold forR
    rw [h1]
    simp only [h2]
    exact h4
theorem oEq_int (i j : Int) : oEq (.int i) (.int j) = some (.bl (decide (i = j))) := by
  unfold oEq eqB
  simp [sv, scal]
theorem oNe_int (i j : Int) : oNe (.int i) (.int j) = some (.bl (!decide (i = j))) := by
  unfold oNe eqB
  simp [sv, scal]
theorem oNe_str (i j : Str) : oNe (.str i) (.str j) = some (.bl (!decide (i = j))) := by
  unfold oNe eqB
  simp [sv, scal]
theorem svs_strs : ∀ zs : List Str, svs (zs.map D.str) = some (zs.map V.str)
  | [] => rfl
  | z :: zs => by
    show (match sv (.str z), svs (zs.map D.str) with | some x, some xs => some (x :: xs) | _, _ => none) = _
    rw [svs_strs zs]
    rfl
theorem oIn_strs (z : Str) (zs : List Str) : oIn (.str z) (.lst (zs.map D.str)) = some (.bl (decide (z ∈ zs))) := by
  show ((svs (zs.map D.str)).map fun vs => inV (.str z) vs).map _ = _
  rw [svs_strs]
  show some (D.bl (inV _ _)) = _
  rw [inV_strs]
theorem oNotIn_strs (z : Str) (zs : List Str) : oNotIn (.str z) (.lst (zs.map D.str)) = some (.bl (!decide (z ∈ zs))) := by
  show ((svs (zs.map D.str)).map fun vs => inV (.str z) vs).map _ = _
  rw [svs_strs]
  show some (D.bl (!inV _ _)) = _
  rw [inV_strs]
theorem oMul_2 (p : Int) : oMul (.int 2) (.int p) = some (.int (2 * p)) := by
  show (if (-(2 ^ 64) < (2 : Int) ∧ (2 : Int) < 2 ^ 64) ∨ (-(2 ^ 64) < p ∧ p < 2 ^ 64) then some (D.int (2 * p)) else none) = _
  rw [if_pos (.inl (by decide))]
theorem oMul_16 (p : Int) : oMul (.int 16) (.int p) = some (.int (16 * p)) := by
  show (if (-(2 ^ 64) < (16 : Int) ∧ (16 : Int) < 2 ^ 64) ∨ (-(2 ^ 64) < p ∧ p < 2 ^ 64) then some (D.int (16 * p)) else none) = _
  rw [if_pos (.inl (by decide))]
theorem oAdd_int (i j : Int) : oAdd (.int i) (.int j) = some (.int (i + j)) := rfl
theorem oSub_int (i j : Int) : oSub (.int i) (.int j) = some (.int (i - j)) := rfl
theorem oMod_int {i j : Int} (h : 0 < j) : oMod (.int i) (.int j) = some (.int (i % j)) := by
  show (if decide (0 < j) = true then some (D.int (i % j)) else none) = _
  rw [if_pos (decide_eq_true h)]
theorem oFdiv_int {i j : Int} (h : 0 < j ∧ j < 1073741824) : oFdiv (.int i) (.int j) = some (.int (i / j)) := by
  show (if decide (0 < j ∧ j < 1073741824) = true then some (D.int (i / j)) else none) = _
  rw [if_pos (decide_eq_true h)]
theorem oMod_2 (i : Int) : oMod (.int i) (.int 2) = some (.int (i % 2)) := oMod_int (by decide)
theorem oMod_3 (i : Int) : oMod (.int i) (.int 3) = some (.int (i % 3)) := oMod_int (by decide)
theorem oFdiv_2 (i : Int) : oFdiv (.int i) (.int 2) = some (.int (i / 2)) := oFdiv_int (by decide)
theorem cInt_int (i : Int) : cInt [.int i] = some (.int i) := rfl
theorem asB_bl (b : Bool) : asB (.bl b) = .ok b := rfl
theorem noX_ok {α : Type} (a : α) : noX (R.ok a) = .ok a := rfl
theorem seq_nx {a b : MS} {ρ ρ' : Rho} (h : a ρ = some (.nx ρ')) : sSeq a b ρ = b ρ' := by
  unfold sSeq
  rw [h]
theorem set_ok {i : Nat} {f : Rho → R D} {ρ : Rho} {d : D} (h : f ρ = .ok d) : sSet i f ρ = some (.nx (ρ.set i (.val d))) := by
  unfold sSet
  rw [h]
  rfl
theorem setL_ok {i : Nat} {f : Rho → R (List D)} {ρ : Rho} {d : List D} (h : f ρ = .ok d) : sSetL i f ρ = some (.nx (ρ.set i (.own d))) := by
  unfold sSetL
  rw [h]
  rfl
theorem ret_ok {f : Rho → R D} {ρ : Rho} {d : D} (h : f ρ = .ok d) : sRet f ρ = some (.rt d) := by
  unfold sRet
  rw [h]
  rfl
theorem if_yes {t : Rho → R Bool} {a b : MS} {ρ : Rho} (h : t ρ = .ok true) : sIf t a b ρ = a ρ := by
  unfold sIf
  rw [h]
  rfl
theorem if_no {t : Rho → R Bool} {a b : MS} {ρ : Rho} (h : t ρ = .ok false) : sIf t a b ρ = b ρ := by
  unfold sIf
  rw [h]
  rfl
theorem for_ok {f : Rho → R (List D)} {g : MG} {b : MS} {ρ : Rho} {ds : List D} (h : f ρ = .ok ds) : sFor f g b ρ = forR g b ds ρ := by
  unfold sFor
  rw [h]
  rfl
theorem app_ok {i : Nat} {f : Rho → R D} {ρ : Rho} {d : D} {xs : List D} (h : ρ[i]? = some (.own xs)) (h2 : f ρ = .ok d) (h3 : xs.length < 100000) : sApp i f ρ = some (.nx (ρ.set i (.own (xs ++ [d])))) := by
  unfold sApp
  rw [h]
  show lift (f ρ) ρ _ = _
  rw [h2, lift_ok, if_pos h3]
theorem runD_rt {n k : Nat} {g : MS} {ds : List D} {d : D} (h : ds.length = k) (h2 : g (rho0 n ds) = some (.rt d)) : runD n k g ds = .ok d := by
  unfold runD
  rw [if_pos h, h2]
  rfl
theorem runL_rf {n k : Nat} {g : MS} {ds : List D} {d : List D} (h : ds.length = k) (h2 : g (rho0 n ds) = some (.rf d)) : runL n k g ds = .ok d := by
  unfold runL
  rw [if_pos h, h2]
  rfl
theorem lc_ok {f : Rho → R (List D)} {g : MG} {t : Rho → R Bool} {e : Rho → R D} {vs : List Nat} {ρ : Rho} {ds : List D} (p : D → Bool) (v : D → D) (h : f ρ = .ok ds) (hl : ds.length ≤ 100000)
    (k : ∀ d ∈ ds, ∃ ρ1, g d (wipeR ρ vs) = some ρ1 ∧ t ρ1 = .ok (p d) ∧ (p d = true → e ρ1 = .ok (v d))) : lLc f g t e vs ρ = .ok ((ds.filter p).map v) := by
  unfold lLc
  rw [h, R.bind_ok, if_pos hl, lcR_map p v ds k]
  rfl
theorem fz_ok {f : Rho → R (List D)} {ρ : Rho} {xs : List D} (h : f ρ = .ok xs) : eFz f ρ = .ok (.lst xs) := by
  unfold eFz
  rw [h]
  rfl
theorem a1_ok {f : Rho → R D} {ρ : Rho} {d : D} (h : f ρ = .ok d) : aCons f aNil ρ = .ok [d] := by
  unfold aCons
  rw [h]
  rfl
theorem a2_ok {f g : Rho → R D} {ρ : Rho} {d e : D} (h : f ρ = .ok d) (h2 : g ρ = .ok e) : aCons f (aCons g aNil) ρ = .ok [d, e] := by
  unfold aCons
  rw [h, h2]
  rfl
theorem call_ok {m : List D → R D} {fs : Rho → R (List D)} {ρ : Rho} {ds : List D} (h : fs ρ = .ok ds) : eCall m fs ρ = m ds := by
  unfold eCall
  rw [h]
  rfl
theorem callL_ok {m : List D → R (List D)} {fs : Rho → R (List D)} {ρ : Rho} {ds : List D} (h : fs ρ = .ok ds) : lCall m fs ρ = m ds := by
  unfold lCall
  rw [h]
  rfl
theorem cb_ok {o : List D → Option D} {fs : Rho → R (List D)} {ρ : Rho} {ds : List D} (h : fs ρ = .ok ds) : eCB o fs ρ = ro (o ds) := by
  unfold eCB
  rw [h]
  rfl
theorem intList_map (w : Str → Int) : ∀ zs : List Str, intList (zs.map fun z => D.int (w z)) = some (zs.map w)
  | [] => rfl
  | z :: zs => by
    show (match intList (zs.map fun z => D.int (w z)) with | some is => some (w z :: is) | none => none) = _
    rw [intList_map w zs]
    rfl
theorem sum_cast (w : Str → Nat) : ∀ zs : List Str, (zs.map fun z => ((w z : Nat) : Int)).sum = ((zs.map w).sum : Nat)
  | [] => rfl
  | z :: zs => by
    rw [List.map_cons, List.sum_cons, sum_cast w zs, List.map_cons, List.sum_cons]
    omega
theorem and_one (m : Nat) : Builtin.bitAnd (m : Int) 1 = ((m % 2 : Nat) : Int) := by
  unfold Builtin.bitAnd
  rw [decide_eq_true (show (0 : Int) ≤ (m : Int) by omega), decide_eq_true (show (0 : Int) ≤ 1 by decide)]
  show (((m : Int).toNat &&& (1 : Int).toNat : Nat) : Int) = _
  rw [Int.toNat_natCast]
  show ((m &&& 1 : Nat) : Int) = _
  rw [Nat.and_one_is_mod]
theorem oShr_nat (n i : Nat) : oShr (.int n) (.int i) = some (.int ((n / 2 ^ i : Nat) : Int)) := by
  show (if decide ((0 : Int) ≤ i) = true then some (D.int ((n : Int) / 2 ^ (i : Int).toNat)) else none) = _
  rw [if_pos (decide_eq_true (by omega)), Int.toNat_natCast, Int.natCast_ediv]
  simp
theorem oBand_1 (m : Nat) : oBand (.int m) (.int 1) = some (.int ((m % 2 : Nat) : Int)) := by
  show (if true = true then some (D.int (Builtin.bitAnd m 1)) else none) = _
  rw [if_pos rfl, and_one]
theorem isi_eq {a : D} {t n : String} (h : tyD a = some t) (hn : n ∈ tyL := by decide) : cIsi [a, .opq (.ty n)] = some (.bl (isub t n)) := by
  show (match tyD a with | some t => if n ∈ tyL then some (D.bl (isub t n)) else none | none => none) = _
  rw [h]
  exact if_pos hn
theorem isi_ok {a : D} {t n : String} {i : Nat} {ρ : Rho} {b : Bool} (h : eVar i ρ = .ok a) (ht : tyD a = some t) (hb : isub t n = b) (hn : n ∈ tyL := by decide) : eCB cIsi (aCons (eVar i) (aCons (eC (.opq (.ty n))) aNil)) ρ = .ok (.bl b) := by
  refine (cb_ok (a2_ok h rfl)).trans ?_
  rw [isi_eq ht hn, hb]
  rfl
theorem test_ok {f : Rho → R D} {ρ : Rho} {b : Bool} (h : f ρ = .ok (.bl b)) : bTest f ρ = .ok b := by
  unfold bTest
  rw [h]
  rfl
theorem not_ok {f : Rho → R Bool} {ρ : Rho} {b : Bool} (h : f ρ = .ok b) : bNot f ρ = .ok (!b) := by
  unfold bNot
  rw [h]
  rfl
theorem or_no {f g : Rho → R Bool} {ρ : Rho} {b : Bool} (h : f ρ = .ok false) (h2 : g ρ = .ok b) : bOr f g ρ = .ok b := by
  unfold bOr
  rw [h]
  exact h2
theorem op_ok {o : D → D → Option D} {f g : Rho → R D} {ρ : Rho} {a b d : D} (h : f ρ = .ok a) (h2 : g ρ = .ok b) (h3 : o a b = some d) : e2 o f g ρ = .ok d := by
  unfold e2
  rw [h, h2]
  show ro (o a b) = _
  rw [h3]
  rfl
theorem oNe_bl (i j : Bool) : oNe (D.bl i) (D.bl j) = some (.bl (!decide (i = j))) := by
  unfold oNe eqB
  simp [sv, scal]
theorem noX_of {α : Type} {r : R α} {a : α} (h : r = .ok a) : noX r = .ok a := by rw [h]; rfl
theorem ty_int (i : Int) : tyD (.int i) = some "int" := rfl
theorem ty_str (i : Str) : tyD (.str i) = some "str" := rfl
theorem ty_tup (xs : List D) : tyD (.tup xs) = some "tuple" := rfl
theorem r1_ok {fs : Rho → R (List D)} {ρ : Rho} {n : Nat} (h : fs ρ = .ok [.int (n : Nat)]) (hn : n ≤ 100000) : iR1 fs ρ = .ok (rIntD 0 n) := by
  unfold iR1
  rw [h, R.bind_ok]
  have hc : (-(2 ^ 62) : Int) ≤ (n : Nat) ∧ ((n : Nat) : Int) < 2 ^ 62 := by omega
  simp only [hc, and_self, if_true, Int.toNat_natCast]
theorem at_ok {α : Type} {xs : List α} {k : Nat} (h : k < xs.length) : atI xs ((k : Nat) : Int) = some xs[k] := by
  unfold atI ixN
  rw [if_pos (by omega), if_pos (by omega)]
  simp [h]
theorem and_ok {f g : Rho → R D} {ρ : Rho} {d : D} (h : f ρ = .ok (.bl true)) (h2 : g ρ = .ok d) : eAnd f g ρ = .ok d := by
  unfold eAnd
  rw [h]
  exact h2
theorem forR_each {j : Nat} {b : MS} {ρ : Rho} : ∀ (ds : List D), (∀ d ∈ ds, b (ρ.set j (.val d)) = some (.nx (ρ.set j (.val d)))) → ∀ y, ∃ y', forR (gN j) b ds (ρ.set j y) = some (.nx (ρ.set j y'))
  | [], _, y => ⟨y, rfl⟩
  | d :: ds, h, y => by
    obtain ⟨y', e⟩ := forR_each ds (fun d hd => h d (List.mem_cons_of_mem _ hd)) (.val d)
    refine ⟨y', ?_⟩
    unfold forR
    show (match b ((ρ.set j y).set j (.val d)) with
      | some (.nx ρ') => forR (gN j) b ds ρ'
      | some (.ct ρ') => forR (gN j) b ds ρ'
      | some (.bk ρ') => some (.nx ρ')
      | o => o) = _
    rw [List.set_set, h d List.mem_cons_self]
    exact e
theorem rint_mem {n : Nat} {d : D} (h : d ∈ rIntD 0 n) : ∃ k : Nat, k < n ∧ d = .int (k : Nat) := by
  unfold rIntD at h
  obtain ⟨k, hk, rfl⟩ := List.mem_map.mp h
  exact ⟨k, List.mem_range.mp hk, by rw [Int.zero_add]⟩
theorem rint_len (n : Nat) : (rIntD 0 n).length = n := by
  unfold rIntD
  rw [List.length_map, List.length_range]
theorem ask_ok {m : List D → R D} {j : Nat} {d : D} {ρ : Rho} (hj : eVar j ρ = .ok d) (h : m [d] = .ok (.bl true)) : (sIf (bNot (bTest (eCall (fun ds => noX (m ds)) (aCons (eVar j) aNil)))) (sRet (eC (.bl false))) sNext) ρ = some (.nx ρ) :=
  (if_no (not_ok (b := true) (test_ok ((call_ok (a1_ok hj)).trans (noX_of h))))).trans rfl
theorem lst_ok {fs : Rho → R (List D)} {ρ : Rho} {xs : List D} (h : fs ρ = .ok xs) (hl : xs.length ≤ 100000) : lLst fs ρ = .ok xs := by
  unfold lLst
  rw [h]
  exact if_pos hl
theorem tup_ok {fs : Rho → R (List D)} {ρ : Rho} {xs : List D} (h : fs ρ = .ok xs) (hl : xs.length ≤ 100000) : eTup fs ρ = .ok (.tup xs) := by
  unfold eTup
  rw [h]
  exact if_pos hl
theorem cons_ok {f : Rho → R D} {fs : Rho → R (List D)} {ρ : Rho} {d : D} {ds : List D} (h : f ρ = .ok d) (h2 : fs ρ = .ok ds) : aCons f fs ρ = .ok (d :: ds) := by
  unfold aCons
  rw [h, h2]
  rfl
theorem seq_val {f : Rho → R D} {ρ : Rho} {xs : List D} (h : f ρ = .ok (.lst xs)) : Xd.iSeq f ρ = .ok xs := by
  unfold Xd.iSeq
  rw [h]
  rfl
theorem frz_ok {i : Nat} {g : MS} {ρ : Rho} {xs : List D} (h : ρ[i]? = some (.own xs)) : sFrz i g ρ = g (ρ.set i (.val (.lst xs))) := by
  unfold sFrz
  rw [h]
  rfl
def okB : R D → Bool
  | .ok (.bl b) => b
  | _ => false
theorem okB_eq {r : R D} (h : okB r = true) : r = .ok (.bl true) := by
  unfold okB at h
  split at h
  · rw [h]
  · cases h
end Xd
/-! partition, xs[::-1], list.index -/
namespace Xd
open PySem L2 Xg
def mPart (a : D) (as : List D) : Option D := match a, as with
  | .str a, [.str b] => if (b.length == 0) = false ∧ a.length ≤ 100000 then some (.tup [.str (Txt.partition a b).1, .str (Txt.partition a b).2.1, .str (Txt.partition a b).2.2]) else none
  | _, _ => none
section
variable {c : Cc} {W : Xd.WE} {ta tb : TE} {f g : Rho → R D}
theorem jm_part : JM c (fun x xs H Q => ∃ a b, x = .str a ∧ xs = [.str b] ∧ (b.length == 0) = false ∧ a.length ≤ sizeLine ∧
    ∀ p, H p = none → Q (.ref p) (upd H p (.tup [.str (Txt.partition a b).1, .str (Txt.partition a b).2.1, .str (Txt.partition a b).2.2]))) mPart := fun Hi H ok x xs a as d Q hx hs e q => by
  unfold mPart at e
  split at e
  · obtain ⟨⟨h1, h2⟩, rfl⟩ := if_some e
    cases hx
    obtain ⟨v, rfl, h⟩ := dva1 hs
    cases h
    exact ⟨_, _, rfl, rfl, h1, lim_le h2, fun p np => q.tup ok (.cons (.str _) (.cons (.str _) (.cons (.str _) .nil))) p np⟩
  · cases e
theorem DvA.rev {K : PySem.W.Frag} {cl : Nat → Addr} {Hi : Hp} : ∀ {ds : List D} {vs : List V}, DvA K cl Hi vs ds → DvA K cl Hi vs.reverse ds.reverse
  | [], _, h => by cases h; exact .nil
  | d :: ds, _, h => by
    cases h with
    | cons h1 h2 =>
      rw [List.reverse_cons, List.reverse_cons]
      exact (DvA.rev h2).append (.cons h1 .nil)
def lRev (f : Rho → R D) : Rho → R (List D) := fun ρ => (f ρ).bind fun d => match d with
  | .lst xs => .ok xs.reverse
  | _ => .bad
theorem jl_rev (ha : JE c W ta f) : JL c W (tRevL c.K ta) (lRev f) := fun σ ρ Hi H ok sv Q h => by
  refine ha σ ρ Hi H ok sv _ ((Meet.bind h).imp (fun a h v Hi1 H1 s1 d1 => ?_) fun x k => k)
  split at h
  · rename_i xs
    cases d1 with
    | lst h1 h2 =>
      exact ⟨_, _, rfl, SqL.of (s1.ok.le _ _ h1), fun p np => RetL.lst (RetL.to (fun p v Hi2 H2 s2 n n2 e e2 => h p v Hi2 H2 s2 n n2 e e2) s1) s1.ok h2.rev p np⟩
  · exact h.elim
/-- the place of the first that is equal -/
def idxV (y : V) : List V → Option Nat
  | [] => none
  | z :: zs => if eqV z y = true then some 0 else (idxV y zs).map (· + 1)
theorem idxV_some {y : V} : ∀ {ys : List V} {j : Nat}, idxV y ys = some j → (∃ z, ys[j]? = some z ∧ eqV z y = true) ∧ ∀ (m : Nat) (z : V), m < j → ys[m]? = some z → eqV z y = false
  | [], j, h => by cases h
  | z :: zs, j, h => by
    unfold idxV at h
    split at h
    · rename_i hz
      cases h
      exact ⟨⟨z, rfl, hz⟩, fun m _ hm => absurd hm (Nat.not_lt_zero m)⟩
    · rename_i hz
      obtain ⟨k, hk, rfl⟩ := Option.map_eq_some_iff.mp h
      obtain ⟨⟨w, h1, h2⟩, h3⟩ := idxV_some hk
      refine ⟨⟨w, by simpa using h1, h2⟩, fun m u hm e => ?_⟩
      cases m with
      | zero =>
        simp at e
        subst e
        simpa using hz
      | succ m => exact h3 m u (by omega) (by simpa using e)
def mIdx (a : D) (as : List D) : Option D := match a, as with
  | .lst xs, [y] => match svs xs, sv y with
    | some vs, some u => (idxV u vs).map fun j => .int (j : Nat)
    | _, _ => none
  | _, _ => none
def eIdxL (f g : Rho → R D) : Rho → R D := fun ρ => (f ρ).bind fun a => match a with
  | .lst xs => (g ρ).bind fun b => ro (mIdx (.lst xs) [b])
  | _ => .bad
theorem je_idxL (ha : JE c W ta f) (hb : JE c W tb g) : JE c W (tBM c.K "list" (rIndex c.K) ta (tCons tb tNil)) (eIdxL f g) := fun σ ρ Hi H ok sv Q h => by
  refine ha σ ρ Hi H ok sv _ ((Meet.bind h).imp (fun a h v Hi1 H1 s1 d1 => ?_) fun x k => k)
  split at h
  · rename_i xs
    cases d1 with
    | lst h1 h2 =>
      rename_i p vs
      refine ⟨.inl ⟨rfl, _, SqL.of (s1.ok.le _ _ h1)⟩, hb σ ρ Hi1 H1 s1.ok (sv.step s1) _ (meet_step s1 (Meet.bind h) fun b h v2 Hi2 H2 s2 d2 => ?_)⟩
      refine ro_meet h fun d e q => ?_
      have e : (match svs xs, Xd.sv b with | some vs, some u => (idxV u vs).map fun j => D.int (j : Nat) | _, _ => none) = some d := e
      split at e
      · rename_i us u ex eu
        obtain ⟨j, ej, rfl⟩ := Option.map_eq_some_iff.mp e
        have e1 := h2.small ex
        subst e1
        have e2 := d2.small eu
        subst e2
        obtain ⟨⟨z, k1, k2⟩, k3⟩ := idxV_some ej
        exact ⟨p, _, _, j, z, rfl, rfl, SqL.of (s2.ok.le _ _ (s2.hi _ _ h1)), sv_flat eu, svs_flat ex, k1, k2, k3, q _ _ _ (s1.trans s2) (.int _)⟩
      · cases e
  · exact h.elim
/-- own.extend(xs) -/
def sExt (i : Nat) (f : Rho → R D) : MS := fun ρ => match ρ[i]? with
  | some (.mo (.lst xs)) => lift (f ρ) ρ fun d => match d with
    | .lst ys => if xs.length + ys.length ≤ 100000 then some (.nx (ρ.set i (.own (xs ++ ys)))) else none
    | _ => none
  | _ => none
theorem js_ext (i : Nat) (ha : JE c W ta f) : JS c W (tDrop (tBM c.K "list" rExtend (tVar i) (tCons ta tNil))) (sExt i f) := fun σ ρ Hi H ok sv Dn h => by
  unfold sExt at h
  split at h
  · rename_i xs hr
    obtain ⟨p, vs, e1, e2, e3, e4, e5⟩ := sv.own hr
    refine ⟨_, e1, .inl ⟨rfl, _, SqL.of e2⟩, ?_⟩
    refine ha σ ρ Hi H ok sv _ ((AftO.lift h sv).imp (fun a h v Hi1 H1 s1 d1 => ?_) fun x k => k)
    cases a with
    | lst ys =>
      have h : AftO c W Hi Dn (if xs.length + ys.length ≤ 100000 then some (.nx (ρ.set i (.own (xs ++ ys)))) else none) := h
      by_cases hl : xs.length + ys.length ≤ 100000
      · rw [if_pos hl] at h
        cases d1 with
        | lst k1 k2 =>
          refine ⟨p, _, vs, _, rfl, rfl, s1.lst e2, s1.ok.le _ _ k1, lim_le (by rw [e5.length, k2.length]; exact hl), ?_⟩
          exact h σ Hi1 _ s1.hi (s1.ok.change (s1.lst e2) (s1.fr _ _ e2 e3) e4) ((sv.step s1).change hr e1 ((e5.up s1.hi).append k2))
      · rw [if_neg hl] at h
        exact h.elim
    | _ => exact h.elim
  · exact h.elim
end
end Xd
/-! XgTry: several handlers with a name each (except A as n: .. except B as n: ..). -/
namespace Xg
open PySem PySem.Spec PyProof.Rows L2
/-- what a row of named handlers wishes, one behind the other -/
def wTries (K : PySem.W.Frag) (Wo : WX) (D : Ends) : List (Value × Nat × (Addr → Value → Option Addr → TS)) → WX
  | [] => Wo
  | q :: r => wAs K q.1 q.2.1 q.2.2 (wTries K Wo D r) D
/-- a row of named handlers and what is known of each -/
inductive Hn (X : Cx) : List ExceptHandler → List (Value × Nat × (Addr → Value → Option Addr → TS)) → Prop
  | nil : Hn X [] []
  | cons {x n : Str} {cv : Value} {i : Nat} {ts : Addr → Value → Option Addr → TS} {st : Stmt} {more : List Stmt} {np hp : Pos} {hds : List ExceptHandler} {l : List (Value × Nat × (Addr → Value → Option Addr → TS))}
      (slot : X.N[i]? = some n) (kind : X.env.kindOf n = some .local) (nm : Names X x cv)
      (su : ∀ (p : Addr) (ob : Obj) (k : Value) (d : Option Addr) (pn : List (Addr × Obj)), Zc k d ob → (∃ fs, ob.data = .fields fs) → PSs (X.suite p ((p, ob) :: pn)) (st :: more) (ts p k d))
      (rest : Hn X hds l) : Hn X (.ExceptHandler (some (.Name x np)) (some n) (st :: more) hp :: hds) ((cv, i, ts) :: l)
section
variable {X : Cx} {bd : List Stmt} {h0 : ExceptHandler} {hds : List ExceptHandler} {l : List (Value × Nat × (Addr → Value → Option Addr → TS))} {pos : Pos} {tb : WX → TS} {Wo : WX}
theorem ps_tries (stk : X.stack = X.env :: X.outer) (frm : X.env.frame = some X.env.locals) (nod : X.N.Nodup) (tk : Takes X Wo)
    (hb : ∀ (V : WX) (ps : List (Addr × Obj)) (E : Value → Shared → Prop), Takes (X.tr ps E) V → PassesOwn (model X.prog X.w) X.A X.env E → PSs (X.tr ps E) bd (tb V))
    (hn : Hn X (h0 :: hds) l) : PS X (.Try bd (h0 :: hds) [] [] pos) (fun D σ H => tb (wTries X.K Wo D l) D σ H) := by
  constructor
  intro pins s σ H D I wish
  have ok := I.ok
  have fr0 : X.A.frames = some (X.env :: X.outer) := ok.frames.trans (congrArg some stk)
  apply wpAny_Try_except
  have main := (hb (wTries X.K Wo D l) (X.pn ++ pins) (fun e t1 => wpAny (model X.prog X.w) X.A (noteFrame e X.env) (fun _ t2 => wpAny (model X.prog X.w) X.A (setFlight e none)
    (fun _ t3 => wpAny (model X.prog X.w) X.A (handleBy e X.env (h0 :: hds)) (SP X pins D) X.xe t3) X.xe t2) X.xe t1) ?caught PassesOwn.looking).run [] s σ H D (I.toTry _) wish
  case caught =>
    rintro u t ⟨a, Bd, tI, pins2, τ, G, k, d, rfl, Jt, nbd, upt, skyt, nowhere, ofs, agr, wsh⟩
    have J0 : Inv X pins τ G tI := Jt.ofTry ok
    have sky0 : Sky Bd (X.env :: X.outer) a (Zc k d) X.env.locals t.heap := stk ▸ skyt
    change wpAny (model X.prog X.w) X.A (noteFrame (.ref a) X.env) _ _ _
    apply Sky.land Zc.steady fr0 frm sky0
    intro g3 fl u3
    have upg := upt.trans u3
    obtain ⟨ob, fs, hob, zob, dob⟩ := fl.there
    have noF : ∀ {g : Heap} {o : Obj} {fz : Array Value}, g.FunFrames Bd (X.env :: X.outer) → g.get? a = some o → o.data = .fields fz → a ∉ frs (X.env :: X.outer) := by
      intro g o fz ff ho hd ha
      obtain ⟨_, o2, ho2, bad⟩ := ff.mem ha
      cases ho.symm.trans ho2
      exact bad _ hd
    have a_out := noF fl.2.2.1 hob dob
    have a_loc : a ≠ X.env.locals := by
      rintro rfl
      exact a_out (List.mem_filterMap.mpr ⟨X.env, .head _, frm⟩)
    have a_fs : a ∉ X.fs := by
      intro ha
      obtain ⟨ev, hev, hq⟩ := List.mem_filterMap.mp ha
      exact a_out (List.mem_filterMap.mpr ⟨ev, .tail _ hev, hq⟩)
    have J3 : Inv X pins τ G { t with heap := g3 } := J0.landed nbd fl.1 upg ofs agr
    have Su := J3.suite hob dob nowhere a_loc a_fs
    have step : ∀ {hs2 : List ExceptHandler} {l2 : List (Value × Nat × (Addr → Value → Option Addr → TS))}, Hn X hs2 l2 → wTries X.K Wo D l2 k d τ G →
        wpAny (model X.prog X.w) X.A (handleBy (.ref a) X.env hs2) (SP X pins D) X.xe { t with heap := g3 } := by
      intro hs2 l2 hn2
      induction hn2 with
      | nil =>
        intro out
        apply wpAny_handleBy_nil
        obtain ⟨_, _, _, o5, f5, T5, oT5, tr5, h5, _, d5, n5, _⟩ := id fl
        unfold PySem.passOn
        apply wpAny_bind
        apply wpAny_field h5 d5 n5
        rw [if_neg (by simp : ¬ ((Value.ref T5 == Value.none) = true))]
        have leave : wpAny (model X.prog X.w) X.A (setFlight (.ref a) X.env.frame) (fun _ t4 => wpAny (model X.prog X.w) X.A (throw (.ref a) : Sem Flow) (SP X pins D) X.xe t4) X.xe { t with heap := g3 } := by
          rw [frm]
          apply HandSPX.setFlight_upZ fl
          intro g4 up4 le4
          exact wpAny_throw (tk _ _ ⟨a, Bd, tI, pins, τ, G, k, d, rfl, J0, nbd, upg.trans le4, .inr (.inr (stk ▸ up4)), nowhere, ofs, agr, out⟩)
        first
          | exact wpAny_bind leave
          | exact wpAny_bind (wpAny_pure (wpAny_bind leave))
      | @cons x n cv i ts st more np hp hs3 l3 slot kind nm su rest ih =>
        rintro ⟨b, eb, yes, no⟩
        refine wpAny_handleBy_cons (codeAny_handlers_test ?_) (fun z => nomatch z)
        have looks : PySem.W.Looks (model X.prog X.w) g3 (typeOf (.ref a)) k := by
          intro A Q E t7 kp q
          exact wpAny_typeOf_ref (kp _ _ hob) (zob.1 ▸ q)
        have one := PySem.W.exm_one (M := model X.prog X.w) (J3.kIn) looks eb
        have named : ∀ {Q E : Value → Shared → Prop}, Q cv { t with heap := g3 } → wpAny (model X.prog X.w) (X.A.mark (some (.ref a))) (eval (.Name x np) X.env) Q E { t with heap := g3 } := by
          intro Q E q
          obtain ⟨gl, dbg, md | ⟨md, bv, nn⟩⟩ := nm
          · exact ld_glob (X := X.suite a ((a, ob) :: (X.pn ++ pins))) Su gl md q dbg
          · exact ld_blt (X := X.suite a ((a, ob) :: (X.pn ++ pins))) Su gl md bv q nn dbg
        apply named
        apply one.here
        cases b with
        | false => exact ih (no rfl)
        | true =>
          apply codeAny_handlers_suite_as
          apply HandSPX.lands_againZ fl
          intro g4 fl4 up4
          have J4 : Inv X pins τ G { t with heap := g4 } := J0.landed nbd fl4.1 (upg.trans up4) ofs agr
          obtain ⟨ob4, fs4, hob4, zob4, dob4⟩ := fl4.there
          apply store_ok (X := X.suite a ((a, ob4) :: (X.pn ++ pins))) (v := .ref a) (J4.suite hob4 dob4 nowhere a_loc a_fs) nod slot (.inl kind) rfl ?_ (.inr kind)
          intro t5 I5
          have run := (su a ob4 k d (X.pn ++ pins) zob4 ⟨_, dob4⟩).run [] t5 _ G _ I5 (yes rfl a nowhere)
          refine wpAny_mono run ?_ (fun _ _ bad => False.elim bad)
          intro fl6 t6 sp
          have close : ∀ {τ6 : L2.St} {G6 : Hp} {Q : Shared → Prop}, Inv (X.suite a ((a, ob4) :: (X.pn ++ pins))) [] τ6 G6 t6 → (∀ t7, Inv X pins (τ6.set i none) G6 t7 → Q t7) →
              wpAny (model X.prog X.w) X.A (do bindName X.env n .none; unbindBehindTheSuite X.env n hp) (fun _ t7 => Q t7) X.xe t6 := by
            intro τ6 G6 Q I6 hq
            exact gone_ok (I6.unsuite ok) nod slot kind hq
          cases fl6 with
          | ret u6 =>
            obtain ⟨v6, τ6, G6, I6, r6, q6⟩ := sp
            exact close I6 (fun t7 J7 => ⟨v6, _, _, J7, r6, q6⟩)
          | next =>
            obtain ⟨τ6, G6, I6, q6⟩ := sp
            exact close I6 (fun t7 J7 => ⟨_, _, J7, q6⟩)
          | brk =>
            obtain ⟨τ6, G6, I6, q6⟩ := sp
            exact close I6 (fun t7 J7 => ⟨_, _, J7, q6⟩)
          | cont =>
            obtain ⟨τ6, G6, I6, q6⟩ := sp
            exact close I6 (fun t7 J7 => ⟨_, _, J7, q6⟩)
    exact step hn wsh
  refine wpAny_mono main ?_ (fun _ _ he => he)
  intro fl t sp
  cases fl with
  | ret u =>
    obtain ⟨v, τ, G, I1, r1, q1⟩ := sp
    exact ⟨v, τ, G, I1.ofTry ok, r1, q1⟩
  | next =>
    obtain ⟨τ, G, I1, q1⟩ := sp
    exact wpAny_execs_nil ⟨τ, G, I1.ofTry ok, q1⟩
  | brk =>
    obtain ⟨τ, G, I1, q1⟩ := sp
    exact ⟨τ, G, I1.ofTry ok, q1⟩
  | cont =>
    obtain ⟨τ, G, I1, q1⟩ := sp
    exact ⟨τ, G, I1.ofTry ok, q1⟩
end
end Xg
namespace Xd
open PySem L2 Xg
/-- a row of handlers over mirrors -/
abbrev Hm := (Nat → Option Bool) × Nat × (Xc → MS)
def goTries : List Hm → Xc → Rho → Option O
  | [], x, ρ => some (.ex x ρ)
  | q :: r, x, ρ => match q.1 x.c with
    | some true => aftTry q.2.1 (q.2.2 x ((noErr ρ).set q.2.1 .err))
    | some false => goTries r x ρ
    | none => none
def sTries (gb : MS) (l : List Hm) : MS := fun ρ => match gb ρ with
  | some (.ex x ρ') => goTries l x ρ'
  | o => o
section
variable {c : Cc}
inductive Jh (c : Cc) : List (Value × Nat × (Addr → Value → Option Addr → TS)) → List Hm → Prop
  | nil : Jh c [] []
  | cons {cv : Value} {i : Nat} {ts : Addr → Value → Option Addr → TS} {exm : Nat → Option Bool} {gs : Xc → MS} {l : List (Value × Nat × (Addr → Value → Option Addr → TS))} {lm : List Hm}
      (hs : ∀ (a : Addr) (x : Xc) (cls : Value) (d : Option Addr) (Hi0 : Hp), XcAt c.K c.cl Hi0 x cls d → JS ⟨c.K, c.cl, Hi0, c.H0, a, c.tb⟩ W0 (ts a cls d) (gs x))
      (hm : ∀ n b, exm n = some b → PySem.W.exmOne c.K (.ref (c.cl n)) cv = some b) (r : Jh c l lm) : Jh c ((cv, i, ts) :: l) ((exm, i, gs) :: lm)
theorem js_tries {tb : WX → TS} {l : List (Value × Nat × (Addr → Value → Option Addr → TS))} {lm : List Hm} {Vout : WX} {gb : MS} (hb : ∀ V : WX, JS c (wX c.K c.cl V) (tb V) gb)
    (hl : Jh c l lm) : JS c (wX c.K c.cl Vout) (fun Dn σ H => tb (wTries c.K Vout Dn l) Dn σ H) (sTries gb lm) := fun σ ρ Hi H ok sv Dn h => by
  refine hb _ σ ρ Hi H ok sv Dn ?_
  unfold sTries at h
  cases hg : gb ρ with
  | none => rw [hg] at h; exact h
  | some o =>
    rw [hg] at h
    cases o with
    | ex x ρ' =>
      intro σ' Hi' H' sm ok' sv' cls d xa
      simp only at h
      clear hg hb
      induction hl with
      | nil => exact h σ' Hi' H' sm ok' sv' cls d xa
      | @cons cv i ts exm gs l lm hs hm r ih =>
        unfold goTries at h
        dsimp only at h
        cases hx : exm x.c with
        | none => rw [hx] at h; exact h.elim
        | some b =>
          rw [hx] at h
          have e1 := hm _ _ hx
          obtain ⟨dx, vs, rfl, _⟩ := id xa
          cases b with
          | false => exact ⟨false, e1, (fun z => nomatch z), fun _ => ih h⟩
          | true =>
            refine ⟨true, e1, fun _ a na => ?_, (fun z => nomatch z)⟩
            have ok2 := ok'.turn a
            have sv2 : Sv ⟨c.K, c.cl, Hi', c.H0, a, c.tb⟩ Hi' H' (σ'.set i (some (.ref a))) ((noErr ρ').set i .err) := Sv.setErr (c := ⟨c.K, c.cl, Hi', c.H0, a, c.tb⟩) (Sv.recx (a := c.ea) (Hq := c.Hq) sv') i
            refine hs a x _ d Hi' xa _ _ Hi' H' ok2 sv2 _ ?_
            have fin : ∀ {Kn : L2.St → Hp → Prop} {ρ2 : Rho}, Nx c Hi Kn (noErr (ρ2.set i .un)) → Nx ⟨c.K, c.cl, Hi', c.H0, a, c.tb⟩ Hi' (fun σ3 H3 => Kn (σ3.set i none) H3) ρ2 := fun {Kn ρ2} k σ3 Hi3 H3 s3 ok3 sv3 =>
              k _ Hi3 H3 (sm.trans s3) (ok'.back ok3) (Sv.recx (a := a) (Hq := Hi') (a' := c.ea) (Hq' := c.Hq) (sv3.setUn i none))
            cases hr : gs x ((noErr ρ').set i .err) with
            | none => simp only [hr] at h; exact h.elim
            | some o2 =>
              simp only [hr] at h
              cases o2 with
              | nx ρ2 => exact fin h
              | bk ρ2 => exact fin h
              | ct ρ2 => exact fin h
              | rt d2 => exact fun v Hi3 H3 s3 ok3 dv => h v Hi3 H3 (sm.trans s3) (ok'.back ok3) dv
              | rf xs => exact fun p us Hi3 H3 s3 ok3 e3 n3 n0 dv => h p us Hi3 H3 (sm.trans s3) (ok'.back ok3) e3 n3 n0 dv
              | ex y ρ2 => exact h.elim
    | _ => exact h
/-- the same in a def that raises nothing -/
theorem js_tries0 {tb : WX → TS} {l : List (Value × Nat × (Addr → Value → Option Addr → TS))} {lm : List Hm} {gb : MS} (hb : ∀ V : WX, JS c (wX c.K c.cl V) (tb V) gb)
    (hl : Jh c l lm) : JS c W0 (fun Dn σ H => tb (wTries c.K (fun _ _ _ _ => False) Dn l) Dn σ H) (sTries gb lm) :=
  js_w (js_tries hb hl) fun _ _ _ _ h => h.elim
end
end Xd
/-! what every law's text needs: the row of digits, the top's facts, the promise of a law -/
namespace Xd
open PySem L2 Xg CwR
section
variable {K : PySem.W.Frag} {cl : Nat → Addr} {Hi : Hp}
theorem dva_strs : ∀ {zs : List Str} {vs : List V}, DvA K cl Hi vs (zs.map D.str) → vs = zs.map V.str
  | [], vs, h => by cases h; rfl
  | z :: zs, vs, h => by
    cases h with
    | cons h1 h2 =>
      cases h1
      rw [dva_strs h2]
      rfl
theorem dva_of_strs : ∀ {zs : List Str}, DvA K cl Hi (zs.map V.str) (zs.map D.str)
  | [] => .nil
  | z :: zs => .cons (.str z) dva_of_strs
theorem ints_dva : ∀ row : List Int, DvA K cl Hi (row.map V.int) (row.map D.int)
  | [] => .nil
  | i :: r => .cons (.int i) (ints_dva r)
end
/-- a method of a class as the text has it -/
def Me (K : PySem.W.Frag) (x qual : Str) (st : Stmt) (f : Addr) (ps : List Str) : Prop := ∃ fd, Fun K x qual st f fd ∧ Binds K fd ps []
def meD (c x qual : Str) (st : Stmt) : He.FnD := ⟨(c, some x), x, qual, defArgs st, defBody st, defScope st⟩
theorem me_of {K : PySem.W.Frag} {fa : List He.Fa} {ml : List He.FnD} (c : He.SaysE fa ml K) (i : Nat) {C x qual : Str} {st : Stmt} {ps : List Str} (h1 : ml[i]? = some (meD C x qual st)) (k : PySem.W.keepIn K (.ref (He.ma K (He.ga K C) x)) = true)
    (b : ∀ (kV doc pm : Value) (an : Option Addr) (cdv ct : Value) (us : List Value), us.length = ps.length → bindArgs (PySem.W.fnOf x qual (defArgs st) (defBody st) (defScope st) .none kV doc pm an cdv ct) ⟨us, []⟩ = pure (ps.zip us)) : Me K x qual st (He.ma K (He.ga K C) x) ps := by
  obtain ⟨oc, od, osl, kV, doc, pm, an, cdv, ct, l, cd⟩ := c.def_ i h1
  have F : Fun K x qual st (He.ma K (He.ga K C) x) _ := fun_mk l cd k
  exact ⟨_, F, F.binds b⟩
/-- a plain tuple stands there -/
def tupB (K : PySem.W.Frag) (a : Addr) : Bool := match K.lookup a with
  | some ⟨.type "tuple", none, _, _⟩ => true
  | _ => false
theorem tupB_ok {K : PySem.W.Frag} {a : Addr} (h : tupB K a = true) : ∃ o, K.lookup a = some o ∧ o.cls = .type "tuple" ∧ o.dict = none := by
  unfold tupB at h
  split at h
  · rename_i d s e
    exact ⟨_, e, rfl, rfl⟩
  · cases h
def kitB (K : PySem.W.Frag) : Bool := tyL.all fun a => tyL.all fun b => decide (PySem.W.kitOne K (.type a) (.type b) = some (isub a b))
theorem kitB_ok {K : PySem.W.Frag} (h : kitB K = true) : KitOk K := fun a ha b hb => of_decide_eq_true (List.all_eq_true.mp (List.all_eq_true.mp h a ha) b hb)
theorem same_sqL {K : PySem.W.Frag} {H H' : Hp} {a : Addr} {xs : List V} (e : Same H H') (h : SqL K H a xs) : SqL K H' a xs := e.seq h
def spLaw (K : PySem.W.Frag) : Sp := fun vs H Q _ => ∃ (a : Addr) (ns : List Int), vs = [.ref a] ∧ SqL K H a (ns.map V.int) ∧ ns.length ≤ 63 ∧ ∀ H', Q (.bl true) H'
theorem sv_un {c : Cc} {Hi H : Hp} {σ : L2.St} {n : Nat} (h : σ.length = n) : Sv c Hi H σ (List.replicate n .un) := by
  refine ⟨by rw [h, List.length_replicate], fun i o s _ e => ?_, fun i j p xs ys e _ _ _ => ?_⟩
  · have := List.eq_of_mem_replicate (List.mem_of_getElem? e)
    subst this
    trivial
  · cases List.eq_of_mem_replicate (List.mem_of_getElem? e)
/-- behind the row's making: the heap as the mirrors see it -/
theorem row_ok {K : PySem.W.Frag} {cl : Nat → Addr} {H H1 : Hp} {p1 : Addr} {row : List Int} (s1 : Same H H1) (n1 : H p1 = none) (h1 : H1 p1 = some (.lst (row.map V.int))) :
    Ok ⟨K, cl, fun _ => none, H, 0, []⟩ (upd (fun _ => none) p1 (.lst (row.map V.int))) H1 := by
  refine ⟨fun b o e => ?_, fun b o e => (by cases e), fun b o _ e => s1 b o e, fun b o e _ => ?_, fun b hb => (nomatch hb), fun b hb => (nomatch hb)⟩
  · by_cases hb : b = p1
    · subst hb
      rw [upd_same] at e
      rw [h1]
      exact e
    · rw [upd_ne hb] at e
      cases e
  · by_cases hb : b = p1
    · subst hb
      exact n1
    · rw [upd_ne hb] at e
      cases e
end Xd
/-! how mirrors are run, the second part: loops as folds, equality of data, cuts -/
namespace Xd
open PySem L2 Xg CwR
theorem seq_rt {a b : MS} {ρ : Rho} {d : D} (h : a ρ = some (.rt d)) : sSeq a b ρ = some (.rt d) := by
  unfold sSeq
  rw [h]
theorem seq_ex {a b : MS} {ρ ρ' : Rho} {x : Xc} (h : a ρ = some (.ex x ρ')) : sSeq a b ρ = some (.ex x ρ') := by
  unfold sSeq
  rw [h]
theorem retO_ok {i : Nat} {ρ : Rho} {xs : List D} (h : ρ[i]? = some (.own xs)) : sRetO i ρ = some (.rf xs) := by
  unfold sRetO
  rw [h]
theorem retL_ok {f : Rho → R (List D)} {ρ : Rho} {d : List D} (h : f ρ = .ok d) : sRetL f ρ = some (.rf d) := by
  unfold sRetL
  rw [h]
  rfl
theorem expr_ok {f : Rho → R D} {ρ : Rho} {d : D} (h : f ρ = .ok d) : sExpr f ρ = some (.nx ρ) := by
  unfold sExpr
  rw [h]
  rfl
theorem expr_exc {f : Rho → R D} {ρ : Rho} {x : Xc} (h : f ρ = .exc x) : sExpr f ρ = some (.ex x ρ) := by
  unfold sExpr
  rw [h]
  rfl
theorem runD_nx {n k : Nat} {g : MS} {ds : List D} {ρ : Rho} (h : ds.length = k) (h2 : g (rho0 n ds) = some (.nx ρ)) : runD n k g ds = .ok .non := by
  unfold runD
  rw [if_pos h, h2]
  rfl
theorem runD_ex {n k : Nat} {g : MS} {ds : List D} {x : Xc} {ρ : Rho} (h : ds.length = k) (h2 : g (rho0 n ds) = some (.ex x ρ)) : runD n k g ds = .exc x := by
  unfold runD
  rw [if_pos h, h2]
  rfl
theorem runL_ex {n k : Nat} {g : MS} {ds : List D} {x : Xc} {ρ : Rho} (h : ds.length = k) (h2 : g (rho0 n ds) = some (.ex x ρ)) : runL n k g ds = .exc x := by
  unfold runL
  rw [if_pos h, h2]
  rfl
theorem and_no {f g : Rho → R Bool} {ρ : Rho} (h : f ρ = .ok false) : bAnd f g ρ = .ok false := by
  unfold bAnd
  rw [h]
  rfl
theorem and_yes {f g : Rho → R Bool} {ρ : Rho} {b : Bool} (h : f ρ = .ok true) (h2 : g ρ = .ok b) : bAnd f g ρ = .ok b := by
  unfold bAnd
  rw [h]
  exact h2
theorem or_yes {f g : Rho → R Bool} {ρ : Rho} (h : f ρ = .ok true) : bOr f g ρ = .ok true := by
  unfold bOr
  rw [h]
  rfl
theorem a0_ok {ρ : Rho} : aNil ρ = .ok [] := rfl
theorem a3_ok {f g k : Rho → R D} {ρ : Rho} {d e u : D} (h : f ρ = .ok d) (h2 : g ρ = .ok e) (h3 : k ρ = .ok u) : aCons f (aCons g (aCons k aNil)) ρ = .ok [d, e, u] := cons_ok h (a2_ok h2 h3)
theorem callL_exc {m : List D → R (List D)} {fs : Rho → R (List D)} {ρ : Rho} {ds : List D} {x : Xc} (h : fs ρ = .ok ds) (h2 : m ds = .exc x) : eFz (lCall m fs) ρ = .exc x := by
  unfold eFz lCall
  rw [h]
  show ((m ds).bind _) = _
  rw [h2]
  rfl
theorem if_b {t : Rho → R Bool} {a b : MS} {ρ : Rho} {k : Bool} (h : t ρ = .ok k) : sIf t a b ρ = if k = true then a ρ else b ρ := by
  unfold sIf
  rw [h]
  rfl
/-- a loop over a list of numbers from 0 -/
theorem forR_range {g : MG} {b : MS} {n : Nat} (I : Nat → Rho → Prop) (step : ∀ k ρ, k < n → I k ρ → ∃ ρ1 ρ2, g (.int (k : Nat)) ρ = some ρ1 ∧ b ρ1 = some (.nx ρ2) ∧ I (k + 1) ρ2) {ρ : Rho} (h : I 0 ρ) :
    ∃ ρ', forR g b (rIntD 0 n) ρ = some (.nx ρ') ∧ I n ρ' := by
  have key := forR_ind (g := g) (b := b) (fun ds ρ => ∃ k, k ≤ n ∧ ds = (rIntD 0 n).drop k ∧ I k ρ) ?_ (rIntD 0 n) ρ ⟨0, Nat.zero_le _, by rw [List.drop_zero], h⟩
  · obtain ⟨ρ', e, k, hk, e2, i⟩ := key
    refine ⟨ρ', e, ?_⟩
    have : (rIntD 0 n).length ≤ k := List.drop_eq_nil_iff.mp e2.symm
    rw [rint_len] at this
    have q : k = n := by omega
    rw [← q]
    exact i
  · rintro d ds ρ ⟨k, hk, e, i⟩
    have hlt : k < n := by
      rcases Nat.lt_or_ge k n with h | h
      · exact h
      · rw [List.drop_eq_nil_of_le (by rw [rint_len]; exact h)] at e
        cases e
    have hl : k < (rIntD 0 n).length := by rw [rint_len]; exact hlt
    rw [List.drop_eq_getElem_cons hl] at e
    injection e with e1 e2
    have e3 : (rIntD 0 n)[k]? = some (.int (k : Nat)) := by
      unfold rIntD
      rw [List.getElem?_map, List.getElem?_range hlt]
      show some (D.int (0 + (k : Int))) = _
      rw [Int.zero_add]
    have e4 : (rIntD 0 n)[k] = .int (k : Nat) := by
      rw [List.getElem?_eq_getElem hl] at e3
      exact Option.some.inj e3
    rw [e1, e4]
    obtain ⟨ρ1, ρ2, h1, h2, h3⟩ := step k ρ hlt i
    exact ⟨ρ1, ρ2, h1, h2, k + 1, hlt, e2, h3⟩
/-- a loop whose environment is a fold -/
theorem forR_fold {α β : Type} {f : α → D} {j : Nat} {b : MS} (E : β → Sl → Rho) (st : β → α → β) (J : β → List α → Prop) (hg : ∀ s y a, (E s y).set j (.val (f a)) = E s (.val (f a)))
    (h : ∀ s a r, J s (a :: r) → b (E s (.val (f a))) = some (.nx (E (st s a) (.val (f a)))) ∧ J (st s a) r) :
    ∀ (xs : List α) (s : β) (y : Sl), J s xs → ∃ y', forR (gN j) b (xs.map f) (E s y) = some (.nx (E (xs.foldl st s) y'))
  | [], s, y, _ => ⟨y, rfl⟩
  | a :: r, s, y, i => by
    obtain ⟨h1, h2⟩ := h s a r i
    obtain ⟨y', e⟩ := forR_fold E st J hg h r (st s a) (.val (f a)) h2
    refine ⟨y', ?_⟩
    show (match b ((E s y).set j (.val (f a))) with
      | some (.nx ρ') => forR (gN j) b (r.map f) ρ'
      | some (.ct ρ') => forR (gN j) b (r.map f) ρ'
      | some (.bk ρ') => some (.nx ρ')
      | o => o) = _
    rw [hg, h1]
    exact e
theorem cut_ok {xs : List D} {i j : Nat} (hi : i ≤ xs.length) (hj : j ≤ xs.length) : cutD xs (some (i : Nat)) (some (j : Nat)) = (xs.drop i).take (j - i) := by
  have e : ∀ (d k : Nat), k ≤ xs.length → HT.sIx xs.length d (some (k : Nat)) = k := fun d k h => by
    rw [HT.sIx_nat, Nat.min_eq_left h]
  unfold cutD
  rw [e _ _ hi, e _ _ hj]
theorem oNotIn_tup (z : Str) (zs : List Str) : oNotIn (.str z) (.tup (zs.map D.str)) = some (.bl (!decide (z ∈ zs))) := by
  show ((svs (zs.map D.str)).map fun vs => inV (.str z) vs).map _ = _
  rw [svs_strs]
  show some (D.bl (!inV _ _)) = _
  rw [inV_strs]
theorem oIn_tup (z : Str) (zs : List Str) : oIn (.str z) (.tup (zs.map D.str)) = some (.bl (decide (z ∈ zs))) := by
  show ((svs (zs.map D.str)).map fun vs => inV (.str z) vs).map _ = _
  rw [svs_strs]
  show some (D.bl (inV _ _)) = _
  rw [inV_strs]
theorem toPys_strs : ∀ zs : List Str, toPys (zs.map D.str) = some (zs.map PyData.str)
  | [] => rfl
  | z :: zs => by
    show (match toPy (.str z), toPys (zs.map D.str) with | some p, some ps => some (p :: ps) | _, _ => none) = _
    rw [toPys_strs zs]
    rfl
theorem eqB_same {d : D} {p : PyData} (h0 : sv d = none) (h1 : toPy d = some p) (h2 : PySem.SeqAt.shaped p = true) : eqB d d = some true := by
  unfold eqB
  rw [h0, h1]
  show (if (PySem.SeqAt.shaped p && PySem.SeqAt.shaped p) = true then some (PyData.eqv p p) else none) = _
  rw [h2, if_pos (show (true && true) = true from rfl), PySem.SeqAt.eqv_refl _ (PySem.SeqAt.canLay_of_shaped h2)]
theorem lay_strs : ∀ {zs : List Str}, (∀ z ∈ zs, PyData.strOk z = true) → PyData.canLayAll0 (zs.map PyData.str) = true ∧ PyData.depthAll (zs.map PyData.str) = 0
  | [], _ => ⟨by simp [PyData.canLayAll0], by simp [PyData.depthAll]⟩
  | z :: zs, h => by
    obtain ⟨a, b⟩ := lay_strs fun y hy => h y (List.mem_cons_of_mem _ hy)
    exact ⟨by rw [List.map_cons, PyData.canLayAll0, PyData.canLay0, h z List.mem_cons_self, a]; rfl, by rw [List.map_cons, PyData.depthAll, b]; simp [PyData.depth]⟩
theorem eqB_strs {zs : List Str} (h : ∀ z ∈ zs, PyData.strOk z = true) : eqB (.lst (zs.map D.str)) (.lst (zs.map D.str)) = some true := by
  obtain ⟨a, b⟩ := lay_strs h
  refine eqB_same (p := .list (zs.map PyData.str)) rfl ?_ ?_
  · show (toPys (zs.map D.str)).map PyData.list = _
    rw [toPys_strs]
    rfl
  · unfold PySem.SeqAt.shaped
    rw [PyData.canLay0, a, PyData.depth, b]
    rfl
end Xd
/-! small defs that many laws have with the same text, once for all of them -/
namespace Xd
open PySem L2 Xg CwR
def gDigit : MS :=
  (sSeq (sIf (bTest (e2 oLt (eVar 1) (eCB cLen (aCons (eVar 0) aNil))))
    (sRet (e2 oIx (eVar 0) (eVar 1)))
    sNext)
  (sRet (eC (.int 0))))
def mDigit : List D → R D := fun ds => noX (runD 2 2 gDigit ds)
def gPick : MS :=
  (sSeq (sSet 3 (eC (.int 0)))
  (sSeq (sIf (bTest (e2 oLt (eVar 1) (eCB cLen (aCons (eVar 0) aNil))))
    (sSet 3 (e2 oIx (eVar 0) (eVar 1)))
    sNext)
  (sSeq (sIf (bTest (e2 oLt (e2 oAdd (eVar 1) (eC (.int 1))) (eCB cLen (aCons (eVar 0) aNil))))
    (sSet 3 (e2 oAdd (eVar 3) (e2 oMul (eC (.int 16)) (e2 oIx (eVar 0) (e2 oAdd (eVar 1) (eC (.int 1)))))))
    sNext)
  (sRet (e2 oMod (eCB cInt (aCons (eVar 3) aNil)) (eVar 2))))))
def mPick : List D → R D := fun ds => noX (runD 4 3 gPick ds)
def gWhole : MS :=
  (sRet (eAnd (eCB cIsi (aCons (eVar 0) (aCons (eC (.opq (.ty "int"))) aNil))) (eNot (eCB cIsi (aCons (eVar 0) (aCons (eC (.opq (.ty "bool"))) aNil))))))
def mWhole : List D → R D := fun ds => noX (runD 1 1 gWhole ds)
/-! ### small defs -/
theorem digit_ok (row : List Int) (hl : row.length ≤ 5000) (k : Nat) : mDigit [.lst (row.map D.int), .int k] = .ok (.int (row.getD k 0)) := by
  refine noX_of (runD_rt rfl ?_)
  show gDigit [.val (.lst (row.map D.int)), .val (.int k)] = _
  unfold gDigit
  have ht : bTest (e2 oLt (eVar 1) (eCB cLen (aCons (eVar 0) aNil))) [.val (.lst (row.map D.int)), .val (.int k)] = .ok (decide ((k : Int) < ((row.map D.int).length : Nat))) := rfl
  by_cases h : k < row.length
  · refine seq_rt ((if_yes (ht.trans ?_)).trans (ret_ok (op_ok rfl rfl ?_)))
    · rw [decide_eq_true (by rw [List.length_map]; omega)]
    · show atI (row.map D.int) (k : Nat) = _
      rw [at_ok (by rw [List.length_map]; exact h), List.getElem_map]
      simp [List.getD, h]
  · refine (seq_nx ((if_no (ht.trans ?_)).trans rfl)).trans (ret_ok ?_)
    · rw [decide_eq_false (by rw [List.length_map]; omega)]
    · rw [getD_out (by omega)]
      rfl
theorem pick_ok (row : List Int) (hl : row.length ≤ 5000) (k : Nat) {m : Int} (hm : 0 < m) : mPick [.lst (row.map D.int), .int k, .int m] = .ok (.int (Xg.pick row k m)) := by
  refine noX_of (runD_rt rfl ?_)
  show gPick [.val (.lst (row.map D.int)), .val (.int k), .val (.int m), .un] = _
  unfold gPick
  refine (seq_nx (set_ok (d := .int 0) rfl)).trans ?_
  have one : (sIf (bTest (e2 oLt (eVar 1) (eCB cLen (aCons (eVar 0) aNil)))) (sSet 3 (e2 oIx (eVar 0) (eVar 1))) sNext) [.val (.lst (row.map D.int)), .val (.int k), .val (.int m), .val (.int 0)] = some (.nx [.val (.lst (row.map D.int)), .val (.int k), .val (.int m), .val (.int (row.getD k 0))]) := by
    have ht : bTest (e2 oLt (eVar 1) (eCB cLen (aCons (eVar 0) aNil))) [.val (.lst (row.map D.int)), .val (.int k), .val (.int m), .val (.int 0)] = .ok (decide ((k : Int) < ((row.map D.int).length : Nat))) := rfl
    by_cases h : k < row.length
    · refine (if_yes (ht.trans ?_)).trans (set_ok (op_ok rfl rfl ?_))
      · rw [decide_eq_true (by rw [List.length_map]; omega)]
      · show atI (row.map D.int) (k : Nat) = _
        rw [at_ok (by rw [List.length_map]; exact h), List.getElem_map]
        simp [List.getD, h]
    · refine (if_no (ht.trans ?_)).trans ?_
      · rw [decide_eq_false (by rw [List.length_map]; omega)]
      · rw [getD_out (by omega)]
        rfl
  refine (seq_nx one).trans ?_
  have two : (sIf (bTest (e2 oLt (e2 oAdd (eVar 1) (eC (.int 1))) (eCB cLen (aCons (eVar 0) aNil)))) (sSet 3 (e2 oAdd (eVar 3) (e2 oMul (eC (.int 16)) (e2 oIx (eVar 0) (e2 oAdd (eVar 1) (eC (.int 1))))))) sNext) [.val (.lst (row.map D.int)), .val (.int k), .val (.int m), .val (.int (row.getD k 0))]
      = some (.nx [.val (.lst (row.map D.int)), .val (.int k), .val (.int m), .val (.int (row.getD k 0 + 16 * row.getD (k + 1) 0))]) := by
    have ht : bTest (e2 oLt (e2 oAdd (eVar 1) (eC (.int 1))) (eCB cLen (aCons (eVar 0) aNil))) [.val (.lst (row.map D.int)), .val (.int k), .val (.int m), .val (.int (row.getD k 0))] = .ok (decide ((k : Int) + 1 < ((row.map D.int).length : Nat))) := rfl
    by_cases h : k + 1 < row.length
    · refine (if_yes (ht.trans ?_)).trans (set_ok (op_ok rfl (op_ok rfl (op_ok rfl (d := .int (row.getD (k + 1) 0)) (b := .int ((k + 1 : Nat) : Int)) rfl ?_) (oMul_16 _)) (oAdd_int _ _)))
      · rw [decide_eq_true (by rw [List.length_map]; omega)]
      · show atI (row.map D.int) ((k + 1 : Nat) : Int) = _
        rw [at_ok (by rw [List.length_map]; exact h), List.getElem_map]
        simp [List.getD, h]
    · refine (if_no (ht.trans ?_)).trans ?_
      · rw [decide_eq_false (by rw [List.length_map]; omega)]
      · rw [getD_out (show row.length ≤ k + 1 by omega), Int.mul_zero, Int.add_zero]
        rfl
  refine (seq_nx two).trans (ret_ok ((op_ok ((cb_ok (a1_ok rfl)).trans rfl) rfl (oMod_int hm)).trans ?_))
  unfold Xg.pick
  rw [show ((k : Int)).toNat = k from Int.toNat_natCast k]
theorem whole_ok (i : Int) : mWhole [.int i] = .ok (.bl true) := by
  refine noX_of (runD_rt rfl ?_)
  unfold gWhole
  exact ret_ok (and_ok ((cb_ok (a2_ok rfl rfl)).trans rfl) rfl)
theorem fz2 {m : List D → R (List D)} {fs : Rho → R (List D)} {ρ : Rho} {ds l : List D} (h : fs ρ = .ok ds) (h2 : m ds = .ok l) : eFz (lCall (fun ds => noX (m ds)) fs) ρ = .ok (.lst l) := fz_ok ((callL_ok h).trans (noX_of h2))
theorem cl2 {m : List D → R D} {fs : Rho → R (List D)} {ρ : Rho} {ds : List D} {d : D} (h : fs ρ = .ok ds) (h2 : m ds = .ok d) : eCall (fun ds => noX (m ds)) fs ρ = .ok d := (call_ok h).trans (noX_of h2)
theorem oEq_str (i j : Str) : oEq (.str i) (.str j) = some (.bl (decide (i = j))) := by
  unfold oEq eqB
  simp [sv, scal]
theorem oEq_bl (i j : Bool) : oEq (.bl i) (.bl j) = some (.bl (decide (i = j))) := by
  unfold oEq eqB
  simp [sv, scal]
theorem eq_ok {f g : Rho → R D} {ρ : Rho} {x y : Str} (h : f ρ = .ok (.str x)) (h2 : g ρ = .ok (.str y)) : bTest (e2 oEq f g) ρ = .ok (decide (x = y)) := test_ok (op_ok h h2 (oEq_str _ _))
theorem ne_no {f g : Rho → R D} {ρ : Rho} {d : D} (h : f ρ = .ok d) (h2 : g ρ = .ok d) (h3 : eqB d d = some true) : bTest (e2 oNe f g) ρ = .ok false := by
  refine test_ok (op_ok h h2 ?_)
  unfold oNe
  rw [h3]
  rfl
theorem eor_ok {f g : Rho → R D} {ρ : Rho} {b c : Bool} (h : f ρ = .ok (.bl b)) (h2 : g ρ = .ok (.bl c)) : eOr f g ρ = .ok (.bl (b || c)) := by
  unfold eOr
  rw [h]
  cases b
  · exact h2
  · rfl
theorem eand_ok {f g : Rho → R D} {ρ : Rho} {b c : Bool} (h : f ρ = .ok (.bl b)) (h2 : g ρ = .ok (.bl c)) : eAnd f g ρ = .ok (.bl (b && c)) := by
  unfold eAnd
  rw [h]
  cases b
  · rfl
  · exact h2
theorem ble_ok {f g : Rho → R D} {ρ : Rho} {x y : Int} (h : f ρ = .ok (.int x)) (h2 : g ρ = .ok (.int y)) : e2 oLe f g ρ = .ok (.bl (decide (x ≤ y))) := op_ok h h2 rfl
theorem chain_ok {f g h : Rho → R D} {ρ : Rho} {x y z : Int} (h1 : f ρ = .ok (.int x)) (h2 : g ρ = .ok (.int y)) (h3 : h ρ = .ok (.int z)) : eChain oLe oLt f g h ρ = .ok (.bl (decide (x ≤ y) && decide (y < z))) := by
  unfold eChain
  rw [h1, h2]
  simp only [R.bind_ok]
  rw [show oLe (D.int x) (D.int y) = some (.bl (decide (x ≤ y))) from rfl]
  by_cases c : x ≤ y
  · rw [decide_eq_true c]
    simp only [ro, R.bind_ok, asB, if_true, Bool.true_and]
    rw [h3]
    rfl
  · rw [decide_eq_false c]
    rfl
/-! ### the rules -/
abbrev rulL : List Str := ["invalidate_store", "invalidate_device", "track_frames", "track_prepared", "track_second", "invalidate_map", "invalidate_rights", "key_level", "leave_self", "leave_other", "cut_links", "clear_links", "hold_slot", "check_entry", "stop_page", "stop_store", "no_links", "single", "eager", "flush_exit", "flush_source", "keep_dropped", "map_inspect", "map_fault", "flush_fault", "map_leave", "prompt_store", "poll_entry", "poll_backward"]
theorem l29 : rulL.length = 29 := by decide +kernel
theorem rul_strOk : ∀ z ∈ rulL, PyData.strOk z = true := by decide +kernel
def selN (q : Nat → Bool) : List Str := ((List.range 29).filter q).map fun k => rulL.getD k ""
theorem range_rules : ((List.range 29).map fun k => rulL.getD k "") = rulL := by decide +kernel
theorem selN_sub (q : Nat → Bool) : (selN q).Sublist rulL := by
  have := (List.filter_sublist (p := q) (l := List.range 29)).map fun k => rulL.getD k ""
  rw [range_rules] at this
  exact this
def qD (q : Nat → Bool) : D → Bool
  | .int i => q i.toNat
  | _ => false
def atD : D → D
  | .int i => .str (rulL.getD i.toNat "")
  | d => d
theorem selN_eq (q : Nat → Bool) : ((rIntD 0 29).filter (qD q)).map atD = (selN q).map D.str := by
  unfold rIntD selN
  rw [List.filter_map, List.map_map, List.map_map]
  have e : (qD q ∘ fun i : Nat => D.int (0 + (i : Nat))) = q := by
    funext i
    show q ((0 : Int) + (i : Nat)).toNat = _
    rw [Int.zero_add, Int.toNat_natCast]
  rw [e]
  refine List.map_congr_left fun i _ => ?_
  show D.str (rulL.getD ((0 : Int) + (i : Nat)).toNat "") = _
  rw [Int.zero_add, Int.toNat_natCast]
  rfl
/-- the rules chosen by a test of their places, in whatever environment -/
theorem lc_rules {t : Rho → R Bool} (q : Nat → Bool) {i j : Nat} {ρ : Rho} (hv : (wipeR ρ [j])[i]? = some (.val (.lst (rulL.map D.str)))) (hij : i ≠ j) (hj : j < ρ.length)
    (h : ∀ k : Nat, k < 29 → t ((wipeR ρ [j]).set j (.val (.int k))) = .ok (q k)) :
    eFz (lLc (iR1 (aCons (eC (.int 29)) aNil)) (gN j) t (e2 oIx (eVar i) (eVar j)) [j]) ρ = .ok (.lst ((selN q).map D.str)) := by
  refine fz_ok ?_
  rw [← selN_eq]
  refine lc_ok (ds := rIntD 0 29) (qD q) atD (r1_ok (n := 29) rfl (by decide)) (by rw [rint_len]; decide) fun d hd => ?_
  obtain ⟨k, hk, rfl⟩ := rint_mem hd
  refine ⟨_, rfl, ?_, fun _ => ?_⟩
  · refine (h k hk).trans ?_
    show R.ok (q k) = R.ok (q (k : Int).toNat)
    rw [Int.toNat_natCast]
  · have hj' : j < (wipeR ρ [j]).length := by
      show j < (ρ.set j .un).length
      rw [List.length_set]
      exact hj
    refine op_ok (a := .lst (rulL.map D.str)) (b := .int (k : Nat)) ?_ ?_ ?_
    · unfold eVar
      rw [List.getElem?_set_ne (Ne.symm hij), hv]
    · unfold eVar
      rw [List.getElem?_set_self hj']
    · show atI (rulL.map D.str) ((k : Nat) : Int) = _
      have lt : k < (rulL.map D.str).length := by rw [List.length_map, l29]; exact hk
      rw [at_ok lt, List.getElem_map]
      show _ = some (D.str (rulL.getD (k : Int).toNat ""))
      rw [Int.toNat_natCast, List.getD_eq_getElem?_getD, List.getElem?_eq_getElem (by rw [l29]; exact hk)]
      rfl
end Xd
/-! XdDict: dicts with numbers and texts as keys, as data and in a slot of one's own. -/
namespace Xd
open PySem L2 Xg CwR
def keyOf : D → Option L2.Key
  | .int i => some (.inl i)
  | .str s => some (.inr s)
  | _ => none
theorem keyOf_keyD (k : L2.Key) : keyOf (keyD k) = some k := by cases k <;> rfl
theorem keyOf_some {d : D} {k : L2.Key} (h : keyOf d = some k) : d = keyD k := by
  unfold keyOf at h
  split at h
  · cases h; rfl
  · cases h; rfl
  · cases h
theorem Dv.key {K : PySem.W.Frag} {cl : Nat → Addr} {Hi : Hp} {v : V} {k : L2.Key} (h : Dv K cl Hi v (keyD k)) : v = kV k := by
  cases k with
  | inl i => cases h; rfl
  | inr s => cases h; rfl
/-- what stands under a key -/
def dFind (ks xs : List D) (k : L2.Key) : Option D := ((ks.zip xs).find? fun p => decide (keyOf p.1 = some k)).map (·.2)
def dKeys (ks xs : List D) (k : L2.Key) (y : D) : List D × List D :=
  if (ks.any fun d => decide (keyOf d = some k)) = true then (ks, (ks.zip xs).map fun p => if keyOf p.1 = some k then y else p.2) else (ks ++ [keyD k], xs ++ [y])
section
variable {K : PySem.W.Frag} {cl : Nat → Addr} {Hi : Hp}
theorem find_rel {k : L2.Key} : ∀ {kk : List L2.Key} {vs : List V} {xs : List D}, kk.length = vs.length → DvA K cl Hi vs xs →
    (valV (kk.zip vs) k = none ∧ dFind (kk.map keyD) xs k = none) ∨ ∃ v d, valV (kk.zip vs) k = some v ∧ dFind (kk.map keyD) xs k = some d ∧ Dv K cl Hi v d
  | [], vs, xs, _, _ => .inl ⟨rfl, rfl⟩
  | q :: kk, [], xs, h, _ => by cases h
  | q :: kk, v :: vs, _, h, hd => by
    cases hd with
    | @cons _ _ d ds h1 h2 =>
      have ih := find_rel (k := k) (kk := kk) (by simpa using h) h2
      by_cases c : q = k
      · subst c
        refine .inr ⟨v, d, ?_, ?_, h1⟩
        · rw [List.zip_cons_cons, valV_pos rfl]
        · unfold dFind
          rw [List.map_cons, List.zip_cons_cons, List.find?_cons]
          simp [keyOf_keyD]
      · have e1 : valV ((q :: kk).zip (v :: vs)) k = valV (kk.zip vs) k := by rw [List.zip_cons_cons, valV_neg c]
        have e2 : dFind ((q :: kk).map keyD) (d :: ds) k = dFind (kk.map keyD) ds k := by
          unfold dFind
          rw [List.map_cons, List.zip_cons_cons, List.find?_cons]
          simp [keyOf_keyD, c]
        rw [e1, e2]
        exact ih
theorem any_keys (k : L2.Key) : ∀ (kk : List L2.Key) (vs : List V), kk.length = vs.length → ((kk.zip vs).any fun kv => decide (kv.1 = k)) = ((kk.map keyD).any fun d => decide (keyOf d = some k))
  | [], _, _ => rfl
  | q :: kk, [], h => by cases h
  | q :: kk, v :: vs, h => by
    rw [List.zip_cons_cons, List.any_cons, List.map_cons, List.any_cons, any_keys k kk vs (by simpa using h), keyOf_keyD]
    congr 1
    by_cases c : q = k <;> simp [c]
theorem put_rel {k : L2.Key} {v : V} {y : D} {kk : List L2.Key} {vs : List V} {xs : List D} (hl : kk.length = vs.length) (hd : DvA K cl Hi vs xs) (hv : Dv K cl Hi v y) :
    ∃ (kk' : List L2.Key) (vs' : List V), putK (kk.zip vs) k v = kk'.zip vs' ∧ kk'.length = vs'.length ∧ (dKeys (kk.map keyD) xs k y).1 = kk'.map keyD ∧ DvA K cl Hi vs' (dKeys (kk.map keyD) xs k y).2 := by
  unfold putK dKeys
  rw [any_keys k kk vs hl]
  by_cases c : ((kk.map keyD).any fun d => decide (keyOf d = some k)) = true
  · rw [if_pos c, if_pos c]
    clear c
    refine ⟨kk, (kk.zip vs).map fun kv => if kv.1 = k then v else kv.2, ?_, ?_, rfl, ?_⟩
    · clear hd
      induction kk generalizing vs with
      | nil => rfl
      | cons q kk ih =>
        cases vs with
        | nil => cases hl
        | cons u vs =>
          rw [List.zip_cons_cons, List.map_cons, List.map_cons, List.zip_cons_cons, ih (by simpa using hl)]
          by_cases c : q = k <;> simp [c]
    · rw [List.length_map, List.length_zip, ← hl, Nat.min_self]
    · induction kk generalizing vs xs with
      | nil => exact .nil
      | cons q kk ih =>
        cases vs with
        | nil => cases hl
        | cons u vs =>
          cases hd with
          | @cons _ _ d ds h1 h2 =>
            show DvA K cl Hi ((if q = k then v else u) :: _) ((if keyOf (keyD q) = some k then y else d) :: _)
            refine .cons ?_ (ih (by simpa using hl) h2)
            rw [keyOf_keyD]
            by_cases c : q = k
            · rw [if_pos c, if_pos (congrArg some c)]
              exact hv
            · rw [if_neg c, if_neg fun z => c (Option.some.inj z)]
              exact h1
  · rw [if_neg c, if_neg c]
    refine ⟨kk ++ [k], vs ++ [v], ?_, by simp [hl], by rw [List.map_append]; rfl, hd.append (.cons hv .nil)⟩
    rw [List.zip_append hl]
    rfl
end
/-! ### data dicts -/
def oGetD (a y : D) : Option D := match a with
  | .dic false ks xs => (keyOf y).bind fun k => dFind ks xs k
  | _ => none
def oInD (y a : D) : Option D := match a with
  | .dic false ks xs => (keyOf y).map fun k => .bl (dFind ks xs k).isSome
  | _ => none
def oNotInD (y a : D) : Option D := match a with
  | .dic false ks xs => (keyOf y).map fun k => .bl (!(dFind ks xs k).isSome)
  | _ => none
def eGet2 (f g h : Rho → R D) : Rho → R D := fun ρ => (f ρ).bind fun a => match a with
  | .dic false ks xs => (g ρ).bind fun y => (h ρ).bind fun z => ro ((keyOf y).map fun k => (dFind ks xs k).getD z)
  | _ => .bad
section
variable {c : Cc} {W : Xd.WE} {td ty tx : TE} {f g h : Rho → R D}
theorem dget_rel {Hi H : Hp} (le : Same Hi H) {x y : V} {ks xs : List D} {d : D} {k : L2.Key} (h1 : Dv c.K c.cl Hi x (.dic false ks xs)) (h2 : Dv c.K c.cl Hi y d) (hk : keyOf d = some k) :
    ∃ a o, x = .ref a ∧ DGet H a y o ∧ ((o = none ∧ dFind ks xs k = none) ∨ ∃ v e, o = some v ∧ dFind ks xs k = some e ∧ Dv c.K c.cl Hi v e) := by
  cases h1 with
  | dicK e1 e2 e3 =>
    rw [keyOf_some hk] at h2
    have := h2.key
    subst this
    refine ⟨_, _, rfl, .inl ⟨_, k, .inl (le _ _ e1), rfl, rfl⟩, ?_⟩
    rcases find_rel (k := k) e2 e3 with ⟨q1, q2⟩ | ⟨v, e, q1, q2, q3⟩
    · exact .inl ⟨q1, q2⟩
    · exact .inr ⟨v, e, q1, q2, q3⟩
theorem je_dget (ha : JE c W td f) (hb : JE c W ty g) : JE c W (tDGet td ty) (e2 oGetD f g) := fun σ ρ Hi H ok sv Q q => by
  refine ha σ ρ Hi H ok sv _ ((Meet.bind q).imp (fun a q x Hi1 H1 s1 d1 => ?_) fun x k => k)
  refine hb σ ρ Hi1 H1 s1.ok (sv.step s1) _ ((Meet.bind q).imp (fun b q y Hi2 H2 s2 d2 => ?_) fun x k Hi' H' s => k _ _ (s1.trans s))
  refine ro_meet q fun e he k => ?_
  unfold oGetD at he
  split at he
  · rename_i ks xs
    obtain ⟨key, hk, hf⟩ := Option.bind_eq_some_iff.mp he
    obtain ⟨p, o, rfl, dg, r⟩ := dget_rel s2.ok.le (d1.up s2.hi) d2 hk
    rcases r with ⟨rfl, r⟩ | ⟨v, e', rfl, r, dv⟩
    · rw [r] at hf; cases hf
    · rw [r] at hf
      cases hf
      exact ⟨p, v, rfl, dg, k _ _ _ (s1.trans s2) dv⟩
  · cases he
theorem je_din (hb : JE c W ty g) (ha : JE c W td f) : JE c W (tDIn ty td) (e2 oInD g f) := fun σ ρ Hi H ok sv Q q => by
  refine hb σ ρ Hi H ok sv _ ((Meet.bind q).imp (fun a q x Hi1 H1 s1 d1 => ?_) fun x k => k)
  refine ha σ ρ Hi1 H1 s1.ok (sv.step s1) _ ((Meet.bind q).imp (fun b q y Hi2 H2 s2 d2 => ?_) fun x k Hi' H' s => k _ _ (s1.trans s))
  refine ro_meet q fun e he k => ?_
  unfold oInD at he
  split at he
  · rename_i ks xs
    obtain ⟨key, hk, hf⟩ := Option.map_eq_some_iff.mp he
    obtain ⟨p, o, rfl, dg, r⟩ := dget_rel s2.ok.le d2 (d1.up s2.hi) hk
    subst hf
    refine ⟨p, o, rfl, dg, ?_⟩
    rcases r with ⟨rfl, r⟩ | ⟨v, e', rfl, r, dv⟩
    · rw [r] at k; exact k _ _ _ (s1.trans s2) (.bl _)
    · rw [r] at k; exact k _ _ _ (s1.trans s2) (.bl _)
  · cases he
theorem je_dnotin (hb : JE c W ty g) (ha : JE c W td f) : JE c W (tDNotIn ty td) (e2 oNotInD g f) := fun σ ρ Hi H ok sv Q q => by
  refine hb σ ρ Hi H ok sv _ ((Meet.bind q).imp (fun a q x Hi1 H1 s1 d1 => ?_) fun x k => k)
  refine ha σ ρ Hi1 H1 s1.ok (sv.step s1) _ ((Meet.bind q).imp (fun b q y Hi2 H2 s2 d2 => ?_) fun x k Hi' H' s => k _ _ (s1.trans s))
  refine ro_meet q fun e he k => ?_
  unfold oNotInD at he
  split at he
  · rename_i ks xs
    obtain ⟨key, hk, hf⟩ := Option.map_eq_some_iff.mp he
    obtain ⟨p, o, rfl, dg, r⟩ := dget_rel s2.ok.le d2 (d1.up s2.hi) hk
    subst hf
    refine ⟨p, o, rfl, dg, ?_⟩
    rcases r with ⟨rfl, r⟩ | ⟨v, e', rfl, r, dv⟩
    · rw [r] at k; exact k _ _ _ (s1.trans s2) (.bl _)
    · rw [r] at k; exact k _ _ _ (s1.trans s2) (.bl _)
  · cases he
theorem je_dget2 (ha : JE c W td f) (hb : JE c W ty g) (hc : JE c W tx h) : JE c W (tDGet2 td ty tx) (eGet2 f g h) := fun σ ρ Hi H ok sv Q q => by
  refine ha σ ρ Hi H ok sv _ ((Meet.bind q).imp (fun a q x Hi1 H1 s1 d1 => ?_) fun x k => k)
  have isd : ∀ {ks xs}, a = .dic false ks xs → ∃ p, x = .ref p ∧ IsD H1 p := fun {ks xs} e => by
    subst e
    cases d1 with
    | dicK e1 e2 e3 => exact ⟨_, rfl, .inl ⟨_, .inl (s1.ok.le _ _ e1)⟩⟩
  cases a with
  | dic t ks xs =>
    cases t with
    | false =>
      obtain ⟨p, rfl, hp⟩ := isd rfl
      refine ⟨p, rfl, hp, ?_⟩
      refine hb σ ρ Hi1 H1 s1.ok (sv.step s1) _ ((Meet.bind q).imp (fun b q y Hi2 H2 s2 d2 => ?_) fun x k Hi' H' s => k _ _ (s1.trans s))
      refine hc σ ρ Hi2 H2 s2.ok ((sv.step s1).step s2) _ ((Meet.bind q).imp (fun z q zv Hi3 H3 s3 d3 => ?_) fun x k Hi' H' s => k _ _ ((s1.trans s2).trans s))
      refine ro_meet q fun e he k => ?_
      obtain ⟨key, hk, hf⟩ := Option.map_eq_some_iff.mp he
      obtain ⟨p', o, e', dg, r⟩ := dget_rel s3.ok.le ((d1.up s2.hi).up s3.hi) (d2.up s3.hi) hk
      cases e'
      refine ⟨o, dg, ?_⟩
      rcases r with ⟨rfl, r⟩ | ⟨v, e'', rfl, r, dv⟩
      · rw [r] at hf; subst hf; exact k _ _ _ ((s1.trans s2).trans s3) d3
      · rw [r] at hf; subst hf; exact k _ _ _ ((s1.trans s2).trans s3) dv
    | true => exact q.elim
  | _ => exact q.elim
end
/-! ### a dict of one's own -/
def sDct0 (i : Nat) : MS := fun ρ => some (.nx (ρ.set i (.dct false [] [])))
def sDct1 (i : Nat) (f g : Rho → R D) : MS := fun ρ => lift (f ρ) ρ fun y => lift (g ρ) ρ fun z => match keyOf y with
  | some k => some (.nx (ρ.set i (.dct false [keyD k] [z])))
  | none => none
/-- own[e] = f -/
def sPutD (i : Nat) (f e : Rho → R D) : MS := fun ρ => match ρ[i]? with
  | some (.mo (.dct false ks xs)) => lift (f ρ) ρ fun d => lift (e ρ) ρ fun y => match keyOf y with
    | some k => if ks.length < 100000 then some (.nx (ρ.set i (.dct false (dKeys ks xs k d).1 (dKeys ks xs k d).2))) else none
    | none => none
  | _ => none
def eGetO (i : Nat) (g : Rho → R D) : Rho → R D := fun ρ => match ρ[i]? with
  | some (.mo (.dct false ks xs)) => (g ρ).bind fun y => ro ((keyOf y).bind fun k => dFind ks xs k)
  | _ => .bad
def eInO (i : Nat) (g : Rho → R D) : Rho → R D := fun ρ => match ρ[i]? with
  | some (.mo (.dct false ks xs)) => (g ρ).bind fun y => ro ((keyOf y).map fun k => .bl (dFind ks xs k).isSome)
  | _ => .bad
def eNotInO (i : Nat) (g : Rho → R D) : Rho → R D := fun ρ => match ρ[i]? with
  | some (.mo (.dct false ks xs)) => (g ρ).bind fun y => ro ((keyOf y).map fun k => .bl (!(dFind ks xs k).isSome))
  | _ => .bad
section
variable {c : Cc} {W : Xd.WE} {ta ty : TE} {f g : Rho → R D}
theorem Sv.dct {Hi H : Hp} {σ : L2.St} {ρ : Rho} (e : Sv c Hi H σ ρ) {i : Nat} {ks xs : List D} (h : ρ[i]? = some (.dct false ks xs)) :
    ∃ (p : Addr) (kk : List L2.Key) (vs : List V), σ[i]? = some (some (.ref p)) ∧ H p = some (.dK (kk.zip vs)) ∧ Hi p = none ∧ c.H0 p = none ∧ kk.length = vs.length ∧ ks = kk.map keyD ∧ DvA c.K c.cl Hi vs xs := by
  obtain ⟨o, h1, p, u, rfl, h2, h3, h4, kk, vs, rfl, h5, h6, h7⟩ := e.find h
  exact ⟨p, kk, vs, h1, h2, h3, h4, h5, h6, h7⟩
theorem js_dct0 (i : Nat) : JS c W (tAsg tDNewK (gName i)) (sDct0 i) := fun σ ρ Hi H ok sv Dn h => fun p n => by
  have s1 := Step.newOwn (o := .dK []) ok n
  exact h (σ.set i (some (.ref p))) Hi _ s1.hi s1.ok ((sv.step s1).setMo i upd_same (ok.free n) (ok.free0 n) ⟨[], [], rfl, rfl, rfl, .nil⟩ fun j ys _ hr => own_ne sv n j ys hr)
theorem js_dct1 (i : Nat) (ha : JE c W ta f) (hb : JE c W ty g) : JS c W (tAsg (tDisp [(ta, ty)]) (gName i)) (sDct1 i f g) := fun σ ρ Hi H ok sv Dn h => fun p n => by
  have s0 := Step.newOwn (o := .dK []) ok n
  refine ha σ ρ Hi _ s0.ok (sv.step s0) _ ((AftO.lift (AftO.to h s0.hi) (sv.step s0)).imp (fun y h x Hi1 H1 s1 d1 => ?_) fun x k => k)
  refine hb σ ρ Hi1 H1 s1.ok ((sv.step s0).step s1) _ ((AftO.lift (AftO.to h s1.hi) ((sv.step s0).step s1)).imp (fun z h v Hi2 H2 s2 d2 => ?_) fun x k => k)
  split at h
  · rename_i k hk
    have s12 := s1.trans s2
    have e2 : H2 p = some (.dK []) := s12.keep upd_same fun _ z => by cases z
    have nHi : Hi2 p = none := s12.fr p _ upd_same (ok.free n)
    rw [keyOf_some hk] at d1
    have := (d1.up s2.hi).key
    subst this
    refine ⟨e2, [(k, v)], rfl, by simp, ?_⟩
    have em : mergeK [] [(k, v)] = [k].zip [v] := rfl
    rw [em]
    have nt : ∀ ps, HO.dK [] ≠ .tbl ps := fun _ z => by cases z
    have ok3 : Ok c Hi2 (upd H2 p (.dK ([k].zip [v]))) := s2.ok.changeMo e2 nt nHi (ok.free0 n)
    have sv2 := ((sv.step s0).step s1).step s2
    refine h (σ.set i (some (.ref p))) Hi2 _ s2.hi ok3 ?_
    have sv3 : Sv c Hi2 (upd H2 p (.dK ([k].zip [v]))) σ ρ := sv2.other fun j ys hr => own_ne sv n j ys hr
    exact sv3.setMo i upd_same nHi (ok.free0 n) ⟨[k], [v], rfl, rfl, rfl, .cons d2 .nil⟩ fun j ys _ hr => own_ne sv n j ys hr
  · exact h.elim
theorem js_dput (i : Nat) (ha : JE c W ta f) (hb : JE c W ty g) : JS c W (tAsg ta (gSub (tVar i) ty rSetD)) (sPutD i f g) := fun σ ρ Hi H ok sv Dn h => by
  unfold sPutD at h
  split at h
  · rename_i ks xs hr
    obtain ⟨p, kk, vs, e1, e2, e3, e4, e5, e6, e7⟩ := sv.dct hr
    subst e6
    refine ha σ ρ Hi H ok sv _ ((AftO.lift h sv).imp (fun a h v Hi1 H1 s1 d1 => ?_) fun x k => k)
    refine ⟨_, e1, ?_⟩
    refine hb σ ρ Hi1 H1 s1.ok (sv.step s1) _ ((AftO.lift (AftO.to h s1.hi) (sv.step s1)).imp (fun k h v2 Hi2 H2 s2 d2 => ?_) fun x k => k)
    have s12 := s1.trans s2
    have eH : H2 p = some (.dK (kk.zip vs)) := s12.keep e2 fun _ z => by cases z
    split at h
    · rename_i key hk
      obtain ⟨hl, h⟩ := aft_if h
      rw [keyOf_some hk] at d2
      have := d2.key
      subst this
      obtain ⟨kk', vs', q1, q2, q3, q4⟩ := put_rel (k := key) e5 (e7.up s12.hi) (d1.up s2.hi)
      have len : (kk.zip vs).length < sizeLine := by
        rw [List.length_zip, ← e5, Nat.min_self]
        rw [List.length_map] at hl
        exact Nat.lt_of_lt_of_le hl (by decide)
      refine (⟨p, upd H2 p (.dK (kk'.zip vs')), rfl, .inl ⟨_, key, eH, rfl, len, by rw [q1]⟩, ?_⟩ : ∃ a H', V.ref p = .ref a ∧ DPut H2 a (kV key) v H' ∧ _)
      have nHi : Hi2 p = none := s12.fr _ _ e2 e3
      exact h σ Hi2 _ s2.hi (s2.ok.changeMo eH (fun _ z => by cases z) nHi e4) ((sv.step s12).changeMo hr e1 ⟨kk', vs', rfl, q2, q3, q4⟩)
    · exact h.elim
  · exact h.elim
theorem oget_rel {Hi H Hi1 H1 : Hp} {σ : L2.St} {ρ : Rho} (sv : Sv c Hi H σ ρ) {i : Nat} {ks xs : List D} (hr : ρ[i]? = some (.dct false ks xs)) (s1 : Step c Hi H Hi1 H1) {y : V} {d : D} {k : L2.Key} (h2 : Dv c.K c.cl Hi1 y d) (hk : keyOf d = some k) :
    ∃ p o, σ[i]? = some (some (.ref p)) ∧ DGet H1 p y o ∧ ((o = none ∧ dFind ks xs k = none) ∨ ∃ v e, o = some v ∧ dFind ks xs k = some e ∧ Dv c.K c.cl Hi1 v e) := by
  obtain ⟨p, kk, vs, e1, e2, e3, e4, e5, e6, e7⟩ := sv.dct hr
  subst e6
  rw [keyOf_some hk] at h2
  have := h2.key
  subst this
  refine ⟨p, _, e1, .inl ⟨_, k, .inl (s1.keep e2 fun _ z => by cases z), rfl, rfl⟩, ?_⟩
  rcases find_rel (k := k) e5 (e7.up s1.hi) with ⟨q1, q2⟩ | ⟨v, e, q1, q2, q3⟩
  · exact .inl ⟨q1, q2⟩
  · exact .inr ⟨v, e, q1, q2, q3⟩
theorem je_dgetO (i : Nat) (hb : JE c W ty g) : JE c W (tDGet (tVar i) ty) (eGetO i g) := fun σ ρ Hi H ok sv Q q => by
  unfold eGetO at q
  split at q
  · rename_i ks xs hr
    obtain ⟨p0, _, _, e1, _⟩ := sv.dct hr
    refine ⟨_, e1, ?_⟩
    refine hb σ ρ Hi H ok sv _ ((Meet.bind q).imp (fun b q y Hi1 H1 s1 d1 => ?_) fun x k => k)
    refine ro_meet q fun e he k => ?_
    obtain ⟨key, hk, hf⟩ := Option.bind_eq_some_iff.mp he
    obtain ⟨p, o, e1', dg, r⟩ := oget_rel sv hr s1 d1 hk
    rw [e1] at e1'
    cases e1'
    rcases r with ⟨rfl, r⟩ | ⟨v, e', rfl, r, dv⟩
    · rw [r] at hf; cases hf
    · rw [r] at hf
      cases hf
      exact ⟨p0, v, rfl, dg, k _ _ _ s1 dv⟩
  · exact q.elim
theorem je_dinO (i : Nat) (hb : JE c W ty g) : JE c W (tDIn ty (tVar i)) (eInO i g) := fun σ ρ Hi H ok sv Q q => by
  unfold eInO at q
  split at q
  · rename_i ks xs hr
    refine hb σ ρ Hi H ok sv _ ((Meet.bind q).imp (fun b q y Hi1 H1 s1 d1 => ?_) fun x k => k)
    refine ro_meet q fun e he k => ?_
    obtain ⟨key, hk, hf⟩ := Option.map_eq_some_iff.mp he
    obtain ⟨p, o, e1, dg, r⟩ := oget_rel sv hr s1 d1 hk
    subst hf
    refine ⟨_, e1, p, o, rfl, dg, ?_⟩
    rcases r with ⟨rfl, r⟩ | ⟨v, e', rfl, r, dv⟩
    · rw [r] at k; exact k _ _ _ s1 (.bl _)
    · rw [r] at k; exact k _ _ _ s1 (.bl _)
  · exact q.elim
theorem je_dnotinO (i : Nat) (hb : JE c W ty g) : JE c W (tDNotIn ty (tVar i)) (eNotInO i g) := fun σ ρ Hi H ok sv Q q => by
  unfold eNotInO at q
  split at q
  · rename_i ks xs hr
    refine hb σ ρ Hi H ok sv _ ((Meet.bind q).imp (fun b q y Hi1 H1 s1 d1 => ?_) fun x k => k)
    refine ro_meet q fun e he k => ?_
    obtain ⟨key, hk, hf⟩ := Option.map_eq_some_iff.mp he
    obtain ⟨p, o, e1, dg, r⟩ := oget_rel sv hr s1 d1 hk
    subst hf
    refine ⟨_, e1, p, o, rfl, dg, ?_⟩
    rcases r with ⟨rfl, r⟩ | ⟨v, e', rfl, r, dv⟩
    · rw [r] at k; exact k _ _ _ s1 (.bl _)
    · rw [r] at k; exact k _ _ _ s1 (.bl _)
  · exact q.elim
end
end Xd
/-! XdGroup: a dict of lists filled by setdefault(key, []).append(item), as data. -/
namespace Xd
open PySem L2 Xg CwR
/-- one item more under a key -/
def addG (G : List (Str × List D)) (s : Str) (e : D) : List (Str × List D) :=
  if (G.any fun g => decide (g.1 = s)) = true then G.map (fun g => if g.1 = s then (g.1, g.2 ++ [e]) else g) else G ++ [(s, [e])]
def gKs (G : List (Str × List D)) : List D := G.map fun g => D.str g.1
def gXs (G : List (Str × List D)) : List D := G.map fun g => D.lst g.2
def gGet (G : List (Str × List D)) (s : Str) : Option (List D) := (G.find? fun g => decide (g.1 = s)).map (·.2)
theorem dFind_group (s : Str) : ∀ G : List (Str × List D), dFind (gKs G) (gXs G) (.inr s) = (gGet G s).map D.lst
  | [] => rfl
  | g :: G => by
    have ih := dFind_group s G
    unfold dFind gKs gXs gGet at *
    rw [List.map_cons, List.map_cons, List.zip_cons_cons, List.find?_cons, List.find?_cons]
    have e : keyOf (D.str g.1) = some (.inr g.1) := rfl
    by_cases c : g.1 = s
    · subst c
      simp [e]
    · simp [e, c]
      simpa using ih
theorem gGet_none {s : Str} : ∀ {G : List (Str × List D)}, (G.any fun g => decide (g.1 = s)) = false → gGet G s = none
  | [], _ => rfl
  | g :: G, h => by
    rw [List.any_cons, Bool.or_eq_false_iff] at h
    unfold gGet
    rw [List.find?_cons, h.1]
    exact gGet_none h.2
theorem gGet_add (s z : Str) (e : D) (G : List (Str × List D)) : gGet (addG G s e) z = if z = s then some ((gGet G s).getD [] ++ [e]) else gGet G z := by
  unfold addG
  by_cases c : (G.any fun g => decide (g.1 = s)) = true
  · rw [if_pos c]
    induction G with
    | nil => cases c
    | cons g G ih =>
      unfold gGet
      rw [List.map_cons, List.find?_cons]
      by_cases cs : g.1 = s
      · rw [if_pos cs]
        by_cases cz : z = s
        · subst cz
          rw [if_pos rfl, List.find?_cons]
          simp [cs]
        · rw [if_neg cz, List.find?_cons]
          have c1 : ¬ g.1 = z := fun q => cz (q.symm.trans cs)
          simp only [c1, decide_false]
          by_cases ca : (G.any fun g => decide (g.1 = s)) = true
          · have := ih ca
            unfold gGet at this
            rw [this, if_neg cz]
          · have : G.map (fun g => if g.1 = s then (g.1, g.2 ++ [e]) else g) = G := by
              refine List.map_congr_left (g := id) (fun g hg => ?_) |>.trans (List.map_id G)
              rw [if_neg]
              · rfl
              · intro q
                exact ca (List.any_eq_true.mpr ⟨g, hg, decide_eq_true q⟩)
            rw [this]
      · rw [if_neg cs]
        have ca : (G.any fun g => decide (g.1 = s)) = true := by
          rw [List.any_cons, decide_eq_false cs, Bool.false_or] at c
          exact c
        have := ih ca
        unfold gGet at this
        by_cases c1 : g.1 = z
        · have cz : z ≠ s := fun q => cs (c1.trans q)
          rw [if_neg cz, List.find?_cons]
          simp [c1]
        · simp only [c1, decide_false]
          rw [this]
          by_cases cz : z = s
          · rw [if_pos cz, if_pos cz, List.find?_cons]
            simp [cs]
          · rw [if_neg cz, if_neg cz, List.find?_cons]
            simp [c1]
  · rw [if_neg c]
    have c' : (G.any fun g => decide (g.1 = s)) = false := Bool.eq_false_iff.mpr c
    by_cases cz : z = s
    · subst cz
      rw [if_pos rfl, gGet_none c']
      unfold gGet
      rw [List.find?_append]
      have : G.find? (fun g => decide (g.1 = z)) = none := by
        have := gGet_none c'
        unfold gGet at this
        simpa using this
      rw [this]
      simp
    · rw [if_neg cz]
      unfold gGet
      rw [List.find?_append]
      have c1 : ¬ s = z := fun q => cz q.symm
      cases G.find? (fun g => decide (g.1 = z)) with
      | none => simp [c1]
      | some _ => simp
/-- rows (state, move, after) grouped by the state -/
abbrev Rw := Str × D × D
def rowD (r : Rw) : D := .tup [.str r.1, r.2.1, r.2.2]
def groupR (rows : List Rw) : List (Str × List D) := rows.foldl (fun G r => addG G r.1 (.tup [r.2.1, r.2.2])) []
def movesR (rows : List Rw) (s : Str) : List D := (rows.filter fun r => decide (r.1 = s)).map fun r => D.tup [r.2.1, r.2.2]
theorem group_get (rows : List Rw) (s : Str) : (gGet (groupR rows) s).getD [] = movesR rows s := by
  have key : ∀ (rows : List Rw) (G : List (Str × List D)), (gGet (rows.foldl (fun G r => addG G r.1 (.tup [r.2.1, r.2.2])) G) s).getD [] = (gGet G s).getD [] ++ movesR rows s := by
    intro rows
    induction rows with
    | nil => intro G; simp [movesR]
    | cons r rows ih =>
      intro G
      rw [List.foldl_cons, ih, gGet_add]
      unfold movesR
      by_cases c : r.1 = s
      · subst c
        simp
      · have c' : ¬ s = r.1 := fun q => c q.symm
        simp [c, c']
  have := key rows []
  unfold groupR
  rw [this]
  rfl
theorem getD_map_lst (o : Option (List D)) : (o.map D.lst).getD (.lst []) = .lst (o.getD []) := by cases o <;> rfl
theorem addG_len (G : List (Str × List D)) (s : Str) (e : D) : (addG G s e).length ≤ G.length + 1 := by
  unfold addG
  split
  · rw [List.length_map]; omega
  · rw [List.length_append]; exact Nat.le_refl _
end Xd
/-! XdMeth: a result that is now a value, now a new list; methods of own classes; own.clear(). -/
namespace Xd
open PySem L2 Xg CwR
/-- a value, or a new list -/
inductive Mx where
  | v (d : D) | l (xs : List D)
def mxD : Mx → D
  | .v d => d
  | .l xs => .lst xs
def outM : Option O → R Mx
  | some (.rt d) => .ok (.v d)
  | some (.rf xs) => .ok (.l xs)
  | some (.nx _) => .ok (.v .non)
  | some (.ex x _) => .exc x
  | _ => .bad
def runM (n k : Nat) (g : MS) (ds : List D) : R Mx := if ds.length = k then outM (g (rho0 n ds)) else .bad
def QM (K : PySem.W.Frag) (cl : Nat → Addr) (c : Cc) (H : Hp) (Q : VK) : Mx → Prop
  | .v d => ∀ v Hi' H', Ok c Hi' H' → Dv K cl Hi' v d → Q v H'
  | .l xs => ∀ p us Hi' H', Ok c Hi' H' → H p = none → Hi' p = none → H' p = some (.lst us) → DvA K cl Hi' us xs → Q (.ref p) H'
def spM (K : PySem.W.Frag) (cl : Nat → Addr) (tb : List Addr) (m : List D → R Mx) : Sp := fun vs H Q E => ∃ Hq ds, Ok ⟨K, cl, Hq, H, 0, tb⟩ Hq H ∧ DvA K cl Hq vs ds ∧
  Meet (m ds) (QM K cl ⟨K, cl, Hq, H, 0, tb⟩ H Q) (fun x => ∀ Hi' H', Ok ⟨K, cl, Hq, H, 0, tb⟩ Hi' H' → ∀ e d, XcAt K cl Hi' x e d → E e d H')
section
variable {P : Program} {w : World} {K : PySem.W.Frag} {mg : Str → Option Value} {base : Heap} {cl : Nat → Addr} {tb : List Addr}
theorem runM_len {n k : Nat} {g : MS} {ds : List D} {p : Mx → Prop} {q : Xc → Prop} (h : Meet (runM n k g ds) p q) : ds.length = k ∧ Meet (outM (g (rho0 n ds))) p q := meet_if h
theorem okM {x qual : Str} {st : Stmt} {f : Addr} {fd : FuncData} {N ps : List Str} {k : Nat} {g : MS} (F : Fun K x qual st f fd) (S : FnScope N ps (defScope st))
    (body : ∀ (cdv : Value) (A : Around) (outer : List Env) (s : Shared) (H Hq : Hp) (E : XK), Room k (A.deeper (PyProof.Rows.envOfC qual (defScope st) s.heap.objs.size f cdv)) →
      ∃ t, PSs (cxOf CX0 P w K mg base N qual (defScope st) f cdv A outer s H E).nox (defBody st) t ∧ JS ⟨K, cl, Hq, H, 0, tb⟩ W0 t g) :
    FnOk P w K mg base CX0 (k + 1) f fd ps (spM K cl tb fun ds => noX (runM N.length ps.length g ds)) := by
  refine F.ok S (fun vs H Q E h => ?_) (fun cdv A' outer s H vs Q E hr h => ?_)
  · obtain ⟨Hq, ds, _, d, m⟩ := h
    rw [d.length]
    exact (runM_len (noX_meet m)).1
  · obtain ⟨Hq, ds, sm, d, m⟩ := h
    obtain ⟨t, h1, h2⟩ := body cdv A' outer s H Hq E hr
    refine ⟨t, h1, h2 _ (rho0 N.length ds) Hq H sm (sv_start d) _ ?_⟩
    have m := (runM_len (noX_meet m)).2
    cases hg : g (rho0 N.length ds) with
    | none => rw [hg] at m; exact m.elim
    | some o =>
      rw [hg] at m
      cases o with
      | nx ρ => exact fun σ' Hi' H' sm' ok' sv' => m _ Hi' H' ok' .non
      | bk ρ => exact m.elim
      | ct ρ => exact m.elim
      | rt d => exact fun v Hi' H' sm' ok' dv => m v Hi' H' ok' dv
      | rf xs => exact fun p us Hi' H' sm' ok' e n n0 dv => m p us Hi' H' ok' n0 n e dv
      | ex x ρ => exact m.elim
end
/-- a new list or a value comes into a slot -/
def mxS : Mx → Sl
  | .v d => .val d
  | .l xs => .own xs
def sSetM (i : Nat) (f : Rho → R Mx) : MS := fun ρ => lift (f ρ) ρ fun r => some (.nx (ρ.set i (mxS r)))
def sRetM (f : Rho → R Mx) : MS := fun ρ => lift (f ρ) ρ fun r => match r with
  | .v d => some (.rt d)
  | .l xs => some (.rf xs)
def RetM (c : Cc) (Hi H : Hp) (Q : VK) : Mx → Prop
  | .v d => RetD c Hi H Q d
  | .l xs => RetL c Hi H Q xs
/-- an expression whose value is now a value, now a new list -/
def JM2 (c : Cc) (W : Xd.WE) (te : TE) (f : Rho → R Mx) : Prop := ∀ (σ : L2.St) (ρ : Rho) (Hi H : Hp), Ok c Hi H → Sv c Hi H σ ρ → ∀ Q : VK, Meet (f ρ) (RetM c Hi H Q) (fun x => ∀ Hi' H', Step c Hi H Hi' H' → W x σ Hi' H') → te σ H Q
def mCallM (m : List D → R Mx) (f : Rho → R (List D)) : Rho → R Mx := fun ρ => (f ρ).bind m
def eMx (f : Rho → R Mx) : Rho → R D := fun ρ => (f ρ).bind fun r => .ok (mxD r)
/-- o.m(..): the object's data, then the arguments; ok tells that no attribute of that name hides the method -/
def eMeth (n : Nat) (nm : Str) (m : List D → R D) (f : Rho → R D) (fs : Rho → R (List D)) : Rho → R D := fun ρ => (f ρ).bind fun o => match o with
  | .ins n' ns xs => if n' = n ∧ nm ∉ ns then (fs ρ).bind fun ds => noX (m (.ins n' ns xs :: ds)) else .bad
  | _ => .bad
def lMeth (n : Nat) (nm : Str) (m : List D → R (List D)) (f : Rho → R D) (fs : Rho → R (List D)) : Rho → R (List D) := fun ρ => (f ρ).bind fun o => match o with
  | .ins n' ns xs => if n' = n ∧ nm ∉ ns then (fs ρ).bind fun ds => noX (m (.ins n' ns xs :: ds)) else .bad
  | _ => .bad
def mMeth (n : Nat) (nm : Str) (m : List D → R Mx) (f : Rho → R D) (fs : Rho → R (List D)) : Rho → R Mx := fun ρ => (f ρ).bind fun o => match o with
  | .ins n' ns xs => if n' = n ∧ nm ∉ ns then (fs ρ).bind fun ds => noX (m (.ins n' ns xs :: ds)) else .bad
  | _ => .bad
section
variable {c : Cc} {W : Xd.WE} {te : TE} {ts : TA} {f : Rho → R D} {fs : Rho → R (List D)} {fm : Rho → R Mx}
theorem lookup_no {nm : Str} : ∀ {ns : List Str} {vs : List V}, nm ∉ ns → (ns.zip vs).lookup nm = none
  | [], _, _ => rfl
  | n :: ns, [], _ => rfl
  | n :: ns, v :: vs, h => by
    rw [List.zip_cons_cons, List.lookup_cons]
    have h1 : ¬ nm = n := fun e => h (by rw [e]; exact List.mem_cons_self)
    have : (nm == n) = false := by simp [h1]
    rw [this]
    exact lookup_no fun k => h (List.mem_cons_of_mem _ k)
theorem meth_at {n : Nat} {nm : Str} {Hi H : Hp} (ok : Ok c Hi H) {v : V} {n' : Nat} {ns : List Str} {xs : List D} (h : Dv c.K c.cl Hi v (.ins n' ns xs)) (e : n' = n) (hn : nm ∉ ns) :
    ∃ a dx gs, v = .ref a ∧ H a = some (.ins (c.cl n) dx gs) ∧ gs.lookup nm = none := by
  subst e
  cases h with
  | ins h1 h2 h3 => exact ⟨_, _, _, rfl, ok.le _ _ h1, lookup_no hn⟩
theorem je_meth {n : Nat} {nm : Str} {m : List D → R D} (ha : JE c W te f) (hs : JA c W ts fs) : JE c W (tMeth (c.cl n) nm (spD c.K c.cl c.tb m) [] E0 te ts) (eMeth n nm m f fs) := fun σ ρ Hi H ok sv Q h => by
  refine ha σ ρ Hi H ok sv _ ((Meet.bind h).imp (fun d h v Hi1 H1 s1 d1 => ?_) fun x k => k)
  cases d with
  | ins n' ns xs =>
    obtain ⟨⟨e, hn⟩, h⟩ := meet_if h
    obtain ⟨a, dx, gs, rfl, k1, k2⟩ := meth_at s1.ok d1 e hn
    refine ⟨a, dx, gs, rfl, k1, k2, ?_⟩
    refine hs σ ρ Hi1 H1 s1.ok (sv.step s1) _ ((Meet.bind h).imp (fun ds h vs Hi2 H2 s2 d2 => ?_) fun x k Hi' H' s => k _ _ (s1.trans s))
    rw [List.append_nil]
    refine ⟨Hi2, _, s2.ok.here, .cons (d1.up s2.hi) d2, (noX_meet h).imp (fun d k v Hi3 H3 o3 dv => ?_) fun x k => k.elim⟩
    exact k v Hi3 H3 ((s1.trans s2).trans (ok_step s2.ok o3)) dv
  | _ => exact h.elim
theorem jl_meth {n : Nat} {nm : Str} {m : List D → R (List D)} (ha : JE c W te f) (hs : JA c W ts fs) : JL c W (tMeth (c.cl n) nm (spL c.K c.cl c.tb m) [] E0 te ts) (lMeth n nm m f fs) := fun σ ρ Hi H ok sv Q h => by
  refine ha σ ρ Hi H ok sv _ ((Meet.bind h).imp (fun d h v Hi1 H1 s1 d1 => ?_) fun x k => k)
  cases d with
  | ins n' ns xs =>
    obtain ⟨⟨e, hn⟩, h⟩ := meet_if h
    obtain ⟨a, dx, gs, rfl, k1, k2⟩ := meth_at s1.ok d1 e hn
    refine ⟨a, dx, gs, rfl, k1, k2, ?_⟩
    refine hs σ ρ Hi1 H1 s1.ok (sv.step s1) _ ((Meet.bind h).imp (fun ds h vs Hi2 H2 s2 d2 => ?_) fun x k Hi' H' s => k _ _ (s1.trans s))
    rw [List.append_nil]
    refine ⟨Hi2, _, s2.ok.here, .cons (d1.up s2.hi) d2, (noX_meet h).imp (fun d k p us Hi3 H3 o3 q1 q2 q3 dv => ?_) fun x k => k.elim⟩
    exact k p us Hi3 H3 ((s1.trans s2).trans (ok_step s2.ok o3)) (s1.free (s2.free q1)) q2 q3 dv
  | _ => exact h.elim
theorem jm_meth {n : Nat} {nm : Str} {m : List D → R Mx} (ha : JE c W te f) (hs : JA c W ts fs) : JM2 c W (tMeth (c.cl n) nm (spM c.K c.cl c.tb m) [] E0 te ts) (mMeth n nm m f fs) := fun σ ρ Hi H ok sv Q h => by
  refine ha σ ρ Hi H ok sv _ ((Meet.bind h).imp (fun d h v Hi1 H1 s1 d1 => ?_) fun x k => k)
  cases d with
  | ins n' ns xs =>
    obtain ⟨⟨e, hn⟩, h⟩ := meet_if h
    obtain ⟨a, dx, gs, rfl, k1, k2⟩ := meth_at s1.ok d1 e hn
    refine ⟨a, dx, gs, rfl, k1, k2, ?_⟩
    refine hs σ ρ Hi1 H1 s1.ok (sv.step s1) _ ((Meet.bind h).imp (fun ds h vs Hi2 H2 s2 d2 => ?_) fun x k Hi' H' s => k _ _ (s1.trans s))
    rw [List.append_nil]
    refine ⟨Hi2, _, s2.ok.here, .cons (d1.up s2.hi) d2, (noX_meet h).imp (fun r k => ?_) fun x k => k.elim⟩
    cases r with
    | v d => exact fun v Hi3 H3 o3 dv => k v Hi3 H3 ((s1.trans s2).trans (ok_step s2.ok o3)) dv
    | l xs => exact fun p us Hi3 H3 o3 q1 q2 q3 dv => k p us Hi3 H3 ((s1.trans s2).trans (ok_step s2.ok o3)) (s1.free (s2.free q1)) q2 q3 dv
  | _ => exact h.elim
theorem jm_call0 {m : List D → R Mx} (ha : JA c W ts fs) : JM2 c W (tCall (spM c.K c.cl c.tb m) [] E0 ts) (mCallM (fun ds => noX (m ds)) fs) := fun σ ρ Hi H ok sv Q h => by
  refine ha σ ρ Hi H ok sv _ ((Meet.bind h).imp (fun ds h vs Hi1 H1 s1 d1 => ?_) fun x k => k)
  rw [List.append_nil]
  refine ⟨Hi1, ds, s1.ok.here, d1, (noX_meet h).imp (fun r k => ?_) fun x k => k.elim⟩
  cases r with
  | v d => exact fun v Hi2 H2 o2 dv => k v Hi2 H2 (s1.trans (ok_step s1.ok o2)) dv
  | l xs => exact fun p us Hi2 H2 o2 q1 q2 q3 dv => k p us Hi2 H2 (s1.trans (ok_step s1.ok o2)) (s1.free q1) q2 q3 dv
/-- the value alone -/
theorem je_mx (h : JM2 c W te fm) : JE c W te (eMx fm) := fun σ ρ Hi H ok sv Q q => by
  refine h σ ρ Hi H ok sv Q ((Meet.bind q).imp (fun r k => ?_) fun x k => k)
  cases r with
  | v d => exact k
  | l xs =>
      refine fun p us Hi' H' s n n' e dv => ?_
      have np : H' p ≠ none := by rw [e]; simp
      have fz := s.ok.freeze e (fun _ z => by cases z) n' (ok.free0 n)
      refine k _ _ _ ⟨s.hi.trans (same_upd n'), s.h, fun b o e1 n1 => ?_, s.ok0, fz⟩ (.lst upd_same (dv.up (same_upd n')))
      rw [upd_ne (ne_of_none e1 n)]
      exact s.fr b o e1 n1
theorem js_setM (i : Nat) (h : JM2 c W te fm) : JS c W (tAsg te (gName i)) (sSetM i fm) := fun σ ρ Hi H ok sv Dn q => by
  refine h σ ρ Hi H ok sv _ ((AftO.lift q sv).imp (fun r k => ?_) fun x k => k)
  cases r with
  | v d => exact fun v Hi1 H1 s1 d1 => k (σ.set i (some v)) Hi1 H1 s1.hi s1.ok ((sv.step s1).setVal i d1)
  | l xs => exact fun p vs Hi1 H1 s1 n n' e d1 => k (σ.set i (some (.ref p))) Hi1 H1 s1.hi s1.ok ((sv.step s1).setOwn i e n' (ok.free0 n) d1 fun j ys _ hr => own_ne sv n j ys hr)
theorem js_retM (h : JM2 c W te fm) : JS c W (tRet te) (sRetM fm) := fun σ ρ Hi H ok sv Dn q => by
  refine h σ ρ Hi H ok sv _ ((AftO.lift q sv).imp (fun r k => ?_) fun x k => k)
  cases r with
  | v d => exact fun v Hi1 H1 s1 d1 => k v Hi1 H1 s1.hi s1.ok d1
  | l xs => exact fun p vs Hi1 H1 s1 n n' e d1 => k p vs Hi1 H1 s1.hi s1.ok e n' (ok.free0 n) d1
/-- own.clear() -/
def sClr (i : Nat) : MS := fun ρ => match ρ[i]? with
  | some (.mo (.lst _)) => some (.nx (ρ.set i (.own [])))
  | _ => none
theorem js_clr (i : Nat) : JS c W (tDrop (tBM0 c.K "list" rClear (tVar i))) (sClr i) := fun σ ρ Hi H ok sv Dn h => by
  unfold sClr at h
  split at h
  · rename_i xs hr
    obtain ⟨p, vs, e1, e2, e3, e4, e5⟩ := sv.own hr
    refine ⟨_, e1, .inl ⟨rfl, _, .inl (.inl e2)⟩, p, vs, rfl, rfl, e2, ?_⟩
    exact h _ Hi _ (Same.refl _) (ok.change e2 e3 e4) (sv.change hr e1 .nil)
  · exact h.elim
/-- own[e] -/
def eIxO (i : Nat) (g : Rho → R D) : Rho → R D := fun ρ => match ρ[i]? with
  | some (.mo (.lst xs)) => (g ρ).bind fun k => ro (match k with
    | .int j => atI xs j
    | _ => none)
  | _ => e2 oIx (eVar i) g ρ
theorem je_ixO (i : Nat) {f : Rho → R D} (ha : JE c W te f) : JE c W (tOp (rIx c.K) (tVar i) te) (eIxO i f) := fun σ ρ Hi H ok sv Q q => by
  unfold eIxO at q
  split at q
  · rename_i xs hr
    obtain ⟨p, vs, e1, e2, e3, e4, e5⟩ := sv.own hr
    refine ⟨_, e1, ?_⟩
    refine ha σ ρ Hi H ok sv _ ((Meet.bind q).imp (fun k q y Hi1 H1 s1 d1 => ?_) fun x k => k)
    refine ro_meet q fun e he k1 => ?_
    split at he
    · rename_i j
      cases d1
      obtain ⟨v, q1, q2⟩ := (e5.up s1.hi).atI' he
      exact .inl ⟨_, _, _, _, rfl, rfl, .inl (.inl (s1.lst e2)), q1, k1 _ _ _ s1 q2⟩
    · cases he
  · exact je_op jo_ix (je_var i) ha σ ρ Hi H ok sv Q q
end
theorem units1 {k : Nat} {A : Around} (r : Room k A) : A.units + 1 < cLine := by have := r.un; omega
end Xd
/-! XdEqual: _law_equal, the same text in many laws, says True of equal data. -/
namespace Xd
open PySem L2 Xg CwR
def eqPush : MS :=
  (sFor (iR1 (aCons (eCB cLen (aCons (eVar 6) aNil)) aNil)) (gN 7)
    (sApp 2 (eTup (aCons (e2 oIx (eVar 5) (eVar 7)) (aCons (e2 oIx (eVar 6) (eVar 7)) aNil)))))
def eqDeep : MS :=
  (sSeq (sIf (bOr (bTest (e2 oNe (eCB cIsi (aCons (eVar 5) (aCons (eC (.opq (.ty "list"))) aNil))) (eCB cIsi (aCons (eVar 6) (aCons (eC (.opq (.ty "list"))) aNil))))) (bTest (e2 oNe (eCB cIsi (aCons (eVar 5) (aCons (eC (.opq (.ty "tuple"))) aNil))) (eCB cIsi (aCons (eVar 6) (aCons (eC (.opq (.ty "tuple"))) aNil))))))
    (sRet (eC (.bl false)))
    sNext)
  (sSeq (sIf (bTest (eCB cIsi (aCons (eVar 6) (aCons (eC (.opq (.ty "dict"))) aNil))))
    (sSeq (sIf (bOr (bNot (bTest (eCB cIsi (aCons (eVar 5) (aCons (eC (.opq (.ty "dict"))) aNil))))) (bTest (e2 oNe (eFz (lCB cListL (aCons (eVar 5) aNil))) (eFz (lCB cListL (aCons (eVar 6) aNil))))))
    (sRet (eC (.bl false)))
    sNext)
  (sSeq (sSet 5 (eFz (lLc (Xd.iSeq (eVar 6)) (gN 8) bYes (e2 oIx (eVar 5) (eVar 8)) [8])))
  (sSet 6 (eFz (lLc (Xd.iSeq (eVar 6)) (gN 8) bYes (e2 oIx (eVar 6) (eVar 8)) [8])))))
    sNext)
  (sSeq (sIf (bTest (e2 oNe (eCB cLen (aCons (eVar 5) aNil)) (eCB cLen (aCons (eVar 6) aNil))))
    (sRet (eC (.bl false)))
    sNext)
  eqPush)))
def eqBody : MS :=
  (sSeq (sIf (bView (bTest (e2 oEq (eCB cLen (aCons (eVar 2) aNil)) (eC (.int 0)))))
    (sRet (eC (.bl true)))
    sNext)
  (sSeq (sPop 4 2)
  (sSeq (sSet 5 (e2 oIx (eVar 4) (eC (.int 0))))
  (sSeq (sSet 6 (e2 oIx (eVar 4) (eC (.int 1))))
  (sIf (bOr (bTest (e2 oIs (eVar 6) (eC .non))) (bTest (eCB cIsi (aCons (eVar 6) (aCons (eC (.opq (.ty "bool"))) aNil)))))
    (sIf (bOr (bTest (e2 oNe (eCB cIsi (aCons (eVar 5) (aCons (eC (.opq (.ty "bool"))) aNil))) (eCB cIsi (aCons (eVar 6) (aCons (eC (.opq (.ty "bool"))) aNil))))) (bTest (e2 oNe (eVar 5) (eVar 6))))
    (sRet (eC (.bl false)))
    sNext)
    (sIf (bTest (eCB cIsi (aCons (eVar 6) (aCons (eC (.opq (.ty "int"))) aNil))))
    (sIf (bOr (bNot (bTest (eCall (fun ds => noX (mWhole ds)) (aCons (eVar 5) aNil)))) (bTest (e2 oNe (eVar 5) (eVar 6))))
    (sRet (eC (.bl false)))
    sNext)
    (sIf (bTest (eCB cIsi (aCons (eVar 6) (aCons (eC (.opq (.ty "str"))) aNil))))
    (sIf (bOr (bNot (bTest (eCB cIsi (aCons (eVar 5) (aCons (eC (.opq (.ty "str"))) aNil))))) (bTest (e2 oNe (eVar 5) (eVar 6))))
    (sRet (eC (.bl false)))
    sNext)
    eqDeep)))))))def gEqual : MS :=
  (sSeq (sSetL 2 (lLst (aCons (eTup (aCons (eVar 0) (aCons (eVar 1) aNil))) aNil)))
  (sSeq (sFor (iR1 (aCons (eC (.int 6000)) aNil)) (gN 3) eqBody)
  (sRet (eC (.bl false)))))
def mEqual : List D → R D := fun ds => noX (runD 9 2 gEqual ds)
abbrev pairD (d : D) : D := .tup [d, d]
theorem ib : isub "int" "bool" = false := by decide
theorem ii : isub "int" "int" = true := by decide
theorem sb : isub "str" "bool" = false := by decide
theorem si : isub "str" "int" = false := by decide
theorem ss : isub "str" "str" = true := by decide
theorem tb' : isub "tuple" "bool" = false := by decide
theorem ti' : isub "tuple" "int" = false := by decide
theorem ts' : isub "tuple" "str" = false := by decide
theorem tl' : isub "tuple" "list" = false := by decide
theorem tt' : isub "tuple" "tuple" = true := by decide
theorem td' : isub "tuple" "dict" = false := by decide
/-- nothing waits any more -/
theorem eq_end (a b : D) (x3 x4 x5 x6 x7 x8 : Sl) : eqBody [.val a, .val b, .own [], x3, x4, x5, x6, x7, x8] = some (.rt (.bl true)) := by
  unfold eqBody
  have h : (sIf (bView (bTest (e2 oEq (eCB cLen (aCons (eVar 2) aNil)) (eC (.int 0))))) (sRet (eC (.bl true))) sNext) [.val a, .val b, .own [], x3, x4, x5, x6, x7, x8] = some (.rt (.bl true)) := by
    rw [if_yes ?_]
    · rfl
    · refine noX_of (test_ok (op_ok (cb_ok (a1_ok (d := .lst []) rfl)) rfl ?_))
      exact oEq_int 0 0
  unfold sSeq
  rw [h]
/-- what waits last is taken -/
theorem eq_take (a b : D) (W : List D) (d e : D) (x3 x4 x5 x6 x7 x8 : Sl) (rest : MS) :
    sSeq (sIf (bView (bTest (e2 oEq (eCB cLen (aCons (eVar 2) aNil)) (eC (.int 0))))) (sRet (eC (.bl true))) sNext) (sSeq (sPop 4 2) (sSeq (sSet 5 (e2 oIx (eVar 4) (eC (.int 0)))) (sSeq (sSet 6 (e2 oIx (eVar 4) (eC (.int 1)))) rest))) [.val a, .val b, .own (W ++ [.tup [d, e]]), x3, x4, x5, x6, x7, x8] =
      rest [.val a, .val b, .own W, x3, .val (.tup [d, e]), .val d, .val e, x7, x8] := by
  have h1 : (sIf (bView (bTest (e2 oEq (eCB cLen (aCons (eVar 2) aNil)) (eC (.int 0))))) (sRet (eC (.bl true))) sNext) [.val a, .val b, .own (W ++ [.tup [d, e]]), x3, x4, x5, x6, x7, x8] = some (.nx [.val a, .val b, .own (W ++ [.tup [d, e]]), x3, x4, x5, x6, x7, x8]) := by
    rw [if_no ?_]
    · rfl
    · refine noX_of (test_ok (op_ok (cb_ok (a1_ok (d := .lst (W ++ [.tup [d, e]])) rfl)) rfl ?_))
      refine (oEq_int _ _).trans ?_
      rw [decide_eq_false]
      rw [List.length_append]
      show ¬ (((W.length + 1 : Nat) : Int) = 0)
      omega
  have h2 : sPop 4 2 [.val a, .val b, .own (W ++ [.tup [d, e]]), x3, x4, x5, x6, x7, x8] = some (.nx [.val a, .val b, .own W, x3, .val (.tup [d, e]), x5, x6, x7, x8]) := by
    show (match (W ++ [D.tup [d, e]])[(W ++ [D.tup [d, e]]).length - 1]? with
      | some d' => some (O.nx (([Sl.val a, .val b, .own (W ++ [D.tup [d, e]]), x3, x4, x5, x6, x7, x8].set 2 (.own (W ++ [D.tup [d, e]]).dropLast)).set 4 (.val d')))
      | none => none) = _
    rw [List.length_append, List.length_singleton, Nat.add_sub_cancel, List.getElem?_append_right (Nat.le_refl _), Nat.sub_self, List.dropLast_concat]
    rfl
  exact (seq_nx h1).trans ((seq_nx h2).trans ((seq_nx (set_ok (d := d) rfl)).trans (seq_nx (set_ok (d := e) rfl))))
/-! ### trees -/
mutual
def szD : D → Nat
  | .lst xs => szDs xs + 1
  | .tup xs => szDs xs + 1
  | _ => 1
def szDs : List D → Nat
  | [] => 0
  | d :: ds => szD d + szDs ds
end
mutual
/-- numbers, texts, None, bools, and rows of such -/
def okT : D → Bool
  | .non | .bl _ | .int _ | .str _ => true
  | .lst xs => okTs xs
  | .tup xs => okTs xs
  | _ => false
def okTs : List D → Bool
  | [] => true
  | d :: ds => okT d && okTs ds
end
theorem szDs_app : ∀ (xs ys : List D), szDs (xs ++ ys) = szDs xs + szDs ys
  | [], ys => by rw [List.nil_append, szDs, Nat.zero_add]
  | x :: xs, ys => by rw [List.cons_append, szDs, szDs, szDs_app xs ys]; omega
theorem okTs_app : ∀ (xs ys : List D), okTs (xs ++ ys) = (okTs xs && okTs ys)
  | [], ys => by rw [List.nil_append, okTs, Bool.true_and]
  | x :: xs, ys => by rw [List.cons_append, okTs, okTs, okTs_app xs ys, Bool.and_assoc]
theorem len_szDs : ∀ xs : List D, xs.length ≤ szDs xs
  | [] => Nat.zero_le _
  | x :: xs => by
    have h1 := len_szDs xs
    have h2 : 1 ≤ szD x := by cases x <;> simp [szD]
    rw [List.length_cons, szDs]
    omega
def kids : D → List D
  | .lst xs => xs
  | .tup xs => xs
  | _ => []
theorem sz_kids (d : D) (h : okT d = true) : szD d = szDs (kids d) + 1 := by
  cases d <;> first | rfl | (simp [szD, kids, szDs]) | (simp [okT] at h)
theorem ok_kids {d : D} (h : okT d = true) : okTs (kids d) = true := by
  cases d <;> first | rfl | exact h | (simp [okT] at h)
theorem nb : isub "NoneType" "bool" = false := by decide
theorem bb : isub "bool" "bool" = true := by decide
theorem lb : isub "list" "bool" = false := by decide
theorem li : isub "list" "int" = false := by decide
theorem ls : isub "list" "str" = false := by decide
theorem ll : isub "list" "list" = true := by decide
theorem lt' : isub "list" "tuple" = false := by decide
theorem ld : isub "list" "dict" = false := by decide
theorem ty_lst (xs : List D) : tyD (.lst xs) = some "list" := rfl
theorem push_ok {a b : D} {s : D} (W : List D) (hs : ∃ xs, (s = .lst xs ∨ s = .tup xs) ∧ kids s = xs) (hl : W.length + (kids s).length ≤ 6000) (x3 x4 x7 x8 : Sl) : ∃ y7, eqPush [.val a, .val b, .own W, x3, x4, .val s, .val s, x7, x8] = some (.nx [.val a, .val b, .own (W ++ (kids s).map pairD), x3, x4, .val s, .val s, y7, x8]) := by
  obtain ⟨xs, hs, hk⟩ := hs
  rw [hk] at hl ⊢
  have hix : ∀ k : Nat, (h : k < xs.length) → oIx s (.int (k : Nat)) = some xs[k] := fun k h => by
    rcases hs with rfl | rfl <;> exact at_ok h
  have e0 : iR1 (aCons (eCB cLen (aCons (eVar 6) aNil)) aNil) [.val a, .val b, .own W, x3, x4, .val s, .val s, x7, x8] = .ok (rIntD 0 xs.length) := by
    refine r1_ok (a1_ok ((cb_ok (a1_ok (d := s) rfl)).trans ?_)) (by omega)
    rcases hs with rfl | rfl <;> rfl
  unfold eqPush
  rw [for_ok e0]
  obtain ⟨ρ', e, y, rfl⟩ := forR_range (g := gN 7) (b := sApp 2 (eTup (aCons (e2 oIx (eVar 5) (eVar 7)) (aCons (e2 oIx (eVar 6) (eVar 7)) aNil)))) (n := xs.length)
    (fun k ρ => ∃ y, ρ = [.val a, .val b, .own (W ++ (xs.take k).map pairD), x3, x4, .val s, .val s, y, x8]) (fun k ρ hk i => by
      obtain ⟨y, rfl⟩ := i
      refine ⟨_, _, rfl, (app_ok (d := pairD xs[k]) (xs := W ++ (xs.take k).map pairD) rfl (tup_ok (a2_ok (op_ok rfl rfl (hix k hk)) (op_ok rfl rfl (hix k hk))) (Nat.le_of_ble_eq_true rfl)) ?_), .val (.int (k : Nat)), ?_⟩
      · rw [List.length_append, List.length_map, List.length_take]
        omega
      · rw [List.take_succ_eq_append_getElem hk, List.map_append, List.append_assoc]
        rfl) (ρ := [.val a, .val b, .own W, x3, x4, .val s, .val s, x7, x8]) ⟨x7, by simp⟩
  rw [List.take_length] at e
  exact ⟨y, e⟩
theorem eq_deep {a b s : D} (W : List D) (hs : ∃ xs, (s = .lst xs ∨ s = .tup xs) ∧ kids s = xs) (hl : W.length + (kids s).length ≤ 6000) (x3 x4 x7 x8 : Sl) : ∃ y7, eqDeep [.val a, .val b, .own W, x3, x4, .val s, .val s, x7, x8] = some (.nx [.val a, .val b, .own (W ++ (kids s).map pairD), x3, x4, .val s, .val s, y7, x8]) := by
  obtain ⟨y7, hp⟩ := push_ok (a := a) (b := b) W hs hl x3 x4 x7 x8
  refine ⟨y7, ?_⟩
  obtain ⟨xs, hs, hk⟩ := hs
  unfold eqDeep
  have hlen : ∀ ρ : Rho, eVar 5 ρ = .ok s → eVar 6 ρ = .ok s → bTest (e2 oNe (eCB cLen (aCons (eVar 5) aNil)) (eCB cLen (aCons (eVar 6) aNil))) ρ = .ok false := fun ρ h5 h6 => by
    have c : ∀ i, eVar i ρ = .ok s → eCB cLen (aCons (eVar i) aNil) ρ = .ok (.int (xs.length : Nat)) := fun i h => (cb_ok (a1_ok h)).trans (by rcases hs with rfl | rfl <;> rfl)
    refine test_ok (op_ok (c 5 h5) (c 6 h6) ((oNe_int _ _).trans ?_))
    rw [decide_eq_true rfl]
    rfl
  rcases hs with rfl | rfl
  · refine (seq_nx ((if_no (or_no (test_ok (op_ok (isi_ok rfl (ty_lst xs) ll) (isi_ok rfl (ty_lst xs) ll) (oNe_bl true true))) (test_ok (op_ok (isi_ok rfl (ty_lst xs) lt') (isi_ok rfl (ty_lst xs) lt') (oNe_bl false false))))).trans rfl)).trans ?_
    refine (seq_nx ((if_no (test_ok (isi_ok rfl (ty_lst xs) ld))).trans rfl)).trans ?_
    exact (seq_nx ((if_no (hlen _ rfl rfl)).trans rfl)).trans hp
  · refine (seq_nx ((if_no (or_no (test_ok (op_ok (isi_ok rfl (ty_tup xs) tl') (isi_ok rfl (ty_tup xs) tl') (oNe_bl false false))) (test_ok (op_ok (isi_ok rfl (ty_tup xs) tt') (isi_ok rfl (ty_tup xs) tt') (oNe_bl true true))))).trans rfl)).trans ?_
    refine (seq_nx ((if_no (test_ok (isi_ok rfl (ty_tup xs) td'))).trans rfl)).trans ?_
    exact (seq_nx ((if_no (hlen _ rfl rfl)).trans rfl)).trans hp
theorem oIs_row {s : D} {xs : List D} (h : s = .lst xs ∨ s = .tup xs) : oIs s .non = some (.bl false) := by rcases h with rfl | rfl <;> rfl
theorem oNe_self {d : D} (h : okT d = true) (hk : kids d = [] ∧ (∀ xs, d ≠ .lst xs) ∧ ∀ xs, d ≠ .tup xs) : oNe d d = some (.bl false) := by
  cases d with
  | non => unfold oNe eqB; simp [sv, scal, toPy, PySem.SeqAt.shaped, PyData.canLay0, PyData.depth, PyData.eqv]
  | bl b => exact (oNe_bl b b).trans (by rw [decide_eq_true rfl]; rfl)
  | int i => exact (oNe_int i i).trans (by rw [decide_eq_true rfl]; rfl)
  | str z => exact (oNe_str z z).trans (by rw [decide_eq_true rfl]; rfl)
  | lst xs => exact absurd rfl (hk.2.1 xs)
  | tup xs => exact absurd rfl (hk.2.2 xs)
  | _ => simp [okT] at h
/-- one turn of the walk -/
theorem eq_turn {a b d : D} (W : List D) (h : okT d = true) (hl : W.length + (kids d).length ≤ 6000) (x3 x4 x5 x6 x7 x8 : Sl) :
    ∃ y4 y5 y6 y7, eqBody [.val a, .val b, .own (W ++ [pairD d]), x3, x4, x5, x6, x7, x8] = some (.nx [.val a, .val b, .own (W ++ (kids d).map pairD), x3, y4, y5, y6, y7, x8]) := by
  unfold eqBody
  have tk := fun rest => eq_take a b W d d x3 x4 x5 x6 x7 x8 rest
  cases d with
  | non =>
    refine ⟨.val (pairD .non), .val .non, .val .non, x7, (tk _).trans ((if_yes (or_yes (test_ok (op_ok rfl rfl rfl)))).trans ((if_no (or_no (test_ok (op_ok (isi_ok rfl (t := "NoneType") rfl nb) (isi_ok rfl (t := "NoneType") rfl nb) (oNe_bl false false))) (test_ok (op_ok rfl rfl (oNe_self rfl ⟨rfl, fun _ => by simp, fun _ => by simp⟩))))).trans ?_))⟩
    rw [show W ++ (kids D.non).map pairD = W by simp [kids]]
    rfl
  | bl q =>
    refine ⟨.val (pairD (.bl q)), .val (.bl q), .val (.bl q), x7, (tk _).trans ((if_yes (or_no (test_ok (op_ok rfl rfl rfl)) (test_ok (isi_ok rfl (t := "bool") rfl bb)))).trans ((if_no (or_no (test_ok (op_ok (isi_ok rfl (t := "bool") rfl bb) (isi_ok rfl (t := "bool") rfl bb) (oNe_bl true true))) (test_ok (op_ok rfl rfl (oNe_self rfl ⟨rfl, fun _ => by simp, fun _ => by simp⟩))))).trans ?_))⟩
    rw [show W ++ (kids (D.bl q)).map pairD = W by simp [kids]]
    rfl
  | int i =>
    refine ⟨.val (pairD (.int i)), .val (.int i), .val (.int i), x7, (tk _).trans ((if_no (or_no (test_ok (op_ok rfl rfl rfl)) (test_ok (isi_ok rfl (ty_int i) ib)))).trans ((if_yes (test_ok (isi_ok rfl (ty_int i) ii))).trans ((if_no (or_no (not_ok (b := true) (test_ok (cl2 (a1_ok rfl) (whole_ok i)))) (test_ok (op_ok rfl rfl (oNe_self rfl ⟨rfl, fun _ => by simp, fun _ => by simp⟩))))).trans ?_)))⟩
    rw [show W ++ (kids (D.int i)).map pairD = W by simp [kids]]
    rfl
  | str z =>
    refine ⟨.val (pairD (.str z)), .val (.str z), .val (.str z), x7, (tk _).trans ((if_no (or_no (test_ok (op_ok rfl rfl rfl)) (test_ok (isi_ok rfl (ty_str z) sb)))).trans ((if_no (test_ok (isi_ok rfl (ty_str z) si))).trans ((if_yes (test_ok (isi_ok rfl (ty_str z) ss))).trans ((if_no (or_no (not_ok (b := true) (test_ok (isi_ok rfl (ty_str z) ss))) (test_ok (op_ok rfl rfl (oNe_self rfl ⟨rfl, fun _ => by simp, fun _ => by simp⟩))))).trans ?_))))⟩
    rw [show W ++ (kids (D.str z)).map pairD = W by simp [kids]]
    rfl
  | lst xs =>
    obtain ⟨y7, hp⟩ := eq_deep (a := a) (b := b) (s := .lst xs) W ⟨xs, .inl rfl, rfl⟩ hl x3 (.val (pairD (.lst xs))) x7 x8
    exact ⟨_, _, _, y7, (tk _).trans ((if_no (or_no (test_ok (op_ok rfl rfl rfl)) (test_ok (isi_ok rfl (ty_lst xs) lb)))).trans ((if_no (test_ok (isi_ok rfl (ty_lst xs) li))).trans ((if_no (test_ok (isi_ok rfl (ty_lst xs) ls))).trans hp)))⟩
  | tup xs =>
    obtain ⟨y7, hp⟩ := eq_deep (a := a) (b := b) (s := .tup xs) W ⟨xs, .inr rfl, rfl⟩ hl x3 (.val (pairD (.tup xs))) x7 x8
    exact ⟨_, _, _, y7, (tk _).trans ((if_no (or_no (test_ok (op_ok rfl rfl rfl)) (test_ok (isi_ok rfl (ty_tup xs) tb')))).trans ((if_no (test_ok (isi_ok rfl (ty_tup xs) ti'))).trans ((if_no (test_ok (isi_ok rfl (ty_tup xs) ts'))).trans hp)))⟩
  | _ => simp [okT] at h
theorem eq_all {a b : D} : ∀ (n : Nat) (fs ds : List D), szDs fs = n → okTs fs = true → n < ds.length → n ≤ 6000 → ∀ x3 x4 x5 x6 x7 x8 : Sl, forR (gN 3) eqBody ds [.val a, .val b, .own (fs.map pairD), x3, x4, x5, x6, x7, x8] = some (.rt (.bl true)) := by
  intro n
  induction n using Nat.strongRecOn with
  | _ n ih =>
    intro fs ds hn hok hl h6 x3 x4 x5 x6 x7 x8
    cases ds with
    | nil => simp at hl
    | cons e ds =>
      unfold forR
      rcases List.eq_nil_or_concat fs with rfl | ⟨gs, d, rfl⟩
      · show (match eqBody [.val a, .val b, .own [], .val e, x4, x5, x6, x7, x8] with
          | some (.nx ρ') => forR (gN 3) eqBody ds ρ'
          | some (.ct ρ') => forR (gN 3) eqBody ds ρ'
          | some (.bk ρ') => some (.nx ρ')
          | o => o) = _
        rw [eq_end]
      · rw [List.concat_eq_append] at hn hok ⊢
        rw [okTs_app] at hok
        obtain ⟨ok1, ok2⟩ := Bool.and_eq_true_iff.mp hok
        have okd : okT d = true := by rw [okTs, okTs, Bool.and_true] at ok2; exact ok2
        rw [szDs_app, szDs, szDs, Nat.add_zero, sz_kids d okd] at hn
        have l1 := len_szDs gs
        have l2 := len_szDs (kids d)
        rw [List.map_append]
        obtain ⟨y4, y5, y6, y7, hb⟩ := eq_turn (a := a) (b := b) (gs.map pairD) okd (by rw [List.length_map]; omega) (.val e) x4 x5 x6 x7 x8
        show (match eqBody [.val a, .val b, .own (gs.map pairD ++ [pairD d]), .val e, x4, x5, x6, x7, x8] with
          | some (.nx ρ') => forR (gN 3) eqBody ds ρ'
          | some (.ct ρ') => forR (gN 3) eqBody ds ρ'
          | some (.bk ρ') => some (.nx ρ')
          | o => o) = _
        rw [hb]
        show forR (gN 3) eqBody ds [.val a, .val b, .own (gs.map pairD ++ (kids d).map pairD), .val e, y4, y5, y6, y7, x8] = _
        rw [← List.map_append]
        refine ih (szDs (gs ++ kids d)) ?_ (gs ++ kids d) ds rfl ?_ ?_ ?_ _ _ _ _ _ _
        · rw [szDs_app]; omega
        · rw [okTs_app, ok1, ok_kids okd]; rfl
        · rw [szDs_app]; simp at hl; omega
        · rw [szDs_app]; omega
theorem six (ρ : Rho) : iR1 (aCons (eC (.int 6000)) aNil) ρ = .ok (rIntD 0 6000) := by
  show (if (-(2 ^ 62) : Int) ≤ 6000 ∧ (6000 : Int) < 2 ^ 62 then R.ok (rIntD 0 (6000 : Int).toNat) else .bad) = _
  rw [if_pos (by decide)]
  rfl
/-- equal data are equal -/
theorem equal_ok {d : D} (h : okT d = true) (hs : szD d ≤ 5999) : mEqual [d, d] = .ok (.bl true) := by
  refine noX_of (runD_rt rfl ?_)
  show gEqual [.val d, .val d, .un, .un, .un, .un, .un, .un, .un] = _
  unfold gEqual
  refine (seq_nx (setL_ok (d := [pairD d]) rfl)).trans (seq_rt ((for_ok (six _)).trans (eq_all (szDs [d]) [d] (rIntD 0 6000) rfl ?_ ?_ ?_ _ _ _ _ _ _)))
  · rw [okTs, okTs, h]; rfl
  · rw [rint_len, szDs, szDs]; omega
  · rw [szDs, szDs]; omega
end Xd
/-! XdBfs: breadth first search tells the first of the shortest paths; plain mathematics. -/
namespace Bfs
open PySem
variable (rows : List (Str × Str × Str)) (bad : Str)
/-- the moves of a state, in order -/
def mv (s : Str) : List (Str × Str) := (rows.filter fun r => decide (r.1 = s)).map (·.2)
theorem mem_mv {s m a : Str} : (m, a) ∈ mv rows s ↔ (s, m, a) ∈ rows := by
  unfold mv
  rw [List.mem_map]
  constructor
  · rintro ⟨⟨s', m', a'⟩, h, e⟩
    obtain ⟨h1, h2⟩ := List.mem_filter.mp h
    have : s' = s := by simpa using h2
    cases e
    rw [← this]
    exact h1
  · intro h
    exact ⟨(s, m, a), List.mem_filter.mpr ⟨h, by simp⟩, rfl⟩
/-- bad is reached in exactly so many moves -/
def Rb : Nat → Str → Bool
  | 0, x => decide (x = bad)
  | c + 1, x => (mv rows x).any fun p => Rb c p.2
theorem rb_succ {c : Nat} {x : Str} : Rb rows bad (c + 1) x = true ↔ ∃ m a, (x, m, a) ∈ rows ∧ Rb rows bad c a = true := by
  show ((mv rows x).any fun p => Rb rows bad c p.2) = true ↔ _
  rw [List.any_eq_true]
  constructor
  · rintro ⟨⟨m, a⟩, h, e⟩
    exact ⟨m, a, (mem_mv rows).mp h, e⟩
  · rintro ⟨m, a, h, e⟩
    exact ⟨(m, a), (mem_mv rows).mpr h, e⟩
/-- the least number of moves to bad -/
def Mn (n : Nat) (x : Str) : Prop := Rb rows bad n x = true ∧ ∀ c, c < n → Rb rows bad c x = false
theorem mn_ex {x : Str} : ∀ {c : Nat}, Rb rows bad c x = true → ∃ n, n ≤ c ∧ Mn rows bad n x := by
  intro c
  induction c using Nat.strongRecOn with
  | _ c ih =>
    intro h
    by_cases k : ∃ d, d < c ∧ Rb rows bad d x = true
    · obtain ⟨d, h1, h2⟩ := k
      obtain ⟨n, h3, h4⟩ := ih d h1 h2
      exact ⟨n, by omega, h4⟩
    · refine ⟨c, Nat.le_refl _, h, fun d hd => ?_⟩
      cases e : Rb rows bad d x
      · rfl
      · exact absurd ⟨d, hd, e⟩ k
theorem mn_uniq {n m : Nat} {x : Str} (h : Mn rows bad n x) (k : Mn rows bad m x) : n = m := by
  rcases Nat.lt_trichotomy n m with c | c | c
  · have := k.2 n c; rw [h.1] at this; cases this
  · exact c
  · have := h.2 m c; rw [k.1] at this; cases this
/-- the first of the shortest ways, move by move -/
def greedy : Nat → Str → List Str
  | 0, _ => []
  | c + 1, s => match (mv rows s).find? fun p => Rb rows bad c p.2 with
    | some p => p.1 :: greedy c p.2
    | none => []
theorem mn_step {n : Nat} {s m a : Str} (h : Mn rows bad (n + 1) s) (hr : (s, m, a) ∈ rows) (ha : Rb rows bad n a = true) : Mn rows bad n a := by
  refine ⟨ha, fun c hc => ?_⟩
  cases e : Rb rows bad c a
  · rfl
  · have := h.2 (c + 1) (by omega)
    rw [(rb_succ rows bad).mpr ⟨m, a, hr, e⟩] at this
    cases this
theorem nodup_len : ∀ (L zs : List Str), zs.Nodup → (∀ z ∈ zs, z ∈ L) → zs.length ≤ L.length
  | L, [], _, _ => Nat.zero_le _
  | L, z :: zs, n, h => by
    obtain ⟨n1, n2⟩ := List.nodup_cons.mp n
    have m := h z List.mem_cons_self
    have := nodup_len (L.erase z) zs n2 fun y hy => (List.mem_erase_of_ne (fun e => n1 (by rw [← e]; exact hy))).mpr (h y (List.mem_cons_of_mem _ hy))
    rw [List.length_erase_of_mem m] at this
    have := List.length_pos_of_mem m
    rw [List.length_cons]
    omega
theorem mn_len {U : List Str} (hU : ∀ r ∈ rows, r.1 ∈ U) {n : Nat} {s : Str} (h : Mn rows bad n s) : n ≤ U.length := by
  have key : ∀ (n : Nat) (s : Str), Mn rows bad n s → ∃ l : List Str, l.length = n ∧ l.Nodup ∧ (∀ x ∈ l, x ∈ U) ∧ ∀ x ∈ l, ∃ c, c ≤ n ∧ Mn rows bad c x := by
    intro n
    induction n with
    | zero => exact fun s _ => ⟨[], rfl, .nil, (fun x h => by cases h), fun x h => by cases h⟩
    | succ n ih =>
      intro s h
      obtain ⟨m, a, hr, ha⟩ := (rb_succ rows bad).mp h.1
      obtain ⟨l, h1, h2, h3, h4⟩ := ih a (mn_step rows bad h hr ha)
      refine ⟨s :: l, by rw [List.length_cons, h1], List.nodup_cons.mpr ⟨fun hm => ?_, h2⟩, fun x hx => ?_, fun x hx => ?_⟩
      · obtain ⟨c, hc, k⟩ := h4 s hm
        have := mn_uniq rows bad h k
        omega
      · rcases List.mem_cons.mp hx with rfl | hx
        · exact hU _ hr
        · exact h3 x hx
      · rcases List.mem_cons.mp hx with rfl | hx
        · exact ⟨n + 1, Nat.le_refl _, h⟩
        · obtain ⟨c, hc, k⟩ := h4 x hx
          exact ⟨c, by omega, k⟩
  obtain ⟨l, h1, h2, h3, _⟩ := key n s h
  rw [← h1]
  exact nodup_len U l h2 h3
/-! ### the search -/
abbrev Ent := Str × Option (Str × Str)
def keysW (W : List Ent) : List Str := W.map (·.1)
def visit (st : Str) (W : List Ent) (p : Str × Str) : List Ent := if p.2 ∈ keysW W then W else W ++ [(p.2, some (st, p.1))]
def scan (st : Str) : List (Str × Str) → List Ent → List Ent × Option Str
  | [], W => (W, none)
  | p :: r, W => if p.2 = bad then (W, some p.1) else scan st r (visit st W p)
def addAll (st : Str) (A : List (Str × Str)) (W : List Ent) : List Ent := A.foldl (visit st) W
theorem scan_app {st : Str} : ∀ {A B : List (Str × Str)} {W : List Ent}, (∀ p ∈ A, p.2 ≠ bad) → scan bad st (A ++ B) W = scan bad st B (addAll st A W)
  | [], B, W, _ => rfl
  | p :: A, B, W, h => by
    show (if p.2 = bad then (W, some p.1) else scan bad st (A ++ B) (visit st W p)) = _
    rw [if_neg (h p List.mem_cons_self)]
    exact scan_app fun q hq => h q (List.mem_cons_of_mem _ hq)
theorem addAll_form {st : Str} : ∀ (A : List (Str × Str)) (W : List Ent), (keysW W).Nodup → ∃ N, addAll st A W = W ++ N ∧ (keysW (W ++ N)).Nodup ∧ ∀ e ∈ N, ∃ p ∈ A, e = (p.2, some (st, p.1))
  | [], W, nd => ⟨[], by simp [addAll], by simpa using nd, fun e h => by cases h⟩
  | p :: A, W, nd => by
    show ∃ N, addAll st A (visit st W p) = _ ∧ _
    unfold visit
    split
    · obtain ⟨N, h1, h2, h3⟩ := addAll_form A W nd
      exact ⟨N, h1, h2, fun e he => by obtain ⟨q, hq, k⟩ := h3 e he; exact ⟨q, List.mem_cons_of_mem _ hq, k⟩⟩
    · rename_i hp
      have nd2 : (keysW (W ++ [(p.2, some (st, p.1))])).Nodup := by
        unfold keysW at *
        rw [List.map_append, List.nodup_append]
        refine ⟨nd, by simp, fun a ha b hb => ?_⟩
        have : b = p.2 := by simpa using hb
        rw [this]
        intro e
        rw [e] at ha
        exact hp ha
      obtain ⟨N, h1, h2, h3⟩ := addAll_form A (W ++ [(p.2, some (st, p.1))]) nd2
      refine ⟨(p.2, some (st, p.1)) :: N, by rw [h1, List.append_assoc]; rfl, by rw [List.append_assoc] at h2; exact h2, fun e he => ?_⟩
      rcases List.mem_cons.mp he with rfl | he
      · exact ⟨p, List.mem_cons_self, rfl⟩
      · obtain ⟨q, hq, k⟩ := h3 e he
        exact ⟨q, List.mem_cons_of_mem _ hq, k⟩
/-- the way back to the beginning -/
inductive Chain (W : List Ent) : Str → List Str → Prop
  | root {s : Str} : W.find? (fun e => decide (e.1 = s)) = some (s, none) → Chain W s []
  | step {s p m : Str} {ms : List Str} : W.find? (fun e => decide (e.1 = s)) = some (s, some (p, m)) → Chain W p ms → Chain W s (ms ++ [m])
theorem Chain.grow {W N : List Ent} {s : Str} {ms : List Str} (h : Chain W s ms) : Chain (W ++ N) s ms := by
  have up : ∀ {s : Str} {e : Ent}, W.find? (fun e => decide (e.1 = s)) = some e → (W ++ N).find? (fun e => decide (e.1 = s)) = some e := fun {s e} h => by
    rw [List.find?_append, h]
    rfl
  induction h with
  | root h => exact .root (up h)
  | step h _ ih => exact .step (up h) ih
theorem find_nodup {W : List Ent} (nd : (keysW W).Nodup) : ∀ {i : Nat} {e : Ent}, W[i]? = some e → W.find? (fun x => decide (x.1 = e.1)) = some e := by
  induction W with
  | nil => intro i e h; simp at h
  | cons w W ih =>
    intro i e h
    have nd' := List.nodup_cons.mp (show (w.1 :: keysW W).Nodup from nd)
    cases i with
    | zero =>
      simp at h
      subst h
      rw [List.find?_cons]
      simp
    | succ i =>
      rw [List.getElem?_cons_succ] at h
      rw [List.find?_cons]
      have ne : ¬ w.1 = e.1 := fun q => nd'.1 (by rw [q]; exact List.mem_map.mpr ⟨e, List.mem_of_getElem? h, rfl⟩)
      simp only [ne, decide_false]
      exact ih nd'.2 h
theorem Chain.uniq {W : List Ent} {s : Str} {ms ns : List Str} (h : Chain W s ms) : Chain W s ns → ms = ns := by
  induction h generalizing ns with
  | root h =>
    intro k
    cases k with
    | root k => rfl
    | step k _ => rw [h] at k; cases k
  | step h c ih =>
    intro k
    cases k with
    | root k => rw [h] at k; cases k
    | step k c2 =>
      rw [h] at k
      cases k
      rw [ih c2]
/-- runs of the search -/
inductive Run : Nat → List Ent → Nat → Option (List Str) → Prop
  | stop {W : List Ent} {k : Nat} : W.length ≤ k → Run 0 W k none
  | go {n : Nat} {W W' : List Ent} {k : Nat} {e : Ent} {r : Option (List Str)} {ms : List Str} : W[k]? = some e → Chain W e.1 ms → scan bad e.1 (mv rows e.1) W = (W', none) → Run n W' (k + 1) r → Run (n + 1) W k r
  | hit {W W' : List Ent} {k : Nat} {e : Ent} {m : Str} {ms : List Str} : W[k]? = some e → ms.length ≤ k → Chain W e.1 ms → scan bad e.1 (mv rows e.1) W = (W', some m) → Run 0 W k (some (ms ++ [m]))
structure Iv (begin : Str) (U : List Str) (W : List Ent) (L : List Nat) (k : Nat) : Prop where
  len : L.length = W.length
  kle : k ≤ W.length
  nd : (keysW W).Nodup
  sub : ∀ x ∈ keysW W, x ∈ U
  par : ∀ (idx : Nat) (x q m : Str), W[idx]? = some (x, some (q, m)) → ∃ (j : Nat) (pr : Option (Str × Str)) (l : Nat), j < idx ∧ j < k ∧ W[j]? = some (q, pr) ∧ (q, m, x) ∈ rows ∧ L[j]? = some l ∧ L[idx]? = some (l + 1)
  root : ∀ (idx : Nat) (x : Str), W[idx]? = some (x, none) → x = begin ∧ L[idx]? = some 0
  mono : ∀ (i j a b : Nat), i ≤ j → L[i]? = some a → L[j]? = some b → a ≤ b
  top : ∀ a : Nat, L[k]? = some a → ∀ b ∈ L, b ≤ a + 1
section
variable {rows : List (Str × Str × Str)} {bad : Str} {begin : Str} {U : List Str} {W : List Ent} {L : List Nat} {k n : Nat}
/-- every state found lies as far as its level from the beginning, at least -/
theorem Iv.far (v : Iv rows begin U W L k) (hn : ∀ c, c < n → Rb rows bad c begin = false) : ∀ (idx : Nat) (x : Str) (pr : Option (Str × Str)) (l : Nat), W[idx]? = some (x, pr) → L[idx]? = some l → ∀ c, Rb rows bad c x = true → n ≤ l + c := by
  intro idx
  induction idx using Nat.strongRecOn with
  | _ idx ih =>
    intro x pr l hW hL c hc
    cases pr with
    | none =>
      obtain ⟨rfl, h0⟩ := v.root idx x hW
      rcases Nat.lt_or_ge c n with h | h
      · rw [hn c h] at hc; cases hc
      · omega
    | some qm =>
      obtain ⟨q, m⟩ := qm
      obtain ⟨j, pr', l', h1, h2, h3, h4, h5, h6⟩ := v.par idx x q m hW
      rw [hL] at h6
      cases h6
      have := ih j h1 q pr' l' h3 h5 (c + 1) ((rb_succ rows bad).mpr ⟨m, x, h4, hc⟩)
      omega
theorem Iv.chain (v : Iv rows begin U W L k) : ∀ (idx : Nat) (e : Ent), W[idx]? = some e → ∃ ms, Chain W e.1 ms ∧ ms.length ≤ idx := by
  intro idx
  induction idx using Nat.strongRecOn with
  | _ idx ih =>
    intro e h
    obtain ⟨x, pr⟩ := e
    have hf := find_nodup v.nd h
    cases pr with
    | none => exact ⟨[], .root hf, Nat.zero_le _⟩
    | some qm =>
      obtain ⟨q, m⟩ := qm
      obtain ⟨j, pr', l', h1, h2, h3, _⟩ := v.par idx x q m h
      obtain ⟨ms, c, cl⟩ := ih j h1 (q, pr') h3
      exact ⟨ms ++ [m], .step hf c, by rw [List.length_append, List.length_singleton]; omega⟩
theorem getElem?_rep {c x : Nat} {i : Nat} {a : Nat} (h : (List.replicate c x)[i]? = some a) : a = x := by
  rw [List.getElem?_replicate] at h
  split at h
  · exact (Option.some.inj h).symm
  · cases h
/-- one state is worked off -/
theorem Iv.next (v : Iv rows begin U W L k) {e : Ent} {l : Nat} (he : W[k]? = some e) (hl : L[k]? = some l) {N : List Ent} (hN : ∀ d ∈ N, ∃ p ∈ mv rows e.1, d = (p.2, some (e.1, p.1))) (nd : (keysW (W ++ N)).Nodup)
    (hU : ∀ r ∈ rows, r.2.2 ∈ U ∨ r.2.2 = bad) (hb : ∀ p ∈ mv rows e.1, p.2 ≠ bad) : Iv rows begin U (W ++ N) (L ++ List.replicate N.length (l + 1)) (k + 1) := by
  have kW : k < W.length := (List.getElem?_eq_some_iff.mp he).1
  have kL : k < L.length := by rw [v.len]; exact kW
  have inN : ∀ (idx : Nat) (x : Str) (pr : Option (Str × Str)), (W ++ N)[idx]? = some (x, pr) → (idx < W.length ∧ W[idx]? = some (x, pr)) ∨ (W.length ≤ idx ∧ ∃ m, pr = some (e.1, m) ∧ (e.1, m, x) ∈ rows) := fun idx x pr h => by
    rcases Nat.lt_or_ge idx W.length with c | c
    · rw [List.getElem?_append_left c] at h
      exact .inl ⟨c, h⟩
    · rw [List.getElem?_append_right c] at h
      obtain ⟨p, hp, q⟩ := hN _ (List.mem_of_getElem? h)
      cases q
      exact .inr ⟨c, p.1, rfl, (mem_mv rows).mp hp⟩
  have oldL : ∀ {i a}, L[i]? = some a → (L ++ List.replicate N.length (l + 1))[i]? = some a := fun {i a} h => by
    rw [List.getElem?_append_left (List.getElem?_eq_some_iff.mp h).1]
    exact h
  have oldW : ∀ {i d}, W[i]? = some d → (W ++ N)[i]? = some d := fun {i d} h => by
    rw [List.getElem?_append_left (List.getElem?_eq_some_iff.mp h).1]
    exact h
  have inL : ∀ (i a : Nat), (L ++ List.replicate N.length (l + 1))[i]? = some a → (i < L.length ∧ L[i]? = some a) ∨ (L.length ≤ i ∧ a = l + 1) := fun i a h => by
    rcases Nat.lt_or_ge i L.length with c | c
    · rw [List.getElem?_append_left c] at h
      exact .inl ⟨c, h⟩
    · rw [List.getElem?_append_right c] at h
      exact .inr ⟨c, getElem?_rep h⟩
  refine ⟨by rw [List.length_append, List.length_append, List.length_replicate, v.len], by rw [List.length_append]; omega, nd, fun x hx => ?_, fun idx x q m h => ?_, fun idx x h => ?_, fun i j a b hij ha hb' => ?_, fun a ha b hb' => ?_⟩
  · unfold keysW at hx
    rw [List.map_append] at hx
    rcases List.mem_append.mp hx with hx | hx
    · exact v.sub x hx
    · obtain ⟨d, hd, rfl⟩ := List.mem_map.mp hx
      obtain ⟨p, hp, rfl⟩ := hN d hd
      rcases hU _ ((mem_mv rows).mp hp) with h | h
      · exact h
      · exact absurd h (hb p hp)
  · rcases inN idx x _ h with ⟨c, h⟩ | ⟨c, m', e1, hr⟩
    · obtain ⟨j, pr, l', h1, h2, h3, h4, h5, h6⟩ := v.par idx x q m h
      exact ⟨j, pr, l', h1, by omega, oldW h3, h4, oldL h5, oldL h6⟩
    · cases e1
      refine ⟨k, e.2, l, by omega, by omega, oldW he, hr, oldL hl, ?_⟩
      have lt : idx < (W ++ N).length := (List.getElem?_eq_some_iff.mp h).1
      rw [List.length_append] at lt
      rw [List.getElem?_append_right (by rw [v.len]; exact c), List.getElem?_replicate, if_pos (by rw [v.len]; omega)]
  · rcases inN idx x _ h with ⟨c, h⟩ | ⟨c, m', e1, hr⟩
    · obtain ⟨h1, h2⟩ := v.root idx x h
      exact ⟨h1, oldL h2⟩
    · cases e1
  · rcases inL i a ha with ⟨c1, ha⟩ | ⟨c1, rfl⟩
    · rcases inL j b hb' with ⟨c2, hb'⟩ | ⟨c2, rfl⟩
      · exact v.mono i j a b hij ha hb'
      · exact v.top l hl a (List.mem_of_getElem? ha)
    · rcases inL j b hb' with ⟨c2, hb'⟩ | ⟨c2, rfl⟩
      · omega
      · exact Nat.le_refl _
  · have hla : l ≤ a := by
      rcases inL (k + 1) a ha with ⟨c1, ha⟩ | ⟨c1, rfl⟩
      · exact v.mono k (k + 1) l a (by omega) hl ha
      · omega
    rcases List.mem_append.mp hb' with h | h
    · have := v.top l hl b h
      omega
    · have := (List.mem_replicate.mp h).2
      omega
/-- where the first of the shortest ways stands in the queue -/
structure Gd (rows : List (Str × Str × Str)) (bad begin : Str) (n : Nat) (W : List Ent) (L : List Nat) (k : Nat) : Prop where
  ex : ∃ (i j : Nat) (s : Str) (pr : Option (Str × Str)) (ms : List Str), i < n ∧ k ≤ j ∧ W[j]? = some (s, pr) ∧ L[j]? = some i ∧ Chain W s ms ∧ ms ++ greedy rows bad (n - i) s = greedy rows bad n begin ∧ Rb rows bad (n - i) s = true ∧
    ∀ (idx : Nat) (x : Str) (pr' : Option (Str × Str)), idx < j → W[idx]? = some (x, pr') → L[idx]? = some i → Rb rows bad (n - i) x = false
theorem scan_none {st : Str} {A : List (Str × Str)} {W : List Ent} (h : ∀ p ∈ A, p.2 ≠ bad) : scan bad st A W = (addAll st A W, none) := by
  have := scan_app (B := []) (st := st) (W := W) bad h
  rw [List.append_nil] at this
  rw [this]
  rfl
theorem run_good (hU : ∀ r ∈ rows, r.2.2 ∈ U ∨ r.2.2 = bad) (hn : Mn rows bad n begin) : ∀ (b k : Nat) (W : List Ent) (L : List Nat), U.length ≤ k + b → Iv rows begin U W L k → Gd rows bad begin n W L k → ∃ f, f ≤ b ∧ Run rows bad f W k (some (greedy rows bad n begin)) := by
  intro b
  induction b with
  | zero =>
    intro k W L hb v g
    obtain ⟨i, j, s, pr, ms, h1, h2, h3, _⟩ := g.ex
    have := nodup_len U (keysW W) v.nd v.sub
    unfold keysW at this
    rw [List.length_map] at this
    have := (List.getElem?_eq_some_iff.mp h3).1
    omega
  | succ b ih =>
    intro k W L hb v g
    obtain ⟨i, j, s, pr, ms, h1, h2, h3, h4, h5, h6, h7, h8⟩ := g.ex
    have jW := (List.getElem?_eq_some_iff.mp h3).1
    have kW : k < W.length := by omega
    obtain ⟨z, hz⟩ : ∃ z, W[k]? = some z := ⟨W[k], List.getElem?_eq_getElem kW⟩
    obtain ⟨l, hl⟩ : ∃ l, L[k]? = some l := ⟨L[k]'(by rw [v.len]; exact kW), List.getElem?_eq_getElem _⟩
    have li : l ≤ i := v.mono k j l i h2 hl h4
    obtain ⟨zs, zp⟩ := z
    -- one move to bad: only from the last of the good ones
    have one : ∀ m, (zs, m, bad) ∈ rows → l = i ∧ n = i + 1 ∧ k = j := fun m hm => by
      have r1 : Rb rows bad 1 zs = true := (rb_succ rows bad).mpr ⟨m, bad, hm, by simp [Rb]⟩
      have f := v.far hn.2 k zs zp l hz hl 1 r1
      have e1 : l = i := by omega
      have e2 : n = i + 1 := by omega
      refine ⟨e1, e2, ?_⟩
      rcases Nat.lt_or_ge k j with c | c
      · have := h8 k zs zp c hz (by rw [← e1]; exact hl)
        rw [show n - i = 1 by omega, r1] at this
        cases this
      · omega
    obtain ⟨cms, hch, hcl⟩ := v.chain k (zs, zp) hz
    by_cases c : k = j
    · -- the good one itself
      subst c
      rw [hz] at h3
      obtain ⟨es, ep⟩ := Prod.mk.inj (Option.some.inj h3)
      subst es
      subst ep
      have el : l = i := Option.some.inj (hl.symm.trans h4)
      subst el
      obtain ⟨d, hd⟩ : ∃ d, n - l = d + 1 := ⟨n - l - 1, by omega⟩
      rw [hd] at h6 h7
      cases hf : (mv rows zs).find? fun p => Rb rows bad d p.2 with
      | none =>
        obtain ⟨m, a, hr, ha⟩ := (rb_succ rows bad).mp h7
        have := List.find?_eq_none.mp hf (m, a) ((mem_mv rows).mpr hr)
        simp [ha] at this
      | some p =>
        have gz : greedy rows bad (d + 1) zs = p.1 :: greedy rows bad d p.2 := by
          show (match (mv rows zs).find? fun p => Rb rows bad d p.2 with | some p => _ | none => _) = _
          rw [hf]
        obtain ⟨hp, A, B, hAB, hA⟩ := List.find?_eq_some_iff_append.mp hf
        have hp' : Rb rows bad d p.2 = true := hp
        cases d with
        | zero =>
          have pb : p.2 = bad := by simpa [Rb] using hp'
          have noA : ∀ q ∈ A, q.2 ≠ bad := fun q hq e => by
            have := hA q hq
            simp [Rb, e] at this
          have sc : scan bad zs (mv rows zs) W = (addAll zs A W, some p.1) := by
            rw [hAB, scan_app bad noA]
            show (if p.2 = bad then _ else _) = _
            rw [if_pos pb]
          have gg : greedy rows bad n begin = ms ++ [p.1] := by
            rw [← h6, gz]
            rfl
          exact ⟨0, Nat.zero_le _, by rw [gg]; exact .hit hz (by rw [h5.uniq hch]; exact hcl) h5 sc⟩
        | succ d =>
          have nob : ∀ q ∈ mv rows zs, q.2 ≠ bad := fun q hq e => by
            obtain ⟨q1, q2⟩ := q
            have e : q2 = bad := e
            subst e
            obtain ⟨_, k2, _⟩ := one q1 ((mem_mv rows).mp hq)
            omega
          have sc := scan_none (bad := bad) (st := zs) (W := W) nob
          -- a is new
          have new : p.2 ∉ keysW W := fun hm => by
            obtain ⟨w, hw, ew⟩ := List.mem_map.mp hm
            obtain ⟨idx, hidx⟩ := List.mem_iff_getElem?.mp hw
            obtain ⟨x, wp⟩ := w
            have ew : x = p.2 := ew
            subst ew
            obtain ⟨lx, hlx⟩ : ∃ lx, L[idx]? = some lx := ⟨L[idx]'(by rw [v.len]; exact (List.getElem?_eq_some_iff.mp hidx).1), List.getElem?_eq_getElem _⟩
            have f := v.far hn.2 idx p.2 wp lx hidx hlx (d + 1) hp'
            have t := v.top l hl lx (List.mem_of_getElem? hlx)
            have elx : lx = l + 1 := by omega
            cases wp with
            | none =>
              have := (v.root idx _ hidx).2
              rw [hlx] at this
              cases this
              omega
            | some qm =>
              obtain ⟨q, m⟩ := qm
              obtain ⟨j', pr', l', k1, k2, k3, k4, k5, k6⟩ := v.par idx _ q m hidx
              rw [hlx] at k6
              cases k6
              have el : l' = l := by omega
              have := h8 j' q pr' k2 k3 (by rw [← el]; exact k5)
              rw [hd, (rb_succ rows bad).mpr ⟨m, p.2, k4, hp'⟩] at this
              cases this
          obtain ⟨NA, e1, nd1, hNA⟩ := addAll_form (st := zs) A W v.nd
          have new2 : p.2 ∉ keysW (W ++ NA) := fun hm => by
            unfold keysW at hm
            rw [List.map_append] at hm
            rcases List.mem_append.mp hm with hm | hm
            · exact new hm
            · obtain ⟨w, hw, ew⟩ := List.mem_map.mp hm
              obtain ⟨q, hq, rfl⟩ := hNA w hw
              have := hA q hq
              have ew : q.2 = p.2 := ew
              rw [ew, hp'] at this
              cases this
          have nd2 : (keysW ((W ++ NA) ++ [(p.2, some (zs, p.1))])).Nodup := by
            unfold keysW at *
            rw [List.map_append, List.nodup_append]
            refine ⟨nd1, by simp, fun a ha b hb => ?_⟩
            have : b = p.2 := by simpa using hb
            rw [this]
            intro e
            rw [e] at ha
            exact new2 ha
          obtain ⟨NB, e2, nd3, hNB⟩ := addAll_form (st := zs) B ((W ++ NA) ++ [(p.2, some (zs, p.1))]) nd2
          have eA : addAll zs (mv rows zs) W = W ++ (NA ++ (p.2, some (zs, p.1)) :: NB) := by
            rw [hAB]
            unfold addAll
            rw [List.foldl_append, List.foldl_cons]
            have e1' : A.foldl (visit zs) W = W ++ NA := e1
            rw [e1']
            have ev : visit zs (W ++ NA) p = (W ++ NA) ++ [(p.2, some (zs, p.1))] := if_neg new2
            rw [ev]
            have e2' : B.foldl (visit zs) ((W ++ NA) ++ [(p.2, some (zs, p.1))]) = _ := e2
            rw [e2']
            simp
          rw [eA] at sc
          have hN : ∀ q ∈ NA ++ (p.2, some (zs, p.1)) :: NB, ∃ r ∈ mv rows zs, q = (r.2, some (zs, r.1)) := fun q hq => by
            rw [hAB]
            rcases List.mem_append.mp hq with hq | hq
            · obtain ⟨r, hr, e⟩ := hNA q hq
              exact ⟨r, List.mem_append.mpr (.inl hr), e⟩
            · rcases List.mem_cons.mp hq with rfl | hq
              · exact ⟨p, List.mem_append.mpr (.inr List.mem_cons_self), rfl⟩
              · obtain ⟨r, hr, e⟩ := hNB q hq
                exact ⟨r, List.mem_append.mpr (.inr (List.mem_cons_of_mem _ hr)), e⟩
          have ndN : (keysW (W ++ (NA ++ (p.2, some (zs, p.1)) :: NB))).Nodup := by
            have : W ++ (NA ++ (p.2, some (zs, p.1)) :: NB) = (W ++ NA ++ [(p.2, some (zs, p.1))]) ++ NB := by simp
            rw [this]
            exact nd3
          have v2 := v.next hz hl hN ndN hU nob
          have lenL : L.length = W.length := v.len
          have g2 : Gd rows bad begin n (W ++ (NA ++ (p.2, some (zs, p.1)) :: NB)) (L ++ List.replicate (NA ++ (p.2, some (zs, p.1)) :: NB).length (l + 1)) (k + 1) := by
            have hat : (W ++ (NA ++ (p.2, some (zs, p.1)) :: NB))[W.length + NA.length]? = some (p.2, some (zs, p.1)) := by
              rw [List.getElem?_append_right (by omega), show W.length + NA.length - W.length = NA.length by omega, List.getElem?_append_right (Nat.le_refl _), Nat.sub_self]
              rfl
            refine ⟨l + 1, W.length + NA.length, p.2, some (zs, p.1), ms ++ [p.1], by omega, by omega, hat, ?_, ?_, ?_, ?_, fun idx x pr' hi hx hL => ?_⟩
            · rw [List.getElem?_append_right (by omega), List.getElem?_replicate, if_pos (by rw [List.length_append, List.length_cons]; omega)]
            · exact .step (find_nodup ndN hat) h5.grow
            · rw [← h6, gz, show n - (l + 1) = d + 1 by omega]
              simp
            · rw [show n - (l + 1) = d + 1 by omega]
              exact hp'
            · rw [show n - (l + 1) = d + 1 by omega]
              cases hb' : Rb rows bad (d + 1) x
              · rfl
              · exfalso
                rcases Nat.lt_or_ge idx W.length with c | c
                · rw [List.getElem?_append_left c] at hx
                  rw [List.getElem?_append_left (by rw [lenL]; exact c)] at hL
                  cases pr' with
                  | none =>
                    have := (v.root idx _ hx).2
                    rw [hL] at this
                    cases this
                  | some qm =>
                    obtain ⟨q, m⟩ := qm
                    obtain ⟨j', pr'', l', k1, k2, k3, k4, k5, k6⟩ := v.par idx _ q m hx
                    rw [hL] at k6
                    cases k6
                    have := h8 j' q pr'' k2 k3 k5
                    rw [hd, (rb_succ rows bad).mpr ⟨m, x, k4, hb'⟩] at this
                    cases this
                · rw [List.getElem?_append_right c, List.getElem?_append_left (by omega)] at hx
                  obtain ⟨q, hq, e⟩ := hNA _ (List.mem_of_getElem? hx)
                  cases e
                  have := hA q hq
                  rw [hb'] at this
                  cases this
          obtain ⟨f, hf1, hf2⟩ := ih (k + 1) _ _ (by omega) v2 g2
          exact ⟨f + 1, by omega, .go hz hch sc hf2⟩
    · -- another one ahead of it
      have kj : k < j := by omega
      have nob : ∀ q ∈ mv rows zs, q.2 ≠ bad := fun q hq e => by
        obtain ⟨q1, q2⟩ := q
        have e : q2 = bad := e
        subst e
        exact c (one q1 ((mem_mv rows).mp hq)).2.2
      have sc := scan_none (bad := bad) (st := zs) (W := W) nob
      obtain ⟨N, e1, nd1, hN⟩ := addAll_form (st := zs) (mv rows zs) W v.nd
      rw [e1] at sc
      have v2 := v.next hz hl hN nd1 hU nob
      have g2 : Gd rows bad begin n (W ++ N) (L ++ List.replicate N.length (l + 1)) (k + 1) := by
        have jL : j < L.length := by rw [v.len]; exact jW
        refine ⟨i, j, s, pr, ms, h1, by omega, by rw [List.getElem?_append_left jW]; exact h3, by rw [List.getElem?_append_left jL]; exact h4, h5.grow, h6, h7, fun idx x pr' hi hx hL => ?_⟩
        rw [List.getElem?_append_left (by omega)] at hx hL
        exact h8 idx x pr' hi hx hL
      obtain ⟨f, hf1, hf2⟩ := ih (k + 1) _ _ (by omega) v2 g2
      exact ⟨f + 1, by omega, .go hz hch sc hf2⟩
theorem run_none (hU : ∀ r ∈ rows, r.2.2 ∈ U ∨ r.2.2 = bad) (hn : ∀ c, Rb rows bad c begin = false) : ∀ (b k : Nat) (W : List Ent) (L : List Nat), U.length ≤ k + b → Iv rows begin U W L k → ∃ f, f ≤ b ∧ Run rows bad f W k none := by
  intro b
  induction b with
  | zero =>
    intro k W L hb v
    have := nodup_len U (keysW W) v.nd v.sub
    unfold keysW at this
    rw [List.length_map] at this
    exact ⟨0, Nat.le_refl _, .stop (by omega)⟩
  | succ b ih =>
    intro k W L hb v
    rcases Nat.lt_or_ge k W.length with kW | kW
    · obtain ⟨z, hz⟩ : ∃ z, W[k]? = some z := ⟨W[k], List.getElem?_eq_getElem kW⟩
      obtain ⟨l, hl⟩ : ∃ l, L[k]? = some l := ⟨L[k]'(by rw [v.len]; exact kW), List.getElem?_eq_getElem _⟩
      obtain ⟨zs, zp⟩ := z
      obtain ⟨cms, hch, hcl⟩ := v.chain k (zs, zp) hz
      have nob : ∀ q ∈ mv rows zs, q.2 ≠ bad := fun q hq e => by
        obtain ⟨q1, q2⟩ := q
        have e : q2 = bad := e
        subst e
        have r1 : Rb rows q2 1 zs = true := (rb_succ rows q2).mpr ⟨q1, q2, (mem_mv rows).mp hq, by simp [Rb]⟩
        have := v.far (n := l + 2) (fun c _ => hn c) k zs zp l hz hl 1 r1
        omega
      have sc := scan_none (bad := bad) (st := zs) (W := W) nob
      obtain ⟨N, e1, nd1, hN⟩ := addAll_form (st := zs) (mv rows zs) W v.nd
      rw [e1] at sc
      obtain ⟨f, hf1, hf2⟩ := ih (k + 1) _ _ (by omega) (v.next hz hl hN nd1 hU nob)
      exact ⟨f + 1, by omega, .go hz hch sc hf2⟩
    · exact ⟨0, Nat.zero_le _, .stop kW⟩
theorem iv_start (hb : begin ∈ U) : Iv rows begin U [(begin, none)] [0] 0 := by
  refine ⟨rfl, Nat.zero_le _, by simp [keysW], fun x hx => ?_, fun idx x q m h => ?_, fun idx x h => ?_, fun i j a b _ ha hb' => ?_, fun a _ b hb' => ?_⟩
  · have : x = begin := by simpa [keysW] using hx
    rw [this]; exact hb
  · cases idx with
    | zero => simp at h
    | succ idx => simp at h
  · cases idx with
    | zero => simp at h; exact ⟨h.symm, rfl⟩
    | succ idx => simp at h
  · cases i with
    | zero => simp at ha; omega
    | succ i => simp at ha
  · have : b = 0 := by simpa using hb'
    omega
/-- what the search tells -/
def best (rows : List (Str × Str × Str)) (bad begin : Str) (r : Option (List Str)) : Prop := (r = none ∧ ∀ c, Rb rows bad c begin = false) ∨ ∃ n, Mn rows bad n begin ∧ r = some (greedy rows bad n begin)
theorem run_start (hU : ∀ r ∈ rows, r.2.2 ∈ U ∨ r.2.2 = bad) (hb : begin ∈ U) (hnb : begin ≠ bad) : ∃ f r, f ≤ U.length ∧ Run rows bad f [(begin, none)] 0 r ∧ best rows bad begin r := by
  by_cases h : ∃ c, Rb rows bad c begin = true
  · obtain ⟨c, hc⟩ := h
    obtain ⟨n, _, hn⟩ := mn_ex rows bad hc
    have n0 : 0 < n := by
      rcases Nat.eq_zero_or_pos n with h | h
      · subst h
        have := hn.1
        simp [Rb] at this
        exact absurd this hnb
      · exact h
    have g : Gd rows bad begin n [(begin, none)] [0] 0 := by
      refine ⟨0, 0, begin, none, [], n0, Nat.le_refl _, rfl, rfl, .root (by simp), rfl, hn.1, fun idx x pr' hi => absurd hi (Nat.not_lt_zero _)⟩
    obtain ⟨f, hf, hr⟩ := run_good hU hn U.length 0 _ _ (by omega) (iv_start hb) g
    exact ⟨f, _, hf, hr, .inr ⟨n, hn, rfl⟩⟩
  · have hno : ∀ c, Rb rows bad c begin = false := fun c => by
      cases e : Rb rows bad c begin
      · rfl
      · exact absurd ⟨c, e⟩ h
    obtain ⟨f, hf, hr⟩ := run_none hU hno U.length 0 _ _ (by omega) (iv_start hb)
    exact ⟨f, none, hf, hr, .inl ⟨rfl, hno⟩⟩
end
end Bfs
namespace P44
open PySem L2 Xg Xd
def top (i : Nat) : Stmt := PySem.Challenge.pw_guestlives_k44_shortest_moves_of_explici.main.body.getD i (.Pass ⟨0, 0, 0, 0⟩)
abbrev S_way_back : Stmt := top 2
theorem sc_way_back : FnScope ["found", "state", "moves", "move"] ["found", "state"] (defScope S_way_back) := ⟨rfl, rfl, rfl, by decide +kernel, rfl, by decide +kernel, by decide +kernel⟩
abbrev S_Table___init__ : Stmt := inClass (top 3) 0
theorem sc_Table___init__ : FnScope ["self", "first", "rows", "state", "move", "after"] ["self", "first", "rows"] (defScope S_Table___init__) := ⟨rfl, rfl, rfl, by decide +kernel, rfl, by decide +kernel, by decide +kernel⟩
abbrev S_Table_start : Stmt := inClass (top 3) 1
theorem sc_Table_start : FnScope ["self"] ["self"] (defScope S_Table_start) := ⟨rfl, rfl, rfl, by decide +kernel, rfl, by decide +kernel, by decide +kernel⟩
abbrev S_Table_moves : Stmt := inClass (top 3) 2
theorem sc_Table_moves : FnScope ["self", "state"] ["self", "state"] (defScope S_Table_moves) := ⟨rfl, rfl, rfl, by decide +kernel, rfl, by decide +kernel, by decide +kernel⟩
abbrev S_Table_scenario : Stmt := inClass (top 3) 3
theorem sc_Table_scenario : FnScope ["self", "found", "waiting", "at", "state", "move", "after"] ["self"] (defScope S_Table_scenario) := ⟨rfl, rfl, rfl, by decide +kernel, rfl, by decide +kernel, by decide +kernel⟩
abbrev S_Table_states : Stmt := inClass (top 3) 4
theorem sc_Table_states : FnScope ["self", "found", "waiting", "at", "_", "after"] ["self"] (defScope S_Table_states) := ⟨rfl, rfl, rfl, by decide +kernel, rfl, by decide +kernel, by decide +kernel⟩
abbrev S__law_row : Stmt := top 5
theorem sc__law_row : FnScope ["_law_script", "_law_most", "_law_row_here", "_law_cell", "_law_rest", "_law_k"] ["_law_script", "_law_most"] (defScope S__law_row) := ⟨rfl, rfl, rfl, by decide +kernel, rfl, by decide +kernel, by decide +kernel⟩
abbrev S__law_digit : Stmt := top 6
theorem sc__law_digit : FnScope ["_law_row_here", "_law_at"] ["_law_row_here", "_law_at"] (defScope S__law_digit) := ⟨rfl, rfl, rfl, by decide +kernel, rfl, by decide +kernel, by decide +kernel⟩
abbrev S__law_pick : Stmt := top 7
theorem sc__law_pick : FnScope ["_law_row_here", "_law_at", "_law_limit", "_law_value"] ["_law_row_here", "_law_at", "_law_limit"] (defScope S__law_pick) := ⟨rfl, rfl, rfl, by decide +kernel, rfl, by decide +kernel, by decide +kernel⟩
abbrev S__law_whole : Stmt := top 8
theorem sc__law_whole : FnScope ["_law_value"] ["_law_value"] (defScope S__law_whole) := ⟨rfl, rfl, rfl, by decide +kernel, rfl, by decide +kernel, by decide +kernel⟩
abbrev S__law_equal : Stmt := top 9
theorem sc__law_equal : FnScope ["_law_actual", "_law_expected", "_law_waiting", "_law_k", "_law_pair", "_law_one", "_law_due_here", "_law_j", "_law_key"] ["_law_actual", "_law_expected"] (defScope S__law_equal) := ⟨rfl, rfl, rfl, by decide +kernel, rfl, by decide +kernel, by decide +kernel⟩
abbrev S__law_places : Stmt := top 10
theorem sc__law_places : FnScope [] [] (defScope S__law_places) := ⟨rfl, rfl, rfl, by decide +kernel, rfl, by decide +kernel, by decide +kernel⟩
abbrev S__law_listed : Stmt := top 11
theorem sc__law_listed : FnScope ["_law_row_here", "_law_at", "_law_places_here", "_law_moves", "_law_count", "_law_listed_here", "_law_j", "_law_k", "_law_base", "_law_end", "_law_after", "_law_turn"] ["_law_row_here", "_law_at"] (defScope S__law_listed) := ⟨rfl, rfl, rfl, by decide +kernel, rfl, by decide +kernel, by decide +kernel⟩
abbrev S__law_begin : Stmt := top 12
theorem sc__law_begin : FnScope ["_law_row_here", "_law_at", "_law_count"] ["_law_row_here", "_law_at"] (defScope S__law_begin) := ⟨rfl, rfl, rfl, by decide +kernel, rfl, by decide +kernel, by decide +kernel⟩
abbrev S__law_of : Stmt := top 13
theorem sc__law_of : FnScope ["_law_listed_here", "_law_state", "_law_one"] ["_law_listed_here", "_law_state"] (defScope S__law_of) := ⟨rfl, rfl, rfl, by decide +kernel, rfl, by decide +kernel, by decide +kernel⟩
abbrev S__law_far : Stmt := top 14
theorem sc__law_far : FnScope ["_law_listed_here", "_law_far_here", "_law_k", "_law_one"] ["_law_listed_here"] (defScope S__law_far) := ⟨rfl, rfl, rfl, by decide +kernel, rfl, by decide +kernel, by decide +kernel⟩
abbrev S__law_due : Stmt := top 15
theorem sc__law_due : FnScope ["_law_listed_here", "_law_begin_here", "_law_far_here", "_law_moves", "_law_state", "_law_k", "_law_after", "_law_one"] ["_law_listed_here", "_law_begin_here"] (defScope S__law_due) := ⟨rfl, rfl, rfl, by decide +kernel, rfl, by decide +kernel, by decide +kernel⟩
abbrev S__law_reached : Stmt := top 16
theorem sc__law_reached : FnScope ["_law_listed_here", "_law_begin_here", "_law_found", "_law_at", "_law_pair"] ["_law_listed_here", "_law_begin_here"] (defScope S__law_reached) := ⟨rfl, rfl, rfl, by decide +kernel, rfl, by decide +kernel, by decide +kernel⟩
abbrev S__law_asked : Stmt := top 17
theorem sc__law_asked : FnScope ["_law_table", "_law_begin_here", "_law_listed_here", "_law_due_here", "_law_told", "_law_places_here", "_law_state", "_law_pairs"] ["_law_table", "_law_begin_here", "_law_listed_here"] (defScope S__law_asked) := ⟨rfl, rfl, rfl, by decide +kernel, rfl, by decide +kernel, by decide +kernel⟩
abbrev S__law_bare : Stmt := top 18
theorem sc__law_bare : FnScope ["_law_table", "_law_begin_here"] ["_law_table", "_law_begin_here"] (defScope S__law_bare) := ⟨rfl, rfl, rfl, by decide +kernel, rfl, by decide +kernel, by decide +kernel⟩
abbrev S_law : Stmt := top 19
theorem sc_law : FnScope ["_law_script", "_law_row_here", "_law_begin_here", "_law_listed_here", "_law_given", "_law_table", "_law_origin", "_law_others", "_law_twin"] ["_law_script"] (defScope S_law) := ⟨rfl, rfl, rfl, by decide +kernel, rfl, by decide +kernel, by decide +kernel⟩
structure Ad where
  tS_BAD : Tok
  nil : Addr
  t_init : Addr
  t_start : Addr
  t_moves : Addr
  t_scenario : Addr
  t_states : Addr
  Table : Addr
  way_back : Addr
  _law_row : Addr
  _law_digit : Addr
  _law_pick : Addr
  _law_whole : Addr
  _law_equal : Addr
  _law_places : Addr
  _law_listed : Addr
  _law_begin : Addr
  _law_of : Addr
  _law_far : Addr
  _law_due : Addr
  _law_reached : Addr
  _law_asked : Addr
  _law_bare : Addr
def clA (A : Ad) : Nat → Addr
  | 20 => A.Table
  | _ => 0
def tbA (_ : Ad) : List Addr := []
structure Tp (P : Program) (w : World) (K : PySem.W.Frag) (mg : Str → Option Value) (A : Ad) : Prop where
  n_abs : mg "abs" = none
  n_bool : mg "bool" = none
  n_dict : mg "dict" = none
  n_int : mg "int" = none
  n_isinstance : mg "isinstance" = none
  n_len : mg "len" = none
  n_list : mg "list" = none
  n_range : mg "range" = none
  n_str : mg "str" = none
  n_tuple : mg "tuple" = none
  g_BAD : mg "BAD" = some (.str "bad" A.tS_BAD)
  kit : KitOk K
  g_Table : mg "Table" = some (.ref A.Table)
  nil : strsB K A.nil [] = true
  cl_Table : Cls K A.Table
  na_Table_first : NoAttr K A.Table "first"
  na_Table_pairs : NoAttr K A.Table "pairs"
  M_Table : Mk K A.Table A.t_init
  d_tinit : ∃ fd, FunD K "__init__" "Table.__init__" (defArgs S_Table___init__) (defBody S_Table___init__) (defScope S_Table___init__) [V.str "start", V.ref A.nil] [] A.t_init fd
  m_start : Meth K A.Table "start" A.t_start
  m_moves : Meth K A.Table "moves" A.t_moves
  m_scenario : Meth K A.Table "scenario" A.t_scenario
  m_states : Meth K A.Table "states" A.t_states
  d_start : Me K "start" "Table.start" S_Table_start A.t_start ["self"]
  d_moves : Me K "moves" "Table.moves" S_Table_moves A.t_moves ["self", "state"]
  d_scenario : Me K "scenario" "Table.scenario" S_Table_scenario A.t_scenario ["self"]
  d_states : Me K "states" "Table.states" S_Table_states A.t_states ["self"]
  d_way_back : Df K mg "way_back" "way_back" S_way_back A.way_back ["found", "state"]
  d__law_row : Df K mg "_law_row" "_law_row" S__law_row A._law_row ["_law_script", "_law_most"]
  d__law_digit : Df K mg "_law_digit" "_law_digit" S__law_digit A._law_digit ["_law_row_here", "_law_at"]
  d__law_pick : Df K mg "_law_pick" "_law_pick" S__law_pick A._law_pick ["_law_row_here", "_law_at", "_law_limit"]
  d__law_whole : Df K mg "_law_whole" "_law_whole" S__law_whole A._law_whole ["_law_value"]
  d__law_equal : Df K mg "_law_equal" "_law_equal" S__law_equal A._law_equal ["_law_actual", "_law_expected"]
  d__law_places : Df K mg "_law_places" "_law_places" S__law_places A._law_places []
  d__law_listed : Df K mg "_law_listed" "_law_listed" S__law_listed A._law_listed ["_law_row_here", "_law_at"]
  d__law_begin : Df K mg "_law_begin" "_law_begin" S__law_begin A._law_begin ["_law_row_here", "_law_at"]
  d__law_of : Df K mg "_law_of" "_law_of" S__law_of A._law_of ["_law_listed_here", "_law_state"]
  d__law_far : Df K mg "_law_far" "_law_far" S__law_far A._law_far ["_law_listed_here"]
  d__law_due : Df K mg "_law_due" "_law_due" S__law_due A._law_due ["_law_listed_here", "_law_begin_here"]
  d__law_reached : Df K mg "_law_reached" "_law_reached" S__law_reached A._law_reached ["_law_listed_here", "_law_begin_here"]
  d__law_asked : Df K mg "_law_asked" "_law_asked" S__law_asked A._law_asked ["_law_table", "_law_begin_here", "_law_listed_here"]
  d__law_bare : Df K mg "_law_bare" "_law_bare" S__law_bare A._law_bare ["_law_table", "_law_begin_here"]
section
variable {P : Program} {w : World} {K : PySem.W.Frag} {mg : Str → Option Value} {A : Ad}
end
end P44
namespace P44
open PySem L2 Xg Xd
/-! ### a table in the heap -/
/-- one key, the list under it: where it stands, what it holds -/
structure Gr where
  k : Str
  r : Addr
  vs : List V
  xs : List D
theorem gr_inj {α : Type} {f : Gr → α} : ∀ {L : List Gr}, (L.map f).Nodup → ∀ a ∈ L, ∀ b ∈ L, f a = f b → a = b
  | [], _, a, ha, _, _, _ => by cases ha
  | x :: L, n, a, ha, b, hb, e => by
    rw [List.map_cons, List.nodup_cons] at n
    rcases List.mem_cons.mp ha with ha | ha
    · rcases List.mem_cons.mp hb with hb | hb
      · rw [ha, hb]
      · rw [ha] at e
        exact (n.1 (List.mem_map.mpr ⟨b, hb, e.symm⟩)).elim
    · rcases List.mem_cons.mp hb with hb | hb
      · rw [hb] at e
        exact (n.1 (List.mem_map.mpr ⟨a, ha, e⟩)).elim
      · exact gr_inj n.2 a ha b hb e
structure GrOk (K : PySem.W.Frag) (cl : Nat → Addr) (H0 Hi H : Hp) (p q : Addr) (GL : List Gr) : Prop where
  at' : ∀ g ∈ GL, H g.r = some (.lst g.vs) ∧ Hi g.r = none ∧ H0 g.r = none ∧ g.r ≠ p ∧ g.r ≠ q ∧ DvA K cl Hi g.vs g.xs
  nd : (GL.map (·.r)).Nodup
  kd : (GL.map (·.k)).Nodup
def grData (GL : List Gr) : List (Str × List D) := GL.map fun g => (g.k, g.xs)
def grKvs (GL : List Gr) : List (L2.Key × V) := GL.map fun g => (.inr g.k, .ref g.r)
theorem GrOk.up {K : PySem.W.Frag} {cl : Nat → Addr} {H0 Hi H Hi' H' : Hp} {p q : Addr} {GL : List Gr} (h : GrOk K cl H0 Hi H p q GL) (s : Same Hi Hi') (k : ∀ g ∈ GL, H' g.r = H g.r) (n : ∀ g ∈ GL, Hi' g.r = none) : GrOk K cl H0 Hi' H' p q GL := by
  refine ⟨fun g hg => ?_, h.nd, h.kd⟩
  obtain ⟨h1, h2, h3, h4, h5, h6⟩ := h.at' g hg
  exact ⟨by rw [k g hg]; exact h1, n g hg, h3, h4, h5, h6.up s⟩
theorem kvs_get {s : Str} : ∀ {GL : List Gr}, valV (grKvs GL) (.inr s) = ((GL.find? fun g => decide (g.k = s)).map fun g => V.ref g.r)
  | [] => rfl
  | g :: GL => by
    have ih := kvs_get (s := s) (GL := GL)
    unfold grKvs at *
    rw [List.map_cons]
    by_cases c : g.k = s
    · subst c
      rw [valV_pos rfl, List.find?_cons]
      simp
    · rw [valV_neg (by simpa using c), List.find?_cons, ih]
      simp [c]
theorem kvs_put {s : Str} {z : Addr} {GL : List Gr} (h : valV (grKvs GL) (.inr s) = none) : putK (grKvs GL) (.inr s) (.ref z) = grKvs (GL ++ [⟨s, z, [], []⟩]) := by
  unfold putK
  rw [valV_any, h]
  show grKvs GL ++ [(.inr s, .ref z)] = _
  unfold grKvs
  rw [List.map_append]
  rfl
/-- one item more in the list of a key that is there -/
def bump (GL : List Gr) (r : Addr) (v : V) (e : D) : List Gr := GL.map fun g => if g.r = r then { g with vs := g.vs ++ [v], xs := g.xs ++ [e] } else g
theorem bump_kvs (GL : List Gr) (r : Addr) (v : V) (e : D) : grKvs (bump GL r v e) = grKvs GL := by
  unfold grKvs bump
  rw [List.map_map]
  refine List.map_congr_left fun g _ => ?_
  show (_, _) = (_, _)
  by_cases c : g.r = r <;> simp [c]
theorem bump_r (GL : List Gr) (r : Addr) (v : V) (e : D) : (bump GL r v e).map (·.r) = GL.map (·.r) := by
  unfold bump
  rw [List.map_map]
  refine List.map_congr_left fun g _ => ?_
  show Gr.r (if g.r = r then _ else g) = g.r
  by_cases c : g.r = r <;> simp [c]
theorem bump_data {s : Str} {e : D} {v : V} : ∀ {GL : List Gr} {g0 : Gr}, (GL.map (·.r)).Nodup → GL.find? (fun g => decide (g.k = s)) = some g0 → (∀ a ∈ GL, ∀ b ∈ GL, a.k = b.k → a = b) → grData (bump GL g0.r v e) = addG (grData GL) s e := by
  intro GL g0 nd hf uq
  have hg0 := List.mem_of_find?_eq_some hf
  have hk : g0.k = s := by simpa using List.find?_some hf
  unfold addG
  have any : ((grData GL).any fun g => decide (g.1 = s)) = true := List.any_eq_true.mpr ⟨(g0.k, g0.xs), List.mem_map.mpr ⟨g0, hg0, rfl⟩, decide_eq_true hk⟩
  rw [if_pos any]
  unfold grData bump
  rw [List.map_map, List.map_map]
  refine List.map_congr_left fun g hg => ?_
  show ((if g.r = g0.r then { g with vs := g.vs ++ [v], xs := g.xs ++ [e] } else g : Gr).k, (if g.r = g0.r then { g with vs := g.vs ++ [v], xs := g.xs ++ [e] } else g : Gr).xs) = if g.k = s then (g.k, g.xs ++ [e]) else (g.k, g.xs)
  by_cases c : g.r = g0.r
  · have eg : g = g0 := gr_inj (f := Gr.r) nd g hg g0 hg0 c
    subst eg
    rw [if_pos rfl, if_pos hk]
  · have ck : ¬ g.k = s := fun e => c (by rw [uq g hg g0 hg0 (e.trans hk.symm)])
    rw [if_neg c, if_neg ck]
theorem new_data {s : Str} {z : Addr} {v : V} {e : D} {GL : List Gr} (h : GL.find? (fun g => decide (g.k = s)) = none) : grData (GL ++ [⟨s, z, [v], [e]⟩]) = addG (grData GL) s e := by
  unfold addG
  have any : ¬ ((grData GL).any fun g => decide (g.1 = s)) = true := fun k => by
    obtain ⟨g, hg, q⟩ := List.any_eq_true.mp k
    obtain ⟨g1, h1, rfl⟩ := List.mem_map.mp hg
    have := List.find?_eq_none.mp h g1 h1
    exact this q
  rw [if_neg any]
  unfold grData
  rw [List.map_append]
  rfl
def tabD (d : D) (G : List (Str × List D)) : D := .ins 20 ["first", "pairs"] [d, .dic false (gKs G) (gXs G)]
/-- rows of three words in the heap -/
def RowsAt (K : PySem.W.Frag) (H : Hp) (v : V) (rows : List (Str × Str × Str)) : Prop := ∃ (a : Addr) (ts : List Addr), v = .ref a ∧ ts.length = rows.length ∧ (SqL K H a (ts.map V.ref) ∨ SqT K H a (ts.map V.ref)) ∧
  ∀ (i : Nat) (t : Addr) (r : Str × Str × Str), ts[i]? = some t → rows[i]? = some r → SqT K H t [.str r.1, .str r.2.1, .str r.2.2]
def rwS (r : Str × Str × Str) : Rw := (r.1, .str r.2.1, .str r.2.2)
structure TabN (K : PySem.W.Frag) (A : Ad) (H H' : Hp) (p : Addr) (d : D) : Prop where
  ex : ∃ Hn : Hp, (∀ b o, Hn b = some o → (H b = none ∨ b = p) ∧ H' b = some o) ∧ Dv K (clA A) Hn (.ref p) d
def spInitT (K : PySem.W.Frag) (A : Ad) : Sp := fun vs H Q _ => ∃ (p dx : Addr) (v : V) (first : Str) (rows : List (Str × Str × Str)), vs = [.ref p, .str first, v] ∧ H p = some (.ins A.Table dx []) ∧ RowsAt K H v rows ∧ rows.length ≤ 1000 ∧
  ∀ H', (∀ b o, b ≠ p → H b = some o → H' b = some o) → TabN K A H H' p (tabD (.str first) (groupR (rows.map rwS))) → Q .non H'
def lidH (H' Ht : Hp) (p q : Addr) (rs : List Addr) : Hp := fun b => if b = p ∨ b = q ∨ b ∈ rs then H' b else Ht b
theorem lid_in {H' Ht : Hp} {p q b : Addr} {rs : List Addr} (c : b = p ∨ b = q ∨ b ∈ rs) : lidH H' Ht p q rs b = H' b := if_pos c
theorem lid_out {H' Ht : Hp} {p q b : Addr} {rs : List Addr} (c : ¬ (b = p ∨ b = q ∨ b ∈ rs)) : lidH H' Ht p q rs b = Ht b := if_neg c
/-- the loop's state behind i rows -/
structure TabI (K : PySem.W.Frag) (cl : Nat → Addr) (H H' : Hp) (C p dx q : Addr) (first : Str) (n : Nat) (G : List (Str × List D)) : Prop where
  keep : ∀ b o, b ≠ p → H b = some o → H' b = some o
  ins : H' p = some (.ins C dx [("first", .str first), ("pairs", .ref q)])
  nq : H q = none
  ex : ∃ (GL : List Gr) (Ht : Hp), H' q = some (.dK (grKvs GL)) ∧ grData GL = G ∧ GL.length ≤ n ∧ (∀ b o, Ht b = some o → H b = none ∧ H' b = some o ∧ b ≠ p) ∧ (∀ g ∈ GL, g.vs.length ≤ n ∧ H g.r = none) ∧ Ht q = none ∧ GrOk K cl H Ht H' p q GL
section
variable {P : Program} {w : World} {K : PySem.W.Frag} {mg : Str → Option Value} {base : Heap} {A : Ad}
theorem same_sqLp {K : PySem.W.Frag} {H H' : Hp} {a : Addr} {xs : List V} {p : Addr} (e : ∀ b o, b ≠ p → H b = some o → H' b = some o) (hp : ∃ C dx, H p = some (.ins C dx [])) (h : SqL K H a xs) : SqL K H' a xs := by
  obtain ⟨C, dx, hp⟩ := hp
  have ne : ∀ {b o}, H b = some o → (∀ C dx fs, o ≠ .ins C dx fs) → H' b = some o := fun {b o} k n => e b o (fun z => by rw [z, hp] at k; exact n _ _ _ (Option.some.inj k).symm) k
  rcases h with (h | ⟨o, h⟩) | h
  · exact .inl (.inl (ne h fun _ _ _ z => by cases z))
  · exact .inl (.inr ⟨o, ne h fun _ _ _ z => by cases z⟩)
  · exact .inr h
theorem same_sqTp {K : PySem.W.Frag} {H H' : Hp} {a : Addr} {xs : List V} {p : Addr} (e : ∀ b o, b ≠ p → H b = some o → H' b = some o) (hp : ∃ C dx, H p = some (.ins C dx [])) (h : SqT K H a xs) : SqT K H' a xs := by
  obtain ⟨C, dx, hp⟩ := hp
  have ne : ∀ {b o}, H b = some o → (∀ C dx fs, o ≠ .ins C dx fs) → H' b = some o := fun {b o} k n => e b o (fun z => by rw [z, hp] at k; exact n _ _ _ (Option.some.inj k).symm) k
  rcases h with (h | ⟨o, h⟩) | h
  · exact .inl (.inl (ne h fun _ _ _ z => by cases z))
  · exact .inl (.inr ⟨o, ne h fun _ _ _ z => by cases z⟩)
  · exact .inr h
/-- the end: what was made, told as data -/
theorem TabI.done {H H' : Hp} {p dx q : Addr} {first : Str} {n : Nat} {G : List (Str × List D)} (h : TabI K (clA A) H H' A.Table p dx q first n G) : TabN K A H H' p (tabD (.str first) G) := by
  obtain ⟨GL, Ht, h1, h2, h3, h4, h5, hq0, ok⟩ := h.ex
  subst h2
  have pq : p ≠ q := fun e => by
    have := h.ins
    rw [e, h1] at this
    cases this
  refine ⟨⟨lidH H' Ht p q (GL.map (·.r)), fun b o e => ?_, ?_⟩⟩
  · by_cases c : b = p ∨ b = q ∨ b ∈ GL.map (·.r)
    · rw [lid_in c] at e
      refine ⟨?_, e⟩
      rcases c with c | c | c
      · exact .inr c
      · exact .inl (by rw [c]; exact h.nq)
      · obtain ⟨g, hg, rfl⟩ := List.mem_map.mp c
        exact .inl (h5 g hg).2
    · rw [lid_out c] at e
      exact ⟨.inl (h4 b o e).1, (h4 b o e).2.1⟩
  · have sm : Same Ht (lidH H' Ht p q (GL.map (·.r))) := fun b o e => by
      by_cases c : b = p ∨ b = q ∨ b ∈ GL.map (·.r)
      · rw [lid_in c]
        exact (h4 b o e).2.1
      · rw [lid_out c]
        exact e
    have ep : lidH H' Ht p q (GL.map (·.r)) p = some (.ins A.Table dx ((["first", "pairs"] : List Str).zip [V.str first, V.ref q])) := by
      rw [lid_in (.inl rfl), h.ins]
      rfl
    have eq : lidH H' Ht p q (GL.map (·.r)) q = some (.dK ((GL.map fun g => (Sum.inr g.k : L2.Key)).zip (GL.map fun g => V.ref g.r))) := by
      rw [lid_in (.inr (.inl rfl)), h1]
      unfold grKvs
      rw [← List.zip_map' ]
    have ks : gKs (grData GL) = (GL.map fun g => (Sum.inr g.k : L2.Key)).map keyD := by
      unfold gKs grData
      rw [List.map_map, List.map_map]
      rfl
    unfold tabD
    rw [ks]
    refine .ins ep rfl (.cons (.str _) (.cons (.dicK eq (by rw [List.length_map, List.length_map]) ?_) .nil))
    have all : ∀ L : List Gr, (∀ g ∈ L, g ∈ GL) → DvA K (clA A) (lidH H' Ht p q (GL.map (·.r))) (L.map fun g => V.ref g.r) (gXs (grData L)) := fun L => by
      induction L with
      | nil => exact fun _ => .nil
      | cons g L ih =>
        intro hL
        have hg := hL g List.mem_cons_self
        obtain ⟨k1, k2, k3, k4, k5, k6⟩ := ok.at' g hg
        refine .cons (.lst (vs := g.vs) ?_ (k6.up sm)) (ih fun x hx => hL x (List.mem_cons_of_mem _ hx))
        rw [lid_in (.inr (.inr (List.mem_map.mpr ⟨g, hg, rfl⟩)))]
        exact k1
    exact all GL fun g hg => hg
end
section
variable {P : Program} {w : World} {K : PySem.W.Frag} {mg : Str → Option Value} {base : Heap} {A : Ad}
/-- a new list under a new key, with its first item -/
theorem TabI.new {H H3 : Hp} {p dx q z t : Addr} {first s m e : Str} {n : Nat} {G : List (Str × List D)} (h : TabI K (clA A) H H3 A.Table p dx q first n G)
    (kvs : List (L2.Key × V)) (hq : H3 q = some (.dK kvs)) (hn : valV kvs (.inr s) = none) {H4 : Hp} (nz : H3 z = none) (nt : H3 t = none) (tz : t ≠ z)
    (h4 : H4 = upd (upd (upd H3 q (.dK (putK kvs (.inr s) (.ref z)))) t (.tup [.str m, .str e])) z (.lst [.ref t])) : TabI K (clA A) H H4 A.Table p dx q first (n + 1) (addG G s (.tup [.str m, .str e])) := by
  obtain ⟨GL, Ht, h1, h2, h3, h4', h5, hq0, ok⟩ := h.ex
  rw [hq] at h1
  cases h1
  have pq : p ≠ q := fun e => by
    have := h.ins
    rw [e, hq] at this
    cases this
  have pz : p ≠ z := fun e => by
    have := h.ins
    rw [e, nz] at this
    cases this
  have pt : p ≠ t := fun e => by
    have := h.ins
    rw [e, nt] at this
    cases this
  have qz : q ≠ z := fun e => by rw [e, nz] at hq; cases hq
  have qt : q ≠ t := fun e => by rw [e, nt] at hq; cases hq
  have other : ∀ b, b ≠ q → b ≠ t → b ≠ z → H4 b = H3 b := fun b h1 h2 h3 => by rw [h4, upd_ne h3, upd_ne h2, upd_ne h1]
  have newIn : ∀ b, H3 b = none → b ≠ p → H b = none := fun b n bp => by
    cases k : H b with
    | none => rfl
    | some o => rw [h.keep b o bp k] at n; cases n
  have hf : GL.find? (fun g => decide (g.k = s)) = none := by
    rw [kvs_get] at hn
    simpa using hn
  have rz : ∀ g ∈ GL, g.r ≠ z ∧ g.r ≠ t ∧ g.r ≠ q := fun g hg => by
    obtain ⟨k1, k2, k3, k4, k5, k6⟩ := ok.at' g hg
    exact ⟨fun e => (by rw [e, nz] at k1; cases k1), fun e => (by rw [e, nt] at k1; cases k1), k5⟩
  have ht3 : ∀ b o, Ht b = some o → b ≠ z ∧ b ≠ t ∧ b ≠ q := fun b o k => by
    have := (h4' b o k).2.1
    exact ⟨fun e => (by rw [e, nz] at this; cases this), fun e => (by rw [e, nt] at this; cases this), fun e => (by rw [e, hq0] at k; cases k)⟩
  have tNone : Ht t = none := by
    cases k : Ht t with
    | none => rfl
    | some o => exact absurd rfl (ht3 t o k).2.1
  have zNone : Ht z = none := by
    cases k : Ht z with
    | none => rfl
    | some o => exact absurd rfl (ht3 z o k).1
  have sm : Same Ht (upd Ht t (.tup [.str m, .str e])) := same_upd tNone
  refine ⟨fun b o bp k => ?_, ?_, h.nq, GL ++ [⟨s, z, [.ref t], [.tup [.str m, .str e]]⟩], upd Ht t (.tup [.str m, .str e]), ?_, ?_, ?_, fun b o k => ?_, fun g hg => ?_, ?_, ?_⟩
  · have k3 := h.keep b o bp k
    rw [other b (fun e => by rw [e, h.nq] at k; cases k) (ne_of_none k3 nt) (ne_of_none k3 nz)]
    exact k3
  · rw [other p pq pt pz]
    exact h.ins
  · rw [h4, upd_ne qz, upd_ne qt, upd_same, kvs_put hn]
    unfold grKvs
    rw [List.map_append, List.map_append]
    rfl
  · rw [new_data hf, h2]
  · rw [List.length_append]
    exact Nat.succ_le_succ h3
  · by_cases c : b = t
    · subst c
      rw [upd_same] at k
      cases k
      exact ⟨newIn _ nt (Ne.symm pt), by rw [h4, upd_ne tz, upd_same], Ne.symm pt⟩
    · rw [upd_ne c] at k
      obtain ⟨k1, k2, k3⟩ := h4' b o k
      obtain ⟨n1, n2, n3⟩ := ht3 b o k
      exact ⟨k1, by rw [other b n3 n2 n1]; exact k2, k3⟩
  · rcases List.mem_append.mp hg with hg | hg
    · exact ⟨Nat.le_succ_of_le (h5 g hg).1, (h5 g hg).2⟩
    · rw [List.mem_singleton.mp hg]
      exact ⟨Nat.succ_le_succ (Nat.zero_le n), newIn _ nz (Ne.symm pz)⟩
  · rw [upd_ne qt]
    exact hq0
  · refine ⟨fun g hg => ?_, ?_, ?_⟩
    · rcases List.mem_append.mp hg with hg | hg
      · obtain ⟨k1, k2, k3, k4, k5, k6⟩ := ok.at' g hg
        obtain ⟨n1, n2, n3⟩ := rz g hg
        exact ⟨by rw [other g.r n3 n2 n1]; exact k1, by rw [upd_ne n2]; exact k2, k3, k4, k5, k6.up sm⟩
      · rw [List.mem_singleton.mp hg]
        refine ⟨by rw [h4, upd_same], by rw [upd_ne (Ne.symm tz)]; exact zNone, newIn _ nz (Ne.symm pz), Ne.symm pz, Ne.symm qz, .cons (.tup (SqT.of upd_same) (.cons (.str _) (.cons (.str _) .nil))) .nil⟩
    · rw [List.map_append, List.nodup_append]
      refine ⟨ok.nd, by simp, fun a ha b hb => ?_⟩
      obtain ⟨g, hg, rfl⟩ := List.mem_map.mp ha
      have : b = z := by simpa using hb
      rw [this]
      exact (rz g hg).1
    · rw [List.map_append, List.nodup_append]
      refine ⟨ok.kd, by simp, fun a ha b hb => ?_⟩
      obtain ⟨g, hg, rfl⟩ := List.mem_map.mp ha
      have : b = s := by simpa using hb
      rw [this]
      intro e
      have := List.find?_eq_none.mp hf g hg
      simp [e] at this
/-- one item more under a key that is there -/
theorem TabI.more {H H3 : Hp} {p dx q : Addr} {v : V} {first s m e : Str} {n : Nat} {G : List (Str × List D)} (h : TabI K (clA A) H H3 A.Table p dx q first n G)
    (kvs : List (L2.Key × V)) (hq : H3 q = some (.dK kvs)) (hv : valV kvs (.inr s) = some v) :
    ∃ r vs, v = .ref r ∧ r ≠ q ∧ H3 r = some (.lst vs) ∧ vs.length ≤ n ∧ (∀ t, H3 t = none → ∀ H4, H4 = upd (upd H3 t (.tup [.str m, .str e])) r (.lst (vs ++ [.ref t])) → TabI K (clA A) H H4 A.Table p dx q first (n + 1) (addG G s (.tup [.str m, .str e]))) := by
  obtain ⟨GL, Ht, h1, h2, h3, h4', h5, hq0, ok⟩ := h.ex
  rw [hq] at h1
  cases h1
  rw [kvs_get] at hv
  obtain ⟨g0, hf, rfl⟩ := Option.map_eq_some_iff.mp hv
  have hg0 := List.mem_of_find?_eq_some hf
  obtain ⟨a1, a2, a3, a4, a5, a6⟩ := ok.at' g0 hg0
  refine ⟨g0.r, g0.vs, rfl, a5, a1, (h5 g0 hg0).1, fun t nt H4 h4 => ?_⟩
  have pt : p ≠ t := fun e => by
    have := h.ins
    rw [e, nt] at this
    cases this
  have qt : q ≠ t := fun e => by rw [e, nt] at hq; cases hq
  have rt : g0.r ≠ t := fun e => by rw [e, nt] at a1; cases a1
  have other : ∀ b, b ≠ t → b ≠ g0.r → H4 b = H3 b := fun b h2 h3 => by rw [h4, upd_ne h3, upd_ne h2]
  have newIn : ∀ b, H3 b = none → b ≠ p → H b = none := fun b n bp => by
    cases k : H b with
    | none => rfl
    | some o => rw [h.keep b o bp k] at n; cases n
  have ht3 : ∀ b o, Ht b = some o → b ≠ t ∧ b ≠ g0.r := fun b o k => by
    have := (h4' b o k).2.1
    exact ⟨fun e => (by rw [e, nt] at this; cases this), fun e => (by rw [e, a2] at k; cases k)⟩
  have tNone : Ht t = none := by
    cases k : Ht t with
    | none => rfl
    | some o => exact absurd rfl (ht3 t o k).1
  have sm : Same Ht (upd Ht t (.tup [.str m, .str e])) := same_upd tNone
  have eT : H4 t = some (.tup [.str m, .str e]) := by rw [h4, upd_ne (Ne.symm rt), upd_same]
  refine ⟨fun b o bp k => ?_, ?_, h.nq, bump GL g0.r (.ref t) (.tup [.str m, .str e]), upd Ht t (.tup [.str m, .str e]), ?_, ?_, ?_, fun b o k => ?_, fun g hg => ?_, ?_, ?_⟩
  · have k3 := h.keep b o bp k
    rw [other b (ne_of_none k3 nt) (fun e => by rw [e, a3] at k; cases k)]
    exact k3
  · rw [other p pt (Ne.symm a4)]
    exact h.ins
  · rw [other q qt (Ne.symm a5), hq, bump_kvs]
  · rw [bump_data ok.nd hf (gr_inj (f := Gr.k) ok.kd), h2]
  · unfold bump
    rw [List.length_map]
    exact Nat.le_succ_of_le h3
  · by_cases c : b = t
    · subst c
      rw [upd_same] at k
      cases k
      exact ⟨newIn _ nt (Ne.symm pt), eT, Ne.symm pt⟩
    · rw [upd_ne c] at k
      obtain ⟨k1, k2, k3⟩ := h4' b o k
      obtain ⟨n1, n2⟩ := ht3 b o k
      exact ⟨k1, by rw [other b n1 n2]; exact k2, k3⟩
  · unfold bump at hg
    obtain ⟨g1, hg1, rfl⟩ := List.mem_map.mp hg
    have := h5 g1 hg1
    by_cases c : g1.r = g0.r
    · rw [if_pos c]
      have eg := gr_inj (f := Gr.r) ok.nd g1 hg1 g0 hg0 c
      refine ⟨?_, this.2⟩
      show (g1.vs ++ [V.ref t]).length ≤ n + 1
      rw [List.length_append]
      exact Nat.succ_le_succ this.1
    · rw [if_neg c]
      exact ⟨Nat.le_succ_of_le this.1, this.2⟩
  · rw [upd_ne qt]
    exact hq0
  · refine ⟨fun g hg => ?_, by rw [bump_r]; exact ok.nd, ?_⟩
    · unfold bump at hg
      obtain ⟨g1, hg1, rfl⟩ := List.mem_map.mp hg
      obtain ⟨k1, k2, k3, k4, k5, k6⟩ := ok.at' g1 hg1
      have n2 : g1.r ≠ t := fun e => by rw [e, nt] at k1; cases k1
      by_cases c : g1.r = g0.r
      · rw [if_pos c]
        have eg := gr_inj (f := Gr.r) ok.nd g1 hg1 g0 hg0 c
        subst eg
        exact ⟨by show H4 g1.r = some (.lst (g1.vs ++ [V.ref t])); rw [h4, upd_same], by show upd Ht t _ g1.r = none; rw [upd_ne n2]; exact k2, k3, k4, k5, (k6.up sm).append (.cons (.tup (SqT.of upd_same) (.cons (.str _) (.cons (.str _) .nil))) .nil)⟩
      · rw [if_neg c]
        exact ⟨by rw [other g1.r n2 c]; exact k1, by rw [upd_ne n2]; exact k2, k3, k4, k5, k6.up sm⟩
    · have : (bump GL g0.r (.ref t) (.tup [.str m, .str e])).map (·.k) = GL.map (·.k) := by
        unfold bump
        rw [List.map_map]
        refine List.map_congr_left fun g _ => ?_
        show Gr.k (if g.r = g0.r then _ else g) = g.k
        by_cases c : g.r = g0.r <;> simp [c]
      rw [this]
      exact ok.kd
end
section
variable {P : Program} {w : World} {K : PySem.W.Frag} {mg : Str → Option Value} {base : Heap} {A : Ad}
theorem TabI.grow {H H3 H4 : Hp} {p dx q : Addr} {first : Str} {n : Nat} {G : List (Str × List D)} (h : TabI K (clA A) H H3 A.Table p dx q first n G) (s : Same H3 H4) : TabI K (clA A) H H4 A.Table p dx q first n G := by
  obtain ⟨GL, Ht, h1, h2, h3, h4', h5, hq0, ok⟩ := h.ex
  refine ⟨fun b o bp k => s _ _ (h.keep b o bp k), s _ _ h.ins, h.nq, GL, Ht, s _ _ h1, h2, h3, fun b o k => ?_, h5, hq0, ⟨fun g hg => ?_, ok.nd, ok.kd⟩⟩
  · obtain ⟨k1, k2, k3⟩ := h4' b o k
    exact ⟨k1, s _ _ k2, k3⟩
  · obtain ⟨k1, k2⟩ := ok.at' g hg
    exact ⟨s _ _ k1, k2⟩
theorem group_snoc (rows : List (Str × Str × Str)) {i : Nat} {r : Str × Str × Str} (h : rows[i]? = some r) : groupR ((rows.take (i + 1)).map rwS) = addG (groupR ((rows.take i).map rwS)) r.1 (.tup [.str r.2.1, .str r.2.2]) := by
  have e : rows.take (i + 1) = rows.take i ++ [r] := by
    rw [List.take_succ, h]
    rfl
  unfold groupR
  rw [e, List.map_append, List.foldl_append]
  rfl
theorem ok_tinit {fd : FuncData} (F : FunD K "__init__" "Table.__init__" (defArgs S_Table___init__) (defBody S_Table___init__) (defScope S_Table___init__) [V.str "start", V.ref A.nil] [] A.t_init fd) (T : Tp P w K mg A) : FnOk P w K mg base (L2.CX P w) 1 A.t_init fd ["self", "first", "rows"] (spInitT K A) := by
  refine F.ok sc_Table___init__ (fun vs H Q E h => ?_) (fun cdv A' outer s H vs Q E hr h => ?_)
  · obtain ⟨p, dx, v, first, rows, rfl, _⟩ := h
    rfl
  · obtain ⟨p, dx, v, first, rows, rfl, hp, ⟨a, ts, rfl, hlen, hsq, hrow⟩, hl, hq⟩ := h
    refine ⟨_, (pss_cons (ps_fld (pv 0) (pv 1) rfl)
  (pss_cons (ps_fld (pv 0) pe_dnewK rfl)
  (pss_one (ps_for (passes_of rfl) rfl (show PI _ _ _ (tiX K _) from pi_X (pv 2)) (pg_tup (by rfl) (pgs_cons (pg_name (i := 3) sc_Table___init__.nd rfl (Or.inl rfl)) (pgs_cons (pg_name (i := 4) sc_Table___init__.nd rfl (Or.inl rfl)) (pgs_cons (pg_name (i := 5) sc_Table___init__.nd rfl (Or.inl rfl)) pgs_nil))))
    (pss_one (ps_expr (pe_bm PySem.F.plainAttrs_list PySem.F.slot_list_append PySem.F.type_list_append mt_append (pe_dsetd (pe_fld (pv 0) rfl) (pv 3) (pe_lst pa_nil) ⟨rfl, rfl, rfl, rfl⟩) (pa_cons (pe_tup (pa_cons (pv 4) (pa_cons (pv 5) pa_nil))) pa_nil)))))))), ?_⟩
    refine ⟨_, rfl, _, rfl, p, A.Table, dx, [], rfl, hp, T.cl_Table, T.na_Table_first, (by show 0 < 1000; decide), ?_⟩
    refine fun q nz => ?_
    have pz : q ≠ p := fun e => by
      rw [e, upd_same] at nz
      cases nz
    refine ⟨_, rfl, p, A.Table, dx, [("first", .str first)], rfl, by rw [upd_ne (Ne.symm pz), upd_same]; rfl, T.cl_Table, T.na_Table_pairs, (by show 1 < 1000; decide), ?_⟩
    have nz0 : H q = none := by rw [upd_ne pz] at nz; exact nz
    generalize eH : upd (upd (upd H p (HO.ins A.Table dx (putF "first" (V.str first) []))) q (HO.dK [])) p (HO.ins A.Table dx (putF "pairs" (V.ref q) [("first", V.str first)])) = H2
    have I0 : TabI K (clA A) H H2 A.Table p dx q first 0 [] := by
      refine ⟨fun b o bp k => ?_, by rw [← eH, upd_same]; rfl, nz0, [], fun _ => none, by rw [← eH, upd_ne pz, upd_same]; rfl, rfl, Nat.le_refl _, (fun b o k => by cases k), (fun g hg => by cases hg), rfl, ⟨fun g hg => (by cases hg), .nil, .nil⟩⟩
      rw [← eH, upd_ne bp, upd_ne (ne_of_none k nz0), upd_ne bp]
      exact k
    have hpx : ∃ C dx, H p = some (.ins C dx []) := ⟨_, _, hp⟩
    have body : ∀ (i : Nat) (x : V) (σ : L2.St) (H3 : Hp) (D : Ends), (ts.map V.ref)[i]? = some x → TabI K (clA A) H H3 A.Table p dx q first i (groupR ((rows.take i).map rwS)) → (∃ o3 o4 o5, σ = [some (.ref p), some (.str first), some (.ref a), o3, o4, o5]) →
        (∀ σ' H', TabI K (clA A) H H' A.Table p dx q first (i + 1) (groupR ((rows.take (i + 1)).map rwS)) → (∃ o3 o4 o5, σ' = [some (.ref p), some (.str first), some (.ref a), o3, o4, o5]) → D.nx σ' H') →
        gTup K 3 (gCons (gName 3) (gCons (gName 4) (gCons (gName 5) gNil))) x σ H3 fun σ2 H4 => tDrop (tBM K "list" rAppend (tDSetd (tFld K (tVar 0) "pairs") (tVar 3) (tLst tNil)) (tCons (tTup (tCons (tVar 4) (tCons (tVar 5) tNil))) tNil)) D σ2 H4 := by
      rintro i x σ H3 D ex I ⟨o3, o4, o5, rfl⟩ hD
      rw [List.getElem?_map] at ex
      obtain ⟨t, et, rfl⟩ := Option.map_eq_some_iff.mp ex
      have hi : i < rows.length := by rw [← hlen]; exact (List.getElem?_eq_some_iff.mp et).1
      obtain ⟨r, er⟩ : ∃ r, rows[i]? = some r := ⟨rows[i], List.getElem?_eq_getElem hi⟩
      obtain ⟨s, m, e⟩ := r
      rw [group_snoc rows er] at hD
      obtain ⟨GL, Ht, g1, _, g2⟩ := I.ex
      have glen : (grKvs GL).length < sizeLine := by
        have : GL.length ≤ i := g2.1
        unfold grKvs
        rw [List.length_map]
        exact lt1000 (by omega)
      refine ⟨t, _, rfl, same_sqTp I.keep hpx (hrow i t _ et er), rfl, _, _, rfl, _, _, rfl, _, _, rfl, rfl, ?_⟩
      refine ⟨_, rfl, p, A.Table, dx, _, .ref q, rfl, I.ins, T.cl_Table, T.na_Table_pairs, rfl, q, rfl, .inl ⟨_, .inl g1⟩, _, rfl, ?_⟩
      refine ⟨Nat.zero_le _, fun z nz => ?_⟩
      have qz : q ≠ z := ne_of_none g1 nz
      refine ⟨_, .inr s, by rw [upd_ne qz]; exact g1, rfl, glen, fun v hv => ?_, fun hn => ?_⟩
      · have I2 := I.grow (same_new (o := .lst []) (Same.refl H3) nz)
        obtain ⟨r, vs, rfl, rq, hr2, hvs, more⟩ := I2.more (m := m) (e := e) _ (by rw [upd_ne qz]; exact g1) hv
        refine ⟨.inl ⟨rfl, _, SqL.of hr2⟩, _, rfl, _, rfl, (by show 2 ≤ sizeLine; decide), fun t2 nt2 => ?_⟩
        have rt : r ≠ t2 := ne_of_none hr2 nt2
        refine ⟨r, vs, .ref t2, rfl, rfl, by rw [upd_ne rt]; exact hr2, lt1000 (by omega), ?_⟩
        exact hD _ _ (more t2 nt2 _ rfl) ⟨_, _, _, rfl⟩
      · have ez : upd (upd H3 z (.lst [])) q (.dK (putK (grKvs GL) (.inr s) (.ref z))) z = some (.lst []) := by rw [upd_ne (Ne.symm qz), upd_same]
        refine ⟨.inl ⟨rfl, _, SqL.of ez⟩, _, rfl, _, rfl, (by show 2 ≤ sizeLine; decide), fun t2 nt2 => ?_⟩
        have zt : z ≠ t2 := ne_of_none ez nt2
        have nt3 : H3 t2 = none := by
          have q2 : t2 ≠ q := fun e => by rw [e, upd_same] at nt2; cases nt2
          rw [upd_ne q2, upd_ne (Ne.symm zt)] at nt2
          exact nt2
        have q2 : q ≠ t2 := ne_of_none g1 nt3
        refine ⟨z, [], .ref t2, rfl, rfl, by rw [upd_ne zt]; exact ez, by decide, ?_⟩
        refine hD _ _ (I.new (z := z) (t := t2) (s := s) (m := m) (e := e) _ g1 hn nz nt3 (Ne.symm zt) ?_) ⟨_, _, _, rfl⟩
        funext b
        by_cases c1 : b = z
        · subst c1; rw [upd_same, upd_same]; rfl
        by_cases c2 : b = t2
        · subst c2; rw [upd_ne c1, upd_same, upd_ne c1, upd_same]
        by_cases c3 : b = q
        · subst c3; rw [upd_ne c1, upd_ne c2, upd_same, upd_ne c1, upd_ne c2, upd_same]
        rw [upd_ne c1, upd_ne c2, upd_ne c3, upd_ne c1, upd_ne c1, upd_ne c2, upd_ne c3]
    have fin : ∀ H3, TabI K (clA A) H H3 A.Table p dx q first rows.length (groupR ((rows.take rows.length).map rwS)) → Q .non H3 := fun H3 I => by
      rw [List.take_length] at I
      exact hq H3 I.keep I.done
    refine ⟨_, rfl, ?_⟩
    rcases hsq with hs | hs
    · refine .inl ⟨a, rfl, ⟨_, same_sqLp I0.keep hpx hs⟩, ?_⟩
      refine for_it (walk_list (xs := ts.map V.ref)) (fun i σ H' => TabI K (clA A) H H' A.Table p dx q first i (groupR ((rows.take i).map rwS)) ∧ ∃ o3 o4 o5, σ = [some (.ref p), some (.str first), some (.ref a), o3, o4, o5]) ⟨I0, _, _, _, rfl⟩ (fun i σ H' _ h => same_sqLp h.1.keep hpx hs) ?_ ?_
      · rintro i x σ H3 H4 hi ⟨I, sh⟩ ⟨rfl, ex⟩
        exact body i x σ _ _ ex I sh fun σ' H' I' s' => ⟨I', s'⟩
      · rintro σ H3 ⟨I, sh⟩
        rw [List.length_map, hlen] at I
        exact fin H3 I
    · refine .inr (.inl ⟨a, rfl, ⟨_, same_sqTp I0.keep hpx hs⟩, ?_⟩)
      refine for_it (walk_tup (xs := ts.map V.ref)) (fun i σ H' => TabI K (clA A) H H' A.Table p dx q first i (groupR ((rows.take i).map rwS)) ∧ ∃ o3 o4 o5, σ = [some (.ref p), some (.str first), some (.ref a), o3, o4, o5]) ⟨I0, _, _, _, rfl⟩ (fun i σ H' _ h => same_sqTp h.1.keep hpx hs) ?_ ?_
      · rintro i x σ H3 H4 hi ⟨I, sh⟩ ⟨rfl, ex⟩
        exact body i x σ _ _ ex I sh fun σ' H' I' s' => ⟨I', s'⟩
      · rintro σ H3 ⟨I, sh⟩
        rw [List.length_map, hlen] at I
        exact fin H3 I
end
/-! ### making a table, as data -/
def rowOf : D → Option (Str × Str × Str)
  | .tup [.str a, .str b, .str c] => some (a, b, c)
  | _ => none
def rowsOf : List D → Option (List (Str × Str × Str))
  | [] => some []
  | d :: r => match rowOf d, rowsOf r with
    | some x, some xs => some (x :: xs)
    | _, _ => none
def rwD (r : Str × Str × Str) : D := .tup [.str r.1, .str r.2.1, .str r.2.2]
theorem rowsOf_map : ∀ rs : List (Str × Str × Str), rowsOf (rs.map rwD) = some rs
  | [] => rfl
  | r :: rs => by
    show (match rowOf (rwD r), rowsOf (rs.map rwD) with | some x, some xs => some (x :: xs) | _, _ => none) = _
    rw [rowsOf_map rs]
    rfl
theorem rowOf_some {d : D} {r : Str × Str × Str} (h : rowOf d = some r) : d = rwD r := by
  unfold rowOf at h
  split at h
  · cases h; rfl
  · cases h
theorem rowsOf_some : ∀ {xs : List D} {rs : List (Str × Str × Str)}, rowsOf xs = some rs → xs = rs.map rwD
  | [], rs, h => by cases h; rfl
  | d :: r, rs, h => by
    unfold rowsOf at h
    split at h
    · rename_i x xs e1 e2
      cases h
      rw [rowOf_some e1, rowsOf_some e2]
      rfl
    · cases h
def goTable (first : Str) (xs : List D) : R D := match rowsOf xs with
  | some rs => if rs.length ≤ 1000 then .ok (tabD (.str first) (groupR (rs.map rwS))) else .bad
  | none => .bad
def m_Table : List D → R D
  | [.str first, .lst xs] => goTable first xs
  | [.str first, .tup xs] => goTable first xs
  | _ => .bad
def m_Table1 : List D → R D
  | [.str first] => goTable first []
  | _ => .bad
def m_Table0 : List D → R D
  | [] => goTable "start" []
  | _ => .bad
/-- Table(rows=.., first=..) -/
def m_TableK : List D → R D
  | [b, a] => m_Table [a, b]
  | _ => .bad
section
variable {K : PySem.W.Frag} {P : Program} {w : World} {mg : Str → Option Value} {A : Ad} {c : Cc} {W : Xd.WE} {ts tk : TA} {fs gs : Rho → R (List D)}
theorem tup3 {cl : Nat → Addr} {Hi H : Hp} (le : Same Hi H) {v : V} {r : Str × Str × Str} (h : Dv K cl Hi v (rwD r)) : ∃ t, v = .ref t ∧ SqT K H t [.str r.1, .str r.2.1, .str r.2.2] := by
  unfold rwD at h
  cases h with
  | tup h1 h2 =>
    cases h2 with
    | cons a1 a2 =>
      cases a2 with
      | cons b1 b2 =>
        cases b2 with
        | cons c1 c2 =>
          cases c2
          cases a1
          cases b1
          cases c1
          exact ⟨_, rfl, same_t le h1⟩
theorem rows_dva {cl : Nat → Addr} {Hi H : Hp} (le : Same Hi H) : ∀ {rs : List (Str × Str × Str)} {vs : List V}, DvA K cl Hi vs (rs.map rwD) → ∃ ts : List Addr, vs = ts.map V.ref ∧ ts.length = rs.length ∧ ∀ (i : Nat) (t : Addr) (r : Str × Str × Str), ts[i]? = some t → rs[i]? = some r → SqT K H t [.str r.1, .str r.2.1, .str r.2.2]
  | [], vs, h => by cases h; exact ⟨[], rfl, rfl, fun i t r e => by cases e⟩
  | r :: rs, vs, h => by
    cases h with
    | cons h1 h2 =>
      obtain ⟨t, rfl, ht⟩ := tup3 le h1
      obtain ⟨ts, rfl, hl, k⟩ := rows_dva le h2
      refine ⟨t :: ts, rfl, congrArg Nat.succ hl, fun i t' r' e1 e2 => ?_⟩
      cases i with
      | zero => cases e1; cases e2; exact ht
      | succ i => exact k i t' r' e1 e2
theorem rows_lst {cl : Nat → Addr} {Hi H : Hp} (le : Same Hi H) {v : V} {rs : List (Str × Str × Str)} (h : Dv K cl Hi v (.lst (rs.map rwD))) : RowsAt K H v rs := by
  cases h with
  | lst h1 h2 =>
    obtain ⟨ts, rfl, hl, k⟩ := rows_dva le h2
    exact ⟨_, ts, rfl, hl, .inl (SqL.of (le _ _ h1)), k⟩
theorem rows_tup {cl : Nat → Addr} {Hi H : Hp} (le : Same Hi H) {v : V} {rs : List (Str × Str × Str)} (h : Dv K cl Hi v (.tup (rs.map rwD))) : RowsAt K H v rs := by
  cases h with
  | tup h1 h2 =>
    obtain ⟨ts, rfl, hl, k⟩ := rows_dva le h2
    exact ⟨_, ts, rfl, hl, .inr (same_t le h1), k⟩
theorem rows_nil (T : Tp P w K mg A) {H : Hp} : RowsAt K H (.ref A.nil) [] := ⟨_, [], rfl, rfl, .inr (strsB_sq T.nil H), fun i t r e => by cases e⟩
/-- what the maker leaves, told to the frozen part -/
theorem tab_step {Hi H H' : Hp} {x dx : Addr} {d : D} (ok : Ok c Hi H) (hcl : c.cl = clA A) (nx : H x = none) (nd : H dx = none) (ne : dx ≠ x)
    (kp : ∀ b o, b ≠ x → upd (upd H dx (.own x)) x (.ins A.Table dx []) b = some o → H' b = some o) (tn : TabN K A (upd (upd H dx (.own x)) x (.ins A.Table dx [])) H' x d) (hK : c.K = K) :
    ∃ Hi', Step c Hi H Hi' H' ∧ Dv c.K c.cl Hi' (.ref x) d := by
  obtain ⟨Hn, k1, k2⟩ := tn.ex
  have k1' : ∀ b o, Hn b = some o → H b = none ∧ H' b = some o := fun b o e => by
    obtain ⟨q1, q2⟩ := k1 b o e
    refine ⟨?_, q2⟩
    rcases q1 with q1 | q1
    · by_cases hx : b = x
      · rw [hx]; exact nx
      rw [upd_ne hx] at q1
      by_cases hd : b = dx
      · rw [hd]; exact nd
      rw [upd_ne hd] at q1
      exact q1
    · rw [q1]; exact nx
  have keep : ∀ b o, H b = some o → H' b = some o := fun b o e => by
    have bx := ne_of_none e nx
    exact kp b o bx (by rw [upd_ne bx, upd_ne (ne_of_none e nd)]; exact e)
  have old : ∀ b o, Hi b = some o → Hn b = none := fun b o e => by
    cases k : Hn b with
    | none => rfl
    | some u =>
      have := (k1' b u k).1
      rw [ok.le b o e] at this
      cases this
  refine ⟨fun b => (Hn b).or (Hi b), ⟨fun b o e => ?_, fun b o _ e => keep b o e, fun b o e n => ?_, ok, fun b o e => ?_, fun b o e => ?_, fun b o nb e => keep _ _ (ok.h b o nb e), fun b o e n => ?_, fun b hb => ?_, fun b hb => ?_⟩, ?_⟩
  · show (Hn b).or (Hi b) = some o
    rw [old b o e, e]
    rfl
  · show (Hn b).or (Hi b) = none
    cases k : Hn b with
    | none => rw [n]; rfl
    | some u =>
      have := (k1' b u k).1
      rw [e] at this
      cases this
  · have e : (Hn b).or (Hi b) = some o := e
    cases k : Hn b with
    | none =>
      rw [k] at e
      exact keep _ _ (ok.le _ _ e)
    | some u =>
      rw [k] at e
      cases e
      exact (k1' b _ k).2
  · show (Hn b).or (Hi b) = some o
    rw [old b o (ok.q b o e), ok.q b o e]
    rfl
  · have e : (Hn b).or (Hi b) = some o := e
    cases k : Hn b with
    | none =>
      rw [k] at e
      exact ok.new b o e n
    | some u => exact ok.free0 (k1' b u k).1
  · obtain ⟨ps, e, t⟩ := ok.tab b hb
    exact ⟨ps, keep _ _ e, t⟩
  · show (Hn b).or (Hi b) = none
    cases k : Hn b with
    | none => rw [ok.tabI b hb]; rfl
    | some u => exact absurd hb (ok.nTab (k1' b u k).1)
  · rw [hK, hcl]
    refine k2.up fun b o e => ?_
    show (Hn b).or (Hi b) = some o
    rw [e]
    rfl
def eMkT (m : List D → R D) (fs : Rho → R (List D)) : Rho → R D := fun ρ => (noX (fs (vw ρ))).bind m
/-- evaluate the arguments while own things are looked at -/
theorem ja_view {σ : L2.St} {ρ : Rho} {Hi H : Hp} (ha : JA c W0 ts fs) (ok : Ok c Hi H) (sv : Sv c Hi H σ ρ) {Q : List V → Hp → Prop} {k : List D → R D} {q1 : D → Prop} {q2 : Xc → Prop} (h : Meet ((noX (fs (vw ρ))).bind k) q1 q2)
    (go : ∀ ds vs Hv H1, fs (vw ρ) = .ok ds → Meet (k ds) q1 q2 → Step c Hi H (letGo Hi H Hv) H1 → Ok c Hv H1 → DvA c.K c.cl Hv vs ds → Q vs H1) : ts σ H Q := by
  obtain ⟨Hv, sm, okv, svv⟩ := view_all ok sv
  have h2 := noX_meet (Meet.bind h)
  cases e : fs (vw ρ) with
  | bad => rw [e] at h2; exact h2.elim
  | exc x => rw [e] at h2; exact h2.elim
  | ok ds =>
    rw [e] at h2
    refine ha σ (vw ρ) Hv H okv svv Q ?_
    rw [e]
    exact fun vs Hi' H' s dv => go ds vs Hi' H' e h2 (letGo_step ok sm s) s.ok dv
theorem go_mk {Hi H1 : Hp} {W : Xd.WE} {σ : L2.St} {H0 Hi0 : Hp} {Q : VK} {first : Str} {xs : List D} {v : V} {x dx : Addr} (hcl : c.cl = clA A) (st : Step c Hi0 H0 Hi H1) (nx : H1 x = none) (nd : H1 dx = none) (ne : dx ≠ x) (hrow : ∀ rs, rowsOf xs = some rs → RowsAt c.K H1 v rs)
    (hm : Meet (goTable first xs) (fun d => ∀ v Hi' H', Step c Hi0 H0 Hi' H' → Dv c.K c.cl Hi' v d → Q v H') (fun e => ∀ Hi' H', Step c Hi0 H0 Hi' H' → W e σ Hi' H')) :
    spInitT c.K A [.ref x, .str first, v] (upd (upd H1 dx (.own x)) x (.ins A.Table dx [])) (fun v H2 => v = .non ∧ Q (.ref x) H2) E0 := by
  unfold goTable at hm
  split at hm
  · rename_i rs e
    obtain ⟨hl, hm⟩ := meet_if hm
    have ra := hrow rs e
    have ra' : RowsAt c.K (upd (upd H1 dx (.own x)) x (.ins A.Table dx [])) v rs := by
      obtain ⟨a, ts, e1, e2, e3, e4⟩ := ra
      have up : Same H1 (upd (upd H1 dx (.own x)) x (.ins A.Table dx [])) := fun b o k => by rw [upd_ne (ne_of_none k nx), upd_ne (ne_of_none k nd)]; exact k
      exact ⟨a, ts, e1, e2, e3.imp (fun k => up.seq k) (fun k => same_t up k), fun i t r q1 q2 => same_t up (e4 i t r q1 q2)⟩
    refine ⟨x, dx, v, first, rs, rfl, upd_same, ra', hl, fun H' kp tn => ⟨rfl, ?_⟩⟩
    obtain ⟨Hi', s2, d2⟩ := tab_step st.ok hcl nx nd ne kp tn rfl
    exact hm _ _ _ (st.trans s2) d2
  · exact hm.elim
theorem je_mkT (T : Tp P w c.K mg A) (ha : JA c W0 ts fs) (hcl : c.cl = clA A := by rfl) : JE c W (tMake A.Table (spInitT c.K A) [] E0 ts) (eMkT m_Table fs) := fun σ ρ Hi H ok sv Q h => by
  refine ja_view ha ok sv h fun ds vs Hv H1 _ h st okv dv x dx nx nd ne => ?_
  unfold m_Table at h
  split at h
  · cases dv with
    | cons d1 d2 =>
      cases d1
      obtain ⟨v, rfl, dv⟩ := dva1 d2
      refine go_mk hcl st nx nd ne (fun rs e => ?_) h
      rw [rowsOf_some e] at dv
      exact rows_lst okv.le dv
  · cases dv with
    | cons d1 d2 =>
      cases d1
      obtain ⟨v, rfl, dv⟩ := dva1 d2
      refine go_mk hcl st nx nd ne (fun rs e => ?_) h
      rw [rowsOf_some e] at dv
      exact rows_tup okv.le dv
  · exact h.elim
theorem je_mkT1 (T : Tp P w c.K mg A) (ha : JA c W0 ts fs) (hcl : c.cl = clA A := by rfl) : JE c W (tMake A.Table (spInitT c.K A) [.ref A.nil] E0 ts) (eMkT m_Table1 fs) := fun σ ρ Hi H ok sv Q h => by
  refine ja_view ha ok sv h fun ds vs Hv H1 eds h st okv dv x dx nx nd ne => ?_
  unfold m_Table1 at h
  split at h
  · rename_i first
    obtain ⟨v0, e0, dv0⟩ := dva1 dv
    have ev : v0 = .str first := by cases dv0; rfl
    subst e0 ev
    exact go_mk hcl st nx nd ne (fun rs e => by cases e; exact rows_nil T) h
  · exact h.elim
theorem je_mkT0 (T : Tp P w c.K mg A) (ha : JA c W0 tNil fs) (hcl : c.cl = clA A := by rfl) : JE c W (tMake A.Table (spInitT c.K A) [.str "start", .ref A.nil] E0 tNil) (eMkT m_Table0 fs) := fun σ ρ Hi H ok sv Q h => by
  refine ja_view ha ok sv h fun ds vs Hv H1 _ h st okv dv x dx nx nd ne => ?_
  unfold m_Table0 at h
  split at h
  · cases dv
    exact go_mk hcl st nx nd ne (fun rs e => by cases e; exact rows_nil T) h
  · exact h.elim
def swapG {α : Type} (us ws : List α) : List α := match ws with
  | [b, a] => us ++ [a, b]
  | _ => us
abbrev swapV (vs zs : List V) : List V := swapG vs zs
theorem je_mkTK (T : Tp P w c.K mg A) (ha : JA c W0 tk fs) (hcl : c.cl = clA A := by rfl) : JE c W (tMakeK A.Table 0 2 (spInitT c.K A) swapV E0 tNil tk) (eMkT m_TableK fs) := fun σ ρ Hi H ok sv Q h => by
  refine ja_view (Q := fun zs H2 => ([] : List V).length = 0 ∧ zs.length = 2 ∧ ∀ x dx, H2 x = none → H2 dx = none → dx ≠ x → spInitT c.K A (swapV (.ref x :: []) zs) (upd (upd H2 dx (.own x)) x (.ins A.Table dx [])) (fun v H3 => v = .non ∧ Q (.ref x) H3) E0) ha ok sv h fun ds vs Hv H1 _ h st okv dv => ?_
  unfold m_TableK at h
  split at h
  · rename_i b a
    cases dv with
    | @cons vb _ _ _ d1 d2 =>
      obtain ⟨va, rfl, da⟩ := dva1 d2
      refine ⟨rfl, rfl, fun x dx nx nd ne => ?_⟩
      unfold m_Table at h
      split at h
      · rename_i e1
        cases e1
        cases da
        refine go_mk hcl st nx nd ne (fun rs e => ?_) h
        rw [rowsOf_some e] at d1
        exact rows_lst okv.le d1
      · rename_i e1
        cases e1
        cases da
        refine go_mk hcl st nx nd ne (fun rs e => ?_) h
        rw [rowsOf_some e] at d1
        exact rows_tup okv.le d1
      · exact h.elim
  · exact h.elim
end
section
variable {K : PySem.W.Frag} {A : Ad} {fd : FuncData}
abbrev FDT (K : PySem.W.Frag) (A : Ad) (fd : FuncData) : Prop := FunD K "__init__" "Table.__init__" (defArgs S_Table___init__) (defBody S_Table___init__) (defScope S_Table___init__) [V.str "start", V.ref A.nil] [] A.t_init fd
theorem tinit_b (F : FDT K A fd) : Binds K fd ["self", "first", "rows"] [] := by
  obtain ⟨ds, v, b⟩ := F.binds1 (ps := ["self", "first", "rows"]) 3 2 (fun h => nomatch h) rfl (fun T kV doc pm an cdv ct us its h1 h2 => match us, its, h1, h2 with | [_, _, _], [_, _], _, _ => ⟨_, rfl, rfl⟩)
  cases v
  exact b
theorem tinit_b1 (F : FDT K A fd) : ∃ ds, Vals [V.ref A.nil] ds ∧ Binds K fd ["self", "first", "rows"] ds :=
  F.binds1 (ps := ["self", "first", "rows"]) 2 1 (fun h => nomatch h) rfl (fun T kV doc pm an cdv ct us its h1 h2 => match us, its, h1, h2 with | [_, _], [_, _], _, _ => ⟨_, rfl, rfl⟩)
theorem tinit_b0 (F : FDT K A fd) : ∃ ds, Vals [V.str "start", V.ref A.nil] ds ∧ Binds K fd ["self", "first", "rows"] ds :=
  F.binds1 (ps := ["self", "first", "rows"]) 1 0 (fun h => nomatch h) rfl (fun T kV doc pm an cdv ct us its h1 h2 => match us, its, h1, h2 with | [_], [_, _], _, _ => ⟨_, rfl, rfl⟩)
theorem tinit_bK (F : FDT K A fd) : ∃ gg, KBn K fd ["self", "first", "rows"] 1 ["rows", "first"] gg swapV := by
  refine ⟨_, (F.kbindsD (ps := ["self", "first", "rows"]) 1 ["rows", "first"] (fun {α} us _ ws => swapG us ws) (fun h => nomatch h) (fun {vs ds zs us its ws} r1 r2 r3 => ?_) (fun T kV doc pm an cdv ct us its ws h1 h2 h3 => match us, its, ws, h1, h2, h3 with | [_], [_, _], [_, _], _, _, _ => ⟨_, rfl, rfl⟩)).choose_spec⟩
  · unfold swapG
    match zs, ws, r3 with
    | [], _, .nil => exact r1
    | [_], _, .cons _ .nil => exact r1
    | [_, _], _, .cons q1 (.cons q2 .nil) => exact r1.append (.cons q2 (.cons q1 .nil))
    | _ :: _ :: _ :: _, _, .cons _ (.cons _ (.cons _ _)) => exact r1
end
end P44
namespace P44
open PySem L2 Xg Xd
def g_way_back : MS :=
  (sSeq (sSetL 2 (lLst aNil))
  (sSeq (sWhile 100000 (bTest (e2 oIsNot (e2 oGetD (eVar 0) (eVar 1)) (eC .non)))
    (sSeq (sAsg (e2 oGetD (eVar 0) (eVar 1)) (gT 2 (gsCons (gN 1) (gsCons (gN 3) gsNil))))
  (sApp 2 (eVar 3))))
  (sFrz 2 (sRetL (lRev (eVar 2))))))
def m_way_back : List D → R (List D) := fun ds => noX (runL 4 2 g_way_back ds)
def g_Table_start : MS :=
  (sRet (eFld 20 "first" (eVar 0)))
def m_Table_start : List D → R D := fun ds => noX (runD 1 1 g_Table_start ds)
def g_Table_moves : MS :=
  (sRetL (lCB cListL (aCons (eGet2 (eFld 20 "pairs" (eVar 0)) (eVar 1) (eFz (lLst aNil))) aNil)))
def m_Table_moves : List D → R (List D) := fun ds => noX (runL 2 2 g_Table_moves ds)
def g_Table_scenario : MS :=
  (sSeq (sDct1 1 (eMeth 20 "start" m_Table_start (eVar 0) aNil) (eC .non))
  (sSeq (sSetL 2 (lLst (aCons (eMeth 20 "start" m_Table_start (eVar 0) aNil) aNil)))
  (sSeq (sSet 3 (eC (.int 0)))
  (sSeq (sWhile 100000 (bView (bTest (e2 oLt (eVar 3) (eCB cLen (aCons (eVar 2) aNil)))))
    (sSeq (sSet 4 (eIxO 2 (eVar 3)))
  (sSeq (sSet 3 (e2 oAdd (eVar 3) (eC (.int 1))))
  (sFor (iSeq (eFz (lMeth 20 "moves" m_Table_moves (eVar 0) (aCons (eVar 4) aNil)))) (gT 2 (gsCons (gN 5) (gsCons (gN 6) gsNil)))
    (sSeq (sIf (bTest (e2 oEq (eVar 6) (eC (.str "bad"))))
    (sFrz 1 (sRetL (e2L oAddL (eFz (lCall (fun ds => noX (m_way_back ds)) (aCons (eVar 1) (aCons (eVar 4) aNil)))) (eFz (lLst (aCons (eVar 5) aNil))))))
    sNext)
  (sIf (bTest (eNotInO 1 (eVar 6)))
    (sSeq (sPutD 1 (eTup (aCons (eVar 4) (aCons (eVar 5) aNil))) (eVar 6))
  (sApp 2 (eVar 6)))
    sNext))))))
  (sRet (eC .non))))))
def m_Table_scenario : List D → R Mx := fun ds => noX (runM 7 1 g_Table_scenario ds)
def g_Table_states : MS :=
  (sSeq (sDct1 1 (eMeth 20 "start" m_Table_start (eVar 0) aNil) (eC (.bl true)))
  (sSeq (sSetL 2 (lLst (aCons (eMeth 20 "start" m_Table_start (eVar 0) aNil) aNil)))
  (sSeq (sSet 3 (eC (.int 0)))
  (sSeq (sWhile 100000 (bView (bTest (e2 oLt (eVar 3) (eCB cLen (aCons (eVar 2) aNil)))))
    (sSeq (sFor (iSeq (eFz (lMeth 20 "moves" m_Table_moves (eVar 0) (aCons (eIxO 2 (eVar 3)) aNil)))) (gT 2 (gsCons (gN 4) (gsCons (gN 5) gsNil)))
    (sIf (bAnd (bTest (e2 oNe (eVar 5) (eC (.str "bad")))) (bTest (eNotInO 1 (eVar 5))))
    (sSeq (sPutD 1 (eC (.bl true)) (eVar 5))
  (sApp 2 (eVar 5)))
    sNext))
  (sSet 3 (e2 oAdd (eVar 3) (eC (.int 1))))))
  (sRetO 2)))))
def m_Table_states : List D → R (List D) := fun ds => noX (runL 6 1 g_Table_states ds)
def g__law_digit : MS :=
  (sSeq (sIf (bTest (e2 oLt (eVar 1) (eCB cLen (aCons (eVar 0) aNil))))
    (sRet (e2 oIx (eVar 0) (eVar 1)))
    sNext)
  (sRet (eC (.int 0))))
def m__law_digit : List D → R D := fun ds => noX (runD 2 2 g__law_digit ds)
def g__law_pick : MS :=
  (sSeq (sSet 3 (eC (.int 0)))
  (sSeq (sIf (bTest (e2 oLt (eVar 1) (eCB cLen (aCons (eVar 0) aNil))))
    (sSet 3 (e2 oIx (eVar 0) (eVar 1)))
    sNext)
  (sSeq (sIf (bTest (e2 oLt (e2 oAdd (eVar 1) (eC (.int 1))) (eCB cLen (aCons (eVar 0) aNil))))
    (sSet 3 (e2 oAdd (eVar 3) (e2 oMul (eC (.int 16)) (e2 oIx (eVar 0) (e2 oAdd (eVar 1) (eC (.int 1)))))))
    sNext)
  (sRet (e2 oMod (eCB cInt (aCons (eVar 3) aNil)) (eVar 2))))))
def m__law_pick : List D → R D := fun ds => noX (runD 4 3 g__law_pick ds)
def g__law_whole : MS :=
  (sRet (eAnd (eCB cIsi (aCons (eVar 0) (aCons (eC (.opq (.ty "int"))) aNil))) (eNot (eCB cIsi (aCons (eVar 0) (aCons (eC (.opq (.ty "bool"))) aNil))))))
def m__law_whole : List D → R D := fun ds => noX (runD 1 1 g__law_whole ds)
def g__law_equal : MS :=
  (sSeq (sSetL 2 (lLst (aCons (eTup (aCons (eVar 0) (aCons (eVar 1) aNil))) aNil)))
  (sSeq (sFor (iR1 (aCons (eC (.int 6000)) aNil)) (gN 3)
    (sSeq (sIf (bView (bTest (e2 oEq (eCB cLen (aCons (eVar 2) aNil)) (eC (.int 0)))))
    (sRet (eC (.bl true)))
    sNext)
  (sSeq (sPop 4 2)
  (sSeq (sSet 5 (e2 oIx (eVar 4) (eC (.int 0))))
  (sSeq (sSet 6 (e2 oIx (eVar 4) (eC (.int 1))))
  (sIf (bOr (bTest (e2 oIs (eVar 6) (eC .non))) (bTest (eCB cIsi (aCons (eVar 6) (aCons (eC (.opq (.ty "bool"))) aNil)))))
    (sIf (bOr (bTest (e2 oNe (eCB cIsi (aCons (eVar 5) (aCons (eC (.opq (.ty "bool"))) aNil))) (eCB cIsi (aCons (eVar 6) (aCons (eC (.opq (.ty "bool"))) aNil))))) (bTest (e2 oNe (eVar 5) (eVar 6))))
    (sRet (eC (.bl false)))
    sNext)
    (sIf (bTest (eCB cIsi (aCons (eVar 6) (aCons (eC (.opq (.ty "int"))) aNil))))
    (sIf (bOr (bNot (bTest (eCall (fun ds => noX (m__law_whole ds)) (aCons (eVar 5) aNil)))) (bTest (e2 oNe (eVar 5) (eVar 6))))
    (sRet (eC (.bl false)))
    sNext)
    (sIf (bTest (eCB cIsi (aCons (eVar 6) (aCons (eC (.opq (.ty "str"))) aNil))))
    (sIf (bOr (bNot (bTest (eCB cIsi (aCons (eVar 5) (aCons (eC (.opq (.ty "str"))) aNil))))) (bTest (e2 oNe (eVar 5) (eVar 6))))
    (sRet (eC (.bl false)))
    sNext)
    (sSeq (sIf (bOr (bTest (e2 oNe (eCB cIsi (aCons (eVar 5) (aCons (eC (.opq (.ty "list"))) aNil))) (eCB cIsi (aCons (eVar 6) (aCons (eC (.opq (.ty "list"))) aNil))))) (bTest (e2 oNe (eCB cIsi (aCons (eVar 5) (aCons (eC (.opq (.ty "tuple"))) aNil))) (eCB cIsi (aCons (eVar 6) (aCons (eC (.opq (.ty "tuple"))) aNil))))))
    (sRet (eC (.bl false)))
    sNext)
  (sSeq (sIf (bTest (eCB cIsi (aCons (eVar 6) (aCons (eC (.opq (.ty "dict"))) aNil))))
    (sSeq (sIf (bOr (bNot (bTest (eCB cIsi (aCons (eVar 5) (aCons (eC (.opq (.ty "dict"))) aNil))))) (bTest (e2 oNe (eFz (lCB cListL (aCons (eVar 5) aNil))) (eFz (lCB cListL (aCons (eVar 6) aNil))))))
    (sRet (eC (.bl false)))
    sNext)
  (sSeq (sSet 5 (eFz (lLc (iSeq (eVar 6)) (gN 8) bYes (e2 oIx (eVar 5) (eVar 8)) [8])))
  (sSet 6 (eFz (lLc (iSeq (eVar 6)) (gN 8) bYes (e2 oIx (eVar 6) (eVar 8)) [8])))))
    sNext)
  (sSeq (sIf (bTest (e2 oNe (eCB cLen (aCons (eVar 5) aNil)) (eCB cLen (aCons (eVar 6) aNil))))
    (sRet (eC (.bl false)))
    sNext)
  (sFor (iR1 (aCons (eCB cLen (aCons (eVar 6) aNil)) aNil)) (gN 7)
    (sApp 2 (eTup (aCons (e2 oIx (eVar 5) (eVar 7)) (aCons (e2 oIx (eVar 6) (eVar 7)) aNil))))))))))))))))
  (sRet (eC (.bl false)))))
def m__law_equal : List D → R D := fun ds => noX (runD 9 2 g__law_equal ds)
def g__law_places : MS :=
  (sRetL (lLst (aCons (eC (.str "start")) (aCons (eC (.str "a")) (aCons (eC (.str "aa")) (aCons (eC (.str "ab")) (aCons (eC (.str "b")) (aCons (eC (.str "ba")) (aCons (eC (.str "")) (aCons (eC (.str "Bad")) (aCons (eC (.str "bad ")) (aCons (eC (.str "c")) (aCons (eC (.str "be")) (aCons (eC (.str "z")) (aCons (eC (.str "stop")) aNil)))))))))))))))
def m__law_places : List D → R (List D) := fun ds => noX (runL 0 0 g__law_places ds)
def g__law_listed : MS :=
  (sSeq (sSet 2 (eFz (lCall (fun ds => noX (m__law_places ds)) aNil)))
  (sSeq (sSet 3 (eFz (lLst (aCons (eC (.str "up")) (aCons (eC (.str "down")) (aCons (eC (.str "u")) (aCons (eC (.str "")) (aCons (eC (.str "bad")) (aCons (eC (.str "left")) (aCons (eC (.str "a")) aNil))))))))))
  (sSeq (sSet 4 (e2 oAdd (eC (.int 2)) (e2 oMod (eCB cInt (aCons (eCall (fun ds => noX (m__law_digit ds)) (aCons (eVar 0) (aCons (eVar 1) aNil))) aNil)) (eC (.int 12)))))
  (sSeq (sSetL 5 (lLst aNil))
  (sSeq (sFor (iR1 (aCons (eC (.int 4)) aNil)) (gN 6)
    (sFor (iR1 (aCons (eVar 4) aNil)) (gN 7)
    (sSeq (sSet 8 (e2 oAdd (e2 oAdd (eVar 1) (eC (.int 4))) (e2 oMul (eC (.int 6)) (eVar 7))))
  (sIf (bTest (e2 oLt (eVar 6) (e2 oMod (eCB cInt (aCons (e2 oAdd (eCall (fun ds => noX (m__law_digit ds)) (aCons (eVar 0) (aCons (eVar 8) aNil))) (eC (.int 1))) aNil)) (eC (.int 5)))))
    (sSeq (sSet 9 (e2 oMod (eCB cInt (aCons (e2 oAdd (e2 oAdd (eCall (fun ds => noX (m__law_digit ds)) (aCons (eVar 0) (aCons (e2 oAdd (e2 oAdd (eVar 8) (eC (.int 2))) (eVar 6)) aNil))) (eVar 7)) (eC (.int 1))) aNil)) (e2 oAdd (eVar 4) (eC (.int 1)))))
  (sSeq (sSet 10 (eC (.str "bad")))
  (sSeq (sIf (bTest (e2 oLt (eVar 9) (eVar 4)))
    (sSet 10 (e2 oIx (eVar 2) (eVar 9)))
    sNext)
  (sApp 5 (eTup (aCons (e2 oIx (eVar 2) (eVar 7)) (aCons (e2 oIx (eVar 3) (e2 oMod (eCB cInt (aCons (e2 oAdd (eCall (fun ds => noX (m__law_digit ds)) (aCons (eVar 0) (aCons (e2 oAdd (eVar 8) (eC (.int 1))) aNil))) (eVar 6)) aNil)) (eC (.int 7)))) (aCons (eVar 10) aNil))))))))
    sNext))))
  (sSeq (sFrz 5 (sSet 11 (eCall (fun ds => noX (m__law_pick ds)) (aCons (eVar 0) (aCons (e2 oAdd (eVar 1) (eC (.int 1))) (aCons (e2 oAdd (eCB cLen (aCons (eVar 5) aNil)) (eC (.int 1))) aNil))))))
  (sFrz 5 (sRet (e2 oAdd (eSl oSl (eVar 5) (pSome (eVar 11)) pNo) (eSl oSl (eVar 5) pNo (pSome (eVar 11))))))))))))
def m__law_listed : List D → R D := fun ds => noX (runD 12 2 g__law_listed ds)
def g__law_begin : MS :=
  (sSeq (sSet 2 (e2 oAdd (eC (.int 2)) (e2 oMod (eCB cInt (aCons (eCall (fun ds => noX (m__law_digit ds)) (aCons (eVar 0) (aCons (eVar 1) aNil))) aNil)) (eC (.int 12)))))
  (sRet (e2 oIx (eFz (lCall (fun ds => noX (m__law_places ds)) aNil)) (e2 oMod (eCB cInt (aCons (eCall (fun ds => noX (m__law_digit ds)) (aCons (eVar 0) (aCons (e2 oAdd (eVar 1) (eC (.int 3))) aNil))) aNil)) (eVar 2)))))
def m__law_begin : List D → R D := fun ds => noX (runD 3 2 g__law_begin ds)
def g__law_of : MS :=
  (sRetL (lLc (iSeq (eVar 0)) (gN 2) (bTest (e2 oEq (e2 oIx (eVar 2) (eC (.int 0))) (eVar 1))) (eTup (aCons (e2 oIx (eVar 2) (eC (.int 1))) (aCons (e2 oIx (eVar 2) (eC (.int 2))) aNil))) [2]))
def m__law_of : List D → R (List D) := fun ds => noX (runL 3 2 g__law_of ds)
def g__law_far : MS :=
  (sSeq (sDct1 1 (eC (.str "bad")) (eC (.int 0)))
  (sSeq (sFor (iR1 (aCons (eC (.int 14)) aNil)) (gN 2)
    (sFor (iSeq (eVar 0)) (gN 3)
    (sIf (bAnd (bTest (eInO 1 (e2 oIx (eVar 3) (eC (.int 2))))) (bOr (bTest (eNotInO 1 (e2 oIx (eVar 3) (eC (.int 0))))) (bTest (e2 oGt (eGetO 1 (e2 oIx (eVar 3) (eC (.int 0)))) (e2 oAdd (eC (.int 1)) (eGetO 1 (e2 oIx (eVar 3) (eC (.int 2)))))))))
    (sPutD 1 (e2 oAdd (eC (.int 1)) (eGetO 1 (e2 oIx (eVar 3) (eC (.int 2))))) (e2 oIx (eVar 3) (eC (.int 0))))
    sNext)))
  (sFrz 1 (sRet (eVar 1)))))
def m__law_far : List D → R D := fun ds => noX (runD 4 1 g__law_far ds)
def g__law_due : MS :=
  (sSeq (sSet 2 (eCall (fun ds => noX (m__law_far ds)) (aCons (eVar 0) aNil)))
  (sSeq (sIf (bTest (e2 oNotInD (eVar 1) (eVar 2)))
    (sRet (eC .non))
    sNext)
  (sSeq (sSetL 3 (lLst aNil))
  (sSeq (sSet 4 (eVar 1))
  (sSeq (sFor (iR1 (aCons (e2 oGetD (eVar 2) (eVar 1)) aNil)) (gN 5)
    (sSeq (sSet 6 (eVar 4))
  (sSeq (sFor (iSeq (eVar 0)) (gN 7)
    (sIf (bAnd (bTest (e2 oEq (e2 oIx (eVar 7) (eC (.int 0))) (eVar 4))) (bAnd (bTest (e2 oEq (eVar 6) (eVar 4))) (bAnd (bTest (e2 oInD (e2 oIx (eVar 7) (eC (.int 2))) (eVar 2))) (bTest (e2 oEq (e2 oGetD (eVar 2) (e2 oIx (eVar 7) (eC (.int 2)))) (e2 oSub (e2 oGetD (eVar 2) (eVar 4)) (eC (.int 1))))))))
    (sSeq (sSet 6 (e2 oIx (eVar 7) (eC (.int 2))))
  (sApp 3 (e2 oIx (eVar 7) (eC (.int 1)))))
    sNext))
  (sSet 4 (eVar 6)))))
  (sRetO 3))))))
def m__law_due : List D → R D := fun ds => noX (runD 8 2 g__law_due ds)
def g__law_reached : MS :=
  (sSeq (sSetL 2 (lLst (aCons (eVar 1) aNil)))
  (sSeq (sFor (iR1 (aCons (eC (.int 14)) aNil)) (gN 3)
    (sIf (bView (bTest (e2 oLt (eVar 3) (eCB cLen (aCons (eVar 2) aNil)))))
    (sFor (iSeq (eFz (lCall (fun ds => noX (m__law_of ds)) (aCons (eVar 0) (aCons (eIxO 2 (eVar 3)) aNil))))) (gN 4)
    (sIf (bView (bAnd (bTest (e2 oNe (e2 oIx (eVar 4) (eC (.int 1))) (eC (.str "bad")))) (bTest (e2 oNotIn (e2 oIx (eVar 4) (eC (.int 1))) (eVar 2)))))
    (sApp 2 (e2 oIx (eVar 4) (eC (.int 1))))
    sNext))
    sNext))
  (sRetO 2)))
def m__law_reached : List D → R (List D) := fun ds => noX (runL 5 2 g__law_reached ds)
def g__law_asked : MS :=
  (sSeq (sSet 3 (eCall (fun ds => noX (m__law_due ds)) (aCons (eVar 2) (aCons (eVar 1) aNil))))
  (sSeq (sSetM 4 (mMeth 20 "scenario" m_Table_scenario (eVar 0) aNil))
  (sSeq (sIf (bView (bOr (bNot (bTest (eCall (fun ds => noX (m__law_equal ds)) (aCons (eMeth 20 "start" m_Table_start (eVar 0) aNil) (aCons (eVar 1) aNil))))) (bNot (bTest (eCall (fun ds => noX (m__law_equal ds)) (aCons (eVar 4) (aCons (eVar 3) aNil)))))))
    (sRet (eC (.bl false)))
    sNext)
  (sSeq (sIf (bView (bTest (e2 oIsNot (eVar 4) (eC .non))))
    (sApp 4 (eC (.str "further")))
    sNext)
  (sSeq (sSetL 5 (lMeth 20 "states" m_Table_states (eVar 0) aNil))
  (sSeq (sIf (bView (bNot (bTest (eCall (fun ds => noX (m__law_equal ds)) (aCons (eVar 5) (aCons (eFz (lCall (fun ds => noX (m__law_reached ds)) (aCons (eVar 2) (aCons (eVar 1) aNil)))) aNil))))))
    (sRet (eC (.bl false)))
    sNext)
  (sSeq (sApp 5 (eC (.str "further")))
  (sSeq (sFor (iSeq (eFz (lCall (fun ds => noX (m__law_places ds)) aNil))) (gN 6)
    (sSeq (sSetL 7 (lMeth 20 "moves" m_Table_moves (eVar 0) (aCons (eVar 6) aNil)))
  (sSeq (sIf (bView (bNot (bTest (eCall (fun ds => noX (m__law_equal ds)) (aCons (eVar 7) (aCons (eFz (lCall (fun ds => noX (m__law_of ds)) (aCons (eVar 2) (aCons (eVar 6) aNil)))) aNil))))))
    (sRet (eC (.bl false)))
    sNext)
  (sSeq (sApp 7 (eTup (aCons (eC (.str "further")) (aCons (eC (.str "bad")) aNil))))
  (sIf (bNot (bTest (eCall (fun ds => noX (m__law_equal ds)) (aCons (eFz (lMeth 20 "moves" m_Table_moves (eVar 0) (aCons (eVar 6) aNil))) (aCons (eFz (lCall (fun ds => noX (m__law_of ds)) (aCons (eVar 2) (aCons (eVar 6) aNil)))) aNil)))))
    (sRet (eC (.bl false)))
    sNext)))))
  (sRet (eAnd (eCall (fun ds => noX (m__law_equal ds)) (aCons (eMx (mMeth 20 "scenario" m_Table_scenario (eVar 0) aNil)) (aCons (eVar 3) aNil))) (eCall (fun ds => noX (m__law_equal ds)) (aCons (eFz (lMeth 20 "states" m_Table_states (eVar 0) aNil)) (aCons (eFz (lCall (fun ds => noX (m__law_reached ds)) (aCons (eVar 2) (aCons (eVar 1) aNil)))) aNil)))))))))))))
def m__law_asked : List D → R D := fun ds => noX (runD 8 3 g__law_asked ds)
def g__law_bare : MS :=
  (sSeq (sIf (bOr (bNot (bTest (eCall (fun ds => noX (m__law_equal ds)) (aCons (eMeth 20 "start" m_Table_start (eVar 0) aNil) (aCons (eVar 1) aNil))))) (bNot (bTest (eCall (fun ds => noX (m__law_equal ds)) (aCons (eFz (lMeth 20 "moves" m_Table_moves (eVar 0) (aCons (eVar 1) aNil))) (aCons (eFz (lLst aNil)) aNil))))))
    (sRet (eC (.bl false)))
    sNext)
  (sRet (eAnd (e2 oIs (eMx (mMeth 20 "scenario" m_Table_scenario (eVar 0) aNil)) (eC .non)) (eCall (fun ds => noX (m__law_equal ds)) (aCons (eFz (lMeth 20 "states" m_Table_states (eVar 0) aNil)) (aCons (eFz (lLst (aCons (eVar 1) aNil))) aNil))))))
def m__law_bare : List D → R D := fun ds => noX (runD 2 2 g__law_bare ds)
section
variable {P : Program} {w : World} {K : PySem.W.Frag} {mg : Str → Option Value} {base : Heap} {A : Ad}
theorem ok_way_back {fd : FuncData} (F : Fun K "way_back" "way_back" S_way_back A.way_back fd) (T : Tp P w K mg A) : FnOk P w K mg base CX0 1 A.way_back fd ["found", "state"] (spL K (clA A) (tbA A) m_way_back) := by
  refine okL (k := 0) F sc_way_back fun cdv A' outer s H Hq E hr => ?_
  refine ⟨_, (pss_cons (ps_set (i := 2) sc_way_back.nd rfl (Or.inl rfl) (pe_lst pa_nil))
  (pss_cons (ps_while PassesOwn.never (pt_cmpR op_isNotX (pe_dget (units1 hr) (pv 0) (pv 1) (fun _ _ => rfl)) pe_non (nomark _))
    (pss_cons (ps_asg (pe_dget (units1 hr) (pv 0) (pv 1) (fun _ _ => rfl)) (pg_tup (by rfl) (pgs_cons (pg_name (i := 1) sc_way_back.nd rfl (Or.inl rfl)) (pgs_cons (pg_name (i := 3) sc_way_back.nd rfl (Or.inl rfl)) pgs_nil))))
  (pss_one (ps_expr (pe_bm PySem.F.plainAttrs_list PySem.F.slot_list_append PySem.F.type_list_append mt_append (pv 2) (pa_cons (pv 3) pa_nil))))))
  (pss_one (ps_ret (pe_revL (pv 2)))))), ?_⟩
  exact (js_seq (js_setL 2 (jl_lst ja_nil))
  (js_seq (js_while 100000 (jt_test (je_op jo_isNot (je_dget (je_var 0) (je_var 1)) je_non))
    (js_seq (js_asg (je_dget (je_var 0) (je_var 1)) (jg_tup (jgs_cons (jg_name 1) (jgs_cons (jg_name 3) jgs_nil))))
  (js_app 2 (je_var 3))))
  (js_frz 2 (js_retL (jl_rev (je_var 2))))))
theorem ok_Table_start {fd : FuncData} (F : Fun K "start" "Table.start" S_Table_start A.t_start fd) (T : Tp P w K mg A) : FnOk P w K mg base CX0 1 A.t_start fd ["self"] (spD K (clA A) (tbA A) m_Table_start) := by
  refine okD (k := 0) F sc_Table_start fun cdv A' outer s H Hq E hr => ?_
  refine ⟨_, (pss_one (ps_ret (pe_fld (pv 0) rfl))), ?_⟩
  exact (js_ret (je_fld (n := 20) T.cl_Table T.na_Table_first (je_var 0)))
theorem ok_Table_moves {fd : FuncData} (F : Fun K "moves" "Table.moves" S_Table_moves A.t_moves fd) (T : Tp P w K mg A) : FnOk P w K mg base CX0 1 A.t_moves fd ["self", "state"] (spL K (clA A) (tbA A) m_Table_moves) := by
  refine okL (k := 0) F sc_Table_moves fun cdv A' outer s H Hq E hr => ?_
  refine ⟨_, (pss_one (ps_ret (pe_callTy (show CallR _ (.type "list") _ from call_list_of) (by rfl) T.n_list (by decide +kernel) (pa_cons (pe_dget2 (units1 hr) (pe_fld (pv 0) rfl) (pv 1) (pe_lst pa_nil) ⟨rfl, rfl, rfl, rfl⟩) pa_nil)))), ?_⟩
  exact (js_retL (jl_cb jcl_list (ja_cons (je_dget2 (je_fld (n := 20) T.cl_Table T.na_Table_pairs (je_var 0)) (je_var 1) (je_fz (jl_lst ja_nil))) ja_nil)))
theorem ok_Table_scenario {fd : FuncData} (F : Fun K "scenario" "Table.scenario" S_Table_scenario A.t_scenario fd) (T : Tp P w K mg A) : FnOk P w K mg base CX0 2 A.t_scenario fd ["self"] (spM K (clA A) (tbA A) m_Table_scenario) := by
  obtain ⟨fd_way_back, F_way_back, b_way_back⟩ := T.d_way_back.ex
  have G_way_back : FnOk P w K mg base CX0 1 A.way_back fd_way_back ["found", "state"] (spL K (clA A) (tbA A) m_way_back) := ok_way_back F_way_back T
  obtain ⟨fd_Table_moves, F_Table_moves, b_Table_moves⟩ := T.d_moves
  have G_Table_moves : FnOk P w K mg base CX0 1 A.t_moves fd_Table_moves ["self", "state"] (spL K (clA A) (tbA A) m_Table_moves) := ok_Table_moves F_Table_moves T
  obtain ⟨fd_Table_start, F_Table_start, b_Table_start⟩ := T.d_start
  have G_Table_start : FnOk P w K mg base CX0 1 A.t_start fd_Table_start ["self"] (spD K (clA A) (tbA A) m_Table_start) := ok_Table_start F_Table_start T
  refine okM (k := 1) F sc_Table_scenario fun cdv A' outer s H Hq E hr => ?_
  refine ⟨_, (pss_cons (ps_set (i := 1) sc_Table_scenario.nd rfl (Or.inl rfl) (pe_disp (pps_cons (pe_meth0 (pv 0) T.cl_Table T.m_start G_Table_start (hr.mono (by decide)) b_Table_start .nil pass0) pe_non pps_nil) rfl rfl (fun h => nomatch h) (by decide)))
  (pss_cons (ps_set (i := 2) sc_Table_scenario.nd rfl (Or.inl rfl) (pe_lst (pa_cons (pe_meth0 (pv 0) T.cl_Table T.m_start G_Table_start (hr.mono (by decide)) b_Table_start .nil pass0) pa_nil)))
  (pss_cons (ps_set (i := 3) sc_Table_scenario.nd rfl (Or.inl rfl) pe_int)
  (pss_cons (ps_while PassesOwn.never (pt_cmpR op_lt (pv 3) (pe_callB (show CallR _ (.builtin "len") (rLenX K) from call_lenX) (by rfl) T.n_len PySem.boot_len (pa_cons (pv 2) pa_nil)) (nomark _))
    (pss_cons (ps_set (i := 4) sc_Table_scenario.nd rfl (Or.inl rfl) (pe_ix (show IxR _ (rIx K) from ix_X) (pv 2) (pv 3) (fun _ _ => rfl)))
  (pss_cons (ps_set (i := 3) sc_Table_scenario.nd rfl (Or.inl rfl) (pe_op (show OpR _ (binaryOp .Add) (rAddX K) from op_addX) (pv 3) pe_int))
  (pss_one (ps_for PassesOwn.never rfl (show PI _ _ _ (tiX K _) from pi_X (pe_meth (pv 0) T.cl_Table T.m_moves G_Table_moves (hr.mono (by decide)) b_Table_moves .nil pass0 (pa_cons (pv 4) pa_nil))) (pg_tup (by rfl) (pgs_cons (pg_name (i := 5) sc_Table_scenario.nd rfl (Or.inl rfl)) (pgs_cons (pg_name (i := 6) sc_Table_scenario.nd rfl (Or.inl rfl)) pgs_nil)))
    (pss_cons (ps_if (pt_cmpR (show OpR _ (compareOp .Eq) (rEqX K) from op_eqX hr.units) (pv 6) (pe_glob (v := .str "bad") (by rfl) T.g_BAD ⟨_, rfl⟩) (nomark _))
    (pss_one (ps_ret (pe_op (show OpR _ (binaryOp .Add) (rAddX K) from op_addX) (pe_call G_way_back (hr.mono (by decide)) (by rfl) T.d_way_back.g T.d_way_back.k b_way_back .nil pass0 (pa_cons (pv 1) (pa_cons (pv 4) pa_nil))) (pe_lst (pa_cons (pv 5) pa_nil)))))
    pss_nil)
  (pss_one (ps_if (pt_cmp (pc_dnotin (units1 hr) (pv 6) (pv 1)) (by rfl))
    (pss_cons (ps_asg (pe_tup (pa_cons (pv 4) (pa_cons (pv 5) pa_nil))) (pg_sub (pv 1) (pv 6) (set_dict (units1 hr))))
  (pss_one (ps_expr (pe_bm PySem.F.plainAttrs_list PySem.F.slot_list_append PySem.F.type_list_append mt_append (pv 2) (pa_cons (pv 6) pa_nil)))))
    pss_nil))))))))
  (pss_one (ps_ret pe_non)))))), ?_⟩
  exact (js_seq (js_dct1 1 (je_meth (n := 20) (je_var 0) ja_nil) je_non)
  (js_seq (js_setL 2 (jl_lst (ja_cons (je_meth (n := 20) (je_var 0) ja_nil) ja_nil)))
  (js_seq (js_set 3 je_int)
  (js_seq (js_while 100000 (jt_view (jt_test (je_op jo_lt (je_var 3) (je_cb jc_len (ja_cons (je_var 2) ja_nil)))))
    (js_seq (js_set 4 (je_ixO 2 (je_var 3)))
  (js_seq (js_set 3 (je_op jo_add (je_var 3) je_int))
  (js_for (ji_seq (je_fz (jl_meth (n := 20) (je_var 0) (ja_cons (je_var 4) ja_nil)))) (jg_tup (jgs_cons (jg_name 5) (jgs_cons (jg_name 6) jgs_nil)))
    (js_seq (js_if (jt_test (je_op jo_eq (je_var 6) je_str))
    (js_frz 1 (js_retL (jl_op jol_add (je_fz (jl_call0 (ja_cons (je_var 1) (ja_cons (je_var 4) ja_nil)))) (je_fz (jl_lst (ja_cons (je_var 5) ja_nil))))))
    js_next)
  (js_if (jt_B (je_dnotinO 1 (je_var 6)))
    (js_seq (js_dput 1 (je_tup (ja_cons (je_var 4) (ja_cons (je_var 5) ja_nil))) (je_var 6))
  (js_app 2 (je_var 6)))
    js_next))))))
  (js_ret je_non)))))
theorem ok_Table_states {fd : FuncData} (F : Fun K "states" "Table.states" S_Table_states A.t_states fd) (T : Tp P w K mg A) : FnOk P w K mg base CX0 2 A.t_states fd ["self"] (spL K (clA A) (tbA A) m_Table_states) := by
  obtain ⟨fd_Table_moves, F_Table_moves, b_Table_moves⟩ := T.d_moves
  have G_Table_moves : FnOk P w K mg base CX0 1 A.t_moves fd_Table_moves ["self", "state"] (spL K (clA A) (tbA A) m_Table_moves) := ok_Table_moves F_Table_moves T
  obtain ⟨fd_Table_start, F_Table_start, b_Table_start⟩ := T.d_start
  have G_Table_start : FnOk P w K mg base CX0 1 A.t_start fd_Table_start ["self"] (spD K (clA A) (tbA A) m_Table_start) := ok_Table_start F_Table_start T
  refine okL (k := 1) F sc_Table_states fun cdv A' outer s H Hq E hr => ?_
  refine ⟨_, (pss_cons (ps_set (i := 1) sc_Table_states.nd rfl (Or.inl rfl) (pe_disp (pps_cons (pe_meth0 (pv 0) T.cl_Table T.m_start G_Table_start (hr.mono (by decide)) b_Table_start .nil pass0) pe_bl pps_nil) rfl rfl (fun h => nomatch h) (by decide)))
  (pss_cons (ps_set (i := 2) sc_Table_states.nd rfl (Or.inl rfl) (pe_lst (pa_cons (pe_meth0 (pv 0) T.cl_Table T.m_start G_Table_start (hr.mono (by decide)) b_Table_start .nil pass0) pa_nil)))
  (pss_cons (ps_set (i := 3) sc_Table_states.nd rfl (Or.inl rfl) pe_int)
  (pss_cons (ps_while PassesOwn.never (pt_cmpR op_lt (pv 3) (pe_callB (show CallR _ (.builtin "len") (rLenX K) from call_lenX) (by rfl) T.n_len PySem.boot_len (pa_cons (pv 2) pa_nil)) (nomark _))
    (pss_cons (ps_for PassesOwn.never rfl (show PI _ _ _ (tiX K _) from pi_X (pe_meth (pv 0) T.cl_Table T.m_moves G_Table_moves (hr.mono (by decide)) b_Table_moves .nil pass0 (pa_cons (pe_ix (show IxR _ (rIx K) from ix_X) (pv 2) (pv 3) (fun _ _ => rfl)) pa_nil))) (pg_tup (by rfl) (pgs_cons (pg_name (i := 4) sc_Table_states.nd rfl (Or.inl rfl)) (pgs_cons (pg_name (i := 5) sc_Table_states.nd rfl (Or.inl rfl)) pgs_nil)))
    (pss_one (ps_if (PW.pt (pw_and (pt_cmpR (show OpR _ (compareOp .NotEq) (rNeX K) from op_neX hr.units) (pv 5) (pe_glob (v := .str "bad") (by rfl) T.g_BAD ⟨_, rfl⟩) (nomark _)) (pw_and1 (pt_cmp (pc_dnotin (units1 hr) (pv 5) (pv 1)) (by rfl)))))
    (pss_cons (ps_asg pe_bl (pg_sub (pv 1) (pv 5) (set_dict (units1 hr))))
  (pss_one (ps_expr (pe_bm PySem.F.plainAttrs_list PySem.F.slot_list_append PySem.F.type_list_append mt_append (pv 2) (pa_cons (pv 5) pa_nil)))))
    pss_nil)))
  (pss_one (ps_set (i := 3) sc_Table_states.nd rfl (Or.inl rfl) (pe_op (show OpR _ (binaryOp .Add) (rAddX K) from op_addX) (pv 3) pe_int)))))
  (pss_one (ps_ret (pv 2))))))), ?_⟩
  exact (js_seq (js_dct1 1 (je_meth (n := 20) (je_var 0) ja_nil) je_bl)
  (js_seq (js_setL 2 (jl_lst (ja_cons (je_meth (n := 20) (je_var 0) ja_nil) ja_nil)))
  (js_seq (js_set 3 je_int)
  (js_seq (js_while 100000 (jt_view (jt_test (je_op jo_lt (je_var 3) (je_cb jc_len (ja_cons (je_var 2) ja_nil)))))
    (js_seq (js_for (ji_seq (je_fz (jl_meth (n := 20) (je_var 0) (ja_cons (je_ixO 2 (je_var 3)) ja_nil)))) (jg_tup (jgs_cons (jg_name 4) (jgs_cons (jg_name 5) jgs_nil)))
    (js_if (jt_and (jt_test (je_op jo_ne (je_var 5) je_str)) (jt_B (je_dnotinO 1 (je_var 5))))
    (js_seq (js_dput 1 je_bl (je_var 5))
  (js_app 2 (je_var 5)))
    js_next))
  (js_set 3 (je_op jo_add (je_var 3) je_int))))
  (js_retO 2)))))
theorem ok__law_digit {fd : FuncData} (F : Fun K "_law_digit" "_law_digit" S__law_digit A._law_digit fd) (T : Tp P w K mg A) : FnOk P w K mg base CX0 1 A._law_digit fd ["_law_row_here", "_law_at"] (spD K (clA A) (tbA A) m__law_digit) := by
  refine okD (k := 0) F sc__law_digit fun cdv A' outer s H Hq E hr => ?_
  refine ⟨_, (pss_cons (ps_if (pt_cmpR op_lt (pv 1) (pe_callB (show CallR _ (.builtin "len") (rLenX K) from call_lenX) (by rfl) T.n_len PySem.boot_len (pa_cons (pv 0) pa_nil)) (nomark _))
    (pss_one (ps_ret (pe_ix (show IxR _ (rIx K) from ix_X) (pv 0) (pv 1) (fun _ _ => rfl))))
    pss_nil)
  (pss_one (ps_ret pe_int))), ?_⟩
  exact (js_seq (js_if (jt_test (je_op jo_lt (je_var 1) (je_cb jc_len (ja_cons (je_var 0) ja_nil))))
    (js_ret (je_op jo_ix (je_var 0) (je_var 1)))
    js_next)
  (js_ret je_int))
theorem ok__law_pick {fd : FuncData} (F : Fun K "_law_pick" "_law_pick" S__law_pick A._law_pick fd) (T : Tp P w K mg A) : FnOk P w K mg base CX0 1 A._law_pick fd ["_law_row_here", "_law_at", "_law_limit"] (spD K (clA A) (tbA A) m__law_pick) := by
  refine okD (k := 0) F sc__law_pick fun cdv A' outer s H Hq E hr => ?_
  refine ⟨_, (pss_cons (ps_set (i := 3) sc__law_pick.nd rfl (Or.inl rfl) pe_int)
  (pss_cons (ps_if (pt_cmpR op_lt (pv 1) (pe_callB (show CallR _ (.builtin "len") (rLenX K) from call_lenX) (by rfl) T.n_len PySem.boot_len (pa_cons (pv 0) pa_nil)) (nomark _))
    (pss_one (ps_set (i := 3) sc__law_pick.nd rfl (Or.inl rfl) (pe_ix (show IxR _ (rIx K) from ix_X) (pv 0) (pv 1) (fun _ _ => rfl))))
    pss_nil)
  (pss_cons (ps_if (pt_cmpR op_lt (pe_op (show OpR _ (binaryOp .Add) (rAddX K) from op_addX) (pv 1) pe_int) (pe_callB (show CallR _ (.builtin "len") (rLenX K) from call_lenX) (by rfl) T.n_len PySem.boot_len (pa_cons (pv 0) pa_nil)) (nomark _))
    (pss_one (ps_set (i := 3) sc__law_pick.nd rfl (Or.inl rfl) (pe_op (show OpR _ (binaryOp .Add) (rAddX K) from op_addX) (pv 3) (pe_op (show OpR _ (binaryOp .Mult) (rMulX K) from op_mulX) pe_int (pe_ix (show IxR _ (rIx K) from ix_X) (pv 0) (pe_op (show OpR _ (binaryOp .Add) (rAddX K) from op_addX) (pv 1) pe_int) (fun _ _ => rfl))))))
    pss_nil)
  (pss_one (ps_ret (pe_op op_mod (pe_callTy (show CallR _ (.type "int") rIntX from call_intX) (by rfl) T.n_int (by decide +kernel) (pa_cons (pv 3) pa_nil)) (pv 2))))))), ?_⟩
  exact (js_seq (js_set 3 je_int)
  (js_seq (js_if (jt_test (je_op jo_lt (je_var 1) (je_cb jc_len (ja_cons (je_var 0) ja_nil))))
    (js_set 3 (je_op jo_ix (je_var 0) (je_var 1)))
    js_next)
  (js_seq (js_if (jt_test (je_op jo_lt (je_op jo_add (je_var 1) je_int) (je_cb jc_len (ja_cons (je_var 0) ja_nil))))
    (js_set 3 (je_op jo_add (je_var 3) (je_op jo_mul je_int (je_op jo_ix (je_var 0) (je_op jo_add (je_var 1) je_int)))))
    js_next)
  (js_ret (je_op jo_mod (je_cb jc_int (ja_cons (je_var 3) ja_nil)) (je_var 2))))))
theorem ok__law_whole {fd : FuncData} (F : Fun K "_law_whole" "_law_whole" S__law_whole A._law_whole fd) (T : Tp P w K mg A) : FnOk P w K mg base CX0 1 A._law_whole fd ["_law_value"] (spD K (clA A) (tbA A) m__law_whole) := by
  refine okD (k := 0) F sc__law_whole fun cdv A' outer s H Hq E hr => ?_
  refine ⟨_, (pss_one (ps_ret (pe_and (pe_callB (show CallR _ (.builtin "isinstance") (rIsi K) from call_isi) (by rfl) T.n_isinstance (by decide +kernel) (pa_cons (pv 0) (pa_cons (pe_bltn (v := .ty "int") (by rfl) T.n_int (by decide +kernel) rfl) pa_nil))) (pe_one (pe_not (pe_callB (show CallR _ (.builtin "isinstance") (rIsi K) from call_isi) (by rfl) T.n_isinstance (by decide +kernel) (pa_cons (pv 0) (pa_cons (pe_bltn (v := .ty "bool") (by rfl) T.n_bool (by decide +kernel) rfl) pa_nil)))))))), ?_⟩
  exact (js_ret (je_and (je_cb (jc_isi T.kit) (ja_cons (je_var 0) (ja_cons je_opq ja_nil))) (je_not (je_cb (jc_isi T.kit) (ja_cons (je_var 0) (ja_cons je_opq ja_nil))))))
theorem ok__law_equal {fd : FuncData} (F : Fun K "_law_equal" "_law_equal" S__law_equal A._law_equal fd) (T : Tp P w K mg A) : FnOk P w K mg base CX0 2 A._law_equal fd ["_law_actual", "_law_expected"] (spD K (clA A) (tbA A) m__law_equal) := by
  obtain ⟨fd__law_whole, F__law_whole, b__law_whole⟩ := T.d__law_whole.ex
  have G__law_whole : FnOk P w K mg base CX0 1 A._law_whole fd__law_whole ["_law_value"] (spD K (clA A) (tbA A) m__law_whole) := ok__law_whole F__law_whole T
  refine okD (k := 1) F sc__law_equal fun cdv A' outer s H Hq E hr => ?_
  refine ⟨_, (pss_cons (ps_set (i := 2) sc__law_equal.nd rfl (Or.inl rfl) (pe_lst (pa_cons (pe_tup (pa_cons (pv 0) (pa_cons (pv 1) pa_nil))) pa_nil)))
  (pss_cons (ps_for PassesOwn.never rfl (pi_range1 (by rfl) T.n_range (pa_cons pe_int pa_nil)) (pg_name (i := 3) sc__law_equal.nd rfl (Or.inl rfl))
    (pss_cons (ps_if (pt_cmpR (show OpR _ (compareOp .Eq) (rEqX K) from op_eqX hr.units) (pe_callB (show CallR _ (.builtin "len") (rLenX K) from call_lenX) (by rfl) T.n_len PySem.boot_len (pa_cons (pv 2) pa_nil)) pe_int (nomark _))
    (pss_one (ps_ret pe_bl))
    pss_nil)
  (pss_cons (ps_set (i := 4) sc__law_equal.nd rfl (Or.inl rfl) (pe_bm0 PySem.F.plainAttrs_list PySem.F.slot_list_pop PySem.F.type_list_pop mt_pop (pv 2)))
  (pss_cons (ps_set (i := 5) sc__law_equal.nd rfl (Or.inr rfl) (pe_ix (show IxR _ (rIx K) from ix_X) (pv 4) pe_int (fun _ _ => rfl)))
  (pss_cons (ps_set (i := 6) sc__law_equal.nd rfl (Or.inr rfl) (pe_ix (show IxR _ (rIx K) from ix_X) (pv 4) pe_int (fun _ _ => rfl)))
  (pss_one (ps_if (PW.pt (pw_or (pt_cmpR op_isX (pv 6) pe_non (nomark _)) (pw_or1 (pt_val (pe_callB (show CallR _ (.builtin "isinstance") (rIsi K) from call_isi) (by rfl) T.n_isinstance (by decide +kernel) (pa_cons (pv 6) (pa_cons (pe_bltn (v := .ty "bool") (by rfl) T.n_bool (by decide +kernel) rfl) pa_nil)))))))
    (pss_one (ps_if (PW.pt (pw_or (pt_cmpR (show OpR _ (compareOp .NotEq) (rNeX K) from op_neX hr.units) (pe_callB (show CallR _ (.builtin "isinstance") (rIsi K) from call_isi) (by rfl) T.n_isinstance (by decide +kernel) (pa_cons (pv 5) (pa_cons (pe_bltn (v := .ty "bool") (by rfl) T.n_bool (by decide +kernel) rfl) pa_nil))) (pe_callB (show CallR _ (.builtin "isinstance") (rIsi K) from call_isi) (by rfl) T.n_isinstance (by decide +kernel) (pa_cons (pv 6) (pa_cons (pe_bltn (v := .ty "bool") (by rfl) T.n_bool (by decide +kernel) rfl) pa_nil))) (nomark _)) (pw_or1 (pt_cmpR (show OpR _ (compareOp .NotEq) (rNeX K) from op_neX hr.units) (pv 5) (pv 6) (nomark _)))))
    (pss_one (ps_ret pe_bl))
    pss_nil))
    (pss_one (ps_if (pt_val (pe_callB (show CallR _ (.builtin "isinstance") (rIsi K) from call_isi) (by rfl) T.n_isinstance (by decide +kernel) (pa_cons (pv 6) (pa_cons (pe_bltn (v := .ty "int") (by rfl) T.n_int (by decide +kernel) rfl) pa_nil))))
    (pss_one (ps_if (PW.pt (pw_or (pt_not (pt_val (pe_call G__law_whole (hr.mono (by decide)) (by rfl) T.d__law_whole.g T.d__law_whole.k b__law_whole .nil pass0 (pa_cons (pv 5) pa_nil)))) (pw_or1 (pt_cmpR (show OpR _ (compareOp .NotEq) (rNeX K) from op_neX hr.units) (pv 5) (pv 6) (nomark _)))))
    (pss_one (ps_ret pe_bl))
    pss_nil))
    (pss_one (ps_if (pt_val (pe_callB (show CallR _ (.builtin "isinstance") (rIsi K) from call_isi) (by rfl) T.n_isinstance (by decide +kernel) (pa_cons (pv 6) (pa_cons (pe_bltn (v := .ty "str") (by rfl) T.n_str (by decide +kernel) rfl) pa_nil))))
    (pss_one (ps_if (PW.pt (pw_or (pt_not (pt_val (pe_callB (show CallR _ (.builtin "isinstance") (rIsi K) from call_isi) (by rfl) T.n_isinstance (by decide +kernel) (pa_cons (pv 5) (pa_cons (pe_bltn (v := .ty "str") (by rfl) T.n_str (by decide +kernel) rfl) pa_nil))))) (pw_or1 (pt_cmpR (show OpR _ (compareOp .NotEq) (rNeX K) from op_neX hr.units) (pv 5) (pv 6) (nomark _)))))
    (pss_one (ps_ret pe_bl))
    pss_nil))
    (pss_cons (ps_if (PW.pt (pw_or (pt_cmpR (show OpR _ (compareOp .NotEq) (rNeX K) from op_neX hr.units) (pe_callB (show CallR _ (.builtin "isinstance") (rIsi K) from call_isi) (by rfl) T.n_isinstance (by decide +kernel) (pa_cons (pv 5) (pa_cons (pe_bltn (v := .ty "list") (by rfl) T.n_list (by decide +kernel) rfl) pa_nil))) (pe_callB (show CallR _ (.builtin "isinstance") (rIsi K) from call_isi) (by rfl) T.n_isinstance (by decide +kernel) (pa_cons (pv 6) (pa_cons (pe_bltn (v := .ty "list") (by rfl) T.n_list (by decide +kernel) rfl) pa_nil))) (nomark _)) (pw_or1 (pt_cmpR (show OpR _ (compareOp .NotEq) (rNeX K) from op_neX hr.units) (pe_callB (show CallR _ (.builtin "isinstance") (rIsi K) from call_isi) (by rfl) T.n_isinstance (by decide +kernel) (pa_cons (pv 5) (pa_cons (pe_bltn (v := .ty "tuple") (by rfl) T.n_tuple (by decide +kernel) rfl) pa_nil))) (pe_callB (show CallR _ (.builtin "isinstance") (rIsi K) from call_isi) (by rfl) T.n_isinstance (by decide +kernel) (pa_cons (pv 6) (pa_cons (pe_bltn (v := .ty "tuple") (by rfl) T.n_tuple (by decide +kernel) rfl) pa_nil))) (nomark _)))))
    (pss_one (ps_ret pe_bl))
    pss_nil)
  (pss_cons (ps_if (pt_val (pe_callB (show CallR _ (.builtin "isinstance") (rIsi K) from call_isi) (by rfl) T.n_isinstance (by decide +kernel) (pa_cons (pv 6) (pa_cons (pe_bltn (v := .ty "dict") (by rfl) T.n_dict (by decide +kernel) rfl) pa_nil))))
    (pss_cons (ps_if (PW.pt (pw_or (pt_not (pt_val (pe_callB (show CallR _ (.builtin "isinstance") (rIsi K) from call_isi) (by rfl) T.n_isinstance (by decide +kernel) (pa_cons (pv 5) (pa_cons (pe_bltn (v := .ty "dict") (by rfl) T.n_dict (by decide +kernel) rfl) pa_nil))))) (pw_or1 (pt_cmpR (show OpR _ (compareOp .NotEq) (rNeX K) from op_neX hr.units) (pe_callTy (show CallR _ (.type "list") _ from call_list_of) (by rfl) T.n_list (by decide +kernel) (pa_cons (pv 5) pa_nil)) (pe_callTy (show CallR _ (.type "list") _ from call_list_of) (by rfl) T.n_list (by decide +kernel) (pa_cons (pv 6) pa_nil)) (nomark _)))))
    (pss_one (ps_ret pe_bl))
    pss_nil)
  (pss_cons (ps_set (i := 5) sc__law_equal.nd rfl (Or.inr rfl) (by exact (pe_lc (own := [("_law_key", 8)]) (g := gName 8) (tt := tYes) rfl sc__law_equal.nd (show PI _ _ _ (tiX K _) from pi_X (pv 6)) (blkOk_by (N := ["_law_actual", "_law_expected", "_law_waiting", "_law_k", "_law_pair", "_law_one", "_law_due_here", "_law_j", "_law_key"]) (sc := defScope S__law_equal) (by decide +kernel)) (fun _ _ _ _ _ => (by exact (pg_name (i := 8) sc__law_equal.nd rfl (Or.inl rfl)))) (fun _ _ _ _ _ => (by exact pts_nil)) (fun _ _ _ _ _ => (by exact (pe_ix (show IxR _ (rIx K) from ix_X) (pv 5) (pv 8) (fun _ _ => rfl)))))))
  (pss_one (ps_set (i := 6) sc__law_equal.nd rfl (Or.inr rfl) (by exact (pe_lc (own := [("_law_key", 8)]) (g := gName 8) (tt := tYes) rfl sc__law_equal.nd (show PI _ _ _ (tiX K _) from pi_X (pv 6)) (blkOk_by (N := ["_law_actual", "_law_expected", "_law_waiting", "_law_k", "_law_pair", "_law_one", "_law_due_here", "_law_j", "_law_key"]) (sc := defScope S__law_equal) (by decide +kernel)) (fun _ _ _ _ _ => (by exact (pg_name (i := 8) sc__law_equal.nd rfl (Or.inl rfl)))) (fun _ _ _ _ _ => (by exact pts_nil)) (fun _ _ _ _ _ => (by exact (pe_ix (show IxR _ (rIx K) from ix_X) (pv 6) (pv 8) (fun _ _ => rfl))))))))))
    pss_nil)
  (pss_cons (ps_if (pt_cmpR (show OpR _ (compareOp .NotEq) (rNeX K) from op_neX hr.units) (pe_callB (show CallR _ (.builtin "len") (rLenX K) from call_lenX) (by rfl) T.n_len PySem.boot_len (pa_cons (pv 5) pa_nil)) (pe_callB (show CallR _ (.builtin "len") (rLenX K) from call_lenX) (by rfl) T.n_len PySem.boot_len (pa_cons (pv 6) pa_nil)) (nomark _))
    (pss_one (ps_ret pe_bl))
    pss_nil)
  (pss_one (ps_for PassesOwn.never rfl (pi_range1 (by rfl) T.n_range (pa_cons (pe_callB (show CallR _ (.builtin "len") (rLenX K) from call_lenX) (by rfl) T.n_len PySem.boot_len (pa_cons (pv 6) pa_nil)) pa_nil)) (pg_name (i := 7) sc__law_equal.nd rfl (Or.inl rfl))
    (pss_one (ps_expr (pe_bm PySem.F.plainAttrs_list PySem.F.slot_list_append PySem.F.type_list_append mt_append (pv 2) (pa_cons (pe_tup (pa_cons (pe_ix (show IxR _ (rIx K) from ix_X) (pv 5) (pv 7) (fun _ _ => rfl)) (pa_cons (pe_ix (show IxR _ (rIx K) from ix_X) (pv 6) (pv 7) (fun _ _ => rfl)) pa_nil))) pa_nil))))))))))))))))))))
  (pss_one (ps_ret pe_bl)))), ?_⟩
  exact (js_seq (js_setL 2 (jl_lst (ja_cons (je_tup (ja_cons (je_var 0) (ja_cons (je_var 1) ja_nil))) ja_nil)))
  (js_seq (js_for (ji_r1 (ja_cons je_int ja_nil)) (jg_name 3)
    (js_seq (js_if (jt_view (jt_test (je_op jo_eq (je_cb jc_len (ja_cons (je_var 2) ja_nil)) je_int)))
    (js_ret je_bl)
    js_next)
  (js_seq (js_pop 4 2)
  (js_seq (js_set 5 (je_op jo_ix (je_var 4) je_int))
  (js_seq (js_set 6 (je_op jo_ix (je_var 4) je_int))
  (js_if (jt_or (jt_test (je_op jo_is (je_var 6) je_non)) (jt_B (je_cb (jc_isi T.kit) (ja_cons (je_var 6) (ja_cons je_opq ja_nil)))))
    (js_if (jt_or (jt_test (je_op jo_ne (je_cb (jc_isi T.kit) (ja_cons (je_var 5) (ja_cons je_opq ja_nil))) (je_cb (jc_isi T.kit) (ja_cons (je_var 6) (ja_cons je_opq ja_nil))))) (jt_test (je_op jo_ne (je_var 5) (je_var 6))))
    (js_ret je_bl)
    js_next)
    (js_if (jt_B (je_cb (jc_isi T.kit) (ja_cons (je_var 6) (ja_cons je_opq ja_nil))))
    (js_if (jt_or (jt_not (jt_B (je_call0 (ja_cons (je_var 5) ja_nil)))) (jt_test (je_op jo_ne (je_var 5) (je_var 6))))
    (js_ret je_bl)
    js_next)
    (js_if (jt_B (je_cb (jc_isi T.kit) (ja_cons (je_var 6) (ja_cons je_opq ja_nil))))
    (js_if (jt_or (jt_not (jt_B (je_cb (jc_isi T.kit) (ja_cons (je_var 5) (ja_cons je_opq ja_nil))))) (jt_test (je_op jo_ne (je_var 5) (je_var 6))))
    (js_ret je_bl)
    js_next)
    (js_seq (js_if (jt_or (jt_test (je_op jo_ne (je_cb (jc_isi T.kit) (ja_cons (je_var 5) (ja_cons je_opq ja_nil))) (je_cb (jc_isi T.kit) (ja_cons (je_var 6) (ja_cons je_opq ja_nil))))) (jt_test (je_op jo_ne (je_cb (jc_isi T.kit) (ja_cons (je_var 5) (ja_cons je_opq ja_nil))) (je_cb (jc_isi T.kit) (ja_cons (je_var 6) (ja_cons je_opq ja_nil))))))
    (js_ret je_bl)
    js_next)
  (js_seq (js_if (jt_B (je_cb (jc_isi T.kit) (ja_cons (je_var 6) (ja_cons je_opq ja_nil))))
    (js_seq (js_if (jt_or (jt_not (jt_B (je_cb (jc_isi T.kit) (ja_cons (je_var 5) (ja_cons je_opq ja_nil))))) (jt_test (je_op jo_ne (je_fz (jl_cb jcl_list (ja_cons (je_var 5) ja_nil))) (je_fz (jl_cb jcl_list (ja_cons (je_var 6) ja_nil))))))
    (js_ret je_bl)
    js_next)
  (js_seq (js_set 5 (je_fz (jl_lc [8] (ji_seq (je_var 6)) (jg_name 8) jt_yes (je_op jo_ix (je_var 5) (je_var 8)) (by decide))))
  (js_set 6 (je_fz (jl_lc [8] (ji_seq (je_var 6)) (jg_name 8) jt_yes (je_op jo_ix (je_var 6) (je_var 8)) (by decide))))))
    js_next)
  (js_seq (js_if (jt_test (je_op jo_ne (je_cb jc_len (ja_cons (je_var 5) ja_nil)) (je_cb jc_len (ja_cons (je_var 6) ja_nil))))
    (js_ret je_bl)
    js_next)
  (js_for (ji_r1 (ja_cons (je_cb jc_len (ja_cons (je_var 6) ja_nil)) ja_nil)) (jg_name 7)
    (js_app 2 (je_tup (ja_cons (je_op jo_ix (je_var 5) (je_var 7)) (ja_cons (je_op jo_ix (je_var 6) (je_var 7)) ja_nil))))))))))))))))
  (js_ret je_bl)))
theorem ok__law_places {fd : FuncData} (F : Fun K "_law_places" "_law_places" S__law_places A._law_places fd) (T : Tp P w K mg A) : FnOk P w K mg base CX0 1 A._law_places fd [] (spL K (clA A) (tbA A) m__law_places) := by
  refine okL (k := 0) F sc__law_places fun cdv A' outer s H Hq E hr => ?_
  refine ⟨_, (pss_one (ps_ret (pe_lst (pa_cons pe_str (pa_cons pe_str (pa_cons pe_str (pa_cons pe_str (pa_cons pe_str (pa_cons pe_str (pa_cons pe_str (pa_cons pe_str (pa_cons pe_str (pa_cons pe_str (pa_cons pe_str (pa_cons pe_str (pa_cons pe_str pa_nil)))))))))))))))), ?_⟩
  exact (js_retL (jl_lst (ja_cons je_str (ja_cons je_str (ja_cons je_str (ja_cons je_str (ja_cons je_str (ja_cons je_str (ja_cons je_str (ja_cons je_str (ja_cons je_str (ja_cons je_str (ja_cons je_str (ja_cons je_str (ja_cons je_str ja_nil)))))))))))))))
theorem ok__law_listed {fd : FuncData} (F : Fun K "_law_listed" "_law_listed" S__law_listed A._law_listed fd) (T : Tp P w K mg A) : FnOk P w K mg base CX0 2 A._law_listed fd ["_law_row_here", "_law_at"] (spD K (clA A) (tbA A) m__law_listed) := by
  obtain ⟨fd__law_digit, F__law_digit, b__law_digit⟩ := T.d__law_digit.ex
  have G__law_digit : FnOk P w K mg base CX0 1 A._law_digit fd__law_digit ["_law_row_here", "_law_at"] (spD K (clA A) (tbA A) m__law_digit) := ok__law_digit F__law_digit T
  obtain ⟨fd__law_pick, F__law_pick, b__law_pick⟩ := T.d__law_pick.ex
  have G__law_pick : FnOk P w K mg base CX0 1 A._law_pick fd__law_pick ["_law_row_here", "_law_at", "_law_limit"] (spD K (clA A) (tbA A) m__law_pick) := ok__law_pick F__law_pick T
  obtain ⟨fd__law_places, F__law_places, b__law_places⟩ := T.d__law_places.ex
  have G__law_places : FnOk P w K mg base CX0 1 A._law_places fd__law_places [] (spL K (clA A) (tbA A) m__law_places) := ok__law_places F__law_places T
  refine okD (k := 1) F sc__law_listed fun cdv A' outer s H Hq E hr => ?_
  refine ⟨_, (pss_cons (ps_set (i := 2) sc__law_listed.nd rfl (Or.inl rfl) (pe_call0 G__law_places (hr.mono (by decide)) (by rfl) T.d__law_places.g T.d__law_places.k b__law_places .nil pass0))
  (pss_cons (ps_set (i := 3) sc__law_listed.nd rfl (Or.inl rfl) (pe_lst (pa_cons pe_str (pa_cons pe_str (pa_cons pe_str (pa_cons pe_str (pa_cons pe_str (pa_cons pe_str (pa_cons pe_str pa_nil)))))))))
  (pss_cons (ps_set (i := 4) sc__law_listed.nd rfl (Or.inl rfl) (pe_op (show OpR _ (binaryOp .Add) (rAddX K) from op_addX) pe_int (pe_op op_mod (pe_callTy (show CallR _ (.type "int") rIntX from call_intX) (by rfl) T.n_int (by decide +kernel) (pa_cons (pe_call G__law_digit (hr.mono (by decide)) (by rfl) T.d__law_digit.g T.d__law_digit.k b__law_digit .nil pass0 (pa_cons (pv 0) (pa_cons (pv 1) pa_nil))) pa_nil)) pe_int)))
  (pss_cons (ps_set (i := 5) sc__law_listed.nd rfl (Or.inl rfl) (pe_lst pa_nil))
  (pss_cons (ps_for PassesOwn.never rfl (pi_range1 (by rfl) T.n_range (pa_cons pe_int pa_nil)) (pg_name (i := 6) sc__law_listed.nd rfl (Or.inl rfl))
    (pss_one (ps_for PassesOwn.never rfl (pi_range1 (by rfl) T.n_range (pa_cons (pv 4) pa_nil)) (pg_name (i := 7) sc__law_listed.nd rfl (Or.inl rfl))
    (pss_cons (ps_set (i := 8) sc__law_listed.nd rfl (Or.inl rfl) (pe_op (show OpR _ (binaryOp .Add) (rAddX K) from op_addX) (pe_op (show OpR _ (binaryOp .Add) (rAddX K) from op_addX) (pv 1) pe_int) (pe_op (show OpR _ (binaryOp .Mult) (rMulX K) from op_mulX) pe_int (pv 7))))
  (pss_one (ps_if (pt_cmpR op_lt (pv 6) (pe_op op_mod (pe_callTy (show CallR _ (.type "int") rIntX from call_intX) (by rfl) T.n_int (by decide +kernel) (pa_cons (pe_op (show OpR _ (binaryOp .Add) (rAddX K) from op_addX) (pe_call G__law_digit (hr.mono (by decide)) (by rfl) T.d__law_digit.g T.d__law_digit.k b__law_digit .nil pass0 (pa_cons (pv 0) (pa_cons (pv 8) pa_nil))) pe_int) pa_nil)) pe_int) (nomark _))
    (pss_cons (ps_set (i := 9) sc__law_listed.nd rfl (Or.inl rfl) (pe_op op_mod (pe_callTy (show CallR _ (.type "int") rIntX from call_intX) (by rfl) T.n_int (by decide +kernel) (pa_cons (pe_op (show OpR _ (binaryOp .Add) (rAddX K) from op_addX) (pe_op (show OpR _ (binaryOp .Add) (rAddX K) from op_addX) (pe_call G__law_digit (hr.mono (by decide)) (by rfl) T.d__law_digit.g T.d__law_digit.k b__law_digit .nil pass0 (pa_cons (pv 0) (pa_cons (pe_op (show OpR _ (binaryOp .Add) (rAddX K) from op_addX) (pe_op (show OpR _ (binaryOp .Add) (rAddX K) from op_addX) (pv 8) pe_int) (pv 6)) pa_nil))) (pv 7)) pe_int) pa_nil)) (pe_op (show OpR _ (binaryOp .Add) (rAddX K) from op_addX) (pv 4) pe_int)))
  (pss_cons (ps_set (i := 10) sc__law_listed.nd rfl (Or.inl rfl) pe_str)
  (pss_cons (ps_if (pt_cmpR op_lt (pv 9) (pv 4) (nomark _))
    (pss_one (ps_set (i := 10) sc__law_listed.nd rfl (Or.inl rfl) (pe_ix (show IxR _ (rIx K) from ix_X) (pv 2) (pv 9) (fun _ _ => rfl))))
    pss_nil)
  (pss_one (ps_expr (pe_bm PySem.F.plainAttrs_list PySem.F.slot_list_append PySem.F.type_list_append mt_append (pv 5) (pa_cons (pe_tup (pa_cons (pe_ix (show IxR _ (rIx K) from ix_X) (pv 2) (pv 7) (fun _ _ => rfl)) (pa_cons (pe_ix (show IxR _ (rIx K) from ix_X) (pv 3) (pe_op op_mod (pe_callTy (show CallR _ (.type "int") rIntX from call_intX) (by rfl) T.n_int (by decide +kernel) (pa_cons (pe_op (show OpR _ (binaryOp .Add) (rAddX K) from op_addX) (pe_call G__law_digit (hr.mono (by decide)) (by rfl) T.d__law_digit.g T.d__law_digit.k b__law_digit .nil pass0 (pa_cons (pv 0) (pa_cons (pe_op (show OpR _ (binaryOp .Add) (rAddX K) from op_addX) (pv 8) pe_int) pa_nil))) (pv 6)) pa_nil)) pe_int) (fun _ _ => rfl)) (pa_cons (pv 10) pa_nil)))) pa_nil)))))))
    pss_nil))))))
  (pss_cons (ps_set (i := 11) sc__law_listed.nd rfl (Or.inl rfl) (pe_call G__law_pick (hr.mono (by decide)) (by rfl) T.d__law_pick.g T.d__law_pick.k b__law_pick .nil pass0 (pa_cons (pv 0) (pa_cons (pe_op (show OpR _ (binaryOp .Add) (rAddX K) from op_addX) (pv 1) pe_int) (pa_cons (pe_op (show OpR _ (binaryOp .Add) (rAddX K) from op_addX) (pe_callB (show CallR _ (.builtin "len") (rLenX K) from call_lenX) (by rfl) T.n_len PySem.boot_len (pa_cons (pv 5) pa_nil)) pe_int) pa_nil)))))
  (pss_one (ps_ret (pe_op (show OpR _ (binaryOp .Add) (rAddX K) from op_addX) (pe_slice (show SlR _ (rSlX K) from sl_X) (pv 5) (po_some (pv 11)) po_none) (pe_slice (show SlR _ (rSlX K) from sl_X) (pv 5) po_none (po_some (pv 11)))))))))))), ?_⟩
  exact (js_seq (js_set 2 (je_fz (jl_call0 ja_nil)))
  (js_seq (js_set 3 (je_fz (jl_lst (ja_cons je_str (ja_cons je_str (ja_cons je_str (ja_cons je_str (ja_cons je_str (ja_cons je_str (ja_cons je_str ja_nil))))))))))
  (js_seq (js_set 4 (je_op jo_add je_int (je_op jo_mod (je_cb jc_int (ja_cons (je_call0 (ja_cons (je_var 0) (ja_cons (je_var 1) ja_nil))) ja_nil)) je_int)))
  (js_seq (js_setL 5 (jl_lst ja_nil))
  (js_seq (js_for (ji_r1 (ja_cons je_int ja_nil)) (jg_name 6)
    (js_for (ji_r1 (ja_cons (je_var 4) ja_nil)) (jg_name 7)
    (js_seq (js_set 8 (je_op jo_add (je_op jo_add (je_var 1) je_int) (je_op jo_mul je_int (je_var 7))))
  (js_if (jt_test (je_op jo_lt (je_var 6) (je_op jo_mod (je_cb jc_int (ja_cons (je_op jo_add (je_call0 (ja_cons (je_var 0) (ja_cons (je_var 8) ja_nil))) je_int) ja_nil)) je_int)))
    (js_seq (js_set 9 (je_op jo_mod (je_cb jc_int (ja_cons (je_op jo_add (je_op jo_add (je_call0 (ja_cons (je_var 0) (ja_cons (je_op jo_add (je_op jo_add (je_var 8) je_int) (je_var 6)) ja_nil))) (je_var 7)) je_int) ja_nil)) (je_op jo_add (je_var 4) je_int)))
  (js_seq (js_set 10 je_str)
  (js_seq (js_if (jt_test (je_op jo_lt (je_var 9) (je_var 4)))
    (js_set 10 (je_op jo_ix (je_var 2) (je_var 9)))
    js_next)
  (js_app 5 (je_tup (ja_cons (je_op jo_ix (je_var 2) (je_var 7)) (ja_cons (je_op jo_ix (je_var 3) (je_op jo_mod (je_cb jc_int (ja_cons (je_op jo_add (je_call0 (ja_cons (je_var 0) (ja_cons (je_op jo_add (je_var 8) je_int) ja_nil))) (je_var 6)) ja_nil)) je_int)) (ja_cons (je_var 10) ja_nil))))))))
    js_next))))
  (js_seq (js_frz 5 (js_set 11 (je_call0 (ja_cons (je_var 0) (ja_cons (je_op jo_add (je_var 1) je_int) (ja_cons (je_op jo_add (je_cb jc_len (ja_cons (je_var 5) ja_nil)) je_int) ja_nil))))))
  (js_frz 5 (js_ret (je_op jo_add (je_sl js_sl (je_var 5) (jp_some (je_var 11)) jp_no) (je_sl js_sl (je_var 5) jp_no (jp_some (je_var 11))))))))))))
theorem ok__law_begin {fd : FuncData} (F : Fun K "_law_begin" "_law_begin" S__law_begin A._law_begin fd) (T : Tp P w K mg A) : FnOk P w K mg base CX0 2 A._law_begin fd ["_law_row_here", "_law_at"] (spD K (clA A) (tbA A) m__law_begin) := by
  obtain ⟨fd__law_digit, F__law_digit, b__law_digit⟩ := T.d__law_digit.ex
  have G__law_digit : FnOk P w K mg base CX0 1 A._law_digit fd__law_digit ["_law_row_here", "_law_at"] (spD K (clA A) (tbA A) m__law_digit) := ok__law_digit F__law_digit T
  obtain ⟨fd__law_places, F__law_places, b__law_places⟩ := T.d__law_places.ex
  have G__law_places : FnOk P w K mg base CX0 1 A._law_places fd__law_places [] (spL K (clA A) (tbA A) m__law_places) := ok__law_places F__law_places T
  refine okD (k := 1) F sc__law_begin fun cdv A' outer s H Hq E hr => ?_
  refine ⟨_, (pss_cons (ps_set (i := 2) sc__law_begin.nd rfl (Or.inl rfl) (pe_op (show OpR _ (binaryOp .Add) (rAddX K) from op_addX) pe_int (pe_op op_mod (pe_callTy (show CallR _ (.type "int") rIntX from call_intX) (by rfl) T.n_int (by decide +kernel) (pa_cons (pe_call G__law_digit (hr.mono (by decide)) (by rfl) T.d__law_digit.g T.d__law_digit.k b__law_digit .nil pass0 (pa_cons (pv 0) (pa_cons (pv 1) pa_nil))) pa_nil)) pe_int)))
  (pss_one (ps_ret (pe_ix (show IxR _ (rIx K) from ix_X) (pe_call0 G__law_places (hr.mono (by decide)) (by rfl) T.d__law_places.g T.d__law_places.k b__law_places .nil pass0) (pe_op op_mod (pe_callTy (show CallR _ (.type "int") rIntX from call_intX) (by rfl) T.n_int (by decide +kernel) (pa_cons (pe_call G__law_digit (hr.mono (by decide)) (by rfl) T.d__law_digit.g T.d__law_digit.k b__law_digit .nil pass0 (pa_cons (pv 0) (pa_cons (pe_op (show OpR _ (binaryOp .Add) (rAddX K) from op_addX) (pv 1) pe_int) pa_nil))) pa_nil)) (pv 2)) (fun _ _ => rfl))))), ?_⟩
  exact (js_seq (js_set 2 (je_op jo_add je_int (je_op jo_mod (je_cb jc_int (ja_cons (je_call0 (ja_cons (je_var 0) (ja_cons (je_var 1) ja_nil))) ja_nil)) je_int)))
  (js_ret (je_op jo_ix (je_fz (jl_call0 ja_nil)) (je_op jo_mod (je_cb jc_int (ja_cons (je_call0 (ja_cons (je_var 0) (ja_cons (je_op jo_add (je_var 1) je_int) ja_nil))) ja_nil)) (je_var 2)))))
theorem ok__law_of {fd : FuncData} (F : Fun K "_law_of" "_law_of" S__law_of A._law_of fd) (T : Tp P w K mg A) : FnOk P w K mg base CX0 1 A._law_of fd ["_law_listed_here", "_law_state"] (spL K (clA A) (tbA A) m__law_of) := by
  refine okL (k := 0) F sc__law_of fun cdv A' outer s H Hq E hr => ?_
  refine ⟨_, (pss_one (ps_ret (by exact (pe_lc (own := [("_law_one", 2)]) (g := gName 2) rfl sc__law_of.nd (show PI _ _ _ (tiX K _) from pi_X (pv 0)) (blkOk_by (N := ["_law_listed_here", "_law_state", "_law_one"]) (sc := defScope S__law_of) (by decide +kernel)) (fun _ _ _ _ _ => (by exact (pg_name (i := 2) sc__law_of.nd rfl (Or.inl rfl)))) (fun _ _ _ _ _ => (by exact (pts_one (pt_cmpR (show OpR _ (compareOp .Eq) (rEqX K) from op_eqX hr.units) (pe_ix (show IxR _ (rIx K) from ix_X) (pv 2) pe_int (fun _ _ => rfl)) (pv 1) (nomark _))))) (fun _ _ _ _ _ => (by exact (pe_tup (pa_cons (pe_ix (show IxR _ (rIx K) from ix_X) (pv 2) pe_int (fun _ _ => rfl)) (pa_cons (pe_ix (show IxR _ (rIx K) from ix_X) (pv 2) pe_int (fun _ _ => rfl)) pa_nil))))))))), ?_⟩
  exact (js_retL (jl_lc [2] (ji_seq (je_var 0)) (jg_name 2) (jt_test (je_op jo_eq (je_op jo_ix (je_var 2) je_int) (je_var 1))) (je_tup (ja_cons (je_op jo_ix (je_var 2) je_int) (ja_cons (je_op jo_ix (je_var 2) je_int) ja_nil))) (by decide)))
theorem ok__law_far {fd : FuncData} (F : Fun K "_law_far" "_law_far" S__law_far A._law_far fd) (T : Tp P w K mg A) : FnOk P w K mg base CX0 1 A._law_far fd ["_law_listed_here"] (spD K (clA A) (tbA A) m__law_far) := by
  refine okD (k := 0) F sc__law_far fun cdv A' outer s H Hq E hr => ?_
  refine ⟨_, (pss_cons (ps_set (i := 1) sc__law_far.nd rfl (Or.inl rfl) (pe_disp (pps_cons pe_str pe_int pps_nil) rfl rfl (fun h => nomatch h) (by decide)))
  (pss_cons (ps_for PassesOwn.never rfl (pi_range1 (by rfl) T.n_range (pa_cons pe_int pa_nil)) (pg_name (i := 2) sc__law_far.nd rfl (Or.inl rfl))
    (pss_one (ps_for PassesOwn.never rfl (show PI _ _ _ (tiX K _) from pi_X (pv 0)) (pg_name (i := 3) sc__law_far.nd rfl (Or.inl rfl))
    (pss_one (ps_if (PW.pt (pw_and (pt_cmp (pc_din (units1 hr) (pe_ix (show IxR _ (rIx K) from ix_X) (pv 3) pe_int (fun _ _ => rfl)) (pv 1)) (by rfl)) (pw_and1 (PW.pt (pw_or (pt_cmp (pc_dnotin (units1 hr) (pe_ix (show IxR _ (rIx K) from ix_X) (pv 3) pe_int (fun _ _ => rfl)) (pv 1)) (by rfl)) (pw_or1 (pt_cmpR op_gt (pe_dget (units1 hr) (pv 1) (pe_ix (show IxR _ (rIx K) from ix_X) (pv 3) pe_int (fun _ _ => rfl)) (fun _ _ => rfl)) (pe_op (show OpR _ (binaryOp .Add) (rAddX K) from op_addX) pe_int (pe_dget (units1 hr) (pv 1) (pe_ix (show IxR _ (rIx K) from ix_X) (pv 3) pe_int (fun _ _ => rfl)) (fun _ _ => rfl))) (nomark _))))))))
    (pss_one (ps_asg (pe_op (show OpR _ (binaryOp .Add) (rAddX K) from op_addX) pe_int (pe_dget (units1 hr) (pv 1) (pe_ix (show IxR _ (rIx K) from ix_X) (pv 3) pe_int (fun _ _ => rfl)) (fun _ _ => rfl))) (pg_sub (pv 1) (pe_ix (show IxR _ (rIx K) from ix_X) (pv 3) pe_int (fun _ _ => rfl)) (set_dict (units1 hr)))))
    pss_nil)))))
  (pss_one (ps_ret (pv 1))))), ?_⟩
  exact (js_seq (js_dct1 1 je_str je_int)
  (js_seq (js_for (ji_r1 (ja_cons je_int ja_nil)) (jg_name 2)
    (js_for (ji_seq (je_var 0)) (jg_name 3)
    (js_if (jt_and (jt_B (je_dinO 1 (je_op jo_ix (je_var 3) je_int))) (jt_or (jt_B (je_dnotinO 1 (je_op jo_ix (je_var 3) je_int))) (jt_test (je_op jo_gt (je_dgetO 1 (je_op jo_ix (je_var 3) je_int)) (je_op jo_add je_int (je_dgetO 1 (je_op jo_ix (je_var 3) je_int)))))))
    (js_dput 1 (je_op jo_add je_int (je_dgetO 1 (je_op jo_ix (je_var 3) je_int))) (je_op jo_ix (je_var 3) je_int))
    js_next)))
  (js_frz 1 (js_ret (je_var 1)))))
theorem ok__law_due {fd : FuncData} (F : Fun K "_law_due" "_law_due" S__law_due A._law_due fd) (T : Tp P w K mg A) : FnOk P w K mg base CX0 2 A._law_due fd ["_law_listed_here", "_law_begin_here"] (spD K (clA A) (tbA A) m__law_due) := by
  obtain ⟨fd__law_far, F__law_far, b__law_far⟩ := T.d__law_far.ex
  have G__law_far : FnOk P w K mg base CX0 1 A._law_far fd__law_far ["_law_listed_here"] (spD K (clA A) (tbA A) m__law_far) := ok__law_far F__law_far T
  refine okD (k := 1) F sc__law_due fun cdv A' outer s H Hq E hr => ?_
  refine ⟨_, (pss_cons (ps_set (i := 2) sc__law_due.nd rfl (Or.inl rfl) (pe_call G__law_far (hr.mono (by decide)) (by rfl) T.d__law_far.g T.d__law_far.k b__law_far .nil pass0 (pa_cons (pv 0) pa_nil)))
  (pss_cons (ps_if (pt_cmp (pc_dnotin (units1 hr) (pv 1) (pv 2)) (by rfl))
    (pss_one (ps_ret pe_non))
    pss_nil)
  (pss_cons (ps_set (i := 3) sc__law_due.nd rfl (Or.inl rfl) (pe_lst pa_nil))
  (pss_cons (ps_set (i := 4) sc__law_due.nd rfl (Or.inl rfl) (pv 1))
  (pss_cons (ps_for PassesOwn.never rfl (pi_range1 (by rfl) T.n_range (pa_cons (pe_dget (units1 hr) (pv 2) (pv 1) (fun _ _ => rfl)) pa_nil)) (pg_name (i := 5) sc__law_due.nd rfl (Or.inl rfl))
    (pss_cons (ps_set (i := 6) sc__law_due.nd rfl (Or.inl rfl) (pv 4))
  (pss_cons (ps_for PassesOwn.never rfl (show PI _ _ _ (tiX K _) from pi_X (pv 0)) (pg_name (i := 7) sc__law_due.nd rfl (Or.inl rfl))
    (pss_one (ps_if (PW.pt (pw_and (pt_cmpR (show OpR _ (compareOp .Eq) (rEqX K) from op_eqX hr.units) (pe_ix (show IxR _ (rIx K) from ix_X) (pv 7) pe_int (fun _ _ => rfl)) (pv 4) (nomark _)) (pw_and (pt_cmpR (show OpR _ (compareOp .Eq) (rEqX K) from op_eqX hr.units) (pv 6) (pv 4) (nomark _)) (pw_and (pt_cmp (pc_din (units1 hr) (pe_ix (show IxR _ (rIx K) from ix_X) (pv 7) pe_int (fun _ _ => rfl)) (pv 2)) (by rfl)) (pw_and1 (pt_cmpR (show OpR _ (compareOp .Eq) (rEqX K) from op_eqX hr.units) (pe_dget (units1 hr) (pv 2) (pe_ix (show IxR _ (rIx K) from ix_X) (pv 7) pe_int (fun _ _ => rfl)) (fun _ _ => rfl)) (pe_op op_sub (pe_dget (units1 hr) (pv 2) (pv 4) (fun _ _ => rfl)) pe_int) (nomark _)))))))
    (pss_cons (ps_set (i := 6) sc__law_due.nd rfl (Or.inl rfl) (pe_ix (show IxR _ (rIx K) from ix_X) (pv 7) pe_int (fun _ _ => rfl)))
  (pss_one (ps_expr (pe_bm PySem.F.plainAttrs_list PySem.F.slot_list_append PySem.F.type_list_append mt_append (pv 3) (pa_cons (pe_ix (show IxR _ (rIx K) from ix_X) (pv 7) pe_int (fun _ _ => rfl)) pa_nil)))))
    pss_nil)))
  (pss_one (ps_set (i := 4) sc__law_due.nd rfl (Or.inl rfl) (pv 6))))))
  (pss_one (ps_ret (pv 3)))))))), ?_⟩
  exact (js_seq (js_set 2 (je_call0 (ja_cons (je_var 0) ja_nil)))
  (js_seq (js_if (jt_B (je_dnotin (je_var 1) (je_var 2)))
    (js_ret je_non)
    js_next)
  (js_seq (js_setL 3 (jl_lst ja_nil))
  (js_seq (js_set 4 (je_var 1))
  (js_seq (js_for (ji_r1 (ja_cons (je_dget (je_var 2) (je_var 1)) ja_nil)) (jg_name 5)
    (js_seq (js_set 6 (je_var 4))
  (js_seq (js_for (ji_seq (je_var 0)) (jg_name 7)
    (js_if (jt_and (jt_test (je_op jo_eq (je_op jo_ix (je_var 7) je_int) (je_var 4))) (jt_and (jt_test (je_op jo_eq (je_var 6) (je_var 4))) (jt_and (jt_B (je_din (je_op jo_ix (je_var 7) je_int) (je_var 2))) (jt_test (je_op jo_eq (je_dget (je_var 2) (je_op jo_ix (je_var 7) je_int)) (je_op jo_sub (je_dget (je_var 2) (je_var 4)) je_int))))))
    (js_seq (js_set 6 (je_op jo_ix (je_var 7) je_int))
  (js_app 3 (je_op jo_ix (je_var 7) je_int)))
    js_next))
  (js_set 4 (je_var 6)))))
  (js_retO 3))))))
theorem ok__law_reached {fd : FuncData} (F : Fun K "_law_reached" "_law_reached" S__law_reached A._law_reached fd) (T : Tp P w K mg A) : FnOk P w K mg base CX0 2 A._law_reached fd ["_law_listed_here", "_law_begin_here"] (spL K (clA A) (tbA A) m__law_reached) := by
  obtain ⟨fd__law_of, F__law_of, b__law_of⟩ := T.d__law_of.ex
  have G__law_of : FnOk P w K mg base CX0 1 A._law_of fd__law_of ["_law_listed_here", "_law_state"] (spL K (clA A) (tbA A) m__law_of) := ok__law_of F__law_of T
  refine okL (k := 1) F sc__law_reached fun cdv A' outer s H Hq E hr => ?_
  refine ⟨_, (pss_cons (ps_set (i := 2) sc__law_reached.nd rfl (Or.inl rfl) (pe_lst (pa_cons (pv 1) pa_nil)))
  (pss_cons (ps_for PassesOwn.never rfl (pi_range1 (by rfl) T.n_range (pa_cons pe_int pa_nil)) (pg_name (i := 3) sc__law_reached.nd rfl (Or.inl rfl))
    (pss_one (ps_if (pt_cmpR op_lt (pv 3) (pe_callB (show CallR _ (.builtin "len") (rLenX K) from call_lenX) (by rfl) T.n_len PySem.boot_len (pa_cons (pv 2) pa_nil)) (nomark _))
    (pss_one (ps_for PassesOwn.never rfl (show PI _ _ _ (tiX K _) from pi_X (pe_call G__law_of (hr.mono (by decide)) (by rfl) T.d__law_of.g T.d__law_of.k b__law_of .nil pass0 (pa_cons (pv 0) (pa_cons (pe_ix (show IxR _ (rIx K) from ix_X) (pv 2) (pv 3) (fun _ _ => rfl)) pa_nil)))) (pg_name (i := 4) sc__law_reached.nd rfl (Or.inl rfl))
    (pss_one (ps_if (PW.pt (pw_and (pt_cmpR (show OpR _ (compareOp .NotEq) (rNeX K) from op_neX hr.units) (pe_ix (show IxR _ (rIx K) from ix_X) (pv 4) pe_int (fun _ _ => rfl)) pe_str (nomark _)) (pw_and1 (pt_cmpR (show OpR _ (compareOp .NotIn) (rNotInX K) from op_notInX) (pe_ix (show IxR _ (rIx K) from ix_X) (pv 4) pe_int (fun _ _ => rfl)) (pv 2) (by rfl)))))
    (pss_one (ps_expr (pe_bm PySem.F.plainAttrs_list PySem.F.slot_list_append PySem.F.type_list_append mt_append (pv 2) (pa_cons (pe_ix (show IxR _ (rIx K) from ix_X) (pv 4) pe_int (fun _ _ => rfl)) pa_nil))))
    pss_nil))))
    pss_nil)))
  (pss_one (ps_ret (pv 2))))), ?_⟩
  exact (js_seq (js_setL 2 (jl_lst (ja_cons (je_var 1) ja_nil)))
  (js_seq (js_for (ji_r1 (ja_cons je_int ja_nil)) (jg_name 3)
    (js_if (jt_view (jt_test (je_op jo_lt (je_var 3) (je_cb jc_len (ja_cons (je_var 2) ja_nil)))))
    (js_for (ji_seq (je_fz (jl_call0 (ja_cons (je_var 0) (ja_cons (je_ixO 2 (je_var 3)) ja_nil))))) (jg_name 4)
    (js_if (jt_view (jt_and (jt_test (je_op jo_ne (je_op jo_ix (je_var 4) je_int) je_str)) (jt_test (je_op jo_notIn (je_op jo_ix (je_var 4) je_int) (je_var 2)))))
    (js_app 2 (je_op jo_ix (je_var 4) je_int))
    js_next))
    js_next))
  (js_retO 2)))
theorem ok__law_asked {fd : FuncData} (F : Fun K "_law_asked" "_law_asked" S__law_asked A._law_asked fd) (T : Tp P w K mg A) : FnOk P w K mg base CX0 3 A._law_asked fd ["_law_table", "_law_begin_here", "_law_listed_here"] (spD K (clA A) (tbA A) m__law_asked) := by
  obtain ⟨fd__law_due, F__law_due, b__law_due⟩ := T.d__law_due.ex
  have G__law_due : FnOk P w K mg base CX0 2 A._law_due fd__law_due ["_law_listed_here", "_law_begin_here"] (spD K (clA A) (tbA A) m__law_due) := ok__law_due F__law_due T
  obtain ⟨fd__law_equal, F__law_equal, b__law_equal⟩ := T.d__law_equal.ex
  have G__law_equal : FnOk P w K mg base CX0 2 A._law_equal fd__law_equal ["_law_actual", "_law_expected"] (spD K (clA A) (tbA A) m__law_equal) := ok__law_equal F__law_equal T
  obtain ⟨fd__law_of, F__law_of, b__law_of⟩ := T.d__law_of.ex
  have G__law_of : FnOk P w K mg base CX0 1 A._law_of fd__law_of ["_law_listed_here", "_law_state"] (spL K (clA A) (tbA A) m__law_of) := ok__law_of F__law_of T
  obtain ⟨fd__law_places, F__law_places, b__law_places⟩ := T.d__law_places.ex
  have G__law_places : FnOk P w K mg base CX0 1 A._law_places fd__law_places [] (spL K (clA A) (tbA A) m__law_places) := ok__law_places F__law_places T
  obtain ⟨fd__law_reached, F__law_reached, b__law_reached⟩ := T.d__law_reached.ex
  have G__law_reached : FnOk P w K mg base CX0 2 A._law_reached fd__law_reached ["_law_listed_here", "_law_begin_here"] (spL K (clA A) (tbA A) m__law_reached) := ok__law_reached F__law_reached T
  obtain ⟨fd_Table_moves, F_Table_moves, b_Table_moves⟩ := T.d_moves
  have G_Table_moves : FnOk P w K mg base CX0 1 A.t_moves fd_Table_moves ["self", "state"] (spL K (clA A) (tbA A) m_Table_moves) := ok_Table_moves F_Table_moves T
  obtain ⟨fd_Table_scenario, F_Table_scenario, b_Table_scenario⟩ := T.d_scenario
  have G_Table_scenario : FnOk P w K mg base CX0 2 A.t_scenario fd_Table_scenario ["self"] (spM K (clA A) (tbA A) m_Table_scenario) := ok_Table_scenario F_Table_scenario T
  obtain ⟨fd_Table_start, F_Table_start, b_Table_start⟩ := T.d_start
  have G_Table_start : FnOk P w K mg base CX0 1 A.t_start fd_Table_start ["self"] (spD K (clA A) (tbA A) m_Table_start) := ok_Table_start F_Table_start T
  obtain ⟨fd_Table_states, F_Table_states, b_Table_states⟩ := T.d_states
  have G_Table_states : FnOk P w K mg base CX0 2 A.t_states fd_Table_states ["self"] (spL K (clA A) (tbA A) m_Table_states) := ok_Table_states F_Table_states T
  refine okD (k := 2) F sc__law_asked fun cdv A' outer s H Hq E hr => ?_
  refine ⟨_, (pss_cons (ps_set (i := 3) sc__law_asked.nd rfl (Or.inl rfl) (pe_call G__law_due (hr.mono (by decide)) (by rfl) T.d__law_due.g T.d__law_due.k b__law_due .nil pass0 (pa_cons (pv 2) (pa_cons (pv 1) pa_nil))))
  (pss_cons (ps_set (i := 4) sc__law_asked.nd rfl (Or.inl rfl) (pe_meth0 (pv 0) T.cl_Table T.m_scenario G_Table_scenario (hr.mono (by decide)) b_Table_scenario .nil pass0))
  (pss_cons (ps_if (PW.pt (pw_or (pt_not (pt_val (pe_call G__law_equal (hr.mono (by decide)) (by rfl) T.d__law_equal.g T.d__law_equal.k b__law_equal .nil pass0 (pa_cons (pe_meth0 (pv 0) T.cl_Table T.m_start G_Table_start (hr.mono (by decide)) b_Table_start .nil pass0) (pa_cons (pv 1) pa_nil))))) (pw_or1 (pt_not (pt_val (pe_call G__law_equal (hr.mono (by decide)) (by rfl) T.d__law_equal.g T.d__law_equal.k b__law_equal .nil pass0 (pa_cons (pv 4) (pa_cons (pv 3) pa_nil))))))))
    (pss_one (ps_ret pe_bl))
    pss_nil)
  (pss_cons (ps_if (pt_cmpR op_isNotX (pv 4) pe_non (nomark _))
    (pss_one (ps_expr (pe_bm PySem.F.plainAttrs_list PySem.F.slot_list_append PySem.F.type_list_append mt_append (pv 4) (pa_cons pe_str pa_nil))))
    pss_nil)
  (pss_cons (ps_set (i := 5) sc__law_asked.nd rfl (Or.inl rfl) (pe_meth0 (pv 0) T.cl_Table T.m_states G_Table_states (hr.mono (by decide)) b_Table_states .nil pass0))
  (pss_cons (ps_if (pt_not (pt_val (pe_call G__law_equal (hr.mono (by decide)) (by rfl) T.d__law_equal.g T.d__law_equal.k b__law_equal .nil pass0 (pa_cons (pv 5) (pa_cons (pe_call G__law_reached (hr.mono (by decide)) (by rfl) T.d__law_reached.g T.d__law_reached.k b__law_reached .nil pass0 (pa_cons (pv 2) (pa_cons (pv 1) pa_nil))) pa_nil)))))
    (pss_one (ps_ret pe_bl))
    pss_nil)
  (pss_cons (ps_expr (pe_bm PySem.F.plainAttrs_list PySem.F.slot_list_append PySem.F.type_list_append mt_append (pv 5) (pa_cons pe_str pa_nil)))
  (pss_cons (ps_for PassesOwn.never rfl (show PI _ _ _ (tiX K _) from pi_X (pe_call0 G__law_places (hr.mono (by decide)) (by rfl) T.d__law_places.g T.d__law_places.k b__law_places .nil pass0)) (pg_name (i := 6) sc__law_asked.nd rfl (Or.inl rfl))
    (pss_cons (ps_set (i := 7) sc__law_asked.nd rfl (Or.inl rfl) (pe_meth (pv 0) T.cl_Table T.m_moves G_Table_moves (hr.mono (by decide)) b_Table_moves .nil pass0 (pa_cons (pv 6) pa_nil)))
  (pss_cons (ps_if (pt_not (pt_val (pe_call G__law_equal (hr.mono (by decide)) (by rfl) T.d__law_equal.g T.d__law_equal.k b__law_equal .nil pass0 (pa_cons (pv 7) (pa_cons (pe_call G__law_of (hr.mono (by decide)) (by rfl) T.d__law_of.g T.d__law_of.k b__law_of .nil pass0 (pa_cons (pv 2) (pa_cons (pv 6) pa_nil))) pa_nil)))))
    (pss_one (ps_ret pe_bl))
    pss_nil)
  (pss_cons (ps_expr (pe_bm PySem.F.plainAttrs_list PySem.F.slot_list_append PySem.F.type_list_append mt_append (pv 7) (pa_cons (pe_tup (pa_cons pe_str (pa_cons pe_str pa_nil))) pa_nil)))
  (pss_one (ps_if (pt_not (pt_val (pe_call G__law_equal (hr.mono (by decide)) (by rfl) T.d__law_equal.g T.d__law_equal.k b__law_equal .nil pass0 (pa_cons (pe_meth (pv 0) T.cl_Table T.m_moves G_Table_moves (hr.mono (by decide)) b_Table_moves .nil pass0 (pa_cons (pv 6) pa_nil)) (pa_cons (pe_call G__law_of (hr.mono (by decide)) (by rfl) T.d__law_of.g T.d__law_of.k b__law_of .nil pass0 (pa_cons (pv 2) (pa_cons (pv 6) pa_nil))) pa_nil)))))
    (pss_one (ps_ret pe_bl))
    pss_nil))))))
  (pss_one (ps_ret (pe_and (pe_call G__law_equal (hr.mono (by decide)) (by rfl) T.d__law_equal.g T.d__law_equal.k b__law_equal .nil pass0 (pa_cons (pe_meth0 (pv 0) T.cl_Table T.m_scenario G_Table_scenario (hr.mono (by decide)) b_Table_scenario .nil pass0) (pa_cons (pv 3) pa_nil))) (pe_one (pe_call G__law_equal (hr.mono (by decide)) (by rfl) T.d__law_equal.g T.d__law_equal.k b__law_equal .nil pass0 (pa_cons (pe_meth0 (pv 0) T.cl_Table T.m_states G_Table_states (hr.mono (by decide)) b_Table_states .nil pass0) (pa_cons (pe_call G__law_reached (hr.mono (by decide)) (by rfl) T.d__law_reached.g T.d__law_reached.k b__law_reached .nil pass0 (pa_cons (pv 2) (pa_cons (pv 1) pa_nil))) pa_nil))))))))))))))), ?_⟩
  exact (js_seq (js_set 3 (je_call0 (ja_cons (je_var 2) (ja_cons (je_var 1) ja_nil))))
  (js_seq (js_setM 4 (jm_meth (n := 20) (je_var 0) ja_nil))
  (js_seq (js_if (jt_view (jt_or (jt_not (jt_B (je_call0 (ja_cons (je_meth (n := 20) (je_var 0) ja_nil) (ja_cons (je_var 1) ja_nil))))) (jt_not (jt_B (je_call0 (ja_cons (je_var 4) (ja_cons (je_var 3) ja_nil)))))))
    (js_ret je_bl)
    js_next)
  (js_seq (js_if (jt_view (jt_test (je_op jo_isNot (je_var 4) je_non)))
    (js_app 4 je_str)
    js_next)
  (js_seq (js_setL 5 (jl_meth (n := 20) (je_var 0) ja_nil))
  (js_seq (js_if (jt_view (jt_not (jt_B (je_call0 (ja_cons (je_var 5) (ja_cons (je_fz (jl_call0 (ja_cons (je_var 2) (ja_cons (je_var 1) ja_nil)))) ja_nil))))))
    (js_ret je_bl)
    js_next)
  (js_seq (js_app 5 je_str)
  (js_seq (js_for (ji_seq (je_fz (jl_call0 ja_nil))) (jg_name 6)
    (js_seq (js_setL 7 (jl_meth (n := 20) (je_var 0) (ja_cons (je_var 6) ja_nil)))
  (js_seq (js_if (jt_view (jt_not (jt_B (je_call0 (ja_cons (je_var 7) (ja_cons (je_fz (jl_call0 (ja_cons (je_var 2) (ja_cons (je_var 6) ja_nil)))) ja_nil))))))
    (js_ret je_bl)
    js_next)
  (js_seq (js_app 7 (je_tup (ja_cons je_str (ja_cons je_str ja_nil))))
  (js_if (jt_not (jt_B (je_call0 (ja_cons (je_fz (jl_meth (n := 20) (je_var 0) (ja_cons (je_var 6) ja_nil))) (ja_cons (je_fz (jl_call0 (ja_cons (je_var 2) (ja_cons (je_var 6) ja_nil)))) ja_nil)))))
    (js_ret je_bl)
    js_next)))))
  (js_ret (je_and (je_call0 (ja_cons (je_mx (jm_meth (n := 20) (je_var 0) ja_nil)) (ja_cons (je_var 3) ja_nil))) (je_call0 (ja_cons (je_fz (jl_meth (n := 20) (je_var 0) ja_nil)) (ja_cons (je_fz (jl_call0 (ja_cons (je_var 2) (ja_cons (je_var 1) ja_nil)))) ja_nil)))))))))))))
theorem ok__law_bare {fd : FuncData} (F : Fun K "_law_bare" "_law_bare" S__law_bare A._law_bare fd) (T : Tp P w K mg A) : FnOk P w K mg base CX0 3 A._law_bare fd ["_law_table", "_law_begin_here"] (spD K (clA A) (tbA A) m__law_bare) := by
  obtain ⟨fd__law_equal, F__law_equal, b__law_equal⟩ := T.d__law_equal.ex
  have G__law_equal : FnOk P w K mg base CX0 2 A._law_equal fd__law_equal ["_law_actual", "_law_expected"] (spD K (clA A) (tbA A) m__law_equal) := ok__law_equal F__law_equal T
  obtain ⟨fd_Table_moves, F_Table_moves, b_Table_moves⟩ := T.d_moves
  have G_Table_moves : FnOk P w K mg base CX0 1 A.t_moves fd_Table_moves ["self", "state"] (spL K (clA A) (tbA A) m_Table_moves) := ok_Table_moves F_Table_moves T
  obtain ⟨fd_Table_scenario, F_Table_scenario, b_Table_scenario⟩ := T.d_scenario
  have G_Table_scenario : FnOk P w K mg base CX0 2 A.t_scenario fd_Table_scenario ["self"] (spM K (clA A) (tbA A) m_Table_scenario) := ok_Table_scenario F_Table_scenario T
  obtain ⟨fd_Table_start, F_Table_start, b_Table_start⟩ := T.d_start
  have G_Table_start : FnOk P w K mg base CX0 1 A.t_start fd_Table_start ["self"] (spD K (clA A) (tbA A) m_Table_start) := ok_Table_start F_Table_start T
  obtain ⟨fd_Table_states, F_Table_states, b_Table_states⟩ := T.d_states
  have G_Table_states : FnOk P w K mg base CX0 2 A.t_states fd_Table_states ["self"] (spL K (clA A) (tbA A) m_Table_states) := ok_Table_states F_Table_states T
  refine okD (k := 2) F sc__law_bare fun cdv A' outer s H Hq E hr => ?_
  refine ⟨_, (pss_cons (ps_if (PW.pt (pw_or (pt_not (pt_val (pe_call G__law_equal (hr.mono (by decide)) (by rfl) T.d__law_equal.g T.d__law_equal.k b__law_equal .nil pass0 (pa_cons (pe_meth0 (pv 0) T.cl_Table T.m_start G_Table_start (hr.mono (by decide)) b_Table_start .nil pass0) (pa_cons (pv 1) pa_nil))))) (pw_or1 (pt_not (pt_val (pe_call G__law_equal (hr.mono (by decide)) (by rfl) T.d__law_equal.g T.d__law_equal.k b__law_equal .nil pass0 (pa_cons (pe_meth (pv 0) T.cl_Table T.m_moves G_Table_moves (hr.mono (by decide)) b_Table_moves .nil pass0 (pa_cons (pv 1) pa_nil)) (pa_cons (pe_lst pa_nil) pa_nil))))))))
    (pss_one (ps_ret pe_bl))
    pss_nil)
  (pss_one (ps_ret (pe_and (pe_cmpR op_isX (pe_meth0 (pv 0) T.cl_Table T.m_scenario G_Table_scenario (hr.mono (by decide)) b_Table_scenario .nil pass0) pe_non (nomark _)) (pe_one (pe_call G__law_equal (hr.mono (by decide)) (by rfl) T.d__law_equal.g T.d__law_equal.k b__law_equal .nil pass0 (pa_cons (pe_meth0 (pv 0) T.cl_Table T.m_states G_Table_states (hr.mono (by decide)) b_Table_states .nil pass0) (pa_cons (pe_lst (pa_cons (pv 1) pa_nil)) pa_nil)))))))), ?_⟩
  exact (js_seq (js_if (jt_or (jt_not (jt_B (je_call0 (ja_cons (je_meth (n := 20) (je_var 0) ja_nil) (ja_cons (je_var 1) ja_nil))))) (jt_not (jt_B (je_call0 (ja_cons (je_fz (jl_meth (n := 20) (je_var 0) (ja_cons (je_var 1) ja_nil))) (ja_cons (je_fz (jl_lst ja_nil)) ja_nil))))))
    (js_ret je_bl)
    js_next)
  (js_ret (je_and (je_op jo_is (je_mx (jm_meth (n := 20) (je_var 0) ja_nil)) je_non) (je_call0 (ja_cons (je_fz (jl_meth (n := 20) (je_var 0) ja_nil)) (ja_cons (je_fz (jl_lst (ja_cons (je_var 1) ja_nil))) ja_nil))))))
end
end P44
namespace P44
open PySem L2 Xg Xd CwR
def g_rest : MS :=
  (sSeq (sSet 2 (eCall (fun ds => noX (m__law_begin ds)) (aCons (eVar 1) (aCons (eC (.int 0)) aNil))))
  (sSeq (sSet 3 (eCall (fun ds => noX (m__law_listed ds)) (aCons (eVar 1) (aCons (eC (.int 0)) aNil))))
  (sSeq (sSetL 4 (lCB cListL (aCons (eVar 3) aNil)))
  (sSeq (sSet 5 (eMkT m_Table (aCons (eVar 2) (aCons (eVar 4) aNil))))
  (sSeq (sApp 4 (eTup (aCons (eVar 2) (aCons (eC (.str "further")) (aCons (eC (.str "bad")) aNil)))))
  (sSeq (sSet 6 (eCall (fun ds => noX (m__law_begin ds)) (aCons (eVar 1) (aCons (eC (.int 84)) aNil))))
  (sSeq (sSet 7 (eCall (fun ds => noX (m__law_listed ds)) (aCons (eVar 1) (aCons (eC (.int 84)) aNil))))
  (sSeq (sSet 8 (eMkT m_TableK (aCons (eCB cTuple (aCons (eVar 7) aNil)) (aCons (eVar 6) aNil))))
  (sSeq (sIf (bOr (bNot (bTest (eCall (fun ds => noX (m__law_asked ds)) (aCons (eVar 5) (aCons (eVar 2) (aCons (eVar 3) aNil)))))) (bNot (bTest (eCall (fun ds => noX (m__law_asked ds)) (aCons (eVar 8) (aCons (eVar 6) (aCons (eVar 7) aNil)))))))
    (sRet (eC (.bl false)))
    sNext)
  (sSeq (sClr 4)
  (sSeq (sIf (bOr (bNot (bTest (eCall (fun ds => noX (m__law_asked ds)) (aCons (eVar 5) (aCons (eVar 2) (aCons (eVar 3) aNil)))))) (bNot (bTest (eCall (fun ds => noX (m__law_asked ds)) (aCons (eVar 8) (aCons (eVar 6) (aCons (eVar 7) aNil)))))))
    (sRet (eC (.bl false)))
    sNext)
  (sSeq (sIf (bOr (bNot (bTest (eCall (fun ds => noX (m__law_bare ds)) (aCons (eMkT m_Table0 aNil) (aCons (eC (.str "start")) aNil))))) (bNot (bTest (eCall (fun ds => noX (m__law_bare ds)) (aCons (eMkT m_Table1 (aCons (eVar 6) aNil)) (aCons (eVar 6) aNil))))))
    (sRet (eC (.bl false)))
    sNext)
  (sRet (eAnd (eCB cIsi (aCons (eC (.str "bad")) (aCons (eC (.opq (.ty "str"))) aNil))) (e2 oEq (eC (.str "bad")) (eC (.str "bad")))))))))))))))))
section
variable {P : Program} {w : World} {K : PySem.W.Frag} {mg : Str → Option Value} {base : Heap} {A : Ad}
theorem ok__law_row {fd : FuncData} (F : Fun K "_law_row" "_law_row" S__law_row A._law_row fd) (T : Tp P w K mg A) : FnOk P w K mg base CX0 1 A._law_row fd ["_law_script", "_law_most"] (spRow K) := by
  refine F.ok sc__law_row (fun vs H Q E h => ?_) (fun cdv A' outer s H vs Q E hr h => ?_)
  · obtain ⟨a, ns, m, rfl, _⟩ := h
    rfl
  · obtain ⟨a, ns, m, rfl, hS, hl, hm0, hm1, hok⟩ := h
    refine ⟨_, (pss_cons (ps_set (i := 2) sc__law_row.nd rfl (Or.inl rfl) (pe_lst pa_nil))
  (pss_cons (ps_for PassesOwn.never rfl (pi_list (pv 0)) (pg_name (i := 3) sc__law_row.nd rfl (Or.inl rfl))
    (pss_cons (ps_set (i := 4) sc__law_row.nd rfl (Or.inl rfl) (pe_callB call_abs (by rfl) T.n_abs (by decide +kernel) (pa_cons (pe_callTy call_int1 (by rfl) T.n_int (by decide +kernel) (pa_cons (pv 3) pa_nil)) pa_nil)))
  (pss_one (ps_for PassesOwn.never rfl (pi_range1 (by rfl) T.n_range (pa_cons pe_int pa_nil)) (pg_name (i := 5) sc__law_row.nd rfl (Or.inl rfl))
    (pss_cons (ps_if (pt_cmpR op_lt (pe_callB call_len_seq (by rfl) T.n_len PySem.boot_len (pa_cons (pv 2) pa_nil)) (pv 1) (nomark _))
    (pss_one (ps_expr (pe_bm PySem.F.plainAttrs_list PySem.F.slot_list_append PySem.F.type_list_append mt_append (pv 2) (pa_cons (pe_op op_mod (pv 4) pe_int) pa_nil))))
    pss_nil)
  (pss_cons (ps_set (i := 4) sc__law_row.nd rfl (Or.inl rfl) (pe_op op_fdiv (pv 4) pe_int))
  (pss_one (ps_if (pt_cmpR op_eq (pv 4) pe_int (nomark _))
    (pss_one ps_break)
    pss_nil))))))))
  (pss_one (ps_ret (pv 2))))), ?_⟩
    refine ⟨(by show 0 ≤ sizeLine; decide), fun p np => ⟨_, rfl, a, rfl, ⟨_, same_sqL (same_new (Same.refl H) np) hS⟩, for_it (walk_list (xs := ns.map V.int)) (fun _ σ H' => Same H H' ∧ (∃ v3 v4 v5, σ = [some (.ref a), some (.int m), some (.ref p), v3, v4, v5]) ∧ ∃ row : List Int, H' p = some (.lst (row.map V.int)) ∧ (row.length : Int) ≤ m ∧ Dig row) ⟨same_new (Same.refl H) np, ⟨_, _, _, rfl⟩, [], upd_same, by simpa using hm0, dig_nil⟩ (fun i σ H' _ h => same_sqL h.1 hS) ?_ ?_⟩⟩
    · rintro i x σ H1 H2 hi ⟨sm, ⟨v3, v4, v5, rfl⟩, row, hp, hlen, hd⟩ ⟨rfl, ex⟩
      rw [List.getElem?_map] at ex
      obtain ⟨n, hn, rfl⟩ := Option.map_eq_some_iff.mp ex
      refine ⟨_, rfl, .inl ⟨n, rfl, n, rfl, 60, rfl, by decide, by decide, ?_⟩⟩
      refine for_it walk_range (fun _ σ H' => Same H H' ∧ (∃ r v5, 0 ≤ r ∧ σ = [some (.ref a), some (.int m), some (.ref p), some (.int n), some (.int r), v5]) ∧ ∃ row : List Int, H' p = some (.lst (row.map V.int)) ∧ (row.length : Int) ≤ m ∧ Dig row) ⟨sm, ⟨_, _, ?_, rfl⟩, row, hp, hlen, hd⟩ (fun _ _ _ _ _ => True.intro) ?_ ?_
      · split <;> omega
      · rintro j x σ H2 H3 hj ⟨sm2, ⟨r, v5, hr0, rfl⟩, row2, hp2, hlen2, hd2⟩ ⟨rfl, rfl⟩
        refine ⟨_, rfl, p, _, rfl, .inl (SqL.of hp2), _, rfl, _, _, rfl, rfl, _, rfl, ?_⟩
        rw [List.length_map]
        refine ite2 (fun c => ?_) (fun c => ?_)
        · have c' : (row2.length : Int) < m := of_decide_eq_true c
          refine ⟨_, rfl, .inl ⟨rfl, _, SqL.of hp2⟩, _, rfl, _, _, rfl, rfl, (by show (0 : Int) < 16; decide), p, _, _, rfl, rfl, hp2, lt1000 (by rw [List.length_map]; omega), ?_⟩
          have s3 := same_mut (o := .lst (row2.map V.int ++ [V.int (r % 16)])) sm2 np
          refine ⟨_, rfl, _, _, rfl, rfl, ⟨by decide, by decide⟩, _, rfl, rfl, _, rfl, ite2 (fun d => ?_) (fun d => ?_)⟩
          · exact ⟨s3, ⟨_, _, _, rfl⟩, row2 ++ [r % 16], (by rw [upd_same, List.map_append]; rfl), (by rw [List.length_append]; show ((row2.length + 1 : Nat) : Int) ≤ m; omega), dig_more hd2 (by omega) (by omega)⟩
          · exact ⟨s3, ⟨_, _, by omega, rfl⟩, row2 ++ [r % 16], (by rw [upd_same, List.map_append]; rfl), (by rw [List.length_append]; show ((row2.length + 1 : Nat) : Int) ≤ m; omega), dig_more hd2 (by omega) (by omega)⟩
        · refine ⟨_, rfl, _, _, rfl, rfl, ⟨by decide, by decide⟩, _, rfl, rfl, _, rfl, ite2 (fun d => ?_) (fun d => ?_)⟩
          · exact ⟨sm2, ⟨_, _, _, rfl⟩, row2, hp2, hlen2, hd2⟩
          · exact ⟨sm2, ⟨_, _, by omega, rfl⟩, row2, hp2, hlen2, hd2⟩
      · rintro σ H2 ⟨sm2, ⟨r, v5, hr0, rfl⟩, h⟩
        exact ⟨sm2, ⟨_, _, _, rfl⟩, h⟩
    · rintro σ H1 ⟨sm, ⟨v3, v4, v5, rfl⟩, row, hp, hlen, hd⟩
      exact ⟨_, rfl, hok H1 p row sm np hp hlen hd⟩

theorem ok_law {fd : FuncData} {f : Addr} (F : Fun K "law" "law" S_law f fd) (T : Tp P w K mg A) (hlaw : ∀ row : List Int, Dig row → row.length ≤ 170 → g_rest (((List.replicate 9 Sl.un : Rho).set 1 (.val (.lst (row.map D.int)))) : Rho) = some (.rt (.bl true))) : FnOk P w K mg base CX0 4 f fd ["_law_script"] (spLaw K) := by
  obtain ⟨ft, Ft⟩ := T.d_tinit
  have G_tinit : FnOk P w K mg base (L2.CX P w) 1 A.t_init ft ["self", "first", "rows"] (spInitT K A) := ok_tinit Ft T
  have b_tinit := tinit_b Ft
  obtain ⟨ds_t1, v_tinit1, b_tinit1⟩ := tinit_b1 Ft
  obtain ⟨ds_t0, v_tinit0, b_tinit0⟩ := tinit_b0 Ft
  obtain ⟨gg_t, b_tinitK⟩ := tinit_bK Ft
  obtain ⟨fd__law_asked, F__law_asked, b__law_asked⟩ := T.d__law_asked.ex
  have G__law_asked : FnOk P w K mg base CX0 3 A._law_asked fd__law_asked ["_law_table", "_law_begin_here", "_law_listed_here"] (spD K (clA A) (tbA A) m__law_asked) := ok__law_asked F__law_asked T
  obtain ⟨fd__law_bare, F__law_bare, b__law_bare⟩ := T.d__law_bare.ex
  have G__law_bare : FnOk P w K mg base CX0 3 A._law_bare fd__law_bare ["_law_table", "_law_begin_here"] (spD K (clA A) (tbA A) m__law_bare) := ok__law_bare F__law_bare T
  obtain ⟨fd__law_begin, F__law_begin, b__law_begin⟩ := T.d__law_begin.ex
  have G__law_begin : FnOk P w K mg base CX0 2 A._law_begin fd__law_begin ["_law_row_here", "_law_at"] (spD K (clA A) (tbA A) m__law_begin) := ok__law_begin F__law_begin T
  obtain ⟨fd__law_listed, F__law_listed, b__law_listed⟩ := T.d__law_listed.ex
  have G__law_listed : FnOk P w K mg base CX0 2 A._law_listed fd__law_listed ["_law_row_here", "_law_at"] (spD K (clA A) (tbA A) m__law_listed) := ok__law_listed F__law_listed T
  obtain ⟨fd__law_row, F__law_row, b__law_row⟩ := T.d__law_row.ex
  have G__law_row : FnOk P w K mg base CX0 1 A._law_row fd__law_row ["_law_script", "_law_most"] (spRow K) := ok__law_row F__law_row T
  refine F.ok sc_law (fun vs H Q E h => ?_) (fun cdv A' outer s H vs Q E hr h => ?_)
  · obtain ⟨a, ns, rfl, _⟩ := h
    rfl
  · obtain ⟨a, ns, rfl, hS, hl, q⟩ := h
    refine ⟨_, (pss_cons (ps_set (i := 1) sc_law.nd rfl (Or.inl rfl) (pe_call G__law_row (hr.mono (by decide)) (by rfl) T.d__law_row.g T.d__law_row.k b__law_row .nil pass0 (pa_cons (pv 0) (pa_cons pe_int pa_nil))))
  (pss_cons (ps_set (i := 2) sc_law.nd rfl (Or.inl rfl) (pe_call G__law_begin (hr.mono (by decide)) (by rfl) T.d__law_begin.g T.d__law_begin.k b__law_begin .nil pass0 (pa_cons (pv 1) (pa_cons pe_int pa_nil))))
  (pss_cons (ps_set (i := 3) sc_law.nd rfl (Or.inl rfl) (pe_call G__law_listed (hr.mono (by decide)) (by rfl) T.d__law_listed.g T.d__law_listed.k b__law_listed .nil pass0 (pa_cons (pv 1) (pa_cons pe_int pa_nil))))
  (pss_cons (ps_set (i := 4) sc_law.nd rfl (Or.inl rfl) (pe_callTy (show CallR _ (.type "list") _ from call_list_of) (by rfl) T.n_list (by decide +kernel) (pa_cons (pv 3) pa_nil)))
  (pss_cons (ps_set (i := 5) sc_law.nd rfl (Or.inl rfl) (pe_make T.M_Table G_tinit (hr.mono (by decide)) (by rfl) T.g_Table b_tinit .nil passL (pa_cons (pv 2) (pa_cons (pv 4) pa_nil))))
  (pss_cons (ps_expr (pe_bm PySem.F.plainAttrs_list PySem.F.slot_list_append PySem.F.type_list_append mt_append (pv 4) (pa_cons (pe_tup (pa_cons (pv 2) (pa_cons pe_str (pa_cons pe_str pa_nil)))) pa_nil)))
  (pss_cons (ps_set (i := 6) sc_law.nd rfl (Or.inl rfl) (pe_call G__law_begin (hr.mono (by decide)) (by rfl) T.d__law_begin.g T.d__law_begin.k b__law_begin .nil pass0 (pa_cons (pv 1) (pa_cons pe_int pa_nil))))
  (pss_cons (ps_set (i := 7) sc_law.nd rfl (Or.inl rfl) (pe_call G__law_listed (hr.mono (by decide)) (by rfl) T.d__law_listed.g T.d__law_listed.k b__law_listed .nil pass0 (pa_cons (pv 1) (pa_cons pe_int pa_nil))))
  (pss_cons (ps_set (i := 8) sc_law.nd rfl (Or.inl rfl) (pe_makeK0 T.M_Table G_tinit (hr.mono (by decide)) (by rfl) T.g_Table b_tinitK passL (pk_cons (pe_callTy (show CallR _ (.type "tuple") _ from call_tuple_of) (by rfl) T.n_tuple (by decide +kernel) (pa_cons (pv 7) pa_nil)) (pk_cons (pv 6) pk_nil))))
  (pss_cons (ps_if (PW.pt (pw_or (pt_not (pt_val (pe_call G__law_asked (hr.mono (by decide)) (by rfl) T.d__law_asked.g T.d__law_asked.k b__law_asked .nil pass0 (pa_cons (pv 5) (pa_cons (pv 2) (pa_cons (pv 3) pa_nil)))))) (pw_or1 (pt_not (pt_val (pe_call G__law_asked (hr.mono (by decide)) (by rfl) T.d__law_asked.g T.d__law_asked.k b__law_asked .nil pass0 (pa_cons (pv 8) (pa_cons (pv 6) (pa_cons (pv 7) pa_nil)))))))))
    (pss_one (ps_ret pe_bl))
    pss_nil)
  (pss_cons (ps_expr (pe_bm0 PySem.F.plainAttrs_list PySem.F.slot_list_clear PySem.F.type_list_clear mt_clear (pv 4)))
  (pss_cons (ps_if (PW.pt (pw_or (pt_not (pt_val (pe_call G__law_asked (hr.mono (by decide)) (by rfl) T.d__law_asked.g T.d__law_asked.k b__law_asked .nil pass0 (pa_cons (pv 5) (pa_cons (pv 2) (pa_cons (pv 3) pa_nil)))))) (pw_or1 (pt_not (pt_val (pe_call G__law_asked (hr.mono (by decide)) (by rfl) T.d__law_asked.g T.d__law_asked.k b__law_asked .nil pass0 (pa_cons (pv 8) (pa_cons (pv 6) (pa_cons (pv 7) pa_nil)))))))))
    (pss_one (ps_ret pe_bl))
    pss_nil)
  (pss_cons (ps_if (PW.pt (pw_or (pt_not (pt_val (pe_call G__law_bare (hr.mono (by decide)) (by rfl) T.d__law_bare.g T.d__law_bare.k b__law_bare .nil pass0 (pa_cons (pe_make0 T.M_Table G_tinit (hr.mono (by decide)) (by rfl) T.g_Table b_tinit0 v_tinit0 passL) (pa_cons pe_str pa_nil))))) (pw_or1 (pt_not (pt_val (pe_call G__law_bare (hr.mono (by decide)) (by rfl) T.d__law_bare.g T.d__law_bare.k b__law_bare .nil pass0 (pa_cons (pe_make T.M_Table G_tinit (hr.mono (by decide)) (by rfl) T.g_Table b_tinit1 v_tinit1 passL (pa_cons (pv 6) pa_nil)) (pa_cons (pv 6) pa_nil))))))))
    (pss_one (ps_ret pe_bl))
    pss_nil)
  (pss_one (ps_ret (pe_and (pe_callB (show CallR _ (.builtin "isinstance") (rIsi K) from call_isi) (by rfl) T.n_isinstance (by decide +kernel) (pa_cons (pe_glob (v := .str "bad") (by rfl) T.g_BAD ⟨_, rfl⟩) (pa_cons (pe_bltn (v := .ty "str") (by rfl) T.n_str (by decide +kernel) rfl) pa_nil))) (pe_one (pe_cmpR (show OpR _ (compareOp .Eq) (rEqX K) from op_eqX hr.units) (pe_glob (v := .str "bad") (by rfl) T.g_BAD ⟨_, rfl⟩) pe_str (nomark _))))))))))))))))))), ?_⟩
    refine ⟨_, rfl, a, ns, 170, rfl, hS, hl, by decide, by decide, fun H1 p1 row s1 n1 h1 l1 d1 => ?_⟩
    refine (show JS ⟨K, clA A, fun _ => none, H, 0, tbA A⟩ W0 _ g_rest from (js_seq (js_set 2 (je_call0 (ja_cons (je_var 1) (ja_cons je_int ja_nil))))
  (js_seq (js_set 3 (je_call0 (ja_cons (je_var 1) (ja_cons je_int ja_nil))))
  (js_seq (js_setL 4 (jl_cb jcl_list (ja_cons (je_var 3) ja_nil)))
  (js_seq (js_set 5 (je_mkT T (ja_cons (je_var 2) (ja_cons (je_var 4) ja_nil))))
  (js_seq (js_app 4 (je_tup (ja_cons (je_var 2) (ja_cons je_str (ja_cons je_str ja_nil)))))
  (js_seq (js_set 6 (je_call0 (ja_cons (je_var 1) (ja_cons je_int ja_nil))))
  (js_seq (js_set 7 (je_call0 (ja_cons (je_var 1) (ja_cons je_int ja_nil))))
  (js_seq (js_set 8 (je_mkTK T (ja_cons (je_cb jc_tuple (ja_cons (je_var 7) ja_nil)) (ja_cons (je_var 6) ja_nil))))
  (js_seq (js_if (jt_or (jt_not (jt_B (je_call0 (ja_cons (je_var 5) (ja_cons (je_var 2) (ja_cons (je_var 3) ja_nil)))))) (jt_not (jt_B (je_call0 (ja_cons (je_var 8) (ja_cons (je_var 6) (ja_cons (je_var 7) ja_nil)))))))
    (js_ret je_bl)
    js_next)
  (js_seq (js_clr 4)
  (js_seq (js_if (jt_or (jt_not (jt_B (je_call0 (ja_cons (je_var 5) (ja_cons (je_var 2) (ja_cons (je_var 3) ja_nil)))))) (jt_not (jt_B (je_call0 (ja_cons (je_var 8) (ja_cons (je_var 6) (ja_cons (je_var 7) ja_nil)))))))
    (js_ret je_bl)
    js_next)
  (js_seq (js_if (jt_or (jt_not (jt_B (je_call0 (ja_cons (je_mkT0 T ja_nil) (ja_cons je_str ja_nil))))) (jt_not (jt_B (je_call0 (ja_cons (je_mkT1 T (ja_cons (je_var 6) ja_nil)) (ja_cons (je_var 6) ja_nil))))))
    (js_ret je_bl)
    js_next)
  (js_ret (je_and (je_cb (jc_isi T.kit) (ja_cons je_str (ja_cons je_opq ja_nil))) (je_op jo_eq je_str je_str)))))))))))))))) _ _ _ H1 (row_ok s1 n1 h1) ((sv_un (n := 9) rfl).setVal 1 (.lst upd_same (ints_dva row))) _ ?_
    rw [hlaw row d1 (by omega)]
    intro v Hi' H' _ _ dv
    cases dv
    exact q H'
end
end P44
/-! tables: start, moves, the way back, the search -/
namespace P44
open PySem L2 Xg Xd CwR Bfs
def pD (p : Str × Str) : D := .tup [.str p.1, .str p.2]
abbrev tb (first : Str) (rows : List (Str × Str × Str)) : D := tabD (.str first) (groupR (rows.map rwS))
theorem moves_eq (rows : List (Str × Str × Str)) (s : Str) : movesR (rows.map rwS) s = (mv rows s).map pD := by
  unfold movesR mv
  rw [List.filter_map, List.map_map, List.map_map]
  rfl
theorem start_ok (first : Str) (rows : List (Str × Str × Str)) : m_Table_start [tb first rows] = .ok (.str first) := noX_of (runD_rt rfl rfl)
theorem moves_ok (first : Str) (rows : List (Str × Str × Str)) (s : Str) : m_Table_moves [tb first rows, .str s] = .ok ((mv rows s).map pD) := by
  refine noX_of (runL_rf rfl ?_)
  unfold g_Table_moves
  refine retL_ok ?_
  show (((eGet2 (eFld 20 "pairs" (eVar 0)) (eVar 1) (eFz (lLst aNil))) _).bind fun a => R.bind (.ok []) fun b => .ok (a :: b)).bind (fun as => ro (cListL as)) = _
  have : eGet2 (eFld 20 "pairs" (eVar 0)) (eVar 1) (eFz (lLst aNil)) [.val (tb first rows), .val (.str s)] = .ok (.lst ((mv rows s).map pD)) := by
    show ro (some ((dFind (gKs _) (gXs _) (.inr s)).getD (.lst []))) = _
    rw [dFind_group, getD_map_lst, group_get, moves_eq]
    rfl
  have this2 : eGet2 (eFld 20 "pairs" (eVar 0)) (eVar 1) (eFz (lLst aNil)) (rho0 2 [tb first rows, .str s]) = .ok (.lst ((mv rows s).map pD)) := this
  rw [this2]
  rfl
theorem of_ok (rows : List (Str × Str × Str)) (hl : rows.length ≤ 1000) (s : Str) : m__law_of [.lst (rows.map rwD), .str s] = .ok ((mv rows s).map pD) := by
  refine noX_of (runL_rf rfl ?_)
  unfold g__law_of
  refine retL_ok ?_
  refine (lc_ok (ds := rows.map rwD) (fun d => match rowOf d with | some r => decide (r.1 = s) | none => false) (fun d => match rowOf d with | some r => pD r.2 | none => .non) (seq_val rfl) (by rw [List.length_map]; omega) fun d hd => ?_).trans ?_
  · obtain ⟨r, _, rfl⟩ := List.mem_map.mp hd
    exact ⟨_, rfl, eq_ok rfl rfl, fun _ => rfl⟩
  · unfold mv
    rw [List.filter_map, List.map_map, List.map_map]
    rfl
/-! ### the way back -/
def parD : Option (Str × Str) → D
  | none => .non
  | some p => pD p
abbrev kD (W : List Ent) : List D := W.map fun e => .str e.1
abbrev xD (W : List Ent) : List D := W.map fun e => parD e.2
theorem find_W (s : Str) : ∀ W : List Ent, dFind (kD W) (xD W) (.inr s) = (W.find? fun e => decide (e.1 = s)).map fun e => parD e.2
  | [] => rfl
  | e :: W => by
    have ih := find_W s W
    unfold dFind at *
    show Option.map _ (List.find? _ ((D.str e.1 :: kD W).zip (parD e.2 :: xD W))) = _
    rw [List.zip_cons_cons, List.find?_cons, List.find?_cons]
    by_cases c : e.1 = s
    · have : decide (keyOf (D.str e.1) = some (.inr s)) = true := by rw [c]; exact decide_eq_true rfl
      rw [this, decide_eq_true c]
      rfl
    · have : decide (keyOf (D.str e.1) = some (.inr s)) = false := decide_eq_false fun h => c (by injection h with h; injection h)
      rw [this, decide_eq_false c]
      exact ih
theorem keys_none {s : Str} {W : List Ent} (h : s ∉ keysW W) : (W.find? fun e => decide (e.1 = s)) = none := by
  rw [List.find?_eq_none]
  intro e he
  have : e.1 ≠ s := fun k => h (by rw [← k]; exact List.mem_map.mpr ⟨e, he, rfl⟩)
  simpa using this
theorem keys_some {s : Str} {W : List Ent} (h : s ∈ keysW W) : (W.find? fun e => decide (e.1 = s)).isSome = true := by
  obtain ⟨e, he, q⟩ := List.mem_map.mp h
  rw [List.find?_isSome]
  exact ⟨e, he, decide_eq_true q⟩
theorem isSome_W (s : Str) (W : List Ent) : (dFind (kD W) (xD W) (.inr s)).isSome = decide (s ∈ keysW W) := by
  rw [find_W]
  by_cases c : s ∈ keysW W
  · rw [decide_eq_true c, Option.isSome_map, keys_some c]
  · rw [decide_eq_false c, keys_none c]
    rfl
def wbB : MS := (sSeq (sAsg (e2 oGetD (eVar 0) (eVar 1)) (gT 2 (gsCons (gN 1) (gsCons (gN 3) gsNil))))
  (sApp 2 (eVar 3)))
abbrev wbT : Rho → R Bool := (bTest (e2 oIsNot (e2 oGetD (eVar 0) (eVar 1)) (eC .non)))
theorem wb_loop {W : List Ent} {s : Str} {ms : List Str} (h : Chain W s ms) : ∀ (n : Nat) (acc : List D) (y : Sl), ms.length < n → ms.length + acc.length < 50000 →
    ∃ s' y', whR wbT wbB n [.val (.dic false (kD W) (xD W)), .val (.str s), .own acc, y] = some (.nx [.val (.dic false (kD W) (xD W)), .val (.str s'), .own (acc ++ (ms.map D.str).reverse), y']) := by
  induction h with
  | @root s h =>
    intro n acc y hn _
    cases n with
    | zero => simp at hn
    | succ n =>
      have hf : dFind (kD W) (xD W) (.inr s) = some .non := by rw [find_W, h]; rfl
      have ht : wbT [.val (.dic false (kD W) (xD W)), .val (.str s), .own acc, y] = .ok false := test_ok (op_ok (op_ok rfl rfl (show dFind (kD W) (xD W) (.inr s) = some .non from hf)) rfl rfl)
      refine ⟨s, y, ?_⟩
      unfold whR
      rw [ht]
      simp [lift]
  | @step s p m ms h c ih =>
    intro n acc y hn hl
    cases n with
    | zero => simp at hn
    | succ n =>
      have hf : dFind (kD W) (xD W) (.inr s) = some (pD (p, m)) := by rw [find_W, h]; rfl
      have hg : e2 oGetD (eVar 0) (eVar 1) [.val (.dic false (kD W) (xD W)), .val (.str s), .own acc, y] = .ok (pD (p, m)) := op_ok rfl rfl (show dFind (kD W) (xD W) (.inr s) = some (pD (p, m)) from hf)
      have ht : wbT [.val (.dic false (kD W) (xD W)), .val (.str s), .own acc, y] = .ok true := test_ok (op_ok hg rfl rfl)
      rw [List.length_append, List.length_singleton] at hn hl
      have hb : wbB [.val (.dic false (kD W) (xD W)), .val (.str s), .own acc, y] = some (.nx [.val (.dic false (kD W) (xD W)), .val (.str p), .own (acc ++ [.str m]), .val (.str m)]) := by
        unfold wbB
        have h1 : sAsg (e2 oGetD (eVar 0) (eVar 1)) (gT 2 (gsCons (gN 1) (gsCons (gN 3) gsNil))) [.val (.dic false (kD W) (xD W)), .val (.str s), .own acc, y] = some (.nx [.val (.dic false (kD W) (xD W)), .val (.str p), .own acc, .val (.str m)]) := by
          unfold sAsg
          rw [hg]
          rfl
        exact (seq_nx h1).trans (app_ok (xs := acc) rfl rfl (by omega))
      obtain ⟨s', y', e⟩ := ih n (acc ++ [.str m]) (.val (.str m)) (by omega) (by rw [List.length_append, List.length_singleton]; omega)
      refine ⟨s', y', ?_⟩
      unfold whR
      rw [ht]
      simp only [lift, if_true]
      rw [hb]
      simp only
      rw [e]
      simp
theorem way_ok {W : List Ent} {s : Str} {ms : List Str} (h : Chain W s ms) (hl : ms.length < 40000) : m_way_back [.dic false (kD W) (xD W), .str s] = .ok (ms.map D.str) := by
  refine noX_of (runL_rf rfl ?_)
  show g_way_back [.val (.dic false (kD W) (xD W)), .val (.str s), .un, .un] = _
  unfold g_way_back
  refine (seq_nx (setL_ok (lst_ok a0_ok (by decide)))).trans ?_
  obtain ⟨s', y', e⟩ := wb_loop h 100000 [] .un (by omega) (by simpa using by omega)
  refine (seq_nx (show sWhile 100000 wbT wbB _ = _ from e)).trans ?_
  refine (frz_ok (xs := [] ++ (ms.map D.str).reverse) rfl).trans (retL_ok ?_)
  rw [List.nil_append]
  show ro (some ((ms.map D.str).reverse.reverse)) = _
  rw [List.reverse_reverse]
  rfl
end P44
/-! the search -/
namespace P44
open PySem L2 Xg Xd CwR Bfs
variable {first : Str} {rows : List (Str × Str × Str)}
abbrev bad : Str := "bad"
abbrev gPair (i j : Nat) : MG := gT 2 (gsCons (gN i) (gsCons (gN j) gsNil))
def scB : MS :=
  (sSeq (sIf (bTest (e2 oEq (eVar 6) (eC (.str "bad"))))
    (sFrz 1 (sRetL (e2L oAddL (eFz (lCall (fun ds => noX (m_way_back ds)) (aCons (eVar 1) (aCons (eVar 4) aNil)))) (eFz (lLst (aCons (eVar 5) aNil))))))
    sNext)
  (sIf (bTest (eNotInO 1 (eVar 6)))
    (sSeq (sPutD 1 (eTup (aCons (eVar 4) (aCons (eVar 5) aNil))) (eVar 6))
  (sApp 2 (eVar 6)))
    sNext))
abbrev wD (W : List Ent) : List D := (keysW W).map D.str
abbrev Es (t : D) (W : List Ent) (k : Nat) (s : Str) (y5 y6 : Sl) : Rho := [.val t, .dct false (kD W) (xD W), .own (wD W), .val (.int k), .val (.str s), y5, y6]
theorem dkeys_new {W : List Ent} {a : Str} (h : a ∉ keysW W) (p : Option (Str × Str)) : dKeys (kD W) (xD W) (.inr a) (parD p) = (kD (W ++ [(a, p)]), xD (W ++ [(a, p)])) := by
  unfold dKeys
  have : ¬ ((kD W).any fun d => decide (keyOf d = some (.inr a))) = true := fun k => by
    obtain ⟨d, hd, q⟩ := List.any_eq_true.mp k
    obtain ⟨e, he, rfl⟩ := List.mem_map.mp hd
    have q := of_decide_eq_true q
    injection q with q
    injection q with q
    exact h (by rw [← q]; exact List.mem_map.mpr ⟨e, he, rfl⟩)
  rw [if_neg this]
  unfold kD xD
  rw [List.map_append, List.map_append]
  rfl
theorem wD_app (W : List Ent) (a : Str) (p : Option (Str × Str)) : wD W ++ [.str a] = wD (W ++ [(a, p)]) := by
  unfold wD keysW
  rw [List.map_append, List.map_append]
  rfl
theorem len_k (W : List Ent) : (kD W).length = W.length := List.length_map ..
theorem len_w (W : List Ent) : (wD W).length = W.length := by unfold wD keysW; rw [List.length_map, List.length_map]
theorem putD_ok {i : Nat} {f e : Rho → R D} {ρ : Rho} {ks xs : List D} {d y : D} {k : L2.Key} (h : ρ[i]? = some (.dct false ks xs)) (h1 : f ρ = .ok d) (h2 : e ρ = .ok y) (h3 : keyOf y = some k) (hl : ks.length < 100000) : sPutD i f e ρ = some (.nx (ρ.set i (.dct false (dKeys ks xs k d).1 (dKeys ks xs k d).2))) := by
  unfold sPutD
  rw [h]
  show lift (f ρ) ρ _ = _
  rw [h1]
  show lift (e ρ) ρ _ = _
  rw [h2]
  show (match keyOf y with
    | some k => if ks.length < 100000 then some (O.nx (ρ.set i (.dct false (dKeys ks xs k d).1 (dKeys ks xs k d).2))) else none
    | none => none) = _
  rw [h3]
  exact if_pos hl
/-- one move that doesn't end in bad -/
theorem sc_turn (t : D) (W : List Ent) (k : Nat) (s m a : Str) (hl : W.length < 50000) (hb : a ≠ bad) : scB (Es t W k s (.val (.str m)) (.val (.str a))) = some (.nx (Es t (visit s W (m, a)) k s (.val (.str m)) (.val (.str a)))) := by
  unfold scB
  have h1 : bTest (e2 oEq (eVar 6) (eC (.str "bad"))) (Es t W k s (.val (.str m)) (.val (.str a))) = .ok false := (eq_ok rfl rfl).trans (by rw [decide_eq_false hb])
  refine (seq_nx ((if_no h1).trans rfl)).trans ?_
  have h2 : bTest (eNotInO 1 (eVar 6)) (Es t W k s (.val (.str m)) (.val (.str a))) = .ok (!decide (a ∈ keysW W)) := by
    refine test_ok ?_
    show ro (some (D.bl (!(dFind (kD W) (xD W) (.inr a)).isSome))) = _
    rw [isSome_W]
    rfl
  unfold visit
  by_cases c : a ∈ keysW W
  · rw [if_pos c]
    exact (if_no (h2.trans (by rw [decide_eq_true c]; rfl))).trans rfl
  · rw [if_neg c]
    refine (if_yes (h2.trans (by rw [decide_eq_false c]; rfl))).trans ?_
    have h3 : sPutD 1 (eTup (aCons (eVar 4) (aCons (eVar 5) aNil))) (eVar 6) (Es t W k s (.val (.str m)) (.val (.str a))) = some (.nx [.val t, .dct false (kD (W ++ [(a, some (s, m))])) (xD (W ++ [(a, some (s, m))])), .own (wD W), .val (.int k), .val (.str s), .val (.str m), .val (.str a)]) := by
      have e : eTup (aCons (eVar 4) (aCons (eVar 5) aNil)) (Es t W k s (.val (.str m)) (.val (.str a))) = .ok (parD (some (s, m))) := tup_ok (a2_ok rfl rfl) (show 2 ≤ 100000 by decide)
      refine (putD_ok (k := .inr a) (ks := kD W) (xs := xD W) rfl e rfl rfl (by rw [len_k]; omega)).trans ?_
      rw [dkeys_new c]
      rfl
    refine (seq_nx h3).trans ?_
    refine (app_ok (xs := wD W) (d := .str a) rfl rfl (by rw [len_w]; omega)).trans ?_
    rw [wD_app W a (some (s, m))]
    rfl
theorem visit_len (s : Str) (W : List Ent) (p : Str × Str) : (visit s W p).length ≤ W.length + 1 := by
  unfold visit
  split
  · omega
  · rw [List.length_append]; exact Nat.le_refl _
theorem visit_ext (s : Str) (W : List Ent) (p : Str × Str) : ∃ N, visit s W p = W ++ N := by
  unfold visit
  split
  · exact ⟨[], by simp⟩
  · exact ⟨_, rfl⟩
theorem forR_cons {g : MG} {b : MS} {d : D} {ds : List D} {ρ ρ1 ρ2 : Rho} (h : g d ρ = some ρ1) (h2 : b ρ1 = some (.nx ρ2)) : forR g b (d :: ds) ρ = forR g b ds ρ2 := by
  show (match g d ρ with
    | none => none
    | some ρ1 => match b ρ1 with
      | some (.nx ρ') => forR g b ds ρ'
      | some (.ct ρ') => forR g b ds ρ'
      | some (.bk ρ') => some (.nx ρ')
      | o => o) = _
  rw [h]
  simp only [h2]
theorem forR_stop {g : MG} {b : MS} {d : D} {ds xs : List D} {ρ ρ1 : Rho} (h : g d ρ = some ρ1) (h2 : b ρ1 = some (.rf xs)) : forR g b (d :: ds) ρ = some (.rf xs) := by
  show (match g d ρ with
    | none => none
    | some ρ1 => match b ρ1 with
      | some (.nx ρ') => forR g b ds ρ'
      | some (.ct ρ') => forR g b ds ρ'
      | some (.bk ρ') => some (.nx ρ')
      | o => o) = _
  rw [h]
  simp only [h2]
theorem sc_loop (t : D) (k : Nat) (s : Str) : ∀ (A : List (Str × Str)) (W W' : List Ent) (y5 y6 : Sl), scan bad s A W = (W', none) → W.length + A.length < 50000 → W'.length ≤ W.length + A.length ∧ ∃ y5' y6', forR (gPair 5 6) scB (A.map pD) (Es t W k s y5 y6) = some (.nx (Es t W' k s y5' y6'))
  | [], W, W', y5, y6, h, _ => by
    cases h
    exact ⟨Nat.le_refl _, y5, y6, rfl⟩
  | (m, a) :: A, W, W', y5, y6, h, hl => by
    have h : (if a = bad then (W, some m) else scan bad s A (visit s W (m, a))) = (W', none) := h
    rw [List.length_cons] at hl
    by_cases c : a = bad
    · rw [if_pos c] at h
      cases h
    · rw [if_neg c] at h
      have hv := visit_len s W (m, a)
      obtain ⟨l, y5', y6', e⟩ := sc_loop t k s A (visit s W (m, a)) W' (.val (.str m)) (.val (.str a)) h (by omega)
      refine ⟨by rw [List.length_cons]; omega, y5', y6', ?_⟩
      exact (forR_cons rfl (sc_turn t W k s m a (by omega) c)).trans e
theorem sc_hit (t : D) (k : Nat) (s : Str) {ms : List Str} (hms : ms.length < 20000) {m0 : Str} : ∀ (A : List (Str × Str)) (W W' : List Ent) (y5 y6 : Sl), scan bad s A W = (W', some m0) → Chain W s ms → W.length + A.length < 50000 → forR (gPair 5 6) scB (A.map pD) (Es t W k s y5 y6) = some (.rf ((ms ++ [m0]).map D.str))
  | [], W, W', y5, y6, h, _, _ => by cases h
  | (m, a) :: A, W, W', y5, y6, h, hc, hl => by
    have h : (if a = bad then (W, some m) else scan bad s A (visit s W (m, a))) = (W', some m0) := h
    rw [List.length_cons] at hl
    by_cases c : a = bad
    · rw [if_pos c] at h
      have q2 := Option.some.inj (Prod.mk.inj h).2
      subst q2
      refine forR_stop (ρ1 := Es t W k s (.val (.str m)) (.val (.str a))) rfl ?_
      unfold scB
      have h1 : bTest (e2 oEq (eVar 6) (eC (.str "bad"))) (Es t W k s (.val (.str m)) (.val (.str a))) = .ok true := (eq_ok rfl rfl).trans (by rw [decide_eq_true c])
      have h2 : (sFrz 1 (sRetL (e2L oAddL (eFz (lCall (fun ds => noX (m_way_back ds)) (aCons (eVar 1) (aCons (eVar 4) aNil)))) (eFz (lLst (aCons (eVar 5) aNil)))))) (Es t W k s (.val (.str m)) (.val (.str a))) = some (.rf ((ms ++ [m]).map D.str)) := by
        show (sRetL (e2L oAddL (eFz (lCall (fun ds => noX (m_way_back ds)) (aCons (eVar 1) (aCons (eVar 4) aNil)))) (eFz (lLst (aCons (eVar 5) aNil))))) [.val t, .val (.dic false (kD W) (xD W)), .own (wD W), .val (.int k), .val (.str s), .val (.str m), .val (.str a)] = _
        refine retL_ok ?_
        unfold e2L
        rw [fz2 (a2_ok rfl rfl) (way_ok hc (by omega)), R.bind_ok, fz_ok (lst_ok (a1_ok rfl) (show 1 ≤ 100000 by decide)), R.bind_ok, List.map_append]
        show ro (if (ms.map D.str).length + 1 ≤ 100000 then some (ms.map D.str ++ [.str m]) else none) = _
        rw [if_pos (by rw [List.length_map]; omega)]
        rfl
      unfold sSeq
      rw [if_yes h1, h2]
    · rw [if_neg c] at h
      have hv := visit_len s W (m, a)
      obtain ⟨N, hN⟩ := visit_ext s W (m, a)
      refine (forR_cons rfl (sc_turn t W k s m a (by omega) c)).trans ?_
      exact sc_hit t k s hms A (visit s W (m, a)) W' _ _ h (by rw [hN]; exact hc.grow) (by omega)
def scO : MS := (sSeq (sSet 4 (eIxO 2 (eVar 3)))
  (sSeq (sSet 3 (e2 oAdd (eVar 3) (eC (.int 1))))
  (sFor (Xd.iSeq (eFz (lMeth 20 "moves" m_Table_moves (eVar 0) (aCons (eVar 4) aNil)))) (gPair 5 6) scB)))
abbrev scT : Rho → R Bool := (bView (bTest (e2 oLt (eVar 3) (eCB cLen (aCons (eVar 2) aNil)))))
abbrev Eo (t : D) (W : List Ent) (k : Nat) (y4 y5 y6 : Sl) : Rho := [.val t, .dct false (kD W) (xD W), .own (wD W), .val (.int k), y4, y5, y6]
theorem meth_fz (first : Str) (rows : List (Str × Str × Str)) {ρ : Rho} {s : Str} {f : Rho → R D} (h0 : eVar 0 ρ = .ok (tb first rows)) (h : f ρ = .ok (.str s)) : Xd.iSeq (eFz (lMeth 20 "moves" m_Table_moves (eVar 0) (aCons f aNil))) ρ = .ok ((mv rows s).map pD) := by
  refine seq_val (fz_ok ?_)
  unfold lMeth
  rw [h0]
  have hn : 20 = 20 ∧ ("moves" : Str) ∉ (["first", "pairs"] : List Str) := ⟨rfl, by decide⟩
  show (if 20 = 20 ∧ ("moves" : Str) ∉ (["first", "pairs"] : List Str) then (aCons f aNil ρ).bind fun ds => noX (m_Table_moves (tb first rows :: ds)) else R.bad) = _
  rw [if_pos hn, a1_ok h, R.bind_ok]
  exact noX_of (moves_ok first rows s)
theorem sc_test (t : D) (W : List Ent) (k : Nat) (y4 y5 y6 : Sl) (hv : ∃ a b c, vw (Eo t W k y4 y5 y6) = [.val t, a, .val (.lst (wD W)), .val (.int k), b, c, vwS y6] := ⟨_, _, _, rfl⟩) : scT (Eo t W k y4 y5 y6) = .ok (decide (k < W.length)) := by
  obtain ⟨a, b, c, hv⟩ := hv
  unfold scT bView
  rw [hv]
  refine noX_of (test_ok (op_ok rfl (d := .bl (decide ((k : Int) < ((wD W).length : Nat)))) rfl rfl) |>.trans ?_)
  rw [len_w]
  congr 1
  exact decide_eq_decide.mpr ⟨fun h => by omega, fun h => by omega⟩
theorem mv_len (rows : List (Str × Str × Str)) (s : Str) : (mv rows s).length ≤ rows.length := by
  unfold mv
  rw [List.length_map]
  exact List.length_filter_le _ _
def outE (t : D) (r : Option (List Str)) (o : Option O) : Prop := match r with
  | none => ∃ W k y4 y5 y6, o = some (.nx (Eo t W k y4 y5 y6))
  | some ms => o = some (.rf (ms.map D.str))
theorem scO_pre (first : Str) (rows : List (Str × Str × Str)) {W : List Ent} {k : Nat} {e : Ent} (he : W[k]? = some e) (y4 y5 y6 : Sl) : scO (Eo (tb first rows) W k y4 y5 y6) = forR (gPair 5 6) scB ((mv rows e.1).map pD) (Es (tb first rows) W (k + 1) e.1 y5 y6) := by
  unfold scO
  have kW : k < W.length := (List.getElem?_eq_some_iff.mp he).1
  have h1 : eIxO 2 (eVar 3) (Eo (tb first rows) W k y4 y5 y6) = .ok (.str e.1) := by
    show ro (atI (wD W) (k : Nat)) = _
    have kl : k < (wD W).length := by rw [len_w]; exact kW
    have : (wD W)[k]? = some (.str e.1) := by
      unfold wD keysW
      rw [List.getElem?_map, List.getElem?_map, he]
      rfl
    rw [List.getElem?_eq_getElem kl] at this
    rw [at_ok kl, Option.some.inj this]
    rfl
  refine (seq_nx (set_ok h1)).trans ?_
  refine (seq_nx (set_ok (d := .int ((k + 1 : Nat) : Int)) rfl)).trans ?_
  exact for_ok (meth_fz first rows rfl rfl)
theorem run_loop (first : Str) {rows : List (Str × Str × Str)} (hr : rows.length ≤ 1000) {f : Nat} {W : List Ent} {k : Nat} {r : Option (List Str)} (h : Run rows bad f W k r) : ∀ (n : Nat) (y4 y5 y6 : Sl), f < n → k + f ≤ 20 → W.length + (f + 1) * 1000 ≤ 49000 → outE (tb first rows) r (whR scT scO n (Eo (tb first rows) W k y4 y5 y6)) := by
  induction h with
  | @stop W k hk =>
    intro n y4 y5 y6 hn _ _
    cases n with
    | zero => omega
    | succ n =>
      refine ⟨W, k, y4, y5, y6, ?_⟩
      unfold whR
      rw [sc_test, decide_eq_false (by omega)]
      simp [lift]
  | @go f W W' k e r ms he hc hs hrun ih =>
    intro n y4 y5 y6 hn hk hl
    cases n with
    | zero => omega
    | succ n =>
      have kW : k < W.length := (List.getElem?_eq_some_iff.mp he).1
      have ml := mv_len rows e.1
      have e1 : (f + 1 + 1) * 1000 = (f + 1) * 1000 + 1000 := by omega
      obtain ⟨l, y5', y6', q⟩ := sc_loop (tb first rows) (k + 1) e.1 (mv rows e.1) W W' y5 y6 hs (by omega)
      unfold whR
      rw [sc_test, decide_eq_true kW]
      simp only [lift, if_true]
      rw [scO_pre first rows he, q]
      exact ih n (.val (.str e.1)) y5' y6' (by omega) (by omega) (by omega)
  | @hit W W' k e m ms he hkl hc hs =>
    intro n y4 y5 y6 hn hk hl
    cases n with
    | zero => omega
    | succ n =>
      have kW : k < W.length := (List.getElem?_eq_some_iff.mp he).1
      have ml := mv_len rows e.1
      have q := sc_hit (tb first rows) (k + 1) e.1 (ms := ms) (by omega) (mv rows e.1) W W' y5 y6 hs hc (by omega)
      unfold whR
      rw [sc_test, decide_eq_true kW]
      simp only [lift, if_true]
      rw [scO_pre first rows he, q]
      rfl
def resM : Option (List Str) → Mx
  | none => .v .non
  | some ms => .l (ms.map D.str)
theorem meth_start (first : Str) (rows : List (Str × Str × Str)) {ρ : Rho} (h0 : eVar 0 ρ = .ok (tb first rows)) : eMeth 20 "start" m_Table_start (eVar 0) aNil ρ = .ok (.str first) := by
  unfold eMeth
  rw [h0]
  have hn : 20 = 20 ∧ ("start" : Str) ∉ (["first", "pairs"] : List Str) := ⟨rfl, by decide⟩
  show (if 20 = 20 ∧ ("start" : Str) ∉ (["first", "pairs"] : List Str) then (aNil ρ).bind fun ds => noX (m_Table_start (tb first rows :: ds)) else R.bad) = _
  rw [if_pos hn]
  exact noX_of (start_ok first rows)
theorem scen_ok (first : Str) {rows : List (Str × Str × Str)} {U : List Str} (hr : rows.length ≤ 1000) (hU : ∀ r ∈ rows, r.2.2 ∈ U ∨ r.2.2 = bad) (hb : first ∈ U) (hnb : first ≠ bad) (hu : U.length ≤ 14) :
    ∃ r, m_Table_scenario [tb first rows] = .ok (resM r) ∧ best rows bad first r := by
  obtain ⟨f, r, hf, hrun, hbest⟩ := run_start (rows := rows) (bad := bad) hU hb hnb
  refine ⟨r, ?_, hbest⟩
  have key := run_loop first hr hrun 100000 .un .un .un (by omega) (by omega) (by simp; omega)
  have pre : g_Table_scenario [.val (tb first rows), .un, .un, .un, .un, .un, .un] = (sSeq (sWhile 100000 scT scO) (sRet (eC .non))) (Eo (tb first rows) [(first, none)] 0 .un .un .un) := by
    unfold g_Table_scenario
    have h1 : sDct1 1 (eMeth 20 "start" m_Table_start (eVar 0) aNil) (eC .non) [.val (tb first rows), .un, .un, .un, .un, .un, .un] = some (.nx [.val (tb first rows), .dct false [.str first] [.non], .un, .un, .un, .un, .un]) := by
      unfold sDct1
      rw [meth_start first rows rfl]
      rfl
    refine (seq_nx h1).trans ?_
    refine (seq_nx (setL_ok (lst_ok (a1_ok (meth_start first rows rfl)) (show 1 ≤ 100000 by decide)))).trans ?_
    exact seq_nx (set_ok (d := .int 0) rfl)
  unfold m_Table_scenario
  refine noX_of ?_
  unfold runM
  rw [if_pos (show ([tb first rows] : List D).length = 1 from rfl)]
  show outM (g_Table_scenario [.val (tb first rows), .un, .un, .un, .un, .un, .un]) = _
  rw [pre]
  cases r with
  | none =>
    obtain ⟨W, k, y4, y5, y6, e⟩ := key
    rw [seq_nx (show sWhile 100000 scT scO _ = _ from e)]
    rfl
  | some ms =>
    unfold sSeq
    rw [show sWhile 100000 scT scO _ = _ from key]
    rfl
end P44
/-! the states that are reached -/
namespace P44
open PySem L2 Xg Xd CwR Bfs
def vS (W : List Str) (p : Str × Str) : List Str := if p.2 ≠ bad ∧ p.2 ∉ W then W ++ [p.2] else W
def stp (rows : List (Str × Str × Str)) (W : List Str) (k : Nat) : List Str := match W[k]? with
  | some s => (mv rows s).foldl vS W
  | none => W
def rS (rows : List (Str × Str × Str)) (first : Str) : Nat → List Str
  | 0 => [first]
  | j + 1 => stp rows (rS rows first j) j
theorem vS_len (W : List Str) (p : Str × Str) : (vS W p).length ≤ W.length + 1 := by
  unfold vS
  split
  · rw [List.length_append]; exact Nat.le_refl _
  · omega
abbrev sD (W : List Str) : List D := W.map D.str
abbrev tD (W : List Str) : List D := W.map fun _ => D.bl true
theorem sD_app (W : List Str) (a : Str) : sD W ++ [.str a] = sD (W ++ [a]) := by
  unfold sD
  rw [List.map_append]
  rfl
theorem isSome_S (s : Str) : ∀ W : List Str, (dFind (sD W) (tD W) (.inr s)).isSome = decide (s ∈ W)
  | [] => by simp [dFind]
  | e :: W => by
    have ih := isSome_S s W
    unfold dFind at *
    show (Option.map _ (List.find? _ ((D.str e :: sD W).zip (D.bl true :: tD W)))).isSome = _
    rw [List.zip_cons_cons, List.find?_cons]
    by_cases c : e = s
    · have : decide (keyOf (D.str e) = some (.inr s)) = true := by rw [c]; exact decide_eq_true rfl
      rw [this]
      exact (decide_eq_true (by rw [c]; exact List.mem_cons_self)).symm
    · have : decide (keyOf (D.str e) = some (.inr s)) = false := decide_eq_false fun h => c (by injection h with h; injection h)
      rw [this]
      refine ih.trans (decide_eq_decide.mpr ⟨List.mem_cons_of_mem _, fun h => ?_⟩)
      rcases List.mem_cons.mp h with h | h
      · exact absurd h.symm c
      · exact h
theorem dkeys_S {W : List Str} {a : Str} (h : a ∉ W) : dKeys (sD W) (tD W) (.inr a) (.bl true) = (sD (W ++ [a]), tD (W ++ [a])) := by
  unfold dKeys
  have : ¬ ((sD W).any fun d => decide (keyOf d = some (.inr a))) = true := fun k => by
    obtain ⟨d, hd, q⟩ := List.any_eq_true.mp k
    obtain ⟨e, he, rfl⟩ := List.mem_map.mp hd
    have q := of_decide_eq_true q
    injection q with q
    injection q with q
    exact h (by rw [← q]; exact he)
  rw [if_neg this]
  unfold sD tD
  rw [List.map_append, List.map_append]
  rfl
def stB : MS := (sIf (bAnd (bTest (e2 oNe (eVar 5) (eC (.str "bad")))) (bTest (eNotInO 1 (eVar 5))))
    (sSeq (sPutD 1 (eC (.bl true)) (eVar 5))
  (sApp 2 (eVar 5)))
    sNext)
abbrev Et (t : D) (W : List Str) (k : Nat) (y4 y5 : Sl) : Rho := [.val t, .dct false (sD W) (tD W), .own (sD W), .val (.int k), y4, y5]
theorem ne_ok {f g : Rho → R D} {ρ : Rho} {x y : Str} (h : f ρ = .ok (.str x)) (h2 : g ρ = .ok (.str y)) : bTest (e2 oNe f g) ρ = .ok (!decide (x = y)) := test_ok (op_ok h h2 (oNe_str _ _))
theorem bAnd_ok {f g : Rho → R Bool} {ρ : Rho} {a b : Bool} (h : f ρ = .ok a) (h2 : g ρ = .ok b) : bAnd f g ρ = .ok (a && b) := by
  cases a
  · exact and_no h
  · exact and_yes h h2
theorem st_turn (t : D) (W : List Str) (k : Nat) (m a : Str) (hl : W.length < 50000) : stB (Et t W k (.val (.str m)) (.val (.str a))) = some (.nx (Et t (vS W (m, a)) k (.val (.str m)) (.val (.str a)))) := by
  unfold stB
  have h2 : bTest (eNotInO 1 (eVar 5)) (Et t W k (.val (.str m)) (.val (.str a))) = .ok (!decide (a ∈ W)) := by
    refine test_ok ?_
    show ro (some (D.bl (!(dFind (sD W) (tD W) (.inr a)).isSome))) = _
    rw [isSome_S]
    rfl
  have h1 := bAnd_ok (ne_ok (ρ := Et t W k (.val (.str m)) (.val (.str a))) (f := eVar 5) (g := eC (.str "bad")) (x := a) (y := bad) rfl rfl) h2
  unfold vS
  by_cases c : a ≠ bad ∧ a ∉ W
  · rw [if_pos c]
    refine (if_yes (h1.trans (by rw [decide_eq_false c.1, decide_eq_false c.2]; rfl))).trans ?_
    refine (seq_nx (putD_ok (k := .inr a) (ks := sD W) (xs := tD W) (d := .bl true) rfl rfl rfl rfl (by rw [List.length_map]; omega))).trans ?_
    refine (app_ok (xs := sD W) (d := .str a) rfl rfl (by rw [List.length_map]; omega)).trans ?_
    rw [dkeys_S c.2]
    rw [sD_app]
    rfl
  · rw [if_neg c]
    refine (if_no (h1.trans ?_)).trans rfl
    congr 1
    by_cases c1 : a = bad
    · rw [decide_eq_true c1]; rfl
    · have c2 : a ∈ W := Classical.byContradiction fun k => c ⟨c1, k⟩
      rw [decide_eq_true c2]
      cases (decide (a = bad)) <;> rfl
theorem st_loop (t : D) (k : Nat) : ∀ (A : List (Str × Str)) (W : List Str) (y4 y5 : Sl), W.length + A.length < 50000 → ∃ y4' y5', forR (gPair 4 5) stB (A.map pD) (Et t W k y4 y5) = some (.nx (Et t (A.foldl vS W) k y4' y5'))
  | [], W, y4, y5, _ => ⟨y4, y5, rfl⟩
  | (m, a) :: A, W, y4, y5, hl => by
    rw [List.length_cons] at hl
    have hv := vS_len W (m, a)
    obtain ⟨y4', y5', e⟩ := st_loop t k A (vS W (m, a)) (.val (.str m)) (.val (.str a)) (by omega)
    exact ⟨y4', y5', (forR_cons rfl (st_turn t W k m a (by omega))).trans e⟩
def stO : MS := (sSeq (sFor (Xd.iSeq (eFz (lMeth 20 "moves" m_Table_moves (eVar 0) (aCons (eIxO 2 (eVar 3)) aNil)))) (gPair 4 5) stB)
  (sSet 3 (e2 oAdd (eVar 3) (eC (.int 1)))))
theorem ix_S {W : List Str} {k : Nat} {s : Str} (h : W[k]? = some s) : atI (sD W) ((k : Nat) : Int) = some (.str s) := by
  have kW : k < W.length := (List.getElem?_eq_some_iff.mp h).1
  have kl : k < (sD W).length := by rw [List.length_map]; exact kW
  rw [at_ok kl, List.getElem_map]
  rw [List.getElem?_eq_getElem kW] at h
  rw [Option.some.inj h]
theorem st_test (t : D) (W : List Str) (k : Nat) (y4 y5 : Sl) : scT (Et t W k y4 y5) = .ok (decide (k < W.length)) := by
  unfold scT bView
  show noX (bTest (e2 oLt (eVar 3) (eCB cLen (aCons (eVar 2) aNil))) [.val t, vwS (.dct false (sD W) (tD W)), .val (.lst (sD W)), .val (.int k), vwS y4, vwS y5]) = _
  refine noX_of (test_ok (op_ok rfl (d := .bl (decide ((k : Int) < ((sD W).length : Nat)))) rfl rfl) |>.trans ?_)
  rw [List.length_map]
  congr 1
  exact decide_eq_decide.mpr ⟨fun h => by omega, fun h => by omega⟩
/-! bounds -/
section
variable {rows : List (Str × Str × Str)} {U : List Str} {first : Str}
structure Wk (U W : List Str) : Prop where
  nd : W.Nodup
  sub : ∀ x ∈ W, x ∈ U
theorem Wk.fold (hU : ∀ r ∈ rows, r.2.2 ∈ U ∨ r.2.2 = bad) (s : Str) : ∀ (A : List (Str × Str)) (W : List Str), (∀ p ∈ A, p ∈ mv rows s) → Wk U W → Wk U (A.foldl vS W)
  | [], W, _, h => h
  | p :: A, W, hA, h => by
    refine Wk.fold hU s A (vS W p) (fun q hq => hA q (List.mem_cons_of_mem _ hq)) ?_
    unfold vS
    split
    · rename_i c
      refine ⟨?_, fun x hx => ?_⟩
      · rw [List.nodup_append]
        refine ⟨h.nd, by simp, fun a ha b hb => ?_⟩
        have : b = p.2 := by simpa using hb
        rw [this]
        intro e
        rw [e] at ha
        exact c.2 ha
      · rcases List.mem_append.mp hx with hx | hx
        · exact h.sub x hx
        · have : x = p.2 := by simpa using hx
          rw [this]
          have := (mem_mv rows).mp (show (p.1, p.2) ∈ mv rows s from hA p List.mem_cons_self)
          rcases hU _ this with k | k
          · exact k
          · exact absurd k c.1
    · exact h
theorem rS_wk (hU : ∀ r ∈ rows, r.2.2 ∈ U ∨ r.2.2 = bad) (hb : first ∈ U) : ∀ j, Wk U (rS rows first j)
  | 0 => ⟨by simp [rS], fun x hx => by
      have : x = first := by simpa [rS] using hx
      rw [this]; exact hb⟩
  | j + 1 => by
    have ih := rS_wk hU hb j
    show Wk U (stp rows (rS rows first j) j)
    unfold stp
    split
    · exact Wk.fold hU _ _ _ (fun p hp => hp) ih
    · exact ih
theorem Wk.len {W : List Str} (h : Wk U W) : W.length ≤ U.length := nodup_len U W h.nd h.sub
theorem rS_stop {j : Nat} (h : (rS rows first j).length ≤ j) : ∀ d, rS rows first (j + d) = rS rows first j ∧ (rS rows first (j + d)).length ≤ j + d
  | 0 => ⟨rfl, h⟩
  | d + 1 => by
    obtain ⟨e, l⟩ := rS_stop h d
    have : rS rows first (j + d + 1) = rS rows first (j + d) := by
      show stp rows (rS rows first (j + d)) (j + d) = _
      unfold stp
      rw [List.getElem?_eq_none l]
    exact ⟨this.trans e, by rw [← Nat.add_assoc, this]; omega⟩
/-- the table's own walk -/
theorem st_walk (hr : rows.length ≤ 1000) (hU : ∀ r ∈ rows, r.2.2 ∈ U ∨ r.2.2 = bad) (hb : first ∈ U) (hu : U.length ≤ 14) : ∀ (n j : Nat) (y4 y5 : Sl), j ≤ 14 → 14 < n + j → ∃ k y4' y5', whR scT stO n (Et (tb first rows) (rS rows first j) j y4 y5) = some (.nx (Et (tb first rows) (rS rows first 14) k y4' y5'))
  | 0, j, y4, y5, h1, h2 => by omega
  | n + 1, j, y4, y5, h1, h2 => by
    have wl := (rS_wk hU hb j).len
    unfold whR
    rw [st_test]
    by_cases c : j < (rS rows first j).length
    · rw [decide_eq_true c]
      simp only [lift, if_true]
      obtain ⟨s, hs⟩ : ∃ s, (rS rows first j)[j]? = some s := ⟨_, List.getElem?_eq_getElem c⟩
      have ml := mv_len rows s
      obtain ⟨z4, z5, e⟩ := st_loop (tb first rows) j (mv rows s) (rS rows first j) y4 y5 (by omega)
      have es : (mv rows s).foldl vS (rS rows first j) = rS rows first (j + 1) := by
        show _ = stp rows (rS rows first j) j
        unfold stp
        rw [hs]
      rw [es] at e
      have hO : stO (Et (tb first rows) (rS rows first j) j y4 y5) = some (.nx (Et (tb first rows) (rS rows first (j + 1)) (j + 1) z4 z5)) := by
        unfold stO
        have h0 : eIxO 2 (eVar 3) (Et (tb first rows) (rS rows first j) j y4 y5) = .ok (.str s) := by
          show ro (atI (sD (rS rows first j)) (j : Nat)) = _
          rw [ix_S hs]
          rfl
        refine (seq_nx ((for_ok (meth_fz first rows rfl h0)).trans e)).trans ?_
        exact set_ok (d := .int ((j + 1 : Nat) : Int)) rfl
      rw [hO]
      exact st_walk hr hU hb hu n (j + 1) z4 z5 (by omega) (by omega)
    · rw [decide_eq_false c]
      simp only [lift]
      have := (rS_stop (rows := rows) (first := first) (j := j) (by omega) (14 - j)).1
      rw [show j + (14 - j) = 14 by omega] at this
      rw [← this]
      exact ⟨j, y4, y5, rfl⟩
theorem states_ok (hr : rows.length ≤ 1000) (hU : ∀ r ∈ rows, r.2.2 ∈ U ∨ r.2.2 = bad) (hb : first ∈ U) (hu : U.length ≤ 14) : m_Table_states [tb first rows] = .ok (sD (rS rows first 14)) := by
  refine noX_of (runL_rf rfl ?_)
  show g_Table_states [.val (tb first rows), .un, .un, .un, .un, .un] = _
  unfold g_Table_states
  have h1 : sDct1 1 (eMeth 20 "start" m_Table_start (eVar 0) aNil) (eC (.bl true)) [.val (tb first rows), .un, .un, .un, .un, .un] = some (.nx [.val (tb first rows), .dct false [.str first] [.bl true], .un, .un, .un, .un]) := by
    unfold sDct1
    rw [meth_start first rows rfl]
    rfl
  refine (seq_nx h1).trans ?_
  refine (seq_nx (setL_ok (lst_ok (a1_ok (meth_start first rows rfl)) (show 1 ≤ 100000 by decide)))).trans ?_
  refine (seq_nx (set_ok (d := .int 0) rfl)).trans ?_
  obtain ⟨k, y4, y5, e⟩ := st_walk hr hU hb hu 100000 0 .un .un (by omega) (by omega)
  refine (seq_nx (show sWhile 100000 scT stO (Et (tb first rows) (rS rows first 0) 0 .un .un) = _ from e)).trans ?_
  exact retO_ok rfl
end
/-! the law's walk -/
section
variable {rows : List (Str × Str × Str)} {U : List Str} {first : Str}
def reB : MS := (sIf (bView (bAnd (bTest (e2 oNe (e2 oIx (eVar 4) (eC (.int 1))) (eC (.str "bad")))) (bTest (e2 oNotIn (e2 oIx (eVar 4) (eC (.int 1))) (eVar 2)))))
    (sApp 2 (e2 oIx (eVar 4) (eC (.int 1))))
    sNext)
abbrev Er (L : D) (first : Str) (W : List Str) (y3 y4 : Sl) : Rho := [.val L, .val (.str first), .own (sD W), y3, y4]
theorem re_loop (L : D) (first : Str) (k : Nat) : ∀ (A : List (Str × Str)) (W : List Str) (y4 : Sl), W.length + A.length < 50000 → ∃ y4', forR (gN 4) reB (A.map pD) (Er L first W (.val (.int k)) y4) = some (.nx (Er L first (A.foldl vS W) (.val (.int k)) y4'))
  | [], W, y4, _ => ⟨y4, rfl⟩
  | (m, a) :: A, W, y4, hl => by
    rw [List.length_cons] at hl
    have hv := vS_len W (m, a)
    obtain ⟨y4', e⟩ := re_loop L first k A (vS W (m, a)) (.val (pD (m, a))) (by omega)
    refine ⟨y4', (forR_cons (ρ1 := Er L first W (.val (.int k)) (.val (pD (m, a)))) rfl ?_).trans e⟩
    unfold reB
    have h1 : bView (bAnd (bTest (e2 oNe (e2 oIx (eVar 4) (eC (.int 1))) (eC (.str "bad")))) (bTest (e2 oNotIn (e2 oIx (eVar 4) (eC (.int 1))) (eVar 2)))) (Er L first W (.val (.int k)) (.val (pD (m, a)))) = .ok (!decide (a = bad) && !decide (a ∈ W)) := by
      show noX (bAnd (bTest (e2 oNe (e2 oIx (eVar 4) (eC (.int 1))) (eC (.str "bad")))) (bTest (e2 oNotIn (e2 oIx (eVar 4) (eC (.int 1))) (eVar 2))) [.val L, .val (.str first), .val (.lst (sD W)), .val (.int k), .val (pD (m, a))]) = _
      exact noX_of (bAnd_ok (ne_ok rfl rfl) (test_ok (op_ok (a := .str a) rfl rfl (oNotIn_strs a W))))
    unfold vS
    by_cases c : a ≠ bad ∧ a ∉ W
    · rw [if_pos c]
      refine (if_yes (h1.trans (by rw [decide_eq_false c.1, decide_eq_false c.2]; rfl))).trans ?_
      refine (app_ok (xs := sD W) (d := .str a) rfl rfl (by rw [List.length_map]; omega)).trans ?_
      rw [sD_app]
      rfl
    · rw [if_neg c]
      refine (if_no (h1.trans ?_)).trans rfl
      congr 1
      by_cases c1 : a = bad
      · rw [decide_eq_true c1]; rfl
      · have c2 : a ∈ W := Classical.byContradiction fun k => c ⟨c1, k⟩
        rw [decide_eq_true c2]
        cases (decide (a = bad)) <;> rfl
def reO : MS := (sIf (bView (bTest (e2 oLt (eVar 3) (eCB cLen (aCons (eVar 2) aNil)))))
    (sFor (Xd.iSeq (eFz (lCall (fun ds => noX (m__law_of ds)) (aCons (eVar 0) (aCons (eIxO 2 (eVar 3)) aNil))))) (gN 4) reB)
    sNext)
theorem reached_ok (hr : rows.length ≤ 1000) (hU : ∀ r ∈ rows, r.2.2 ∈ U ∨ r.2.2 = bad) (hb : first ∈ U) (hu : U.length ≤ 14) : m__law_reached [.lst (rows.map rwD), .str first] = .ok (sD (rS rows first 14)) := by
  refine noX_of (runL_rf rfl ?_)
  show g__law_reached [.val (.lst (rows.map rwD)), .val (.str first), .un, .un, .un] = _
  unfold g__law_reached
  refine (seq_nx (setL_ok (lst_ok (a1_ok rfl) (show 1 ≤ 100000 by decide)))).trans ?_
  have loop := forR_range (g := gN 3) (b := reO) (n := 14) (ρ := Er (.lst (rows.map rwD)) first (rS rows first 0) .un .un) (fun j ρ => ∃ y3 y4, ρ = Er (.lst (rows.map rwD)) first (rS rows first j) y3 y4) ?_ ⟨_, _, rfl⟩
  · obtain ⟨ρ', e, y3, y4, rfl⟩ := loop
    refine (seq_nx ((for_ok (r1_ok (n := 14) rfl (by decide))).trans e)).trans ?_
    exact retO_ok rfl
  · rintro j ρ hj ⟨y3, y4, rfl⟩
    have wl := (rS_wk hU hb j).len
    have ht : bView (bTest (e2 oLt (eVar 3) (eCB cLen (aCons (eVar 2) aNil)))) (Er (.lst (rows.map rwD)) first (rS rows first j) (.val (.int j)) y4) = .ok (decide (j < (rS rows first j).length)) := by
      show noX (bTest (e2 oLt (eVar 3) (eCB cLen (aCons (eVar 2) aNil))) [.val (.lst (rows.map rwD)), .val (.str first), .val (.lst (sD (rS rows first j))), .val (.int j), vwS y4]) = _
      refine noX_of (test_ok (op_ok rfl (d := .bl (decide ((j : Int) < ((sD (rS rows first j)).length : Nat)))) rfl rfl) |>.trans ?_)
      rw [List.length_map]
      congr 1
      exact decide_eq_decide.mpr ⟨fun h => by omega, fun h => by omega⟩
    by_cases c : j < (rS rows first j).length
    · obtain ⟨s, hs⟩ : ∃ s, (rS rows first j)[j]? = some s := ⟨_, List.getElem?_eq_getElem c⟩
      have ml := mv_len rows s
      obtain ⟨z4, e⟩ := re_loop (.lst (rows.map rwD)) first j (mv rows s) (rS rows first j) y4 (by omega)
      have es : (mv rows s).foldl vS (rS rows first j) = rS rows first (j + 1) := by
        show _ = stp rows (rS rows first j) j
        unfold stp
        rw [hs]
      rw [es] at e
      refine ⟨Er (.lst (rows.map rwD)) first (rS rows first j) (.val (.int j)) y4, Er (.lst (rows.map rwD)) first (rS rows first (j + 1)) (.val (.int j)) z4, rfl, ?_, _, _, rfl⟩
      unfold reO
      refine (if_yes (ht.trans (by rw [decide_eq_true c]))).trans ?_
      have h0 : eIxO 2 (eVar 3) (Er (.lst (rows.map rwD)) first (rS rows first j) (.val (.int j)) y4) = .ok (.str s) := by
        show ro (atI (sD (rS rows first j)) (j : Nat)) = _
        rw [ix_S hs]
        rfl
      exact (for_ok (seq_val (fz2 (a2_ok rfl h0) (of_ok rows hr s)))).trans e
    · refine ⟨Er (.lst (rows.map rwD)) first (rS rows first j) (.val (.int j)) y4, Er (.lst (rows.map rwD)) first (rS rows first (j + 1)) (.val (.int j)) y4, rfl, ?_, _, _, rfl⟩
      unfold reO
      have : rS rows first (j + 1) = rS rows first j := (rS_stop (rows := rows) (first := first) (j := j) (by omega) 1).1
      rw [this]
      exact (if_no (ht.trans (by rw [decide_eq_false c]))).trans rfl
end
end P44
/-! how far it is, and the moves due -/
namespace P44
open PySem L2 Xg Xd CwR Bfs
theorem dfind_cons (q a : D) (ks xs : List D) (z : L2.Key) : dFind (q :: ks) (a :: xs) z = if keyOf q = some z then some a else dFind ks xs z := by
  unfold dFind
  rw [List.zip_cons_cons, List.find?_cons]
  by_cases c : keyOf q = some z
  · rw [if_pos c, decide_eq_true c]; rfl
  · rw [if_neg c, decide_eq_false c]
theorem dfind_none {z : L2.Key} : ∀ {ks xs : List D}, ¬ (ks.any fun d => decide (keyOf d = some z)) = true → dFind ks xs z = none
  | [], _, _ => rfl
  | q :: ks, [], _ => rfl
  | q :: ks, a :: xs, h => by
    rw [List.any_cons, Bool.or_eq_true] at h
    rw [dfind_cons, if_neg fun c => h (.inl (decide_eq_true c))]
    exact dfind_none fun c => h (.inr c)
theorem dfind_app {z k : L2.Key} {y : D} : ∀ {ks xs : List D}, ks.length = xs.length → dFind (ks ++ [keyD k]) (xs ++ [y]) z = (dFind ks xs z).or (if k = z then some y else none)
  | [], [], _ => by
    show dFind [keyD k] [y] z = _
    rw [dfind_cons, keyOf_keyD]
    by_cases c : k = z
    · rw [if_pos c, if_pos (congrArg some c)]; rfl
    · rw [if_neg c, if_neg fun e => c (Option.some.inj e)]; rfl
  | [], _ :: _, h => by cases h
  | _ :: _, [], h => by cases h
  | q :: ks, a :: xs, h => by
    show dFind (q :: (ks ++ [keyD k])) (a :: (xs ++ [y])) z = _
    rw [dfind_cons, dfind_cons]
    by_cases c : keyOf q = some z
    · rw [if_pos c, if_pos c]; rfl
    · rw [if_neg c, if_neg c]
      exact dfind_app (by simpa using h)
theorem dfind_map {z k : L2.Key} {y : D} : ∀ {ks xs : List D}, ks.length = xs.length → dFind ks ((ks.zip xs).map fun p : D × D => if Xd.keyOf p.1 = some k then y else p.2) z = if z = k then (if (ks.any fun d => decide (keyOf d = some k)) = true then some y else none) else dFind ks xs z
  | [], [], _ => by
    by_cases c : z = k
    · rw [if_pos c]; rfl
    · rw [if_neg c]; rfl
  | [], _ :: _, h => by cases h
  | _ :: _, [], h => by cases h
  | q :: ks, a :: xs, h => by
    rw [List.zip_cons_cons, List.map_cons, dfind_cons, dfind_cons, List.any_cons]
    have ih := dfind_map (z := z) (k := k) (y := y) (ks := ks) (xs := xs) (by simpa using h)
    by_cases c : z = k
    · subst c
      rw [if_pos rfl]
      by_cases c2 : keyOf q = some z
      · rw [if_pos c2, if_pos c2, decide_eq_true c2, Bool.true_or, if_pos rfl]
      · rw [if_neg c2, decide_eq_false c2, Bool.false_or]
        rw [if_pos rfl] at ih
        exact ih
    · rw [if_neg c]
      rw [if_neg c] at ih
      by_cases c2 : keyOf q = some z
      · rw [if_pos c2, if_pos c2, if_neg fun e => c (Option.some.inj (c2.symm.trans e))]
      · rw [if_neg c2, if_neg c2]
        exact ih
theorem dfind_put {ks xs : List D} (hl : ks.length = xs.length) (k z : L2.Key) (y : D) : dFind (dKeys ks xs k y).1 (dKeys ks xs k y).2 z = if z = k then some y else dFind ks xs z := by
  unfold dKeys
  by_cases c : (ks.any fun d => decide (keyOf d = some k)) = true
  · rw [if_pos c]
    show dFind ks _ z = _
    rw [dfind_map hl, if_pos c]
  · rw [if_neg c]
    show dFind (ks ++ [keyD k]) (xs ++ [y]) z = _
    rw [dfind_app hl]
    by_cases e : z = k
    · subst e
      rw [if_pos rfl, if_pos rfl, dfind_none c]
      rfl
    · rw [if_neg e, if_neg fun q => e q.symm, Option.or_none]
theorem dkeys_len {ks xs : List D} (hl : ks.length = xs.length) (k : L2.Key) (y : D) : (dKeys ks xs k y).1.length = (dKeys ks xs k y).2.length ∧ (dKeys ks xs k y).1.length ≤ ks.length + 1 := by
  unfold dKeys
  by_cases c : (ks.any fun d => decide (keyOf d = some k)) = true
  · rw [if_pos c]
    exact ⟨by rw [List.length_map, List.length_zip, ← hl, Nat.min_self], Nat.le_succ _⟩
  · rw [if_neg c]
    exact ⟨by rw [List.length_append, List.length_append, hl]; rfl, by rw [List.length_append]; exact Nat.le_refl _⟩
/-! ### far -/
variable {rows : List (Str × Str × Str)} {U : List Str} {first : Str}
abbrev fG (S : List D × List D) (x : Str) : Option D := dFind S.1 S.2 (.inr x)
structure FOk (rows : List (Str × Str × Str)) (S : List D × List D) : Prop where
  len : S.1.length = S.2.length
  snd : ∀ x d, fG S x = some d → ∃ v : Nat, d = .int (v : Nat) ∧ Rb rows bad v x = true
abbrev Ef (L : D) (S : List D × List D) (y2 y3 : Sl) : Rho := [.val L, .dct false S.1 S.2, y2, y3]
def faB : MS := (sIf (bAnd (bTest (eInO 1 (e2 oIx (eVar 3) (eC (.int 2))))) (bOr (bTest (eNotInO 1 (e2 oIx (eVar 3) (eC (.int 0))))) (bTest (e2 oGt (eGetO 1 (e2 oIx (eVar 3) (eC (.int 0)))) (e2 oAdd (eC (.int 1)) (eGetO 1 (e2 oIx (eVar 3) (eC (.int 2)))))))))
    (sPutD 1 (e2 oAdd (eC (.int 1)) (eGetO 1 (e2 oIx (eVar 3) (eC (.int 2))))) (e2 oIx (eVar 3) (eC (.int 0))))
    sNext)
def Le (S S' : List D × List D) (x y : Str) (e : Nat) : Prop := ∀ v : Nat, fG S x = some (.int (v : Nat)) → ∃ v' : Nat, v' ≤ v + e ∧ fG S' y = some (.int (v' : Nat))
theorem getO_ok {ρ : Rho} {i : Nat} {f : Rho → R D} {ks xs : List D} {x : Str} {d : D} (h : ρ[i]? = some (.dct false ks xs)) (h1 : f ρ = .ok (.str x)) (h2 : dFind ks xs (.inr x) = some d) : eGetO i f ρ = .ok d := by
  unfold eGetO
  rw [h]
  show (f ρ).bind _ = _
  rw [h1]
  show ro (dFind ks xs (.inr x)) = _
  rw [h2]
  rfl
theorem inO_ok {ρ : Rho} {i : Nat} {f : Rho → R D} {ks xs : List D} {x : Str} (h : ρ[i]? = some (.dct false ks xs)) (h1 : f ρ = .ok (.str x)) : eInO i f ρ = .ok (.bl (dFind ks xs (.inr x)).isSome) := by
  unfold eInO
  rw [h]
  show (f ρ).bind _ = _
  rw [h1]
  rfl
theorem ninO_ok {ρ : Rho} {i : Nat} {f : Rho → R D} {ks xs : List D} {x : Str} (h : ρ[i]? = some (.dct false ks xs)) (h1 : f ρ = .ok (.str x)) : eNotInO i f ρ = .ok (.bl (!(dFind ks xs (.inr x)).isSome)) := by
  unfold eNotInO
  rw [h]
  show (f ρ).bind _ = _
  rw [h1]
  rfl
theorem Le.refl0 (S : List D × List D) (x : Str) : Le S S x x 0 := fun v h => ⟨v, Nat.le_refl _, h⟩
theorem fa_turn (L : D) (y2 : Sl) {S : List D × List D} (h : FOk rows S) {s m a : Str} (hr : (s, m, a) ∈ rows) (hl : S.1.length < 50000) :
    ∃ S', faB (Ef L S y2 (.val (rwD (s, m, a)))) = some (.nx (Ef L S' y2 (.val (rwD (s, m, a))))) ∧ FOk rows S' ∧ S'.1.length ≤ S.1.length + 1 ∧ (∀ x, Le S S' x x 0) ∧ Le S S' a s 1 := by
  have i2 : e2 oIx (eVar 3) (eC (.int 2)) (Ef L S y2 (.val (rwD (s, m, a)))) = .ok (.str a) := rfl
  have i0 : e2 oIx (eVar 3) (eC (.int 0)) (Ef L S y2 (.val (rwD (s, m, a)))) = .ok (.str s) := rfl
  have t1 := test_ok (inO_ok (i := 1) (ks := S.1) (xs := S.2) (ρ := Ef L S y2 (.val (rwD (s, m, a)))) rfl i2)
  have t2 := test_ok (ninO_ok (i := 1) (ks := S.1) (xs := S.2) (ρ := Ef L S y2 (.val (rwD (s, m, a)))) rfl i0)
  unfold faB
  cases ha : fG S a with
  | none =>
    have ha' : dFind S.1 S.2 (.inr a) = none := ha
    refine ⟨S, (if_no (and_no (t1.trans (by rw [ha']; rfl)))).trans rfl, h, Nat.le_succ _, fun x => Le.refl0 S x, fun v e => ?_⟩
    rw [ha] at e
    cases e
  | some da =>
    have ha' : dFind S.1 S.2 (.inr a) = some da := ha
    obtain ⟨va, rfl, ra⟩ := h.snd a da ha
    have g2 : e2 oAdd (eC (.int 1)) (eGetO 1 (e2 oIx (eVar 3) (eC (.int 2)))) (Ef L S y2 (.val (rwD (s, m, a)))) = .ok (.int ((va + 1 : Nat) : Int)) := by
      refine op_ok rfl (getO_ok rfl i2 ha') ?_
      show some (D.int (1 + (va : Int))) = _
      rw [show (1 : Int) + (va : Int) = ((va + 1 : Nat) : Int) by omega]
    have t1' := t1.trans (by rw [ha']; rfl : _ = R.ok true)
    have rs : Rb rows bad (va + 1) s = true := (rb_succ rows bad).mpr ⟨m, a, hr, ra⟩
    have put : ∀ (hs : ∀ v : Nat, fG S s = some (.int (v : Nat)) → va + 1 ≤ v), ∃ S', sPutD 1 (e2 oAdd (eC (.int 1)) (eGetO 1 (e2 oIx (eVar 3) (eC (.int 2))))) (e2 oIx (eVar 3) (eC (.int 0))) (Ef L S y2 (.val (rwD (s, m, a)))) = some (.nx (Ef L S' y2 (.val (rwD (s, m, a))))) ∧ FOk rows S' ∧ S'.1.length ≤ S.1.length + 1 ∧ (∀ x, Le S S' x x 0) ∧ Le S S' a s 1 := fun hs => by
      refine ⟨dKeys S.1 S.2 (.inr s) (.int ((va + 1 : Nat) : Int)), putD_ok (k := .inr s) (ks := S.1) (xs := S.2) rfl g2 i0 rfl (by omega), ⟨(dkeys_len h.len _ _).1, fun x d e => ?_⟩, (dkeys_len h.len _ _).2, fun x v e => ?_, fun v e => ?_⟩
      · have e : dFind (dKeys S.1 S.2 (.inr s) (.int ((va + 1 : Nat) : Int))).1 (dKeys S.1 S.2 (.inr s) (.int ((va + 1 : Nat) : Int))).2 (.inr x) = some d := e
        rw [dfind_put h.len] at e
        by_cases c : x = s
        · subst c
          rw [if_pos rfl] at e
          exact ⟨va + 1, (Option.some.inj e).symm, rs⟩
        · rw [if_neg fun q => c (by injection q)] at e
          exact h.snd x d e
      · show ∃ v', v' ≤ v + 0 ∧ dFind (dKeys S.1 S.2 (.inr s) (.int ((va + 1 : Nat) : Int))).1 (dKeys S.1 S.2 (.inr s) (.int ((va + 1 : Nat) : Int))).2 (.inr x) = _
        rw [dfind_put h.len]
        by_cases c : x = s
        · subst c
          exact ⟨va + 1, hs v e, if_pos rfl⟩
        · rw [if_neg fun q => c (by injection q)]
          exact ⟨v, Nat.le_refl _, e⟩
      · rw [ha] at e
        have e : va = v := by
          have := Option.some.inj e
          injection this with this
          omega
        refine ⟨va + 1, by omega, ?_⟩
        show dFind (dKeys S.1 S.2 (.inr s) (.int ((va + 1 : Nat) : Int))).1 (dKeys S.1 S.2 (.inr s) (.int ((va + 1 : Nat) : Int))).2 (.inr s) = _
        rw [dfind_put h.len, if_pos rfl]
    cases hs : fG S s with
    | none =>
      have hs' : dFind S.1 S.2 (.inr s) = none := hs
      obtain ⟨S', e, k⟩ := put fun v e => by rw [hs] at e; cases e
      exact ⟨S', (if_yes (and_yes t1' (or_yes (t2.trans (by rw [hs']; rfl))))).trans e, k⟩
    | some ds =>
      have hs' : dFind S.1 S.2 (.inr s) = some ds := hs
      obtain ⟨vs, rfl, _⟩ := h.snd s ds hs
      have t3 : bTest (e2 oGt (eGetO 1 (e2 oIx (eVar 3) (eC (.int 0)))) (e2 oAdd (eC (.int 1)) (eGetO 1 (e2 oIx (eVar 3) (eC (.int 2)))))) (Ef L S y2 (.val (rwD (s, m, a)))) = .ok (decide (((va + 1 : Nat) : Int) < ((vs : Nat) : Int))) := test_ok (op_ok (getO_ok rfl i0 hs') g2 rfl)
      have t2' := t2.trans (by rw [hs']; rfl : _ = R.ok false)
      by_cases c : va + 1 < vs
      · obtain ⟨S', e, k⟩ := put fun v e => by
          rw [hs] at e
          have := Option.some.inj e
          injection this with this
          omega
        exact ⟨S', (if_yes (and_yes t1' (or_no t2' (t3.trans (by rw [decide_eq_true (by omega)]))))).trans e, k⟩
      · refine ⟨S, (if_no (and_yes t1' (or_no t2' (t3.trans (by rw [decide_eq_false (by omega)]))))).trans rfl, h, Nat.le_succ _, fun x => Le.refl0 S x, fun v e => ⟨vs, ?_, hs⟩⟩
        rw [ha] at e
        have := Option.some.inj e
        injection this with this
        omega
theorem fa_loop (L : D) (y2 : Sl) : ∀ (A : List (Str × Str × Str)) (S : List D × List D) (y3 : Sl), (∀ r ∈ A, r ∈ rows) → FOk rows S → S.1.length + A.length < 50000 →
    ∃ S' y3', forR (gN 3) faB (A.map rwD) (Ef L S y2 y3) = some (.nx (Ef L S' y2 y3')) ∧ FOk rows S' ∧ S'.1.length ≤ S.1.length + A.length ∧ (∀ x, Le S S' x x 0) ∧ ∀ r ∈ A, Le S S' r.2.2 r.1 1
  | [], S, y3, _, h, _ => ⟨S, y3, rfl, h, Nat.le_refl _, fun x => Le.refl0 S x, fun r hr => by cases hr⟩
  | (s, m, a) :: A, S, y3, hA, h, hl => by
    rw [List.length_cons] at hl
    obtain ⟨S1, e1, h1, l1, m1, n1⟩ := fa_turn L y2 h (hA _ List.mem_cons_self) (by omega)
    obtain ⟨S2, y3', e2, h2, l2, m2, n2⟩ := fa_loop L y2 A S1 (.val (rwD (s, m, a))) (fun r hr => hA r (List.mem_cons_of_mem _ hr)) h1 (by omega)
    refine ⟨S2, y3', (forR_cons rfl e1).trans e2, h2, by rw [List.length_cons]; omega, fun x v e => ?_, fun r hr v e => ?_⟩
    · obtain ⟨v1, q1, e'⟩ := m1 x v e
      obtain ⟨v2, q2, e''⟩ := m2 x v1 e'
      exact ⟨v2, by omega, e''⟩
    · rcases List.mem_cons.mp hr with rfl | hr
      · obtain ⟨v1, q1, e'⟩ := n1 v e
        obtain ⟨v2, q2, e''⟩ := m2 s v1 e'
        exact ⟨v2, by omega, e''⟩
      · obtain ⟨v1, q1, e'⟩ := m1 r.2.2 v e
        obtain ⟨v2, q2, e''⟩ := n2 r hr v1 e'
        exact ⟨v2, by omega, e''⟩
structure Far (rows : List (Str × Str × Str)) (S : List D × List D) : Prop where
  yes : ∀ x n, Mn rows bad n x → fG S x = some (.int (n : Nat))
  no : ∀ x, (∀ n, ¬ Mn rows bad n x) → fG S x = none
theorem far_ok (hr : rows.length ≤ 1000) (hs : ∀ r ∈ rows, r.1 ∈ U) (hu : U.length ≤ 14) : ∃ S, m__law_far [.lst (rows.map rwD)] = .ok (.dic false S.1 S.2) ∧ Far rows S := by
  have S0 : FOk rows ([.str bad], [.int ((0 : Nat) : Int)]) := by
    refine ⟨rfl, fun x d e => ?_⟩
    have e : dFind [.str bad] [.int ((0 : Nat) : Int)] (.inr x) = some d := e
    rw [dfind_cons] at e
    by_cases c : keyOf (.str bad) = some (.inr x)
    · rw [if_pos c] at e
      have : x = bad := by injection c with c; injection c with c; exact c.symm
      exact ⟨0, (Option.some.inj e).symm, by rw [this]; simp [Rb]⟩
    · rw [if_neg c] at e
      cases e
  have loop := forR_range (g := gN 2) (b := sFor (Xd.iSeq (eVar 0)) (gN 3) faB) (n := 14) (ρ := Ef (.lst (rows.map rwD)) ([.str bad], [.int ((0 : Nat) : Int)]) .un .un)
    (fun k ρ => ∃ S y2 y3, ρ = Ef (.lst (rows.map rwD)) S y2 y3 ∧ FOk rows S ∧ S.1.length ≤ 1 + k * 1000 ∧ ∀ c x, c ≤ k → Rb rows bad c x = true → ∃ v : Nat, v ≤ c ∧ fG S x = some (.int (v : Nat))) ?_ ?_
  · obtain ⟨ρ', e, S, y2, y3, rfl, hS, _, hc⟩ := loop
    have yes : ∀ x n, Mn rows bad n x → fG S x = some (.int (n : Nat)) := fun x n hn => by
      have nl := mn_len rows bad hs hn
      obtain ⟨v, hv, e⟩ := hc n x (by omega) hn.1
      obtain ⟨v', e1, e2⟩ := hS.snd x _ e
      have ev : v = v' := by injection e1 with e1; omega
      subst ev
      rcases Nat.lt_or_ge v n with c | c
      · rw [hn.2 v c] at e2; cases e2
      · rw [e, show v = n by omega]
    refine ⟨S, ?_, yes, fun x hx => ?_⟩
    · refine noX_of (runD_rt rfl ?_)
      show g__law_far [.val (.lst (rows.map rwD)), .un, .un, .un] = _
      unfold g__law_far
      refine (seq_nx (show sDct1 1 (eC (.str "bad")) (eC (.int 0)) _ = some (.nx (Ef (.lst (rows.map rwD)) ([.str bad], [.int ((0 : Nat) : Int)]) .un .un)) from rfl)).trans ?_
      refine (seq_nx ((for_ok (r1_ok (n := 14) rfl (by decide))).trans e)).trans ?_
      rfl
    · cases e : fG S x with
      | none => rfl
      | some d =>
        obtain ⟨v, _, rv⟩ := hS.snd x d e
        obtain ⟨n, _, hn⟩ := mn_ex rows bad rv
        exact absurd hn (hx n)
  · rintro k ρ hk ⟨S, y2, y3, rfl, hS, hl, hc⟩
    have hk1 : (k + 1) * 1000 = k * 1000 + 1000 := by omega
    obtain ⟨S', y3', e, hS', hl', mono, rel⟩ := fa_loop (.lst (rows.map rwD)) (.val (.int k)) rows S y3 (fun r h => h) hS (by omega)
    refine ⟨Ef (.lst (rows.map rwD)) S (.val (.int k)) y3, _, rfl, (for_ok (seq_val rfl)).trans e, S', _, _, rfl, hS', by omega, fun c x hcx rx => ?_⟩
    cases c with
    | zero =>
      obtain ⟨v, hv, e⟩ := hc 0 x (by omega) rx
      obtain ⟨v', hv', e'⟩ := mono x v e
      exact ⟨v', by omega, e'⟩
    | succ c =>
      obtain ⟨m, a, hr', ra⟩ := (rb_succ rows bad).mp rx
      obtain ⟨v, hv, e⟩ := hc c a (by omega) ra
      obtain ⟨v', hv', e'⟩ := rel (x, m, a) hr' v e
      exact ⟨v', by omega, e'⟩
  · refine ⟨_, _, _, rfl, S0, by simp, fun c x hc rx => ?_⟩
    have : c = 0 := by omega
    subst this
    have : x = bad := by simpa [Rb] using rx
    subst this
    exact ⟨0, Nat.le_refl _, rfl⟩
end P44
/-! the moves due -/
namespace P44
open PySem L2 Xg Xd CwR Bfs
variable {rows : List (Str × Str × Str)} {U : List Str} {first : Str}
abbrev Ed (L : D) (first : Str) (S : List D × List D) (M : List Str) (st : Str) (k : Sl) (x : Sl) (y : Sl) : Rho := [.val L, .val (.str first), .val (.dic false S.1 S.2), .own (sD M), .val (.str st), k, x, y]
def duB : MS := (sIf (bAnd (bTest (e2 oEq (e2 oIx (eVar 7) (eC (.int 0))) (eVar 4))) (bAnd (bTest (e2 oEq (eVar 6) (eVar 4))) (bAnd (bTest (e2 oInD (e2 oIx (eVar 7) (eC (.int 2))) (eVar 2))) (bTest (e2 oEq (e2 oGetD (eVar 2) (e2 oIx (eVar 7) (eC (.int 2)))) (e2 oSub (e2 oGetD (eVar 2) (eVar 4)) (eC (.int 1))))))))
    (sSeq (sSet 6 (e2 oIx (eVar 7) (eC (.int 2))))
  (sApp 3 (e2 oIx (eVar 7) (eC (.int 1)))))
    sNext)
theorem du_skip (L : D) (S : List D × List D) (M : List Str) (st x : Str) (k : Sl) (hx : x ≠ st) : ∀ (A : List (Str × Str × Str)) (y : Sl), ∃ y', forR (gN 7) duB (A.map rwD) (Ed L first S M st k (.val (.str x)) y) = some (.nx (Ed L first S M st k (.val (.str x)) y'))
  | [], y => ⟨y, rfl⟩
  | r :: A, y => by
    obtain ⟨y', e⟩ := du_skip L S M st x k hx A (.val (rwD r))
    refine ⟨y', (forR_cons (ρ1 := Ed L first S M st k (.val (.str x)) (.val (rwD r))) rfl ?_).trans e⟩
    unfold duB
    have h1 : bTest (e2 oEq (e2 oIx (eVar 7) (eC (.int 0))) (eVar 4)) (Ed L first S M st k (.val (.str x)) (.val (rwD r))) = .ok (decide (r.1 = st)) := eq_ok rfl rfl
    have h2 : bTest (e2 oEq (eVar 6) (eVar 4)) (Ed L first S M st k (.val (.str x)) (.val (rwD r))) = .ok false := (eq_ok rfl rfl).trans (by rw [decide_eq_false hx])
    refine (if_no ((bAnd_ok h1 (and_no h2)).trans ?_)).trans rfl
    rw [Bool.and_false]
def fst (rows : List (Str × Str × Str)) (c : Nat) (st : Str) (A : List (Str × Str × Str)) : Option (Str × Str) := ((A.filter fun r => decide (r.1 = st)).map (·.2)).find? fun p => Rb rows bad c p.2
theorem du_find (L : D) {S : List D × List D} (hS : Far rows S) (M : List Str) (hM : M.length < 50000) {c : Nat} {st : Str} (hc : Mn rows bad (c + 1) st) (k : Sl) : ∀ (A : List (Str × Str × Str)) (y : Sl), (∀ r ∈ A, r ∈ rows) →
    ∃ y', forR (gN 7) duB (A.map rwD) (Ed L first S M st k (.val (.str st)) y) = some (.nx (match fst rows c st A with
      | some p => Ed L first S (M ++ [p.1]) st k (.val (.str p.2)) y'
      | none => Ed L first S M st k (.val (.str st)) y'))
  | [], y, _ => ⟨y, rfl⟩
  | (s, m, a) :: A, y, hA => by
    have ih := fun y => du_find L hS M hM hc k A y fun r hr => hA r (List.mem_cons_of_mem _ hr)
    have hr := hA _ List.mem_cons_self
    have h1 : bTest (e2 oEq (e2 oIx (eVar 7) (eC (.int 0))) (eVar 4)) (Ed L first S M st k (.val (.str st)) (.val (rwD (s, m, a)))) = .ok (decide (s = st)) := eq_ok rfl rfl
    have h2 : bTest (e2 oEq (eVar 6) (eVar 4)) (Ed L first S M st k (.val (.str st)) (.val (rwD (s, m, a)))) = .ok true := (eq_ok rfl rfl).trans (by rw [decide_eq_true rfl])
    have h3 : bTest (e2 oInD (e2 oIx (eVar 7) (eC (.int 2))) (eVar 2)) (Ed L first S M st k (.val (.str st)) (.val (rwD (s, m, a)))) = .ok (dFind S.1 S.2 (.inr a)).isSome := test_ok (op_ok (a := .str a) rfl rfl rfl)
    have no : ∀ (hne : ¬ (s = st ∧ Rb rows bad c a = true)), fst rows c st ((s, m, a) :: A) = fst rows c st A := fun hne => by
      unfold fst
      rw [List.filter_cons]
      by_cases c1 : s = st
      · rw [if_pos (decide_eq_true c1), List.map_cons, List.find?_cons]
        have : Rb rows bad c a = false := by
          cases e : Rb rows bad c a
          · rfl
          · exact absurd ⟨c1, e⟩ hne
        rw [this]
      · rw [if_neg (by simpa using c1)]
    have skip : ∀ (hne : ¬ (s = st ∧ Rb rows bad c a = true)), duB (Ed L first S M st k (.val (.str st)) (.val (rwD (s, m, a)))) = some (.nx (Ed L first S M st k (.val (.str st)) (.val (rwD (s, m, a))))) → ∃ y', forR (gN 7) duB (((s, m, a) :: A).map rwD) (Ed L first S M st k (.val (.str st)) y) = some (.nx (match fst rows c st ((s, m, a) :: A) with
      | some p => Ed L first S (M ++ [p.1]) st k (.val (.str p.2)) y'
      | none => Ed L first S M st k (.val (.str st)) y')) := fun hne hb => by
      obtain ⟨y', e⟩ := ih (.val (rwD (s, m, a)))
      refine ⟨y', ?_⟩
      rw [no hne]
      exact (forR_cons (ρ1 := Ed L first S M st k (.val (.str st)) (.val (rwD (s, m, a)))) rfl hb).trans e
    by_cases c1 : s = st
    · subst c1
      have far : (∃ n, Mn rows bad n a) ∨ ∀ n, ¬ Mn rows bad n a := by
        by_cases q : ∃ n, Mn rows bad n a
        · exact .inl q
        · exact .inr fun n hn => q ⟨n, hn⟩
      rcases far with ⟨n, hn⟩ | hno
      · have fa : dFind S.1 S.2 (.inr a) = some (.int (n : Nat)) := hS.yes a n hn
        have fs : dFind S.1 S.2 (.inr s) = some (.int ((c + 1 : Nat) : Int)) := hS.yes s (c + 1) hc
        have h4 : bTest (e2 oEq (e2 oGetD (eVar 2) (e2 oIx (eVar 7) (eC (.int 2)))) (e2 oSub (e2 oGetD (eVar 2) (eVar 4)) (eC (.int 1)))) (Ed L first S M s k (.val (.str s)) (.val (rwD (s, m, a)))) = .ok (decide (n = c)) := by
          refine (test_ok (op_ok (op_ok (a := .dic false S.1 S.2) (b := .str a) rfl rfl (show dFind S.1 S.2 (.inr a) = some (.int (n : Nat)) from fa)) (op_ok (op_ok (a := .dic false S.1 S.2) (b := .str s) rfl rfl (show dFind S.1 S.2 (.inr s) = some (.int ((c + 1 : Nat) : Int)) from fs)) rfl (oSub_int _ _)) (oEq_int _ _))).trans ?_
          congr 1
          exact decide_eq_decide.mpr ⟨fun h => by omega, fun h => by omega⟩
        have cond := bAnd_ok h1 (bAnd_ok h2 (bAnd_ok h3 h4))
        rw [fa, decide_eq_true rfl] at cond
        by_cases c2 : n = c
        · subst c2
          have hne : a ≠ s := fun e => by
            subst e
            have := mn_uniq rows bad hn hc
            omega
          have f : fst rows n s ((s, m, a) :: A) = some (m, a) := by
            unfold fst
            rw [List.filter_cons, if_pos (decide_eq_true rfl), List.map_cons, List.find?_cons]
            show (match Rb rows bad n a with | true => some (m, a) | false => _) = _
            rw [hn.1]
          obtain ⟨y', e⟩ := du_skip (first := first) L S (M ++ [m]) s a k hne A (.val (rwD (s, m, a)))
          refine ⟨y', ?_⟩
          rw [f]
          refine (forR_cons (ρ1 := Ed L first S M s k (.val (.str s)) (.val (rwD (s, m, a)))) (ρ2 := Ed L first S (M ++ [m]) s k (.val (.str a)) (.val (rwD (s, m, a)))) rfl ?_).trans e
          unfold duB
          refine (if_yes (cond.trans (by rw [decide_eq_true rfl]; rfl))).trans ?_
          refine (seq_nx (set_ok (d := .str a) rfl)).trans ?_
          refine (app_ok (xs := sD M) (d := .str m) rfl rfl (by rw [List.length_map]; omega)).trans ?_
          rw [sD_app]
          rfl
        · refine skip (fun h => ?_) ((if_no (cond.trans (by rw [decide_eq_false c2]; rfl))).trans rfl)
          exact c2 (mn_uniq rows bad hn (mn_step rows bad hc hr h.2))
      · have fa : dFind S.1 S.2 (.inr a) = none := hS.no a hno
        rw [fa] at h3
        refine skip (fun h => hno c (mn_step rows bad hc hr h.2)) ((if_no ((bAnd_ok h1 (bAnd_ok h2 (and_no h3))).trans ?_)).trans rfl)
        rw [Bool.and_false, Bool.and_false]
    · exact skip (fun h => c1 h.1) ((if_no (and_no (h1.trans (by rw [decide_eq_false c1])))).trans rfl)
def dueD : Option (List Str) → D
  | none => .non
  | some ms => .lst (sD ms)
theorem due_ok (hr : rows.length ≤ 1000) (hs : ∀ r ∈ rows, r.1 ∈ U) (hu : U.length ≤ 14) {r : Option (List Str)} (hb : best rows bad first r) : ∃ d, m__law_due [.lst (rows.map rwD), .str first] = .ok d ∧ d = dueD r := by
  obtain ⟨S, hf, hS⟩ := far_ok hr hs hu
  refine ⟨_, ?_, rfl⟩
  have pre : ∀ g, (sSeq (sSet 2 (eCall (fun ds => noX (m__law_far ds)) (aCons (eVar 0) aNil))) g) [.val (.lst (rows.map rwD)), .val (.str first), .un, .un, .un, .un, .un, .un] = g [.val (.lst (rows.map rwD)), .val (.str first), .val (.dic false S.1 S.2), .un, .un, .un, .un, .un] := fun g => seq_nx (set_ok (cl2 (a1_ok rfl) hf))
  have t1 : bTest (e2 oNotInD (eVar 1) (eVar 2)) [.val (.lst (rows.map rwD)), .val (.str first), .val (.dic false S.1 S.2), .un, .un, .un, .un, .un] = .ok (!(dFind S.1 S.2 (.inr first)).isSome) := test_ok (op_ok (a := .str first) rfl rfl rfl)
  rcases hb with ⟨rfl, hno⟩ | ⟨n, hn, rfl⟩
  · refine noX_of (runD_rt rfl ?_)
    show g__law_due [.val (.lst (rows.map rwD)), .val (.str first), .un, .un, .un, .un, .un, .un] = _
    unfold g__law_due
    rw [pre]
    have f : dFind S.1 S.2 (.inr first) = none := hS.no first fun n hn => by
      have := hno n
      rw [hn.1] at this
      cases this
    rw [f] at t1
    exact seq_rt ((if_yes t1).trans (ret_ok rfl))
  · have f : dFind S.1 S.2 (.inr first) = some (.int (n : Nat)) := hS.yes first n hn
    have nl := mn_len rows bad hs hn
    have out : ∀ {n k : Nat} {g : MS} {ds xs : List D}, ds.length = k → g (rho0 n ds) = some (.rf xs) → runD n k g ds = .ok (.lst xs) := fun {n k g ds xs} h h2 => by
      unfold runD
      rw [if_pos h, h2]
      rfl
    refine noX_of (out rfl ?_)
    show g__law_due [.val (.lst (rows.map rwD)), .val (.str first), .un, .un, .un, .un, .un, .un] = _
    unfold g__law_due
    rw [pre]
    rw [f] at t1
    refine (seq_nx ((if_no t1).trans rfl)).trans ?_
    refine (seq_nx (setL_ok (lst_ok a0_ok (by decide)))).trans ?_
    refine (seq_nx (set_ok (d := .str first) rfl)).trans ?_
    have loop := forR_range (g := gN 5) (b := (sSeq (sSet 6 (eVar 4))
  (sSeq (sFor (Xd.iSeq (eVar 0)) (gN 7) duB)
  (sSet 4 (eVar 6))))) (n := n) (ρ := Ed (.lst (rows.map rwD)) first S [] first .un .un .un)
      (fun k ρ => ∃ M st y5 y6 y7, ρ = Ed (.lst (rows.map rwD)) first S M st y5 y6 y7 ∧ M.length = k ∧ Mn rows bad (n - k) st ∧ M ++ greedy rows bad (n - k) st = greedy rows bad n first) ?_ ⟨[], first, _, _, _, rfl, rfl, hn, rfl⟩
    · obtain ⟨ρ', e, M, st, y5, y6, y7, rfl, _, _, hg⟩ := loop
      rw [Nat.sub_self] at hg
      have hg : M = greedy rows bad n first := by
        have : greedy rows bad 0 st = [] := rfl
        rw [this, List.append_nil] at hg
        exact hg
      rw [← hg]
      refine (seq_nx ((for_ok (r1_ok (n := n) (a1_ok (op_ok (a := .dic false S.1 S.2) (b := .str first) rfl rfl f)) (by omega))).trans e)).trans ?_
      exact retO_ok rfl
    · rintro k ρ hk ⟨M, st, y5, y6, y7, rfl, hM, hmn, hg⟩
      obtain ⟨c, hc⟩ : ∃ c, n - k = c + 1 := ⟨n - k - 1, by omega⟩
      rw [hc] at hmn hg
      obtain ⟨y', e⟩ := du_find (first := first) (.lst (rows.map rwD)) hS M (by omega) hmn (.val (.int k)) rows y7 fun r h => h
      have gz : greedy rows bad (c + 1) st = (match fst rows c st rows with | some p => p.1 :: greedy rows bad c p.2 | none => []) := rfl
      cases hf : fst rows c st rows with
      | none =>
        exfalso
        obtain ⟨m, a, hr', ra⟩ := (rb_succ rows bad).mp hmn.1
        have := List.find?_eq_none.mp hf (m, a) ((mem_mv rows).mpr hr')
        simp [ra] at this
      | some p =>
        rw [hf] at e gz
        obtain ⟨p1, p2⟩ := p
        have pm : (p1, p2) ∈ mv rows st := List.mem_of_find?_eq_some hf
        have pr : Rb rows bad c p2 = true := by simpa using List.find?_some hf
        refine ⟨Ed (.lst (rows.map rwD)) first S M st (.val (.int k)) y6 y7, Ed (.lst (rows.map rwD)) first S (M ++ [p1]) p2 (.val (.int k)) (.val (.str p2)) y', rfl, ?_, M ++ [p1], p2, _, _, _, rfl, by rw [List.length_append, hM]; rfl, ?_, ?_⟩
        · refine (seq_nx (set_ok (d := .str st) rfl)).trans ?_
          refine (seq_nx ((for_ok (seq_val rfl)).trans e)).trans ?_
          exact set_ok (d := .str p2) rfl
        · rw [show n - (k + 1) = c by omega]
          exact mn_step rows bad hmn ((mem_mv rows).mp pm) pr
        · rw [show n - (k + 1) = c by omega, List.append_assoc]
          rw [gz] at hg
          exact hg
end P44
/-! the rows that the law draws -/
namespace P44
open PySem L2 Xg Xd CwR Bfs
abbrev plcL : List Str := ["start", "a", "aa", "ab", "b", "ba", "", "Bad", "bad ", "c", "be", "z", "stop"]
abbrev movL : List Str := ["up", "down", "u", "", "bad", "left", "a"]
theorem plc_len : plcL.length = 13 := by decide +kernel
theorem mov_len : movL.length = 7 := by decide +kernel
theorem plc_bad : bad ∉ plcL := by decide +kernel
theorem places_ok : m__law_places [] = .ok (sD plcL) := by
  refine noX_of (runL_rf rfl ?_)
  exact retL_ok rfl
theorem oMul_6 (p : Int) : oMul (.int 6) (.int p) = some (.int (6 * p)) := by
  show (if (-(2 ^ 64) < (6 : Int) ∧ (6 : Int) < 2 ^ 64) ∨ (-(2 ^ 64) < p ∧ p < 2 ^ 64) then some (D.int (6 * p)) else none) = _
  rw [if_pos (.inl (by decide))]
theorem ixL {zs : List Str} {i : Int} (h0 : 0 ≤ i) (h1 : i < zs.length) : ∃ z ∈ zs, atI (sD zs) i = some (.str z) := by
  obtain ⟨k, rfl⟩ := Int.eq_ofNat_of_zero_le h0
  have hk : k < zs.length := by omega
  exact ⟨zs[k], List.getElem_mem hk, ix_S (List.getElem?_eq_getElem hk)⟩
theorem dg {row : List Int} (hl : row.length ≤ 5000) {ρ : Rho} {f : Rho → R D} {n : Nat} (h0 : eVar 0 ρ = .ok (.lst (row.map D.int))) (h : f ρ = .ok (.int (n : Nat))) : eCall (fun ds => noX (m__law_digit ds)) (aCons (eVar 0) (aCons f aNil)) ρ = .ok (.int (row.getD n 0)) :=
  cl2 (a2_ok h0 h) (digit_ok row hl n)
theorem int_ok {f : Rho → R D} {ρ : Rho} {i : Int} (h : f ρ = .ok (.int i)) : eCB cInt (aCons f aNil) ρ = .ok (.int i) := (cb_ok (a1_ok h)).trans rfl
theorem mod_ok {f : Rho → R D} {ρ : Rho} {i m : Int} (hm : 0 < m) {g : Rho → R D} (h : f ρ = .ok (.int i)) (h2 : g ρ = .ok (.int m)) : e2 oMod f g ρ = .ok (.int (i % m)) := op_ok h h2 (oMod_int hm)
structure Gdr (rs : List (Str × Str × Str)) : Prop where
  src : ∀ r ∈ rs, r.1 ∈ plcL
  tgt : ∀ r ∈ rs, r.2.2 ∈ plcL ∨ r.2.2 = bad
theorem Gdr.app {rs qs : List (Str × Str × Str)} (h : Gdr rs) (k : Gdr qs) : Gdr (rs ++ qs) := ⟨fun r hr => (List.mem_append.mp hr).elim (h.src r) (k.src r), fun r hr => (List.mem_append.mp hr).elim (h.tgt r) (k.tgt r)⟩
theorem Gdr.sub {rs qs : List (Str × Str × Str)} (h : Gdr rs) (k : ∀ r ∈ qs, r ∈ rs) : Gdr qs := ⟨fun r hr => h.src r (k r hr), fun r hr => h.tgt r (k r hr)⟩
abbrev El (row : List Int) (at0 : Nat) (n : Int) (rs : List (Str × Str × Str)) (y6 y7 y8 y9 y10 : Sl) : Rho := [.val (.lst (row.map D.int)), .val (.int at0), .val (.lst (sD plcL)), .val (.lst (sD movL)), .val (.int n), .own (rs.map rwD), y6, y7, y8, y9, y10, .un]
def liB : MS := (sSeq (sSet 8 (e2 oAdd (e2 oAdd (eVar 1) (eC (.int 4))) (e2 oMul (eC (.int 6)) (eVar 7))))
  (sIf (bTest (e2 oLt (eVar 6) (e2 oMod (eCB cInt (aCons (e2 oAdd (eCall (fun ds => noX (m__law_digit ds)) (aCons (eVar 0) (aCons (eVar 8) aNil))) (eC (.int 1))) aNil)) (eC (.int 5)))))
    (sSeq (sSet 9 (e2 oMod (eCB cInt (aCons (e2 oAdd (e2 oAdd (eCall (fun ds => noX (m__law_digit ds)) (aCons (eVar 0) (aCons (e2 oAdd (e2 oAdd (eVar 8) (eC (.int 2))) (eVar 6)) aNil))) (eVar 7)) (eC (.int 1))) aNil)) (e2 oAdd (eVar 4) (eC (.int 1)))))
  (sSeq (sSet 10 (eC (.str "bad")))
  (sSeq (sIf (bTest (e2 oLt (eVar 9) (eVar 4)))
    (sSet 10 (e2 oIx (eVar 2) (eVar 9)))
    sNext)
  (sApp 5 (eTup (aCons (e2 oIx (eVar 2) (eVar 7)) (aCons (e2 oIx (eVar 3) (e2 oMod (eCB cInt (aCons (e2 oAdd (eCall (fun ds => noX (m__law_digit ds)) (aCons (eVar 0) (aCons (e2 oAdd (eVar 8) (eC (.int 1))) aNil))) (eVar 6)) aNil)) (eC (.int 7)))) (aCons (eVar 10) aNil))))))))
    sNext))
theorem li_turn {row : List Int} (hl : row.length ≤ 5000) {at0 n : Nat} (hn : n ≤ 13) (h0 : 0 < n) {rs : List (Str × Str × Str)} (hg : Gdr rs) (hr : rs.length < 1000) {j k : Nat} (hk : k < n) (y8 y9 y10 : Sl) :
    ∃ rs' z8 z9 z10, liB (El row at0 n rs (.val (.int j)) (.val (.int k)) y8 y9 y10) = some (.nx (El row at0 n rs' (.val (.int j)) (.val (.int k)) z8 z9 z10)) ∧ Gdr rs' ∧ rs'.length ≤ rs.length + 1 := by
  unfold liB
  have b0 : ∀ g, (sSeq (sSet 8 (e2 oAdd (e2 oAdd (eVar 1) (eC (.int 4))) (e2 oMul (eC (.int 6)) (eVar 7)))) g) (El row at0 n rs (.val (.int j)) (.val (.int k)) y8 y9 y10) = g (El row at0 n rs (.val (.int j)) (.val (.int k)) (.val (.int ((at0 + 4 + 6 * k : Nat) : Int))) y9 y10) := fun g => by
    refine seq_nx (set_ok (d := .int ((at0 + 4 + 6 * k : Nat) : Int)) (op_ok (op_ok rfl rfl (oAdd_int _ _)) (op_ok rfl rfl (oMul_6 _)) ?_))
    rw [oAdd_int]
    congr 2
  rw [b0]
  generalize hb : at0 + 4 + 6 * k = b
  have m1 : e2 oMod (eCB cInt (aCons (e2 oAdd (eCall (fun ds => noX (m__law_digit ds)) (aCons (eVar 0) (aCons (eVar 8) aNil))) (eC (.int 1))) aNil)) (eC (.int 5)) (El row at0 n rs (.val (.int j)) (.val (.int k)) (.val (.int (b : Nat))) y9 y10) = .ok (.int ((row.getD b 0 + 1) % 5)) :=
    mod_ok (by decide) (int_ok (op_ok (dg hl rfl rfl) rfl (oAdd_int _ _))) rfl
  have t1 : bTest (e2 oLt (eVar 6) (e2 oMod (eCB cInt (aCons (e2 oAdd (eCall (fun ds => noX (m__law_digit ds)) (aCons (eVar 0) (aCons (eVar 8) aNil))) (eC (.int 1))) aNil)) (eC (.int 5)))) (El row at0 n rs (.val (.int j)) (.val (.int k)) (.val (.int (b : Nat))) y9 y10) = .ok (decide ((j : Int) < (row.getD b 0 + 1) % 5)) := test_ok (op_ok rfl m1 rfl)
  by_cases c : (j : Int) < (row.getD b 0 + 1) % 5
  · rw [decide_eq_true c] at t1
    have e1 : e2 oMod (eCB cInt (aCons (e2 oAdd (e2 oAdd (eCall (fun ds => noX (m__law_digit ds)) (aCons (eVar 0) (aCons (e2 oAdd (e2 oAdd (eVar 8) (eC (.int 2))) (eVar 6)) aNil))) (eVar 7)) (eC (.int 1))) aNil)) (e2 oAdd (eVar 4) (eC (.int 1))) (El row at0 n rs (.val (.int j)) (.val (.int k)) (.val (.int (b : Nat))) y9 y10) = .ok (.int ((row.getD (b + 2 + j) 0 + k + 1) % ((n : Int) + 1))) := by
      refine mod_ok (by omega) (int_ok (op_ok (op_ok (dg (n := b + 2 + j) hl rfl (op_ok (op_ok rfl rfl (oAdd_int _ _)) rfl ?_)) rfl (oAdd_int _ _)) rfl (oAdd_int _ _))) (op_ok rfl rfl (oAdd_int _ _))
      rw [oAdd_int]
      congr 2
    generalize he : (row.getD (b + 2 + j) 0 + k + 1) % ((n : Int) + 1) = e at e1
    have en : 0 ≤ e := by rw [← he]; exact Int.emod_nonneg _ (by omega)
    obtain ⟨s, hs, ps⟩ := ixL (zs := plcL) (i := (k : Nat)) (by omega) (by rw [plc_len]; omega)
    have m7 := Int.emod_nonneg (row.getD (b + 1) 0 + j) (show (7 : Int) ≠ 0 by decide)
    have l7 := Int.emod_lt_of_pos (row.getD (b + 1) 0 + j) (show (0 : Int) < 7 by decide)
    obtain ⟨mm, hm, pm⟩ := ixL (zs := movL) m7 (by rw [mov_len]; exact l7)
    -- the place behind
    have aft : ∃ a, (a ∈ plcL ∨ a = bad) ∧ (sIf (bTest (e2 oLt (eVar 9) (eVar 4)))
    (sSet 10 (e2 oIx (eVar 2) (eVar 9)))
    sNext) (El row at0 n rs (.val (.int j)) (.val (.int k)) (.val (.int (b : Nat))) (.val (.int e)) (.val (.str bad))) = some (.nx (El row at0 n rs (.val (.int j)) (.val (.int k)) (.val (.int (b : Nat))) (.val (.int e)) (.val (.str a)))) := by
      have t2 : bTest (e2 oLt (eVar 9) (eVar 4)) (El row at0 n rs (.val (.int j)) (.val (.int k)) (.val (.int (b : Nat))) (.val (.int e)) (.val (.str bad))) = .ok (decide (e < (n : Int))) := test_ok (op_ok rfl rfl rfl)
      by_cases c2 : e < (n : Int)
      · rw [decide_eq_true c2] at t2
        obtain ⟨a, ha, pa⟩ := ixL (zs := plcL) (i := e) en (by rw [plc_len]; omega)
        exact ⟨a, .inl ha, (if_yes t2).trans (set_ok (op_ok (a := .lst (sD plcL)) (b := .int e) rfl rfl pa))⟩
      · rw [decide_eq_false c2] at t2
        exact ⟨bad, .inr rfl, (if_no t2).trans rfl⟩
    obtain ⟨a, ha, pa⟩ := aft
    refine ⟨rs ++ [(s, mm, a)], .val (.int (b : Nat)), .val (.int e), .val (.str a), (if_yes t1).trans ((seq_nx (set_ok e1)).trans ((seq_nx (set_ok (d := .str bad) rfl)).trans ((seq_nx pa).trans ((app_ok (xs := rs.map rwD) (d := rwD (s, mm, a)) rfl ?_ (by rw [List.length_map]; omega)).trans ?_)))), hg.app ⟨fun r hr => ?_, fun r hr => ?_⟩, by rw [List.length_append]; exact Nat.le_refl _⟩
    · refine tup_ok (a3_ok (op_ok (a := .lst (sD plcL)) (b := .int (k : Nat)) rfl rfl ps) (op_ok (a := .lst (sD movL)) (b := .int ((row.getD (b + 1) 0 + j) % 7)) rfl (mod_ok (by decide) (int_ok (op_ok (dg (n := b + 1) hl rfl (op_ok rfl rfl ?_)) rfl (oAdd_int _ _))) rfl) pm) rfl) (show 3 ≤ 100000 by decide)
      rw [oAdd_int]
      congr 2
    · show some (O.nx (El row at0 n rs _ _ _ _ _ |>.set 5 (.own (rs.map rwD ++ [rwD (s, mm, a)])))) = some (O.nx (El row at0 n (rs ++ [(s, mm, a)]) _ _ _ _ _))
      rw [show rs.map rwD ++ [rwD (s, mm, a)] = (rs ++ [(s, mm, a)]).map rwD by rw [List.map_append]; rfl]
      rfl
    · have : r = (s, mm, a) := by simpa using hr
      rw [this]; exact hs
    · have : r = (s, mm, a) := by simpa using hr
      rw [this]; exact ha
  · rw [decide_eq_false c] at t1
    exact ⟨rs, .val (.int (b : Nat)), y9, y10, (if_no t1).trans rfl, hg, Nat.le_succ _⟩
theorem cut_rows (rs : List (Str × Str × Str)) (lo hi : Option Int) : ∃ qs : List (Str × Str × Str), cutD (rs.map rwD) lo hi = qs.map rwD ∧ qs.length ≤ rs.length ∧ ∀ r ∈ qs, r ∈ rs := by
  unfold cutD
  generalize HT.sIx (rs.map rwD).length 0 lo = a
  generalize HT.sIx (rs.map rwD).length (rs.map rwD).length hi - a = b
  refine ⟨(rs.drop a).take b, by rw [← List.map_drop, ← List.map_take], ?_, fun r hr => List.mem_of_mem_drop (List.mem_of_mem_take hr)⟩
  rw [List.length_take, List.length_drop]
  omega
theorem count_ok {row : List Int} (hl : row.length ≤ 5000) (at0 : Nat) : ∃ n : Nat, 0 < n ∧ n ≤ 13 ∧ ∀ ρ : Rho, eVar 0 ρ = .ok (.lst (row.map D.int)) → eVar 1 ρ = .ok (.int at0) → e2 oAdd (eC (.int 2)) (e2 oMod (eCB cInt (aCons (eCall (fun ds => noX (m__law_digit ds)) (aCons (eVar 0) (aCons (eVar 1) aNil))) aNil)) (eC (.int 12))) ρ = .ok (.int (n : Nat)) := by
  have m := Int.emod_nonneg (row.getD at0 0) (show (12 : Int) ≠ 0 by decide)
  have l := Int.emod_lt_of_pos (row.getD at0 0) (show (0 : Int) < 12 by decide)
  refine ⟨(2 + row.getD at0 0 % 12).toNat, by omega, by omega, fun ρ h0 h1 => op_ok (a := .int 2) rfl (mod_ok (by decide) (int_ok (dg hl h0 h1)) rfl) ?_⟩
  rw [oAdd_int]
  congr 2
  omega
theorem listed_ok {row : List Int} (hl : row.length ≤ 5000) (at0 : Nat) : ∃ rs, m__law_listed [.lst (row.map D.int), .int at0] = .ok (.lst (rs.map rwD)) ∧ rs.length ≤ 200 ∧ Gdr rs := by
  obtain ⟨n, n0, n13, hc⟩ := count_ok hl at0
  have loop := forR_range (g := gN 6) (b := sFor (iR1 (aCons (eVar 4) aNil)) (gN 7) liB) (n := 4) (ρ := El row at0 n [] .un .un .un .un .un)
    (fun j ρ => ∃ rs y6 y7 y8 y9 y10, ρ = El row at0 n rs y6 y7 y8 y9 y10 ∧ Gdr rs ∧ rs.length ≤ j * 13) ?_ ⟨[], _, _, _, _, _, rfl, ⟨fun r h => by (cases h), fun r h => by (cases h)⟩, Nat.zero_le _⟩
  · obtain ⟨ρ', e, rs, y6, y7, y8, y9, y10, rfl, hg, hlr⟩ := loop
    have hp := pick_ok row hl (at0 + 1) (m := (rs.length : Int) + 1) (by omega)
    generalize Xg.pick row ((at0 + 1 : Nat) : Int) ((rs.length : Int) + 1) = t at hp
    obtain ⟨q1, c1, l1, s1⟩ := cut_rows rs (some t) none
    obtain ⟨q2, c2, l2, s2⟩ := cut_rows rs none (some t)
    refine ⟨q1 ++ q2, ?_, by rw [List.length_append]; omega, (hg.sub s1).app (hg.sub s2)⟩
    refine noX_of (runD_rt rfl ?_)
    show g__law_listed [.val (.lst (row.map D.int)), .val (.int at0), .un, .un, .un, .un, .un, .un, .un, .un, .un, .un] = _
    unfold g__law_listed
    refine (seq_nx (set_ok (fz2 a0_ok places_ok))).trans ?_
    refine (seq_nx (set_ok (d := .lst (sD movL)) rfl)).trans ?_
    refine (seq_nx (set_ok (hc _ rfl rfl))).trans ?_
    refine (seq_nx (setL_ok (lst_ok a0_ok (by decide)))).trans ?_
    refine (seq_nx ((for_ok (r1_ok (n := 4) rfl (by decide))).trans e)).trans ?_
    have hfz : ∀ g, sFrz 5 g (El row at0 n rs y6 y7 y8 y9 y10) = g [.val (.lst (row.map D.int)), .val (.int at0), .val (.lst (sD plcL)), .val (.lst (sD movL)), .val (.int n), .val (.lst (rs.map rwD)), y6, y7, y8, y9, y10, .un] := fun g => frz_ok (xs := rs.map rwD) rfl
    refine (seq_nx ((hfz _).trans (set_ok (d := .int t) (cl2 (ds := [.lst (row.map D.int), .int ((at0 + 1 : Nat) : Int), .int ((rs.length : Int) + 1)]) (a3_ok rfl rfl ?_) hp)))).trans ?_
    · show ro (some (D.int (((rs.map rwD).length : Nat) + 1))) = _
      rw [List.length_map]
      rfl
    · refine (show sFrz 5 _ _ = sRet (e2 oAdd (eSl oSl (eVar 5) (pSome (eVar 11)) pNo) (eSl oSl (eVar 5) pNo (pSome (eVar 11)))) _ from rfl).trans (ret_ok ?_)
      refine op_ok (a := .lst (q1.map rwD)) (b := .lst (q2.map rwD)) ?_ ?_ ?_
      · show ro (some (D.lst (cutD (rs.map rwD) (some t) none))) = _
        rw [c1]
        rfl
      · show ro (some (D.lst (cutD (rs.map rwD) none (some t)))) = _
        rw [c2]
        rfl
      · show (if (q1.map rwD).length + (q2.map rwD).length ≤ 100000 then some (D.lst (q1.map rwD ++ q2.map rwD)) else none) = _
        rw [if_pos (by rw [List.length_map, List.length_map]; omega), List.map_append]
  · rintro j ρ hj ⟨rs, y6, y7, y8, y9, y10, rfl, hg, hlr⟩
    have inner := forR_range (g := gN 7) (b := liB) (n := n) (ρ := El row at0 n rs (.val (.int j)) y7 y8 y9 y10)
      (fun k ρ => ∃ rs y7 y8 y9 y10, ρ = El row at0 n rs (.val (.int j)) y7 y8 y9 y10 ∧ Gdr rs ∧ rs.length ≤ j * 13 + k) ?_ ⟨rs, _, _, _, _, rfl, hg, hlr⟩
    · obtain ⟨ρ', e, rs', z7, z8, z9, z10, rfl, hg', hl'⟩ := inner
      exact ⟨El row at0 n rs (.val (.int j)) y7 y8 y9 y10, _, rfl, (for_ok (r1_ok (n := n) rfl (by omega))).trans e, rs', _, _, _, _, _, rfl, hg', by omega⟩
    · rintro k ρ hk ⟨rs, y7, y8, y9, y10, rfl, hg, hlr⟩
      obtain ⟨rs', z8, z9, z10, e, hg', hl'⟩ := li_turn hl (at0 := at0) n13 n0 hg (by omega) (j := j) hk y8 y9 y10
      exact ⟨_, _, rfl, e, rs', _, _, _, _, rfl, hg', by omega⟩
theorem begin_ok {row : List Int} (hl : row.length ≤ 5000) (at0 : Nat) : ∃ s ∈ plcL, m__law_begin [.lst (row.map D.int), .int at0] = .ok (.str s) := by
  obtain ⟨n, n0, n13, hc⟩ := count_ok hl at0
  have m := Int.emod_nonneg (row.getD (at0 + 3) 0) (show (n : Int) ≠ 0 by omega)
  have l := Int.emod_lt_of_pos (row.getD (at0 + 3) 0) (show (0 : Int) < n by omega)
  obtain ⟨s, hs, ps⟩ := ixL (zs := plcL) m (by rw [plc_len]; omega)
  refine ⟨s, hs, noX_of (runD_rt rfl ?_)⟩
  show g__law_begin [.val (.lst (row.map D.int)), .val (.int at0), .un] = _
  unfold g__law_begin
  refine (seq_nx (set_ok (hc _ rfl rfl))).trans (ret_ok ?_)
  refine op_ok (a := .lst (sD plcL)) (b := .int (row.getD (at0 + 3) 0 % n)) (fz2 a0_ok places_ok) (mod_ok (by omega) (int_ok (dg (n := at0 + 3) hl rfl (op_ok rfl rfl ?_))) rfl) ps
  rw [oAdd_int]
  congr 2
end P44
/-! the law itself -/
namespace P44
open PySem L2 Xg Xd CwR Bfs
theorem okTs_str : ∀ zs : List Str, okTs (sD zs) = true
  | [] => rfl
  | z :: zs => by
    show (okT (.str z) && okTs (sD zs)) = true
    rw [okTs_str zs]; rfl
theorem sz_str : ∀ zs : List Str, szDs (sD zs) = zs.length
  | [] => rfl
  | z :: zs => by
    show szD (.str z) + szDs (sD zs) = _
    rw [sz_str zs, List.length_cons]
    show 1 + _ = _
    omega
theorem okTs_pair : ∀ ps : List (Str × Str), okTs (ps.map pD) = true
  | [] => rfl
  | p :: ps => by
    show (okT (pD p) && okTs (ps.map pD)) = true
    rw [okTs_pair ps]; rfl
theorem sz_pair : ∀ ps : List (Str × Str), szDs (ps.map pD) = 3 * ps.length
  | [] => rfl
  | p :: ps => by
    show szD (pD p) + szDs (ps.map pD) = _
    rw [sz_pair ps, List.length_cons]
    show 3 + _ = _
    omega
theorem greedy_len (rows : List (Str × Str × Str)) : ∀ (n : Nat) (s : Str), (greedy rows bad n s).length ≤ n
  | 0, s => Nat.le_refl _
  | n + 1, s => by
    unfold greedy
    split
    · rename_i p _
      have := greedy_len rows n p.2
      rw [List.length_cons]
      omega
    · exact Nat.zero_le _
theorem eqx {ρ : Rho} {f g : Rho → R D} {d : D} (h : f ρ = .ok d) (h2 : g ρ = .ok d) (hk : okT d = true) (hs : szD d ≤ 5999) : eCall (fun ds => noX (m__law_equal ds)) (aCons f (aCons g aNil)) ρ = .ok (.bl true) := cl2 (a2_ok h h2) (equal_ok hk hs)
theorem neqx {ρ : Rho} {f g : Rho → R D} {d : D} (h : f ρ = .ok d) (h2 : g ρ = .ok d) (hk : okT d = true) (hs : szD d ≤ 5999) : bNot (bTest (eCall (fun ds => noX (m__law_equal ds)) (aCons f (aCons g aNil)))) ρ = .ok false := not_ok (test_ok (eqx h h2 hk hs))
theorem lmeth_ok {first : Str} {rows : List (Str × Str × Str)} {ρ : Rho} {nm : Str} {m : List D → R (List D)} {fs : Rho → R (List D)} {ds xs : List D} (h0 : eVar 0 ρ = .ok (tb first rows)) (hn : nm ∉ (["first", "pairs"] : List Str)) (h1 : fs ρ = .ok ds) (h2 : m (tb first rows :: ds) = .ok xs) : lMeth 20 nm m (eVar 0) fs ρ = .ok xs := by
  unfold lMeth
  rw [h0]
  show (if 20 = 20 ∧ nm ∉ (["first", "pairs"] : List Str) then (fs ρ).bind fun ds => noX (m (tb first rows :: ds)) else R.bad) = _
  rw [if_pos ⟨rfl, hn⟩, h1]
  exact noX_of h2
theorem mmeth_ok {first : Str} {rows : List (Str × Str × Str)} {ρ : Rho} {nm : Str} {m : List D → R Mx} {fs : Rho → R (List D)} {ds : List D} {x : Mx} (h0 : eVar 0 ρ = .ok (tb first rows)) (hn : nm ∉ (["first", "pairs"] : List Str)) (h1 : fs ρ = .ok ds) (h2 : m (tb first rows :: ds) = .ok x) : mMeth 20 nm m (eVar 0) fs ρ = .ok x := by
  unfold mMeth
  rw [h0]
  show (if 20 = 20 ∧ nm ∉ (["first", "pairs"] : List Str) then (fs ρ).bind fun ds => noX (m (tb first rows :: ds)) else R.bad) = _
  rw [if_pos ⟨rfl, hn⟩, h1]
  exact noX_of h2
theorem n_sc : ("scenario" : Str) ∉ (["first", "pairs"] : List Str) := by decide
theorem n_st : ("states" : Str) ∉ (["first", "pairs"] : List Str) := by decide
theorem n_mv : ("moves" : Str) ∉ (["first", "pairs"] : List Str) := by decide
theorem setM_ok {i : Nat} {f : Rho → R Mx} {ρ : Rho} {x : Mx} (h : f ρ = .ok x) : sSetM i f ρ = some (.nx (ρ.set i (mxS x))) := by
  unfold sSetM
  rw [h]
  rfl
section
variable {first : Str} {rows : List (Str × Str × Str)}
abbrev Ea (first : Str) (rows : List (Str × Str × Str)) (d : D) (y4 y5 y6 y7 : Sl) : Rho := [.val (tb first rows), .val (.str first), .val (.lst (rows.map rwD)), .val d, y4, y5, y6, y7]
theorem due_sz {r : Option (List Str)} (hs : ∀ r ∈ rows, r.1 ∈ plcL) (hb : best rows bad first r) : okT (dueD r) = true ∧ szD (dueD r) ≤ 100 ∧ ∀ ms, r = some ms → ms.length ≤ 14 := by
  rcases hb with ⟨rfl, _⟩ | ⟨n, hn, rfl⟩
  · exact ⟨rfl, by decide, fun ms h => by cases h⟩
  · have nl := mn_len rows bad hs hn
    rw [plc_len] at nl
    have gl := greedy_len rows n first
    refine ⟨okTs_str _, ?_, fun ms h => by cases h; omega⟩
    show szDs (sD (greedy rows bad n first)) + 1 ≤ 100
    rw [sz_str]
    omega
def askIn : MS := (sSeq (sSetL 7 (lMeth 20 "moves" m_Table_moves (eVar 0) (aCons (eVar 6) aNil)))
  (sSeq (sIf (bView (bNot (bTest (eCall (fun ds => noX (m__law_equal ds)) (aCons (eVar 7) (aCons (eFz (lCall (fun ds => noX (m__law_of ds)) (aCons (eVar 2) (aCons (eVar 6) aNil)))) aNil))))))
    (sRet (eC (.bl false)))
    sNext)
  (sSeq (sApp 7 (eTup (aCons (eC (.str "further")) (aCons (eC (.str "bad")) aNil))))
  (sIf (bNot (bTest (eCall (fun ds => noX (m__law_equal ds)) (aCons (eFz (lMeth 20 "moves" m_Table_moves (eVar 0) (aCons (eVar 6) aNil))) (aCons (eFz (lCall (fun ds => noX (m__law_of ds)) (aCons (eVar 2) (aCons (eVar 6) aNil)))) aNil)))))
    (sRet (eC (.bl false)))
    sNext))))
theorem ask_in (hr : rows.length ≤ 200) (d : D) (y4 y5 : Sl) (s : Str) (y7 : Sl) : ∃ y7', askIn (Ea first rows d y4 y5 (.val (.str s)) y7) = some (.nx (Ea first rows d y4 y5 (.val (.str s)) y7')) := by
  have ml := mv_len rows s
  have hk : okT (.lst ((mv rows s).map pD)) = true := okTs_pair _
  have hz : szD (.lst ((mv rows s).map pD)) ≤ 5999 := by
    show szDs _ + 1 ≤ _
    rw [sz_pair]
    omega
  have hof : ∀ ρ : Rho, eVar 2 ρ = .ok (.lst (rows.map rwD)) → eVar 6 ρ = .ok (.str s) → eFz (lCall (fun ds => noX (m__law_of ds)) (aCons (eVar 2) (aCons (eVar 6) aNil))) ρ = .ok (.lst ((mv rows s).map pD)) := fun ρ h2 h6 => fz2 (a2_ok h2 h6) (of_ok rows (by omega) s)
  refine ⟨.own ((mv rows s).map pD ++ [.tup [.str "further", .str "bad"]]), ?_⟩
  unfold askIn
  refine (seq_nx (setL_ok (lmeth_ok rfl n_mv (a1_ok rfl) (moves_ok first rows s)))).trans ?_
  refine (seq_nx ((if_no ?_).trans rfl)).trans ?_
  · show noX (bNot _ [.val (tb first rows), .val (.str first), .val (.lst (rows.map rwD)), .val d, vwS y4, vwS y5, .val (.str s), .val (.lst ((mv rows s).map pD))]) = _
    exact noX_of (neqx rfl (hof _ rfl rfl) hk hz)
  refine (seq_nx (app_ok (xs := (mv rows s).map pD) (d := .tup [.str "further", .str "bad"]) rfl rfl (by rw [List.length_map]; omega))).trans ?_
  refine (if_no (neqx (fz_ok (lmeth_ok rfl n_mv (a1_ok rfl) (moves_ok first rows s))) (hof _ rfl rfl) hk hz)).trans rfl
theorem asked_ok (hr : rows.length ≤ 200) (hg : Gdr rows) (hb : first ∈ plcL) : m__law_asked [tb first rows, .str first, .lst (rows.map rwD)] = .ok (.bl true) := by
  have hnb : first ≠ bad := fun e => plc_bad (by rw [← e]; exact hb)
  obtain ⟨r, hsc, hbest⟩ := scen_ok first (U := plcL) (by omega) hg.tgt hb hnb (by rw [plc_len]; decide)
  obtain ⟨_, hdue, rfl⟩ := due_ok (U := plcL) (by omega) hg.src (by rw [plc_len]; decide) hbest
  have hst := states_ok (U := plcL) (first := first) (rows := rows) (by omega) hg.tgt hb (by rw [plc_len]; decide)
  have hre := reached_ok (U := plcL) (first := first) (rows := rows) (by omega) hg.tgt hb (by rw [plc_len]; decide)
  have wl := (rS_wk (U := plcL) hg.tgt hb 14).len
  rw [plc_len] at wl
  obtain ⟨dk, dz, dl⟩ := due_sz hg.src hbest
  have sk : okT (.lst (sD (rS rows first 14))) = true := okTs_str _
  have sz : szD (.lst (sD (rS rows first 14))) ≤ 5999 := by
    show szDs _ + 1 ≤ _
    rw [sz_str]
    omega
  refine noX_of (runD_rt rfl ?_)
  show g__law_asked (Ea first rows .non .un .un .un .un |>.set 3 .un) = _
  unfold g__law_asked
  refine (seq_nx (set_ok (cl2 (a2_ok rfl rfl) hdue))).trans ?_
  refine (seq_nx (setM_ok (mmeth_ok rfl n_sc a0_ok hsc))).trans ?_
  show (sSeq _ _) (Ea first rows (dueD r) (mxS (resM r)) .un .un .un) = _
  have vw4 : vwS (mxS (resM r)) = .val (dueD r) := by cases r <;> rfl
  have hv : vw (Ea first rows (dueD r) (mxS (resM r)) .un .un .un) = [.val (tb first rows), .val (.str first), .val (.lst (rows.map rwD)), .val (dueD r), .val (dueD r), .un, .un, .un] := by
    show [.val (tb first rows), .val (.str first), .val (.lst (rows.map rwD)), .val (dueD r), vwS (mxS (resM r)), .un, .un, .un] = _
    rw [vw4]
  refine (seq_nx ((if_no ?_).trans rfl)).trans ?_
  · unfold bView
    rw [hv]
    exact noX_of (or_no (neqx (meth_start first rows rfl) rfl rfl (show 1 ≤ 5999 by decide)) (neqx rfl rfl dk (by omega)))
  have t4 : ∃ y4, (sIf (bView (bTest (e2 oIsNot (eVar 4) (eC .non))))
    (sApp 4 (eC (.str "further")))
    sNext) (Ea first rows (dueD r) (mxS (resM r)) .un .un .un) = some (.nx (Ea first rows (dueD r) y4 .un .un .un)) := by
    cases r with
    | none =>
      refine ⟨_, (if_no ?_).trans rfl⟩
      unfold bView
      rw [hv]
      exact noX_of (test_ok (op_ok rfl rfl rfl))
    | some ms =>
      refine ⟨_, (if_yes ?_).trans (app_ok (xs := sD ms) (d := .str "further") rfl rfl (by rw [List.length_map]; have := dl ms rfl; omega))⟩
      unfold bView
      rw [hv]
      exact noX_of (test_ok (op_ok rfl rfl rfl))
  obtain ⟨y4, h4⟩ := t4
  refine (seq_nx h4).trans ?_
  refine (seq_nx (setL_ok (lmeth_ok rfl n_st a0_ok hst))).trans ?_
  have hreF : ∀ ρ : Rho, eVar 2 ρ = .ok (.lst (rows.map rwD)) → eVar 1 ρ = .ok (.str first) → eFz (lCall (fun ds => noX (m__law_reached ds)) (aCons (eVar 2) (aCons (eVar 1) aNil))) ρ = .ok (.lst (sD (rS rows first 14))) := fun ρ h2 h1 => fz2 (a2_ok h2 h1) hre
  refine (seq_nx ((if_no ?_).trans rfl)).trans ?_
  · show noX (bNot _ [.val (tb first rows), .val (.str first), .val (.lst (rows.map rwD)), .val (dueD r), vwS y4, .val (.lst (sD (rS rows first 14))), .un, .un]) = _
    exact noX_of (neqx rfl (hreF _ rfl rfl) sk sz)
  refine (seq_nx (app_ok (xs := sD (rS rows first 14)) (d := .str "further") rfl rfl (by rw [List.length_map]; omega))).trans ?_
  show (sSeq _ _) (Ea first rows (dueD r) y4 (.own (sD (rS rows first 14) ++ [.str "further"])) .un .un) = _
  generalize hy5 : Sl.own (sD (rS rows first 14) ++ [.str "further"]) = y5
  have loop := forR_ind (g := gN 6) (b := askIn) (fun ds ρ => ∃ zs : List Str, ds = sD zs ∧ ∃ y6 y7, ρ = Ea first rows (dueD r) y4 y5 y6 y7) ?_ (sD plcL) (Ea first rows (dueD r) y4 y5 .un .un) ⟨plcL, rfl, _, _, rfl⟩
  · obtain ⟨ρ', e, _, _, y6, y7, rfl⟩ := loop
    refine (seq_nx ((for_ok (seq_val (fz2 a0_ok places_ok))).trans e)).trans ?_
    refine ret_ok (eand_ok (b := true) (c := true) ?_ ?_)
    · refine eqx (d := dueD r) ?_ rfl dk (by omega)
      show (mMeth 20 "scenario" m_Table_scenario (eVar 0) aNil _).bind _ = _
      rw [mmeth_ok rfl n_sc a0_ok hsc]
      cases r <;> rfl
    · exact eqx (fz_ok (lmeth_ok rfl n_st a0_ok hst)) (hreF _ rfl rfl) sk sz
  · rintro d ds ρ ⟨zs, hz, y6, y7, rfl⟩
    cases zs with
    | nil => cases hz
    | cons z zs =>
      cases hz
      obtain ⟨y7', e⟩ := ask_in hr (dueD r) y4 y5 z y7
      exact ⟨_, _, rfl, e, zs, rfl, _, _, rfl⟩
theorem bare_ok (hb : first ∈ plcL) : m__law_bare [tb first [], .str first] = .ok (.bl true) := by
  have hnb : first ≠ bad := fun e => plc_bad (by rw [← e]; exact hb)
  obtain ⟨r, hsc, hbest⟩ := scen_ok first (rows := []) (U := plcL) (by decide) (fun r h => by cases h) hb hnb (by rw [plc_len]; decide)
  have hst := states_ok (U := plcL) (first := first) (rows := []) (by decide) (fun r h => by cases h) hb (by rw [plc_len]; decide)
  have hr14 : rS [] first 14 = [first] := (rS_stop (rows := []) (first := first) (j := 1) (Nat.le_refl 1) 13).1
  rw [hr14] at hst
  have hn : r = none := by
    rcases hbest with ⟨h, _⟩ | ⟨n, hn, _⟩
    · exact h
    · cases n with
      | zero =>
        have := hn.1
        simp [Rb] at this
        exact absurd this hnb
      | succ n =>
        obtain ⟨m, a, hr, _⟩ := (rb_succ [] bad).mp hn.1
        cases hr
  subst hn
  refine noX_of (runD_rt rfl ?_)
  show g__law_bare [.val (tb first []), .val (.str first)] = _
  unfold g__law_bare
  refine (seq_nx ((if_no (or_no (neqx (meth_start first [] rfl) rfl rfl (show 1 ≤ 5999 by decide)) (neqx (d := .lst []) (fz_ok (lmeth_ok rfl n_mv (a1_ok rfl) (moves_ok first [] first))) rfl rfl (by decide)))).trans rfl)).trans ?_
  refine ret_ok (eand_ok (b := true) (c := true) (op_ok (a := .non) (b := .non) ?_ rfl rfl) (eqx (d := .lst (sD [first])) (fz_ok (lmeth_ok rfl n_st a0_ok hst)) rfl rfl (show 2 ≤ 5999 by decide)))
  show (mMeth 20 "scenario" m_Table_scenario (eVar 0) aNil _).bind _ = _
  rw [mmeth_ok rfl n_sc a0_ok hsc]
  rfl
theorem go_ok (hr : rows.length ≤ 200) : goTable first (rows.map rwD) = .ok (tb first rows) := by
  unfold goTable
  rw [rowsOf_map]
  exact if_pos (by omega)
end
theorem law_ok (row : List Int) (hd : Dig row) (hl : row.length ≤ 170) : g_rest (((List.replicate 9 Sl.un : Rho).set 1 (.val (.lst (row.map D.int)))) : Rho) = some (.rt (.bl true)) := by
  obtain ⟨b1, hb1, e1⟩ := begin_ok (row := row) (by omega) 0
  obtain ⟨r1, l1, n1, g1⟩ := listed_ok (row := row) (by omega) 0
  obtain ⟨b2, hb2, e2'⟩ := begin_ok (row := row) (by omega) 84
  obtain ⟨r2, l2, n2, g2⟩ := listed_ok (row := row) (by omega) 84
  show g_rest [.un, .val (.lst (row.map D.int)), .un, .un, .un, .un, .un, .un, .un] = _
  unfold g_rest
  refine (seq_nx (set_ok (cl2 (a2_ok rfl rfl) e1))).trans ?_
  refine (seq_nx (set_ok (cl2 (a2_ok rfl rfl) l1))).trans ?_
  refine (seq_nx (setL_ok (d := r1.map rwD) rfl)).trans ?_
  refine (seq_nx (set_ok (d := tb b1 r1) (go_ok n1))).trans ?_
  refine (seq_nx (app_ok (xs := r1.map rwD) (d := rwD (b1, "further", "bad")) rfl rfl (by rw [List.length_map]; omega))).trans ?_
  refine (seq_nx (set_ok (cl2 (a2_ok rfl rfl) e2'))).trans ?_
  refine (seq_nx (set_ok (cl2 (a2_ok rfl rfl) l2))).trans ?_
  refine (seq_nx (set_ok (d := tb b2 r2) (go_ok n2))).trans ?_
  have a1 := asked_ok n1 g1 hb1
  have a2 := asked_ok n2 g2 hb2
  have two : ∀ y4 : Sl, (sIf (bOr (bNot (bTest (eCall (fun ds => noX (m__law_asked ds)) (aCons (eVar 5) (aCons (eVar 2) (aCons (eVar 3) aNil)))))) (bNot (bTest (eCall (fun ds => noX (m__law_asked ds)) (aCons (eVar 8) (aCons (eVar 6) (aCons (eVar 7) aNil)))))))
    (sRet (eC (.bl false)))
    sNext) [.un, .val (.lst (row.map D.int)), .val (.str b1), .val (.lst (r1.map rwD)), y4, .val (tb b1 r1), .val (.str b2), .val (.lst (r2.map rwD)), .val (tb b2 r2)] = some (.nx [.un, .val (.lst (row.map D.int)), .val (.str b1), .val (.lst (r1.map rwD)), y4, .val (tb b1 r1), .val (.str b2), .val (.lst (r2.map rwD)), .val (tb b2 r2)]) := fun y4 =>
    (if_no (or_no (not_ok (b := true) (test_ok (cl2 (a3_ok rfl rfl rfl) a1))) (not_ok (b := true) (test_ok (cl2 (a3_ok rfl rfl rfl) a2))))).trans rfl
  refine (seq_nx (two _)).trans ?_
  refine (seq_nx (show sClr 4 _ = some (.nx [.un, .val (.lst (row.map D.int)), .val (.str b1), .val (.lst (r1.map rwD)), .own [], .val (tb b1 r1), .val (.str b2), .val (.lst (r2.map rwD)), .val (tb b2 r2)]) from rfl)).trans ?_
  refine (seq_nx (two _)).trans ?_
  have c1 := bare_ok (first := "start") (by decide)
  have c2 := bare_ok hb2
  refine (seq_nx ((if_no (or_no (not_ok (b := true) (test_ok (cl2 (a2_ok (d := tb "start" []) rfl rfl) c1))) (not_ok (b := true) (test_ok (cl2 (a2_ok (d := tb b2 []) rfl rfl) c2))))).trans rfl)).trans ?_
  refine ret_ok (eand_ok (b := true) (c := true) ?_ ?_)
  · exact (cb_ok (a2_ok rfl rfl)).trans rfl
  · exact op_ok rfl rfl (oEq_str _ _)
end P44
namespace P44
open PySem L2 Xg Xd
def faL : List He.Fa := [.glo "way_back", .keep "way_back", .glo "_law_row", .keep "_law_row", .glo "_law_digit", .keep "_law_digit", .glo "_law_pick", .keep "_law_pick", .glo "_law_whole", .keep "_law_whole", .glo "_law_equal", .keep "_law_equal", .glo "_law_places", .keep "_law_places", .glo "_law_listed", .keep "_law_listed", .glo "_law_begin", .keep "_law_begin", .glo "_law_of", .keep "_law_of", .glo "_law_far", .keep "_law_far", .glo "_law_due", .keep "_law_due", .glo "_law_reached", .keep "_law_reached", .glo "_law_asked", .keep "_law_asked", .glo "_law_bare", .keep "_law_bare", .free "abs", .free "bool", .free "dict", .free "int", .free "isinstance", .free "len", .free "list", .free "range", .free "str", .free "tuple", .glo "Table", .str "BAD" "bad", .cls "Table", .noat "Table" "first", .noat "Table" "pairs", .mkr "Table", .meth "Table" "start", .meth "Table" "moves", .meth "Table" "scenario", .meth "Table" "states", .glo "law", .keep "law"]
def fnL : List He.FnD := [Xg.fnD "way_back" S_way_back, Xg.fnD "_law_row" S__law_row, Xg.fnD "_law_digit" S__law_digit, Xg.fnD "_law_pick" S__law_pick, Xg.fnD "_law_whole" S__law_whole, Xg.fnD "_law_equal" S__law_equal, Xg.fnD "_law_places" S__law_places, Xg.fnD "_law_listed" S__law_listed, Xg.fnD "_law_begin" S__law_begin, Xg.fnD "_law_of" S__law_of, Xg.fnD "_law_far" S__law_far, Xg.fnD "_law_due" S__law_due, Xg.fnD "_law_reached" S__law_reached, Xg.fnD "_law_asked" S__law_asked, Xg.fnD "_law_bare" S__law_bare, Xg.fnD "law" S_law]
def meL : List He.FnD := [meD "Table" "start" "Table.start" S_Table_start, meD "Table" "moves" "Table.moves" S_Table_moves, meD "Table" "scenario" "Table.scenario" S_Table_scenario, meD "Table" "states" "Table.states" S_Table_states]
def AK (K : PySem.W.Frag) (tS_BAD : Tok) (nil : Addr) : Ad := { tS_BAD := tS_BAD, nil := nil, Table := He.ga K "Table", t_init := He.ma K (He.ga K "Table") "__init__", t_start := He.ma K (He.ga K "Table") "start", t_moves := He.ma K (He.ga K "Table") "moves", t_scenario := He.ma K (He.ga K "Table") "scenario", t_states := He.ma K (He.ga K "Table") "states", way_back := He.ga K "way_back", _law_row := He.ga K "_law_row", _law_digit := He.ga K "_law_digit", _law_pick := He.ga K "_law_pick", _law_whole := He.ga K "_law_whole", _law_equal := He.ga K "_law_equal", _law_places := He.ga K "_law_places", _law_listed := He.ga K "_law_listed", _law_begin := He.ga K "_law_begin", _law_of := He.ga K "_law_of", _law_far := He.ga K "_law_far", _law_due := He.ga K "_law_due", _law_reached := He.ga K "_law_reached", _law_asked := He.ga K "_law_asked", _law_bare := He.ga K "_law_bare" }
theorem fin {l : PySem.W.OpenLaw} {w : World} {K : PySem.W.Frag} {h : Heap} {mg : Str → Option Value} {fa  nil : Addr} (X : K.In h) (G : h.Ns mainGlobals mg) (hfa : mg "law" = some (.ref fa)) (c : He.obsE faL fnL K = He.valE fnL) (cm : He.obsE [] meL K = He.valE meL)
    {TT : Addr} {oc0 kV0 dc0 pm0 cd0 ct0 : Value} {od0 an0 : Option Addr} {sl0 : Array (Option Value)} {ocT : Value} {odT : Option Addr} {nT : Nat} {slT : Array (Option Value)} {tkT : Tok}
    (kt : kitB K = true)
    (j1 : K.lookup (He.ma K (He.ga K "Table") "__init__") = some ⟨oc0, od0, .func (PySem.W.fnOf "__init__" "Table.__init__" (defArgs S_Table___init__) (defBody S_Table___init__) (defScope S_Table___init__) (.ref TT) kV0 dc0 pm0 an0 cd0 ct0), sl0⟩)
    (j2 : K.lookup TT = some ⟨ocT, odT, .seq #[.str "start" tkT, .ref nil] nT, slT⟩)
    (y1 : PySem.W.codeIn K cd0 "Table.__init__" = true)
    (y2 : PySem.W.keepIn K (.ref (He.ma K (He.ga K "Table") "__init__")) = true)
    (z2 : strsB K nil [] = true) :
    ∃ fd : FuncData, (∀ (s : Shared) (u : Value), BindsTo s fd ⟨[u], []⟩ [("_law_script", u)]) ∧ ∀ base : Heap, K.In base → base.Ns mainGlobals mg → FnOk l.prog w K mg base CX0 4 fa fd ["_law_script"] (spLaw K) := by
  have c' : He.SaysE faL fnL K := c
  have cm' : He.SaysE [] meL K := cm
  have e := hfa.symm.trans (He.glo_ok X G (c'.fact 50))
  cases e
  obtain ⟨tS_BAD, hS_BAD⟩ := He.str_ok X G (c'.fact 41)
  have Mt_start := He.meth_ok (c'.fact 46)
  have Mt_moves := He.meth_ok (c'.fact 47)
  have Mt_scenario := He.meth_ok (c'.fact 48)
  have Mt_states := He.meth_ok (c'.fact 49)
  have T : Tp l.prog w K mg (AK K  tS_BAD nil) := {
    n_abs := He.free_ok X G (c'.fact 30)
    n_bool := He.free_ok X G (c'.fact 31)
    n_dict := He.free_ok X G (c'.fact 32)
    n_int := He.free_ok X G (c'.fact 33)
    n_isinstance := He.free_ok X G (c'.fact 34)
    n_len := He.free_ok X G (c'.fact 35)
    n_list := He.free_ok X G (c'.fact 36)
    n_range := He.free_ok X G (c'.fact 37)
    n_str := He.free_ok X G (c'.fact 38)
    n_tuple := He.free_ok X G (c'.fact 39)
    g_BAD := hS_BAD
    kit := kitB_ok kt
    g_Table := He.glo_ok X G (c'.fact 40)
    nil := z2
    cl_Table := He.cls_ok (c'.fact 42)
    na_Table_first := He.noat_ok (c'.fact 43)
    na_Table_pairs := He.noat_ok (c'.fact 44)
    M_Table := He.mkr_ok (c'.fact 45)
    d_tinit := ⟨_, ⟨⟨_, _, _, _, _, _, _, _, _, _, rfl, j1, y1, .inr ⟨(fun h => nomatch h), TT, _, [Value.str "start" tkT, Value.ref nil], nT, rfl, j2, rfl, .cons ⟨_, rfl⟩ (.cons rfl .nil)⟩, .inl rfl⟩, y2⟩⟩
    m_start := Mt_start
    m_moves := Mt_moves
    m_scenario := Mt_scenario
    m_states := Mt_states
    d_start := me_of cm' 0 rfl Mt_start.3 (fun _ _ _ _ _ _ us hl => match us, hl with | [_], _ => rfl)
    d_moves := me_of cm' 1 rfl Mt_moves.3 (fun _ _ _ _ _ _ us hl => match us, hl with | [_, _], _ => rfl)
    d_scenario := me_of cm' 2 rfl Mt_scenario.3 (fun _ _ _ _ _ _ us hl => match us, hl with | [_], _ => rfl)
    d_states := me_of cm' 3 rfl Mt_states.3 (fun _ _ _ _ _ _ us hl => match us, hl with | [_], _ => rfl)
    d_way_back := df_mk X G c' 0 rfl rfl rfl (fun _ _ _ _ _ _ us hl => match us, hl with | [_, _], _ => rfl)
    d__law_row := df_mk X G c' 1 rfl rfl rfl (fun _ _ _ _ _ _ us hl => match us, hl with | [_, _], _ => rfl)
    d__law_digit := df_mk X G c' 2 rfl rfl rfl (fun _ _ _ _ _ _ us hl => match us, hl with | [_, _], _ => rfl)
    d__law_pick := df_mk X G c' 3 rfl rfl rfl (fun _ _ _ _ _ _ us hl => match us, hl with | [_, _, _], _ => rfl)
    d__law_whole := df_mk X G c' 4 rfl rfl rfl (fun _ _ _ _ _ _ us hl => match us, hl with | [_], _ => rfl)
    d__law_equal := df_mk X G c' 5 rfl rfl rfl (fun _ _ _ _ _ _ us hl => match us, hl with | [_, _], _ => rfl)
    d__law_places := df_mk X G c' 6 rfl rfl rfl (fun _ _ _ _ _ _ us hl => match us, hl with | [], _ => rfl)
    d__law_listed := df_mk X G c' 7 rfl rfl rfl (fun _ _ _ _ _ _ us hl => match us, hl with | [_, _], _ => rfl)
    d__law_begin := df_mk X G c' 8 rfl rfl rfl (fun _ _ _ _ _ _ us hl => match us, hl with | [_, _], _ => rfl)
    d__law_of := df_mk X G c' 9 rfl rfl rfl (fun _ _ _ _ _ _ us hl => match us, hl with | [_, _], _ => rfl)
    d__law_far := df_mk X G c' 10 rfl rfl rfl (fun _ _ _ _ _ _ us hl => match us, hl with | [_], _ => rfl)
    d__law_due := df_mk X G c' 11 rfl rfl rfl (fun _ _ _ _ _ _ us hl => match us, hl with | [_, _], _ => rfl)
    d__law_reached := df_mk X G c' 12 rfl rfl rfl (fun _ _ _ _ _ _ us hl => match us, hl with | [_, _], _ => rfl)
    d__law_asked := df_mk X G c' 13 rfl rfl rfl (fun _ _ _ _ _ _ us hl => match us, hl with | [_, _, _], _ => rfl)
    d__law_bare := df_mk X G c' 14 rfl rfl rfl (fun _ _ _ _ _ _ us hl => match us, hl with | [_, _], _ => rfl)
  }
  obtain ⟨oc, od, osl, kV, doc, pm, an, cdv, ct, ll, cd⟩ := c'.def_ 15 (d := Xg.fnD "law" S_law) rfl
  have k := He.keep_ok (c'.fact 51)
  have F : Fun K "law" "law" S_law (He.ga K "law") _ := fun_mk ll cd k
  exact ⟨_, fun s v => .of_eq rfl, fun base _ _ => ok_law F T law_ok⟩
end P44
open PySem PySem.W PyProof.Rows L2
set_option maxRecDepth 100000 in
set_option maxHeartbeats 0 in
theorem PySem.Challenge.cw_guestlives_k44_shortest_moves_of_explici_holds : PySem.Challenge.rw_guestlives_k44_shortest_moves_of_explici.Holds := by
  w_on; o_law; k_head; (case hw => w_witness2)
  k_fill
  refine L2.walk_ofK (n := 63) (k := 4) (CX := CX0) (sp := Xd.spLaw) (x := "_law_script") rfl (by decide) rfl ⟨rfl, by decide, by decide⟩ (fun w h Y => PySem.W.kIn_of Y) ?F (fun K _ a ns hl _ hS => ⟨a, ns, rfl, hS, hl, fun _ => rfl⟩) fun _ _ _ _ z => z
  case F =>
    intro w mg fa h KX G hmg
    refine' P44.fin (l := PySem.Challenge.rw_guestlives_k44_shortest_moves_of_explici) KX G hmg ?c ?cm ?kt ?j1 ?j2 ?y1 ?y2 ?z2
    (case j1 => with_unfolding_all rfl)
    (case j2 => with_unfolding_all rfl)
    all_goals kernel_rfl
