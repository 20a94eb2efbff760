import PyProof.Rows.All
import Wide.All
import OpenK.AllK
import Wide.FinOn
import KE.KExcSuper
import HandS.ForMost
import HandS.ForExc
import HandS.ExcSuper
import HandS.ExcInit
import HandS.FStr
import HandS.ExcIs
import HandS.ExcField
import HandS.Evl
import HandS.Walk
import HandS.Zip
import HandS.IsInst
import KE.GoesEnum
import HandS.Strs
import HandS.SetFor
import HandS.More
import HandS.HeadHook1
import PySem.Challenge.RW_guestlives_k86_instructions_encode_decod
set_option Elab.async false
set_option linter.all false
set_option maxRecDepth 100000
set_option maxHeartbeats 4000000
namespace XgSup
open PySem PySem.W PySem.Calls PyProof.Rows
/-! An own error class whose maker first asks its parent for a text that shows one field, then keeps the field. -/
abbrev wrapO (x : Addr) : Obj := kxs_mw "ValueError.__init__" x
section
variable {prog : Program} {w : World} {A : Around} {E : Value → Shared → Prop} {h : Heap} {g : Array GenState} {d : Drawn} {t : Nat} {os : OsState}
variable {nm q : Str} {C N : Addr} {bs bm : List Value} {hdct : Bool} {sn : List Str} {sub : List Value} {ab : Bool} {col : Option Bool} {dd : Option Addr} {k0 k1 k2 k3 k5 : Option Value}
theorem parent_call {u e t0 : Addr} {rest : List Value} {Q : Value → Shared → Prop}
    (hC : h.get? C = some (excClassObj nm q C N bs bm hdct sn sub ab col dd k0 k1 k2 k3 k5 "ValueError.__new__"))
    (he : h.get? e = some (HandSPX.excO C t0)) (hu : h.get? u = some (wrapO e)) (hrest : rest.length ≤ sizeLine)
    (hq : ∀ h' t1, (∀ b o, b ≠ e → h.get? b = some o → h'.get? b = some o) → h'.get? e = some (HandSPX.excO C t1) → Q .none ⟨h', g, d, t, os⟩) :
    wpAny (model prog w) A (call (.ref u) rest) Q E ⟨h, g, d, t, os⟩ := by
  have FB := F.excBase_ValueError
  refine wpAny_call (codeAny_of_tree ?_)
  show wpAny _ A.in1 (callAny (.ref u) ⟨rest, []⟩) _ _ _
  simp only [callAny]
  refine wpAny_bind (wpAny_load hu ?_)
  have hmw : (Value.type "method-wrapper" == Value.type "method" || Value.type "method-wrapper" == Value.type "builtin_function_or_method" || Value.type "method-wrapper" == Value.type "method-wrapper") = true := by decide
  simp only [wrapO, kxs_mw, hmw, if_true]
  refine KFB.if_so (by decide) ?_
  refine wpAny_bind (check_bound_init FB.toExcCallFacts hC he rfl ?_)
  refine wpAny_bind (wpAny_pure (wpAny_pure ?_))
  refine ⟨plainId_quiet FB.init.plain _, codeAny_builtin FB.initEntry ?_⟩
  rw [Around.under_plainId FB.init.plain _]
  wp_walk
  refine hq _ h.objs.size (fun b o hb ho => ?_) ?_
  · rw [Heap.get?_update_other _ _ (Ne.symm hb)]
    exact Heap.get?_push_of_some _ ho
  · rw [Heap.get?_update_self _ (Heap.get?_push_of_some _ he) rfl]
    rfl
end
/-! the maker's text -/
def mA (f : Str) (p1 p2 : Pos) : Arguments := { posonlyargs := [], args := [{ arg := "self", annotation := none, pos := p1 }, { arg := f, annotation := none, pos := p2 }], vararg := none, kwonlyargs := [], kw_defaults := [], kwarg := none, defaults := [] }
def mB (f txt : Str) (a1 a2 a3 a4 a5 b1 b2 b3 b4 c1 c2 c3 c4 : Pos) : List Stmt :=
  [.Expr (.Call (.Attribute (.Call (.Name "super" a1) [] [] a2) "__init__" a3) [.JoinedStr [.Constant (.str txt) 0 b1, .FormattedValue (.Name f b2) (-1) none b3] b4] [] a4) a5,
   .Assign [.Attribute (.Name "self" c1) f c2] (.Name f c3) c4]
def mS (f : Str) : Scope := { kind := .function, names := [(PySem.Str.ofString "self", .local), (f, .local), (PySem.Str.ofString "__class__", .free), (PySem.Str.ofString "super", .globalImplicit)], isGenerator := false, isCoroutine := false, more := [] }
/-- what is asked of the field's name -/
structure FOk (f : Str) : Prop where
  db : (f == ("__debug__" : Str)) = false
  lk : (mS f).names.lookup f = some .local
  ls : (mS f).names.lookup ("self" : Str) = some .local
  lc : (mS f).names.lookup ("__class__" : Str) = some .free
  lp : (mS f).names.lookup ("super" : Str) = some .globalImplicit
  ne : (f == ("self" : Str)) = false
  sn : ("self" == f) = false
  cell : ∀ x ∈ (mS f).names, x.2 ≠ .cell
  bd : ∀ (qual : Str) (p1 p2 : Pos) (body : List Stmt) (doc pm cdv ct : Value) (an : Option Addr) (cc : Addr) (u v : Value), bindArgs (ksFn "__init__" qual (mA f p1 p2) body (mS f) .none .none doc pm an cdv ct cc) ⟨[u, v], []⟩ = pure [(("self" : Str), u), (f, v)]
theorem fok_name : FOk "name" := ⟨by decide, rfl, rfl, rfl, rfl, by decide, by decide, by decide, fun _ _ _ _ _ _ _ _ _ _ _ _ => rfl⟩
theorem fok_field : FOk "field" := ⟨by decide, rfl, rfl, rfl, rfl, by decide, by decide, by decide, fun _ _ _ _ _ _ _ _ _ _ _ _ => rfl⟩
theorem fok_action : FOk "action" := ⟨by decide, rfl, rfl, rfl, rfl, by decide, by decide, by decide, fun _ _ _ _ _ _ _ _ _ _ _ _ => rfl⟩
theorem fok_reason : FOk "reason" := ⟨by decide, rfl, rfl, rfl, rfl, by decide, by decide, by decide, fun _ _ _ _ _ _ _ _ _ _ _ _ => rfl⟩
/-- the parent's call, as the text says it -/
def askE (f txt : Str) (a1 a2 a3 a4 b1 b2 b3 b4 : Pos) : Expr := .Call (.Attribute (.Call (.Name "super" a1) [] [] a2) "__init__" a3) [.JoinedStr [.Constant (.str txt) 0 b1, .FormattedValue (.Name f b2) (-1) none b3] b4] [] a4
def AskOk (qual f txt : Str) (a1 a2 a3 a4 b1 b2 b3 b4 : Pos) (fI cda cc : Addr) : Prop := ∀ L : Addr, ∃ pl : Sem Bool, eval (askE f txt a1 a2 a3 a4 b1 b2 b3 b4) (ksEnv qual (mS f) L fI (.ref cda) cc) = (do
  let ov ← attributeBase (.Call (.Name "super" a1) [] [] a2) "__init__" (ksEnv qual (mS f) L fI (.ref cda) cc) (eval (.Call (.Name "super" a1) [] [] a2) (ksEnv qual (mS f) L fI (.ref cda) cc))
  standAt a3.atName
  let (g, first) ← holding [ov] (getMethod ov "__init__" pl)
  callWith a4 g first (backTo a4 (starEach [.JoinedStr [.Constant (.str txt) 0 b1, .FormattedValue (.Name f b2) (-1) none b3] b4] (ksEnv qual (mS f) L fI (.ref cda) cc))) [])
/-- what the written part says of the class at C and of its maker at fI -/
structure STxt (prog : Program) (K : Frag) (mg : Str → Option Value) (x f txt : Str) (C fI : Addr) : Prop where
  fok : FOk f
  gC : mg x = some (.ref C)
  cls : ∃ nm q N bs bm sn sub ab col dd k0 k1 k2 k3 k5, K.lookup C = some (excClassObj nm q C N bs bm true sn sub ab col dd k0 k1 k2 k3 k5 "ValueError.__new__") ∧ HandSPX.refsVE bm = true
  sa : findIn K (.ref C) "__setattr__" = some (some (.builtin "object.__setattr__"))
  ga : findIn K (.ref C) "__getattribute__" = some (some (.builtin "BaseException.__getattribute__"))
  gg : findIn K (.ref C) "__getattr__" = some none
  noN : findIn K (.ref C) f = some none
  iC : findIn K (.ref C) "__init__" = some (some (.ref fI))
  tC : typeIn K (.ref fI) = some (.type "function")
  kC : keepIn K (.ref C) = true
  exC : subIn K (.ref C) (.type "BaseException") = some true
  veC : subIn K (.ref C) (.type "ValueError") = some true
  tyC : typeIn K (.ref C) = some (.type "type")
  hdC : hasDictIn K C = true
  sup : ks_superIn K C C "__init__" = some (some (.builtin "ValueError.__init__"))
  slf : mroIn K C (.ref C) = some true
  nop : nsIn K cStatics "thirdparty.any" = some none
  gS : mg "super" = none
  tops : (prog.main.scope.names.lookup ("super" : Str)).isSome = false
  fn : ∃ (qual : Str) (oc : Value) (od : Option Addr) (doc pm : Value) (an : Option Addr) (cda cc : Addr) (ct : Value) (osl : Array (Option Value)) (p1 p2 a1 a2 a3 a4 a5 b1 b2 b3 b4 c1 c2 c3 c4 : Pos)
      (ccl : Value) (cdd : Option Addr) (vs : Array Value) (ccs : Array (Option Value)) (file : Str) (tf : Tok) (cl : Value) (cld : Option Addr) (csl : Array (Option Value)),
    K.lookup fI = some ⟨oc, od, .func (ksFn "__init__" qual (mA f p1 p2) (mB f txt a1 a2 a3 a4 a5 b1 b2 b3 b4 c1 c2 c3 c4) (mS f) .none .none doc pm an (.ref cda) ct cc), osl⟩ ∧ codeIn K (.ref cda) qual = true ∧
    K.lookup cda = some ⟨ccl, cdd, .fields vs, ccs⟩ ∧ vs[2]? = some (.str file tf) ∧ ((prog.main.file : Str) == file) = true ∧
    K.lookup cc = some ⟨cl, cld, .cell (some (.ref C)), csl⟩ ∧ AskOk qual f txt a1 a2 a3 a4 b1 b2 b3 b4 fI cda cc
/-- what the maker leaves of a fresh error at x -/
structure MEnd (h h' : Heap) (x C dx : Addr) (f : Str) (v : Value) : Prop where
  keep : ∀ b o, b ≠ x → h.get? b = some o → h'.get? b = some o
  obj : ∃ t1 : Addr, h'.get? x = some { cls := .ref C, dict := some dx, data := .fields #[.ref t1, .none, .none, .none, .bool false, .none] }
  dbig : h.objs.size ≤ dx
  dne : dx ≠ x
  ns : h'.Ns1 dx (fun y => if y = f then some v else none)
section
variable {prog : Program} {w : World} {A : Around} {E : Value → Shared → Prop} {R : Result → Shared → Prop} {s : Shared} {K : Frag} {mg : Str → Option Value} {xn f txt : Str} {C fI : Addr} {base : Heap}
theorem maker_run (T : STxt prog K mg xn f txt C fI) (Mo : L2.Mod K mg base) {x t0 : Addr} {y : Str} {ty : Tok} (bk : ∀ b o, base.get? b = some o → s.heap.get? b = some o) (hx : s.heap.get? x = some (HandSPX.excO C t0))
    (hnx : K.lookup x = none) (hroom : A.depth < recursionLimit) (hz : y.length ≤ sizeLine) (hzt : txt.length ≤ sizeLine) (hzz : (txt ++ y).length ≤ sizeLine)
    (hq : ∀ h' tk dx, MEnd s.heap h' x C dx f (.str y ty) → R (.ok (.ret .none)) { s with heap := h', toks := tk }) :
    codeAny (model prog w) A (.call (.ref fI) ⟨[.ref x, .str y ty], []⟩) R s := by
  obtain ⟨qual, oc, od, doc, pm, an, cda, cc, ct, osl, p1, p2, a1, a2, a3, a4, a5, b1, b2, b3, b4, c1, c2, c3, c4, ccl, cdd, vs, ccs, file, tf, cl, cld, csl, ho, hcd, hcode, hvs, hfile, hcell, hask⟩ := T.fn
  obtain ⟨nm, q, N, bs, bm, sn, sub, ab, col, dd, k0, k1, k2, k3, k5, hC, hbm⟩ := T.cls
  have FO := T.fok
  have X : K.In s.heap := Mo.kin.keeps bk
  have hlim : s.heap.NoLimit := Mo.nolimit.keeps bk
  have hcl : clsIn K C = some { name := nm, bases := bs, mro := .ref C :: bm, ns := N, qualname := q, hasDict := true, slotNames := sn, subclasses := sub, abstract := ab, collection := col, hasDel := false } := by unfold clsIn; rw [hC] <;> rfl
  refine ks_codeAny_call_defAt (fd := ksFn "__init__" qual (mA f p1 p2) (mB f txt a1 a2 a3 a4 a5 b1 b2 b3 b4 c1 c2 c3 c4) (mS f) .none .none doc pm an (.ref cda) ct cc) (binds := [(("self" : Str), .ref x), (f, .str y ty)])
    hroom (X _ _ ho) rfl hlim (codeRec_of X hcd) rfl (BindsTo.of_eq ?_) FO.cell ?_ (fun h₁ hns hk₁ => ?_) rfl rfl rfl
  · exact FO.bd _ _ _ _ _ _ _ _ _ _ _ _
  · intro y hy
    rcases List.mem_cons.mp hy with rfl | hy
    · exact FO.ls
    rcases List.mem_cons.mp hy with rfl | hy
    · exact FO.lk
    · cases hy
  · have X1 : K.In h₁ := X.keeps hk₁
    have bk1 : ∀ b o, base.get? b = some o → h₁.get? b = some o := fun b o e => hk₁ b o (bk b o e)
    have hx1 := hk₁ _ _ hx
    obtain ⟨oD, hD1, hD2⟩ : ∃ oD, h₁.get? C = some oD ∧ oD.data = .cls { name := nm, bases := bs, mro := .ref C :: bm, ns := N, qualname := q, hasDict := true, slotNames := sn, subclasses := sub, abstract := ab, collection := col, hasDel := false } := ⟨_, X1 _ _ hC, rfl⟩
    have hxC : x ≠ C := fun z => by
      rw [z, hC] at hnx
      cases hnx
    have sL : s.heap.get? s.heap.objs.size = none := by
      cases z : s.heap.get? s.heap.objs.size with
      | none => rfl
      | some o => exact absurd (Heap.lt_size z) (Nat.lt_irrefl _)
    obtain ⟨mb, hb1, hb2⟩ := Mo.blt
    refine ks_wpAt_execs_cons (ks_wpAt_Expr_any ?_)
    obtain ⟨pl, hpl⟩ := hask s.heap.objs.size
    refine ks_wpAt_MethodCall (pl := pl) ?_ hpl
    refine ks_wpAt_super_base FO.lp FO.lc (by decide) rfl (X1 _ _ ho) rfl rfl rfl (X1 _ _ hcode) rfl hvs hfile T.tops ?_
    refine ks_loadName_global rfl FO.lp (loadGlobal_builtin (Mo.glob.keeps bk1) T.gS (hb1.keeps bk1) ((hb2 _ (by decide)).trans (by decide +kernel)) ⟨rfl, ?_⟩)
    refine wpAny_loadName_free rfl FO.lc rfl ⟨_, X1 _ _ hcell, rfl⟩ ?_
    refine wpAny_loadName_local rfl FO.ls hns (v := .ref x) ?_ ?_
    · show List.lookup ("self" : Str) [(f, Value.str y ty), (("self" : Str), Value.ref x)] = some (Value.ref x)
      simp [List.lookup, FO.sn]
    refine ks_wpAny_isType_cls hD1 hD2 ⟨rfl, ?_⟩
    refine ks_wpAny_call_super hD1 hD2 hx1 rfl (fun c z => nomatch z) (looks_mroIn X1 T.slf) (fun h2 e2 k2 => ?_)
    have X2 : K.In h2 := X1.keeps k2
    have hx2 := k2 _ _ hx1
    have I2 : InstAt h2 x (HandSPX.excO C t0) C none := ⟨hx2, rfl, rfl, trivial⟩
    have hal : alongIn K "__init__" (((Value.ref C :: bm).dropWhile (· != .ref C)).drop 1) = some (some (.builtin "ValueError.__init__")) := by
      have z := T.sup
      unfold ks_superIn at z
      rw [hcl] at z
      exact z
    refine kxs_getMethod kxs_ValueError e2 (looks_opaque X2 T.nop) (l₀ := .ref C :: bm) (fun A Q E s k q => wpAny_bind ((looks_clsIn X2 hcl) A _ E s k (wpAny_pure q))) rfl X2 hal (I2.type.andThen (looks_subIn X2 T.veC)) hxC (by decide) ?_
    have k3 : ∀ b o, h2.get? b = some o → (h2.push (wrapO x)).get? b = some o := fun b o e => Heap.get?_push_of_some _ e
    have hu3 : (h2.push (wrapO x)).get? h2.objs.size = some (wrapO x) := Heap.get?_push_at rfl rfl
    have k13 : ∀ b o, h₁.get? b = some o → (h2.push (wrapO x)).get? b = some o := fun b o e => k3 b o (k2 b o e)
    have hns3 := hns.keeps k13
    have hx3 := k3 _ _ hx2
    have hC3 := k13 _ _ (X1 _ _ hC)
    refine kxs_callWith (i := "ValueError.__init__") (x := x) rfl (evalArgs_plain ?_)
    refine PyProof.Rows.spliced_more (e := .JoinedStr [.Constant (.str txt) 0 b1, .FormattedValue (.Name f b2) (-1) none b3] b4) (rest := []) (env := ksEnv qual (mS f) s.heap.objs.size fI (.ref cda) cc) (pos := a4) ?_
    refine wpAny_JoinedStr ?_
    show Joins _ _ _ [eval (.Constant (.str txt) 0 b1) _, eval (.FormattedValue (.Name f b2) (-1) none b3) _] Str.empty _ _
    refine Calls.Constant_str ⟨txt, _, rfl, ?_, ?_⟩
    · show (Str.empty ++ txt).length ≤ sizeLine
      have z : (Str.empty ++ txt).length = txt.length := by
        show (Str.empty ++ txt).cps.size = txt.cps.size
        show (Str.empty.cps ++ txt.cps).size = txt.cps.size
        rw [Array.size_append]
        exact Nat.zero_add _
      rw [z]
      exact hzt
    have zz : (Str.empty ++ txt ++ y).length ≤ sizeLine := by
      have e : Str.empty ++ txt = txt := by
        show (⟨Str.empty.cps ++ txt.cps⟩ : Str) = txt
        have e2 : Str.empty.cps ++ txt.cps = txt.cps := Array.empty_append
        rw [e2]
      rw [e]
      exact hzz
    refine wpAny_FormattedValue_plain (ESX.ldL (m := fun y' => [(("self" : Str), Value.ref x), (f, .str y ty)].reverse.lookup y') (hns3) (v := .str y ty) ?_ ?_ rfl FO.lk FO.db)
    · show List.lookup f [(f, Value.str y ty), (("self" : Str), Value.ref x)] = some (Value.str y ty)
      simp [List.lookup]
    refine wpAny_formatField_str ⟨y, _, rfl, zz, zz, ?_⟩ ⟨y, _, rfl, zz, zz, ?_⟩ hz
    all_goals
      refine PyProof.Rows.spliced_none ⟨hu3, ?_⟩
      refine parent_call hC3 hx3 hu3 (by rw [sizeLine_eq]; show 1 ≤ 16777216; decide) (fun h4 t1 k4 hx4 => ?_)
      have Lx : s.heap.objs.size ≠ x := Nat.ne_of_gt (Heap.lt_size hx)
      have hns4 : h4.Ns s.heap.objs.size (fun y' => [(("self" : Str), Value.ref x), (f, Value.str y ty)].reverse.lookup y') := by
        obtain ⟨oL, es, ep, hL, r⟩ := hns3
        exact ⟨oL, es, ep, k4 _ _ Lx hL, r⟩
      have X4 : K.In h4 := fun b o e => k4 b o (fun z => by rw [z, hnx] at e; cases e) (k13 _ _ (X1 b o e))
      refine wpAt_of_wpAny (wpAny_execs_cons (plainObj_wpAny_Assign_Attribute ?_))
      refine ESX.ldL hns4 (v := .str y ty) (by show List.lookup f [(f, Value.str y ty), (("self" : Str), Value.ref x)] = some (Value.str y ty); simp [List.lookup]) ?_ rfl FO.lk FO.db
      refine ESX.ldL hns4 (v := .ref x) (by show List.lookup ("self" : Str) [(f, Value.str y ty), (("self" : Str), Value.ref x)] = some (Value.ref x); simp [List.lookup, FO.sn]) ?_ rfl FO.ls (by decide)
      refine set_plain X4 (ox := HandSPX.excO C t1) (od := none) ⟨hx4, rfl, rfl, trivial⟩ T.sa ?_
      refine HandSPX.exc_osa X4 hx4 hcl (show HandSPX.refsVE (.ref C :: bm) = true from hbm) rfl T.noN (fun h5 tk5 dx k5 dn dne hx5 hn5 => ?_)
      refine wpAny_execs_nil (hq h5 tk5 dx ⟨fun b o hb e => k5 b o hb (k4 b o hb (k13 _ _ (hk₁ b o e))), ⟨t1, hx5⟩, ?_, dne, hn5⟩)
      have z1 : s.heap.objs.size < h4.objs.size := hns4.lt
      exact Nat.le_of_lt (Nat.lt_of_lt_of_le z1 dn)
/-- an error of C that has just been made: at e, its own dict at d -/
structure MMade (h h' : Heap) (e C d : Addr) (f : Str) (v : Value) : Prop where
  keep : ∀ b o, h.get? b = some o → h'.get? b = some o
  new : h.objs.size ≤ e
  obj : ∃ oe vs, h'.get? e = some oe ∧ oe.cls = .ref C ∧ oe.dict = some d ∧ oe.data = .fields vs ∧ vs[1]? = some .none
  dbig : h.objs.size ≤ d
  dne : d ≠ e
  ns : h'.Ns1 d (fun y => if y = f then some v else none)
theorem made_run (T : STxt prog K mg xn f txt C fI) (Mo : L2.Mod K mg base) {y : Str} {ty : Tok} (bk : ∀ b o, base.get? b = some o → s.heap.get? b = some o) (hroom : A.depth + 1 < recursionLimit)
    (hz : y.length ≤ sizeLine) (hzt : txt.length ≤ sizeLine) (hzz : (txt ++ y).length ≤ sizeLine)
    (hq : ∀ h' tk e d, MMade s.heap h' e C d f (.str y ty) → R (.ok (.ret (.ref e))) { s with heap := h', toks := tk }) :
    codeAny (model prog w) A (.call (.ref C) ⟨[.str y ty], []⟩) R s := by
  obtain ⟨nm, q, N, bs, bm, sn, sub, ab, col, dd, k0, k1, k2, k3, k5, hC, hbm⟩ := T.cls
  have X : K.In s.heap := Mo.kin.keeps bk
  obtain ⟨hp, g, dr, tk, os⟩ := s
  have old : ∀ b o, hp.get? b = some o → ((hp.push (kdv_tup [Value.str y ty])).push (HandSPX.excO C hp.objs.size)).get? b = some o := fun b o e => Heap.get?_push_of_some _ (Heap.get?_push_of_some _ e)
  have at_e : ((hp.push (kdv_tup [Value.str y ty])).push (HandSPX.excO C hp.objs.size)).get? (hp.objs.size + 1) = some (HandSPX.excO C hp.objs.size) := by heap_get
  have noK : K.lookup (hp.objs.size + 1) = none := by
    cases e : K.lookup (hp.objs.size + 1) with
    | none => rfl
    | some o =>
      have z : hp.get? (hp.objs.size + 1) = some o := X _ _ e
      exact absurd (Nat.lt_of_succ_lt (Heap.lt_size z)) (Nat.lt_irrefl _)
  refine HandSPX.call_own F.excBase_ValueError (fun X => HandSPX.refsVE_contains X bm hbm) (X _ _ hC) (looks_findIn X T.iC) (fun self => bind_fn X self T.tC) (by rw [sizeLine_eq]; show 1 ≤ 16777216; decide) ?_
  refine maker_run (s := ⟨(hp.push (kdv_tup [Value.str y ty])).push (HandSPX.excO C hp.objs.size), g, dr, tk, os⟩) T Mo (fun b o e => old b o (bk b o e)) at_e noK ?_ hz hzt hzz fun h' tk' dx M => ?_
  · show A.depth + 1 < recursionLimit
    exact hroom
  · have keep : ∀ b o, hp.get? b = some o → h'.get? b = some o := fun b o e => M.keep b o (Nat.ne_of_lt (Nat.lt_succ_of_lt (Heap.lt_size e))) (old b o e)
    have z : hp.objs.size + 1 + 1 ≤ dx := by
      have zz := M.dbig
      rw [Heap.size_push, Heap.size_push] at zz
      exact zz
    obtain ⟨t1, ho⟩ := M.obj
    exact ⟨rfl, hq h' tk' (hp.objs.size + 1) dx ⟨keep, Nat.le_succ _, ⟨_, _, ho, rfl, rfl, rfl, rfl⟩, Nat.le_trans (Nat.le_trans (Nat.le_succ _) (Nat.le_succ _)) z, M.dne, M.ns⟩⟩
end
end XgSup
namespace XgSup
open PySem L2 PySem.Spec PyProof.Rows
theorem relO_one {v : V} {v' : Value} (r : RelV v v') (f g : Str) : RelO (List.lookup g [(f, v)]) (if g = f then some v' else none) := by
  by_cases hw : g = f
  · subst hw
    rw [if_pos rfl]
    have q : List.lookup g [(g, v)] = some v := by simp [List.lookup]
    rw [q]
    exact r
  · rw [if_neg hw]
    have qw : (g == f) = false := by simpa using hw
    have q2 : List.lookup g [(f, v)] = none := by simp [List.lookup, qw]
    rw [q2]
    trivial
section
variable {X : Cx} {C fI : Addr} {xn f txt : Str}
/-- C(e), e a text -/
def tMkS (C : Addr) (f : Str) (ta : TA) : L2.St → Hp → XK → Prop := fun σ H Q => ta σ H fun vs H1 => ∃ y : Str, vs = [.str y] ∧ y.length ≤ 100000 ∧ ∀ d, H1 d = none → Q (.ref C) (some d) (upd H1 d (.xd [(f, .str y)]))
theorem pmk_sup {a : Expr} {ta : TA} {p pos : Pos} {k : Nat} (T : STxt X.prog X.K X.mg xn f txt C fI) (hlt : txt.length ≤ 100000) (hr : Room k X.A) (ha : PA X [a] ta) (hg : Gl X xn)
    (hdb : (xn == ("__debug__" : Str)) = false := by decide)
    (he : starEach (a :: []) X.env = (false, eval a X.env) :: starEach [] X.env := by rfl) (hpl : (backTo pos (starEach [] X.env)).any (·.1) = false := by rfl) :
    PMk X (.Call (.Name xn p) [a] [] pos) (tMkS C f ta) := by
  intro pins s σ H Q I h
  refine wpAny_Call_Name_kw (ld_glob I hg T.gC ?_ hdb)
  refine PySem.W.callWith_K (h₀ := X.base) I.ok.mod.kin T.kC (thn (ha.run pos pins s σ H _ I h) fun us s1 hh => ?_) he hpl
  obtain ⟨vs, H1, I1, r1, y, ev, hy, q1⟩ := hh
  subst ev
  refine ⟨I1.kIn, ?_⟩
  cases r1 with
  | cons rv rn =>
    rename_i v' us'
    cases rn
    obtain ⟨ty, rfl⟩ := rv
    show wpAny _ _ (call (.ref C) [_]) _ _ _
    have bk1 := I1.bk
    obtain ⟨hp, g, dr, tk, os⟩ := s1
    have zy : y.length ≤ sizeLine := by rw [sizeLine_eq]; omega
    have zt : txt.length ≤ sizeLine := by rw [sizeLine_eq]; omega
    have zz : (txt ++ y).length ≤ sizeLine := by
      have e : (txt ++ y).length = txt.length + y.length := by
        show (txt.cps ++ y.cps).size = txt.cps.size + y.cps.size
        exact Array.size_append
      rw [e, sizeLine_eq]
      omega
    refine wpAny_call (made_run T I1.mod bk1 (by have := hr.dp; omega) zy zt zz fun h' tk' e d M => ?_)
    show MkP X pins σ Q (.ref e) ⟨h', g, dr, tk', os⟩
    obtain ⟨oe, fv, hoe, hc, hd, hdat, h1⟩ := M.obj
    have hns := M.ns
    obtain ⟨G', g1, g2⟩ := restrict h' fun b => decide (b ≠ e)
    have gk : ∀ b, b ≠ e → G'.get? b = h'.get? b := fun b hb => g1 b (decide_eq_true hb)
    have ge : G'.get? e = none := g2 e (by simp)
    have old : ∀ b o, hp.get? b = some o → G'.get? b = some o := fun b o q => (gk b (Nat.ne_of_lt (Nat.lt_of_lt_of_le (Heap.lt_size q) M.new))).trans (M.keep b o q)
    have ob : ObjOk X.prog X.w (upd H1 d (.xd [(f, V.str y)])) G' d (.xd [(f, V.str y)]) :=
      ⟨_, hns.at (fun o q => (gk d M.dne).trans q), fun g' => relO_one (v := V.str y) (v' := Value.str y ty) (show RelV (V.str y) (Value.str y ty) from ⟨ty, rfl⟩) f g'⟩
    have J : Inv X pins σ (upd H1 d (.xd [(f, V.str y)])) ⟨G', g, dr, tk', os⟩ := I1.laid (t' := tk') old M.dbig ob
    refine ⟨e, oe, fv, ⟨G', g, dr, tk', os⟩, _, .ref C, some d, rfl, J, fun b o q => ?_, ge, hoe, ⟨hc, hd⟩, hdat, h1, ?_, rfl, I1.bare, raises_own T.exC T.tyC, q1 d (I1.hok.fresh M.dbig)⟩
    · by_cases hb : b = e
      · have q' : G'.get? b = some o := q
        rw [hb, ge] at q'; cases q'
      · exact (gk b hb).symm.trans q
    · rw [upd_ne (Ne.symm M.dne)]
      exact I1.hok.fresh M.new
end
end XgSup
namespace XgIsa
open PySem PySem.W PySem.Spec PySem.Calls PyProof.Rows
section
variable {prog : Program} {w : World} {A : Around} {E : Value → Shared → Prop} {s : Shared} {K : Frag} {x D : Addr} {ox : Obj}
theorem find_cls {C : Addr} {od : Option Obj} {name : Str} {a g : Value} (hc : (clsIn K C).isSome = true) (ha : findIn K (.ref C) name = some (some a)) (hg : specialIn K a "__get__" = some (some g)) (ht : takesIn K a = some true) :
    findObj K C od name = some (.bind g a) := by
  obtain ⟨cd, hc⟩ := Option.isSome_iff_exists.mp hc
  unfold findObj
  rw [hc, Option.bind_some, ha, Option.bind_some]
  simp [hg, ht]
theorem ask_class {od : Option Obj} {Q : Option Value → Shared → Prop} (T : L2.ExcC K D) (X : K.In s.heap) (I : InstAt s.heap x ox D od) (h : Q (some (.ref D)) { s with toks := s.toks + 1 }) : wpAny (model prog w) A (getAttr? (.ref x) "__class__") Q E s := by
  have hf : findObj K D od "__class__" = some (.bind (.builtin "getset_descriptor.__get__") (.builtin "object.__class__")) := find_cls (by obtain ⟨cd, hc, _⟩ := any_some T.hd; rw [hc]; rfl) T.ha T.hn T.ht
  obtain ⟨hp, g, d, t, os⟩ := s
  have l0 := I.type (M := model prog w)
  have l1 := looks_findIn (M := model prog w) X T.hg
  have l2 := looks_findIn (M := model prog w) X T.hk
  have l3 := looks_find (M := model prog w) X I hf
  have sub : Looks (model prog w) hp (isInstance (.ref x) (.type "BaseException")) true := l0.andThen (looks_subIn X T.hs)
  have q0 : (false && onTheHeap (Value.builtin "BaseException.__getattribute__")) = false := rfl
  have q2 : (Value.builtin "BaseException.__getattribute__" == Value.builtin "object.__getattribute__") = false := by decide +kernel
  have q1 : (onTheHeap (Value.ref D) && Value.builtin "BaseException.__getattribute__" == Value.builtin "object.__getattribute__") = false := by rw [q2]; rfl
  unfold getAttr? getAttrBy? getAttrBy
  refine wpAny_bind (wpAny_mkText (wpAny_bind (wpAny_attempt (wpAny_holding (wpAny_bind (l0.at (wpAny_bind (l1.at ?_))))))))
  show wpAny _ _ (if (onTheHeap (Value.ref D) && Value.builtin "BaseException.__getattribute__" == Value.builtin "object.__getattribute__") = true then _ else _) _ _ _
  rw [q1, if_neg Bool.false_ne_true]
  unfold getAttrByItsOwn hookBefore
  refine wpAny_bind ?_
  rw [if_pos (show onTheHeap (Value.ref D) = true from rfl)]
  refine l2.at ?_
  refine wpAny_bind (wpAny_attempt (wpAny_holding ?_))
  unfold callGetattribute
  rw [q0, if_neg Bool.false_ne_true]
  unfold boundAndCalled
  rw [PySem.F.excAttr_ValueError.ga.bind (.ref x)]
  refine wpAny_bind (wpAny_pure ?_)
  show wpAny _ _ (call (.builtin "BaseException.__getattribute__") [.ref x, .str "__class__" t]) _ _ _
  refine wpAny_call (codeAny_call_builtin PySem.F.excAttr_ValueError.ga.plain PySem.F.entry_bexc_ga ?_)
  refine @check_slot (model prog w) _ _ ⟨hp, g, d, t + 1, os⟩ "BaseException.__getattribute__" "BaseException" "__getattribute__" (.ref x) [.str "__class__" t] [] _ (by decide +kernel) (by decide +kernel) sub (PySem.F.args_bexc_ga (.ref x) (.str "__class__" t)) ?_
  unfold Builtin.«object.__getattribute__»
  refine wpAny_bind (wpAny_of_eq (a := ((Value.ref x : Value), [Value.str "__class__" t])) (by first | rfl | (simp only [slotArgs]; rfl)) ?_)
  refine wpAny_bind (wpAny_pure (wpAny_bind (l0.at (wpAny_bind (l3.at ?_)))))
  show wpAny _ _ (holding [Value.builtin "object.__class__"] (call (.builtin "getset_descriptor.__get__") [.builtin "object.__class__", .ref x, .ref D]) >>= ret) _ _ _
  refine wpAny_bind (wpAny_holding (wpAny_call (class_get (s := ⟨hp, g, d, t + 1, os⟩) (ox := ox) (od := od) X I T.hm ?_)))
  refine wpAny_pure ?_
  show wpAny _ _ (handedOut (.ref D)) _ _ _
  rw [handedOut_of (v := .ref D) rfl]
  first
    | exact wpAny_pure (wpAny_pure h)
    | exact wpAny_pure h
    | exact wpAny_pure (wpAny_bind (wpAny_pure (wpAny_pure h)))
theorem kitx_err (T : L2.ExcC K D) : KitX K (.ref x) (.ref D) (fun h => ∃ od, InstAt h x ox D od) where
  ty := fun _ _ _ ⟨_, I⟩ => I.type
  it := fun _ _ X _ => by
    obtain ⟨cdD, hcD, _⟩ := any_some T.hd
    unfold clsIn at hcD
    split at hcD
    · rename_i c' d' cd' sl' ho
      intro A' Q' E' s' k q
      unfold isType loadHead
      exact wpAny_bind (wpAny_loadPart (k _ _ (X _ _ ho)) (wpAny_pure q))
    · cases hcD
  ne := fun h tp dd its n sl X htp => by
    obtain ⟨cdD, hcD, _⟩ := any_some T.hd
    refine Bool.eq_false_iff.mpr fun q => ?_
    have e : D = tp := Value.ref.inj (beq_iff_eq.mp q)
    subst e
    unfold clsIn at hcD
    split at hcD
    · rename_i c' d' cd' sl' ho
      have z := (X _ _ ho).symm.trans htp
      cases z
    · cases hcD
  ca := fun X ⟨_, I⟩ k => ask_class T X I k
end
end XgIsa
namespace XgIsa
open PySem PySem.Spec PyProof.Rows L2
/-- isinstance(e, c), isinstance(e, (c1, c2, ..)), e the error that the suite holds at a (class at D, dict d) -/
def rIsX (K : PySem.W.Frag) (a : Addr) (cls : Value) (d : Option Addr) : List V → Hp → VK → Prop := fun xs H Q => ∃ (D : Addr) (dd : Addr) (fs : List (Str × V)) (y : V) (b : Bool), xs = [.ref a, y] ∧ cls = .ref D ∧ ExcC K D ∧ d = some dd ∧ H dd = some (.xd fs) ∧
  ((∃ u, ClsV y u ∧ PySem.W.kitOne K (.ref D) u = some b) ∨ ∃ tp cs us, y = .ref tp ∧ H tp = some (.tup cs) ∧ Paired ClsV cs us ∧ PySem.W.kitAny K (.ref D) us = some b) ∧ Q (.bl b) H
theorem call_isX {X : Cx} {a : Addr} {cls : Value} {d : Option Addr} {oe : Obj} {pn : List (Addr × Obj)} (hz : Zc cls d oe) (hf : ∃ vs, oe.data = .fields vs) : CallR (X.suite a ((a, oe) :: pn)) (.builtin "isinstance") (rIsX X.K a cls d) := by
  intro pins s σ H xs us Q I r h
  obtain ⟨D, dd, fs, y, b, rfl, ec, T, ed, hd, ho, q⟩ := h
  obtain ⟨u1, u2, rfl, r1, r2⟩ := vals2 r
  cases (show u1 = Value.ref a from r1)
  subst ec
  subst ed
  obtain ⟨hget, _⟩ := I.pin (a, oe) (List.mem_append.mpr (.inl List.mem_cons_self))
  obtain ⟨vs, hv⟩ := hf
  obtain ⟨mA, hns, _⟩ := (show ObjOk X.prog X.w H s.heap dd (.xd fs) from I.hok dd _ hd)
  obtain ⟨od, hod, _⟩ := lookIn_ns hns
  have J : PySem.W.InstAt s.heap a oe D (some od) := ⟨hget, hz.1, by unfold PySem.W.notCls; rw [hv] <;> rfl, by rw [hz.2]; exact hod⟩
  rcases ho with ⟨u, hc, e⟩ | ⟨tp, cs, ws, rfl, hT, k, e⟩
  · have ew := hc.eq r2
    subst ew
    exact PySem.W.kia_one (kitx_err T) I.kIn ⟨_, J⟩ e (fun z => nomatch z) fun tk => ⟨.bl b, H, I.kept (t' := tk) fun _ _ z => z, rfl, q⟩
  · cases (show u2 = Value.ref tp from r2)
    obtain ⟨_, its, rv, o, h1, h2, n, h3⟩ := (show ObjOk X.prog X.w H s.heap tp (.tup cs) from I.hok tp _ hT)
    have e3 := ClsV.all k rv
    subst e3
    obtain ⟨oc, od', dt, sl⟩ := o
    simp only at h2 h3
    subst h2 h3
    exact PySem.W.kia_tup (kitx_err T) I.kIn ⟨_, J⟩ h1 e (fun z => nomatch z) fun tk => ⟨.bl b, H, I.kept (t' := tk) fun _ _ z => z, rfl, q⟩
end XgIsa
namespace XgIter
open PySem PySem.Spec PyProof.Rows L2 PySem.W
/-! Pairs walked: zip of two of (list, tuple, text) in any mix; enumerate of a tuple. -/
/-- what is walked: a list, a tuple, a text -/
inductive Src where
  | L (a : Addr)
  | T (a : Addr)
  | S (z : Str)
/-- its items -/
def Src.rd (K : PySem.W.Frag) : Src → Hp → List V → Prop
  | .L a, H, xs => SqL K H a xs
  | .T a, H, xs => SqT K H a xs
  | .S z, _, xs => xs = z.cps.toList.map fun c => V.str ⟨#[c]⟩
def Src.v : Src → V
  | .L a => .ref a
  | .T a => .ref a
  | .S z => .str z
/-- the same, with the text's token -/
inductive Srm where
  | L (a : Addr)
  | T (a : Addr)
  | S (z : Str) (t : Tok)
def Srm.src : Srm → Src
  | .L a => .L a
  | .T a => .T a
  | .S z _ => .S z
def Srm.ext : Srm → List Addr
  | .L a => [a]
  | .T a => [a]
  | .S _ _ => []
def Srm.val : Srm → Value
  | .L a => .ref a
  | .T a => .ref a
  | .S z t => .str z t
def Srm.it : Srm → Addr → Nat → Heap → Prop
  | .L a, b, i, h => h.IsListIter b a i
  | .T a, b, i, h => h.IsTupleIter b a i
  | .S z t, b, i, h => h.IsStrIter b (strIterType z) z t i
def Srm.beg : Srm → Obj
  | .L a => { cls := .type "list_iterator", data := .fields #[.ref a, .int 0 0] }
  | .T a => { cls := .type "tuple_iterator", data := .fields #[.ref a, .int 0 0] }
  | .S z t => { cls := .type (strIterType z), data := .fields #[.str z t, .int 0 0] }
theorem Srm.itAt {r : Srm} {b : Addr} {i : Nat} {h h' : Heap} (st : r.it b i h) (k : ∀ o, h.get? b = some o → h'.get? b = some o) : r.it b i h' := by
  cases r with
  | L a => exact Heap.IsListIter.at st k
  | T a => exact Heap.IsTupleIter.at st k
  | S z t => obtain ⟨o, e, rest⟩ := st; exact ⟨o, k o e, rest⟩
theorem Srm.itObj {r : Srm} {b : Addr} {i : Nat} {h : Heap} (st : r.it b i h) : ∃ o, h.get? b = some o ∧ ∀ v, o.data ≠ .cell v := by
  cases r with
  | L a => obtain ⟨o, e, _, d⟩ := st; exact ⟨o, e, fun v q => by rw [d] at q; cases q⟩
  | T a => obtain ⟨o, e, _, d⟩ := st; exact ⟨o, e, fun v q => by rw [d] at q; cases q⟩
  | S z t => obtain ⟨o, e, _, d⟩ := st; exact ⟨o, e, fun v q => by rw [d] at q; cases q⟩
theorem Srm.itBeg {r : Srm} {b : Addr} {h : Heap} (e : h.get? b = some r.beg) : r.it b 0 h := by
  cases r with
  | L a => exact ⟨_, e, rfl, rfl⟩
  | T a => exact ⟨_, e, rfl, rfl⟩
  | S z t => exact ⟨_, e, rfl, rfl⟩
section
variable {X : Cx} {pins : List (Addr × Obj)} {σ : L2.St} {H : Hp} {s : Shared}
/-- what its iterator draws -/
theorem drawn (I : Inv X pins σ H s) {A : Around} (hh : A.handled = none) {r : Srm} {b : Addr} {xs : List V} (hq : r.src.rd X.K H xs) (hb : b ∉ r.ext) :
    ∃ (P : Nat → Value → Prop) (St : Nat → Heap → Prop), Draws X.prog X.w A b (b :: r.ext) xs.length P St ∧ (∀ i, r.it b i s.heap → St i s.heap) ∧ (∀ i h, St i h → r.it b i h) ∧ ∀ i v, P i v → ∃ y, xs[i]? = some y ∧ RelV y v := by
  cases r with
  | L a =>
    obtain ⟨its, rv, p, _⟩ := I.list hq
    have hne : a ≠ b := fun z => hb (by rw [z]; exact List.mem_cons_self)
    refine ⟨fun i v => its.toArray[i]? = some v, fun i h => h.IsListIter b a i ∧ h.IsList a its.toArray, ?_, fun i st => ⟨st, p.isList⟩, fun i h st => st.1, fun i v hv => ?_⟩
    · rw [rv.length]
      exact Draws.list hh b a hne its.toArray
    · have hv' : its[i]? = some v := by simpa using hv
      have hl : i < its.length := (List.getElem?_eq_some_iff.mp hv').1
      have hx : i < xs.length := by rw [rv.length]; exact hl
      obtain ⟨u, hu, ru⟩ := rv.get (List.getElem?_eq_getElem hx)
      rw [hv'] at hu
      cases hu
      exact ⟨_, List.getElem?_eq_getElem hx, ru⟩
  | T a =>
    obtain ⟨its, rv, p, _⟩ := I.tuple hq
    have hne : a ≠ b := fun z => hb (by rw [z]; exact List.mem_cons_self)
    refine ⟨fun i v => its.toArray[i]? = some v, fun i h => h.IsTupleIter b a i ∧ h.IsTuple a its.toArray, ?_, fun i st => ⟨st, p⟩, fun i h st => st.1, fun i v hv => ?_⟩
    · rw [rv.length]
      exact Draws.tuple hh b a hne its.toArray
    · have hv' : its[i]? = some v := by simpa using hv
      have hl : i < its.length := (List.getElem?_eq_some_iff.mp hv').1
      have hx : i < xs.length := by rw [rv.length]; exact hl
      obtain ⟨u, hu, ru⟩ := rv.get (List.getElem?_eq_getElem hx)
      rw [hv'] at hu
      cases hu
      exact ⟨_, List.getElem?_eq_getElem hx, ru⟩
  | S z t =>
    have hq' : xs = z.cps.toList.map fun c => V.str ⟨#[c]⟩ := hq
    subst hq'
    refine ⟨fun i v => ∃ c u, z.cps[i]? = some c ∧ v = .str ⟨#[c]⟩ u, fun i h => h.IsStrIter b (strIterType z) z t i, ?_, fun i st => st, fun i h st => st, fun i v hv => ?_⟩
    · rw [List.length_map]
      exact Draws.text hh b z t
    · obtain ⟨c, u, hc, rfl⟩ := hv
      refine ⟨.str ⟨#[c]⟩, ?_, ⟨u, rfl⟩⟩
      rw [List.getElem?_map]
      have hc' : z.cps.toList[i]? = some c := by simpa using hc
      rw [hc']
      rfl
theorem rd_inj (I : Inv X pins σ H s) {r : Src} {xs ys : List V} (h1 : r.rd X.K H xs) (h2 : r.rd X.K H ys) : xs = ys := by
  cases r with
  | L a => exact I.list_inj h1 h2
  | T a => exact I.tuple_inj h1 h2
  | S z =>
    have e1 : xs = z.cps.toList.map fun c => V.str ⟨#[c]⟩ := h1
    have e2 : ys = z.cps.toList.map fun c => V.str ⟨#[c]⟩ := h2
    rw [e1, e2]
theorem begins {r : Srm} {xs : List V} (I : Inv X pins σ H s) (hq : r.src.rd X.K H xs) : ∃ P : Heap → Prop, Begins r.val r.beg P ∧ P s.heap ∧ ∀ b ∈ r.ext, b < s.heap.objs.size := by
  cases r with
  | L a =>
    obtain ⟨its, rv, p, _⟩ := I.list hq
    exact ⟨_, begins_list a its.toArray, p.isList, fun b hb => by rw [List.mem_singleton.mp hb]; exact p.lt⟩
  | T a =>
    obtain ⟨its, rv, p, _⟩ := I.tuple hq
    obtain ⟨o, ho, _⟩ := id p
    exact ⟨_, begins_tuple a its.toArray, p, fun b hb => by rw [List.mem_singleton.mp hb]; exact Heap.lt_size ho⟩
  | S z t => exact ⟨_, begins_text z t, True.intro, fun b hb => absurd hb (by show b ∉ ([] : List Addr); simp)⟩
end
/-- two of them, in new pairs -/
def Itx (K : PySem.W.Frag) (s1 s2 : Src) : It :=
  ⟨fun i H => ∃ xs ys : List V, s1.rd K H xs ∧ s2.rd K H ys ∧ i < min xs.length ys.length,
    fun i H v H' => ∃ T x y, v = .ref T ∧ H T = none ∧ H' = upd H T (.tup [x, y]) ∧ (∀ xs, s1.rd K H xs → xs[i]? = some x) ∧ ∀ ys, s2.rd K H ys → ys[i]? = some y,
    fun i H => ∃ xs ys : List V, s1.rd K H xs ∧ s2.rd K H ys ∧ i = min xs.length ys.length⟩
theorem turn_x {P : Program} {w : World} {K : PySem.W.Frag} {elts : List Expr} {kk : Nat} {tpos : Pos} {r1 r2 : Srm} {z TI TO i1 i2 : Addr} (D : ZipSep2 z TI TO i1 i2 (i1 :: r1.ext) (i2 :: r2.ext)) (n1 : i1 ∉ r1.ext) (n2 : i2 ∉ r2.ext) :
    Turn P w K (.Tuple elts kk tpos) (Itx K r1.src r2.src) [z, TI, TO, i1, i2] z (fun i h => IsZip h z TI TO .none ∧ IsTupOf2 h TI (.ref i1) (.ref i2) ∧ (∃ x y, IsTupOf2 h TO x y) ∧ r1.it i1 i h ∧ r2.it i2 i h) where
  mem := by simp
  obj := fun i h st c hc => by
    obtain ⟨hz, hTI, ⟨x, y, hTO⟩, h1, h2⟩ := st
    have e' : c = z ∨ c = TI ∨ c = TO ∨ c = i1 ∨ c = i2 := by simpa using hc
    rcases e' with q | q | q | q | q
    · rw [q]; exact ⟨_, hz, fun v q => nomatch q⟩
    · rw [q]; exact ⟨_, hTI, fun v q => nomatch q⟩
    · rw [q]; exact ⟨_, hTO, fun v q => nomatch q⟩
    · rw [q]; exact Srm.itObj h1
    · rw [q]; exact Srm.itObj h2
  keep := fun i h h' st k => by
    obtain ⟨hz, hTI, ⟨x, y, hTO⟩, h1, h2⟩ := st
    exact ⟨k z (by simp) _ hz, k TI (by simp) _ hTI, ⟨x, y, k TO (by simp) _ hTO⟩, Srm.itAt h1 fun o q => k i1 (by simp) o q, Srm.itAt h2 fun o q => k i2 (by simp) o q⟩
  item := by
    intro X hP hw hK hc i pins s σ H E I hf st hg
    subst hP hw hK
    obtain ⟨hz, hTI, hTO, h1, h2⟩ := st
    obtain ⟨xs, ys, hqx, hqy, hlt⟩ := hg
    have hh : X.A.in1.handled = none := I.ok.hd hc
    obtain ⟨P1, S1, D1, a1, b1, c1⟩ := drawn I hh hqx n1
    obtain ⟨P2, S2, D2, a2, b2, c2⟩ := drawn I hh hqy n2
    have W := WalksT.zipD2 D D1 D2
    refine W.item i s _ _ hlt ⟨hz, hTI, hTO, a1 i h1, a2 i h2⟩ fun T vals h' tk hv hT hIs hM hk => ⟨.ref T, rfl, ?_⟩
    obtain ⟨v1, v2, p1, p2, rfl⟩ := hv
    obtain ⟨x, hx, rx⟩ := c1 i v1 p1
    obtain ⟨y, hy, ry⟩ := c2 i v2 p2
    refine W.go elts kk tpos i T _ _ _ hM fun h'' hst hk2 => ?_
    have apT := W.apart i T h' hM
    obtain ⟨oT, hoT, hcT, nT, hdT⟩ := hIs
    have hoT2 := hk2 T oT apT hoT
    have new : ObjOk X.prog X.w (upd H T (.tup [x, y])) h'' T (.tup [x, y]) := ⟨by show 2 ≤ sizeLine; decide, [v1, v2], .cons rx (.cons ry .nil), ⟨oT, hoT2, hcT, nT, hdT⟩⟩
    have wr5 : ∀ c, c ∈ [z, TO, i1, i2] → c ∈ [z, TI, TO, i1, i2] := fun c hcm => by
      have e' : c = z ∨ c = TO ∨ c = i1 ∨ c = i2 := by simpa using hcm
      rcases e' with q | q | q | q <;> simp [q]
    have I1 : Inv X pins σ (upd H T (.tup [x, y])) { s with heap := h'', toks := tk } :=
      I.turnedNew (t' := tk) (ch := [z, TI, TO, i1, i2]) (fun c o hb q => hk2 c o (fun z => hb (wr5 c z)) (hk c o (fun z => hb (wr5 c z)) q)) hf hT new
    obtain ⟨gz, gTI, gTO, g1, g2⟩ := hst
    refine ⟨.ref T, _, I1, rfl, ⟨T, x, y, rfl, I.hok.fresh hT, rfl, fun l hl => by rw [rd_inj I hl hqx]; exact hx, fun l hl => by rw [rd_inj I hl hqy]; exact hy⟩, ⟨gz, gTI, gTO, b1 _ _ g1, b2 _ _ g2⟩, fun c hcm => ?_⟩
    have hlt2 : c < s.heap.objs.size := by
      have e' : c = z ∨ c = TI ∨ c = TO ∨ c = i1 ∨ c = i2 := by simpa using hcm
      obtain ⟨_, _, hTO⟩ := hTO
      rcases e' with q | q | q | q | q
      · rw [q]; exact Heap.lt_size hz
      · rw [q]; exact Heap.lt_size hTI
      · rw [q]; exact Heap.lt_size hTO
      · rw [q]; obtain ⟨_, e1, _⟩ := Srm.itObj h1; exact Heap.lt_size e1
      · rw [q]; obtain ⟨_, e2, _⟩ := Srm.itObj h2; exact Heap.lt_size e2
    rw [upd_ne (Nat.ne_of_lt (Nat.lt_of_lt_of_le hlt2 hT))]
    exact (hf c hcm).1
  done := by
    intro X hP hw hK hc i pins s σ H E I hf st hg
    subst hP hw hK
    obtain ⟨hz, hTI, hTO, h1, h2⟩ := st
    obtain ⟨xs, ys, hqx, hqy, rfl⟩ := hg
    have hh : X.A.in1.handled = none := I.ok.hd hc
    obtain ⟨P1, S1, D1, a1, b1, c1⟩ := drawn I hh hqx n1
    obtain ⟨P2, S2, D2, a2, b2, c2⟩ := drawn I hh hqy n2
    have W := WalksT.zipD2 D D1 D2
    have wr5 : ∀ c, c ∈ [z, TO, i1, i2] → c ∈ [z, TI, TO, i1, i2] := fun c hcm => by
      have e' : c = z ∨ c = TO ∨ c = i1 ∨ c = i2 := by simpa using hcm
      rcases e' with q | q | q | q <;> simp [q]
    exact W.done s _ _ ⟨hz, hTI, hTO, a1 _ h1, a2 _ h2⟩ fun h' tk hk => ⟨rfl, I.turnedL (t' := tk) (ch := [z, TI, TO, i1, i2]) (fun c o hb q => hk c o (fun z => hb (wr5 c z)) q) hf⟩
  self := fun A i s Q E st h => wpAny_pyIter_zip st.1 h
def iZipX (K : PySem.W.Frag) (ta : TA) : TI := fun σ H R => ta σ H fun vs H1 => ∃ s1 s2 : Src, vs = [s1.v, s2.v] ∧ (∃ xs, s1.rd K H1 xs) ∧ (∃ ys, s2.rd K H1 ys) ∧ R (Itx K s1 s2) H1
theorem srm_of {s1 : Src} {u : Value} (r : RelV s1.v u) : ∃ r1 : Srm, r1.src = s1 ∧ u = r1.val := by
  cases s1 with
  | L a => exact ⟨.L a, rfl, r⟩
  | T a => exact ⟨.T a, rfl, r⟩
  | S z => obtain ⟨t, e⟩ := (show ∃ t, u = Value.str z t from r); exact ⟨.S z t, rfl, e⟩
theorem pi_zipX {X : Cx} {e e2 : Expr} {ta : TA} {p pos tpos : Pos} {elts : List Expr} {kk : Nat} (hg : Gl X "zip") (hm : X.mg "zip" = none) (ha : PA X [e, e2] ta)
    (hs : starEach [e, e2] X.env = (false, eval e X.env) :: starEach [e2] X.env := by rfl) (hpl : (backTo pos (starEach [e2] X.env)).any (·.1) = false := by rfl) :
    PI X (.Tuple elts kk tpos) (.Call (.Name "zip" p) [e, e2] [] pos) (iZipX X.K ta) := by
  refine ⟨fun pins s σ H R I h => ?_⟩
  refine Call_ (ld_blt I hg hm PyProof.Rows.boot_zip (PyProof.Rows.callWith_type1 (thn (ha.run pos pins s σ H _ I h) fun us s1 ⟨vs, H1, I1, r1, q1⟩ => ?_) hs hpl))
  obtain ⟨sa, sb, ex, ⟨xs, hqx⟩, ⟨ys, hqy⟩, q⟩ := q1
  subst ex
  obtain ⟨u1, u2, rfl, ra, rb⟩ := vals2 r1
  obtain ⟨m1, rfl, rfl⟩ := srm_of ra
  obtain ⟨m2, rfl, rfl⟩ := srm_of rb
  obtain ⟨Pa, Ba, pa, la⟩ := begins I1 hqx
  obtain ⟨Pb, Bb, pb, lb⟩ := begins I1 hqy
  refine zip_begins2 Ba Bb pa pb fun h' hz hTI hTO g1 g2 hsz hk => wpAny_pyIter_zip hz ?_
  have I2 : Inv X pins σ H1 { s1 with heap := h' } := I1.kept (t' := s1.toks) hk
  have fresh5 : ∀ c, c ∈ [s1.heap.objs.size + 4, s1.heap.objs.size + 2, s1.heap.objs.size + 3, s1.heap.objs.size, s1.heap.objs.size + 1] → FpOk X pins H1 c := fun c hcm => by
    have e' : c = s1.heap.objs.size + 4 ∨ c = s1.heap.objs.size + 2 ∨ c = s1.heap.objs.size + 3 ∨ c = s1.heap.objs.size ∨ c = s1.heap.objs.size + 1 := by simpa using hcm
    have hle : s1.heap.objs.size ≤ c := by
      rcases e' with z | z | z | z | z
      · rw [z]; exact Nat.le_add_right _ _
      · rw [z]; exact Nat.le_add_right _ _
      · rw [z]; exact Nat.le_add_right _ _
      · rw [z]; exact Nat.le_refl _
      · rw [z]; exact Nat.le_add_right _ _
    exact I1.fpOk hle (I1.hok.fresh hle)
  exact ⟨s1.heap.objs.size + 4, [s1.heap.objs.size + 4, s1.heap.objs.size + 2, s1.heap.objs.size + 3, s1.heap.objs.size, s1.heap.objs.size + 1], _, _, H1, rfl, I2,
    turn_x (zip_sep2 la lb) (fun hm => absurd (la _ hm) (Nat.lt_irrefl _)) (fun hm => absurd (lb _ hm) (by intro z; exact absurd z (Nat.not_lt.mpr (Nat.le_succ _)))), ⟨hz, hTI, ⟨_, _, hTO⟩, Srm.itBeg g1, Srm.itBeg g2⟩, fresh5, q⟩
theorem walk_x {K : PySem.W.Frag} {s1 s2 : Src} {G : Hp → Prop} {xs ys : List V} (h1 : ∀ H, G H → s1.rd K H xs) (h2 : ∀ H, G H → s2.rd K H ys) :
    L2.Walk (Itx K s1 s2) (min xs.length ys.length) G (L2.YPair (fun i => xs[i]?) fun i => ys[i]?) where
  goes := fun i H hi g => ⟨xs, ys, h1 H g, h2 H g, hi⟩
  stops := fun H g => ⟨xs, ys, h1 H g, h2 H g, rfl⟩
  yields := fun i H v H' hi g ⟨T, x, y, e, n, eh, q1, q2⟩ => ⟨T, x, y, e, n, eh, q1 _ (h1 H g), q2 _ (h2 H g)⟩
/-! enumerate of a list, a tuple, a text -/
set_option maxHeartbeats 4000000 in
theorem enum_new {v : Value} {o : Obj} {P : Heap → Prop} (B : Begins v o P) :
    Meets (Builtin.«enumerate.__new__» ⟨[.type "enumerate", v], []⟩) (fun _ R s => P s.heap ∧
      R (.ok (.ret (.ref (s.heap.push o).objs.size))) { s with heap := (s.heap.push o).push { cls := .type "enumerate", data := .fields #[.none, .bool false, .ref s.heap.objs.size, rawInt 0, .none, .none] } }) :=
  .of_wp fun prog w A R s hyp => by
    obtain ⟨hp, g, d, tk, os⟩ := s
    obtain ⟨h1, hyp⟩ := hyp
    have hsub := sub_enumerate
    have q1 : ∀ {A' : Around} {E : Value → Shared → Prop} {Q : Value → Shared → Prop}, Q (.ref hp.objs.size) ⟨hp.push o, g, d, tk, os⟩ → wpAny (model prog w) A' (pyIter v) Q E ⟨hp, g, d, tk, os⟩ :=
      fun q => B.iter prog w _ _ ⟨hp, g, d, tk, os⟩ _ h1 q
    wp_walk using q1
    refine wpAny_stack_any fun st => wpAny_pure ?_
    split
    · rename_i c _ _ _ _ _
      cases (c == Value.type "enumerate")
      · wp_walk using q1
        exact ⟨_, rfl, hyp⟩
      · wp_walk using q1
        exact ⟨_, rfl, hyp⟩
    · wp_walk using q1
      exact ⟨_, rfl, hyp⟩
theorem enum_call {prog : Program} {w : World} {A : Around} {E : Value → Shared → Prop} {s : Shared} {v : Value} {o : Obj} {P : Heap → Prop} {Q : Value → Shared → Prop} (B : Begins v o P) (h1 : P s.heap)
    (h : ∀ h', IsEnum h' (s.heap.objs.size + 1) s.heap.objs.size 0 .none → h'.get? s.heap.objs.size = some o → (∀ b u, s.heap.get? b = some u → h'.get? b = some u) → Q (.ref (s.heap.objs.size + 1)) { s with heap := h' }) :
    wpAny (model prog w) A (call (.type "enumerate") [v]) Q E s := by
  refine callType_new F.called_enumerate (by decide) (F.typeCall_enumerate_1 _) (F.newCall_enumerate_1 _) (fun obj => F.args_object_init_2 obj _) F.entry_enumerate_new
    (enum_new B) ⟨h1, ?_⟩
  have hz : (s.heap.push o).objs.size = s.heap.objs.size + 1 := Heap.size_push ..
  show _ ∧ _
  rw [hz]
  have he : IsEnum ((s.heap.push o).push { cls := .type "enumerate", data := .fields #[.none, .bool false, .ref s.heap.objs.size, rawInt 0, .none, .none] }) (s.heap.objs.size + 1) s.heap.objs.size 0 .none := by
    have z := Heap.get?_push_size (s.heap.push o) (o := { cls := .type "enumerate", data := .fields #[.none, .bool false, .ref s.heap.objs.size, rawInt 0, .none, .none] }) rfl
    rw [hz] at z
    exact z
  exact ⟨⟨_, he, rfl⟩, h _ he (Heap.get?_push_of_some _ (Heap.get?_push_size _ B.free)) fun b u x => Heap.get?_push_of_some _ (Heap.get?_push_of_some _ x)⟩
def Ity (K : PySem.W.Frag) (s1 : Src) : It :=
  ⟨fun i H => ∃ xs : List V, s1.rd K H xs ∧ i < xs.length,
    fun i H v H' => ∃ T y, v = .ref T ∧ H T = none ∧ H' = upd H T (.tup [.int (i : Nat), y]) ∧ ∀ xs, s1.rd K H xs → xs[i]? = some y,
    fun i H => ∃ xs : List V, s1.rd K H xs ∧ i = xs.length⟩
theorem turn_y {P : Program} {w : World} {K : PySem.W.Frag} {elts : List Expr} {kk : Nat} {tpos : Pos} {r1 : Srm} {e i1 : Addr} (n1 : i1 ∉ r1.ext) (he1 : e ≠ i1) (he2 : e ∉ r1.ext) :
    Turn P w K (.Tuple elts kk tpos) (Ity K r1.src) [e, i1] e (fun i h => (∃ old, IsEnum h e i1 ((0 : Int) + (i : Int)) old) ∧ r1.it i1 i h) where
  mem := by simp
  obj := fun i h st c hc => by
    obtain ⟨⟨old, he⟩, h1⟩ := st
    have e' : c = e ∨ c = i1 := by simpa using hc
    rcases e' with q | q
    · rw [q]; exact ⟨_, he, fun v q => nomatch q⟩
    · rw [q]; exact Srm.itObj h1
  keep := fun i h h' st k => by
    obtain ⟨⟨old, he⟩, h1⟩ := st
    exact ⟨⟨old, k e (by simp) _ he⟩, Srm.itAt h1 fun o q => k i1 (by simp) o q⟩
  item := by
    intro X hP hw hK hc i pins s σ H E I hf st hg
    subst hP hw hK
    obtain ⟨he, h1⟩ := st
    obtain ⟨xs, hqx, hlt⟩ := hg
    have hh : X.A.in1.handled = none := I.ok.hd hc
    obtain ⟨P1, S1, D1, a1, b1, c1⟩ := drawn I hh hqx n1
    have W := WalksT.enumFrom 0 D1 e he1 (by intro z; rcases List.mem_cons.mp z with z | z; exact he1 z; exact he2 z) List.mem_cons_self
    refine W.item i s _ _ hlt ⟨he, a1 i h1⟩ fun T vals h' tk hv hT hIs hM hk => ⟨.ref T, rfl, ?_⟩
    obtain ⟨t1, v1, p1, rfl⟩ := hv
    obtain ⟨x, hx, rx⟩ := c1 i v1 p1
    refine W.go elts kk tpos i T _ _ _ hM fun h'' hst hk2 => ?_
    have apT := W.apart i T h' hM
    obtain ⟨oT, hoT, hcT, nT, hdT⟩ := hIs
    have hoT2 := hk2 T oT apT hoT
    have e0 : (0 : Int) + (i : Int) = ((i : Nat) : Int) := by omega
    rw [e0] at hdT
    have new : ObjOk X.prog X.w (upd H T (.tup [.int (i : Nat), x])) h'' T (.tup [.int (i : Nat), x]) := ⟨by show 2 ≤ sizeLine; decide, [.int (i : Nat) t1, v1], .cons ⟨_, rfl⟩ (.cons rx .nil), ⟨oT, hoT2, hcT, nT, hdT⟩⟩
    have I1 : Inv X pins σ (upd H T (.tup [.int (i : Nat), x])) { s with heap := h'', toks := tk } :=
      I.turnedNew (t' := tk) (ch := [e, i1]) (fun c o hb q => hk2 c o hb (hk c o hb q)) hf hT new
    obtain ⟨ge, g1⟩ := hst
    refine ⟨.ref T, _, I1, rfl, ⟨T, x, rfl, I.hok.fresh hT, rfl, fun l hl => by rw [rd_inj I hl hqx]; exact hx⟩, ⟨ge, b1 _ _ g1⟩, fun c hcm => ?_⟩
    have hlt2 : c < s.heap.objs.size := by
      have e' : c = e ∨ c = i1 := by simpa using hcm
      obtain ⟨_, he⟩ := he
      rcases e' with q | q
      · rw [q]; exact Heap.lt_size he
      · rw [q]; obtain ⟨_, e1, _⟩ := Srm.itObj h1; exact Heap.lt_size e1
    rw [upd_ne (Nat.ne_of_lt (Nat.lt_of_lt_of_le hlt2 hT))]
    exact (hf c hcm).1
  done := by
    intro X hP hw hK hc i pins s σ H E I hf st hg
    subst hP hw hK
    obtain ⟨he, h1⟩ := st
    obtain ⟨xs, hqx, rfl⟩ := hg
    have hh : X.A.in1.handled = none := I.ok.hd hc
    obtain ⟨P1, S1, D1, a1, b1, c1⟩ := drawn I hh hqx n1
    have W := WalksT.enumFrom 0 D1 e he1 (by intro z; rcases List.mem_cons.mp z with z | z; exact he1 z; exact he2 z) List.mem_cons_self
    exact W.done s _ _ ⟨he, a1 _ h1⟩ fun h' tk hk => ⟨rfl, I.turnedL (t' := tk) (ch := [e, i1]) (fun c o hb q => hk c o hb q) hf⟩
  self := fun A i s Q E st h => let ⟨⟨_, he⟩, _⟩ := st; wpAny_pyIter_enum he h
def iEnumX (K : PySem.W.Frag) (ta : TA) : TI := fun σ H R => ta σ H fun vs H1 => ∃ s1 : Src, vs = [s1.v] ∧ (∃ xs, s1.rd K H1 xs) ∧ R (Ity K s1) H1
theorem pi_enumX {X : Cx} {e : Expr} {ta : TA} {p pos tpos : Pos} {elts : List Expr} {kk : Nat} (hg : Gl X "enumerate") (hm : X.mg "enumerate" = none) (ha : PA X [e] ta) (hs : starEach [e] X.env = [(false, eval e X.env)] := by rfl) :
    PI X (.Tuple elts kk tpos) (.Call (.Name "enumerate" p) [e] [] pos) (iEnumX X.K ta) := by
  refine ⟨fun pins s σ H R I h => ?_⟩
  refine Call_ (ld_blt I hg hm boot_enumerate (PyProof.Rows.callWith_type1 (thn (ha.run pos pins s σ H _ I h) fun us s1 ⟨vs, H1, I1, r1, q1⟩ => ?_) hs rfl))
  obtain ⟨sa, ex, ⟨xs, hqx⟩, q⟩ := q1
  subst ex
  cases r1 with
  | cons ra rr =>
    cases rr
    obtain ⟨m1, rfl, rfl⟩ := srm_of ra
    obtain ⟨Pa, Ba, pa, la⟩ := begins I1 hqx
    refine enum_call Ba pa fun h' he g1 hk => wpAny_pyIter_enum he ?_
    have I2 : Inv X pins σ H1 { s1 with heap := h' } := I1.kept (t' := s1.toks) hk
    refine ⟨s1.heap.objs.size + 1, [s1.heap.objs.size + 1, s1.heap.objs.size], _, _, H1, rfl, I2,
      turn_y (fun hm => absurd (la _ hm) (Nat.lt_irrefl _)) (Nat.succ_ne_self _) (fun hm => absurd (la _ hm) (by intro z; exact absurd z (Nat.not_lt.mpr (Nat.le_succ _)))), ⟨⟨.none, he⟩, Srm.itBeg g1⟩, fun b hb => ?_, q⟩
    have e' : b = s1.heap.objs.size + 1 ∨ b = s1.heap.objs.size := by simpa using hb
    have hle : s1.heap.objs.size ≤ b := by
      rcases e' with z | z
      · rw [z]; exact Nat.le_add_right _ _
      · rw [z]; exact Nat.le_refl _
    exact I1.fpOk hle (I1.hok.fresh hle)
theorem walk_y {K : PySem.W.Frag} {s1 : Src} {G : Hp → Prop} {xs : List V} (h1 : ∀ H, G H → s1.rd K H xs) :
    L2.Walk (Ity K s1) xs.length G (L2.YPair (fun i => some (.int (i : Nat))) fun i => xs[i]?) where
  goes := fun i H hi g => ⟨xs, h1 H g, hi⟩
  stops := fun H g => ⟨xs, h1 H g, rfl⟩
  yields := fun i H v H' hi g ⟨T, x, e, n, eh, q1⟩ => ⟨T, _, x, e, n, eh, rfl, q1 _ (h1 H g)⟩
end XgIter
namespace XgSet
open PySem PySem.Spec PyProof.Rows L2
/-- set(t), t a tuple of ints -/
def rSetT (K : PySem.W.Frag) (w : World) : List V → Hp → VK → Prop := fun xs H Q => ∃ (l : Addr) (ns : List Int), xs = [.ref l] ∧ SqT K H l (ns.map V.int) ∧ ns.length ≤ 50 ∧
  ∀ (a : Addr) (c : Nat), H a = none → c ≤ ns.length → Q (.ref a) (upd H a (SetO w a (fun j => decide (j ∈ ns)) c))
theorem cr_setT {X : Cx} (hc : X.calm = true) : CallR X (.type "set") (rSetT X.K X.w) := by
  intro pins s σ H xs us Q I r h
  obtain ⟨l, ns, rfl, hq, hl, q⟩ := h
  cases r with
  | cons r rr =>
    cases rr
    cases r
    obtain ⟨its, rv, pt, hz⟩ := I.tuple hq
    have hi : IntsAre its.toArray.toList ns := ints_of_vals rv
    have hd := I.ok.hd hc
    refine call_set_tupI ns hd (show s.heap.IsTuple l its.toArray from pt) hi (by unfold scanBound; omega) fun h' tk c R1 hcn k => ?_
    have hn : H s.heap.objs.size = none := I.hok.fresh (Nat.le_refl _)
    exact ⟨.ref s.heap.objs.size, _, I.laid (t' := tk) k (Nat.le_refl _) (setO_new R1), rfl, q _ c hn hcn⟩
end XgSet
namespace Xg
open PySem L2
/-! ### tuples of the written part, read by a computation -/
def kTup (K : PySem.W.Frag) (a : Addr) : Option (List Value) := match K.lookup a with
  | some ⟨.type "tuple", _, .seq its _, _⟩ => if its.size ≤ 1000 then some its.toList else none
  | _ => none
theorem kTup_sq {K : PySem.W.Frag} {a : Addr} {us : List Value} (h : kTup K a = some us) {xs : List V} (r : Vals xs us) (H : Hp) : SqT K H a xs := by
  unfold kTup at h
  split at h
  · rename_i d its n sl e
    split at h
    · rename_i hz
      cases h
      exact Or.inr ⟨_, its, n, e, rfl, rfl, Nat.le_trans hz (by decide), r⟩
    · cases h
  · cases h
def strsV : List Value → List Str → Bool
  | [], [] => true
  | .str x _ :: us, z :: zs => decide (x = z) && strsV us zs
  | _, _ => false
theorem strsV_vals : ∀ {us : List Value} {zs : List Str}, strsV us zs = true → Vals (zs.map V.str) us
  | [], [], _ => .nil
  | [], _ :: _, h => by simp [strsV] at h
  | u :: us, [], h => by cases u <;> simp [strsV] at h
  | u :: us, z :: zs, h => by
    cases u with
    | str x t =>
      have h' : (decide (x = z) && strsV us zs) = true := h
      obtain ⟨h1, h2⟩ := Bool.and_eq_true_iff.mp h'
      have e := of_decide_eq_true h1
      subst e
      exact .cons ⟨t, rfl⟩ (strsV_vals h2)
    | _ => simp [strsV] at h
def strsB (K : PySem.W.Frag) (a : Addr) (zs : List Str) : Bool := match kTup K a with
  | some us => strsV us zs
  | none => false
theorem strsB_sq {K : PySem.W.Frag} {a : Addr} {zs : List Str} (h : strsB K a zs = true) (H : Hp) : SqT K H a (zs.map V.str) := by
  unfold strsB at h
  split at h
  · rename_i us e
    exact kTup_sq e (strsV_vals h) H
  · cases h
def pairsV (K : PySem.W.Frag) : List Value → List (Str × Str) → Bool
  | [], [] => true
  | .ref b :: us, z :: zs => strsB K b [z.1, z.2] && pairsV K us zs
  | _, _ => false
theorem pairsV_as {K : PySem.W.Frag} : ∀ {us : List Value} {zs : List (Str × Str)}, pairsV K us zs = true → ∃ as : List Addr, as.length = zs.length ∧ Vals (as.map V.ref) us ∧
    ∀ (i : Nat) (b : Addr) (z : Str × Str), as[i]? = some b → zs[i]? = some z → ∀ H, SqT K H b [V.str z.1, V.str z.2]
  | [], [], _ => ⟨[], rfl, .nil, fun i b z h => by simp at h⟩
  | [], _ :: _, h => by simp [pairsV] at h
  | u :: us, [], h => by cases u <;> simp [pairsV] at h
  | u :: us, z :: zs, h => by
    cases u with
    | ref b =>
      have h' : (strsB K b [z.1, z.2] && pairsV K us zs) = true := h
      obtain ⟨h1, h2⟩ := Bool.and_eq_true_iff.mp h'
      obtain ⟨as, l, v, k⟩ := pairsV_as h2
      refine ⟨b :: as, by simp [l], .cons rfl v, fun i b' z' e1 e2 H => ?_⟩
      cases i with
      | zero =>
        have q1 : b = b' := by simpa using e1
        have q2 : z = z' := by simpa using e2
        subst q1
        subst q2
        exact strsB_sq h1 H
      | succ i => exact k i b' z' (by simpa using e1) (by simpa using e2) H
    | _ => simp [pairsV] at h
def pairsB (K : PySem.W.Frag) (a : Addr) (zs : List (Str × Str)) : Bool := match kTup K a with
  | some us => pairsV K us zs
  | none => false
theorem pairsB_sq {K : PySem.W.Frag} {a : Addr} {zs : List (Str × Str)} (h : pairsB K a zs = true) : ∃ as : List Addr, as.length = zs.length ∧ (∀ H, SqT K H a (as.map V.ref)) ∧
    ∀ (i : Nat) (b : Addr) (z : Str × Str), as[i]? = some b → zs[i]? = some z → ∀ H, SqT K H b [V.str z.1, V.str z.2] := by
  unfold pairsB at h
  split at h
  · rename_i us e
    obtain ⟨as, l, v, k⟩ := pairsV_as h
    exact ⟨as, l, fun H => kTup_sq e v H, k⟩
  · cases h
/-! ### a def of the text as its callers see it -/
structure Df (K : PySem.W.Frag) (mg : Str → Option Value) (x qual : Str) (st : Stmt) (f : Addr) (ps : List Str) : Prop where
  g : mg x = some (.ref f)
  k : PySem.W.keepIn K (.ref f) = true
  ex : ∃ fd, Fun K x qual st f fd ∧ Binds K fd ps []
/-! ### heaps -/
theorem same_new {H H' : Hp} {p : Addr} {o : HO} (e : Same H H') (h : H' p = none) : Same H (upd H' p o) := fun b u q => by
  rw [upd_ne (ne_of_none (e b u q) h)]
  exact e b u q
theorem same_mut {H H' : Hp} {p : Addr} {o : HO} (e : Same H H') (h : H p = none) : Same H (upd H' p o) := fun b u q => by
  rw [upd_ne (ne_of_none q h)]
  exact e b u q
theorem same_sqT {K : PySem.W.Frag} {H H' : Hp} {a : Addr} {xs : List V} (e : Same H H') (h : SqT K H a xs) : SqT K H' a xs := by
  rcases h with (h | ⟨o, h⟩) | h
  · exact .inl (.inl (e _ _ h))
  · exact .inl (.inr ⟨o, e _ _ h⟩)
  · exact .inr h
theorem sz1000 {n : Nat} (h : n ≤ 1000) : n ≤ sizeLine := Nat.le_trans h (by decide)
theorem lt1000 {n : Nat} (h : n ≤ 1000) : n < sizeLine := Nat.lt_of_le_of_lt h (by decide)
/-! ### the row of digits -/
structure Dig (row : List Int) : Prop where
  lo : ∀ v ∈ row, 0 ≤ v ∧ v < 16
def pick (row : List Int) (i : Int) (m : Int) : Int := (row.getD i.toNat 0 + 16 * row.getD (i.toNat + 1) 0) % m
theorem pick_lo {row : List Int} {i m : Int} (h : 0 < m) : 0 ≤ pick row i m := Int.emod_nonneg _ (by omega)
theorem pick_hi {row : List Int} {i m : Int} (h : 0 < m) : pick row i m < m := Int.emod_lt_of_pos _ h
def spRow (K : PySem.W.Frag) : Sp := fun vs H Q _ => ∃ (a : Addr) (ns : List Int) (m : Int), vs = [.ref a, .int m] ∧ SqL K H a (ns.map V.int) ∧ ns.length ≤ 63 ∧ 0 ≤ m ∧ m ≤ 900 ∧
  ∀ (H' : Hp) (p : Addr) (row : List Int), Same H H' → H p = none → H' p = some (.lst (row.map V.int)) → (row.length : Int) ≤ m → Dig row → Q (.ref p) H'
def spPick (K : PySem.W.Frag) : Sp := fun vs H Q _ => ∃ (a : Addr) (row : List Int) (i m : Int), vs = [.ref a, .int i, .int m] ∧ SqL K H a (row.map V.int) ∧ Dig row ∧ 0 ≤ i ∧ i < 100000 ∧ 0 < m ∧ Q (.int (pick row i m)) H
theorem atI_int {row : List Int} {i : Int} (h0 : 0 ≤ i) (h1 : i < (row.length : Int)) : atI (row.map V.int) i = some (.int (row.getD i.toNat 0)) := by
  obtain ⟨k, rfl⟩ := Int.eq_ofNat_of_zero_le h0
  have hk : k < row.length := by omega
  refine (atI_nat (xs := row.map V.int) (j := k) (v := .int (row.getD k 0)) ?_)
  rw [List.getElem?_map, List.getElem?_eq_getElem hk]
  simp [List.getD, List.getElem?_eq_getElem hk]
theorem getD_out {row : List Int} {k : Nat} (h : row.length ≤ k) : row.getD k 0 = 0 := by
  simp [List.getD, List.getElem?_eq_none h]
theorem dig_getD {row : List Int} (d : Dig row) (k : Nat) : 0 ≤ row.getD k 0 ∧ row.getD k 0 < 16 := by
  by_cases h : k < row.length
  · have e : row.getD k 0 = row[k] := by simp [List.getD, List.getElem?_eq_getElem h]
    rw [e]
    exact d.lo _ (List.getElem_mem h)
  · rw [getD_out (by omega)]
    omega
theorem dig_nil : Dig [] := ⟨fun v hv => nomatch hv⟩
theorem dig_more {row : List Int} {v : Int} (d : Dig row) (h0 : 0 ≤ v) (h1 : v < 16) : Dig (row ++ [v]) := ⟨fun u hu => by
  rcases List.mem_append.mp hu with hu | hu
  · exact d.lo u hu
  · rw [List.mem_singleton.mp hu]
    exact ⟨h0, h1⟩⟩
end Xg
namespace Xg
open PySem L2
open PySem.Spec PyProof.Rows
section
variable {X : Cx} {tg : Expr}
/-- a for over a list or a tuple -/
def iSeq (K : PySem.W.Frag) (tl : TE) : TI := fun σ H R => tl σ H fun x H1 => ∃ a, x = .ref a ∧ (((∃ xs, SqL K H1 a xs) ∧ R (Itl K a) H1) ∨ ((∃ xs, SqT K H1 a xs) ∧ R (Itt K a) H1))
theorem pi_seq {l : Expr} {tl : TE} (hl : PE X l tl) : PI X tg l (iSeq X.K tl) := by
  refine ⟨fun pins s σ H R I h => ?_⟩
  refine thn (hl.run pins s σ H _ I h) fun v s1 ⟨x, H1, I1, r1, q1⟩ => ?_
  obtain ⟨a, e, q1⟩ := q1
  subst e
  cases r1
  rcases q1 with ⟨⟨xs, hq⟩, q⟩ | ⟨⟨xs, hq⟩, q⟩
  · obtain ⟨its, rv, p, hz⟩ := I1.list hq
    refine wpAny_pyIter_list p.isList ?_
    refine ⟨s1.heap.objs.size, [s1.heap.objs.size], _, _, H1, rfl, I1.kept (t' := s1.toks) fun b o e => Heap.get?_push_of_some _ e, turn_list a _, ⟨_, Heap.get?_push_size _ rfl, rfl, rfl⟩, fun b hb => ?_, q⟩
    have e : b = s1.heap.objs.size := by simpa using hb
    subst e
    exact I1.fpOk (Nat.le_refl _) (I1.hok.fresh (Nat.le_refl _))
  · obtain ⟨its, rv, p, hz⟩ := I1.tuple hq
    refine wpAny_pyIter_tuple (show s1.heap.IsTuple a its.toArray from p) ?_
    refine ⟨s1.heap.objs.size, [s1.heap.objs.size], _, _, H1, rfl, I1.kept (t' := s1.toks) fun b o e => Heap.get?_push_of_some _ e, turn_tuple a _, ⟨_, Heap.get?_push_size _ rfl, rfl, rfl⟩, fun b hb => ?_, q⟩
    have e : b = s1.heap.objs.size := by simpa using hb
    subst e
    exact I1.fpOk (Nat.le_refl _) (I1.hok.fresh (Nat.le_refl _))
end
/-! ### data -/
theorem dpAll_ints {K : PySem.W.Frag} {H : Hp} : ∀ ns : List Int, DpAll K H (ns.map V.int) (ns.map PyData.int)
  | [] => .nil
  | n :: r => .cons (.int n) (dpAll_ints r)
theorem dp_L {K : PySem.W.Frag} {H : Hp} {a : Addr} {ns : List Int} (h : SqL K H a (ns.map V.int)) : Dp K H (.ref a) (.list (ns.map PyData.int)) := .lst h (dpAll_ints ns)
theorem dp_T {K : PySem.W.Frag} {H : Hp} {a : Addr} {ns : List Int} (h : SqT K H a (ns.map V.int)) : Dp K H (.ref a) (.tuple (ns.map PyData.int)) := .tup h (dpAll_ints ns)
theorem sh_L (ns : List Int) : PySem.SeqAt.shaped (.list (ns.map PyData.int)) = true := PySem.W.shaped_ints ns
theorem sh_T (ns : List Int) : PySem.SeqAt.shaped (.tuple (ns.map PyData.int)) = true := by
  have h1 := PySem.W.depthAll_ints ns
  have h2 : PyData.depth (.tuple (ns.map PyData.int)) ≤ 64 := by simp only [PyData.depth]; omega
  show (PyData.canLay0 (.tuple (ns.map PyData.int)) && decide (PyData.depth (.tuple (ns.map PyData.int)) ≤ 64)) = true
  rw [Bool.and_eq_true]
  exact ⟨by simp only [PyData.canLay0]; exact PySem.W.canLayAll0_ints ns, decide_eq_true h2⟩
theorem ev_L (ns : List Int) : PyData.eqv (.list (ns.map PyData.int)) (.list (ns.map PyData.int)) = true := PySem.SeqAt.eqv_refl _ (PySem.SeqAt.canLay_of_shaped (sh_L ns))
theorem ev_T (ns : List Int) : PyData.eqv (.tuple (ns.map PyData.int)) (.tuple (ns.map PyData.int)) = true := PySem.SeqAt.eqv_refl _ (PySem.SeqAt.canLay_of_shaped (sh_T ns))
end Xg
namespace Xg
open PySem L2 PySem.Spec PyProof.Rows
/-! ### what the top has left, told by one computation -/
def fnD (x : Str) (st : Stmt) : He.FnD := ⟨(x, none), x, x, defArgs st, defBody st, defScope st⟩
theorem df_mk {K : PySem.W.Frag} {h : Heap} {mg : Str → Option Value} {x : Str} {st : Stmt} {ps : List Str} (X : K.In h) (G : h.Ns mainGlobals mg) {fa : List He.Fa} {fn : List He.FnD} (c : He.SaysE fa fn K) (i : Nat)
    (h1 : fn[i]? = some (fnD x st)) (h2 : fa[2 * i]? = some (.glo x)) (h3 : fa[2 * i + 1]? = some (.keep x))
    (b : ∀ (kV doc pm : Value) (an : Option Addr) (cdv ct : Value) (us : List Value), us.length = ps.length → bindArgs (PySem.W.fnOf x x (defArgs st) (defBody st) (defScope st) .none kV doc pm an cdv ct) ⟨us, []⟩ = pure (ps.zip us)) :
    Df K mg x x st (He.ga K x) ps := by
  obtain ⟨oc, od, osl, kV, doc, pm, an, cdv, ct, l, cd⟩ := c.def_ i h1
  have k := He.keep_ok (c.fact _ h3)
  have F : Fun K x x st (He.ga K x) _ := fun_mk l cd k
  exact ⟨He.glo_ok X G (c.fact _ h2), k, _, F, F.binds b⟩
def kInt (K : PySem.W.Frag) (a : Addr) (x : Str) (i : Int) : Bool := match PySem.W.nsIn K a x with
  | some (some (.int j _)) => decide (j = i)
  | _ => false
theorem kInt_ok {K : PySem.W.Frag} {a : Addr} {x : Str} {i : Int} (h : kInt K a x i = true) : ∃ u, PySem.W.nsIn K a x = some (some u) ∧ RelV (.int i) u := by
  unfold kInt at h
  split at h
  · rename_i j t e
    have q := of_decide_eq_true h
    subst q
    exact ⟨_, e, t, rfl⟩
  · cases h
def dObs (K : PySem.W.Frag) (a : Addr) : Option (Bool × List (Option Str × Int)) := match K.lookup a with
  | some ⟨c, none, .dict es _, sl⟩ => some (decide (c = .type "dict") && decide (sl.size = 0), es.toList.map fun e => ((match e.key with
    | .str x _ => some x
    | _ => none), e.hash))
  | _ => none
theorem keys_of {P : Params} : ∀ {es : List DictEntry} {zs : List Str}, (es.map fun e => ((match e.key with
    | .str x _ => some x
    | _ => none : Option Str), e.hash)) = zs.map (fun x => (some x, PyData.keyHash P x)) → PySem.W.KeysLit P es
  | [], _, _ => True.intro
  | _ :: _, [], h => by cases h
  | e :: es, z :: zs, h => by
    rw [List.map_cons, List.map_cons] at h
    injection h with h1 h2
    injection h1 with h3 h4
    refine ⟨?_, keys_of h2⟩
    cases hk : e.key with
    | str x t =>
      rw [hk] at h3
      have h5 : some x = some z := h3
      cases h5
      exact ⟨z, t, rfl, h4⟩
    | _ =>
      rw [hk] at h3
      cases h3
theorem dObs_ok {K : PySem.W.Frag} {P : Params} {a : Addr} {zs : List Str} (h : dObs K a = some (true, zs.map fun x => (some x, PyData.keyHash P x))) : ∃ es n, K.lookup a = some ⟨.type "dict", none, .dict es n, #[]⟩ ∧ PySem.W.KeysLit P es.toList := by
  unfold dObs at h
  split at h
  · rename_i c es n sl e
    injection h with h
    injection h with h1 h2
    obtain ⟨h3, h4⟩ := Bool.and_eq_true_iff.mp h1
    have h5 := of_decide_eq_true h3
    have h6 := Array.eq_empty_of_size_eq_zero (of_decide_eq_true h4)
    subst h5 h6
    exact ⟨es, n, e, keys_of h2⟩
  · cases h
end Xg
namespace Xg
open PySem L2 PySem.Spec PyProof.Rows
/-- an own error's class and its maker, told by rows that each compute -/
theorem stxt_mk {P : Program} {K : PySem.W.Frag} {h : Heap} {mg : Str → Option Value} {x f txt : Str} {C fI : Addr} (X : K.In h) (G : h.Ns mainGlobals mg) (fok : XgSup.FOk f)
    (gC : PySem.W.nsIn K mainGlobals x = some (some (.ref C)))
    (iC : PySem.W.findIn K (.ref C) "__init__" = some (some (.ref fI)))
    {nm q N bs bm sn sub ab col dd k0 k1 k2 k3 k5} (cl1 : K.lookup C = some (excClassObj nm q C N bs bm true sn sub ab col dd k0 k1 k2 k3 k5 "ValueError.__new__")) (cl2 : HandSPX.refsVE bm = true)
    (sa : PySem.W.findIn K (.ref C) "__setattr__" = some (some (.builtin "object.__setattr__")))
    (ga : PySem.W.findIn K (.ref C) "__getattribute__" = some (some (.builtin "BaseException.__getattribute__")))
    (gg : PySem.W.findIn K (.ref C) "__getattr__" = some none) (noN : PySem.W.findIn K (.ref C) f = some none)
    (tC : PySem.W.typeIn K (.ref fI) = some (.type "function")) (kC : PySem.W.keepIn K (.ref C) = true)
    (exC : PySem.W.subIn K (.ref C) (.type "BaseException") = some true) (veC : PySem.W.subIn K (.ref C) (.type "ValueError") = some true)
    (tyC : PySem.W.typeIn K (.ref C) = some (.type "type")) (hdC : PySem.W.hasDictIn K C = true)
    (sup : PySem.W.ks_superIn K C C "__init__" = some (some (.builtin "ValueError.__init__"))) (slf : PySem.W.mroIn K C (.ref C) = some true)
    (nop : PySem.W.nsIn K cStatics "thirdparty.any" = some none) (gS : PySem.W.nsIn K mainGlobals "super" = some none)
    (tops : (P.main.scope.names.lookup ("super" : Str)).isSome = false)
    {qual : Str} {oc : Value} {od : Option Addr} {doc pm : Value} {an : Option Addr} {cda cc : Addr} {ct : Value} {osl : Array (Option Value)} {p1 p2 a1 a2 a3 a4 a5 b1 b2 b3 b4 c1 c2 c3 c4 : Pos}
    {ccl : Value} {cdd : Option Addr} {vs : Array Value} {ccs : Array (Option Value)} {file : Str} {tf : Tok} {cl : Value} {cld : Option Addr} {csl : Array (Option Value)}
    (g1 : K.lookup fI = some ⟨oc, od, .func (PySem.W.ksFn "__init__" qual (XgSup.mA f p1 p2) (XgSup.mB f txt a1 a2 a3 a4 a5 b1 b2 b3 b4 c1 c2 c3 c4) (XgSup.mS f) .none .none doc pm an (.ref cda) ct cc), osl⟩)
    (g2 : PySem.W.codeIn K (.ref cda) qual = true)
    (g3 : K.lookup cda = some ⟨ccl, cdd, .fields vs, ccs⟩) (g4 : vs[2]? = some (.str file tf)) (g5 : ((P.main.file : Str) == file) = true)
    (g6 : K.lookup cc = some ⟨cl, cld, .cell (some (.ref C)), csl⟩) (g7 : XgSup.AskOk qual f txt a1 a2 a3 a4 b1 b2 b3 b4 fI cda cc) :
    XgSup.STxt P K mg x f txt C fI :=
  ⟨fok, PySem.W.mg_of X G gC, ⟨_, _, _, _, _, _, _, _, _, _, _, _, _, _, _, cl1, cl2⟩, sa, ga, gg, noN, iC, tC, kC, exC, veC, tyC, hdC, sup, slf, nop, PySem.W.mg_none_of X G gS, tops,
    ⟨_, _, _, _, _, _, _, _, _, _, _, _, _, _, _, _, _, _, _, _, _, _, _, _, _, _, _, _, _, _, _, _, _, _, g1, g2, g3, g4, g5, g6, g7⟩⟩
theorem excC_mk {K : PySem.W.Frag} {D : Addr} (h1 : PySem.W.findIn K (.ref D) "__getattribute__" = some (some (.builtin "BaseException.__getattribute__"))) (h2 : PySem.W.findIn K (.ref D) "__getattr__" = some none)
    (h3 : PySem.W.subIn K (.ref D) (.type "BaseException") = some true) (h4 : PySem.W.hasDictIn K D = true) (h5 : PySem.W.findIn K (.ref D) "__class__" = some (some (.builtin "object.__class__")))
    (h6 : PySem.W.specialIn K (.builtin "object.__class__") "__get__" = some (some (.builtin "getset_descriptor.__get__"))) (h7 : PySem.W.takesIn K (.builtin "object.__class__") = some true) (h8 : PySem.W.mroIn K D (.type "object") = some true) : ExcC K D :=
  ⟨h1, h2, h3, h4, h5, h6, h7, h8⟩
end Xg
namespace P86
open PySem L2 Xg
def top (i : Nat) : Stmt := PySem.Challenge.pw_guestlives_k86_instructions_encode_decod.main.body.getD i (.Pass ⟨0, 0, 0, 0⟩)
abbrev S_op_number : Stmt := top 16
theorem sc_op_number : FnScope ["name", "number", "known", "_"] ["name"] (defScope S_op_number) := ⟨rfl, rfl, rfl, by decide +kernel, rfl, by decide +kernel, by decide +kernel⟩
abbrev S_operand_kinds : Stmt := top 17
theorem sc_operand_kinds : FnScope ["name"] ["name"] (defScope S_operand_kinds) := ⟨rfl, rfl, rfl, by decide +kernel, rfl, by decide +kernel, by decide +kernel⟩
abbrev S_size_of : Stmt := top 18
theorem sc_size_of : FnScope ["name"] ["name"] (defScope S_size_of) := ⟨rfl, rfl, rfl, by decide +kernel, rfl, by decide +kernel, by decide +kernel⟩
abbrev S_operand_limit : Stmt := top 19
theorem sc_operand_limit : FnScope ["kind"] ["kind"] (defScope S_operand_limit) := ⟨rfl, rfl, rfl, by decide +kernel, rfl, by decide +kernel, by decide +kernel⟩
abbrev S_decode : Stmt := top 20
theorem sc_decode : FnScope ["numbers", "name", "kinds", "number", "kind"] ["numbers"] (defScope S_decode) := ⟨rfl, rfl, rfl, by decide +kernel, rfl, by decide +kernel, by decide +kernel⟩
abbrev S_encode : Stmt := top 21
theorem sc_encode : FnScope ["name", "operands", "number", "kinds", "operand", "kind"] ["name", "operands"] (defScope S_encode) := ⟨rfl, rfl, rfl, by decide +kernel, rfl, by decide +kernel, by decide +kernel⟩
abbrev S_values_read : Stmt := top 22
theorem sc_values_read : FnScope ["name", "operands"] ["name", "operands"] (defScope S_values_read) := ⟨rfl, rfl, rfl, by decide +kernel, rfl, by decide +kernel, by decide +kernel⟩
abbrev S_value_made : Stmt := top 23
theorem sc_value_made : FnScope ["name", "operands"] ["name", "operands"] (defScope S_value_made) := ⟨rfl, rfl, rfl, by decide +kernel, rfl, by decide +kernel, by decide +kernel⟩
abbrev S_is_supervisor : Stmt := top 24
theorem sc_is_supervisor : FnScope ["name"] ["name"] (defScope S_is_supervisor) := ⟨rfl, rfl, rfl, by decide +kernel, rfl, by decide +kernel, by decide +kernel⟩
abbrev S_is_jump : Stmt := top 25
theorem sc_is_jump : FnScope ["name"] ["name"] (defScope S_is_jump) := ⟨rfl, rfl, rfl, by decide +kernel, rfl, by decide +kernel, by decide +kernel⟩
abbrev S_is_linkable : Stmt := top 26
theorem sc_is_linkable : FnScope ["name"] ["name"] (defScope S_is_linkable) := ⟨rfl, rfl, rfl, by decide +kernel, rfl, by decide +kernel, by decide +kernel⟩
abbrev S_ends_block : Stmt := top 27
theorem sc_ends_block : FnScope ["name"] ["name"] (defScope S_ends_block) := ⟨rfl, rfl, rfl, by decide +kernel, rfl, by decide +kernel, by decide +kernel⟩
/-! ### the table -/
abbrev nmL : List Str := ["halt", "print", "show", "set", "move", "add", "compare", "load", "store", "jump", "jumpz", "jumpl", "call", "map", "right", "enable", "disable", "resume", "lower"]
abbrev kdL : List Str := ["", "n", "r", "rn", "rr", "rr", "rr", "ra", "ar", "a", "a", "a", "", "gf", "gk", "", "", "", ""]
abbrev opsL : List (Str × Str) := nmL.zip kdL
abbrev supL : List Str := ["map", "right", "enable", "disable", "resume"]
abbrev jumL : List Str := ["jump", "jumpz", "jumpl"]
abbrev unlL : List Str := ["halt", "call", "lower"]
/-- how many numbers a kind has, by its letter's code -/
def limC (c : Nat) : Int := if c = 110 then 256 else if c = 97 then 64 else if c = 107 then 8 else 4
/-- the letters -/
def Letter (c : Nat) : Prop := c ∈ [114, 110, 97, 103, 102, 107]
structure Ad where
  IE : Addr
  iIE : Addr
  OPS : Addr
  LIM : Addr
  SUP : Addr
  JUM : Addr
  UNL : Addr
  op_number : Addr
  operand_kinds : Addr
  size_of : Addr
  operand_limit : Addr
  decode : Addr
  encode : Addr
  values_read : Addr
  value_made : Addr
  is_supervisor : Addr
  is_jump : Addr
  is_linkable : Addr
  ends_block : Addr
structure Tp (P : Program) (w : World) (K : PySem.W.Frag) (mg : Str → Option Value) (A : Ad) : Prop where
  n_len : mg "len" = none
  n_zip : mg "zip" = none
  n_enumerate : mg "enumerate" = none
  n_tuple : mg "tuple" = none
  n_list : mg "list" = none
  n_set : mg "set" = none
  n_sorted : mg "sorted" = none
  g_OPS : mg "OPS" = some (.ref A.OPS)
  g_OPERAND_LIMITS : mg "OPERAND_LIMITS" = some (.ref A.LIM)
  g_SUPERVISOR_NAMES : mg "SUPERVISOR_NAMES" = some (.ref A.SUP)
  g_JUMP_NAMES : mg "JUMP_NAMES" = some (.ref A.JUM)
  g_UNLINKABLE_NAMES : mg "UNLINKABLE_NAMES" = some (.ref A.UNL)
  g_FLAGS : ∃ t, mg "FLAGS" = some (.int 4 t)
  x_InstructionError : XgSup.STxt P K mg "InstructionError" "name" "there is no such instruction: " A.IE A.iIE
  OPS : pairsB K A.OPS opsL = true
  SUP : strsB K A.SUP supL = true
  JUM : strsB K A.JUM jumL = true
  UNL : strsB K A.UNL unlL = true
  LIM : ∀ c, Letter c → KDct K w A.LIM ⟨#[c]⟩ (.int (limC c))
  d_op_number : Df K mg "op_number" "op_number" S_op_number A.op_number ["name"]
  d_operand_kinds : Df K mg "operand_kinds" "operand_kinds" S_operand_kinds A.operand_kinds ["name"]
  d_size_of : Df K mg "size_of" "size_of" S_size_of A.size_of ["name"]
  d_operand_limit : Df K mg "operand_limit" "operand_limit" S_operand_limit A.operand_limit ["kind"]
  d_decode : Df K mg "decode" "decode" S_decode A.decode ["numbers"]
  d_encode : Df K mg "encode" "encode" S_encode A.encode ["name", "operands"]
  d_values_read : Df K mg "values_read" "values_read" S_values_read A.values_read ["name", "operands"]
  d_value_made : Df K mg "value_made" "value_made" S_value_made A.value_made ["name", "operands"]
  d_is_supervisor : Df K mg "is_supervisor" "is_supervisor" S_is_supervisor A.is_supervisor ["name"]
  d_is_jump : Df K mg "is_jump" "is_jump" S_is_jump A.is_jump ["name"]
  d_is_linkable : Df K mg "is_linkable" "is_linkable" S_is_linkable A.is_linkable ["name"]
  d_ends_block : Df K mg "ends_block" "ends_block" S_ends_block A.ends_block ["name"]
/-- an InstructionError of z is wished -/
def IErr (A : Ad) (z : Str) (H : Hp) (E : XK) : Prop := ∀ (H' : Hp) (d : Addr), Same H H' → H d = none → H' d = some (.xd [("name", .str z)]) → E (.ref A.IE) (some d) H'
theorem IErr.mono {A : Ad} {z : Str} {H H1 : Hp} {E : XK} (e : Same H H1) (h : IErr A z H E) : IErr A z H1 E := fun H' d s n x => h H' d (e.trans s) (e.free n) x
/-! ### promises: ok, when the name is the i-th -/
def spOpn (A : Ad) : Sp := fun vs H Q E => ∃ z : Str, vs = [.str z] ∧ z.length ≤ 1000 ∧ (∀ i : Nat, nmL[i]? = some z → ∀ H', Same H H' → Q (.int (i : Int)) H') ∧ (z ∉ nmL → IErr A z H E)
theorem nm_inj {i j : Nat} {z : Str} (h1 : nmL[i]? = some z) (h2 : nmL[j]? = some z) : i = j := by
  have nd : nmL.Nodup := by decide +kernel
  obtain ⟨l1, e1⟩ := List.getElem?_eq_some_iff.mp h1
  obtain ⟨l2, e2⟩ := List.getElem?_eq_some_iff.mp h2
  have pw := List.pairwise_iff_getElem.mp nd
  rcases Nat.lt_trichotomy i j with h | h | h
  · exact absurd (e1.trans e2.symm) (pw i j l1 l2 h)
  · exact h
  · exact absurd (e2.trans e1.symm) (pw j i l2 l1 h)
theorem ops_at {i : Nat} {z : Str × Str} (h : opsL[i]? = some z) : nmL[i]? = some z.1 ∧ kdL[i]? = some z.2 := by
  have h' : (nmL.zip kdL)[i]? = some z := h
  rw [List.getElem?_zip_eq_some] at h'
  exact h'
section
variable {P : Program} {w : World} {K : PySem.W.Frag} {mg : Str → Option Value} {base : Heap} {A : Ad}
theorem ok_op_number {fd : FuncData} (F : Fun K "op_number" "op_number" S_op_number A.op_number fd) (T : Tp P w K mg A) : FnOk P w K mg base (L2.CX P w) 3 A.op_number fd ["name"] (spOpn A) := by
  refine F.okX sc_op_number (fun vs H Q E h => ?_) (fun cdv A' outer s H vs Q E hr h => ?_)
  · obtain ⟨z, rfl, _⟩ := h
    rfl
  · obtain ⟨z, rfl, hz, hok, hbad⟩ := h
    obtain ⟨as, la, hS, hAt⟩ := pairsB_sq T.OPS
    have l19 : as.length = 19 := la.trans (by decide +kernel)
    refine ⟨_, (pss_cons (ps_for (passes_of rfl) rfl (XgIter.pi_enumX (by rfl) T.n_enumerate (pa_cons (pe_glob (v := .ref _) (by rfl) T.g_OPS rfl) pa_nil)) (pg_tup (by rfl) (pgs_cons (pg_name (i := 1) sc_op_number.nd rfl (Or.inl rfl)) (pgs_cons (pg_tup (by rfl) (pgs_cons (pg_name (i := 2) sc_op_number.nd rfl (Or.inl rfl)) (pgs_cons (pg_name (i := 3) sc_op_number.nd rfl (Or.inl rfl)) pgs_nil))) pgs_nil)))
    (pss_one (ps_if (pt_cmpR op_eq (pv 2) (pv 0) (nomark _))
    (pss_one (ps_ret (pv 1)))
    pss_nil)))
  (pss_one (ps_raise rfl (takes_of rfl rfl rfl rfl) (XgSup.pmk_sup T.x_InstructionError (by decide +kernel) hr (pa_cons (pv 0) pa_nil) (by rfl))))), ?_⟩
    refine ⟨.T A.OPS, rfl, ⟨_, hS H⟩, for_it (XgIter.walk_y (s1 := .T A.OPS) (G := fun _ => True) (xs := as.map V.ref) (fun H' _ => hS H'))
      (fun i σ H' => Same H H' ∧ (∃ v2 v3 v4, σ = [some (.str z), v2, v3, v4]) ∧ ∀ j : Nat, j < i → nmL[j]? ≠ some z) ⟨Same.refl H, ⟨_, _, _, rfl⟩, fun j hj => absurd hj (Nat.not_lt_zero j)⟩ (fun _ _ _ _ _ => True.intro) ?_ ?_⟩
    · rintro i x σ H1 H2 hi ⟨sm, ⟨v2, v3, v4, rfl⟩, hn⟩ ⟨t, x1, y1, rfl, hnew, rfl, e1, e2⟩
      rw [List.length_map, l19] at hi
      have hi' : i < as.length := by omega
      have ea : as[i]? = some as[i] := List.getElem?_eq_getElem hi'
      have e2' : (as.map V.ref)[i]? = some y1 := e2
      rw [List.getElem?_map, ea] at e2'
      have e2'' : V.ref as[i] = y1 := Option.some.inj e2'
      subst e2''
      cases e1
      have hz2 : i < opsL.length := by
        have l : opsL.length = 19 := by decide +kernel
        omega
      have eo : opsL[i]? = some opsL[i] := List.getElem?_eq_getElem hz2
      have sm2 : Same H (upd H1 t (.tup [.int (i : Nat), .ref as[i]])) := same_new sm hnew
      have hp := hAt i _ _ ea eo (upd H1 t (.tup [.int (i : Nat), .ref as[i]]))
      obtain ⟨on, ok⟩ := ops_at eo
      refine ⟨t, _, rfl, SqT.of upd_same, rfl, _, _, rfl, _, _, rfl, as[i], _, rfl, hp, rfl, _, _, rfl, _, _, rfl, rfl, rfl, ?_⟩
      refine ⟨_, rfl, _, rfl, rfl, _, rfl, ite2 (fun c => ?_) (fun c => ?_)⟩
      · have c' : opsL[i].1 = z := by simpa using c
        refine ⟨_, rfl, ?_⟩
        exact hok i (by rw [on, c']) _ sm2
      · refine ⟨sm2, ⟨_, _, _, rfl⟩, fun j hj => ?_⟩
        rcases Nat.lt_or_eq_of_le (Nat.le_of_lt_succ hj) with h | h
        · exact hn j h
        · subst h
          rw [on]
          intro q
          exact c (by simpa using q)
    · rintro σ H1 ⟨sm, ⟨v2, v3, v4, rfl⟩, hn⟩
      rw [List.length_map, l19] at hn
      have nz : z ∉ nmL := fun hm => by
        obtain ⟨k, hk, e⟩ := List.getElem_of_mem hm
        have l : nmL.length = 19 := by decide +kernel
        exact hn k (by omega) (by rw [List.getElem?_eq_getElem hk, e])
      refine ⟨_, rfl, z, rfl, by omega, fun d hd => ?_⟩
      exact hbad nz _ d (same_new sm hd) (sm.free hd) upd_same
end
end P86
namespace P86
open PySem L2 Xg
def kdI (i : Nat) : Str := kdL.getD i ""
def nmI (i : Nat) : Str := nmL.getD i ""
theorem nm_lt {i : Nat} {z : Str} (h : nmL[i]? = some z) : i < 19 := by
  have l : nmL.length = 19 := by decide +kernel
  have q := (List.getElem?_eq_some_iff.mp h).1
  omega
theorem nm_I {i : Nat} (h : i < 19) : nmL[i]? = some (nmI i) := by
  have l : nmL.length = 19 := by decide +kernel
  have q : i < nmL.length := by omega
  unfold nmI
  rw [List.getD, List.getElem?_eq_getElem q]
  rfl
theorem kd_I {i : Nat} (h : i < 19) : kdL[i]? = some (kdI i) := by
  have l : kdL.length = 19 := by decide +kernel
  have q : i < kdL.length := by omega
  unfold kdI
  rw [List.getD, List.getElem?_eq_getElem q]
  rfl
theorem kd_letter {i : Nat} (h : i < 19) : ∀ c ∈ (kdI i).cps.toList, Letter c := by
  have a : ∀ x ∈ kdL, ∀ c ∈ x.cps.toList, c ∈ [114, 110, 97, 103, 102, 107] := by decide +kernel
  exact a _ (List.mem_of_getElem? (kd_I h))
theorem kd_len {i : Nat} (h : i < 19) : (kdI i).length ≤ 2 := by
  have a : ∀ x ∈ kdL, x.length ≤ 2 := by decide +kernel
  exact a _ (List.mem_of_getElem? (kd_I h))
theorem inV_str (z : Str) (zs : List Str) : inV (.str z) (zs.map V.str) = decide (z ∈ zs) := by
  unfold inV
  rw [Bool.eq_iff_iff, List.any_eq_true, decide_eq_true_eq]
  constructor
  · rintro ⟨v, hv, e⟩
    obtain ⟨y, hy, rfl⟩ := List.mem_map.mp hv
    have e' : y = z := by simpa [eqV] using e
    rw [← e']
    exact hy
  · intro h
    exact ⟨.str z, List.mem_map.mpr ⟨z, h, rfl⟩, by simp [eqV]⟩
theorem flat_strs (zs : List Str) : (zs.map V.str).all flatV = true := by
  rw [List.all_eq_true]
  intro v hv
  obtain ⟨y, _, rfl⟩ := List.mem_map.mp hv
  rfl
def spLim : Sp := fun vs H Q _ => ∃ c : Nat, vs = [.str ⟨#[c]⟩] ∧ Letter c ∧ Q (.int (limC c)) H
def spKinds (A : Ad) : Sp := fun vs H Q E => ∃ z : Str, vs = [.str z] ∧ z.length ≤ 1000 ∧ (∀ i : Nat, nmL[i]? = some z → ∀ H', Same H H' → Q (.str (kdI i)) H') ∧ (z ∉ nmL → IErr A z H E)
def spSize (A : Ad) : Sp := fun vs H Q E => ∃ z : Str, vs = [.str z] ∧ z.length ≤ 1000 ∧ (∀ i : Nat, nmL[i]? = some z → ∀ H', Same H H' → Q (.int (1 + ((kdI i).length : Int))) H') ∧ (z ∉ nmL → IErr A z H E)
/-- a question about a name: the answer f z -/
def spAsk (A : Ad) (f : Str → Bool) : Sp := fun vs H Q E => ∃ z : Str, vs = [.str z] ∧ z.length ≤ 1000 ∧ (z ∈ nmL → ∀ H', Same H H' → Q (.bl (f z)) H') ∧ (z ∉ nmL → IErr A z H E)
def isSup (z : Str) : Bool := decide (z ∈ supL)
def isJum (z : Str) : Bool := decide (z ∈ jumL)
def isLnk (z : Str) : Bool := !isSup z && !decide (z ∈ unlL)
def isEnd (z : Str) : Bool := isJum z || !isLnk z
theorem nm_get {z : Str} (h : z ∈ nmL) : ∃ i : Nat, nmL[i]? = some z := by
  obtain ⟨k, hk, e⟩ := List.getElem_of_mem h
  exact ⟨k, by rw [List.getElem?_eq_getElem hk, e]⟩
theorem nm_mem {i : Nat} {z : Str} (h : nmL[i]? = some z) : z ∈ nmL := List.mem_of_getElem? h
section
variable {P : Program} {w : World} {K : PySem.W.Frag} {mg : Str → Option Value} {base : Heap} {A : Ad}
theorem ok_operand_limit {fd : FuncData} (F : Fun K "operand_limit" "operand_limit" S_operand_limit A.operand_limit fd) (T : Tp P w K mg A) : FnOk P w K mg base CX0 1 A.operand_limit fd ["kind"] spLim := by
  refine F.ok sc_operand_limit (fun vs H Q E h => ?_) (fun cdv A' outer s H vs Q E hr h => ?_)
  · obtain ⟨z, rfl, _⟩ := h
    rfl
  · obtain ⟨c, rfl, hc, q⟩ := h
    refine ⟨_, (pss_one (ps_ret (pe_ix ix_kdict (pe_glob (v := .ref _) (by rfl) T.g_OPERAND_LIMITS rfl) (pv 0) (fun _ _ => rfl)))), ?_⟩
    exact ⟨_, rfl, A.LIM, _, _, rfl, rfl, T.LIM c hc, q⟩
theorem ok_operand_kinds {fd : FuncData} (F : Fun K "operand_kinds" "operand_kinds" S_operand_kinds A.operand_kinds fd) (T : Tp P w K mg A) : FnOk P w K mg base (L2.CX P w) 4 A.operand_kinds fd ["name"] (spKinds A) := by
  obtain ⟨fd1, F1, b_op_number⟩ := T.d_op_number.ex
  have G_op_number : FnOk P w K mg base (L2.CX P w) 3 A.op_number fd1 ["name"] (spOpn A) := ok_op_number F1 T
  refine F.okX sc_operand_kinds (fun vs H Q E h => ?_) (fun cdv A' outer s H vs Q E hr h => ?_)
  · obtain ⟨z, rfl, _⟩ := h
    rfl
  · obtain ⟨z, rfl, hz, hok, hbad⟩ := h
    obtain ⟨as, la, hS, hAt⟩ := pairsB_sq T.OPS
    have l19 : as.length = 19 := la.trans (by decide +kernel)
    refine ⟨_, (pss_one (ps_ret (pe_ix ix_tup (pe_ix ix_tup (pe_glob (v := .ref _) (by rfl) T.g_OPS rfl) (pe_call G_op_number (hr.mono (by decide)) (by rfl) T.d_op_number.g T.d_op_number.k b_op_number .nil (passes_call (W := fun cls d _ H => E cls d H) (takes_of rfl rfl rfl rfl) (fun _ _ _ _ h => h)) (pa_cons (pv 0) pa_nil)) (fun _ _ => rfl)) pe_int (fun _ _ => rfl)))), ?_⟩
    refine ⟨_, rfl, z, rfl, hz, fun i hi H' sm => ?_, hbad⟩
    have i19 := nm_lt hi
    have hi' : i < as.length := by omega
    have ea : as[i]? = some as[i] := List.getElem?_eq_getElem hi'
    have lo : i < opsL.length := by
      have l : opsL.length = 19 := by decide +kernel
      omega
    have eo : opsL[i]? = some opsL[i] := List.getElem?_eq_getElem lo
    obtain ⟨on, ok⟩ := ops_at eo
    have hp := hAt i _ _ ea eo H'
    have em : (as.map V.ref)[i]? = some (.ref as[i]) := by rw [List.getElem?_map, ea]; rfl
    refine ⟨A.OPS, _, _, _, rfl, rfl, hS H', atI_nat em, as[i], _, _, _, rfl, rfl, hp, rfl, ?_⟩
    have ek : opsL[i].2 = kdI i := by
      have e := kd_I i19
      rw [ok] at e
      exact Option.some.inj e
    rw [ek]
    exact hok i hi H' sm
theorem ok_size_of {fd : FuncData} (F : Fun K "size_of" "size_of" S_size_of A.size_of fd) (T : Tp P w K mg A) : FnOk P w K mg base (L2.CX P w) 5 A.size_of fd ["name"] (spSize A) := by
  obtain ⟨fd1, F1, b_operand_kinds⟩ := T.d_operand_kinds.ex
  have G_operand_kinds : FnOk P w K mg base (L2.CX P w) 4 A.operand_kinds fd1 ["name"] (spKinds A) := ok_operand_kinds F1 T
  refine F.okX sc_size_of (fun vs H Q E h => ?_) (fun cdv A' outer s H vs Q E hr h => ?_)
  · obtain ⟨z, rfl, _⟩ := h
    rfl
  · obtain ⟨z, rfl, hz, hok, hbad⟩ := h
    refine ⟨_, (pss_one (ps_ret (pe_op op_add pe_int (pe_callB call_len_str (by rfl) T.n_len PySem.boot_len (pa_cons (pe_call G_operand_kinds (hr.mono (by decide)) (by rfl) T.d_operand_kinds.g T.d_operand_kinds.k b_operand_kinds .nil (passes_call (W := fun cls d _ H => E cls d H) (takes_of rfl rfl rfl rfl) (fun _ _ _ _ h => h)) (pa_cons (pv 0) pa_nil)) pa_nil))))), ?_⟩
    refine ⟨_, rfl, z, rfl, hz, fun i hi H' sm => ?_, hbad⟩
    exact ⟨_, rfl, sz1000 (Nat.le_trans (kd_len (nm_lt hi)) (by decide)), _, _, rfl, rfl, hok i hi H' sm⟩
theorem ok_is_supervisor {fd : FuncData} (F : Fun K "is_supervisor" "is_supervisor" S_is_supervisor A.is_supervisor fd) (T : Tp P w K mg A) : FnOk P w K mg base (L2.CX P w) 4 A.is_supervisor fd ["name"] (spAsk A isSup) := by
  obtain ⟨fd1, F1, b_op_number⟩ := T.d_op_number.ex
  have G_op_number : FnOk P w K mg base (L2.CX P w) 3 A.op_number fd1 ["name"] (spOpn A) := ok_op_number F1 T
  refine F.okX sc_is_supervisor (fun vs H Q E h => ?_) (fun cdv A' outer s H vs Q E hr h => ?_)
  · obtain ⟨z, rfl, _⟩ := h
    rfl
  · obtain ⟨z, rfl, hz, hok, hbad⟩ := h
    refine ⟨_, (pss_cons (ps_expr (pe_call G_op_number (hr.mono (by decide)) (by rfl) T.d_op_number.g T.d_op_number.k b_op_number .nil (passes_call (W := fun cls d _ H => E cls d H) (takes_of rfl rfl rfl rfl) (fun _ _ _ _ h => h)) (pa_cons (pv 0) pa_nil)))
  (pss_one (ps_ret (pe_cmpR op_in_seq (pv 0) (pe_glob (v := .ref _) (by rfl) T.g_SUPERVISOR_NAMES rfl) (by rfl))))), ?_⟩
    refine ⟨_, rfl, z, rfl, hz, fun i hi H' sm => ?_, hbad⟩
    refine ⟨_, rfl, A.SUP, _, rfl, .inr (strsB_sq T.SUP H'), rfl, flat_strs _, ?_⟩
    show Q (.bl (inV (.str z) (supL.map V.str))) H'
    rw [inV_str]
    exact hok (nm_mem hi) H' sm
theorem ok_is_jump {fd : FuncData} (F : Fun K "is_jump" "is_jump" S_is_jump A.is_jump fd) (T : Tp P w K mg A) : FnOk P w K mg base (L2.CX P w) 4 A.is_jump fd ["name"] (spAsk A isJum) := by
  obtain ⟨fd1, F1, b_op_number⟩ := T.d_op_number.ex
  have G_op_number : FnOk P w K mg base (L2.CX P w) 3 A.op_number fd1 ["name"] (spOpn A) := ok_op_number F1 T
  refine F.okX sc_is_jump (fun vs H Q E h => ?_) (fun cdv A' outer s H vs Q E hr h => ?_)
  · obtain ⟨z, rfl, _⟩ := h
    rfl
  · obtain ⟨z, rfl, hz, hok, hbad⟩ := h
    refine ⟨_, (pss_cons (ps_expr (pe_call G_op_number (hr.mono (by decide)) (by rfl) T.d_op_number.g T.d_op_number.k b_op_number .nil (passes_call (W := fun cls d _ H => E cls d H) (takes_of rfl rfl rfl rfl) (fun _ _ _ _ h => h)) (pa_cons (pv 0) pa_nil)))
  (pss_one (ps_ret (pe_cmpR op_in_seq (pv 0) (pe_glob (v := .ref _) (by rfl) T.g_JUMP_NAMES rfl) (by rfl))))), ?_⟩
    refine ⟨_, rfl, z, rfl, hz, fun i hi H' sm => ?_, hbad⟩
    refine ⟨_, rfl, A.JUM, _, rfl, .inr (strsB_sq T.JUM H'), rfl, flat_strs _, ?_⟩
    show Q (.bl (inV (.str z) (jumL.map V.str))) H'
    rw [inV_str]
    exact hok (nm_mem hi) H' sm
theorem ok_is_linkable {fd : FuncData} (F : Fun K "is_linkable" "is_linkable" S_is_linkable A.is_linkable fd) (T : Tp P w K mg A) : FnOk P w K mg base (L2.CX P w) 5 A.is_linkable fd ["name"] (spAsk A isLnk) := by
  obtain ⟨fd1, F1, b_is_supervisor⟩ := T.d_is_supervisor.ex
  have G_is_supervisor : FnOk P w K mg base (L2.CX P w) 4 A.is_supervisor fd1 ["name"] (spAsk A isSup) := ok_is_supervisor F1 T
  refine F.okX sc_is_linkable (fun vs H Q E h => ?_) (fun cdv A' outer s H vs Q E hr h => ?_)
  · obtain ⟨z, rfl, _⟩ := h
    rfl
  · obtain ⟨z, rfl, hz, hok, hbad⟩ := h
    refine ⟨_, (pss_one (ps_ret (pe_and (pe_not (pe_call G_is_supervisor (hr.mono (by decide)) (by rfl) T.d_is_supervisor.g T.d_is_supervisor.k b_is_supervisor .nil (passes_call (W := fun cls d _ H => E cls d H) (takes_of rfl rfl rfl rfl) (fun _ _ _ _ h => h)) (pa_cons (pv 0) pa_nil))) (pe_one (pe_cmpR op_notIn_seq (pv 0) (pe_glob (v := .ref _) (by rfl) T.g_UNLINKABLE_NAMES rfl) (by rfl)))))), ?_⟩
    refine ⟨_, rfl, z, rfl, hz, fun hi H' sm => ⟨_, rfl, _, rfl, ?_⟩, hbad⟩
    have hq := hok hi H' sm
    unfold isLnk at hq
    cases c : isSup z with
    | true =>
      rw [c] at hq
      exact iteF hq
    | false =>
      rw [c] at hq
      refine iteT ⟨_, rfl, A.UNL, _, rfl, .inr (strsB_sq T.UNL H'), rfl, flat_strs _, ?_⟩
      show Q (.bl (!inV (.str z) (unlL.map V.str))) H'
      rw [inV_str]
      exact hq
theorem ok_ends_block {fd : FuncData} (F : Fun K "ends_block" "ends_block" S_ends_block A.ends_block fd) (T : Tp P w K mg A) : FnOk P w K mg base (L2.CX P w) 6 A.ends_block fd ["name"] (spAsk A isEnd) := by
  obtain ⟨fd1, F1, b_is_jump⟩ := T.d_is_jump.ex
  have G_is_jump : FnOk P w K mg base (L2.CX P w) 4 A.is_jump fd1 ["name"] (spAsk A isJum) := ok_is_jump F1 T
  obtain ⟨fd2, F2, b_is_linkable⟩ := T.d_is_linkable.ex
  have G_is_linkable : FnOk P w K mg base (L2.CX P w) 5 A.is_linkable fd2 ["name"] (spAsk A isLnk) := ok_is_linkable F2 T
  refine F.okX sc_ends_block (fun vs H Q E h => ?_) (fun cdv A' outer s H vs Q E hr h => ?_)
  · obtain ⟨z, rfl, _⟩ := h
    rfl
  · obtain ⟨z, rfl, hz, hok, hbad⟩ := h
    refine ⟨_, (pss_one (ps_ret (pe_or (pe_call G_is_jump (hr.mono (by decide)) (by rfl) T.d_is_jump.g T.d_is_jump.k b_is_jump .nil (passes_call (W := fun cls d _ H => E cls d H) (takes_of rfl rfl rfl rfl) (fun _ _ _ _ h => h)) (pa_cons (pv 0) pa_nil)) (pe_one (pe_not (pe_call G_is_linkable (hr.mono (by decide)) (by rfl) T.d_is_linkable.g T.d_is_linkable.k b_is_linkable .nil (passes_call (W := fun cls d _ H => E cls d H) (takes_of rfl rfl rfl rfl) (fun _ _ _ _ h => h)) (pa_cons (pv 0) pa_nil))))))), ?_⟩
    refine ⟨_, rfl, z, rfl, hz, fun hi H' sm => ⟨_, rfl, ?_⟩, hbad⟩
    cases c : isJum z with
    | true =>
      refine iteT ?_
      have hq := hok hi H' sm
      unfold isEnd at hq
      rw [c] at hq
      exact hq
    | false =>
      refine iteF ⟨_, rfl, z, rfl, hz, fun hi H'' sm2 => ⟨_, rfl, ?_⟩, fun h => absurd hi h⟩
      have hq := hok hi H'' (sm.trans sm2)
      unfold isEnd at hq
      rw [c] at hq
      exact hq
end
end P86
namespace P86
open PySem L2 Xg
/-- the values that an instruction reads -/
def rdL (z : Str) (ops : List Int) : List Int :=
  if z = "show" then [ops.getD 0 0]
  else if z = "move" ∨ z = "store" then [ops.getD 1 0]
  else if z = "add" ∨ z = "compare" then (if ops.getD 0 0 = ops.getD 1 0 then [ops.getD 0 0] else [min (ops.getD 0 0) (ops.getD 1 0), max (ops.getD 0 0) (ops.getD 1 0)])
  else if z = "jumpz" ∨ z = "jumpl" then [4] else []
def mdV (z : Str) (ops : List Int) : V :=
  if z = "set" ∨ z = "move" ∨ z = "add" ∨ z = "load" then .int (ops.getD 0 0) else if z = "compare" then .int 4 else .non
def spRead (K : PySem.W.Frag) (A : Ad) : Sp := fun vs H Q E => ∃ (z : Str) (a : Addr) (ops : List Int), vs = [.str z, .ref a] ∧ z.length ≤ 1000 ∧ SqT K H a (ops.map V.int) ∧
  (∀ i : Nat, nmL[i]? = some z → ops.length = (kdI i).length ∧ ∀ H' p, Same H H' → H' p = some (.tup ((rdL z ops).map V.int)) → Q (.ref p) H') ∧ (z ∉ nmL → IErr A z H E)
def spMade (K : PySem.W.Frag) (A : Ad) : Sp := fun vs H Q E => ∃ (z : Str) (a : Addr) (ops : List Int), vs = [.str z, .ref a] ∧ z.length ≤ 1000 ∧ SqT K H a (ops.map V.int) ∧
  (∀ i : Nat, nmL[i]? = some z → ops.length = (kdI i).length ∧ ∀ H', Same H H' → Q (mdV z ops) H') ∧ (z ∉ nmL → IErr A z H E)
theorem atT_int {row : List Int} {k : Nat} (h1 : k < row.length) : atI (row.map V.int) (k : Int) = some (.int (row.getD k 0)) := by
  have e := atI_int (row := row) (i := (k : Int)) (by omega) (by omega)
  rw [Int.toNat_natCast] at e
  exact e
/-- the kinds' lengths of the names that read or make by operands -/
theorem kd_of {i : Nat} {z : Str} (h : nmL[i]? = some z) : (z = "show" → (kdI i).length = 1) ∧ (z = "move" ∨ z = "store" ∨ z = "add" ∨ z = "compare" ∨ z = "set" ∨ z = "load" → (kdI i).length = 2) := by
  have h19 := nm_lt h
  have e : nmI i = z := by
    have q := nm_I h19
    rw [h] at q
    exact (Option.some.inj q).symm
  have a : ∀ j : _root_.Fin 19, (nmI j.val = "show" → (kdI j.val).length = 1) ∧ (nmI j.val = "move" ∨ nmI j.val = "store" ∨ nmI j.val = "add" ∨ nmI j.val = "compare" ∨ nmI j.val = "set" ∨ nmI j.val = "load" → (kdI j.val).length = 2) := by decide +kernel
  have q := a ⟨i, h19⟩
  rw [← e]
  exact q
theorem mem2 {z a b : Str} : decide (z ∈ [a, b]) = decide (z = a ∨ z = b) := by simp
theorem inV2 (z a b : Str) : inV (.str z) [.str a, .str b] = decide (z = a ∨ z = b) := by
  have e := inV_str z [a, b]
  rw [mem2] at e
  exact e
theorem inV4 (z a b c d : Str) : inV (.str z) [.str a, .str b, .str c, .str d] = decide (z = a ∨ z = b ∨ z = c ∨ z = d) := by
  have e := inV_str z [a, b, c, d]
  have m : decide (z ∈ [a, b, c, d]) = decide (z = a ∨ z = b ∨ z = c ∨ z = d) := by simp
  rw [m] at e
  exact e
/-- the sorted set of two -/
theorem set2 {x y : Int} {ns : List Int} (p : ns.Pairwise (· < ·)) (m : ∀ k : Int, k ∈ ns ↔ decide (k ∈ [x, y]) = true) : ns = if x = y then [x] else [min x y, max x y] := by
  have m' : ∀ k : Int, k ∈ ns ↔ (k = x ∨ k = y) := fun k => by rw [m k]; simp
  have hx := (m' x).mpr (.inl rfl)
  have hy := (m' y).mpr (.inr rfl)
  match ns, p, m', hx, hy with
  | [], _, _, hx, _ => cases hx
  | [a], _, m', hx, hy =>
    have e1 : x = a := by simpa using hx
    have e2 : y = a := by simpa using hy
    rw [if_pos (by omega), e1]
  | [a, b], p, m', hx, hy =>
    have hab : a < b := by simpa using p
    have ha := (m' a).mp (by simp)
    have hb := (m' b).mp (by simp)
    have hne : ¬ x = y := by omega
    rw [if_neg hne]
    have e1 : min x y = a := by omega
    have e2 : max x y = b := by omega
    rw [e1, e2]
  | a :: b :: c :: r, p, m', hx, hy =>
    have hp := List.pairwise_cons.mp p
    have hp2 := List.pairwise_cons.mp hp.2
    have h1 := hp.1 b (by simp)
    have h2 := hp2.1 c (by simp)
    have ha := (m' a).mp (by simp)
    have hb := (m' b).mp (by simp)
    have hc := (m' c).mp (by simp)
    omega
section
variable {P : Program} {w : World} {K : PySem.W.Frag} {mg : Str → Option Value} {base : Heap} {A : Ad}
theorem ok_value_made {fd : FuncData} (F : Fun K "value_made" "value_made" S_value_made A.value_made fd) (T : Tp P w K mg A) : FnOk P w K mg base (L2.CX P w) 4 A.value_made fd ["name", "operands"] (spMade K A) := by
  obtain ⟨fd1, F1, b_op_number⟩ := T.d_op_number.ex
  have G_op_number : FnOk P w K mg base (L2.CX P w) 3 A.op_number fd1 ["name"] (spOpn A) := ok_op_number F1 T
  obtain ⟨t4, g_FLAGS⟩ := T.g_FLAGS
  refine F.okX sc_value_made (fun vs H Q E h => ?_) (fun cdv A' outer s H vs Q E hr h => ?_)
  · obtain ⟨z, a, ops, rfl, _⟩ := h
    rfl
  · obtain ⟨z, a, ops, rfl, hz, hS, hok, hbad⟩ := h
    refine ⟨_, (pss_cons (ps_expr (pe_call G_op_number (hr.mono (by decide)) (by rfl) T.d_op_number.g T.d_op_number.k b_op_number .nil (passes_call (W := fun cls d _ H => E cls d H) (takes_of rfl rfl rfl rfl) (fun _ _ _ _ h => h)) (pa_cons (pv 0) pa_nil)))
  (pss_cons (ps_if (pt_cmpR op_in_seq (pv 0) (pe_tup (pa_cons pe_str (pa_cons pe_str (pa_cons pe_str (pa_cons pe_str pa_nil))))) (by rfl))
    (pss_one (ps_ret (pe_ix ix_tup (pv 1) pe_int (fun _ _ => rfl))))
    pss_nil)
  (pss_cons (ps_if (pt_cmpR op_eq (pv 0) pe_str (nomark _))
    (pss_one (ps_ret (pe_glob (v := .int 4) (by rfl) g_FLAGS ⟨_, rfl⟩)))
    pss_nil)
  (pss_one (ps_ret pe_non))))), ?_⟩
    refine ⟨_, rfl, z, rfl, hz, fun i hi H' sm => ?_, hbad⟩
    obtain ⟨hl, hq⟩ := hok i hi
    obtain ⟨k1, k2⟩ := kd_of hi
    refine ⟨_, rfl, (by show 4 ≤ sizeLine; decide), fun p np => ⟨p, _, rfl, .inr (SqT.of upd_same), rfl, rfl, ?_⟩⟩
    have sm1 : Same H (upd H' p (.tup [.str "set", .str "move", .str "add", .str "load"])) := same_new sm np
    refine ⟨_, rfl, ?_⟩
    show if (if false = true then _ else inV (V.str z) [.str "set", .str "move", .str "add", .str "load"]) = true then _ else _
    rw [if_neg Bool.false_ne_true, inV4]
    refine ite2 (fun c => ?_) (fun c => ?_)
    · have c' := of_decide_eq_true c
      have hq' := hq _ sm1
      unfold mdV at hq'
      rw [if_pos c'] at hq'
      have l2 : (kdI i).length = 2 := k2 (by rcases c' with c' | c' | c' | c' <;> simp [c'])
      exact ⟨_, rfl, a, _, 0, _, rfl, rfl, same_sqT sm1 hS, atT_int (k := 0) (by omega), hq'⟩
    · have c' : ¬ (z = "set" ∨ z = "move" ∨ z = "add" ∨ z = "load") := fun q => c (decide_eq_true q)
      have hq' := hq _ sm1
      unfold mdV at hq'
      rw [if_neg c'] at hq'
      refine ⟨_, rfl, rfl, _, rfl, ite2 (fun c2 => ?_) (fun c2 => ?_)⟩
      · have c3 : z = "compare" := by simpa using c2
        rw [if_pos c3] at hq'
        exact hq'
      · have c3 : ¬ z = "compare" := by simpa using c2
        rw [if_neg c3] at hq'
        exact hq'
theorem ok_values_read {fd : FuncData} (F : Fun K "values_read" "values_read" S_values_read A.values_read fd) (T : Tp P w K mg A) : FnOk P w K mg base (L2.CX P w) 4 A.values_read fd ["name", "operands"] (spRead K A) := by
  obtain ⟨fd1, F1, b_op_number⟩ := T.d_op_number.ex
  have G_op_number : FnOk P w K mg base (L2.CX P w) 3 A.op_number fd1 ["name"] (spOpn A) := ok_op_number F1 T
  obtain ⟨t4, g_FLAGS⟩ := T.g_FLAGS
  refine F.okX sc_values_read (fun vs H Q E h => ?_) (fun cdv A' outer s H vs Q E hr h => ?_)
  · obtain ⟨z, a, ops, rfl, _⟩ := h
    rfl
  · obtain ⟨z, a, ops, rfl, hz, hS, hok, hbad⟩ := h
    refine ⟨_, (pss_cons (ps_expr (pe_call G_op_number (hr.mono (by decide)) (by rfl) T.d_op_number.g T.d_op_number.k b_op_number .nil (passes_call (W := fun cls d _ H => E cls d H) (takes_of rfl rfl rfl rfl) (fun _ _ _ _ h => h)) (pa_cons (pv 0) pa_nil)))
  (pss_cons (ps_if (pt_cmpR op_eq (pv 0) pe_str (nomark _))
    (pss_one (ps_ret (pe_tup (pa_cons (pe_ix ix_tup (pv 1) pe_int (fun _ _ => rfl)) pa_nil))))
    pss_nil)
  (pss_cons (ps_if (pt_cmpR op_in_seq (pv 0) (pe_tup (pa_cons pe_str (pa_cons pe_str pa_nil))) (by rfl))
    (pss_one (ps_ret (pe_tup (pa_cons (pe_ix ix_tup (pv 1) pe_int (fun _ _ => rfl)) pa_nil))))
    pss_nil)
  (pss_cons (ps_if (pt_cmpR op_in_seq (pv 0) (pe_tup (pa_cons pe_str (pa_cons pe_str pa_nil))) (by rfl))
    (pss_one (ps_ret (pe_callTy call_tuple_of (by rfl) T.n_tuple (by decide +kernel) (pa_cons (pe_callB (cr_sortedSet rfl) (by rfl) T.n_sorted (by decide +kernel) (pa_cons (pe_callTy (XgSet.cr_setT rfl) (by rfl) T.n_set (by decide +kernel) (pa_cons (pv 1) pa_nil)) pa_nil)) pa_nil))))
    pss_nil)
  (pss_cons (ps_if (pt_cmpR op_in_seq (pv 0) (pe_tup (pa_cons pe_str (pa_cons pe_str pa_nil))) (by rfl))
    (pss_one (ps_ret (pe_tup (pa_cons (pe_glob (v := .int 4) (by rfl) g_FLAGS ⟨_, rfl⟩) pa_nil))))
    pss_nil)
  (pss_one (ps_ret (pe_tup pa_nil)))))))), ?_⟩
    refine ⟨_, rfl, z, rfl, hz, fun i hi H' sm => ?_, hbad⟩
    obtain ⟨hl, hq⟩ := hok i hi
    obtain ⟨k1, k2⟩ := kd_of hi
    unfold rdL at hq
    refine ⟨_, rfl, rfl, _, rfl, ite2 (fun c => ?_) (fun c => ?_)⟩
    · have c' : z = "show" := by simpa using c
      rw [if_pos c'] at hq
      have l1 := k1 c'
      refine ⟨_, rfl, a, _, 0, _, rfl, rfl, same_sqT sm hS, atT_int (k := 0) (by omega), (by show 1 ≤ sizeLine; decide), fun p np => ?_⟩
      exact hq _ p (same_new sm np) upd_same
    have c' : ¬ z = "show" := by simpa using c
    rw [if_neg c'] at hq
    refine ⟨_, rfl, (by show 2 ≤ sizeLine; decide), fun p np => ⟨p, _, rfl, .inr (SqT.of upd_same), rfl, rfl, ?_⟩⟩
    have sm1 : Same H (upd H' p (.tup [.str "move", .str "store"])) := same_new sm np
    refine ⟨_, rfl, ?_⟩
    show if (if false = true then _ else inV (V.str z) [.str "move", .str "store"]) = true then _ else _
    rw [if_neg Bool.false_ne_true, inV2]
    refine ite2 (fun d => ?_) (fun d => ?_)
    · have d' := of_decide_eq_true d
      rw [if_pos d'] at hq
      have l2 : (kdI i).length = 2 := k2 (by rcases d' with d' | d' <;> simp [d'])
      refine ⟨_, rfl, a, _, 1, _, rfl, rfl, same_sqT sm1 hS, atT_int (k := 1) (by omega), (by show 1 ≤ sizeLine; decide), fun p2 np2 => ?_⟩
      exact hq _ p2 (same_new sm1 np2) upd_same
    have d' : ¬ (z = "move" ∨ z = "store") := fun q => d (decide_eq_true q)
    rw [if_neg d'] at hq
    refine ⟨_, rfl, (by show 2 ≤ sizeLine; decide), fun p2 np2 => ⟨p2, _, rfl, .inr (SqT.of upd_same), rfl, rfl, ?_⟩⟩
    have sm2 := same_new (o := .tup [.str "add", .str "compare"]) sm1 np2
    refine ⟨_, rfl, ?_⟩
    show if (if false = true then _ else inV (V.str z) [.str "add", .str "compare"]) = true then _ else _
    rw [if_neg Bool.false_ne_true, inV2]
    refine ite2 (fun f => ?_) (fun f => ?_)
    · have f' := of_decide_eq_true f
      rw [if_pos f'] at hq
      have l2 : (kdI i).length = 2 := k2 (by rcases f' with f' | f' <;> simp [f'])
      obtain ⟨x, y, rfl⟩ : ∃ x y, ops = [x, y] := by
        match ops, hl.trans l2 with
        | [x, y], _ => exact ⟨x, y, rfl⟩
      refine ⟨_, rfl, a, [x, y], rfl, same_sqT sm2 hS, (by show 2 ≤ 50; decide), fun q c nq hc => ⟨q, _, c, rfl, upd_same, (by have : c ≤ 2 := hc; omega), fun ns p3 hp hm hn np3 => ?_⟩⟩
      have e := set2 hp (fun k => (hm k))
      subst e
      have smq := same_new (o := SetO w q (fun j => decide (j ∈ [x, y])) c) sm2 nq
      have sm3 := same_new (o := .lst (((if x = y then [x] else [min x y, max x y]) : List Int).map V.int)) smq np3
      refine ⟨p3, _, rfl, .inl ⟨SqL.of upd_same, fun l nl => ?_⟩⟩
      exact hq _ l (same_new sm3 nl) upd_same
    have f' : ¬ (z = "add" ∨ z = "compare") := fun q => f (decide_eq_true q)
    rw [if_neg f'] at hq
    refine ⟨_, rfl, (by show 2 ≤ sizeLine; decide), fun p3 np3 => ⟨p3, _, rfl, .inr (SqT.of upd_same), rfl, rfl, ?_⟩⟩
    have sm3 := same_new (o := .tup [.str "jumpz", .str "jumpl"]) sm2 np3
    refine ⟨_, rfl, ?_⟩
    show if (if false = true then _ else inV (V.str z) [.str "jumpz", .str "jumpl"]) = true then _ else _
    rw [if_neg Bool.false_ne_true, inV2]
    refine ite2 (fun g => ?_) (fun g => ?_)
    · have g' := of_decide_eq_true g
      rw [if_pos g'] at hq
      refine ⟨(by show 1 ≤ sizeLine; decide), fun p4 np4 => ?_⟩
      exact hq _ p4 (same_new sm3 np4) upd_same
    · have g' : ¬ (z = "jumpz" ∨ z = "jumpl") := fun q => g (decide_eq_true q)
      rw [if_neg g'] at hq
      refine ⟨(by show 0 ≤ sizeLine; decide), fun p4 np4 => ?_⟩
      exact hq _ p4 (same_new sm3 np4) upd_same
end
end P86
namespace P86
open PySem L2 Xg
theorem cut_from {xs : List V} {k : Nat} (h : k ≤ xs.length) : cutV xs (some (k : Int)) none = xs.drop k := by
  unfold cutV
  rw [HT.sIx_none, HT.sIx_nat, Nat.min_eq_left h, List.take_of_length_le (by rw [List.length_drop]; omega)]
theorem cut_to {xs : List V} {k : Nat} (h : k ≤ xs.length) : cutV xs none (some (k : Int)) = xs.take k := by
  unfold cutV
  rw [HT.sIx_none, HT.sIx_nat, Nat.min_eq_left h, List.drop_zero, Nat.sub_zero]
theorem take_next {α : Type} {l : List α} {i : Nat} {x : α} (h : l[i]? = some x) : l.take (i + 1) = l.take i ++ [x] := by
  obtain ⟨hi, e⟩ := List.getElem?_eq_some_iff.mp h
  rw [List.take_succ, h]
  rfl
/-- the signs of a text, each a text -/
def signs (z : Str) : List V := z.cps.toList.map fun c => V.str ⟨#[c]⟩
theorem signs_len (z : Str) : (signs z).length = z.length := by
  unfold signs
  rw [List.length_map]
  rfl
def opv (ns : List Int) (kinds : Str) : List Int := List.zipWith (fun n c => n % limC c) ns kinds.cps.toList
/-- what decoding gives -/
def dec (ns : List Int) : Option (Str × List Int) :=
  if ns.length = 0 then none
  else if 19 ≤ ns.getD 0 0 then none
  else if ns.length ≤ (kdI (ns.getD 0 0).toNat).length then none
  else some (nmI (ns.getD 0 0).toNat, opv (ns.drop 1) (kdI (ns.getD 0 0).toNat))
def spDec (K : PySem.W.Frag) : Sp := fun vs H Q _ => ∃ (a : Addr) (ns : List Int), vs = [.ref a] ∧ SqL K H a (ns.map V.int) ∧ ns.length ≤ 100 ∧ (∀ n ∈ ns, 0 ≤ n) ∧
  (dec ns = none → ∀ H', Same H H' → Q .non H') ∧
  ∀ z os, dec ns = some (z, os) → ∀ H' p q, Same H H' → H' p = some (.tup [.str z, .ref q]) → H' q = some (.tup (os.map V.int)) → Q (.ref p) H'
theorem limC_pos (c : Nat) : 0 < limC c := by
  unfold limC
  split
  · decide
  · split
    · decide
    · split <;> decide
section
variable {P : Program} {w : World} {K : PySem.W.Frag} {mg : Str → Option Value} {base : Heap} {A : Ad}
theorem ok_decode {fd : FuncData} (F : Fun K "decode" "decode" S_decode A.decode fd) (T : Tp P w K mg A) : FnOk P w K mg base CX0 2 A.decode fd ["numbers"] (spDec K) := by
  obtain ⟨fd1, F1, b_operand_limit⟩ := T.d_operand_limit.ex
  have G_operand_limit : FnOk P w K mg base CX0 1 A.operand_limit fd1 ["kind"] spLim := ok_operand_limit F1 T
  refine F.ok sc_decode (fun vs H Q E h => ?_) (fun cdv A' outer s H vs Q E hr h => ?_)
  · obtain ⟨a, ns, rfl, _⟩ := h
    rfl
  · obtain ⟨a, ns, rfl, hS, hl, hp, hno, hyes⟩ := h
    obtain ⟨as, la, hO, hAt⟩ := pairsB_sq T.OPS
    have l19 : as.length = 19 := la.trans (by decide +kernel)
    refine ⟨_, (pss_cons (ps_if (PW.pt (pw_or (pt_cmpR op_eq (pe_callB call_len_seq (by rfl) T.n_len PySem.boot_len (pa_cons (pv 0) pa_nil)) pe_int (nomark _)) (pw_or1 (pt_cmpR op_ge (pe_ix ix_list (pv 0) pe_int (fun _ _ => rfl)) (pe_callB call_len_seq (by rfl) T.n_len PySem.boot_len (pa_cons (pe_glob (v := .ref _) (by rfl) T.g_OPS rfl) pa_nil)) (nomark _)))))
    (pss_one (ps_ret pe_non))
    pss_nil)
  (pss_cons (ps_asg (pe_ix ix_tup (pe_glob (v := .ref _) (by rfl) T.g_OPS rfl) (pe_ix ix_list (pv 0) pe_int (fun _ _ => rfl)) (fun _ _ => rfl)) (pg_tup (by rfl) (pgs_cons (pg_name (i := 1) sc_decode.nd rfl (Or.inl rfl)) (pgs_cons (pg_name (i := 2) sc_decode.nd rfl (Or.inl rfl)) pgs_nil))))
  (pss_cons (ps_if (pt_cmpR op_le (pe_callB call_len_seq (by rfl) T.n_len PySem.boot_len (pa_cons (pv 0) pa_nil)) (pe_callB call_len_str (by rfl) T.n_len PySem.boot_len (pa_cons (pv 2) pa_nil)) (nomark _))
    (pss_one (ps_ret pe_non))
    pss_nil)
  (pss_one (ps_ret (pe_tup (pa_cons (pv 1) (pa_cons (pe_callTy call_tuple_of (by rfl) T.n_tuple (by decide +kernel) (pa_cons (by exact (pe_lc (own := [("number", 3), ("kind", 4)]) (g := gTup K 2 (gCons (gName 3) (gCons (gName 4) gNil))) (tt := tYes)  rfl sc_decode.nd (XgIter.pi_zipX (by rfl) T.n_zip (pa_cons (pe_slice sl_list (pv 0) (po_some pe_int) po_none) (pa_cons (pv 2) pa_nil))) (blkOk_by (N := ["numbers", "name", "kinds", "number", "kind"]) (sc := defScope S_decode) (by decide +kernel)) (fun _ _ _ _ _ => (by exact (pg_tup (by rfl) (pgs_cons (pg_name (i := 3) sc_decode.nd rfl (Or.inl rfl)) (pgs_cons (pg_name (i := 4) sc_decode.nd rfl (Or.inl rfl)) pgs_nil))))) (fun _ _ _ _ _ => (by exact pts_nil)) (fun _ _ _ _ _ => (by exact (pe_op op_mod (pv 3) (pe_call G_operand_limit (hr.mono (by decide)) (by rfl) T.d_operand_limit.g T.d_operand_limit.k b_operand_limit .nil pass0 (pa_cons (pv 4) pa_nil))))))) pa_nil)) pa_nil)))))))), ?_⟩
    refine ⟨_, rfl, a, ns.map V.int, rfl, .inl hS, rfl, _, rfl, ?_⟩
    show if decide (V.int ((ns.map V.int).length : Nat) = V.int 0) = true then _ else _
    rw [List.length_map]
    refine ite2 (fun c => ?_) (fun c => ?_)
    · have c' : ns.length = 0 := by simpa using c
      refine iteT (hno ?_ H (Same.refl H))
      unfold dec
      rw [if_pos c']
    have c' : ¬ ns.length = 0 := by simpa using c
    refine ⟨_, rfl, a, _, 0, _, rfl, rfl, hS, atI_int (i := 0) (by omega) (by omega), A.OPS, _, rfl, .inr (hO H), _, _, rfl, rfl, _, rfl, ?_⟩
    show if decide (((as.map V.ref).length : Int) ≤ ns.getD (0 : Int).toNat 0) = true then _ else _
    rw [List.length_map, l19]
    have e0 : (0 : Int).toNat = 0 := rfl
    rw [e0]
    refine ite2 (fun d => ?_) (fun d => ?_)
    · have d' : 19 ≤ ns.getD 0 0 := by simpa using d
      refine hno ?_ H (Same.refl H)
      unfold dec
      rw [if_neg c', if_pos d']
    have d' : ¬ 19 ≤ ns.getD 0 0 := by simpa using d
    have m0 : ns.getD 0 0 ∈ ns := by
      have hk : 0 < ns.length := by omega
      have e : ns.getD 0 0 = ns[0] := by simp [List.getD, List.getElem?_eq_getElem hk]
      rw [e]
      exact List.getElem_mem hk
    have n0 : 0 ≤ ns.getD 0 0 := hp _ m0
    obtain ⟨i, hi⟩ := Int.eq_ofNat_of_zero_le n0
    have i19 : i < 19 := by omega
    have et : (ns.getD 0 0).toNat = i := by omega
    have hi' : i < as.length := by omega
    have ea : as[i]? = some as[i] := List.getElem?_eq_getElem hi'
    have lo : i < opsL.length := by
      have l : opsL.length = 19 := by decide +kernel
      omega
    have eo : opsL[i]? = some opsL[i] := List.getElem?_eq_getElem lo
    obtain ⟨on, ok⟩ := ops_at eo
    have hpr := hAt i _ _ ea eo H
    have en : opsL[i].1 = nmI i := by
      have e := nm_I i19
      rw [on] at e
      exact Option.some.inj e
    have ek : opsL[i].2 = kdI i := by
      have e := kd_I i19
      rw [ok] at e
      exact Option.some.inj e
    rw [en, ek] at hpr
    have em : (as.map V.ref)[i]? = some (.ref as[i]) := by rw [List.getElem?_map, ea]; rfl
    -- name, kinds = OPS[numbers[0]]
    have eA : atI (as.map V.ref) (ns.getD 0 0) = some (.ref as[i]) := by
      rw [hi]
      exact atI_nat em
    refine ⟨_, rfl, a, _, 0, _, rfl, rfl, hS, atI_int (i := 0) (by omega) (by omega), A.OPS, _, _, _, rfl, rfl, hO H, eA, as[i], _, rfl, hpr, rfl, _, _, rfl, _, _, rfl, rfl, ?_⟩
    -- if len(numbers) <= len(kinds)
    refine ⟨_, rfl, a, _, rfl, .inl hS, _, rfl, _, rfl, sz1000 (Nat.le_trans (kd_len i19) (by decide)), _, _, rfl, rfl, _, rfl, ?_⟩
    rw [List.length_map]
    refine ite2 (fun f => ?_) (fun f => ?_)
    · have f' : ns.length ≤ (kdI i).length := by
        have q : ((ns.length : Int) ≤ ((kdI i).length : Int)) := by simpa using f
        omega
      refine hno ?_ H (Same.refl H)
      unfold dec
      rw [if_neg c', if_neg d', et, if_pos f']
    have f' : ¬ ns.length ≤ (kdI i).length := fun q => f (decide_eq_true (by omega))
    have hd : dec ns = some (nmI i, opv (ns.drop 1) (kdI i)) := by
      unfold dec
      rw [if_neg c', if_neg d', et, if_neg f']
    -- the pair
    have cut : cutV (ns.map V.int) (some 1) none = (ns.drop 1).map V.int := by
      have e := cut_from (xs := ns.map V.int) (k := 1) (by rw [List.length_map]; omega)
      rw [← List.map_drop] at e
      exact e
    refine ⟨_, rfl, _, rfl, 1, rfl, a, _, rfl, hS, fun p np => ?_⟩
    rw [cut]
    have smp : Same H (upd H p (.lst ((ns.drop 1).map V.int))) := same_new (Same.refl H) np
    have mlen : min ((ns.drop 1).map V.int).length (signs (kdI i)).length = (opv (ns.drop 1) (kdI i)).length := by
      unfold opv
      rw [List.length_map, signs_len, List.length_zipWith]
      rfl
    have lv : (opv (ns.drop 1) (kdI i)).length ≤ 100 := by
      unfold opv
      rw [List.length_zipWith, List.length_drop]
      omega
    refine ⟨_, rfl, .L p, .S (kdI i), rfl, ⟨_, SqL.of upd_same⟩, ⟨_, rfl⟩, fun D nD => ?_⟩
    have nDp : D ≠ p := fun e => by
      rw [e, upd_same] at nD
      cases nD
    have wk := XgIter.walk_x (K := K) (s1 := .L p) (s2 := .S (kdI i)) (G := fun H' => SqL K H' p ((ns.drop 1).map V.int)) (xs := (ns.drop 1).map V.int) (ys := signs (kdI i)) (fun H' g => g) (fun H' _ => rfl)
    rw [mlen] at wk
    refine lc_it wk (fun j H' => Same H H' ∧ H' p = some (.lst ((ns.drop 1).map V.int)) ∧ H' D = some (.lst (((opv (ns.drop 1) (kdI i)).take j).map V.int)))
      ⟨same_new smp nD, by rw [upd_ne (Ne.symm nDp), upd_same], by rw [upd_same]; rfl⟩ (fun j H' _ h => SqL.of h.2.1) ?_ ?_
    · rintro j x H1 H2 hj ⟨sm, hP, hD⟩ ⟨t, x1, y1, rfl, hnew, rfl, e1, e2⟩
      have e1' : ((ns.drop 1).map V.int)[j]? = some x1 := e1
      have e2' : (signs (kdI i))[j]? = some y1 := e2
      rw [List.getElem?_map] at e1'
      unfold signs at e2'
      rw [List.getElem?_map] at e2'
      obtain ⟨n, hn, rfl⟩ := Option.map_eq_some_iff.mp e1'
      obtain ⟨c0, hc0, rfl⟩ := Option.map_eq_some_iff.mp e2'
      have hlt : Letter c0 := kd_letter i19 c0 (List.mem_of_getElem? hc0)
      have hz : (opv (ns.drop 1) (kdI i))[j]? = some (n % limC c0) := by
        unfold opv
        rw [List.getElem?_zipWith, hn, hc0]
      have ht : t ≠ D := fun e => by
        rw [e, hD] at hnew
        cases hnew
      have htp : t ≠ p := fun e => by
        rw [e, hP] at hnew
        cases hnew
      refine ⟨t, _, rfl, SqT.of upd_same, rfl, _, _, rfl, _, _, rfl, rfl, rfl, ?_⟩
      refine ⟨_, rfl, _, rfl, c0, rfl, hlt, _, _, rfl, rfl, limC_pos c0, ?_⟩
      refine ⟨_, by rw [upd_ne (Ne.symm ht)]; exact hD, lt1000 (by rw [List.length_map, List.length_take]; omega), ?_⟩
      have hnewD : H D = none := smp.free nD
      refine ⟨same_mut (same_new sm hnew) hnewD, by rw [upd_ne (Ne.symm nDp), upd_ne (Ne.symm htp)]; exact hP, ?_⟩
      rw [upd_same, take_next hz, List.map_append]
      rfl
    · rintro H1 ⟨sm, hP, hD⟩
      rw [List.take_length] at hD
      refine ⟨D, _, rfl, .inl ⟨SqL.of hD, fun q nq => ⟨(by show 2 ≤ sizeLine; decide), fun r nr => ?_⟩⟩⟩
      have hrq : r ≠ q := fun e => by
        rw [e, upd_same] at nr
        cases nr
      exact hyes _ _ hd _ r q (same_new (same_new sm nq) nr) upd_same (by rw [upd_ne (Ne.symm hrq), upd_same])
end
end P86
namespace P86
open PySem L2 Xg
/-- the operands fit the i-th instruction, whose name is z -/
structure EncOk (i : Nat) (z : Str) (ops : List Int) : Prop where
  nm : nmL[i]? = some z
  len : ops.length = (kdI i).length
  fit : ∀ (k : Nat) (c : Nat) (o : Int), (kdI i).cps.toList[k]? = some c → ops[k]? = some o → 0 ≤ o ∧ o < limC c
def spEnc (K : PySem.W.Frag) (A : Ad) : Sp := fun vs H Q E => ∃ (z : Str) (a : Addr) (ops : List Int), vs = [.str z, .ref a] ∧ z.length ≤ 1000 ∧ ops.length ≤ 100 ∧ SqT K H a (ops.map V.int) ∧
  (∀ i : Nat, EncOk i z ops → ∀ H' p, Same H H' → H p = none → H' p = some (.lst (((i : Int) :: ops).map V.int)) → Q (.ref p) H') ∧ ((∀ i, ¬ EncOk i z ops) → IErr A z H E)
section
variable {P : Program} {w : World} {K : PySem.W.Frag} {mg : Str → Option Value} {base : Heap} {A : Ad}
theorem ok_encode {fd : FuncData} (F : Fun K "encode" "encode" S_encode A.encode fd) (T : Tp P w K mg A) : FnOk P w K mg base (L2.CX P w) 4 A.encode fd ["name", "operands"] (spEnc K A) := by
  obtain ⟨fd1, F1, b_op_number⟩ := T.d_op_number.ex
  have G_op_number : FnOk P w K mg base (L2.CX P w) 3 A.op_number fd1 ["name"] (spOpn A) := ok_op_number F1 T
  obtain ⟨fd2, F2, b_operand_limit⟩ := T.d_operand_limit.ex
  have G_operand_limit : FnOk P w K mg base CX0 1 A.operand_limit fd2 ["kind"] spLim := ok_operand_limit F2 T
  refine F.okX sc_encode (fun vs H Q E h => ?_) (fun cdv A' outer s H vs Q E hr h => ?_)
  · obtain ⟨z, a, ops, rfl, _⟩ := h
    rfl
  · obtain ⟨z, a, ops, rfl, hz, hl, hS, hok, hbad⟩ := h
    obtain ⟨as, la, hO, hAt⟩ := pairsB_sq T.OPS
    have l19 : as.length = 19 := la.trans (by decide +kernel)
    refine ⟨_, (pss_cons (ps_set (i := 2) sc_encode.nd rfl (Or.inl rfl) (pe_call G_op_number (hr.mono (by decide)) (by rfl) T.d_op_number.g T.d_op_number.k b_op_number .nil (passes_call (W := fun cls d _ H => E cls d H) (takes_of rfl rfl rfl rfl) (fun _ _ _ _ h => h)) (pa_cons (pv 0) pa_nil)))
  (pss_cons (ps_set (i := 3) sc_encode.nd rfl (Or.inl rfl) (pe_ix ix_tup (pe_ix ix_tup (pe_glob (v := .ref _) (by rfl) T.g_OPS rfl) (pv 2) (fun _ _ => rfl)) pe_int (fun _ _ => rfl)))
  (pss_cons (ps_if (pt_cmpR op_ne (pe_callB call_len_seq (by rfl) T.n_len PySem.boot_len (pa_cons (pv 1) pa_nil)) (pe_callB call_len_str (by rfl) T.n_len PySem.boot_len (pa_cons (pv 3) pa_nil)) (nomark _))
    (pss_one (ps_raise rfl (takes_of rfl rfl rfl rfl) (XgSup.pmk_sup T.x_InstructionError (by decide +kernel) hr (pa_cons (pv 0) pa_nil) (by rfl))))
    pss_nil)
  (pss_cons (ps_for (passes_of rfl) rfl (XgIter.pi_zipX (by rfl) T.n_zip (pa_cons (pv 1) (pa_cons (pv 3) pa_nil))) (pg_tup (by rfl) (pgs_cons (pg_name (i := 4) sc_encode.nd rfl (Or.inl rfl)) (pgs_cons (pg_name (i := 5) sc_encode.nd rfl (Or.inl rfl)) pgs_nil)))
    (pss_one (ps_if (PW.pt (pw_or (pt_cmpR op_lt (pv 4) pe_int (nomark _)) (pw_or1 (pt_cmpR op_ge (pv 4) (pe_call G_operand_limit (hr.mono (by decide)) (by rfl) T.d_operand_limit.g T.d_operand_limit.k b_operand_limit .nil pass0 (pa_cons (pv 5) pa_nil)) (nomark _)))))
    (pss_one (ps_raise rfl (takes_of rfl rfl rfl rfl) (XgSup.pmk_sup T.x_InstructionError (by decide +kernel) hr (pa_cons (pv 0) pa_nil) (by rfl))))
    pss_nil)))
  (pss_one (ps_ret (pe_op op_cat (pe_lst (pa_cons (pv 2) pa_nil)) (pe_callTy call_list_of (by rfl) T.n_list (by decide +kernel) (pa_cons (pv 1) pa_nil))))))))), ?_⟩
    refine ⟨_, rfl, z, rfl, hz, fun i hi H1 sm => ?_, fun hn => hbad fun i e => hn (nm_mem e.nm)⟩
    have i19 := nm_lt hi
    have hi' : i < as.length := by omega
    have ea : as[i]? = some as[i] := List.getElem?_eq_getElem hi'
    have lo : i < opsL.length := by
      have l : opsL.length = 19 := by decide +kernel
      omega
    have eo : opsL[i]? = some opsL[i] := List.getElem?_eq_getElem lo
    obtain ⟨on, ok⟩ := ops_at eo
    have hpr := hAt i _ _ ea eo H1
    have ek : opsL[i].2 = kdI i := by
      have e := kd_I i19
      rw [ok] at e
      exact Option.some.inj e
    rw [ek] at hpr
    have em : (as.map V.ref)[i]? = some (.ref as[i]) := by rw [List.getElem?_map, ea]; rfl
    have uniq : ∀ j, EncOk j z ops → j = i := fun j e => nm_inj e.nm hi
    -- kinds = OPS[number][1]
    refine ⟨_, rfl, A.OPS, _, _, _, rfl, rfl, hO H1, atI_nat em, as[i], _, _, _, rfl, rfl, hpr, rfl, ?_⟩
    -- if len(operands) != len(kinds)
    have hS1 := same_sqT sm hS
    refine ⟨_, rfl, a, _, rfl, .inr hS1, _, rfl, _, rfl, sz1000 (Nat.le_trans (kd_len i19) (by decide)), rfl, _, rfl, ?_⟩
    rw [List.length_map]
    refine ite2 (fun c => ?_) (fun c => ?_)
    · have c' : ¬ ops.length = (kdI i).length := by
        intro q
        rw [q] at c
        simp at c
      refine ⟨_, rfl, z, rfl, by omega, fun d hd => ?_⟩
      exact hbad (fun j e => c' (by rw [e.len, uniq j e])) _ d (same_new sm hd) (sm.free hd) upd_same
    have c' : ops.length = (kdI i).length := by
      by_cases q : ops.length = (kdI i).length
      · exact q
      · exact absurd (by simp; omega) c
    -- for operand, kind in zip(operands, kinds)
    have wk := XgIter.walk_x (K := K) (s1 := .T a) (s2 := .S (kdI i)) (G := fun H' => SqT K H' a (ops.map V.int)) (xs := ops.map V.int) (ys := signs (kdI i)) (fun H' g => g) (fun H' _ => rfl)
    refine ⟨_, rfl, _, rfl, .T a, .S (kdI i), rfl, ⟨_, hS1⟩, ⟨_, rfl⟩, for_it wk
      (fun j σ H' => Same H H' ∧ (∃ v4 v5, σ = [some (.str z), some (.ref a), some (.int (i : Int)), some (.str (kdI i)), v4, v5]) ∧ ∀ k : Nat, k < j → ∀ c o, (kdI i).cps.toList[k]? = some c → ops[k]? = some o → 0 ≤ o ∧ o < limC c)
      ⟨sm, ⟨_, _, rfl⟩, fun k hk => absurd hk (Nat.not_lt_zero k)⟩ (fun j σ H' _ h => same_sqT h.1 hS) ?_ ?_⟩
    · rintro j x σ H2 H3 hj ⟨sm2, ⟨v4, v5, rfl⟩, hf⟩ ⟨t, x1, y1, rfl, hnew, rfl, e1, e2⟩
      have e1' : (ops.map V.int)[j]? = some x1 := e1
      have e2' : (signs (kdI i))[j]? = some y1 := e2
      rw [List.getElem?_map] at e1'
      unfold signs at e2'
      rw [List.getElem?_map] at e2'
      obtain ⟨n, hn, rfl⟩ := Option.map_eq_some_iff.mp e1'
      obtain ⟨c0, hc0, rfl⟩ := Option.map_eq_some_iff.mp e2'
      have hlt : Letter c0 := kd_letter i19 c0 (List.mem_of_getElem? hc0)
      have sm3 : Same H (upd H2 t (.tup [.int n, .str ⟨#[c0]⟩])) := same_new sm2 hnew
      refine ⟨t, _, rfl, SqT.of upd_same, rfl, _, _, rfl, _, _, rfl, rfl, ?_⟩
      have bad : ¬ (0 ≤ n ∧ n < limC c0) → ∀ j', ¬ EncOk j' z ops := fun hb j' e => by
        have ej := uniq j' e
        subst ej
        exact hb (e.fit j c0 n hc0 hn)
      refine ⟨_, rfl, _, _, rfl, rfl, _, rfl, ?_⟩
      refine ite2 (fun d => ?_) (fun d => ?_)
      · have d' : n < 0 := of_decide_eq_true d
        refine iteT ⟨_, rfl, z, rfl, by omega, fun q hq => ?_⟩
        exact hbad (bad (by omega)) _ q (same_new sm3 hq) (sm3.free hq) upd_same
      have d' : ¬ n < 0 := fun q => d (decide_eq_true q)
      refine ⟨_, rfl, _, rfl, c0, rfl, hlt, _, _, rfl, rfl, _, rfl, ?_⟩
      refine ite2 (fun f => ?_) (fun f => ?_)
      · have f' : limC c0 ≤ n := of_decide_eq_true f
        refine ⟨_, rfl, z, rfl, by omega, fun q hq => ?_⟩
        exact hbad (bad (by omega)) _ q (same_new sm3 hq) (sm3.free hq) upd_same
      have f' : ¬ limC c0 ≤ n := fun q => f (decide_eq_true q)
      refine ⟨sm3, ⟨_, _, rfl⟩, fun k hk c o h1 h2 => ?_⟩
      rcases Nat.lt_or_eq_of_le (Nat.le_of_lt_succ hk) with h | h
      · exact hf k h c o h1 h2
      · subst h
        rw [hc0] at h1
        rw [hn] at h2
        cases h1
        cases h2
        omega
    · rintro σ H2 ⟨sm2, ⟨v4, v5, rfl⟩, hf⟩
      rw [List.length_map, signs_len, c', Nat.min_self] at hf
      have hE : EncOk i z ops := ⟨hi, c', fun k c o h1 h2 => hf k (by
        have q := (List.getElem?_eq_some_iff.mp h1).1
        exact q) c o h1 h2⟩
      refine ⟨_, rfl, (by show 1 ≤ sizeLine; decide), fun p np => ⟨_, rfl, a, _, rfl, .inr (same_sqT (same_new sm2 np) hS), fun q nq => ?_⟩⟩
      have hqp : q ≠ p := fun e => by
        rw [e, upd_same] at nq
        cases nq
      have sm4 := same_new (o := .lst (ops.map V.int)) (same_new (o := .lst [V.int (i : Int)]) sm2 np) nq
      refine ⟨p, q, _, _, rfl, rfl, by rw [upd_ne (Ne.symm hqp), upd_same], upd_same, (by rw [List.length_map]; exact sz1000 (by show 1 + ops.length ≤ 1000; omega)), fun r nr => ?_⟩
      exact hok i hE _ r (same_new sm4 nr) (sm4.free nr) upd_same
end
end P86
namespace P86
open PySem L2 Xg
theorem same_sqL {K : PySem.W.Frag} {H H' : Hp} {a : Addr} {xs : List V} (e : Same H H') (h : SqL K H a xs) : SqL K H' a xs := by
  rcases h with (h | ⟨o, h⟩) | h
  · exact .inl (.inl (e _ _ h))
  · exact .inl (.inr ⟨o, e _ _ h⟩)
  · exact .inr h
abbrev S__law_row : Stmt := top 29
theorem sc__law_row : FnScope ["_law_script", "_law_most", "_law_row_here", "_law_cell", "_law_rest", "_law_k"] ["_law_script", "_law_most"] (defScope S__law_row) := ⟨rfl, rfl, rfl, by decide +kernel, rfl, by decide +kernel, by decide +kernel⟩
abbrev S__law_pick : Stmt := top 30
theorem sc__law_pick : FnScope ["_law_row_here", "_law_at", "_law_limit_here", "_law_value"] ["_law_row_here", "_law_at", "_law_limit_here"] (defScope S__law_pick) := ⟨rfl, rfl, rfl, by decide +kernel, rfl, by decide +kernel, by decide +kernel⟩
abbrev S__law_whole : Stmt := top 31
theorem sc__law_whole : FnScope ["_law_value"] ["_law_value"] (defScope S__law_whole) := ⟨rfl, rfl, rfl, by decide +kernel, rfl, by decide +kernel, by decide +kernel⟩
abbrev S__law_names : Stmt := top 32
theorem sc__law_names : FnScope ["_law_text"] [] (defScope S__law_names) := ⟨rfl, rfl, rfl, by decide +kernel, rfl, by decide +kernel, by decide +kernel⟩
abbrev S__law_kinds : Stmt := top 33
theorem sc__law_kinds : FnScope [] [] (defScope S__law_kinds) := ⟨rfl, rfl, rfl, by decide +kernel, rfl, by decide +kernel, by decide +kernel⟩
abbrev S__law_limit : Stmt := top 34
theorem sc__law_limit : FnScope ["_law_kind"] ["_law_kind"] (defScope S__law_limit) := ⟨rfl, rfl, rfl, by decide +kernel, rfl, by decide +kernel, by decide +kernel⟩
abbrev S__law_decoded : Stmt := top 35
theorem sc__law_decoded : FnScope ["_law_numbers", "_law_letters", "_law_operands", "_law_k"] ["_law_numbers"] (defScope S__law_decoded) := ⟨rfl, rfl, rfl, by decide +kernel, rfl, by decide +kernel, by decide +kernel⟩
abbrev S__law_same : Stmt := top 36
theorem sc__law_same : FnScope ["_law_actual", "_law_expected", "_law_value"] ["_law_actual", "_law_expected"] (defScope S__law_same) := ⟨rfl, rfl, rfl, by decide +kernel, rfl, by decide +kernel, by decide +kernel⟩
abbrev S__law_all_whole : Stmt := top 37
theorem sc__law_all_whole : FnScope ["_law_values", "_law_expected", "_law_value"] ["_law_values", "_law_expected"] (defScope S__law_all_whole) := ⟨rfl, rfl, rfl, by decide +kernel, rfl, by decide +kernel, by decide +kernel⟩
abbrev S__law_reads : Stmt := top 38
theorem sc__law_reads : FnScope ["_law_name", "_law_operands"] ["_law_name", "_law_operands"] (defScope S__law_reads) := ⟨rfl, rfl, rfl, by decide +kernel, rfl, by decide +kernel, by decide +kernel⟩
abbrev S__law_made : Stmt := top 39
theorem sc__law_made : FnScope ["_law_name", "_law_operands", "_law_made_here"] ["_law_name", "_law_operands"] (defScope S__law_made) := ⟨rfl, rfl, rfl, by decide +kernel, rfl, by decide +kernel, by decide +kernel⟩
abbrev S__law_flag : Stmt := top 40
theorem sc__law_flag : FnScope ["_law_actual", "_law_expected"] ["_law_actual", "_law_expected"] (defScope S__law_flag) := ⟨rfl, rfl, rfl, by decide +kernel, rfl, by decide +kernel, by decide +kernel⟩
abbrev S__law_questions : Stmt := top 41
theorem sc__law_questions : FnScope ["_law_name", "_law_supervisor", "_law_jump", "_law_linkable"] ["_law_name"] (defScope S__law_questions) := ⟨rfl, rfl, rfl, by decide +kernel, rfl, by decide +kernel, by decide +kernel⟩
abbrev S__law_refused : Stmt := top 42
theorem sc__law_refused : FnScope ["_law_name", "_law_operands", "e"] ["_law_name", "_law_operands"] (defScope S__law_refused) := ⟨rfl, rfl, rfl, by decide +kernel, rfl, by decide +kernel, by decide +kernel⟩
abbrev S__law_ask : Stmt := top 43
theorem sc__law_ask : FnScope ["_law_number", "_law_name"] ["_law_number", "_law_name"] (defScope S__law_ask) := ⟨rfl, rfl, rfl, by decide +kernel, rfl, by decide +kernel, by decide +kernel⟩
abbrev S__law_unknown : Stmt := top 44
theorem sc__law_unknown : FnScope ["_law_name", "_law_number", "_law_refused_here", "e"] ["_law_name"] (defScope S__law_unknown) := ⟨rfl, rfl, rfl, by decide +kernel, rfl, by decide +kernel, by decide +kernel⟩
abbrev S__law_wrong_operands : Stmt := top 45
theorem sc__law_wrong_operands : FnScope ["_law_name", "_law_letters", "_law_operands", "_law_k", "_law_wrong", "_law_bad"] ["_law_name", "_law_letters", "_law_operands"] (defScope S__law_wrong_operands) := ⟨rfl, rfl, rfl, by decide +kernel, rfl, by decide +kernel, by decide +kernel⟩
abbrev S__law_table : Stmt := top 46
theorem sc__law_table : FnScope ["_law_names_here", "_law_kinds_here", "_law_k", "_law_kind"] [] (defScope S__law_table) := ⟨rfl, rfl, rfl, by decide +kernel, rfl, by decide +kernel, by decide +kernel⟩
abbrev S_law : Stmt := top 47
theorem sc_law : FnScope ["_law_script", "_law_row_here", "_law_index", "_law_name", "_law_letters", "_law_operands", "_law_numbers", "_law_behind", "_law_free", "_law_kept", "_law_sizes", "_law_reads_here", "_law_k"] ["_law_script"] (defScope S_law) := ⟨rfl, rfl, rfl, by decide +kernel, rfl, by decide +kernel, by decide +kernel⟩
structure Al where
  _law_row : Addr
  _law_pick : Addr
  _law_whole : Addr
  _law_names : Addr
  _law_kinds : Addr
  _law_limit : Addr
  _law_decoded : Addr
  _law_same : Addr
  _law_all_whole : Addr
  _law_reads : Addr
  _law_made : Addr
  _law_flag : Addr
  _law_questions : Addr
  _law_refused : Addr
  _law_ask : Addr
  _law_unknown : Addr
  _law_wrong_operands : Addr
  _law_table : Addr
  TextError : Addr
  GuestError : Addr
  PolicyError : Addr
  ActionError : Addr
  SettingError : Addr
  DebuggerError : Addr
  GuestlivesError : Addr
structure Tl (P : Program) (w : World) (K : PySem.W.Frag) (mg : Str → Option Value) (A : Ad) (B : Al) : Prop extends Tp P w K mg A where
  n_abs : mg "abs" = none
  n_int : mg "int" = none
  n_range : mg "range" = none
  n_isinstance : mg "isinstance" = none
  n_bool : mg "bool" = none
  n_str : mg "str" = none
  n_min : mg "min" = none
  n_max : mg "max" = none
  n_ValueError : mg "ValueError" = none
  i_int : PySem.W.kitOne K (.type "int") (.type "int") = some true
  i_ib : PySem.W.kitOne K (.type "int") (.type "bool") = some false
  i_ni : PySem.W.kitOne K (.type "NoneType") (.type "int") = some false
  i_bool : PySem.W.kitOne K (.type "bool") (.type "bool") = some true
  i_tup : PySem.W.kitOne K (.type "tuple") (.type "tuple") = some true
  i_nt : PySem.W.kitOne K (.type "NoneType") (.type "tuple") = some false
  i_list : PySem.W.kitOne K (.type "list") (.type "list") = some true
  i_str : PySem.W.kitOne K (.type "str") (.type "str") = some true
  g_TextError : mg "TextError" = some (.ref B.TextError)
  g_InstructionError : mg "InstructionError" = some (.ref A.IE)
  g_GuestError : mg "GuestError" = some (.ref B.GuestError)
  g_PolicyError : mg "PolicyError" = some (.ref B.PolicyError)
  g_ActionError : mg "ActionError" = some (.ref B.ActionError)
  g_SettingError : mg "SettingError" = some (.ref B.SettingError)
  g_DebuggerError : mg "DebuggerError" = some (.ref B.DebuggerError)
  g_GuestlivesError : mg "GuestlivesError" = some (.ref B.GuestlivesError)
  xc_IE : ExcC K A.IE
  xf_IE : XfC K A.IE
  m_II : PySem.W.exmOne K (.ref A.IE) (.ref A.IE) = some true
  m_IG : PySem.W.exmOne K (.ref A.IE) (.ref B.GuestlivesError) = some true
  i_II : PySem.W.kitOne K (.ref A.IE) (.ref A.IE) = some true
  i_IG : PySem.W.kitOne K (.ref A.IE) (.ref B.GuestlivesError) = some true
  i_IV : PySem.W.kitOne K (.ref A.IE) (.type "ValueError") = some true
  i_six : PySem.W.kitAny K (.ref A.IE) [.ref B.TextError, .ref B.GuestError, .ref B.PolicyError, .ref B.ActionError, .ref B.SettingError, .ref B.DebuggerError] = some false
  d__law_row : Df K mg "_law_row" "_law_row" S__law_row B._law_row ["_law_script", "_law_most"]
  d__law_pick : Df K mg "_law_pick" "_law_pick" S__law_pick B._law_pick ["_law_row_here", "_law_at", "_law_limit_here"]
  d__law_whole : Df K mg "_law_whole" "_law_whole" S__law_whole B._law_whole ["_law_value"]
  d__law_names : Df K mg "_law_names" "_law_names" S__law_names B._law_names []
  d__law_kinds : Df K mg "_law_kinds" "_law_kinds" S__law_kinds B._law_kinds []
  d__law_limit : Df K mg "_law_limit" "_law_limit" S__law_limit B._law_limit ["_law_kind"]
  d__law_decoded : Df K mg "_law_decoded" "_law_decoded" S__law_decoded B._law_decoded ["_law_numbers"]
  d__law_same : Df K mg "_law_same" "_law_same" S__law_same B._law_same ["_law_actual", "_law_expected"]
  d__law_all_whole : Df K mg "_law_all_whole" "_law_all_whole" S__law_all_whole B._law_all_whole ["_law_values", "_law_expected"]
  d__law_reads : Df K mg "_law_reads" "_law_reads" S__law_reads B._law_reads ["_law_name", "_law_operands"]
  d__law_made : Df K mg "_law_made" "_law_made" S__law_made B._law_made ["_law_name", "_law_operands"]
  d__law_flag : Df K mg "_law_flag" "_law_flag" S__law_flag B._law_flag ["_law_actual", "_law_expected"]
  d__law_questions : Df K mg "_law_questions" "_law_questions" S__law_questions B._law_questions ["_law_name"]
  d__law_refused : Df K mg "_law_refused" "_law_refused" S__law_refused B._law_refused ["_law_name", "_law_operands"]
  d__law_ask : Df K mg "_law_ask" "_law_ask" S__law_ask B._law_ask ["_law_number", "_law_name"]
  d__law_unknown : Df K mg "_law_unknown" "_law_unknown" S__law_unknown B._law_unknown ["_law_name"]
  d__law_wrong_operands : Df K mg "_law_wrong_operands" "_law_wrong_operands" S__law_wrong_operands B._law_wrong_operands ["_law_name", "_law_letters", "_law_operands"]
  d__law_table : Df K mg "_law_table" "_law_table" S__law_table B._law_table []
def spWhole : Sp := fun vs H Q _ => (∃ i : Int, vs = [.int i] ∧ Q (.bl true) H) ∨ (vs = [.non] ∧ Q (.bl false) H)
def spStrs (zs : List Str) : Sp := fun vs H Q _ => vs = [] ∧ ∀ (H' : Hp) (p : Addr), Same H H' → H p = none → H' p = some (.lst (zs.map V.str)) → Q (.ref p) H'
def spFlag : Sp := fun vs H Q _ => ∃ b c : Bool, vs = [.bl b, .bl c] ∧ Q (.bl (b == c)) H
section
variable {P : Program} {w : World} {K : PySem.W.Frag} {mg : Str → Option Value} {base : Heap} {A : Ad} {B : Al}
theorem ok__law_row {fd : FuncData} (F : Fun K "_law_row" "_law_row" S__law_row B._law_row fd) (T : Tl P w K mg A B) : FnOk P w K mg base CX0 1 B._law_row fd ["_law_script", "_law_most"] (spRow K) := by
  refine F.ok sc__law_row (fun vs H Q E h => ?_) (fun cdv A' outer s H vs Q E hr h => ?_)
  · obtain ⟨a, ns, m, rfl, _⟩ := h
    rfl
  · obtain ⟨a, ns, m, rfl, hS, hl, hm0, hm1, hok⟩ := h
    refine ⟨_, (pss_cons (ps_set (i := 2) sc__law_row.nd rfl (Or.inl rfl) (pe_lst pa_nil))
  (pss_cons (ps_for PassesOwn.never rfl (pi_list (pv 0)) (pg_name (i := 3) sc__law_row.nd rfl (Or.inl rfl))
    (pss_cons (ps_set (i := 4) sc__law_row.nd rfl (Or.inl rfl) (pe_callB call_abs (by rfl) T.n_abs (by decide +kernel) (pa_cons (pe_callTy call_int1 (by rfl) T.n_int (by decide +kernel) (pa_cons (pv 3) pa_nil)) pa_nil)))
  (pss_one (ps_for PassesOwn.never rfl (pi_range1 (by rfl) T.n_range (pa_cons pe_int pa_nil)) (pg_name (i := 5) sc__law_row.nd rfl (Or.inl rfl))
    (pss_cons (ps_if (pt_cmpR op_lt (pe_callB call_len_seq (by rfl) T.n_len PySem.boot_len (pa_cons (pv 2) pa_nil)) (pv 1) (nomark _))
    (pss_one (ps_expr (pe_bm PySem.F.plainAttrs_list PySem.F.slot_list_append PySem.F.type_list_append mt_append (pv 2) (pa_cons (pe_op op_mod (pv 4) pe_int) pa_nil))))
    pss_nil)
  (pss_cons (ps_set (i := 4) sc__law_row.nd rfl (Or.inl rfl) (pe_op op_fdiv (pv 4) pe_int))
  (pss_one (ps_if (pt_cmpR op_eq (pv 4) pe_int (nomark _))
    (pss_one ps_break)
    pss_nil))))))))
  (pss_one (ps_ret (pv 2))))), ?_⟩
    refine ⟨(by show 0 ≤ sizeLine; decide), fun p np => ⟨_, rfl, a, rfl, ⟨_, same_sqL (same_new (Same.refl H) np) hS⟩, for_it (walk_list (xs := ns.map V.int)) (fun _ σ H' => Same H H' ∧ (∃ v3 v4 v5, σ = [some (.ref a), some (.int m), some (.ref p), v3, v4, v5]) ∧ ∃ row : List Int, H' p = some (.lst (row.map V.int)) ∧ (row.length : Int) ≤ m ∧ Dig row) ⟨same_new (Same.refl H) np, ⟨_, _, _, rfl⟩, [], upd_same, by simpa using hm0, dig_nil⟩ (fun i σ H' _ h => same_sqL h.1 hS) ?_ ?_⟩⟩
    · rintro i x σ H1 H2 hi ⟨sm, ⟨v3, v4, v5, rfl⟩, row, hp, hlen, hd⟩ ⟨rfl, ex⟩
      rw [List.getElem?_map] at ex
      obtain ⟨n, hn, rfl⟩ := Option.map_eq_some_iff.mp ex
      refine ⟨_, rfl, .inl ⟨n, rfl, n, rfl, 60, rfl, by decide, by decide, ?_⟩⟩
      refine for_it walk_range (fun _ σ H' => Same H H' ∧ (∃ r v5, 0 ≤ r ∧ σ = [some (.ref a), some (.int m), some (.ref p), some (.int n), some (.int r), v5]) ∧ ∃ row : List Int, H' p = some (.lst (row.map V.int)) ∧ (row.length : Int) ≤ m ∧ Dig row) ⟨sm, ⟨_, _, ?_, rfl⟩, row, hp, hlen, hd⟩ (fun _ _ _ _ _ => True.intro) ?_ ?_
      · split <;> omega
      · rintro j x σ H2 H3 hj ⟨sm2, ⟨r, v5, hr0, rfl⟩, row2, hp2, hlen2, hd2⟩ ⟨rfl, rfl⟩
        refine ⟨_, rfl, p, _, rfl, .inl (SqL.of hp2), _, rfl, _, _, rfl, rfl, _, rfl, ?_⟩
        rw [List.length_map]
        refine ite2 (fun c => ?_) (fun c => ?_)
        · have c' : (row2.length : Int) < m := of_decide_eq_true c
          refine ⟨_, rfl, .inl ⟨rfl, _, SqL.of hp2⟩, _, rfl, _, _, rfl, rfl, (by show (0 : Int) < 16; decide), p, _, _, rfl, rfl, hp2, lt1000 (by rw [List.length_map]; omega), ?_⟩
          have s3 := same_mut (o := .lst (row2.map V.int ++ [V.int (r % 16)])) sm2 np
          refine ⟨_, rfl, _, _, rfl, rfl, ⟨by decide, by decide⟩, _, rfl, rfl, _, rfl, ite2 (fun d => ?_) (fun d => ?_)⟩
          · exact ⟨s3, ⟨_, _, _, rfl⟩, row2 ++ [r % 16], (by rw [upd_same, List.map_append]; rfl), (by rw [List.length_append]; show ((row2.length + 1 : Nat) : Int) ≤ m; omega), dig_more hd2 (by omega) (by omega)⟩
          · exact ⟨s3, ⟨_, _, by omega, rfl⟩, row2 ++ [r % 16], (by rw [upd_same, List.map_append]; rfl), (by rw [List.length_append]; show ((row2.length + 1 : Nat) : Int) ≤ m; omega), dig_more hd2 (by omega) (by omega)⟩
        · refine ⟨_, rfl, _, _, rfl, rfl, ⟨by decide, by decide⟩, _, rfl, rfl, _, rfl, ite2 (fun d => ?_) (fun d => ?_)⟩
          · exact ⟨sm2, ⟨_, _, _, rfl⟩, row2, hp2, hlen2, hd2⟩
          · exact ⟨sm2, ⟨_, _, by omega, rfl⟩, row2, hp2, hlen2, hd2⟩
      · rintro σ H2 ⟨sm2, ⟨r, v5, hr0, rfl⟩, h⟩
        exact ⟨sm2, ⟨_, _, _, rfl⟩, h⟩
    · rintro σ H1 ⟨sm, ⟨v3, v4, v5, rfl⟩, row, hp, hlen, hd⟩
      exact ⟨_, rfl, hok H1 p row sm np hp hlen hd⟩
theorem ok__law_pick {fd : FuncData} (F : Fun K "_law_pick" "_law_pick" S__law_pick B._law_pick fd) (T : Tl P w K mg A B) : FnOk P w K mg base CX0 1 B._law_pick fd ["_law_row_here", "_law_at", "_law_limit_here"] (spPick K) := by
  refine F.ok sc__law_pick (fun vs H Q E h => ?_) (fun cdv A' outer s H vs Q E hr h => ?_)
  · obtain ⟨a, row, i, m, rfl, _⟩ := h
    rfl
  · obtain ⟨a, row, i, m, rfl, hS, hd, hi0, hi1, hm, hok⟩ := h
    refine ⟨_, (pss_cons (ps_set (i := 3) sc__law_pick.nd rfl (Or.inl rfl) pe_int)
  (pss_cons (ps_if (pt_cmpR op_lt (pv 1) (pe_callB call_len_seq (by rfl) T.n_len PySem.boot_len (pa_cons (pv 0) pa_nil)) (nomark _))
    (pss_one (ps_set (i := 3) sc__law_pick.nd rfl (Or.inl rfl) (pe_ix ix_list (pv 0) (pv 1) (fun _ _ => rfl))))
    pss_nil)
  (pss_cons (ps_if (pt_cmpR op_lt (pe_op op_add (pv 1) pe_int) (pe_callB call_len_seq (by rfl) T.n_len PySem.boot_len (pa_cons (pv 0) pa_nil)) (nomark _))
    (pss_one (ps_set (i := 3) sc__law_pick.nd rfl (Or.inl rfl) (pe_op op_add (pv 3) (pe_op op_mul pe_int (pe_ix ix_list (pv 0) (pe_op op_add (pv 1) pe_int) (fun _ _ => rfl))))))
    pss_nil)
  (pss_one (ps_ret (pe_op op_mod (pe_callTy call_int1 (by rfl) T.n_int (by decide +kernel) (pa_cons (pv 3) pa_nil)) (pv 2))))))), ?_⟩
    have nn : ∃ k : Nat, i = (k : Int) := Int.eq_ofNat_of_zero_le hi0
    obtain ⟨k, rfl⟩ := nn
    have e0 : ((k : Int)).toNat = k := Int.toNat_natCast k
    unfold pick at hok
    rw [e0] at hok
    refine ⟨_, rfl, _, rfl, a, _, rfl, .inl hS, _, _, rfl, rfl, _, rfl, ?_⟩
    rw [List.length_map]
    refine ite2 (fun c => ?_) (fun c => ?_)
    · have c' : (k : Int) < row.length := of_decide_eq_true c
      refine ⟨_, rfl, _, rfl, a, _, _, _, rfl, rfl, hS, atI_int (by omega) c', ?_⟩
      rw [e0]
      refine ⟨_, rfl, _, _, rfl, rfl, _, rfl, a, _, rfl, .inl hS, _, _, rfl, rfl, _, rfl, ?_⟩
      rw [List.length_map]
      refine ite2 (fun d => ?_) (fun d => ?_)
      · have d' : (k : Int) + 1 < row.length := of_decide_eq_true d
        refine ⟨_, rfl, _, rfl, _, rfl, _, _, rfl, rfl, a, _, _, _, rfl, rfl, hS, atI_int (by omega) d', _, _, rfl, rfl, .inl ⟨by decide, by decide⟩, _, _, rfl, rfl, ?_⟩
        have e1 : ((k : Int) + 1).toNat = k + 1 := by omega
        rw [e1]
        exact ⟨_, rfl, .inl ⟨_, rfl, _, rfl, _, _, rfl, rfl, hm, hok⟩⟩
      · have d' : ¬ (k : Int) + 1 < row.length := fun z => d (decide_eq_true z)
        refine ⟨_, rfl, .inl ⟨_, rfl, _, rfl, _, _, rfl, rfl, hm, ?_⟩⟩
        have z1 : row.getD (k + 1) 0 = 0 := getD_out (by omega)
        rw [z1] at hok
        have e2 : row.getD k 0 + 16 * 0 = row.getD k 0 := by omega
        rw [e2] at hok
        exact hok
    · have c' : ¬ (k : Int) < row.length := fun z => c (decide_eq_true z)
      have z0 : row.getD k 0 = 0 := getD_out (by omega)
      have z1 : row.getD (k + 1) 0 = 0 := getD_out (by omega)
      rw [z0, z1] at hok
      refine ⟨_, rfl, _, _, rfl, rfl, _, rfl, a, _, rfl, .inl hS, _, _, rfl, rfl, _, rfl, ?_⟩
      rw [List.length_map]
      refine ite2 (fun d => ?_) (fun d => ?_)
      · have d' : (k : Int) + 1 < row.length := of_decide_eq_true d
        omega
      · exact ⟨_, rfl, .inl ⟨_, rfl, _, rfl, _, _, rfl, rfl, hm, hok⟩⟩
theorem ok__law_whole {fd : FuncData} (F : Fun K "_law_whole" "_law_whole" S__law_whole B._law_whole fd) (T : Tl P w K mg A B) : FnOk P w K mg base CX0 1 B._law_whole fd ["_law_value"] spWhole := by
  refine F.ok sc__law_whole (fun vs H Q E h => ?_) (fun cdv A' outer s H vs Q E hr h => ?_)
  · rcases h with ⟨i, rfl, _⟩ | ⟨rfl, _⟩ <;> rfl
  · refine ⟨_, (pss_one (ps_ret (pe_and (pe_callB call_isi (by rfl) T.n_isinstance (by decide +kernel) (pa_cons (pv 0) (pa_cons (pe_bltn (v := .ty "int") (by rfl) T.n_int (by decide +kernel) rfl) pa_nil))) (pe_one (pe_not (pe_callB call_isi (by rfl) T.n_isinstance (by decide +kernel) (pa_cons (pv 0) (pa_cons (pe_bltn (v := .ty "bool") (by rfl) T.n_bool (by decide +kernel) rfl) pa_nil)))))))), ?_⟩
    rcases h with ⟨i, rfl, q⟩ | ⟨rfl, q⟩
    · refine ⟨_, rfl, _, _, _, _, _, rfl, .ty "int", .base (.int i), T.i_int, _, rfl, ?_⟩
      refine ⟨_, rfl, _, _, _, _, _, rfl, .ty "bool", .base (.int i), T.i_ib, _, rfl, q⟩
    · refine ⟨_, rfl, _, _, _, _, _, rfl, .ty "int", .base .non, T.i_ni, _, rfl, ?_⟩
      exact q
theorem ok__law_names {fd : FuncData} (F : Fun K "_law_names" "_law_names" S__law_names B._law_names fd) (T : Tl P w K mg A B) : FnOk P w K mg base CX0 1 B._law_names fd [] (spStrs nmL) := by
  refine F.ok sc__law_names (fun vs H Q E h => ?_) (fun cdv A' outer s H vs Q E hr h => ?_)
  · obtain ⟨rfl, _⟩ := h
    rfl
  · obtain ⟨rfl, q⟩ := h
    refine ⟨_, (pss_cons (ps_set (i := 0) sc__law_names.nd rfl (Or.inl rfl) pe_str)
  (pss_one (ps_ret (pe_split (pv 0) pe_str)))), ?_⟩
    refine ⟨_, rfl, ⟨_, rfl⟩, _, _, rfl, rfl, by decide +kernel, by decide +kernel, fun p np => ?_⟩
    have e : Txt.split "halt print show set move add compare load store jump jumpz jumpl call map right enable disable resume lower" " " = nmL := by decide +kernel
    have h := q _ p (same_new (o := .lst (nmL.map V.str)) (Same.refl H) np) np upd_same
    rw [← e] at h
    exact h
theorem ok__law_kinds {fd : FuncData} (F : Fun K "_law_kinds" "_law_kinds" S__law_kinds B._law_kinds fd) (T : Tl P w K mg A B) : FnOk P w K mg base CX0 1 B._law_kinds fd [] (spStrs kdL) := by
  refine F.ok sc__law_kinds (fun vs H Q E h => ?_) (fun cdv A' outer s H vs Q E hr h => ?_)
  · obtain ⟨rfl, _⟩ := h
    rfl
  · obtain ⟨rfl, q⟩ := h
    refine ⟨_, (pss_one (ps_ret (pe_lst (pa_cons pe_str (pa_cons pe_str (pa_cons pe_str (pa_cons pe_str (pa_cons pe_str (pa_cons pe_str (pa_cons pe_str (pa_cons pe_str (pa_cons pe_str (pa_cons pe_str (pa_cons pe_str (pa_cons pe_str (pa_cons pe_str (pa_cons pe_str (pa_cons pe_str (pa_cons pe_str (pa_cons pe_str (pa_cons pe_str (pa_cons pe_str pa_nil)))))))))))))))))))))), ?_⟩
    exact ⟨(by show 19 ≤ sizeLine; decide), fun p np => q _ p (same_new (Same.refl H) np) np upd_same⟩
theorem ok__law_limit {fd : FuncData} (F : Fun K "_law_limit" "_law_limit" S__law_limit B._law_limit fd) (T : Tl P w K mg A B) : FnOk P w K mg base CX0 1 B._law_limit fd ["_law_kind"] spLim := by
  refine F.ok sc__law_limit (fun vs H Q E h => ?_) (fun cdv A' outer s H vs Q E hr h => ?_)
  · obtain ⟨c, rfl, _⟩ := h
    rfl
  · obtain ⟨c, rfl, hc, q⟩ := h
    refine ⟨_, (pss_cons (ps_if (pt_cmpR op_eq (pv 0) pe_str (nomark _))
    (pss_one (ps_ret pe_int))
    pss_nil)
  (pss_cons (ps_if (pt_cmpR op_eq (pv 0) pe_str (nomark _))
    (pss_one (ps_ret pe_int))
    pss_nil)
  (pss_cons (ps_if (pt_cmpR op_eq (pv 0) pe_str (nomark _))
    (pss_one (ps_ret pe_int))
    pss_nil)
  (pss_one (ps_ret pe_int))))), ?_⟩
    have hc' : c = 114 ∨ c = 110 ∨ c = 97 ∨ c = 103 ∨ c = 102 ∨ c = 107 := by simpa [Letter] using hc
    rcases hc' with rfl | rfl | rfl | rfl | rfl | rfl
    · exact ⟨_, rfl, rfl, _, rfl, _, rfl, rfl, _, rfl, _, rfl, rfl, _, rfl, q⟩
    · exact ⟨_, rfl, rfl, _, rfl, q⟩
    · exact ⟨_, rfl, rfl, _, rfl, _, rfl, rfl, _, rfl, q⟩
    · exact ⟨_, rfl, rfl, _, rfl, _, rfl, rfl, _, rfl, _, rfl, rfl, _, rfl, q⟩
    · exact ⟨_, rfl, rfl, _, rfl, _, rfl, rfl, _, rfl, _, rfl, rfl, _, rfl, q⟩
    · exact ⟨_, rfl, rfl, _, rfl, _, rfl, rfl, _, rfl, _, rfl, rfl, _, rfl, q⟩
theorem ok__law_flag {fd : FuncData} (F : Fun K "_law_flag" "_law_flag" S__law_flag B._law_flag fd) (T : Tl P w K mg A B) : FnOk P w K mg base CX0 1 B._law_flag fd ["_law_actual", "_law_expected"] spFlag := by
  refine F.ok sc__law_flag (fun vs H Q E h => ?_) (fun cdv A' outer s H vs Q E hr h => ?_)
  · obtain ⟨b, c, rfl, _⟩ := h
    rfl
  · obtain ⟨b, c, rfl, q⟩ := h
    refine ⟨_, (pss_one (ps_ret (pe_and (pe_callB call_isi (by rfl) T.n_isinstance (by decide +kernel) (pa_cons (pv 0) (pa_cons (pe_bltn (v := .ty "bool") (by rfl) T.n_bool (by decide +kernel) rfl) pa_nil))) (pe_one (pe_cmpR op_eq (pv 0) (pv 1) (nomark _)))))), ?_⟩
    refine ⟨_, rfl, _, _, _, _, _, rfl, .ty "bool", .base (.bl b), T.i_bool, _, rfl, ?_⟩
    refine ⟨_, rfl, _, rfl, rfl, ?_⟩
    rw [dec_bl]
    exact q
end
end P86
namespace P86
open PySem L2 Xg
def spAll (K : PySem.W.Frag) : Sp := fun vs H Q _ => ∃ (a b : Addr) (ns : List Int), vs = [.ref a, .ref b] ∧ ((SqL K H a (ns.map V.int) ∧ SqL K H b (ns.map V.int)) ∨ (SqT K H a (ns.map V.int) ∧ SqT K H b (ns.map V.int))) ∧ Q (.bl true) H
/-- the answer and what is expected are alike: none, or (z, os) -/
def spSame (K : PySem.W.Frag) : Sp := fun vs H Q _ => (vs = [.non, .non] ∧ Q (.bl true) H) ∨ ∃ (a b c d : Addr) (z : Str) (os : List Int), vs = [.ref a, .ref b] ∧ H a = some (.tup [.str z, .ref c]) ∧ H c = some (.tup (os.map V.int)) ∧
  H b = some (.tup [.str z, .ref d]) ∧ H d = some (.tup (os.map V.int)) ∧ Q (.bl true) H
/-- a name of the table and as many operands as it has kinds -/
def Nmd (z : Str) (ops : List Int) : Prop := ∃ i : Nat, nmL[i]? = some z ∧ ops.length = (kdI i).length
def spReads (K : PySem.W.Frag) : Sp := fun vs H Q _ => ∃ (z : Str) (a : Addr) (ops : List Int), vs = [.str z, .ref a] ∧ Nmd z ops ∧ SqL K H a (ops.map V.int) ∧ ∀ H' p, Same H H' → H' p = some (.tup ((rdL z ops).map V.int)) → Q (.ref p) H'
def spMadeL (K : PySem.W.Frag) : Sp := fun vs H Q _ => ∃ (z : Str) (a : Addr) (ops : List Int), vs = [.str z, .ref a] ∧ Nmd z ops ∧ SqT K H a (ops.map V.int) ∧ ∀ H', Same H H' → Q (.bl true) H'
def spQues : Sp := fun vs H Q _ => ∃ z : Str, vs = [.str z] ∧ z ∈ nmL ∧ ∀ H', Same H H' → Q (.bl true) H'
theorem mm_min (x y : Int) : (if y < x then y else x) = min x y := by rw [Int.min_def]; split <;> split <;> omega
theorem mm_max (x y : Int) : (if x < y then y else x) = max x y := by rw [Int.max_def]; split <;> split <;> omega
theorem nm_len {z : Str} (h : z ∈ nmL) : z.length ≤ 1000 := by
  have a : ∀ x ∈ nmL, x.length ≤ 1000 := by decide +kernel
  exact a _ h
section
variable {P : Program} {w : World} {K : PySem.W.Frag} {mg : Str → Option Value} {base : Heap} {A : Ad} {B : Al}
theorem ok__law_all_whole {fd : FuncData} (F : Fun K "_law_all_whole" "_law_all_whole" S__law_all_whole B._law_all_whole fd) (T : Tl P w K mg A B) : FnOk P w K mg base CX0 2 B._law_all_whole fd ["_law_values", "_law_expected"] (spAll K) := by
  obtain ⟨fd1, F1, b__law_whole⟩ := T.d__law_whole.ex
  have G__law_whole : FnOk P w K mg base CX0 1 B._law_whole fd1 ["_law_value"] spWhole := ok__law_whole F1 T
  refine F.ok sc__law_all_whole (fun vs H Q E h => ?_) (fun cdv A' outer s H vs Q E hr h => ?_)
  · obtain ⟨a, b, ns, rfl, _⟩ := h
    rfl
  · obtain ⟨a, b, ns, rfl, hS, q⟩ := h
    refine ⟨_, (pss_cons (ps_for PassesOwn.never rfl (pi_seq (pv 0)) (pg_name (i := 2) sc__law_all_whole.nd rfl (Or.inl rfl))
    (pss_one (ps_if (pt_not (pt_val (pe_call G__law_whole (hr.mono (by decide)) (by rfl) T.d__law_whole.g T.d__law_whole.k b__law_whole .nil pass0 (pa_cons (pv 2) pa_nil))))
    (pss_one (ps_ret pe_bl))
    pss_nil)))
  (pss_one (ps_ret (pe_cmpR (op_eqD hr.units) (pv 0) (pv 1) (nomark _))))), ?_⟩
    rcases hS with ⟨h1, h2⟩ | ⟨h1, h2⟩
    · refine ⟨_, rfl, a, rfl, .inl ⟨⟨_, h1⟩, for_it (walk_list (xs := ns.map V.int)) (fun _ σ H' => H' = H ∧ ∃ v2, σ = [some (.ref a), some (.ref b), v2]) ⟨rfl, _, rfl⟩ (fun _ _ _ _ h => by rw [h.1]; exact h1) ?_ ?_⟩⟩
      · rintro i x σ H1 H2 hi ⟨rfl, v2, rfl⟩ ⟨rfl, ex⟩
        rw [List.getElem?_map] at ex
        obtain ⟨n, hn, rfl⟩ := Option.map_eq_some_iff.mp ex
        refine ⟨_, rfl, .inl ⟨n, rfl, ⟨_, rfl, rfl, _, rfl⟩⟩⟩
      · rintro σ H1 ⟨rfl, v2, rfl⟩
        exact ⟨_, rfl, _, rfl, _, _, dp_L h1, dp_L h2, sh_L _, sh_L _, by rw [ev_L]; exact q⟩
    · refine ⟨_, rfl, a, rfl, .inr ⟨⟨_, h1⟩, for_it (walk_tup (xs := ns.map V.int)) (fun _ σ H' => H' = H ∧ ∃ v2, σ = [some (.ref a), some (.ref b), v2]) ⟨rfl, _, rfl⟩ (fun _ _ _ _ h => by rw [h.1]; exact h1) ?_ ?_⟩⟩
      · rintro i x σ H1 H2 hi ⟨rfl, v2, rfl⟩ ⟨rfl, ex⟩
        rw [List.getElem?_map] at ex
        obtain ⟨n, hn, rfl⟩ := Option.map_eq_some_iff.mp ex
        refine ⟨_, rfl, .inl ⟨n, rfl, ⟨_, rfl, rfl, _, rfl⟩⟩⟩
      · rintro σ H1 ⟨rfl, v2, rfl⟩
        exact ⟨_, rfl, _, rfl, _, _, dp_T h1, dp_T h2, sh_T _, sh_T _, by rw [ev_T]; exact q⟩
theorem ok__law_same {fd : FuncData} (F : Fun K "_law_same" "_law_same" S__law_same B._law_same fd) (T : Tl P w K mg A B) : FnOk P w K mg base CX0 2 B._law_same fd ["_law_actual", "_law_expected"] (spSame K) := by
  obtain ⟨fd1, F1, b__law_whole⟩ := T.d__law_whole.ex
  have G__law_whole : FnOk P w K mg base CX0 1 B._law_whole fd1 ["_law_value"] spWhole := ok__law_whole F1 T
  refine F.ok sc__law_same (fun vs H Q E h => ?_) (fun cdv A' outer s H vs Q E hr h => ?_)
  · rcases h with ⟨rfl, _⟩ | ⟨a, b, c, d, z, os, rfl, _⟩ <;> rfl
  · refine ⟨_, (pss_cons (ps_if (pt_cmpR op_isN (pv 1) pe_non (nomark _))
    (pss_one (ps_ret (pe_cmpR op_isN (pv 0) pe_non (nomark _))))
    pss_nil)
  (pss_cons (ps_if (PW.pt (pw_or (pt_not (pt_val (pe_callB call_isi (by rfl) T.n_isinstance (by decide +kernel) (pa_cons (pv 0) (pa_cons (pe_bltn (v := .ty "tuple") (by rfl) T.n_tuple (by decide +kernel) rfl) pa_nil))))) (pw_or1 (pt_cmpR op_ne (pe_callB call_len_seq (by rfl) T.n_len PySem.boot_len (pa_cons (pv 0) pa_nil)) pe_int (nomark _)))))
    (pss_one (ps_ret pe_bl))
    pss_nil)
  (pss_cons (ps_if (PW.pt (pw_or (pt_not (pt_val (pe_callB call_isi (by rfl) T.n_isinstance (by decide +kernel) (pa_cons (pe_ix ix_tup (pv 0) pe_int (fun _ _ => rfl)) (pa_cons (pe_bltn (v := .ty "str") (by rfl) T.n_str (by decide +kernel) rfl) pa_nil))))) (pw_or1 (pt_not (pt_val (pe_callB call_isi (by rfl) T.n_isinstance (by decide +kernel) (pa_cons (pe_ix ix_tup (pv 0) pe_int (fun _ _ => rfl)) (pa_cons (pe_bltn (v := .ty "tuple") (by rfl) T.n_tuple (by decide +kernel) rfl) pa_nil))))))))
    (pss_one (ps_ret pe_bl))
    pss_nil)
  (pss_cons (ps_for PassesOwn.never rfl (pi_tup (pe_ix ix_tup (pv 0) pe_int (fun _ _ => rfl))) (pg_name (i := 2) sc__law_same.nd rfl (Or.inl rfl))
    (pss_one (ps_if (pt_not (pt_val (pe_call G__law_whole (hr.mono (by decide)) (by rfl) T.d__law_whole.g T.d__law_whole.k b__law_whole .nil pass0 (pa_cons (pv 2) pa_nil))))
    (pss_one (ps_ret pe_bl))
    pss_nil)))
  (pss_one (ps_ret (pe_and (pe_cmpR op_eq (pe_ix ix_tup (pv 0) pe_int (fun _ _ => rfl)) (pe_ix ix_tup (pv 1) pe_int (fun _ _ => rfl)) (nomark _)) (pe_one (pe_cmpR (op_eqD hr.units) (pe_ix ix_tup (pv 0) pe_int (fun _ _ => rfl)) (pe_ix ix_tup (pv 1) pe_int (fun _ _ => rfl)) (nomark _)))))))))), ?_⟩
    rcases h with ⟨rfl, q⟩ | ⟨a, b, c, d, z, os, rfl, ha, hc, hb, hd, q⟩
    · exact ⟨_, rfl, rfl, _, rfl, _, rfl, rfl, q⟩
    · have Sa := SqT.of (K := K) ha
      have Sb := SqT.of (K := K) hb
      have Sc := SqT.of (K := K) hc
      have Sd := SqT.of (K := K) hd
      refine ⟨_, rfl, rfl, _, rfl, ?_⟩
      refine ⟨_, rfl, _, _, _, _, _, rfl, .ty "tuple", .base (.tup ha), T.i_tup, _, rfl, ?_⟩
      refine ⟨_, rfl, a, _, rfl, .inr Sa, rfl, _, rfl, ?_⟩
      refine ⟨_, rfl, a, _, 0, _, rfl, rfl, Sa, rfl, _, _, _, _, _, rfl, .ty "str", .base (.str z), T.i_str, _, rfl, ?_⟩
      refine ⟨_, rfl, a, _, 1, _, rfl, rfl, Sa, rfl, _, _, _, _, _, rfl, .ty "tuple", .base (.tup hc), T.i_tup, _, rfl, ?_⟩
      refine ⟨_, rfl, a, _, 1, _, rfl, rfl, Sa, rfl, c, rfl, ⟨_, Sc⟩, for_it (walk_tup (xs := os.map V.int)) (fun _ σ H' => H' = H ∧ ∃ v2, σ = [some (.ref a), some (.ref b), v2]) ⟨rfl, _, rfl⟩ (fun _ _ _ _ h => by rw [h.1]; exact Sc) ?_ ?_⟩
      · rintro i x σ H1 H2 hi ⟨rfl, v2, rfl⟩ ⟨rfl, ex⟩
        rw [List.getElem?_map] at ex
        obtain ⟨n, hn, rfl⟩ := Option.map_eq_some_iff.mp ex
        refine ⟨_, rfl, .inl ⟨n, rfl, ⟨_, rfl, rfl, _, rfl⟩⟩⟩
      · rintro σ H1 ⟨rfl, v2, rfl⟩
        refine ⟨_, rfl, a, _, 0, _, rfl, rfl, Sa, rfl, _, rfl, b, _, 0, _, rfl, rfl, Sb, rfl, rfl, _, rfl, ?_⟩
        rw [if_pos (by simp)]
        exact ⟨_, rfl, a, _, 1, _, rfl, rfl, Sa, rfl, _, rfl, b, _, 1, _, rfl, rfl, Sb, rfl, _, _, dp_T Sc, dp_T Sd, sh_T _, sh_T _, by rw [ev_T]; exact q⟩
theorem ok__law_reads {fd : FuncData} (F : Fun K "_law_reads" "_law_reads" S__law_reads B._law_reads fd) (T : Tl P w K mg A B) : FnOk P w K mg base CX0 1 B._law_reads fd ["_law_name", "_law_operands"] (spReads K) := by
  refine F.ok sc__law_reads (fun vs H Q E h => ?_) (fun cdv A' outer s H vs Q E hr h => ?_)
  · obtain ⟨z, a, ops, rfl, _⟩ := h
    rfl
  · obtain ⟨z, a, ops, rfl, hN, hS, q⟩ := h
    refine ⟨_, (pss_cons (ps_if (pt_cmpR op_eq (pv 0) pe_str (nomark _))
    (pss_one (ps_ret (pe_tup (pa_cons (pe_ix ix_list (pv 1) pe_int (fun _ _ => rfl)) pa_nil))))
    pss_nil)
  (pss_cons (ps_if (PW.pt (pw_or (pt_cmpR op_eq (pv 0) pe_str (nomark _)) (pw_or1 (pt_cmpR op_eq (pv 0) pe_str (nomark _)))))
    (pss_one (ps_ret (pe_tup (pa_cons (pe_ix ix_list (pv 1) pe_int (fun _ _ => rfl)) pa_nil))))
    pss_nil)
  (pss_cons (ps_if (PW.pt (pw_or (pt_cmpR op_eq (pv 0) pe_str (nomark _)) (pw_or1 (pt_cmpR op_eq (pv 0) pe_str (nomark _)))))
    (pss_cons (ps_if (pt_cmpR op_eq (pe_ix ix_list (pv 1) pe_int (fun _ _ => rfl)) (pe_ix ix_list (pv 1) pe_int (fun _ _ => rfl)) (nomark _))
    (pss_one (ps_ret (pe_tup (pa_cons (pe_ix ix_list (pv 1) pe_int (fun _ _ => rfl)) pa_nil))))
    pss_nil)
  (pss_one (ps_ret (pe_tup (pa_cons (pe_callB (call_min2 rfl) (by rfl) T.n_min (by decide +kernel) (pa_cons (pe_ix ix_list (pv 1) pe_int (fun _ _ => rfl)) (pa_cons (pe_ix ix_list (pv 1) pe_int (fun _ _ => rfl)) pa_nil))) (pa_cons (pe_callB (call_max2 rfl) (by rfl) T.n_max (by decide +kernel) (pa_cons (pe_ix ix_list (pv 1) pe_int (fun _ _ => rfl)) (pa_cons (pe_ix ix_list (pv 1) pe_int (fun _ _ => rfl)) pa_nil))) pa_nil))))))
    pss_nil)
  (pss_cons (ps_if (PW.pt (pw_or (pt_cmpR op_eq (pv 0) pe_str (nomark _)) (pw_or1 (pt_cmpR op_eq (pv 0) pe_str (nomark _)))))
    (pss_one (ps_ret (pe_tup (pa_cons pe_int pa_nil))))
    pss_nil)
  (pss_one (ps_ret (pe_tup pa_nil))))))), ?_⟩
    obtain ⟨i, hi, hlen⟩ := hN
    obtain ⟨k1, k2⟩ := kd_of hi
    unfold rdL at q
    refine ⟨_, rfl, rfl, _, rfl, ite2 (fun c => ?_) (fun c => ?_)⟩
    · have c' : z = "show" := by simpa using c
      have l1 := k1 c'
      rw [if_pos c'] at q
      exact ⟨_, rfl, a, _, 0, _, rfl, rfl, hS, atI_int (by decide) (by omega), (by show 1 ≤ sizeLine; decide), fun p np => q _ p (same_new (Same.refl H) np) upd_same⟩
    have c' : ¬ z = "show" := by simpa using c
    rw [if_neg c'] at q
    have two : ∀ (h : z = "move" ∨ z = "store" ∨ z = "add" ∨ z = "compare" ∨ z = "set" ∨ z = "load"), 1 < ops.length := fun h => by have := k2 h; omega
    by_cases c1 : z = "move" ∨ z = "store"
    · have l2 := two (by rcases c1 with e | e <;> simp [e])
      rw [if_pos c1] at q
      have ret : ∀ p, H p = none → Q (.ref p) (upd H p (.tup [.int (ops.getD 1 0)])) := fun p np => q _ p (same_new (Same.refl H) np) upd_same
      refine ⟨_, rfl, rfl, _, rfl, ite2 (fun d => ?_) (fun d => ?_)⟩
      · exact iteT ⟨_, rfl, a, _, 1, _, rfl, rfl, hS, atI_int (by decide) (by omega), (by show 1 ≤ sizeLine; decide), ret⟩
      · have d' : ¬ z = "move" := by simpa using d
        have c2 : z = "store" := c1.resolve_left d'
        subst c2
        exact ⟨_, rfl, rfl, _, rfl, ⟨_, rfl, a, _, 1, _, rfl, rfl, hS, atI_int (by decide) (by omega), (by show 1 ≤ sizeLine; decide), ret⟩⟩
    rw [if_neg c1] at q
    have n1 : ¬ z = "move" := fun e => c1 (.inl e)
    have n2 : ¬ z = "store" := fun e => c1 (.inr e)
    refine ⟨_, rfl, rfl, _, rfl, ite2 (fun d => absurd (by simpa using d) n1) (fun _ => ⟨_, rfl, rfl, _, rfl, ite2 (fun d => absurd (by simpa using d) n2) (fun _ => ?_)⟩)⟩
    by_cases c3 : z = "add" ∨ z = "compare"
    · have l2 := two (by rcases c3 with e | e <;> simp [e])
      rw [if_pos c3] at q
      refine ⟨_, rfl, rfl, _, rfl, ite2 (fun d => iteT ?_) (fun d => ?_)⟩
      rotate_left
      · have d' : ¬ z = "add" := by simpa using d
        have c2 : z = "compare" := c3.resolve_left d'
        subst c2
        refine ⟨_, rfl, rfl, _, rfl, ?_⟩
        refine ⟨_, rfl, a, _, 0, _, rfl, rfl, hS, atI_int (by decide) (by omega), _, rfl, a, _, 1, _, rfl, rfl, hS, atI_int (by decide) (by omega), rfl, _, rfl, ite2 (fun f => ?_) (fun f => ?_)⟩
        · have f' : ops.getD 0 0 = ops.getD 1 0 := by simpa using f
          rw [if_pos f'] at q
          exact ⟨_, rfl, a, _, 0, _, rfl, rfl, hS, atI_int (by decide) (by omega), (by show 1 ≤ sizeLine; decide), fun p np => q _ p (same_new (Same.refl H) np) upd_same⟩
        · have f' : ¬ ops.getD 0 0 = ops.getD 1 0 := by simpa using f
          rw [if_neg f'] at q
          refine ⟨_, rfl, a, _, 0, _, rfl, rfl, hS, atI_int (by decide) (by omega), _, rfl, a, _, 1, _, rfl, rfl, hS, atI_int (by decide) (by omega), _, _, rfl, ?_⟩
          refine ⟨_, rfl, a, _, 0, _, rfl, rfl, hS, atI_int (by decide) (by omega), _, rfl, a, _, 1, _, rfl, rfl, hS, atI_int (by decide) (by omega), _, _, rfl, (by show 2 ≤ sizeLine; decide), fun p np => ?_⟩
          have h := q _ p (same_new (o := .tup [V.int (if ops.getD 1 0 < ops.getD 0 0 then ops.getD 1 0 else ops.getD 0 0), V.int (if ops.getD 0 0 < ops.getD 1 0 then ops.getD 1 0 else ops.getD 0 0)]) (Same.refl H) np)
          refine h ?_
          rw [upd_same, mm_min, mm_max]
          rfl
      · refine ⟨_, rfl, a, _, 0, _, rfl, rfl, hS, atI_int (by decide) (by omega), _, rfl, a, _, 1, _, rfl, rfl, hS, atI_int (by decide) (by omega), rfl, _, rfl, ite2 (fun f => ?_) (fun f => ?_)⟩
        · have f' : ops.getD 0 0 = ops.getD 1 0 := by simpa using f
          rw [if_pos f'] at q
          exact ⟨_, rfl, a, _, 0, _, rfl, rfl, hS, atI_int (by decide) (by omega), (by show 1 ≤ sizeLine; decide), fun p np => q _ p (same_new (Same.refl H) np) upd_same⟩
        · have f' : ¬ ops.getD 0 0 = ops.getD 1 0 := by simpa using f
          rw [if_neg f'] at q
          refine ⟨_, rfl, a, _, 0, _, rfl, rfl, hS, atI_int (by decide) (by omega), _, rfl, a, _, 1, _, rfl, rfl, hS, atI_int (by decide) (by omega), _, _, rfl, ?_⟩
          refine ⟨_, rfl, a, _, 0, _, rfl, rfl, hS, atI_int (by decide) (by omega), _, rfl, a, _, 1, _, rfl, rfl, hS, atI_int (by decide) (by omega), _, _, rfl, (by show 2 ≤ sizeLine; decide), fun p np => ?_⟩
          have h := q _ p (same_new (o := .tup [V.int (if ops.getD 1 0 < ops.getD 0 0 then ops.getD 1 0 else ops.getD 0 0), V.int (if ops.getD 0 0 < ops.getD 1 0 then ops.getD 1 0 else ops.getD 0 0)]) (Same.refl H) np)
          refine h ?_
          rw [upd_same, mm_min, mm_max]
          rfl
    rw [if_neg c3] at q
    have n3 : ¬ z = "add" := fun e => c3 (.inl e)
    have n4 : ¬ z = "compare" := fun e => c3 (.inr e)
    refine ⟨_, rfl, rfl, _, rfl, ite2 (fun d => absurd (by simpa using d) n3) (fun _ => ⟨_, rfl, rfl, _, rfl, ite2 (fun d => absurd (by simpa using d) n4) (fun _ => ?_)⟩)⟩
    by_cases c5 : z = "jumpz" ∨ z = "jumpl"
    · rw [if_pos c5] at q
      have ret : ∀ p, H p = none → Q (.ref p) (upd H p (.tup [.int 4])) := fun p np => q _ p (same_new (Same.refl H) np) upd_same
      refine ⟨_, rfl, rfl, _, rfl, ite2 (fun d => ?_) (fun d => ?_)⟩
      · exact iteT ⟨(by show 1 ≤ sizeLine; decide), ret⟩
      · have d' : ¬ z = "jumpz" := by simpa using d
        have c2 : z = "jumpl" := c5.resolve_left d'
        subst c2
        exact ⟨_, rfl, rfl, _, rfl, ⟨(by show 1 ≤ sizeLine; decide), ret⟩⟩
    rw [if_neg c5] at q
    have n5 : ¬ z = "jumpz" := fun e => c5 (.inl e)
    have n6 : ¬ z = "jumpl" := fun e => c5 (.inr e)
    refine ⟨_, rfl, rfl, _, rfl, ite2 (fun d => absurd (by simpa using d) n5) (fun _ => ⟨_, rfl, rfl, _, rfl, ite2 (fun d => absurd (by simpa using d) n6) (fun _ => ?_)⟩)⟩
    exact ⟨(by show 0 ≤ sizeLine; decide), fun p np => q _ p (same_new (Same.refl H) np) upd_same⟩
theorem ok__law_made {fd : FuncData} (F : Fun K "_law_made" "_law_made" S__law_made B._law_made fd) (T : Tl P w K mg A B) : FnOk P w K mg base CX0 5 B._law_made fd ["_law_name", "_law_operands"] (spMadeL K) := by
  obtain ⟨fd1, F1, b__law_whole⟩ := T.d__law_whole.ex
  have G__law_whole : FnOk P w K mg base CX0 1 B._law_whole fd1 ["_law_value"] spWhole := ok__law_whole F1 T
  obtain ⟨fd2, F2, b_value_made⟩ := T.d_value_made.ex
  have G_value_made : FnOk P w K mg base (L2.CX P w) 4 A.value_made fd2 ["name", "operands"] (spMade K A) := ok_value_made F2 T.toTp
  refine F.ok sc__law_made (fun vs H Q E h => ?_) (fun cdv A' outer s H vs Q E hr h => ?_)
  · obtain ⟨z, a, ops, rfl, _⟩ := h
    rfl
  · obtain ⟨z, a, ops, rfl, ⟨i, hi, hlen⟩, hS, q⟩ := h
    refine ⟨_, (pss_cons (ps_set (i := 2) sc__law_made.nd rfl (Or.inl rfl) (pe_call G_value_made (hr.mono (by decide)) (by rfl) T.d_value_made.g T.d_value_made.k b_value_made .nil passL (pa_cons (pv 0) (pa_cons (pv 1) pa_nil))))
  (pss_cons (ps_if (pt_cmpR op_in_seq (pv 0) (pe_lst (pa_cons pe_str (pa_cons pe_str (pa_cons pe_str (pa_cons pe_str pa_nil))))) (by rfl))
    (pss_one (ps_ret (pe_and (pe_call G__law_whole (hr.mono (by decide)) (by rfl) T.d__law_whole.g T.d__law_whole.k b__law_whole .nil pass0 (pa_cons (pv 2) pa_nil)) (pe_one (pe_cmpR op_eq (pv 2) (pe_ix ix_tup (pv 1) pe_int (fun _ _ => rfl)) (nomark _))))))
    pss_nil)
  (pss_cons (ps_if (pt_cmpR op_eq (pv 0) pe_str (nomark _))
    (pss_one (ps_ret (pe_and (pe_call G__law_whole (hr.mono (by decide)) (by rfl) T.d__law_whole.g T.d__law_whole.k b__law_whole .nil pass0 (pa_cons (pv 2) pa_nil)) (pe_one (pe_cmpR op_eq (pv 2) pe_int (nomark _))))))
    pss_nil)
  (pss_one (ps_ret (pe_cmpR op_isN (pv 2) pe_non (nomark _))))))), ?_⟩
    have k2 := (kd_of hi).2
    refine ⟨_, rfl, _, rfl, z, a, ops, rfl, nm_len (nm_mem hi), hS, fun j hj => ⟨by rw [hlen, nm_inj hi hj], fun H1 sm => ?_⟩, fun hn => absurd (nm_mem hi) hn⟩
    have hS1 := same_sqT sm hS
    refine ⟨_, rfl, (by show 4 ≤ sizeLine; decide), fun p np => ⟨p, _, rfl, .inl (SqL.of upd_same), rfl, flat_strs ["set", "move", "add", "load"], ?_⟩⟩
    have sm2 := same_new (o := .lst [V.str "set", V.str "move", V.str "add", V.str "load"]) sm np
    have hS2 := same_sqT sm2 hS
    have hq := q _ sm2
    unfold mdV
    refine ⟨_, rfl, ?_⟩
    show if inV (.str z) [V.str "set", V.str "move", V.str "add", V.str "load"] = true then _ else _
    rw [inV4]
    refine ite2 (fun c => ?_) (fun c => ?_)
    · have c' := of_decide_eq_true c
      have l2 := k2 (by rcases c' with e | e | e | e <;> simp [e])
      rw [if_pos c']
      exact ⟨_, rfl, .inl ⟨_, rfl, _, rfl, ⟨_, rfl, _, rfl, a, _, 0, _, rfl, rfl, hS2, atI_int (by decide) (by omega), rfl, (by rw [dec_int]; simpa using hq)⟩⟩⟩
    have c' : ¬ (z = "set" ∨ z = "move" ∨ z = "add" ∨ z = "load") := fun e => c (decide_eq_true e)
    rw [if_neg c']
    refine ⟨_, rfl, rfl, _, rfl, ite2 (fun d => ?_) (fun d => ?_)⟩
    · have d' : z = "compare" := by simpa using d
      rw [if_pos d']
      exact ⟨_, rfl, .inl ⟨_, rfl, _, rfl, ⟨_, rfl, rfl, (by rw [dec_int]; simpa using hq)⟩⟩⟩
    have d' : ¬ z = "compare" := by simpa using d
    rw [if_neg d']
    exact ⟨_, rfl, rfl, (by simpa using hq)⟩
theorem ok__law_questions {fd : FuncData} (F : Fun K "_law_questions" "_law_questions" S__law_questions B._law_questions fd) (T : Tl P w K mg A B) : FnOk P w K mg base CX0 7 B._law_questions fd ["_law_name"] spQues := by
  obtain ⟨fd1, F1, b__law_flag⟩ := T.d__law_flag.ex
  have G__law_flag : FnOk P w K mg base CX0 1 B._law_flag fd1 ["_law_actual", "_law_expected"] spFlag := ok__law_flag F1 T
  obtain ⟨fd2, F2, b_is_supervisor⟩ := T.d_is_supervisor.ex
  have G_is_supervisor : FnOk P w K mg base (L2.CX P w) 4 A.is_supervisor fd2 ["name"] (spAsk A isSup) := ok_is_supervisor F2 T.toTp
  obtain ⟨fd3, F3, b_is_jump⟩ := T.d_is_jump.ex
  have G_is_jump : FnOk P w K mg base (L2.CX P w) 4 A.is_jump fd3 ["name"] (spAsk A isJum) := ok_is_jump F3 T.toTp
  obtain ⟨fd4, F4, b_is_linkable⟩ := T.d_is_linkable.ex
  have G_is_linkable : FnOk P w K mg base (L2.CX P w) 5 A.is_linkable fd4 ["name"] (spAsk A isLnk) := ok_is_linkable F4 T.toTp
  obtain ⟨fd5, F5, b_ends_block⟩ := T.d_ends_block.ex
  have G_ends_block : FnOk P w K mg base (L2.CX P w) 6 A.ends_block fd5 ["name"] (spAsk A isEnd) := ok_ends_block F5 T.toTp
  refine F.ok sc__law_questions (fun vs H Q E h => ?_) (fun cdv A' outer s H vs Q E hr h => ?_)
  · obtain ⟨z, rfl, _⟩ := h
    rfl
  · obtain ⟨z, rfl, hz, q⟩ := h
    refine ⟨_, (pss_cons (ps_set (i := 1) sc__law_questions.nd rfl (Or.inl rfl) (pe_cmpR op_in_seq (pv 0) (pe_lst (pa_cons pe_str (pa_cons pe_str (pa_cons pe_str (pa_cons pe_str (pa_cons pe_str pa_nil)))))) (by rfl)))
  (pss_cons (ps_set (i := 2) sc__law_questions.nd rfl (Or.inl rfl) (pe_cmpR op_in_seq (pv 0) (pe_lst (pa_cons pe_str (pa_cons pe_str (pa_cons pe_str pa_nil)))) (by rfl)))
  (pss_cons (ps_set (i := 3) sc__law_questions.nd rfl (Or.inl rfl) (pe_and (pe_not (pv 1)) (pe_one (pe_cmpR op_notIn_seq (pv 0) (pe_lst (pa_cons pe_str (pa_cons pe_str (pa_cons pe_str pa_nil)))) (by rfl)))))
  (pss_cons (ps_if (PW.pt (pw_or (pt_not (pt_val (pe_call G__law_flag (hr.mono (by decide)) (by rfl) T.d__law_flag.g T.d__law_flag.k b__law_flag .nil pass0 (pa_cons (pe_call G_is_supervisor (hr.mono (by decide)) (by rfl) T.d_is_supervisor.g T.d_is_supervisor.k b_is_supervisor .nil passL (pa_cons (pv 0) pa_nil)) (pa_cons (pv 1) pa_nil))))) (pw_or1 (pt_not (pt_val (pe_call G__law_flag (hr.mono (by decide)) (by rfl) T.d__law_flag.g T.d__law_flag.k b__law_flag .nil pass0 (pa_cons (pe_call G_is_jump (hr.mono (by decide)) (by rfl) T.d_is_jump.g T.d_is_jump.k b_is_jump .nil passL (pa_cons (pv 0) pa_nil)) (pa_cons (pv 2) pa_nil))))))))
    (pss_one (ps_ret pe_bl))
    pss_nil)
  (pss_one (ps_ret (pe_and (pe_call G__law_flag (hr.mono (by decide)) (by rfl) T.d__law_flag.g T.d__law_flag.k b__law_flag .nil pass0 (pa_cons (pe_call G_is_linkable (hr.mono (by decide)) (by rfl) T.d_is_linkable.g T.d_is_linkable.k b_is_linkable .nil passL (pa_cons (pv 0) pa_nil)) (pa_cons (pv 3) pa_nil))) (pe_one (pe_call G__law_flag (hr.mono (by decide)) (by rfl) T.d__law_flag.g T.d__law_flag.k b__law_flag .nil pass0 (pa_cons (pe_call G_ends_block (hr.mono (by decide)) (by rfl) T.d_ends_block.g T.d_ends_block.k b_ends_block .nil passL (pa_cons (pv 0) pa_nil)) (pa_cons (pe_or (pv 2) (pe_one (pe_not (pv 3)))) pa_nil))))))))))), ?_⟩
    have zl := nm_len hz
    have e1 : inV (.str z) (supL.map V.str) = isSup z := inV_str z supL
    have e2 : inV (.str z) (jumL.map V.str) = isJum z := inV_str z jumL
    have e3 : inV (.str z) (unlL.map V.str) = decide (z ∈ unlL) := inV_str z unlL
    refine ⟨_, rfl, (by show 5 ≤ sizeLine; decide), fun p1 np1 => ⟨p1, _, rfl, .inl (SqL.of upd_same), rfl, flat_strs supL, ?_⟩⟩
    have s1 := same_new (o := .lst (supL.map V.str)) (Same.refl H) np1
    show gName 1 (V.bl (inV (.str z) (supL.map V.str))) _ _ _
    rw [e1]
    refine ⟨_, rfl, (by show 3 ≤ sizeLine; decide), fun p2 np2 => ⟨p2, _, rfl, .inl (SqL.of upd_same), rfl, flat_strs jumL, ?_⟩⟩
    have s2 := same_new (o := .lst (jumL.map V.str)) s1 np2
    show gName 2 (V.bl (inV (.str z) (jumL.map V.str))) _ _ _
    rw [e2]
    cases hs : isSup z with
    | true =>
      have hl : isLnk z = false := by simp [isLnk, hs]
      have he : isEnd z = true := by simp [isEnd, hl]
      refine ⟨_, rfl, _, rfl, _, rfl, ?_⟩
      refine ⟨_, rfl, z, rfl, zl, fun _ H3 s3 => ?_, fun h => absurd hz h⟩
      rw [hs]
      refine ⟨_, rfl, _, _, rfl, _, rfl, ?_⟩
      refine ⟨_, rfl, z, rfl, zl, fun _ H4 s4 => ?_, fun h => absurd hz h⟩
      refine ⟨_, rfl, _, _, rfl, _, rfl, ?_⟩
      rw [beq_self_eq_true]
      refine ⟨_, rfl, z, rfl, zl, fun _ H5 s5 => ?_, fun h => absurd hz h⟩
      rw [hl]
      refine ⟨_, rfl, _, _, rfl, _, rfl, ?_⟩
      refine ⟨_, rfl, z, rfl, zl, fun _ H6 s6 => ?_, fun h => absurd hz h⟩
      rw [he]
      have fin := q H6 (s2.trans (s3.trans (s4.trans (s5.trans s6))))
      cases hj : isJum z with
      | true => exact ⟨_, rfl, _, rfl, ⟨_, _, rfl, fin⟩⟩
      | false => exact ⟨_, rfl, _, rfl, ⟨_, rfl, _, rfl, ⟨_, _, rfl, fin⟩⟩⟩
    | false =>
      refine ⟨_, rfl, _, rfl, _, rfl, ?_⟩
      refine ⟨_, rfl, (by show 3 ≤ sizeLine; decide), fun p3 np3 => ⟨p3, _, rfl, .inl (SqL.of upd_same), rfl, flat_strs unlL, ?_⟩⟩
      have s0 := same_new (o := .lst (unlL.map V.str)) s2 np3
      show gName 3 (V.bl (!inV (.str z) (unlL.map V.str))) _ _ _
      rw [e3]
      have hl : isLnk z = !decide (z ∈ unlL) := by simp [isLnk, hs]
      have he : isEnd z = (isJum z || !isLnk z) := rfl
      rw [← hl]
      refine ⟨_, rfl, z, rfl, zl, fun _ H3 s3 => ?_, fun h => absurd hz h⟩
      rw [hs]
      refine ⟨_, rfl, _, _, rfl, _, rfl, ?_⟩
      refine ⟨_, rfl, z, rfl, zl, fun _ H4 s4 => ?_, fun h => absurd hz h⟩
      refine ⟨_, rfl, _, _, rfl, _, rfl, ?_⟩
      rw [beq_self_eq_true]
      refine ⟨_, rfl, z, rfl, zl, fun _ H5 s5 => ?_, fun h => absurd hz h⟩
      refine ⟨_, rfl, _, _, rfl, _, rfl, ?_⟩
      rw [beq_self_eq_true]
      refine ⟨_, rfl, z, rfl, zl, fun _ H6 s6 => ?_, fun h => absurd hz h⟩
      rw [he]
      have fin := q H6 (s0.trans (s3.trans (s4.trans (s5.trans s6))))
      cases hj : isJum z with
      | true => exact ⟨_, rfl, _, rfl, ⟨_, _, rfl, fin⟩⟩
      | false =>
        refine ⟨_, rfl, _, rfl, ⟨_, rfl, _, rfl, ⟨_, _, rfl, ?_⟩⟩⟩
        rw [Bool.false_or, beq_self_eq_true]
        exact fin
end
end P86
namespace P86
open PySem L2 Xg
/-- encoding is refused -/
def spRef (K : PySem.W.Frag) : Sp := fun vs H Q _ => ∃ (z : Str) (a : Addr) (ops : List Int), vs = [.str z, .ref a] ∧ z.length ≤ 1000 ∧ ops.length ≤ 100 ∧ SqT K H a (ops.map V.int) ∧ (∀ i, ¬ EncOk i z ops) ∧ ∀ H', Same H H' → Q (.bl true) H'
/-- every question about such a name is refused -/
def spAskN (A : Ad) : Sp := fun vs H _ E => ∃ (j : Int) (z : Str), vs = [.int j, .str z] ∧ z.length ≤ 1000 ∧ z ∉ nmL ∧ IErr A z H E
def spUnk : Sp := fun vs H Q _ => ∃ z : Str, vs = [.str z] ∧ z.length ≤ 1000 ∧ z ∉ nmL ∧ ∀ H', Same H H' → Q (.bl true) H'
/-- wrong operands of a good row are refused -/
def spWrong (K : PySem.W.Frag) : Sp := fun vs H Q _ => ∃ (z : Str) (i : Nat) (a : Addr) (ops : List Int), vs = [.str z, .str (kdI i), .ref a] ∧ H a = some (.lst (ops.map V.int)) ∧ EncOk i z ops ∧ ∀ H', Same H H' → Q (.bl true) H'
theorem ixn {n j : Nat} (hj : j < n) : ixN n (j : Int) = some j := by
  unfold ixN
  rw [if_pos (by omega), if_pos (by omega), Int.toNat_natCast]
theorem walk_r0 {n : Nat} : Walk (Itr 0 n) n (fun _ => True) (YFn fun i => .int (i : Int)) :=
  walk_range.mono (fun _ _ => True.intro) fun i _ x _ _ _ y => ⟨y.1, by rw [y.2]; show V.int (0 + (i : Int)) = V.int (i : Int); rw [Int.zero_add]⟩
section
variable {P : Program} {w : World} {K : PySem.W.Frag} {mg : Str → Option Value} {base : Heap} {A : Ad} {B : Al}
theorem ok__law_refused {fd : FuncData} (F : Fun K "_law_refused" "_law_refused" S__law_refused B._law_refused fd) (T : Tl P w K mg A B) : FnOk P w K mg base CX0 5 B._law_refused fd ["_law_name", "_law_operands"] (spRef K) := by
  obtain ⟨fd1, F1, b_encode⟩ := T.d_encode.ex
  have G_encode : FnOk P w K mg base (L2.CX P w) 4 A.encode fd1 ["name", "operands"] (spEnc K A) := ok_encode F1 T.toTp
  refine F.ok sc__law_refused (fun vs H Q E h => ?_) (fun cdv A' outer s H vs Q E hr h => ?_)
  · obtain ⟨z, a, ops, rfl, _⟩ := h
    rfl
  · obtain ⟨z, a, ops, rfl, hz1, hl, hS, hno, q⟩ := h
    refine ⟨_, (pss_cons (ps_try_as (i := 2) rfl rfl sc__law_refused.nd rfl rfl ⟨rfl, by decide, Or.inl T.g_InstructionError⟩ takes0
    (fun W pn xe tk _ => (pss_one (ps_expr (pe_callS G_encode (hr.mono (by decide)) (by rfl) T.d_encode.g T.d_encode.k b_encode (fun σ => passAt tk σ) (pa_cons (pv 0) (pa_cons (pv 1) pa_nil))))))
    (fun a oe cls d pn hz hf => (pss_cons (ps_if (pt_val (pe_callB (XgIsa.call_isX hz hf) (by rfl) T.n_isinstance (by decide +kernel) (pa_cons (pv 2) (pa_cons (pe_tup (pa_cons (pe_glob (v := .ref _) (by rfl) T.g_TextError rfl) (pa_cons (pe_glob (v := .ref _) (by rfl) T.g_GuestError rfl) (pa_cons (pe_glob (v := .ref _) (by rfl) T.g_PolicyError rfl) (pa_cons (pe_glob (v := .ref _) (by rfl) T.g_ActionError rfl) (pa_cons (pe_glob (v := .ref _) (by rfl) T.g_SettingError rfl) (pa_cons (pe_glob (v := .ref _) (by rfl) T.g_DebuggerError rfl) pa_nil))))))) pa_nil))))
    (pss_one (ps_ret pe_bl))
    pss_nil)
  (pss_one (ps_ret (pe_and (pe_callB (XgIsa.call_isX hz hf) (by rfl) T.n_isinstance (by decide +kernel) (pa_cons (pv 2) (pa_cons (pe_glob (v := .ref _) (by rfl) T.g_GuestlivesError rfl) pa_nil))) (pe_and (pe_callB (XgIsa.call_isX hz hf) (by rfl) T.n_isinstance (by decide +kernel) (pa_cons (pv 2) (pa_cons (pe_bltn (v := .ty "ValueError") (by rfl) T.n_ValueError (by decide +kernel) rfl) pa_nil))) (pe_one (pe_cmpR op_eq (pe_xf (C := A.IE) T.xf_IE T.x_InstructionError.noN hz hf (pv 2)) (pv 0) (nomark _))))))))))
  (pss_one (ps_ret pe_bl))), ?_⟩
    refine ⟨_, rfl, _, rfl, z, a, ops, rfl, hz1, hl, hS, fun i hi => absurd hi (hno i), fun _ => ?_⟩
    intro H1 d sm hd hx
    refine ⟨true, T.m_II, fun _ e he => ?_, fun h => nomatch h⟩
    refine ⟨_, rfl, (by show 6 ≤ sizeLine; decide), fun tp ntp => ?_⟩
    have hde : d ≠ tp := fun h => by rw [h, ntp] at hx; cases hx
    have s2 := same_new (o := .tup [.ref B.TextError, .ref B.GuestError, .ref B.PolicyError, .ref B.ActionError, .ref B.SettingError, .ref B.DebuggerError]) sm ntp
    have hx2 : upd H1 tp (.tup [.ref B.TextError, .ref B.GuestError, .ref B.PolicyError, .ref B.ActionError, .ref B.SettingError, .ref B.DebuggerError]) d = some (.xd [("name", .str z)]) := by rw [upd_ne hde]; exact hx
    refine ⟨A.IE, d, _, _, false, rfl, rfl, T.xc_IE, rfl, hx2, .inr ⟨tp, _, _, rfl, upd_same, .cons (.own _) (.cons (.own _) (.cons (.own _) (.cons (.own _) (.cons (.own _) (.cons (.own _) .nil))))), T.i_six⟩, _, rfl, ?_⟩
    refine ⟨_, rfl, A.IE, d, _, _, true, rfl, rfl, T.xc_IE, rfl, hx2, .inl ⟨_, .own _, T.i_IG⟩, _, rfl, ?_⟩
    refine ⟨_, rfl, A.IE, d, _, _, true, rfl, rfl, T.xc_IE, rfl, hx2, .inl ⟨_, .ty _, T.i_IV⟩, _, rfl, ?_⟩
    exact ⟨_, rfl, rfl, rfl, d, _, _, rfl, hx2, rfl, _, rfl, rfl, (by rw [dec_str, beq_self_eq_true]; exact q _ s2)⟩
theorem ok__law_ask {fd : FuncData} (F : Fun K "_law_ask" "_law_ask" S__law_ask B._law_ask fd) (T : Tl P w K mg A B) : FnOk P w K mg base (L2.CX P w) 7 B._law_ask fd ["_law_number", "_law_name"] (spAskN A) := by
  obtain ⟨fd1, F1, b_op_number⟩ := T.d_op_number.ex
  have G_op_number : FnOk P w K mg base (L2.CX P w) 3 A.op_number fd1 ["name"] (spOpn A) := ok_op_number F1 T.toTp
  obtain ⟨fd2, F2, b_operand_kinds⟩ := T.d_operand_kinds.ex
  have G_operand_kinds : FnOk P w K mg base (L2.CX P w) 4 A.operand_kinds fd2 ["name"] (spKinds A) := ok_operand_kinds F2 T.toTp
  obtain ⟨fd3, F3, b_size_of⟩ := T.d_size_of.ex
  have G_size_of : FnOk P w K mg base (L2.CX P w) 5 A.size_of fd3 ["name"] (spSize A) := ok_size_of F3 T.toTp
  obtain ⟨fd4, F4, b_values_read⟩ := T.d_values_read.ex
  have G_values_read : FnOk P w K mg base (L2.CX P w) 4 A.values_read fd4 ["name", "operands"] (spRead K A) := ok_values_read F4 T.toTp
  obtain ⟨fd5, F5, b_value_made⟩ := T.d_value_made.ex
  have G_value_made : FnOk P w K mg base (L2.CX P w) 4 A.value_made fd5 ["name", "operands"] (spMade K A) := ok_value_made F5 T.toTp
  obtain ⟨fd6, F6, b_is_supervisor⟩ := T.d_is_supervisor.ex
  have G_is_supervisor : FnOk P w K mg base (L2.CX P w) 4 A.is_supervisor fd6 ["name"] (spAsk A isSup) := ok_is_supervisor F6 T.toTp
  obtain ⟨fd7, F7, b_is_jump⟩ := T.d_is_jump.ex
  have G_is_jump : FnOk P w K mg base (L2.CX P w) 4 A.is_jump fd7 ["name"] (spAsk A isJum) := ok_is_jump F7 T.toTp
  obtain ⟨fd8, F8, b_is_linkable⟩ := T.d_is_linkable.ex
  have G_is_linkable : FnOk P w K mg base (L2.CX P w) 5 A.is_linkable fd8 ["name"] (spAsk A isLnk) := ok_is_linkable F8 T.toTp
  obtain ⟨fd9, F9, b_ends_block⟩ := T.d_ends_block.ex
  have G_ends_block : FnOk P w K mg base (L2.CX P w) 6 A.ends_block fd9 ["name"] (spAsk A isEnd) := ok_ends_block F9 T.toTp
  refine F.okX sc__law_ask (fun vs H Q E h => ?_) (fun cdv A' outer s H vs Q E hr h => ?_)
  · obtain ⟨j, z, rfl, _⟩ := h
    rfl
  · obtain ⟨j, z, rfl, hz, hn, hbad⟩ := h
    refine ⟨_, (pss_cons (ps_if (pt_cmpR op_eq (pv 0) pe_int (nomark _))
    (pss_one (ps_ret (pe_call G_op_number (hr.mono (by decide)) (by rfl) T.d_op_number.g T.d_op_number.k b_op_number .nil (passes_call (W := fun cls d _ H => E cls d H) (takes_of rfl rfl rfl rfl) (fun _ _ _ _ h => h)) (pa_cons (pv 1) pa_nil))))
    pss_nil)
  (pss_cons (ps_if (pt_cmpR op_eq (pv 0) pe_int (nomark _))
    (pss_one (ps_ret (pe_call G_operand_kinds (hr.mono (by decide)) (by rfl) T.d_operand_kinds.g T.d_operand_kinds.k b_operand_kinds .nil (passes_call (W := fun cls d _ H => E cls d H) (takes_of rfl rfl rfl rfl) (fun _ _ _ _ h => h)) (pa_cons (pv 1) pa_nil))))
    pss_nil)
  (pss_cons (ps_if (pt_cmpR op_eq (pv 0) pe_int (nomark _))
    (pss_one (ps_ret (pe_call G_size_of (hr.mono (by decide)) (by rfl) T.d_size_of.g T.d_size_of.k b_size_of .nil (passes_call (W := fun cls d _ H => E cls d H) (takes_of rfl rfl rfl rfl) (fun _ _ _ _ h => h)) (pa_cons (pv 1) pa_nil))))
    pss_nil)
  (pss_cons (ps_if (pt_cmpR op_eq (pv 0) pe_int (nomark _))
    (pss_one (ps_ret (pe_call G_values_read (hr.mono (by decide)) (by rfl) T.d_values_read.g T.d_values_read.k b_values_read .nil (passes_call (W := fun cls d _ H => E cls d H) (takes_of rfl rfl rfl rfl) (fun _ _ _ _ h => h)) (pa_cons (pv 1) (pa_cons (pe_tup (pa_cons pe_int (pa_cons pe_int pa_nil))) pa_nil)))))
    pss_nil)
  (pss_cons (ps_if (pt_cmpR op_eq (pv 0) pe_int (nomark _))
    (pss_one (ps_ret (pe_call G_value_made (hr.mono (by decide)) (by rfl) T.d_value_made.g T.d_value_made.k b_value_made .nil (passes_call (W := fun cls d _ H => E cls d H) (takes_of rfl rfl rfl rfl) (fun _ _ _ _ h => h)) (pa_cons (pv 1) (pa_cons (pe_tup (pa_cons pe_int (pa_cons pe_int pa_nil))) pa_nil)))))
    pss_nil)
  (pss_cons (ps_if (pt_cmpR op_eq (pv 0) pe_int (nomark _))
    (pss_one (ps_ret (pe_call G_is_supervisor (hr.mono (by decide)) (by rfl) T.d_is_supervisor.g T.d_is_supervisor.k b_is_supervisor .nil (passes_call (W := fun cls d _ H => E cls d H) (takes_of rfl rfl rfl rfl) (fun _ _ _ _ h => h)) (pa_cons (pv 1) pa_nil))))
    pss_nil)
  (pss_cons (ps_if (pt_cmpR op_eq (pv 0) pe_int (nomark _))
    (pss_one (ps_ret (pe_call G_ends_block (hr.mono (by decide)) (by rfl) T.d_ends_block.g T.d_ends_block.k b_ends_block .nil (passes_call (W := fun cls d _ H => E cls d H) (takes_of rfl rfl rfl rfl) (fun _ _ _ _ h => h)) (pa_cons (pv 1) pa_nil))))
    pss_nil)
  (pss_cons (ps_if (pt_cmpR op_eq (pv 0) pe_int (nomark _))
    (pss_one (ps_ret (pe_call G_is_linkable (hr.mono (by decide)) (by rfl) T.d_is_linkable.g T.d_is_linkable.k b_is_linkable .nil (passes_call (W := fun cls d _ H => E cls d H) (takes_of rfl rfl rfl rfl) (fun _ _ _ _ h => h)) (pa_cons (pv 1) pa_nil))))
    pss_nil)
  (pss_one (ps_ret (pe_call G_is_jump (hr.mono (by decide)) (by rfl) T.d_is_jump.g T.d_is_jump.k b_is_jump .nil (passes_call (W := fun cls d _ H => E cls d H) (takes_of rfl rfl rfl rfl) (fun _ _ _ _ h => h)) (pa_cons (pv 1) pa_nil)))))))))))), ?_⟩
    have ab : ∀ {α : Prop} {i : Nat}, nmL[i]? = some z → α := fun h => absurd (nm_mem h) hn
    have z2 : ∀ (H' : Hp) (p : Addr), SqT K (upd H' p (.tup [.int 0, .int 0])) p (([0, 0] : List Int).map V.int) := fun H' p => SqT.of upd_same
    refine ⟨_, rfl, rfl, _, rfl, ite2 (fun _ => ⟨_, rfl, z, rfl, hz, fun _ h => ab h, fun _ => hbad⟩) (fun _ => ?_)⟩
    refine ⟨_, rfl, rfl, _, rfl, ite2 (fun _ => ⟨_, rfl, z, rfl, hz, fun _ h => ab h, fun _ => hbad⟩) (fun _ => ?_)⟩
    refine ⟨_, rfl, rfl, _, rfl, ite2 (fun _ => ⟨_, rfl, z, rfl, hz, fun _ h => ab h, fun _ => hbad⟩) (fun _ => ?_)⟩
    refine ⟨_, rfl, rfl, _, rfl, ite2 (fun _ => ⟨_, rfl, (by show 2 ≤ sizeLine; decide), fun p np => ⟨z, p, [0, 0], rfl, hz, z2 _ _, fun _ h => ab h, fun _ => hbad.mono (same_new (Same.refl H) np)⟩⟩) (fun _ => ?_)⟩
    refine ⟨_, rfl, rfl, _, rfl, ite2 (fun _ => ⟨_, rfl, (by show 2 ≤ sizeLine; decide), fun p np => ⟨z, p, [0, 0], rfl, hz, z2 _ _, fun _ h => ab h, fun _ => hbad.mono (same_new (Same.refl H) np)⟩⟩) (fun _ => ?_)⟩
    refine ⟨_, rfl, rfl, _, rfl, ite2 (fun _ => ⟨_, rfl, z, rfl, hz, fun h => absurd h hn, fun _ => hbad⟩) (fun _ => ?_)⟩
    refine ⟨_, rfl, rfl, _, rfl, ite2 (fun _ => ⟨_, rfl, z, rfl, hz, fun h => absurd h hn, fun _ => hbad⟩) (fun _ => ?_)⟩
    refine ⟨_, rfl, rfl, _, rfl, ite2 (fun _ => ⟨_, rfl, z, rfl, hz, fun h => absurd h hn, fun _ => hbad⟩) (fun _ => ?_)⟩
    exact ⟨_, rfl, z, rfl, hz, fun h => absurd h hn, fun _ => hbad⟩
theorem ok__law_unknown {fd : FuncData} (F : Fun K "_law_unknown" "_law_unknown" S__law_unknown B._law_unknown fd) (T : Tl P w K mg A B) : FnOk P w K mg base CX0 8 B._law_unknown fd ["_law_name"] spUnk := by
  obtain ⟨fd1, F1, b__law_refused⟩ := T.d__law_refused.ex
  have G__law_refused : FnOk P w K mg base CX0 5 B._law_refused fd1 ["_law_name", "_law_operands"] (spRef K) := ok__law_refused F1 T
  obtain ⟨fd2, F2, b__law_ask⟩ := T.d__law_ask.ex
  have G__law_ask : FnOk P w K mg base (L2.CX P w) 7 B._law_ask fd2 ["_law_number", "_law_name"] (spAskN A) := ok__law_ask F2 T
  refine F.ok sc__law_unknown (fun vs H Q E h => ?_) (fun cdv A' outer s H vs Q E hr h => ?_)
  · obtain ⟨z, rfl, _⟩ := h
    rfl
  · obtain ⟨z, rfl, hz1, hn, q⟩ := h
    refine ⟨_, (pss_cons (ps_if (pt_not (pt_val (pe_call G__law_refused (hr.mono (by decide)) (by rfl) T.d__law_refused.g T.d__law_refused.k b__law_refused .nil pass0 (pa_cons (pv 0) (pa_cons (pe_tup pa_nil) pa_nil)))))
    (pss_one (ps_ret pe_bl))
    pss_nil)
  (pss_cons (ps_for PassesOwn.never rfl (pi_range1 (by rfl) T.n_range (pa_cons pe_int pa_nil)) (pg_name (i := 1) sc__law_unknown.nd rfl (Or.inl rfl))
    (pss_cons (ps_set (i := 2) sc__law_unknown.nd rfl (Or.inl rfl) pe_bl)
  (pss_cons (ps_try_as (i := 3) rfl rfl sc__law_unknown.nd rfl rfl ⟨rfl, by decide, Or.inl T.g_GuestlivesError⟩ takes0
    (fun W pn xe tk _ => (pss_one (ps_expr (pe_callS G__law_ask (hr.mono (by decide)) (by rfl) T.d__law_ask.g T.d__law_ask.k b__law_ask (fun σ => passAt tk σ) (pa_cons (pv 1) (pa_cons (pv 0) pa_nil))))))
    (fun a oe cls d pn hz hf => (pss_one (ps_set (i := 2) sc__law_unknown.nd rfl (Or.inl rfl) (pe_and (pe_callB (XgIsa.call_isX hz hf) (by rfl) T.n_isinstance (by decide +kernel) (pa_cons (pv 3) (pa_cons (pe_glob (v := .ref _) (by rfl) T.g_InstructionError rfl) pa_nil))) (pe_one (pe_cmpR op_eq (pe_xf (C := A.IE) T.xf_IE T.x_InstructionError.noN hz hf (pv 3)) (pv 0) (nomark _))))))))
  (pss_one (ps_if (pt_not (pt_val (pv 2)))
    (pss_one (ps_ret pe_bl))
    pss_nil)))))
  (pss_one (ps_ret pe_bl)))), ?_⟩
    refine ⟨_, rfl, (by show 0 ≤ sizeLine; decide), fun p np => ⟨z, p, [], rfl, hz1, by decide, SqT.of upd_same, fun i e => hn (nm_mem e.nm), fun H1 s1 => ?_⟩⟩
    have s1' := (same_new (o := .tup []) (Same.refl H) np).trans s1
    refine ⟨_, rfl, 9, rfl, by decide, by decide, for_it walk_range (fun _ σ H' => Same H H' ∧ ∃ v1 v2 v3, σ = [some (.str z), v1, v2, v3]) ⟨s1', _, _, _, rfl⟩ (fun _ _ _ _ _ => True.intro) ?_ ?_⟩
    · rintro j x σ H2 H3 hj ⟨s2, v1, v2, v3, rfl⟩ ⟨rfl, rfl⟩
      refine ⟨_, rfl, _, rfl, _, z, rfl, hz1, hn, ?_⟩
      intro H4 d s4 hd hx
      refine ⟨true, T.m_IG, fun _ e he => ?_, fun h => nomatch h⟩
      refine ⟨_, rfl, A.IE, d, _, _, true, rfl, rfl, T.xc_IE, rfl, hx, .inl ⟨_, .own _, T.i_II⟩, _, rfl, ?_⟩
      refine ⟨_, rfl, rfl, rfl, d, _, _, rfl, hx, rfl, _, rfl, rfl, ?_⟩
      rw [dec_str, beq_self_eq_true]
      exact ⟨_, rfl, _, rfl, ⟨s2.trans s4, _, _, _, rfl⟩⟩
    · rintro σ H2 ⟨s2, v1, v2, v3, rfl⟩
      exact q _ s2
theorem ok__law_wrong_operands {fd : FuncData} (F : Fun K "_law_wrong_operands" "_law_wrong_operands" S__law_wrong_operands B._law_wrong_operands fd) (T : Tl P w K mg A B) : FnOk P w K mg base CX0 6 B._law_wrong_operands fd ["_law_name", "_law_letters", "_law_operands"] (spWrong K) := by
  obtain ⟨fd1, F1, b__law_refused⟩ := T.d__law_refused.ex
  have G__law_refused : FnOk P w K mg base CX0 5 B._law_refused fd1 ["_law_name", "_law_operands"] (spRef K) := ok__law_refused F1 T
  obtain ⟨fd2, F2, b__law_limit⟩ := T.d__law_limit.ex
  have G__law_limit : FnOk P w K mg base CX0 1 B._law_limit fd2 ["_law_kind"] spLim := ok__law_limit F2 T
  refine F.ok sc__law_wrong_operands (fun vs H Q E h => ?_) (fun cdv A' outer s H vs Q E hr h => ?_)
  · obtain ⟨z, i, a, ops, rfl, _⟩ := h
    rfl
  · obtain ⟨z, i, a, ops, rfl, ha, hE, q⟩ := h
    refine ⟨_, (pss_cons (ps_if (pt_not (pt_val (pe_call G__law_refused (hr.mono (by decide)) (by rfl) T.d__law_refused.g T.d__law_refused.k b__law_refused .nil pass0 (pa_cons (pv 0) (pa_cons (pe_callTy call_tuple_of (by rfl) T.n_tuple (by decide +kernel) (pa_cons (pe_op op_cat (pv 2) (pe_lst (pa_cons pe_int pa_nil))) pa_nil)) pa_nil)))))
    (pss_one (ps_ret pe_bl))
    pss_nil)
  (pss_cons (ps_if (PW.pt (pw_and (pt_cmpR op_gt (pe_callB call_len_seq (by rfl) T.n_len PySem.boot_len (pa_cons (pv 2) pa_nil)) pe_int (nomark _)) (pw_and1 (pt_not (pt_val (pe_call G__law_refused (hr.mono (by decide)) (by rfl) T.d__law_refused.g T.d__law_refused.k b__law_refused .nil pass0 (pa_cons (pv 0) (pa_cons (pe_callTy call_tuple_of (by rfl) T.n_tuple (by decide +kernel) (pa_cons (pe_slice sl_list (pv 2) (po_some pe_int) po_none) pa_nil)) pa_nil))))))))
    (pss_one (ps_ret pe_bl))
    pss_nil)
  (pss_cons (ps_for PassesOwn.never rfl (pi_range1 (by rfl) T.n_range (pa_cons (pe_callB call_len_seq (by rfl) T.n_len PySem.boot_len (pa_cons (pv 2) pa_nil)) pa_nil)) (pg_name (i := 3) sc__law_wrong_operands.nd rfl (Or.inl rfl))
    (pss_one (ps_for PassesOwn.never rfl (pi_list (pe_lst (pa_cons (pe_un un_neg pe_int) (pa_cons (pe_call G__law_limit (hr.mono (by decide)) (by rfl) T.d__law_limit.g T.d__law_limit.k b__law_limit .nil pass0 (pa_cons (pe_ix ix_str (pv 1) (pv 3) (fun _ _ => rfl)) pa_nil)) (pa_cons (pe_op op_add (pe_call G__law_limit (hr.mono (by decide)) (by rfl) T.d__law_limit.g T.d__law_limit.k b__law_limit .nil pass0 (pa_cons (pe_ix ix_str (pv 1) (pv 3) (fun _ _ => rfl)) pa_nil)) pe_int) pa_nil))))) (pg_name (i := 4) sc__law_wrong_operands.nd rfl (Or.inl rfl))
    (pss_cons (ps_set (i := 5) sc__law_wrong_operands.nd rfl (Or.inl rfl) (pe_callTy call_list_of (by rfl) T.n_list (by decide +kernel) (pa_cons (pv 2) pa_nil)))
  (pss_cons (ps_asg (pv 4) (pg_sub (pv 5) (pv 3) set_list))
  (pss_one (ps_if (pt_not (pt_val (pe_call G__law_refused (hr.mono (by decide)) (by rfl) T.d__law_refused.g T.d__law_refused.k b__law_refused .nil pass0 (pa_cons (pv 0) (pa_cons (pe_callTy call_tuple_of (by rfl) T.n_tuple (by decide +kernel) (pa_cons (pv 5) pa_nil)) pa_nil)))))
    (pss_one (ps_ret pe_bl))
    pss_nil)))))))
  (pss_one (ps_ret pe_bl))))), ?_⟩
    have zl := nm_len (nm_mem hE.nm)
    have i19 := nm_lt hE.nm
    have kl := kd_len i19
    have ol := hE.len
    have uniq : ∀ {j : Nat} {os : List Int}, EncOk j z os → j = i := fun e => nm_inj e.nm hE.nm
    refine ⟨_, rfl, _, rfl, (by show 1 ≤ sizeLine; decide), fun p1 n1 => ?_⟩
    have s1 := same_new (o := .lst [V.int 0]) (Same.refl H) n1
    have h1 := s1 _ _ ha
    refine ⟨a, p1, _, _, rfl, rfl, h1, upd_same, sz1000 (by rw [List.length_map]; show ops.length + 1 ≤ 1000; omega), fun p2 n2 => ?_⟩
    have s2 := same_new (o := .lst (ops.map V.int ++ [V.int 0])) s1 n2
    refine ⟨p2, _, rfl, .inl ⟨SqL.of upd_same, fun p3 n3 => ?_⟩⟩
    have s3 := same_new (o := .tup (ops.map V.int ++ [V.int 0])) s2 n3
    refine ⟨z, p3, ops ++ [0], rfl, zl, (by rw [List.length_append]; show ops.length + 1 ≤ 100; omega), (by rw [List.map_append]; exact SqT.of upd_same), fun j e => ?_, fun H4 s4 => ?_⟩
    · have l := e.len
      rw [uniq e, List.length_append, ← ol] at l
      exact absurd l (by show ¬ ops.length + 1 = ops.length; omega)
    have sx := s3.trans s4
    have hax := sx _ _ ha
    refine ⟨_, rfl, _, rfl, a, _, rfl, .inl (SqL.of hax), _, _, rfl, rfl, _, rfl, ?_⟩
    rw [List.length_map]
    refine ite2 (fun c => ?_) (fun c => ?_)
    · have c' : 0 < ops.length := by have := of_decide_eq_true c; omega
      refine ⟨_, rfl, _, rfl, 1, rfl, a, _, rfl, SqL.of hax, fun p5 n5 => ?_⟩
      have cut : cutV (ops.map V.int) (some 1) none = (ops.drop 1).map V.int := by
        have e := cut_from (xs := ops.map V.int) (k := 1) (by rw [List.length_map]; omega)
        rw [← List.map_drop] at e
        exact e
      rw [cut]
      have s5 := same_new (o := .lst ((ops.drop 1).map V.int)) sx n5
      refine ⟨p5, _, rfl, .inl ⟨SqL.of upd_same, fun p6 n6 => ?_⟩⟩
      have s6 := same_new (o := .tup ((ops.drop 1).map V.int)) s5 n6
      refine ⟨z, p6, ops.drop 1, rfl, zl, (by rw [List.length_drop]; omega), SqT.of upd_same, fun j e => ?_, fun Hx s7 => ?_⟩
      · have l := e.len
        rw [uniq e, List.length_drop, ← ol] at l
        omega
      have sy := s6.trans s7
      refine ⟨_, rfl, ?_⟩
      refine ⟨_, rfl, a, _, rfl, .inl (SqL.of (sy _ _ ha)), _, rfl, (by rw [List.length_map]; omega), (by rw [List.length_map]; omega), ?_⟩
      rw [List.length_map, Int.toNat_natCast]
      refine for_it walk_r0 (fun _ σ H' => Same H H' ∧ ∃ v3 v4 v5, σ = [some (.str z), some (.str (kdI i)), some (.ref a), v3, v4, v5]) ⟨sy, _, _, _, rfl⟩ (fun _ _ _ _ _ => True.intro) ?_ ?_
      · rintro k x σ H2 H3 hk ⟨sm, v3, v4, v5, rfl⟩ ⟨rfl, rfl⟩
        have hkk : k < (kdI i).cps.toList.length := by rw [← show (kdI i).length = (kdI i).cps.toList.length from rfl]; omega
        have hc : (kdI i).cps.toList[k]? = some (kdI i).cps.toList[k] := List.getElem?_eq_getElem hkk
        have hlt : Letter (kdI i).cps.toList[k] := kd_letter i19 _ (List.getElem_mem hkk)
        have szk : (kdI i).length ≤ sizeLine := sz1000 (by omega)
        refine ⟨_, rfl, _, rfl, _, rfl, _, _, _, rfl, rfl, szk, atI_nat hc, _, rfl, hlt, ?_⟩
        refine ⟨_, rfl, _, rfl, _, _, _, rfl, rfl, szk, atI_nat hc, _, rfl, hlt, _, _, rfl, rfl, (by show 3 ≤ sizeLine; decide), fun p np => ?_⟩
        have ws : ∀ w ∈ [-1, limC (kdI i).cps.toList[k], limC (kdI i).cps.toList[k] + 255], ¬ (0 ≤ w ∧ w < limC (kdI i).cps.toList[k]) := by
          intro w hw
          have h3 : w = -1 ∨ w = limC (kdI i).cps.toList[k] ∨ w = limC (kdI i).cps.toList[k] + 255 := by simpa using hw
          omega
        have si := same_new (o := .lst ([-1, limC (kdI i).cps.toList[k], limC (kdI i).cps.toList[k] + 255].map V.int)) sm np
        refine ⟨p, rfl, ⟨_, SqL.of upd_same⟩, for_it (walk_list (xs := [-1, limC (kdI i).cps.toList[k], limC (kdI i).cps.toList[k] + 255].map V.int)) (fun _ σ H' => Same (upd _ p (.lst ([-1, limC (kdI i).cps.toList[k], limC (kdI i).cps.toList[k] + 255].map V.int))) H' ∧ ∃ v4 v5, σ = [some (.str z), some (.str (kdI i)), some (.ref a), some (.int (k : Int)), v4, v5]) ⟨Same.refl _, _, _, rfl⟩ (fun _ _ _ _ h => same_sqL h.1 (SqL.of upd_same)) ?_ ?_⟩
        · rintro m x σ H5 H6 hm ⟨sm5, v4, v5, rfl⟩ ⟨rfl, ex⟩
          rw [List.getElem?_map] at ex
          obtain ⟨w', hw, rfl⟩ := Option.map_eq_some_iff.mp ex
          have hbad := ws w' (List.mem_of_getElem? hw)
          have sH := si.trans sm5
          refine ⟨_, rfl, a, _, rfl, .inl (SqL.of (sH _ _ ha)), fun p7 n7 => ?_⟩
          refine ⟨_, rfl, _, rfl, _, rfl, p7, _, _, k, rfl, rfl, upd_same, ixn (by rw [List.length_map]; omega), ?_⟩
          have s7 := same_mut (o := .lst ((ops.map V.int).set k (.int w'))) (same_new (o := .lst (ops.map V.int)) sm5 n7) (sm5.free n7)
          refine ⟨_, rfl, _, rfl, p7, _, rfl, .inl ⟨SqL.of upd_same, fun p8 n8 => ?_⟩⟩
          have s8 := same_new (o := .tup ((ops.map V.int).set k (.int w'))) s7 n8
          refine ⟨z, p8, ops.set k w', rfl, zl, (by rw [List.length_set]; omega), (by rw [List.map_set]; exact SqT.of upd_same), fun j e => ?_, fun H9 s9 => ⟨_, rfl, s8.trans s9, _, _, rfl⟩⟩
          have ej := uniq e
          subst ej
          exact hbad (e.fit k _ w' hc (by rw [List.getElem?_set_self (by omega)]))
        · rintro σ H5 ⟨sm5, v4, v5, rfl⟩
          exact ⟨si.trans sm5, _, _, _, rfl⟩
      · rintro σ H2 ⟨sm, v3, v4, v5, rfl⟩
        exact q _ sm
    · have sy := sx
      refine ⟨_, rfl, a, _, rfl, .inl (SqL.of (sy _ _ ha)), _, rfl, (by rw [List.length_map]; omega), (by rw [List.length_map]; omega), ?_⟩
      rw [List.length_map, Int.toNat_natCast]
      refine for_it walk_r0 (fun _ σ H' => Same H H' ∧ ∃ v3 v4 v5, σ = [some (.str z), some (.str (kdI i)), some (.ref a), v3, v4, v5]) ⟨sy, _, _, _, rfl⟩ (fun _ _ _ _ _ => True.intro) ?_ ?_
      · rintro k x σ H2 H3 hk ⟨sm, v3, v4, v5, rfl⟩ ⟨rfl, rfl⟩
        have hkk : k < (kdI i).cps.toList.length := by rw [← show (kdI i).length = (kdI i).cps.toList.length from rfl]; omega
        have hc : (kdI i).cps.toList[k]? = some (kdI i).cps.toList[k] := List.getElem?_eq_getElem hkk
        have hlt : Letter (kdI i).cps.toList[k] := kd_letter i19 _ (List.getElem_mem hkk)
        have szk : (kdI i).length ≤ sizeLine := sz1000 (by omega)
        refine ⟨_, rfl, _, rfl, _, rfl, _, _, _, rfl, rfl, szk, atI_nat hc, _, rfl, hlt, ?_⟩
        refine ⟨_, rfl, _, rfl, _, _, _, rfl, rfl, szk, atI_nat hc, _, rfl, hlt, _, _, rfl, rfl, (by show 3 ≤ sizeLine; decide), fun p np => ?_⟩
        have ws : ∀ w ∈ [-1, limC (kdI i).cps.toList[k], limC (kdI i).cps.toList[k] + 255], ¬ (0 ≤ w ∧ w < limC (kdI i).cps.toList[k]) := by
          intro w hw
          have h3 : w = -1 ∨ w = limC (kdI i).cps.toList[k] ∨ w = limC (kdI i).cps.toList[k] + 255 := by simpa using hw
          omega
        have si := same_new (o := .lst ([-1, limC (kdI i).cps.toList[k], limC (kdI i).cps.toList[k] + 255].map V.int)) sm np
        refine ⟨p, rfl, ⟨_, SqL.of upd_same⟩, for_it (walk_list (xs := [-1, limC (kdI i).cps.toList[k], limC (kdI i).cps.toList[k] + 255].map V.int)) (fun _ σ H' => Same (upd _ p (.lst ([-1, limC (kdI i).cps.toList[k], limC (kdI i).cps.toList[k] + 255].map V.int))) H' ∧ ∃ v4 v5, σ = [some (.str z), some (.str (kdI i)), some (.ref a), some (.int (k : Int)), v4, v5]) ⟨Same.refl _, _, _, rfl⟩ (fun _ _ _ _ h => same_sqL h.1 (SqL.of upd_same)) ?_ ?_⟩
        · rintro m x σ H5 H6 hm ⟨sm5, v4, v5, rfl⟩ ⟨rfl, ex⟩
          rw [List.getElem?_map] at ex
          obtain ⟨w', hw, rfl⟩ := Option.map_eq_some_iff.mp ex
          have hbad := ws w' (List.mem_of_getElem? hw)
          have sH := si.trans sm5
          refine ⟨_, rfl, a, _, rfl, .inl (SqL.of (sH _ _ ha)), fun p7 n7 => ?_⟩
          refine ⟨_, rfl, _, rfl, _, rfl, p7, _, _, k, rfl, rfl, upd_same, ixn (by rw [List.length_map]; omega), ?_⟩
          have s7 := same_mut (o := .lst ((ops.map V.int).set k (.int w'))) (same_new (o := .lst (ops.map V.int)) sm5 n7) (sm5.free n7)
          refine ⟨_, rfl, _, rfl, p7, _, rfl, .inl ⟨SqL.of upd_same, fun p8 n8 => ?_⟩⟩
          have s8 := same_new (o := .tup ((ops.map V.int).set k (.int w'))) s7 n8
          refine ⟨z, p8, ops.set k w', rfl, zl, (by rw [List.length_set]; omega), (by rw [List.map_set]; exact SqT.of upd_same), fun j e => ?_, fun H9 s9 => ⟨_, rfl, s8.trans s9, _, _, rfl⟩⟩
          have ej := uniq e
          subst ej
          exact hbad (e.fit k _ w' hc (by rw [List.getElem?_set_self (by omega)]))
        · rintro σ H5 ⟨sm5, v4, v5, rfl⟩
          exact ⟨si.trans sm5, _, _, _, rfl⟩
      · rintro σ H2 ⟨sm, v3, v4, v5, rfl⟩
        exact q _ sm
end
end P86
namespace P86
open PySem L2 Xg
theorem tyT {K : PySem.W.Frag} {H : Hp} {a : Addr} {xs : List V} (h : SqT K H a xs) : TyX K H (.ref a) (.type "tuple") := by
  rcases h with (h | ⟨o, h⟩) | ⟨o, its, n, e, c, _⟩
  · exact .base (.tup h)
  · exact .fTuple h
  · exact .kTuple e c
theorem tyL {K : PySem.W.Frag} {H : Hp} {a : Addr} {xs : List V} (h : SqL K H a xs) : TyX K H (.ref a) (.type "list") := by
  rcases h with (h | ⟨o, h⟩) | ⟨o, its, n, e, c, _⟩
  · exact .base (.lst h)
  · exact .base (.frz h)
  · exact .kList e c
def spTable : Sp := fun vs H Q _ => vs = [] ∧ ∀ H', Same H H' → Q (.bl true) H'
abbrev ltL : List Nat := [114, 110, 97, 103, 102, 107]
section
variable {P : Program} {w : World} {K : PySem.W.Frag} {mg : Str → Option Value} {base : Heap} {A : Ad} {B : Al}
theorem ok__law_table {fd : FuncData} (F : Fun K "_law_table" "_law_table" S__law_table B._law_table fd) (T : Tl P w K mg A B) : FnOk P w K mg base CX0 3 B._law_table fd [] spTable := by
  obtain ⟨fd1, F1, b__law_names⟩ := T.d__law_names.ex
  have G__law_names : FnOk P w K mg base CX0 1 B._law_names fd1 [] (spStrs nmL) := ok__law_names F1 T
  obtain ⟨fd2, F2, b__law_kinds⟩ := T.d__law_kinds.ex
  have G__law_kinds : FnOk P w K mg base CX0 1 B._law_kinds fd2 [] (spStrs kdL) := ok__law_kinds F2 T
  obtain ⟨fd3, F3, b__law_limit⟩ := T.d__law_limit.ex
  have G__law_limit : FnOk P w K mg base CX0 1 B._law_limit fd3 ["_law_kind"] spLim := ok__law_limit F3 T
  obtain ⟨fd4, F4, b_operand_limit⟩ := T.d_operand_limit.ex
  have G_operand_limit : FnOk P w K mg base CX0 1 A.operand_limit fd4 ["kind"] spLim := ok_operand_limit F4 T.toTp
  obtain ⟨fd5, F5, b__law_all_whole⟩ := T.d__law_all_whole.ex
  have G__law_all_whole : FnOk P w K mg base CX0 2 B._law_all_whole fd5 ["_law_values", "_law_expected"] (spAll K) := ok__law_all_whole F5 T
  refine F.ok sc__law_table (fun vs H Q E h => ?_) (fun cdv A' outer s H vs Q E hr h => ?_)
  · obtain ⟨rfl, _⟩ := h
    rfl
  · obtain ⟨rfl, q⟩ := h
    obtain ⟨as, la, hO, hAt⟩ := pairsB_sq T.OPS
    have l19 : as.length = 19 := la.trans (by decide +kernel)
    refine ⟨_, (pss_cons (ps_set (i := 0) sc__law_table.nd rfl (Or.inl rfl) (pe_call0 G__law_names (hr.mono (by decide)) (by rfl) T.d__law_names.g T.d__law_names.k b__law_names .nil pass0))
  (pss_cons (ps_set (i := 1) sc__law_table.nd rfl (Or.inl rfl) (pe_call0 G__law_kinds (hr.mono (by decide)) (by rfl) T.d__law_kinds.g T.d__law_kinds.k b__law_kinds .nil pass0))
  (pss_cons (ps_if (PW.pt (pw_or (pt_not (pt_val (pe_callB call_isi (by rfl) T.n_isinstance (by decide +kernel) (pa_cons (pe_glob (v := .ref _) (by rfl) T.g_OPS rfl) (pa_cons (pe_bltn (v := .ty "tuple") (by rfl) T.n_tuple (by decide +kernel) rfl) pa_nil))))) (pw_or1 (pt_cmpR op_ne (pe_callB call_len_seq (by rfl) T.n_len PySem.boot_len (pa_cons (pe_glob (v := .ref _) (by rfl) T.g_OPS rfl) pa_nil)) pe_int (nomark _)))))
    (pss_one (ps_ret pe_bl))
    pss_nil)
  (pss_cons (ps_for PassesOwn.never rfl (pi_range1 (by rfl) T.n_range (pa_cons pe_int pa_nil)) (pg_name (i := 2) sc__law_table.nd rfl (Or.inl rfl))
    (pss_one (ps_if (PW.pt (pw_or (pt_not (pt_val (pe_callB call_isi (by rfl) T.n_isinstance (by decide +kernel) (pa_cons (pe_ix ix_tup (pe_glob (v := .ref _) (by rfl) T.g_OPS rfl) (pv 2) (fun _ _ => rfl)) (pa_cons (pe_bltn (v := .ty "tuple") (by rfl) T.n_tuple (by decide +kernel) rfl) pa_nil))))) (pw_or (pt_cmpR op_ne (pe_callB call_len_seq (by rfl) T.n_len PySem.boot_len (pa_cons (pe_ix ix_tup (pe_glob (v := .ref _) (by rfl) T.g_OPS rfl) (pv 2) (fun _ _ => rfl)) pa_nil)) pe_int (nomark _)) (pw_or (pt_cmpR op_ne (pe_ix ix_tup (pe_ix ix_tup (pe_glob (v := .ref _) (by rfl) T.g_OPS rfl) (pv 2) (fun _ _ => rfl)) pe_int (fun _ _ => rfl)) (pe_ix ix_list (pv 0) (pv 2) (fun _ _ => rfl)) (nomark _)) (pw_or1 (pt_cmpR op_ne (pe_ix ix_tup (pe_ix ix_tup (pe_glob (v := .ref _) (by rfl) T.g_OPS rfl) (pv 2) (fun _ _ => rfl)) pe_int (fun _ _ => rfl)) (pe_ix ix_list (pv 1) (pv 2) (fun _ _ => rfl)) (nomark _)))))))
    (pss_one (ps_ret pe_bl))
    pss_nil)))
  (pss_cons (ps_for PassesOwn.never rfl (pi_list (pe_lst (pa_cons pe_str (pa_cons pe_str (pa_cons pe_str (pa_cons pe_str (pa_cons pe_str (pa_cons pe_str pa_nil)))))))) (pg_name (i := 3) sc__law_table.nd rfl (Or.inl rfl))
    (pss_one (ps_if (pt_not (pt_val (pe_call G__law_all_whole (hr.mono (by decide)) (by rfl) T.d__law_all_whole.g T.d__law_all_whole.k b__law_all_whole .nil pass0 (pa_cons (pe_lst (pa_cons (pe_call G_operand_limit (hr.mono (by decide)) (by rfl) T.d_operand_limit.g T.d_operand_limit.k b_operand_limit .nil pass0 (pa_cons (pv 3) pa_nil)) pa_nil)) (pa_cons (pe_lst (pa_cons (pe_call G__law_limit (hr.mono (by decide)) (by rfl) T.d__law_limit.g T.d__law_limit.k b__law_limit .nil pass0 (pa_cons (pv 3) pa_nil)) pa_nil)) pa_nil)))))
    (pss_one (ps_ret pe_bl))
    pss_nil)))
  (pss_one (ps_ret pe_bl))))))), ?_⟩
    refine ⟨rfl, fun H1 p1 s1 n1 h1 => ⟨rfl, fun H2 p2 s2 n2 h2 => ?_⟩⟩
    have s12 := s1.trans s2
    have h1' := s2 _ _ h1
    refine ⟨_, _, _, _, _, rfl, .ty "tuple", tyT (hO H2), T.i_tup, _, rfl, ?_⟩
    refine ⟨A.OPS, _, rfl, .inr (hO H2), rfl, _, rfl, ?_⟩
    rw [List.length_map, l19]
    refine ⟨19, rfl, by decide, by decide, for_it walk_r0 (fun _ σ H' => Same H2 H' ∧ ∃ v3 v4, σ = [some (.ref p1), some (.ref p2), v3, v4]) ⟨Same.refl _, _, _, rfl⟩ (fun _ _ _ _ _ => True.intro) ?_ ?_⟩
    · rintro k x σ H3 H4 hk ⟨sm, v3, v4, rfl⟩ ⟨rfl, rfl⟩
      have hk' : k < as.length := by omega
      have ea : as[k]? = some as[k] := List.getElem?_eq_getElem hk'
      have lo : k < opsL.length := by
        have l : opsL.length = 19 := by decide +kernel
        omega
      have eo : opsL[k]? = some opsL[k] := List.getElem?_eq_getElem lo
      obtain ⟨on, ok⟩ := ops_at eo
      have hp := hAt k _ _ ea eo H4
      have em : (as.map V.ref)[k]? = some (.ref as[k]) := by rw [List.getElem?_map, ea]; rfl
      have en : (nmL.map V.str)[k]? = some (.str opsL[k].1) := by rw [List.getElem?_map, on]; rfl
      have ek : (kdL.map V.str)[k]? = some (.str opsL[k].2) := by rw [List.getElem?_map, ok]; rfl
      have hn := SqL.of (K := K) (sm _ _ h1')
      have hkd := SqL.of (K := K) (sm _ _ h2)
      refine ⟨_, rfl, A.OPS, _, _, _, rfl, rfl, hO H4, atI_nat em, _, _, _, _, _, rfl, .ty "tuple", tyT hp, T.i_tup, _, rfl, ?_⟩
      refine ⟨_, rfl, A.OPS, _, _, _, rfl, rfl, hO H4, atI_nat em, as[k], _, rfl, .inr hp, rfl, _, rfl, ?_⟩
      refine ⟨_, rfl, A.OPS, _, _, _, rfl, rfl, hO H4, atI_nat em, as[k], _, 0, _, rfl, rfl, hp, rfl, _, rfl, _, rfl, p1, _, _, _, rfl, rfl, hn, atI_nat en, rfl, _, rfl, ?_⟩
      refine ite2 (fun h => absurd h (by simp)) (fun _ => ?_)
      refine ⟨_, rfl, A.OPS, _, _, _, rfl, rfl, hO H4, atI_nat em, as[k], _, 1, _, rfl, rfl, hp, rfl, _, rfl, _, rfl, p2, _, _, _, rfl, rfl, hkd, atI_nat ek, rfl, _, rfl, ?_⟩
      refine ite2 (fun h => absurd h (by simp)) (fun _ => ?_)
      exact ⟨sm, _, _, rfl⟩
    · rintro σ H3 ⟨sm, v3, v4, rfl⟩
      refine ⟨(by show 6 ≤ sizeLine; decide), fun p3 n3 => ?_⟩
      have s3 := same_new (o := .lst (ltL.map fun c => V.str ⟨#[c]⟩)) sm n3
      refine ⟨p3, rfl, ⟨_, SqL.of upd_same⟩, for_it (walk_list (xs := ltL.map fun c => V.str ⟨#[c]⟩)) (fun _ σ H' => Same (upd H3 p3 (.lst (ltL.map fun c => V.str ⟨#[c]⟩))) H' ∧ ∃ v3 v4, σ = [some (.ref p1), some (.ref p2), v3, v4]) ⟨Same.refl _, _, _, rfl⟩ (fun _ _ _ _ h => same_sqL h.1 (SqL.of upd_same)) ?_ ?_⟩
      · rintro m x σ H5 H6 hm ⟨sm5, v3, v4, rfl⟩ ⟨rfl, ex⟩
        rw [List.getElem?_map] at ex
        obtain ⟨c, hc, rfl⟩ := Option.map_eq_some_iff.mp ex
        have hl : Letter c := List.mem_of_getElem? hc
        refine ⟨_, rfl, c, rfl, hl, (by show 1 ≤ sizeLine; decide), fun p np => ?_⟩
        refine ⟨_, rfl, c, rfl, hl, (by show 1 ≤ sizeLine; decide), fun r nr => ?_⟩
        have hrp : r ≠ p := fun e => by rw [e, upd_same] at nr; cases nr
        refine ⟨p, r, [limC c], rfl, .inl ⟨SqL.of (by rw [upd_ne (Ne.symm hrp), upd_same]; rfl), SqL.of upd_same⟩, _, rfl, ?_⟩
        exact ⟨same_new (same_new sm5 np) nr, _, _, rfl⟩
      · rintro σ H5 ⟨sm5, v3, v4, rfl⟩
        exact q _ (s12.trans (s3.trans sm5))
end
end P86
namespace P86
open PySem L2 Xg
section
variable {P : Program} {w : World} {K : PySem.W.Frag} {mg : Str → Option Value} {base : Heap} {A : Ad} {B : Al}
theorem ok__law_decoded {fd : FuncData} (F : Fun K "_law_decoded" "_law_decoded" S__law_decoded B._law_decoded fd) (T : Tl P w K mg A B) : FnOk P w K mg base CX0 2 B._law_decoded fd ["_law_numbers"] (spDec K) := by
  obtain ⟨fd1, F1, b__law_names⟩ := T.d__law_names.ex
  have G__law_names : FnOk P w K mg base CX0 1 B._law_names fd1 [] (spStrs nmL) := ok__law_names F1 T
  obtain ⟨fd2, F2, b__law_kinds⟩ := T.d__law_kinds.ex
  have G__law_kinds : FnOk P w K mg base CX0 1 B._law_kinds fd2 [] (spStrs kdL) := ok__law_kinds F2 T
  obtain ⟨fd3, F3, b__law_limit⟩ := T.d__law_limit.ex
  have G__law_limit : FnOk P w K mg base CX0 1 B._law_limit fd3 ["_law_kind"] spLim := ok__law_limit F3 T
  refine F.ok sc__law_decoded (fun vs H Q E h => ?_) (fun cdv A' outer s H vs Q E hr h => ?_)
  · obtain ⟨a, ns, rfl, _⟩ := h
    rfl
  · obtain ⟨a, ns, rfl, hS, hl, hp, hno, hyes⟩ := h
    refine ⟨_, (pss_cons (ps_if (PW.pt (pw_or (pt_cmpR op_eq (pe_callB call_len_seq (by rfl) T.n_len PySem.boot_len (pa_cons (pv 0) pa_nil)) pe_int (nomark _)) (pw_or1 (pt_cmpR op_gt (pe_ix ix_list (pv 0) pe_int (fun _ _ => rfl)) pe_int (nomark _)))))
    (pss_one (ps_ret pe_non))
    pss_nil)
  (pss_cons (ps_set (i := 1) sc__law_decoded.nd rfl (Or.inr rfl) (pe_ix ix_list (pe_call0 G__law_kinds (hr.mono (by decide)) (by rfl) T.d__law_kinds.g T.d__law_kinds.k b__law_kinds .nil pass0) (pe_ix ix_list (pv 0) pe_int (fun _ _ => rfl)) (fun _ _ => rfl)))
  (pss_cons (ps_if (pt_cmpR op_le (pe_callB call_len_seq (by rfl) T.n_len PySem.boot_len (pa_cons (pv 0) pa_nil)) (pe_callB call_len_str (by rfl) T.n_len PySem.boot_len (pa_cons (pv 1) pa_nil)) (nomark _))
    (pss_one (ps_ret pe_non))
    pss_nil)
  (pss_cons (ps_setLc (i := 2) (own := [("_law_k", 3)]) (g := gName 3) (tt := tYes) rfl sc__law_decoded.nd rfl rfl (sw_true rfl rfl rfl (by decide +kernel)) (pi_range1 (by rfl) T.n_range (pa_cons (pe_callB call_len_str (by rfl) T.n_len PySem.boot_len (pa_cons (pv 1) pa_nil)) pa_nil)) (blkOk_by (N := ["_law_numbers", "_law_letters", "_law_operands", "_law_k"]) (sc := defScope S__law_decoded) (by decide +kernel)) (fun _ _ _ _ _ => (by exact (pg_name (i := 3) sc__law_decoded.nd rfl (Or.inl rfl)))) (fun _ _ _ _ _ => (by exact pts_nil)) (fun _ _ _ _ _ => (by exact (pe_op op_mod (pe_callTy call_int1 (by rfl) T.n_int (by decide +kernel) (pa_cons (pe_ix (show IxR _ (rIxL K) from ix_list) (pv 0) (pe_op op_add pe_int (pv 3)) (fun _ _ => rfl)) pa_nil)) (pe_call G__law_limit (hr.mono (by decide)) (by rfl) T.d__law_limit.g T.d__law_limit.k b__law_limit .nil pass0 (pa_cons (pe_ix ix_str (pv 1) (pv 3) (fun _ _ => rfl)) pa_nil))))))
  (pss_one (ps_ret (pe_tup (pa_cons (pe_ix ix_list (pe_call0 G__law_names (hr.mono (by decide)) (by rfl) T.d__law_names.g T.d__law_names.k b__law_names .nil pass0) (pe_ix ix_list (pv 0) pe_int (fun _ _ => rfl)) (fun _ _ => rfl)) (pa_cons (pe_callTy call_tuple_of (by rfl) T.n_tuple (by decide +kernel) (pa_cons (pv 2) pa_nil)) pa_nil))))))))), ?_⟩
    refine ⟨_, rfl, a, ns.map V.int, rfl, .inl hS, rfl, _, rfl, ?_⟩
    show if decide (V.int ((ns.map V.int).length : Nat) = V.int 0) = true then _ else _
    rw [List.length_map]
    refine ite2 (fun c => ?_) (fun c => ?_)
    · have c' : ns.length = 0 := by simpa using c
      refine iteT (hno ?_ H (Same.refl H))
      unfold dec
      rw [if_pos c']
    have c' : ¬ ns.length = 0 := by simpa using c
    have m0 : ns.getD 0 0 ∈ ns := by
      have hk : 0 < ns.length := by omega
      have e : ns.getD 0 0 = ns[0] := by simp [List.getD, List.getElem?_eq_getElem hk]
      rw [e]
      exact List.getElem_mem hk
    have n0 : 0 ≤ ns.getD 0 0 := hp _ m0
    have at0 : atI (ns.map V.int) 0 = some (.int (ns.getD 0 0)) := atI_int (i := 0) (by omega) (by omega)
    refine ⟨_, rfl, a, _, 0, _, rfl, rfl, hS, at0, _, _, rfl, rfl, _, rfl, ite2 (fun d => ?_) (fun d => ?_)⟩
    · have d' : 18 < ns.getD 0 0 := of_decide_eq_true d
      refine hno ?_ H (Same.refl H)
      unfold dec
      rw [if_neg c', if_pos (by omega)]
    have d' : ¬ 19 ≤ ns.getD 0 0 := by
      have : ¬ 18 < ns.getD 0 0 := fun z => d (decide_eq_true z)
      omega
    obtain ⟨i, hi⟩ := Int.eq_ofNat_of_zero_le n0
    have i19 : i < 19 := by omega
    have et : (ns.getD 0 0).toNat = i := by omega
    rw [hi] at at0
    refine ⟨rfl, fun H1 p1 s1 n1 h1 => ?_⟩
    have hS1 := same_sqL s1 hS
    refine ⟨_, rfl, a, _, 0, _, rfl, rfl, hS1, at0, p1, _, _, .str (kdI i), rfl, rfl, SqL.of h1, atI_nat (by rw [List.getElem?_map, kd_I i19]; rfl), ?_⟩
    have szk : (kdI i).length ≤ sizeLine := sz1000 (Nat.le_trans (kd_len i19) (by decide))
    refine ⟨_, rfl, a, _, rfl, .inl hS1, _, rfl, _, rfl, szk, _, _, rfl, rfl, _, rfl, ?_⟩
    rw [List.length_map]
    refine ite2 (fun f => ?_) (fun f => ?_)
    · have f' : ns.length ≤ (kdI i).length := by
        have q : ((ns.length : Int) ≤ ((kdI i).length : Int)) := by simpa using f
        omega
      refine hno ?_ H1 s1
      unfold dec
      rw [if_neg c', if_neg d', et, if_pos f']
    have f' : ¬ ns.length ≤ (kdI i).length := fun q => f (decide_eq_true (by omega))
    have hd : dec ns = some (nmI i, opv (ns.drop 1) (kdI i)) := by
      unfold dec
      rw [if_neg c', if_neg d', et, if_neg f']
    have kl := kd_len i19
    have lk : (opv (ns.drop 1) (kdI i)).length = (kdI i).length := by
      unfold opv
      rw [List.length_zipWith, List.length_drop]
      show min (ns.length - 1) (kdI i).length = (kdI i).length
      omega
    refine ⟨_, rfl, _, rfl, szk, _, rfl, (by omega), (by omega), ?_⟩
    rw [Int.toNat_natCast]
    refine fun D nD => lc_it walk_r0 (fun j H' => Same H1 H' ∧ H' D = some (.lst (((opv (ns.drop 1) (kdI i)).take j).map V.int))) ⟨same_new (Same.refl H1) nD, by rw [upd_same]; rfl⟩ (fun _ _ _ _ => True.intro) ?_ ?_
    · rintro j x H2 H3 hj ⟨sm, hD⟩ ⟨rfl, rfl⟩
      have hkk : j < (kdI i).cps.toList.length := hj
      have hc : (kdI i).cps.toList[j]? = some (kdI i).cps.toList[j] := List.getElem?_eq_getElem hkk
      have hlt : Letter (kdI i).cps.toList[j] := kd_letter i19 _ (List.getElem_mem hkk)
      have hz : (opv (ns.drop 1) (kdI i))[j]? = some (ns.getD (1 + j) 0 % limC (kdI i).cps.toList[j]) := by
        unfold opv
        have e : (ns.drop 1)[j]? = some (ns.getD (1 + j) 0) := by
          rw [List.getElem?_drop, List.getD, List.getElem?_eq_getElem (show 1 + j < ns.length by omega)]
          rfl
        rw [List.getElem?_zipWith, e, hc]
      have hS2 := same_sqL sm hS1
      refine ⟨rfl, ?_⟩
      refine ⟨_, rfl, _, rfl, _, _, rfl, rfl, a, _, _, _, rfl, rfl, hS2, atI_int (by omega) (by omega), .inl ⟨_, rfl, _, rfl, _, rfl, _, _, _, rfl, rfl, szk, atI_nat hc, _, rfl, hlt, _, _, rfl, rfl, limC_pos _, ?_⟩⟩
      have e1 : (1 + (j : Int)).toNat = 1 + j := by omega
      rw [e1]
      refine ⟨_, hD, lt1000 (by rw [List.length_map, List.length_take]; omega), same_mut sm nD, ?_⟩
      rw [upd_same, take_next hz, List.map_append]
      rfl
    · rintro H2 ⟨sm, hD⟩
      rw [← lk, List.take_length] at hD
      have hS2 := same_sqL sm hS1
      refine ⟨rfl, fun H3 p3 s3 n3 h3 => ?_⟩
      have hS3 := same_sqL s3 hS2
      refine ⟨_, rfl, a, _, 0, _, rfl, rfl, hS3, at0, p3, _, _, .str (nmI i), rfl, rfl, SqL.of h3, atI_nat (by rw [List.getElem?_map, nm_I i19]; rfl), ?_⟩
      refine ⟨_, rfl, D, _, rfl, .inl ⟨SqL.of (s3 _ _ hD), fun q nq => ⟨(by show 2 ≤ sizeLine; decide), fun r nr => ?_⟩⟩⟩
      have hrq : r ≠ q := fun e => by
        rw [e, upd_same] at nr
        cases nr
      exact hyes _ _ hd _ r q (same_new (same_new (s1.trans (sm.trans s3)) nq) nr) upd_same (by rw [upd_ne (Ne.symm hrq), upd_same])
end
end P86
namespace P86
open PySem L2 Xg
def spLaw (K : PySem.W.Frag) : Sp := fun vs H Q _ => ∃ (a : Addr) (ns : List Int), vs = [.ref a] ∧ SqL K H a (ns.map V.int) ∧ ns.length ≤ 63 ∧ ∀ H', Q (.bl true) H'
/-- the operands that the row tells -/
def opF (row : List Int) (i : Nat) : Nat → Int := fun k => pick row (2 + 2 * (k : Int)) (limC ((kdI i).cps.toList.getD k 0))
def rgI (n : Nat) (f : Nat → Int) : List Int := (List.range n).map f
theorem rgI_len (n : Nat) (f : Nat → Int) : (rgI n f).length = n := by simp [rgI]
theorem rgI_get {n k : Nat} {f : Nat → Int} (h : k < n) : (rgI n f)[k]? = some (f k) := by
  unfold rgI
  rw [List.getElem?_map, List.getElem?_range h]
  rfl
theorem rgI_take (n : Nat) (f : Nat → Int) : (rgI n f).take n = rgI n f := by
  rw [List.take_of_length_le (by rw [rgI_len]; omega)]
theorem rgI_mem {n : Nat} {f : Nat → Int} {x : Int} (h : x ∈ rgI n f) : ∃ k, k < n ∧ x = f k := by
  unfold rgI at h
  obtain ⟨k, hk, e⟩ := List.mem_map.mp h
  exact ⟨k, List.mem_range.mp hk, e.symm⟩
theorem kd_at {i k : Nat} (h : k < (kdI i).length) : (kdI i).cps.toList[k]? = some ((kdI i).cps.toList.getD k 0) := by
  have h' : k < (kdI i).cps.toList.length := h
  rw [List.getD, List.getElem?_eq_getElem h']
  rfl
theorem enc_op {row : List Int} {i : Nat} (h : i < 19) : EncOk i (nmI i) (rgI (kdI i).length (opF row i)) := by
  refine ⟨nm_I h, rgI_len _ _, fun k c o hc ho => ?_⟩
  have hk : k < (kdI i).length := (List.getElem?_eq_some_iff.mp hc).1
  rw [rgI_get hk] at ho
  rw [kd_at hk] at hc
  cases ho
  cases hc
  exact ⟨pick_lo (limC_pos _), pick_hi (limC_pos _)⟩
theorem opv_enc {i : Nat} {z : Str} {ops more : List Int} (e : EncOk i z ops) : opv (ops ++ more) (kdI i) = ops := by
  apply List.ext_getElem?
  intro k
  unfold opv
  rw [List.getElem?_zipWith]
  by_cases hk : k < ops.length
  · have hk' : k < (kdI i).cps.toList.length := by have := e.len; show k < (kdI i).length; omega
    have h1 : (ops ++ more)[k]? = some ops[k] := by rw [List.getElem?_append_left hk, List.getElem?_eq_getElem hk]
    have h2 := List.getElem?_eq_getElem hk'
    have h3 := List.getElem?_eq_getElem hk
    have h4 := e.fit k _ _ h2 h3
    rw [h1, h2, h3]
    show some (ops[k] % limC _) = some ops[k]
    rw [Int.emod_eq_of_lt h4.1 h4.2]
  · have hk' : (kdI i).cps.toList[k]? = none := List.getElem?_eq_none (by have := e.len; show (kdI i).length ≤ k; omega)
    have h5 : ops[k]? = none := List.getElem?_eq_none (by omega)
    rw [hk', h5]
    cases (ops ++ more)[k]? <;> rfl
theorem dec_yes {i : Nat} {z : Str} {ops more : List Int} (h : i < 19) (e : EncOk i z ops) : dec ((i : Int) :: (ops ++ more)) = some (nmI i, ops) := by
  unfold dec
  have l : (((i : Int) :: (ops ++ more)).getD 0 0) = (i : Int) := rfl
  have ll : ((i : Int) :: (ops ++ more)).length = ops.length + more.length + 1 := by rw [List.length_cons, List.length_append]
  rw [l, Int.toNat_natCast, if_neg (by omega), if_neg (by omega), if_neg (by rw [ll, ← e.len]; omega)]
  show some (nmI i, opv (ops ++ more) (kdI i)) = _
  rw [opv_enc e]
theorem dec_no {i : Nat} {z : Str} {ops : List Int} (h : i < 19) (e : EncOk i z ops) (h0 : 0 < ops.length) : dec (((i : Int) :: ops).take ops.length) = none := by
  unfold dec
  obtain ⟨m, hm⟩ : ∃ m, ops.length = m + 1 := ⟨ops.length - 1, by omega⟩
  rw [hm, List.take_succ_cons]
  have l : (((i : Int) :: ops.take m).getD 0 0) = (i : Int) := rfl
  have ll : ((i : Int) :: ops.take m).length = m + 1 := by rw [List.length_cons, List.length_take, hm]; omega
  rw [l, Int.toNat_natCast, if_neg (by omega), if_neg (by omega), if_pos (by rw [ll, ← e.len, hm]; omega)]
abbrev unkL : List Str := ["", "Halt", "halt ", "jmp", "sets", "se", "0", "none"]
theorem unk_ok : ∀ z ∈ unkL, z.length ≤ 1000 ∧ z ∉ nmL := by decide +kernel
theorem two_ways {S R : Hp → Prop} {G : Prop} (rest : ∀ H, S H → R H) (k : (∀ H, S H → R H) → G) : G := k rest
section
variable {P : Program} {w : World} {K : PySem.W.Frag} {mg : Str → Option Value} {base : Heap} {A : Ad} {B : Al}
theorem ok_law {fd : FuncData} {f : Addr} (F : Fun K "law" "law" S_law f fd) (T : Tl P w K mg A B) : FnOk P w K mg base CX0 9 f fd ["_law_script"] (spLaw K) := by
  obtain ⟨fa1, Fa1, b__law_row⟩ := T.d__law_row.ex
  have G__law_row : FnOk P w K mg base CX0 1 B._law_row fa1 ["_law_script", "_law_most"] (spRow K) := ok__law_row Fa1 T
  obtain ⟨fa2, Fa2, b__law_pick⟩ := T.d__law_pick.ex
  have G__law_pick : FnOk P w K mg base CX0 1 B._law_pick fa2 ["_law_row_here", "_law_at", "_law_limit_here"] (spPick K) := ok__law_pick Fa2 T
  obtain ⟨fa3, Fa3, b__law_names⟩ := T.d__law_names.ex
  have G__law_names : FnOk P w K mg base CX0 1 B._law_names fa3 [] (spStrs nmL) := ok__law_names Fa3 T
  obtain ⟨fa4, Fa4, b__law_kinds⟩ := T.d__law_kinds.ex
  have G__law_kinds : FnOk P w K mg base CX0 1 B._law_kinds fa4 [] (spStrs kdL) := ok__law_kinds Fa4 T
  obtain ⟨fa5, Fa5, b__law_limit⟩ := T.d__law_limit.ex
  have G__law_limit : FnOk P w K mg base CX0 1 B._law_limit fa5 ["_law_kind"] spLim := ok__law_limit Fa5 T
  obtain ⟨fa6, Fa6, b__law_all_whole⟩ := T.d__law_all_whole.ex
  have G__law_all_whole : FnOk P w K mg base CX0 2 B._law_all_whole fa6 ["_law_values", "_law_expected"] (spAll K) := ok__law_all_whole Fa6 T
  obtain ⟨fa7, Fa7, b__law_same⟩ := T.d__law_same.ex
  have G__law_same : FnOk P w K mg base CX0 2 B._law_same fa7 ["_law_actual", "_law_expected"] (spSame K) := ok__law_same Fa7 T
  obtain ⟨fa8, Fa8, b__law_decoded⟩ := T.d__law_decoded.ex
  have G__law_decoded : FnOk P w K mg base CX0 2 B._law_decoded fa8 ["_law_numbers"] (spDec K) := ok__law_decoded Fa8 T
  obtain ⟨fa9, Fa9, b__law_reads⟩ := T.d__law_reads.ex
  have G__law_reads : FnOk P w K mg base CX0 1 B._law_reads fa9 ["_law_name", "_law_operands"] (spReads K) := ok__law_reads Fa9 T
  obtain ⟨fa10, Fa10, b__law_made⟩ := T.d__law_made.ex
  have G__law_made : FnOk P w K mg base CX0 5 B._law_made fa10 ["_law_name", "_law_operands"] (spMadeL K) := ok__law_made Fa10 T
  obtain ⟨fa11, Fa11, b__law_questions⟩ := T.d__law_questions.ex
  have G__law_questions : FnOk P w K mg base CX0 7 B._law_questions fa11 ["_law_name"] spQues := ok__law_questions Fa11 T
  obtain ⟨fa12, Fa12, b__law_table⟩ := T.d__law_table.ex
  have G__law_table : FnOk P w K mg base CX0 3 B._law_table fa12 [] spTable := ok__law_table Fa12 T
  obtain ⟨fa13, Fa13, b__law_unknown⟩ := T.d__law_unknown.ex
  have G__law_unknown : FnOk P w K mg base CX0 8 B._law_unknown fa13 ["_law_name"] spUnk := ok__law_unknown Fa13 T
  obtain ⟨fa14, Fa14, b__law_wrong_operands⟩ := T.d__law_wrong_operands.ex
  have G__law_wrong_operands : FnOk P w K mg base CX0 6 B._law_wrong_operands fa14 ["_law_name", "_law_letters", "_law_operands"] (spWrong K) := ok__law_wrong_operands Fa14 T
  obtain ⟨fb1, Fb1, b_encode⟩ := T.d_encode.ex
  have G_encode : FnOk P w K mg base (L2.CX P w) 4 A.encode fb1 ["name", "operands"] (spEnc K A) := ok_encode Fb1 T.toTp
  obtain ⟨fb2, Fb2, b_decode⟩ := T.d_decode.ex
  have G_decode : FnOk P w K mg base CX0 2 A.decode fb2 ["numbers"] (spDec K) := ok_decode Fb2 T.toTp
  obtain ⟨fb3, Fb3, b_op_number⟩ := T.d_op_number.ex
  have G_op_number : FnOk P w K mg base (L2.CX P w) 3 A.op_number fb3 ["name"] (spOpn A) := ok_op_number Fb3 T.toTp
  obtain ⟨fb4, Fb4, b_size_of⟩ := T.d_size_of.ex
  have G_size_of : FnOk P w K mg base (L2.CX P w) 5 A.size_of fb4 ["name"] (spSize A) := ok_size_of Fb4 T.toTp
  obtain ⟨fb5, Fb5, b_operand_kinds⟩ := T.d_operand_kinds.ex
  have G_operand_kinds : FnOk P w K mg base (L2.CX P w) 4 A.operand_kinds fb5 ["name"] (spKinds A) := ok_operand_kinds Fb5 T.toTp
  obtain ⟨fb6, Fb6, b_values_read⟩ := T.d_values_read.ex
  have G_values_read : FnOk P w K mg base (L2.CX P w) 4 A.values_read fb6 ["name", "operands"] (spRead K A) := ok_values_read Fb6 T.toTp
  refine F.ok sc_law (fun vs H Q E h => ?_) (fun cdv A' outer s H vs Q E hr h => ?_)
  · obtain ⟨a, ns, rfl, _⟩ := h
    rfl
  · obtain ⟨a, ns, rfl, hS, hl, q⟩ := h
    refine ⟨_, (pss_cons (ps_set (i := 1) sc_law.nd rfl (Or.inr rfl) (pe_call G__law_row (hr.mono (by decide)) (by rfl) T.d__law_row.g T.d__law_row.k b__law_row .nil pass0 (pa_cons (pv 0) (pa_cons pe_int pa_nil))))
  (pss_cons (ps_set (i := 2) sc_law.nd rfl (Or.inl rfl) (pe_call G__law_pick (hr.mono (by decide)) (by rfl) T.d__law_pick.g T.d__law_pick.k b__law_pick .nil pass0 (pa_cons (pv 1) (pa_cons pe_int (pa_cons pe_int pa_nil)))))
  (pss_cons (ps_set (i := 3) sc_law.nd rfl (Or.inl rfl) (pe_ix ix_list (pe_call0 G__law_names (hr.mono (by decide)) (by rfl) T.d__law_names.g T.d__law_names.k b__law_names .nil pass0) (pv 2) (fun _ _ => rfl)))
  (pss_cons (ps_set (i := 4) sc_law.nd rfl (Or.inr rfl) (pe_ix ix_list (pe_call0 G__law_kinds (hr.mono (by decide)) (by rfl) T.d__law_kinds.g T.d__law_kinds.k b__law_kinds .nil pass0) (pv 2) (fun _ _ => rfl)))
  (pss_cons (ps_setLc (i := 5) (own := [("_law_k", 12)]) (g := gName 12) (tt := tYes) rfl sc_law.nd rfl rfl (sw_true rfl rfl rfl (by decide +kernel)) (pi_range1 (by rfl) T.n_range (pa_cons (pe_callB call_len_str (by rfl) T.n_len PySem.boot_len (pa_cons (pv 4) pa_nil)) pa_nil)) (blkOk_by (N := ["_law_script", "_law_row_here", "_law_index", "_law_name", "_law_letters", "_law_operands", "_law_numbers", "_law_behind", "_law_free", "_law_kept", "_law_sizes", "_law_reads_here", "_law_k"]) (sc := defScope S_law) (by decide +kernel)) (fun _ _ _ _ _ => (by exact (pg_name (i := 12) sc_law.nd rfl (Or.inl rfl)))) (fun _ _ _ _ _ => (by exact pts_nil)) (fun _ _ _ _ _ => (by exact (pe_call G__law_pick (hr.mono (by decide)) (by rfl) T.d__law_pick.g T.d__law_pick.k b__law_pick .nil pass0 (pa_cons (pv 1) (pa_cons (pe_op op_add pe_int (pe_op op_mul pe_int (pv 12))) (pa_cons (pe_call G__law_limit (hr.mono (by decide)) (by rfl) T.d__law_limit.g T.d__law_limit.k b__law_limit .nil pass0 (pa_cons (pe_ix ix_str (pv 4) (pv 12) (fun _ _ => rfl)) pa_nil)) pa_nil)))))))
  (pss_cons (ps_set (i := 6) sc_law.nd rfl (Or.inl rfl) (pe_call G_encode (hr.mono (by decide)) (by rfl) T.d_encode.g T.d_encode.k b_encode .nil passL (pa_cons (pv 3) (pa_cons (pe_callTy call_tuple_of (by rfl) T.n_tuple (by decide +kernel) (pa_cons (pv 5) pa_nil)) pa_nil))))
  (pss_cons (ps_if (PW.pt (pw_or (pt_not (pt_val (pe_callB call_isi (by rfl) T.n_isinstance (by decide +kernel) (pa_cons (pv 6) (pa_cons (pe_bltn (v := .ty "list") (by rfl) T.n_list (by decide +kernel) rfl) pa_nil))))) (pw_or1 (pt_not (pt_val (pe_call G__law_all_whole (hr.mono (by decide)) (by rfl) T.d__law_all_whole.g T.d__law_all_whole.k b__law_all_whole .nil pass0 (pa_cons (pv 6) (pa_cons (pe_op op_cat (pe_lst (pa_cons (pv 2) pa_nil)) (pv 5)) pa_nil))))))))
    (pss_one (ps_ret pe_bl))
    pss_nil)
  (pss_cons (ps_setLc (i := 7) (own := [("_law_k", 12)]) (g := gName 12) (tt := tYes) rfl sc_law.nd rfl rfl (sw_true rfl rfl rfl (by decide +kernel)) (pi_range1 (by rfl) T.n_range (pa_cons (pe_call G__law_pick (hr.mono (by decide)) (by rfl) T.d__law_pick.g T.d__law_pick.k b__law_pick .nil pass0 (pa_cons (pv 1) (pa_cons pe_int (pa_cons pe_int pa_nil)))) pa_nil)) (blkOk_by (N := ["_law_script", "_law_row_here", "_law_index", "_law_name", "_law_letters", "_law_operands", "_law_numbers", "_law_behind", "_law_free", "_law_kept", "_law_sizes", "_law_reads_here", "_law_k"]) (sc := defScope S_law) (by decide +kernel)) (fun _ _ _ _ _ => (by exact (pg_name (i := 12) sc_law.nd rfl (Or.inl rfl)))) (fun _ _ _ _ _ => (by exact pts_nil)) (fun _ _ _ _ _ => (by exact (pe_call G__law_pick (hr.mono (by decide)) (by rfl) T.d__law_pick.g T.d__law_pick.k b__law_pick .nil pass0 (pa_cons (pv 1) (pa_cons (pe_op op_add pe_int (pe_op op_mul pe_int (pv 12))) (pa_cons pe_int pa_nil)))))))
  (pss_cons (ps_if (pt_not (pt_val (pe_call G__law_same (hr.mono (by decide)) (by rfl) T.d__law_same.g T.d__law_same.k b__law_same .nil pass0 (pa_cons (pe_call G_decode (hr.mono (by decide)) (by rfl) T.d_decode.g T.d_decode.k b_decode .nil pass0 (pa_cons (pe_op op_cat (pe_op op_cat (pe_lst (pa_cons (pv 2) pa_nil)) (pv 5)) (pv 7)) pa_nil)) (pa_cons (pe_tup (pa_cons (pv 3) (pa_cons (pe_callTy call_tuple_of (by rfl) T.n_tuple (by decide +kernel) (pa_cons (pv 5) pa_nil)) pa_nil))) pa_nil)))))
    (pss_one (ps_ret pe_bl))
    pss_nil)
  (pss_cons (ps_if (PW.pt (pw_and (pt_cmpR op_gt (pe_callB call_len_seq (by rfl) T.n_len PySem.boot_len (pa_cons (pv 5) pa_nil)) pe_int (nomark _)) (pw_and1 (pt_cmpR op_notN (pe_call G_decode (hr.mono (by decide)) (by rfl) T.d_decode.g T.d_decode.k b_decode .nil pass0 (pa_cons (pe_slice sl_list (pe_op op_cat (pe_lst (pa_cons (pv 2) pa_nil)) (pv 5)) po_none (po_some (pe_callB call_len_seq (by rfl) T.n_len PySem.boot_len (pa_cons (pv 5) pa_nil)))) pa_nil)) pe_non (nomark _)))))
    (pss_one (ps_ret pe_bl))
    pss_nil)
  (pss_cons (ps_setLc (i := 8) (own := [("_law_k", 12)]) (g := gName 12) (tt := tYes) rfl sc_law.nd rfl rfl (sw_true rfl rfl rfl (by decide +kernel)) (pi_range1 (by rfl) T.n_range (pa_cons (pe_call G__law_pick (hr.mono (by decide)) (by rfl) T.d__law_pick.g T.d__law_pick.k b__law_pick .nil pass0 (pa_cons (pv 1) (pa_cons pe_int (pa_cons pe_int pa_nil)))) pa_nil)) (blkOk_by (N := ["_law_script", "_law_row_here", "_law_index", "_law_name", "_law_letters", "_law_operands", "_law_numbers", "_law_behind", "_law_free", "_law_kept", "_law_sizes", "_law_reads_here", "_law_k"]) (sc := defScope S_law) (by decide +kernel)) (fun _ _ _ _ _ => (by exact (pg_name (i := 12) sc_law.nd rfl (Or.inl rfl)))) (fun _ _ _ _ _ => (by exact pts_nil)) (fun _ _ _ _ _ => (by exact (pe_call G__law_pick (hr.mono (by decide)) (by rfl) T.d__law_pick.g T.d__law_pick.k b__law_pick .nil pass0 (pa_cons (pv 1) (pa_cons (pe_op op_add pe_int (pe_op op_mul pe_int (pv 12))) (pa_cons pe_int pa_nil)))))))
  (pss_cons (ps_if (PW.pt (pw_and (pt_cmpR op_gt (pe_callB call_len_seq (by rfl) T.n_len PySem.boot_len (pa_cons (pv 8) pa_nil)) pe_int (nomark _)) (pw_and1 (pt_cmpR op_eq (pe_call G__law_pick (hr.mono (by decide)) (by rfl) T.d__law_pick.g T.d__law_pick.k b__law_pick .nil pass0 (pa_cons (pv 1) (pa_cons pe_int (pa_cons pe_int pa_nil)))) pe_int (nomark _)))))
    (pss_one (ps_asg (pe_op op_mod (pe_callTy call_int1 (by rfl) T.n_int (by decide +kernel) (pa_cons (pe_ix ix_list (pv 8) pe_int (fun _ _ => rfl)) pa_nil)) pe_int) (pg_sub (pv 8) pe_int set_list)))
    pss_nil)
  (pss_cons (ps_set (i := 9) sc_law.nd rfl (Or.inl rfl) (pe_callTy call_list_of (by rfl) T.n_list (by decide +kernel) (pa_cons (pv 8) pa_nil)))
  (pss_cons (ps_if (PW.pt (pw_or (pt_not (pt_val (pe_call G__law_same (hr.mono (by decide)) (by rfl) T.d__law_same.g T.d__law_same.k b__law_same .nil pass0 (pa_cons (pe_call G_decode (hr.mono (by decide)) (by rfl) T.d_decode.g T.d_decode.k b_decode .nil pass0 (pa_cons (pv 8) pa_nil)) (pa_cons (pe_call G__law_decoded (hr.mono (by decide)) (by rfl) T.d__law_decoded.g T.d__law_decoded.k b__law_decoded .nil pass0 (pa_cons (pv 9) pa_nil)) pa_nil))))) (pw_or1 (pt_cmpR (op_neD hr.units) (pv 8) (pv 9) (nomark _)))))
    (pss_one (ps_ret pe_bl))
    pss_nil)
  (pss_cons (ps_set (i := 10) sc_law.nd rfl (Or.inl rfl) (pe_lst (pa_cons (pe_call G_op_number (hr.mono (by decide)) (by rfl) T.d_op_number.g T.d_op_number.k b_op_number .nil passL (pa_cons (pv 3) pa_nil)) (pa_cons (pe_call G_size_of (hr.mono (by decide)) (by rfl) T.d_size_of.g T.d_size_of.k b_size_of .nil passL (pa_cons (pv 3) pa_nil)) pa_nil))))
  (pss_cons (ps_if (PW.pt (pw_or (pt_not (pt_val (pe_call G__law_all_whole (hr.mono (by decide)) (by rfl) T.d__law_all_whole.g T.d__law_all_whole.k b__law_all_whole .nil pass0 (pa_cons (pv 10) (pa_cons (pe_lst (pa_cons (pv 2) (pa_cons (pe_op op_add pe_int (pe_callB call_len_str (by rfl) T.n_len PySem.boot_len (pa_cons (pv 4) pa_nil))) pa_nil))) pa_nil))))) (pw_or1 (pt_cmpR op_ne (pe_call G_operand_kinds (hr.mono (by decide)) (by rfl) T.d_operand_kinds.g T.d_operand_kinds.k b_operand_kinds .nil passL (pa_cons (pv 3) pa_nil)) (pv 4) (nomark _)))))
    (pss_one (ps_ret pe_bl))
    pss_nil)
  (pss_cons (ps_set (i := 11) sc_law.nd rfl (Or.inl rfl) (pe_call G_values_read (hr.mono (by decide)) (by rfl) T.d_values_read.g T.d_values_read.k b_values_read .nil passL (pa_cons (pv 3) (pa_cons (pe_callTy call_tuple_of (by rfl) T.n_tuple (by decide +kernel) (pa_cons (pv 5) pa_nil)) pa_nil))))
  (pss_cons (ps_if (PW.pt (pw_or (pt_not (pt_val (pe_callB call_isi (by rfl) T.n_isinstance (by decide +kernel) (pa_cons (pv 11) (pa_cons (pe_bltn (v := .ty "tuple") (by rfl) T.n_tuple (by decide +kernel) rfl) pa_nil))))) (pw_or1 (pt_not (pt_val (pe_call G__law_all_whole (hr.mono (by decide)) (by rfl) T.d__law_all_whole.g T.d__law_all_whole.k b__law_all_whole .nil pass0 (pa_cons (pv 11) (pa_cons (pe_call G__law_reads (hr.mono (by decide)) (by rfl) T.d__law_reads.g T.d__law_reads.k b__law_reads .nil pass0 (pa_cons (pv 3) (pa_cons (pv 5) pa_nil))) pa_nil))))))))
    (pss_one (ps_ret pe_bl))
    pss_nil)
  (pss_cons (ps_if (PW.pt (pw_or (pt_not (pt_val (pe_call G__law_made (hr.mono (by decide)) (by rfl) T.d__law_made.g T.d__law_made.k b__law_made .nil pass0 (pa_cons (pv 3) (pa_cons (pe_callTy call_tuple_of (by rfl) T.n_tuple (by decide +kernel) (pa_cons (pv 5) pa_nil)) pa_nil))))) (pw_or (pt_not (pt_val (pe_call G__law_questions (hr.mono (by decide)) (by rfl) T.d__law_questions.g T.d__law_questions.k b__law_questions .nil pass0 (pa_cons (pv 3) pa_nil)))) (pw_or1 (pt_not (pt_val (pe_call0 G__law_table (hr.mono (by decide)) (by rfl) T.d__law_table.g T.d__law_table.k b__law_table .nil pass0)))))))
    (pss_one (ps_ret pe_bl))
    pss_nil)
  (pss_cons (ps_if (pt_not (pt_val (pe_call G__law_unknown (hr.mono (by decide)) (by rfl) T.d__law_unknown.g T.d__law_unknown.k b__law_unknown .nil pass0 (pa_cons (pe_ix ix_list (pe_lst (pa_cons pe_str (pa_cons pe_str (pa_cons pe_str (pa_cons pe_str (pa_cons pe_str (pa_cons pe_str (pa_cons pe_str (pa_cons pe_str pa_nil))))))))) (pe_call G__law_pick (hr.mono (by decide)) (by rfl) T.d__law_pick.g T.d__law_pick.k b__law_pick .nil pass0 (pa_cons (pv 1) (pa_cons pe_int (pa_cons pe_int pa_nil)))) (fun _ _ => rfl)) pa_nil))))
    (pss_one (ps_ret pe_bl))
    pss_nil)
  (pss_one (ps_ret (pe_call G__law_wrong_operands (hr.mono (by decide)) (by rfl) T.d__law_wrong_operands.g T.d__law_wrong_operands.k b__law_wrong_operands .nil pass0 (pa_cons (pv 3) (pa_cons (pv 4) (pa_cons (pv 5) pa_nil)))))))))))))))))))))))))), ?_⟩
    refine ⟨_, rfl, a, ns, 40, rfl, hS, hl, by decide, by decide, fun H1 p1 row s1 n1 h1 l1 d1 => ?_⟩
    refine ⟨_, rfl, p1, row, 0, 19, rfl, SqL.of h1, d1, by decide, by decide, by decide, ?_⟩
    obtain ⟨i, hi⟩ := Int.eq_ofNat_of_zero_le (pick_lo (row := row) (i := 0) (m := 19) (by decide))
    have i19 : i < 19 := by
      have := pick_hi (row := row) (i := 0) (m := 19) (by decide)
      omega
    rw [hi]
    refine ⟨rfl, fun H2 p2 s2 n2 h2 => ⟨_, rfl, p2, _, _, .str (nmI i), rfl, rfl, SqL.of h2, atI_nat (by rw [List.getElem?_map, nm_I i19]; rfl), ?_⟩⟩
    refine ⟨rfl, fun H3 p3 s3 n3 h3 => ⟨_, rfl, p3, _, _, .str (kdI i), rfl, rfl, SqL.of h3, atI_nat (by rw [List.getElem?_map, kd_I i19]; rfl), ?_⟩⟩
    have hrow := (s2.trans s3) _ _ h1
    have kl := kd_len i19
    have szk : (kdI i).length ≤ sizeLine := sz1000 (by omega)
    refine ⟨_, rfl, _, rfl, szk, _, rfl, (by omega), (by omega), fun D nD => ?_⟩
    rw [Int.toNat_natCast]
    refine lc_it walk_r0 (fun j H' => Same H3 H' ∧ H' D = some (.lst (((rgI (kdI i).length (opF row i)).take j).map V.int))) ⟨same_new (Same.refl H3) nD, by rw [upd_same]; rfl⟩ (fun _ _ _ _ => True.intro) ?_ ?_
    · rintro j x H4 H5 hj ⟨sm, hD⟩ ⟨rfl, rfl⟩
      have hc := kd_at hj
      have hlt : Letter ((kdI i).cps.toList.getD j 0) := kd_letter i19 _ (List.mem_of_getElem? hc)
      refine ⟨rfl, ?_⟩
      refine ⟨_, rfl, _, rfl, _, _, rfl, rfl, .inl ⟨by decide, by decide⟩, _, _, rfl, rfl, _, rfl, _, rfl, _, _, _, rfl, rfl, szk, atI_nat hc, _, rfl, hlt, ?_⟩
      refine ⟨p1, row, _, _, rfl, SqL.of (sm _ _ hrow), d1, by omega, by omega, limC_pos _, ?_⟩
      refine ⟨_, hD, lt1000 (by rw [List.length_map, List.length_take]; omega), same_mut sm nD, ?_⟩
      rw [upd_same, take_next (rgI_get hj), List.map_append]
      rfl
    rintro H4 ⟨s4, hD⟩
    rw [rgI_take] at hD
    have hE : EncOk i (nmI i) (rgI (kdI i).length (opF row i)) := enc_op i19
    have lo : (rgI (kdI i).length (opF row i)).length ≤ 2 := by rw [rgI_len]; exact kl
    generalize hops : rgI (kdI i).length (opF row i) = ops at hD hE lo
    have hrow4 := s4 _ _ hrow
    have zl := nm_len (nm_mem hE.nm)
    have ol := hE.len
    -- the numbers
    refine ⟨_, rfl, _, rfl, D, _, rfl, .inl ⟨SqL.of hD, fun t1 nt1 => ?_⟩⟩
    have st1 := same_new (o := .tup (ops.map V.int)) (Same.refl H4) nt1
    refine ⟨nmI i, t1, ops, rfl, zl, by omega, SqT.of upd_same, fun j ej H5 pN s5 nN hN => ?_, fun h => absurd hE (h i)⟩
    rw [nm_inj ej.nm hE.nm] at hN
    have s45 := st1.trans s5
    refine ⟨_, rfl, _, _, _, _, _, rfl, .ty "list", .base (.lst hN), T.i_list, _, rfl, ?_⟩
    refine ⟨_, rfl, _, rfl, (by show 1 ≤ sizeLine; decide), fun u nu => ⟨_, rfl, u, D, _, _, rfl, rfl, upd_same, by rw [upd_ne (ne_of_none (s45 _ _ hD) nu)]; exact s45 _ _ hD, sz1000 (by rw [List.length_map]; show 1 + ops.length ≤ 1000; omega), fun v nv => ?_⟩⟩
    have s6 := same_new (o := .lst ([V.int (i : Int)] ++ ops.map V.int)) (same_new (o := .lst [V.int (i : Int)]) (Same.refl H5) nu) nv
    refine ⟨pN, v, (i : Int) :: ops, rfl, .inl ⟨SqL.of (s6 _ _ hN), SqL.of upd_same⟩, _, rfl, ?_⟩
    have s46 := s45.trans s6
    -- what stands behind
    refine ⟨_, rfl, p1, row, 12, 4, rfl, SqL.of (s46 _ _ hrow4), d1, by decide, by decide, by decide, ?_⟩
    have m12a := pick_lo (row := row) (i := 12) (m := 4) (by decide)
    have m12b := pick_hi (row := row) (i := 12) (m := 4) (by decide)
    obtain ⟨m, hm⟩ := Int.eq_ofNat_of_zero_le m12a
    rw [hm]
    refine ⟨_, rfl, (by omega), (by omega), fun DB nDB => ?_⟩
    rw [Int.toNat_natCast]
    refine lc_it walk_r0 (fun j H' => Same _ H' ∧ H' DB = some (.lst (((rgI m (fun k => pick row (6 + 2 * (k : Int)) 256)).take j).map V.int))) ⟨same_new (Same.refl _) nDB, by rw [upd_same]; rfl⟩ (fun _ _ _ _ => True.intro) ?_ ?_
    · rintro j x H6 H7 hj ⟨sm, hB⟩ ⟨rfl, rfl⟩
      refine ⟨rfl, ?_⟩
      refine ⟨_, rfl, _, rfl, _, _, rfl, rfl, .inl ⟨by decide, by decide⟩, _, _, rfl, rfl, ?_⟩
      refine ⟨p1, row, _, _, rfl, SqL.of (sm _ _ (s46 _ _ hrow4)), d1, by omega, by omega, by decide, ?_⟩
      refine ⟨_, hB, lt1000 (by rw [List.length_map, List.length_take]; omega), same_mut sm nDB, ?_⟩
      rw [upd_same, take_next (rgI_get hj), List.map_append]
      rfl
    rintro H7 ⟨s7, hB⟩
    rw [rgI_take] at hB
    have s47 := s46.trans s7
    have bl : (rgI m (fun k => pick row (6 + 2 * (k : Int)) 256)).length = m := rgI_len _ _
    have bn : ∀ n ∈ rgI m (fun k => pick row (6 + 2 * (k : Int)) 256), 0 ≤ n := fun n hn => by
      obtain ⟨k, _, rfl⟩ := rgI_mem hn
      exact pick_lo (by decide)
    generalize rgI m (fun k => pick row (6 + 2 * (k : Int)) 256) = beh at hB bl bn
    have on : ∀ n ∈ ops, 0 ≤ n := by
      rw [← hops]
      intro n hn
      obtain ⟨k, _, rfl⟩ := rgI_mem hn
      exact pick_lo (limC_pos _)
    have hD7 := s47 _ _ hD
    -- decode([index] + operands + behind)
    refine ⟨_, rfl, (by show 1 ≤ sizeLine; decide), fun u1 nu1 => ⟨_, rfl, u1, D, _, _, rfl, rfl, upd_same, by rw [upd_ne (ne_of_none hD7 nu1)]; exact hD7, sz1000 (by rw [List.length_map]; show 1 + ops.length ≤ 1000; omega), fun v1 nv1 => ?_⟩⟩
    have s8 := same_new (o := .lst ([V.int (i : Int)] ++ ops.map V.int)) (same_new (o := .lst [V.int (i : Int)]) (Same.refl H7) nu1) nv1
    refine ⟨_, rfl, v1, DB, _, _, rfl, rfl, upd_same, s8 _ _ hB, sz1000 (by rw [List.length_append, List.length_map, List.length_map]; show 1 + ops.length + beh.length ≤ 1000; omega), fun v2 nv2 => ?_⟩
    have s9 := same_new (o := .lst ([V.int (i : Int)] ++ ops.map V.int ++ beh.map V.int)) s8 nv2
    refine ⟨v2, (i : Int) :: (ops ++ beh), rfl, SqL.of (by rw [upd_same, List.map_cons, List.map_append]; rfl), (by rw [List.length_cons, List.length_append]; omega), (fun n hn => by
      rcases List.mem_cons.mp hn with e | hn
      · omega
      · rcases List.mem_append.mp hn with hn | hn
        · exact on n hn
        · exact bn n hn), (fun h => by rw [dec_yes i19 hE] at h; cases h), fun z os hd H8 pp qq s10 hpp hqq => ?_⟩
    rw [dec_yes i19 hE] at hd
    cases hd
    have s48 := s47.trans (s9.trans s10)
    have hD8 := s48 _ _ hD
    refine ⟨_, rfl, _, rfl, D, _, rfl, .inl ⟨SqL.of hD8, fun t2 nt2 => ⟨(by show 2 ≤ sizeLine; decide), fun t3 nt3 => ?_⟩⟩⟩
    have s11 := same_new (o := .tup (ops.map V.int)) (Same.refl H8) nt2
    have s12 := same_new (o := .tup [.str (nmI i), .ref t2]) s11 nt3
    have h23 : t2 ≠ t3 := fun e => by rw [← e, upd_same] at nt3; cases nt3
    refine .inr ⟨pp, t3, qq, t2, nmI i, ops, rfl, s12 _ _ hpp, s12 _ _ hqq, upd_same, by rw [upd_ne h23, upd_same], _, rfl, ?_⟩
    have s49 := s48.trans s12
    -- cut short
    apply two_ways (S := fun Hc => Same H4 Hc)
    rotate_left
    · intro rest
      refine ⟨_, rfl, D, _, rfl, .inl (SqL.of (s49 _ _ hD)), _, _, rfl, rfl, _, rfl, ?_⟩
      rw [List.length_map]
      refine ite2 (fun c => ?_) (fun c => ?_)
      · have c' : 0 < ops.length := by have := of_decide_eq_true c; omega
        refine ⟨_, rfl, (by show 1 ≤ sizeLine; decide), fun u3 nu3 => ⟨_, rfl, u3, D, _, _, rfl, rfl, upd_same, by rw [upd_ne (ne_of_none (s49 _ _ hD) nu3)]; exact s49 _ _ hD, sz1000 (by rw [List.length_map]; show 1 + ops.length ≤ 1000; omega), fun v3 nv3 => ?_⟩⟩
        have s13 := same_new (o := .lst ([V.int (i : Int)] ++ ops.map V.int)) (same_new (o := .lst [V.int (i : Int)]) s49 nu3) nv3
        refine ⟨_, rfl, D, _, rfl, .inl (SqL.of (s13 _ _ hD)), _, rfl, v3, _, rfl, SqL.of upd_same, fun r nr => ?_⟩
        have cut : cutV ([V.int (i : Int)] ++ ops.map V.int) none (some ((ops.map V.int).length : Int)) = ((((i : Int) :: ops).take ops.length).map V.int) := by
          rw [List.length_map]
          have e := cut_to (xs := [V.int (i : Int)] ++ ops.map V.int) (k := ops.length) (by rw [List.length_append, List.length_map]; omega)
          rw [e, List.map_take]
          rfl
        rw [cut]
        have s14 := same_new (o := .lst ((((i : Int) :: ops).take ops.length).map V.int)) s13 nr
        refine ⟨r, ((i : Int) :: ops).take ops.length, rfl, SqL.of upd_same, (by rw [List.length_take]; omega), (fun n hn => by
          rcases List.mem_cons.mp (List.mem_of_mem_take hn) with e | hn
          · omega
          · exact on n hn), fun _ H9 s15 => ⟨rfl, _, rfl, ?_⟩, fun z os h => by rw [dec_no i19 hE c'] at h; cases h⟩
        exact rest H9 (s14.trans s15)
      · exact rest _ s49
    intro H10 s410
    -- free numbers
    have hD10 := s410 _ _ hD
    refine ⟨_, rfl, p1, row, 22, 5, rfl, SqL.of (s410 _ _ hrow4), d1, by decide, by decide, by decide, ?_⟩
    have m22a := pick_lo (row := row) (i := 22) (m := 5) (by decide)
    have m22b := pick_hi (row := row) (i := 22) (m := 5) (by decide)
    obtain ⟨m2, hm2⟩ := Int.eq_ofNat_of_zero_le m22a
    rw [hm2]
    refine ⟨_, rfl, (by omega), (by omega), fun DF nDF => ?_⟩
    rw [Int.toNat_natCast]
    refine lc_it walk_r0 (fun j H' => Same H10 H' ∧ H' DF = some (.lst (((rgI m2 (fun k => pick row (14 + 2 * (k : Int)) 256)).take j).map V.int))) ⟨same_new (Same.refl _) nDF, by rw [upd_same]; rfl⟩ (fun _ _ _ _ => True.intro) ?_ ?_
    · rintro j x H6 H7 hj ⟨sm, hB⟩ ⟨rfl, rfl⟩
      refine ⟨rfl, ?_⟩
      refine ⟨_, rfl, _, rfl, _, _, rfl, rfl, .inl ⟨by decide, by decide⟩, _, _, rfl, rfl, ?_⟩
      refine ⟨p1, row, _, _, rfl, SqL.of (sm _ _ (s410 _ _ hrow4)), d1, by omega, by omega, by decide, ?_⟩
      refine ⟨_, hB, lt1000 (by rw [List.length_map, List.length_take]; omega), same_mut sm nDF, ?_⟩
      rw [upd_same, take_next (rgI_get hj), List.map_append]
      rfl
    rintro H11 ⟨s11', hF⟩
    rw [rgI_take] at hF
    have fl : (rgI m2 (fun k => pick row (14 + 2 * (k : Int)) 256)).length ≤ 4 := by rw [rgI_len]; omega
    have fn : ∀ n ∈ rgI m2 (fun k => pick row (14 + 2 * (k : Int)) 256), 0 ≤ n := fun n hn => by
      obtain ⟨k, _, rfl⟩ := rgI_mem hn
      exact pick_lo (by decide)
    generalize rgI m2 (fun k => pick row (14 + 2 * (k : Int)) 256) = fr0 at hF fl fn
    apply two_ways (S := fun Hc => Same H10 Hc ∧ ∃ fr : List Int, Hc DF = some (.lst (fr.map V.int)) ∧ fr.length ≤ 4 ∧ ∀ n ∈ fr, 0 ≤ n)
    rotate_left
    · intro rest
      refine ⟨_, rfl, DF, _, rfl, .inl (SqL.of hF), _, _, rfl, rfl, _, rfl, ?_⟩
      rw [List.length_map]
      refine ite2 (fun c => ?_) (fun c => ?_)
      · have c' : 0 < fr0.length := by have := of_decide_eq_true c; omega
        refine ⟨_, rfl, p1, row, 24, 2, rfl, SqL.of (s11' _ _ (s410 _ _ hrow4)), d1, by decide, by decide, by decide, rfl, _, rfl, ite2 (fun d => ?_) (fun d => ?_)⟩
        rotate_left
        · exact rest H11 ⟨s11', fr0, hF, fl, fn⟩
        · have f0 : 0 ≤ fr0.getD 0 0 := by
            have e : fr0.getD 0 0 = fr0[0] := by simp [List.getD, List.getElem?_eq_getElem c']
            rw [e]
            exact fn _ (List.getElem_mem c')
          refine ⟨_, rfl, DF, _, 0, _, rfl, rfl, SqL.of hF, atI_int (i := 0) (by decide) (by omega), .inl ⟨_, rfl, _, _, rfl, rfl, (by show (0 : Int) < 19; decide), _, rfl, DF, _, 0, 0, rfl, rfl, hF, ixn (j := 0) (by rw [List.length_map]; omega), ?_⟩⟩
          refine rest _ ⟨same_mut s11' nDF, fr0.set 0 (fr0.getD 0 0 % 19), (by rw [upd_same, List.map_set]; rfl), (by rw [List.length_set]; exact fl), fun n hn => ?_⟩
          rcases List.mem_or_eq_of_mem_set hn with h | h
          · exact fn n h
          · rw [h]
            exact Int.emod_nonneg _ (by decide)
      · exact rest H11 ⟨s11', fr0, hF, fl, fn⟩
    intro H12 hS12
    obtain ⟨s12', fr, hF12, fl2, fn2⟩ := hS12
    have s412 := s410.trans s12'
    refine ⟨_, rfl, DF, _, rfl, .inl (SqL.of hF12), fun DK nDK => ?_⟩
    have s13 := same_new (o := .lst (fr.map V.int)) (Same.refl H12) nDK
    have hFk := s13 _ _ hF12
    have hKk : upd H12 DK (.lst (fr.map V.int)) DK = some (.lst (fr.map V.int)) := upd_same
    apply two_ways (S := fun Hc => Same H12 Hc)
    rotate_left
    · intro rest
      refine ⟨_, rfl, DF, fr, rfl, SqL.of hFk, by omega, fn2, fun hnone H13 s14 => ?_, fun z os hd H13 pp qq s14 hpp hqq => ?_⟩
      · have hK := s14 _ _ hKk
        refine ⟨_, rfl, DK, fr, rfl, SqL.of hK, by omega, fn2, fun _ H14 s15 => ?_, fun z os h => by rw [hnone] at h; cases h⟩
        refine .inl ⟨rfl, _, rfl, ?_⟩
        refine ⟨_, rfl, _, rfl, _, _, dp_L (SqL.of (s15 _ _ (s14 _ _ hFk))), dp_L (SqL.of (s15 _ _ hK)), sh_L _, sh_L _, _, rfl, ite2 (fun h => absurd h (by rw [ev_L]; simp)) (fun _ => ?_)⟩
        exact rest H14 (s13.trans (s14.trans s15))
      · have hK := s14 _ _ hKk
        refine ⟨_, rfl, DK, fr, rfl, SqL.of hK, by omega, fn2, (fun h => by rw [hd] at h; cases h), fun z2 os2 hd2 H14 p2 q2 s15 hp2 hq2 => ?_⟩
        rw [hd] at hd2
        cases hd2
        refine .inr ⟨pp, p2, qq, q2, z, os, rfl, s15 _ _ hpp, s15 _ _ hqq, hp2, hq2, _, rfl, ?_⟩
        refine ⟨_, rfl, _, rfl, _, _, dp_L (SqL.of (s15 _ _ (s14 _ _ hFk))), dp_L (SqL.of (s15 _ _ hK)), sh_L _, sh_L _, _, rfl, ite2 (fun h => absurd h (by rw [ev_L]; simp)) (fun _ => ?_)⟩
        exact rest H14 (s13.trans (s14.trans s15))
    intro H15 s16
    have s415 := s412.trans s16
    have nmM := nm_mem hE.nm
    -- sizes
    refine ⟨_, rfl, nmI i, rfl, zl, fun j hj H16 t1' => ?_, fun h => absurd nmM h⟩
    rw [nm_inj hj hE.nm]
    refine ⟨_, rfl, nmI i, rfl, zl, fun j2 hj2 H17 t2' => ?_, fun h => absurd nmM h⟩
    rw [nm_inj hj2 hE.nm]
    refine ⟨(by show 2 ≤ sizeLine; decide), fun pS nS => ?_⟩
    have s417 := s415.trans (t1'.trans t2')
    have s18 := same_new (o := .lst [V.int (i : Int), V.int (1 + ((kdI i).length : Int))]) s417 nS
    refine ⟨_, rfl, _, rfl, _, rfl, _, rfl, szk, _, _, rfl, rfl, (by show 2 ≤ sizeLine; decide), fun r nr => ?_⟩
    have s19 := same_new (o := .lst [V.int (i : Int), V.int (1 + ((kdI i).length : Int))]) s18 nr
    have hrS : r ≠ pS := fun e => by rw [e, upd_same] at nr; cases nr
    refine ⟨pS, r, [(i : Int), 1 + ((kdI i).length : Int)], rfl, .inl ⟨SqL.of (by rw [upd_ne (Ne.symm hrS), upd_same]; rfl), SqL.of upd_same⟩, _, rfl, ?_⟩
    refine ⟨_, rfl, nmI i, rfl, zl, fun j3 hj3 H20 t3' => ?_, fun h => absurd nmM h⟩
    rw [nm_inj hj3 hE.nm]
    refine ⟨_, rfl, rfl, _, rfl, ite2 (fun h => absurd h (by simp)) (fun _ => ?_)⟩
    have s420 := s19.trans t3'
    -- the values read
    refine ⟨_, rfl, _, rfl, D, _, rfl, .inl ⟨SqL.of (s420 _ _ hD), fun t4 nt4 => ?_⟩⟩
    have s21 := same_new (o := .tup (ops.map V.int)) s420 nt4
    refine ⟨nmI i, t4, ops, rfl, zl, SqT.of upd_same, fun j hj => ⟨by rw [nm_inj hj hE.nm]; exact ol, fun H22 pr s22 hpr => ?_⟩, fun h => absurd nmM h⟩
    have s422 := s21.trans s22
    refine ⟨_, rfl, _, _, _, _, _, rfl, .ty "tuple", .base (.tup hpr), T.i_tup, _, rfl, ?_⟩
    refine ⟨_, rfl, _, rfl, _, rfl, nmI i, D, ops, rfl, ⟨i, hE.nm, ol⟩, SqL.of (s422 _ _ hD), fun H23 pq s23 hpq => ?_⟩
    refine ⟨pr, pq, rdL (nmI i) ops, rfl, .inr ⟨SqT.of (s23 _ _ hpr), SqT.of hpq⟩, _, rfl, ?_⟩
    have s423 := s422.trans s23
    -- the value made, the questions, the table
    refine ⟨_, rfl, _, rfl, D, _, rfl, .inl ⟨SqL.of (s423 _ _ hD), fun t5 nt5 => ?_⟩⟩
    have s24 := same_new (o := .tup (ops.map V.int)) s423 nt5
    refine ⟨nmI i, t5, ops, rfl, ⟨i, hE.nm, ol⟩, SqT.of upd_same, fun H25 s25 => ⟨_, rfl, ?_⟩⟩
    refine ⟨_, rfl, nmI i, rfl, nmM, fun H26 s26 => ⟨_, rfl, ?_⟩⟩
    refine ⟨rfl, fun H27 s27 => ⟨_, rfl, ?_⟩⟩
    have s427 := s24.trans (s25.trans (s26.trans s27))
    -- no such name
    refine ⟨(by show 8 ≤ sizeLine; decide), fun pu nu' => ?_⟩
    have s28 := same_new (o := .lst (unkL.map V.str)) s427 nu'
    refine ⟨_, rfl, p1, row, 26, 8, rfl, SqL.of (s28 _ _ hrow4), d1, by decide, by decide, by decide, ?_⟩
    have m26a := pick_lo (row := row) (i := 26) (m := 8) (by decide)
    have m26b := pick_hi (row := row) (i := 26) (m := 8) (by decide)
    obtain ⟨m3, hm3⟩ := Int.eq_ofNat_of_zero_le m26a
    rw [hm3]
    have l3 : m3 < unkL.length := by
      have l : unkL.length = 8 := by decide +kernel
      omega
    obtain ⟨ul, un⟩ := unk_ok unkL[m3] (List.getElem_mem l3)
    refine ⟨pu, _, _, .str unkL[m3], rfl, rfl, SqL.of (xs := unkL.map V.str) upd_same, atI_nat (by rw [List.getElem?_map, List.getElem?_eq_getElem l3]; rfl), ?_⟩
    refine ⟨unkL[m3], rfl, ul, un, fun H29 s29 => ⟨_, rfl, ?_⟩⟩
    have s429 := s28.trans s29
    exact ⟨_, rfl, _, rfl, _, rfl, nmI i, i, D, ops, rfl, s429 _ _ hD, hE, fun H30 _ => q H30⟩
end
end P86
namespace P86
open PySem L2 Xg
def faL : List He.Fa := [.glo "op_number", .keep "op_number", .glo "operand_kinds", .keep "operand_kinds", .glo "size_of", .keep "size_of", .glo "operand_limit", .keep "operand_limit", .glo "decode", .keep "decode", .glo "encode", .keep "encode", .glo "values_read", .keep "values_read", .glo "value_made", .keep "value_made", .glo "is_supervisor", .keep "is_supervisor", .glo "is_jump", .keep "is_jump", .glo "is_linkable", .keep "is_linkable", .glo "ends_block", .keep "ends_block", .glo "_law_row", .keep "_law_row", .glo "_law_pick", .keep "_law_pick", .glo "_law_whole", .keep "_law_whole", .glo "_law_names", .keep "_law_names", .glo "_law_kinds", .keep "_law_kinds", .glo "_law_limit", .keep "_law_limit", .glo "_law_decoded", .keep "_law_decoded", .glo "_law_same", .keep "_law_same", .glo "_law_all_whole", .keep "_law_all_whole", .glo "_law_reads", .keep "_law_reads", .glo "_law_made", .keep "_law_made", .glo "_law_flag", .keep "_law_flag", .glo "_law_questions", .keep "_law_questions", .glo "_law_refused", .keep "_law_refused", .glo "_law_ask", .keep "_law_ask", .glo "_law_unknown", .keep "_law_unknown", .glo "_law_wrong_operands", .keep "_law_wrong_operands", .glo "_law_table", .keep "_law_table", .free "len", .free "zip", .free "enumerate", .free "tuple", .free "list", .free "set", .free "sorted", .free "abs", .free "int", .free "range", .free "isinstance", .free "bool", .free "str", .free "min", .free "max", .free "ValueError", .glo "OPS", .glo "OPERAND_LIMITS", .glo "SUPERVISOR_NAMES", .glo "JUMP_NAMES", .glo "UNLINKABLE_NAMES", .glo "TextError", .glo "GuestError", .glo "PolicyError", .glo "ActionError", .glo "SettingError", .glo "DebuggerError", .glo "GuestlivesError", .int "FLAGS" 4, .glo "law", .keep "law"]
def fnL : List He.FnD := [Xg.fnD "op_number" S_op_number, Xg.fnD "operand_kinds" S_operand_kinds, Xg.fnD "size_of" S_size_of, Xg.fnD "operand_limit" S_operand_limit, Xg.fnD "decode" S_decode, Xg.fnD "encode" S_encode, Xg.fnD "values_read" S_values_read, Xg.fnD "value_made" S_value_made, Xg.fnD "is_supervisor" S_is_supervisor, Xg.fnD "is_jump" S_is_jump, Xg.fnD "is_linkable" S_is_linkable, Xg.fnD "ends_block" S_ends_block, Xg.fnD "_law_row" S__law_row, Xg.fnD "_law_pick" S__law_pick, Xg.fnD "_law_whole" S__law_whole, Xg.fnD "_law_names" S__law_names, Xg.fnD "_law_kinds" S__law_kinds, Xg.fnD "_law_limit" S__law_limit, Xg.fnD "_law_decoded" S__law_decoded, Xg.fnD "_law_same" S__law_same, Xg.fnD "_law_all_whole" S__law_all_whole, Xg.fnD "_law_reads" S__law_reads, Xg.fnD "_law_made" S__law_made, Xg.fnD "_law_flag" S__law_flag, Xg.fnD "_law_questions" S__law_questions, Xg.fnD "_law_refused" S__law_refused, Xg.fnD "_law_ask" S__law_ask, Xg.fnD "_law_unknown" S__law_unknown, Xg.fnD "_law_wrong_operands" S__law_wrong_operands, Xg.fnD "_law_table" S__law_table, Xg.fnD "law" S_law]
def AK (K : PySem.W.Frag) (IE fI : Addr) : Ad := { IE := IE, iIE := fI, OPS := He.ga K "OPS", LIM := He.ga K "OPERAND_LIMITS", SUP := He.ga K "SUPERVISOR_NAMES", JUM := He.ga K "JUMP_NAMES", UNL := He.ga K "UNLINKABLE_NAMES", op_number := He.ga K "op_number", operand_kinds := He.ga K "operand_kinds", size_of := He.ga K "size_of", operand_limit := He.ga K "operand_limit", decode := He.ga K "decode", encode := He.ga K "encode", values_read := He.ga K "values_read", value_made := He.ga K "value_made", is_supervisor := He.ga K "is_supervisor", is_jump := He.ga K "is_jump", is_linkable := He.ga K "is_linkable", ends_block := He.ga K "ends_block" }
def BK (K : PySem.W.Frag) : Al := { _law_row := He.ga K "_law_row", _law_pick := He.ga K "_law_pick", _law_whole := He.ga K "_law_whole", _law_names := He.ga K "_law_names", _law_kinds := He.ga K "_law_kinds", _law_limit := He.ga K "_law_limit", _law_decoded := He.ga K "_law_decoded", _law_same := He.ga K "_law_same", _law_all_whole := He.ga K "_law_all_whole", _law_reads := He.ga K "_law_reads", _law_made := He.ga K "_law_made", _law_flag := He.ga K "_law_flag", _law_questions := He.ga K "_law_questions", _law_refused := He.ga K "_law_refused", _law_ask := He.ga K "_law_ask", _law_unknown := He.ga K "_law_unknown", _law_wrong_operands := He.ga K "_law_wrong_operands", _law_table := He.ga K "_law_table", TextError := He.ga K "TextError", GuestError := He.ga K "GuestError", PolicyError := He.ga K "PolicyError", ActionError := He.ga K "ActionError", SettingError := He.ga K "SettingError", DebuggerError := He.ga K "DebuggerError", GuestlivesError := He.ga K "GuestlivesError" }
theorem tl_mk {P : Program} {w : World} {K : PySem.W.Frag} {h : Heap} {mg : Str → Option Value} {IE fI : Addr} (X : K.In h) (G : h.Ns mainGlobals mg) (c : He.SaysE faL fnL K)
    (x : XgSup.STxt P K mg "InstructionError" "name" "there is no such instruction: " IE fI) (xc : ExcC K IE)
    (z1 : pairsB K (He.ga K "OPS") opsL = true) (z2 : strsB K (He.ga K "SUPERVISOR_NAMES") supL = true) (z3 : strsB K (He.ga K "JUMP_NAMES") jumL = true) (z4 : strsB K (He.ga K "UNLINKABLE_NAMES") unlL = true)
    (e1 : dObs K (He.ga K "OPERAND_LIMITS") = some (true, (["r", "n", "a", "g", "f", "k"] : List Str).map fun x => (some x, PyData.keyHash w.params x)))
    (e2 : (ltL.all fun c => kInt K (He.ga K "OPERAND_LIMITS") ⟨#[c]⟩ (limC c)) = true)
    (m1 : PySem.W.exmOne K (.ref IE) (.ref IE) = some true) (m2 : PySem.W.exmOne K (.ref IE) (.ref (He.ga K "GuestlivesError")) = some true)
    (i1 : PySem.W.kitOne K (.type "int") (.type "int") = some true) (i2 : PySem.W.kitOne K (.type "int") (.type "bool") = some false) (i3 : PySem.W.kitOne K (.type "NoneType") (.type "int") = some false)
    (i4 : PySem.W.kitOne K (.type "bool") (.type "bool") = some true) (i5 : PySem.W.kitOne K (.type "tuple") (.type "tuple") = some true) (i6 : PySem.W.kitOne K (.type "NoneType") (.type "tuple") = some false)
    (i7 : PySem.W.kitOne K (.type "list") (.type "list") = some true) (i8 : PySem.W.kitOne K (.type "str") (.type "str") = some true)
    (i9 : PySem.W.kitOne K (.ref IE) (.ref IE) = some true) (i10 : PySem.W.kitOne K (.ref IE) (.ref (He.ga K "GuestlivesError")) = some true) (i11 : PySem.W.kitOne K (.ref IE) (.type "ValueError") = some true)
    (i12 : PySem.W.kitAny K (.ref IE) [.ref (He.ga K "TextError"), .ref (He.ga K "GuestError"), .ref (He.ga K "PolicyError"), .ref (He.ga K "ActionError"), .ref (He.ga K "SettingError"), .ref (He.ga K "DebuggerError")] = some false) :
    Tl P w K mg (AK K IE fI) (BK K) where
  n_len := He.free_ok X G (c.fact 60)
  n_zip := He.free_ok X G (c.fact 61)
  n_enumerate := He.free_ok X G (c.fact 62)
  n_tuple := He.free_ok X G (c.fact 63)
  n_list := He.free_ok X G (c.fact 64)
  n_set := He.free_ok X G (c.fact 65)
  n_sorted := He.free_ok X G (c.fact 66)
  n_abs := He.free_ok X G (c.fact 67)
  n_int := He.free_ok X G (c.fact 68)
  n_range := He.free_ok X G (c.fact 69)
  n_isinstance := He.free_ok X G (c.fact 70)
  n_bool := He.free_ok X G (c.fact 71)
  n_str := He.free_ok X G (c.fact 72)
  n_min := He.free_ok X G (c.fact 73)
  n_max := He.free_ok X G (c.fact 74)
  n_ValueError := He.free_ok X G (c.fact 75)
  g_OPS := He.glo_ok X G (c.fact 76)
  g_OPERAND_LIMITS := He.glo_ok X G (c.fact 77)
  g_SUPERVISOR_NAMES := He.glo_ok X G (c.fact 78)
  g_JUMP_NAMES := He.glo_ok X G (c.fact 79)
  g_UNLINKABLE_NAMES := He.glo_ok X G (c.fact 80)
  g_TextError := He.glo_ok X G (c.fact 81)
  g_GuestError := He.glo_ok X G (c.fact 82)
  g_PolicyError := He.glo_ok X G (c.fact 83)
  g_ActionError := He.glo_ok X G (c.fact 84)
  g_SettingError := He.glo_ok X G (c.fact 85)
  g_DebuggerError := He.glo_ok X G (c.fact 86)
  g_GuestlivesError := He.glo_ok X G (c.fact 87)
  g_InstructionError := x.gC
  g_FLAGS := He.int_ok X G (c.fact 88)
  x_InstructionError := x
  OPS := z1
  SUP := z2
  JUM := z3
  UNL := z4
  LIM := fun ch hl => by
    obtain ⟨es, n, l, k⟩ := dObs_ok e1
    have q := List.all_eq_true.mp e2 ch hl
    obtain ⟨u, a1, a2⟩ := kInt_ok q
    exact ⟨es, n, u, l, k, a1, a2⟩
  xc_IE := xc
  xf_IE := ⟨x.ga, x.gg, x.exC, x.hdC⟩
  m_II := m1
  m_IG := m2
  i_int := i1
  i_ib := i2
  i_ni := i3
  i_bool := i4
  i_tup := i5
  i_nt := i6
  i_list := i7
  i_str := i8
  i_II := i9
  i_IG := i10
  i_IV := i11
  i_six := i12
  d_op_number := df_mk X G c 0 rfl rfl rfl (fun _ _ _ _ _ _ us hl => match us, hl with | [_], _ => rfl)
  d_operand_kinds := df_mk X G c 1 rfl rfl rfl (fun _ _ _ _ _ _ us hl => match us, hl with | [_], _ => rfl)
  d_size_of := df_mk X G c 2 rfl rfl rfl (fun _ _ _ _ _ _ us hl => match us, hl with | [_], _ => rfl)
  d_operand_limit := df_mk X G c 3 rfl rfl rfl (fun _ _ _ _ _ _ us hl => match us, hl with | [_], _ => rfl)
  d_decode := df_mk X G c 4 rfl rfl rfl (fun _ _ _ _ _ _ us hl => match us, hl with | [_], _ => rfl)
  d_encode := df_mk X G c 5 rfl rfl rfl (fun _ _ _ _ _ _ us hl => match us, hl with | [_, _], _ => rfl)
  d_values_read := df_mk X G c 6 rfl rfl rfl (fun _ _ _ _ _ _ us hl => match us, hl with | [_, _], _ => rfl)
  d_value_made := df_mk X G c 7 rfl rfl rfl (fun _ _ _ _ _ _ us hl => match us, hl with | [_, _], _ => rfl)
  d_is_supervisor := df_mk X G c 8 rfl rfl rfl (fun _ _ _ _ _ _ us hl => match us, hl with | [_], _ => rfl)
  d_is_jump := df_mk X G c 9 rfl rfl rfl (fun _ _ _ _ _ _ us hl => match us, hl with | [_], _ => rfl)
  d_is_linkable := df_mk X G c 10 rfl rfl rfl (fun _ _ _ _ _ _ us hl => match us, hl with | [_], _ => rfl)
  d_ends_block := df_mk X G c 11 rfl rfl rfl (fun _ _ _ _ _ _ us hl => match us, hl with | [_], _ => rfl)
  d__law_row := df_mk X G c 12 rfl rfl rfl (fun _ _ _ _ _ _ us hl => match us, hl with | [_, _], _ => rfl)
  d__law_pick := df_mk X G c 13 rfl rfl rfl (fun _ _ _ _ _ _ us hl => match us, hl with | [_, _, _], _ => rfl)
  d__law_whole := df_mk X G c 14 rfl rfl rfl (fun _ _ _ _ _ _ us hl => match us, hl with | [_], _ => rfl)
  d__law_names := df_mk X G c 15 rfl rfl rfl (fun _ _ _ _ _ _ us hl => match us, hl with | [], _ => rfl)
  d__law_kinds := df_mk X G c 16 rfl rfl rfl (fun _ _ _ _ _ _ us hl => match us, hl with | [], _ => rfl)
  d__law_limit := df_mk X G c 17 rfl rfl rfl (fun _ _ _ _ _ _ us hl => match us, hl with | [_], _ => rfl)
  d__law_decoded := df_mk X G c 18 rfl rfl rfl (fun _ _ _ _ _ _ us hl => match us, hl with | [_], _ => rfl)
  d__law_same := df_mk X G c 19 rfl rfl rfl (fun _ _ _ _ _ _ us hl => match us, hl with | [_, _], _ => rfl)
  d__law_all_whole := df_mk X G c 20 rfl rfl rfl (fun _ _ _ _ _ _ us hl => match us, hl with | [_, _], _ => rfl)
  d__law_reads := df_mk X G c 21 rfl rfl rfl (fun _ _ _ _ _ _ us hl => match us, hl with | [_, _], _ => rfl)
  d__law_made := df_mk X G c 22 rfl rfl rfl (fun _ _ _ _ _ _ us hl => match us, hl with | [_, _], _ => rfl)
  d__law_flag := df_mk X G c 23 rfl rfl rfl (fun _ _ _ _ _ _ us hl => match us, hl with | [_, _], _ => rfl)
  d__law_questions := df_mk X G c 24 rfl rfl rfl (fun _ _ _ _ _ _ us hl => match us, hl with | [_], _ => rfl)
  d__law_refused := df_mk X G c 25 rfl rfl rfl (fun _ _ _ _ _ _ us hl => match us, hl with | [_, _], _ => rfl)
  d__law_ask := df_mk X G c 26 rfl rfl rfl (fun _ _ _ _ _ _ us hl => match us, hl with | [_, _], _ => rfl)
  d__law_unknown := df_mk X G c 27 rfl rfl rfl (fun _ _ _ _ _ _ us hl => match us, hl with | [_], _ => rfl)
  d__law_wrong_operands := df_mk X G c 28 rfl rfl rfl (fun _ _ _ _ _ _ us hl => match us, hl with | [_, _, _], _ => rfl)
  d__law_table := df_mk X G c 29 rfl rfl rfl (fun _ _ _ _ _ _ us hl => match us, hl with | [], _ => rfl)
theorem law_mk {l : PySem.W.OpenLaw} {w : World} {K : PySem.W.Frag} {h : Heap} {mg : Str → Option Value} {fa IE fI : Addr} (X : K.In h) (G : h.Ns mainGlobals mg) (hfa : mg "law" = some (.ref fa)) (c : He.SaysE faL fnL K) (T : Tl l.prog w K mg (AK K IE fI) (BK K)) :
    ∃ fd : FuncData, (∀ (s : Shared) (u : Value), BindsTo s fd ⟨[u], []⟩ [("_law_script", u)]) ∧ ∀ base : Heap, K.In base → base.Ns mainGlobals mg → FnOk l.prog w K mg base CX0 9 fa fd ["_law_script"] (spLaw K) := by
  have e := hfa.symm.trans (He.glo_ok X G (c.fact 89))
  cases e
  obtain ⟨oc, od, osl, kV, doc, pm, an, cdv, ct, ll, cd⟩ := c.def_ 30 (d := Xg.fnD "law" S_law) rfl
  have k := He.keep_ok (c.fact 90)
  have F : Fun K "law" "law" S_law (He.ga K "law") _ := fun_mk ll cd k
  exact ⟨_, fun s v => .of_eq rfl, fun base _ _ => ok_law F T⟩
/-- all of it -/
theorem fin {l : PySem.W.OpenLaw} {w : World} {K : PySem.W.Frag} {h : Heap} {mg : Str → Option Value} {fa IE fI : Addr} (X : K.In h) (G : h.Ns mainGlobals mg) (hfa : mg "law" = some (.ref fa)) (c : He.obsE faL fnL K = He.valE fnL)
    (x : XgSup.STxt l.prog K mg "InstructionError" "name" "there is no such instruction: " IE fI) (xc : ExcC K IE)
    (z1 : pairsB K (He.ga K "OPS") opsL = true) (z2 : strsB K (He.ga K "SUPERVISOR_NAMES") supL = true) (z3 : strsB K (He.ga K "JUMP_NAMES") jumL = true) (z4 : strsB K (He.ga K "UNLINKABLE_NAMES") unlL = true)
    (e1 : dObs K (He.ga K "OPERAND_LIMITS") = some (true, (["r", "n", "a", "g", "f", "k"] : List Str).map fun x => (some x, PyData.keyHash w.params x)))
    (e2 : (ltL.all fun c => kInt K (He.ga K "OPERAND_LIMITS") ⟨#[c]⟩ (limC c)) = true)
    (m1 : PySem.W.exmOne K (.ref IE) (.ref IE) = some true) (m2 : PySem.W.exmOne K (.ref IE) (.ref (He.ga K "GuestlivesError")) = some true)
    (i1 : PySem.W.kitOne K (.type "int") (.type "int") = some true) (i2 : PySem.W.kitOne K (.type "int") (.type "bool") = some false) (i3 : PySem.W.kitOne K (.type "NoneType") (.type "int") = some false)
    (i4 : PySem.W.kitOne K (.type "bool") (.type "bool") = some true) (i5 : PySem.W.kitOne K (.type "tuple") (.type "tuple") = some true) (i6 : PySem.W.kitOne K (.type "NoneType") (.type "tuple") = some false)
    (i7 : PySem.W.kitOne K (.type "list") (.type "list") = some true) (i8 : PySem.W.kitOne K (.type "str") (.type "str") = some true)
    (i9 : PySem.W.kitOne K (.ref IE) (.ref IE) = some true) (i10 : PySem.W.kitOne K (.ref IE) (.ref (He.ga K "GuestlivesError")) = some true) (i11 : PySem.W.kitOne K (.ref IE) (.type "ValueError") = some true)
    (i12 : PySem.W.kitAny K (.ref IE) [.ref (He.ga K "TextError"), .ref (He.ga K "GuestError"), .ref (He.ga K "PolicyError"), .ref (He.ga K "ActionError"), .ref (He.ga K "SettingError"), .ref (He.ga K "DebuggerError")] = some false) :
    ∃ fd : FuncData, (∀ (s : Shared) (u : Value), BindsTo s fd ⟨[u], []⟩ [("_law_script", u)]) ∧ ∀ base : Heap, K.In base → base.Ns mainGlobals mg → FnOk l.prog w K mg base CX0 9 fa fd ["_law_script"] (spLaw K) :=
  law_mk X G hfa c (tl_mk X G c x xc z1 z2 z3 z4 e1 e2 m1 m2 i1 i2 i3 i4 i5 i6 i7 i8 i9 i10 i11 i12)
end P86
open PySem PySem.W PyProof.Rows L2
set_option maxRecDepth 100000 in
set_option maxHeartbeats 0 in
theorem PySem.Challenge.cw_guestlives_k86_instructions_encode_decod_holds : PySem.Challenge.rw_guestlives_k86_instructions_encode_decod.Holds := by
  w_on; o_law; k_head; (case hw => w_witness2)
  k_fill
  refine L2.walk_ofK (n := 63) (k := 9) (CX := CX0) (sp := P86.spLaw) (x := "_law_script") rfl (by decide) rfl ⟨rfl, by decide, by decide⟩ (fun w h Y => PySem.W.kIn_of Y) ?F (fun K _ a ns hl _ hS => ⟨a, ns, rfl, hS, hl, fun _ => rfl⟩) fun _ _ _ _ z => z
  case F =>
    intro w mg fa h KX G hmg
    refine' P86.fin (l := PySem.Challenge.rw_guestlives_k86_instructions_encode_decod) KX G hmg ?c (Xg.stxt_mk KX G XgSup.fok_name ?gC ?iC ?cl1 ?cl2 ?sa ?ga ?gg ?noN ?tC ?kC ?exC ?veC ?tyC ?hdC ?sup ?slf ?nop ?gS ?tops ?g1 ?g2 ?g3 ?g4 ?g5 ?g6 ?g7) (Xg.excC_mk ?h1 ?h2 ?h3 ?h4 ?h5 ?h6 ?h7 ?h8)
      ?z1 ?z2 ?z3 ?z4 ?e1 ?e2 ?m1 ?m2 ?i1 ?i2 ?i3 ?i4 ?i5 ?i6 ?i7 ?i8 ?i9 ?i10 ?i11 ?i12
    (case gC => with_unfolding_all rfl)
    (case iC => with_unfolding_all rfl)
    (case cl1 => with_unfolding_all rfl)
    (case g1 => with_unfolding_all rfl)
    (case g3 => with_unfolding_all rfl)
    (case g4 => with_unfolding_all rfl)
    (case g6 => with_unfolding_all rfl)
    (case g7 => exact fun _ => ⟨_, rfl⟩)
    all_goals kernel_rfl
