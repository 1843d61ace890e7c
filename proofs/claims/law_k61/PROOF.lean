import PyProof.Rows.All
import Wide.All
import OpenK.AllK
import Wide.FinOn
import HandS.ForMost
import HandS.Exc
import HandS.TryOnly
import HandS.ExcOwn
import HandS.WordsExc
import HandS.ExcInit
import HandS.ExcIs
import HandS.ExcField
import KE.KExcSuper
import HandS.FStr
import HandS.HotCalls
import KE.KExcIs
import HandS.IsInst
import HandS.Wide
import HandS.Style
import HandS.ExcCtx
import HandS.List
import KE.GoesMore
import KE.BitLaws
import HandS.WideBits
import HandS.Codes
import KE.KEqDeep
import KE.KEqSeq
import HandS.Conv
import HandS.AnyAll
import HandS.GenOver
import PyProof.GenQ
import PyProof.ConsumeS
import PyProof.SumAny
import HandS.TupAny
import HandS.EndTab
import HandS.EndOwn
import HandS.Flow
import HandS.Set
import HandS.Strs
import HandS.SetBool
import HandS.SetFor
import HandS.Defaults
import HandS.Hot
import HandS.Gcd
import PySem.Challenge.RW_everypast_k61_whole_stairs
set_option Elab.async false
set_option linter.all false
set_option maxRecDepth 100000
set_option maxHeartbeats 4000000
/-! An own exception class whose __init__ begins with super().__init__(..): its __init__ as a def of the layer. -/
namespace EP
open PySem L2 PySem.Spec PyProof.Rows
open PySem.W (ksFn ksEnv)

theorem lookup_rev_zip : ∀ {ps : List Str} {us : List Value} {i : Nat} {x : Str} {u : Value}, ps.Nodup → ps[i]? = some x → us[i]? = some u → (ps.zip us).reverse.lookup x = some u
  | [], _, _, _, _, _, h, _ => by simp at h
  | _ :: _, [], _, _, _, _, _, h => by simp at h
  | p :: ps, w :: us, 0, x, u, nd, h1, h2 => by
    simp at h1 h2; subst h1; subst h2
    rw [List.zip_cons_cons, List.reverse_cons, List.lookup_append]
    have hn : (ps.zip us).reverse.lookup p = none := by
      cases e : (ps.zip us).reverse.lookup p with
      | none => rfl
      | some v =>
        have q := PySem.mem_of_lookup e
        exact absurd (List.of_mem_zip (List.mem_reverse.mp q)).1 (List.nodup_cons.mp nd).1
    rw [hn]
    simp [List.lookup]
  | p :: ps, w :: us, i + 1, x, u, nd, h1, h2 => by
    rw [List.zip_cons_cons, List.reverse_cons, List.lookup_append]
    rw [lookup_rev_zip (i := i) (List.nodup_cons.mp nd).2 (by simpa using h1) (by simpa using h2)]
    rfl

/-- the scope of such an __init__ -/
structure ScE (N P : List Str) (sc : Scope) : Prop where
  kind : sc.kind = .function
  co : sc.isCoroutine = false
  gen : sc.isGenerator = false
  nd : N.Nodup
  pre : N.take P.length = P
  par : ∀ x ∈ P, sc.names.lookup x = some .local
  nocell : ∀ y ∈ sc.names, y.2 ≠ .cell
  free : ∀ y ∈ sc.names, y.2 = .free → y.1 = "__class__"
  sup : sc.names.lookup ("super" : Str) = some .globalImplicit
  cls : sc.names.lookup ("__class__" : Str) = some .free

/-- the context of its body -/
def cxE (CX : CXT) (P : Program) (w : World) (K : PySem.W.Frag) (mg : Str → Option Value) (base : Heap) (N : List Str) (qual : Str) (scope : Scope) (f : Addr) (cd : Value) (cc : Addr) (A : Around) (outer : List Env) (s : Shared) (H : Hp) (E : XK) : Cx where
  prog := P
  w := w
  K := K
  mg := mg
  base := base
  A := A.deeper (ksEnv qual scope s.heap.objs.size f cd cc)
  N := N
  s_0 := s
  H_0 := H
  env := ksEnv qual scope s.heap.objs.size f cd cc
  outer := outer
  stack := ksEnv qual scope s.heap.objs.size f cd cc :: outer
  ex := []
  calm := true
  fn := fun y => decide (y ≠ "__class__")
  pn := []
  xe := fun e s' => wpAny (model P w) (A.deeper (ksEnv qual scope s.heap.objs.size f cd cc)) (leaving (ksEnv qual scope s.heap.objs.size f cd cc) e) (fun _ s'' => CX outer H s E e s'') (fun e' s'' => CX outer H s E e' s'') s'

theorem cells1 {cc : Addr} {y : Str} {c : Addr} (h : List.lookup y [(("__class__" : Str), cc)] = some c) : y = "__class__" ∧ c = cc := by
  by_cases e : y = "__class__"
  · subst e
    have q : List.lookup ("__class__" : Str) [(("__class__" : Str), cc)] = some cc := by simp [List.lookup]
    rw [q] at h
    exact ⟨rfl, (Option.some.inj h).symm⟩
  · have q : (y == ("__class__" : Str)) = false := by simpa using e
    simp [List.lookup, q] at h

theorem inv_startE {CX : CXT} {P : Program} {w : World} {K : PySem.W.Frag} {mg : Str → Option Value} {base : Heap} {N ps : List Str} {qual : Str} {scope : Scope} {f cc : Addr} {cd : Value} {A : Around} {outer : List Env} {s : Shared} {h1 : Heap} {tk : Nat} {H : Hp} {E : XK} {us : List Value} {vs : List V}
    {D : Addr} {cl : Value} {cld : Option Addr} {csl : Array (Option Value)}
    (S : ScE N ps scope) (hd : A.handled = none) (e0 : Env0 P w K mg base A outer s H) (hl : vs.length = ps.length) (r : Vals vs us)
    (hcell : K.lookup cc = some ⟨cl, cld, .cell (some (.ref D)), csl⟩)
    (hns : h1.Ns s.heap.objs.size (fun x => (ps.zip us).reverse.lookup x)) (hk : ∀ b o, s.heap.get? b = some o → h1.get? b = some o) :
    Inv (cxE CX P w K mg base N qual scope f cd cc A outer s H E) [] (L2.start N vs) H { s with heap := h1, toks := tk } := by
  have hpl : ps.length ≤ N.length := by have := congrArg List.length S.pre; rw [List.length_take] at this; omega
  have noA : ∀ b : Addr, b ∉ (cxE CX P w K mg base N qual scope f cd cc A outer s H E).ex := fun b z => absurd (show b ∈ ([] : List Addr) from z) (by simp)
  have hb : base.get? cc = some ⟨cl, cld, .cell (some (.ref D)), csl⟩ := e0.mod.kin _ _ hcell
  refine ⟨⟨e0.mod, S.kind, rfl, rfl, Nat.le_refl _, fun y z c h1 h2 => ?_, fun y hy => ?_, fun y c hf h => ?_, fun _ => hd, Around.frames_deeper e0.frames, .inr ⟨rfl, rfl⟩, fun b z => absurd z (noA b), e0.bs, e0.bsz, fun b _ _ => noA b, fun b z => absurd z (noA b), e0.funs, e0.frf⟩,
    rfl, e0.bare, Un.kept hk, ⟨_, hns, fun i y v h1 h2 h3 => ?_⟩, fun y c h => ?_, e0.hok.fresh (Nat.le_refl _), fun y c h => ?_, fun p hp => absurd (show p ∈ ([] : List (Addr × Obj)) from hp) (by simp), e0.hok.kept hk, ?_⟩
  · rw [(cells1 h1).1, (cells1 h2).1]
  · have hy : scope.names.lookup y = some .cell ∨ scope.names.lookup y = some .free := hy
    rcases hy with hy | hy
    · exact absurd rfl (S.nocell _ (PySem.mem_of_lookup hy))
    · have e := S.free _ (PySem.mem_of_lookup hy) rfl
      refine ⟨cc, ?_⟩
      have e' : y = "__class__" := e
      rw [e']
      show List.lookup ("__class__" : Str) [(("__class__" : Str), cc)] = some cc
      simp [List.lookup]
  · have e := (cells1 h).1
    subst e
    have hf' : decide (("__class__" : Str) ≠ "__class__") = true := hf
    simp at hf'
  · have hi : i < vs.length := by
      unfold L2.start at h2
      by_cases hi : i < vs.length
      · exact hi
      · rw [List.getElem?_append_right (by simpa using hi)] at h2
        rw [List.getElem?_replicate] at h2
        split at h2 <;> cases h2
    have ha : vs[i]? = some v := by
      unfold L2.start at h2
      rw [List.getElem?_append_left (by simpa using hi), List.getElem?_map] at h2
      cases e : vs[i]? with
      | none => rw [e] at h2; cases h2
      | some a => rw [e] at h2; cases h2; rfl
    obtain ⟨u, hu, rv⟩ := r.get ha
    have hp : ps[i]? = some y := by
      rw [← S.pre, List.getElem?_take_of_lt (by omega)]; exact h1
    have ndP : ps.Nodup := by rw [← S.pre]; exact S.nd.sublist (List.take_sublist _ _)
    refine ⟨u, rv, .inl ⟨S.par y (List.mem_of_getElem? hp), lookup_rev_zip ndP hp hu⟩⟩
  · have e := (cells1 h).2
    subst e
    exact ⟨_, _, hk _ _ (e0.bs _ _ hb).1, rfl⟩
  · have e := (cells1 h).2
    subst e
    exact (e0.bs _ _ hb).2
  · unfold L2.start
    show _ = N.length
    rw [List.length_append, List.length_map, List.length_replicate]
    omega

/-- what the text and the written part say of an own exception class at C, its __init__ at f, its class cell at cc -/
structure SupC (P : Program) (K : PySem.W.Frag) (mg : Str → Option Value) (C cc cda : Addr) : Prop where
  oex : OexC K C
  cel : ∃ cl cld csl, K.lookup cc = some ⟨cl, cld, .cell (some (.ref C)), csl⟩
  cod : ∃ ccl cdd vs ccs file tf, K.lookup cda = some ⟨ccl, cdd, .fields vs, ccs⟩ ∧ vs[2]? = some (.str file tf) ∧ ((P.main.file : Str) == file) = true
  sub : PySem.W.mroIn K C (.ref C) = some true
  subV : PySem.W.subIn K (.ref C) (.type "ValueError") = some true
  op : PySem.W.nsIn K cStatics "thirdparty.any" = some none
  sup : PySem.W.ks_superIn K C C "__init__" = some (some (.builtin "ValueError.__init__"))
  mgS : mg "super" = none
  top : (P.main.scope.names.lookup ("super" : Str)).isSome = false

section
variable {P : Program} {w : World} {M : Model} {A : Around} {E : Value → Shared → Prop} {s : Shared}
theorem callWith_mw {pos : Pos} {u x : Addr} {env : Env} {e : Expr} {rest : List Expr} {Q : Value → Shared → Prop}
    (h : wpAny M A (spliced (backTo pos (starEach (e :: rest) env))) (fun vs s₁ => PySem.W.KxsAt "ValueError.__init__" u x s₁.heap ∧ wpAny M A (call (.ref u) vs) Q E s₁) E s)
    (he : starEach (e :: rest) env = (false, eval e env) :: starEach rest env := by rfl) (hplain : (backTo pos (starEach rest env)).any (·.1) = false := by rfl) :
    wpAny M A (callWith pos (.ref u) [] (backTo pos (starEach (e :: rest) env)) []) Q E s := by
  rw [he] at h ⊢
  refine PySem.W.kxs_callWith (i := "ValueError.__init__") (x := x) (by show (false || (backTo pos (starEach rest env)).any (·.1)) = false; rw [hplain]; rfl) ?_
  exact Calls.evalArgs_plain h
end
section
variable {P : Program} {w : World} {A : Around} {E : Value → Shared → Prop} {h : Heap} {g : Array GenState} {d : Drawn} {t : Nat} {os : OsState}
variable {nm q : Str} {C N : Addr} {bs bm : List Value} {hdct : Bool} {sn : List Str} {sub : List Value} {ab : Bool} {col : Option Bool} {dd : Option Addr} {k0 k1 k2 k3 k5 : Option Value}
theorem call_mw {u e t0 : Addr} {rest : List Value} {Q : Value → Shared → Prop}
    (hC : h.get? C = some (excClassObj nm q C N bs bm hdct sn sub ab col dd k0 k1 k2 k3 k5 "ValueError.__new__")) (he : h.get? e = some (PySem.HandSPX.excO C t0)) (hu : h.get? u = some (PySem.W.kxs_mw "ValueError.__init__" e)) (hrest : rest.length ≤ sizeLine)
    (hq : ∀ h' t1, (∀ b o, b ≠ e → h.get? b = some o → h'.get? b = some o) → h'.get? e = some (PySem.HandSPX.excO C t1) → Q .none ⟨h', g, d, t, os⟩) :
    wpAny (model P w) A (call (.ref u) rest) Q E ⟨h, g, d, t, os⟩ := by
  refine wpAny_call (codeAny_of_tree ?_)
  show wpAny _ A.in1 (callAny (.ref u) ⟨rest, []⟩) _ _ _
  simp only [callAny]
  refine wpAny_bind (wpAny_load hu ?_)
  simp only [PySem.W.kxs_mw, show (Value.type "method-wrapper" == Value.type "method" || Value.type "method-wrapper" == Value.type "builtin_function_or_method" || Value.type "method-wrapper" == Value.type "method-wrapper") = true by decide, if_true]
  refine PySem.W.KFB.if_so (by decide) ?_
  refine wpAny_bind (PySem.W.check_bound_init F.excBase_ValueError.toExcCallFacts hC he rfl ?_)
  refine wpAny_bind (wpAny_pure (wpAny_pure ?_))
  refine ⟨Code.quiet_builtin _ (by decide +kernel), codeAny_builtin F.excBase_ValueError.initEntry ?_⟩
  rw [Around.under_plainId F.excBase_ValueError.init.plain _]
  wp_walk
  refine hq _ h.objs.size (fun b o hb ho => ?_) ?_
  · rw [Heap.get?_update_other _ _ (Ne.symm hb)]
    exact Heap.get?_push_of_some _ ho
  · rw [Heap.get?_update_self _ (Heap.get?_push_of_some _ he) rfl]
    rfl
end

theorem fn_exc {CX : CXT} {P : Program} {w : World} {K : PySem.W.Frag} {mg : Str → Option Value} {base : Heap} {k : Nat} {f cc cda C : Addr} {name qual : Str} {params : Arguments} {e : Expr} {es : List Expr} {rest : List Stmt} {scope : Scope} {dV kV doc pm ct oc : Value} {an od : Option Addr}
    {osl : Array (Option Value)} {N ps : List Str} {sp : Sp} {p0 p1 p2 p3 p4 : Pos} {ar : Arg} {ps' : List Str} {pl : Addr → Sem Bool}
    (lk : K.lookup f = some ⟨oc, od, .func (ksFn name qual params (.Expr (.Call (.Attribute (.Call (.Name "super" p0) [] [] p1) "__init__" p2) (e :: es) [] p3) p4 :: rest) scope dV kV doc pm an (.ref cda) ct cc), osl⟩)
    (hcd : PySem.W.codeIn K (.ref cda) qual = true) (S : ScE N ps scope) (T : SupC P K mg C cc cda)
    (hp : (params.posonlyargs ++ params.args).head? = some ar) (hps : ps = ar.arg :: ps')
    (len : ∀ vs H Q E, sp vs H Q E → vs.length = ps.length)
    (hbody : ∀ (A : Around) (outer : List Env) (s : Shared) (H : Hp) (vs : List V) (Q : VK) (E : XK), Room k (A.deeper (ksEnv qual scope s.heap.objs.size f (.ref cda) cc)) → sp vs H Q E →
      ∃ (a : Addr) (vs' : List V) (ta : TA) (t : TS), vs = .ref a :: vs' ∧ H a = some (exo a C none) ∧ PA (cxE CX P w K mg base N qual scope f (.ref cda) cc A outer s H E) (e :: es) ta ∧ PSs (cxE CX P w K mg base N qual scope f (.ref cda) cc A outer s H E) rest t ∧
        ta (L2.start N vs) H fun ws H1 => ws.length ≤ 1000 ∧ H1 a = some (exo a C none) ∧ t { nx := fun _ H' => Q .non H', rt := Q } (L2.start N vs) H1)
    (hc : ∀ (L : Addr), eval (.Call (.Attribute (.Call (.Name "super" p0) [] [] p1) "__init__" p2) (e :: es) [] p3) (ksEnv qual scope L f (.ref cda) cc) = (do
      let ov ← attributeBase (.Call (.Name "super" p0) [] [] p1) "__init__" (ksEnv qual scope L f (.ref cda) cc) (eval (.Call (.Name "super" p0) [] [] p1) (ksEnv qual scope L f (.ref cda) cc))
      standAt p2.atName
      let (g, first) ← holding [ov] (getMethod ov "__init__" (pl L))
      callWith p3 g first (backTo p3 (starEach (e :: es) (ksEnv qual scope L f (.ref cda) cc))) []) := by intro L; rfl)
    (hs : ∀ (L : Addr), swapsWith (.Call (.Attribute (.Call (.Name "super" p0) [] [] p1) "__init__" p2) (e :: es) [] p3) none p4.line (ksEnv qual scope L f (.ref cda) cc) = pure false := by intro L; rfl)
    (he : ∀ (L : Addr), starEach (e :: es) (ksEnv qual scope L f (.ref cda) cc) = (false, eval e (ksEnv qual scope L f (.ref cda) cc)) :: starEach es (ksEnv qual scope L f (.ref cda) cc) := by intro L; rfl)
    (hpl : ∀ (L : Addr), (backTo p3 (starEach es (ksEnv qual scope L f (.ref cda) cc))).any (·.1) = false := by intro L; rfl) :
    FnOk P w K mg base CX (k + 1) f (ksFn name qual params (.Expr (.Call (.Attribute (.Call (.Name "super" p0) [] [] p1) "__init__" p2) (e :: es) [] p3) p4 :: rest) scope dV kV doc pm an (.ref cda) ct cc) ps sp := by
  refine ⟨len, fun A outer s H args us vs Q E hr e0 hb r hsp => ?_⟩
  have hl := len _ _ _ _ hsp
  have KX : K.In s.heap := e0.mod.kin.keeps fun b o e => (e0.bs b o e).1
  have lim : s.heap.NoLimit := e0.mod.nolimit.keeps fun b o e => (e0.bs b o e).1
  obtain ⟨cl, cld, csl, hcell⟩ := T.cel
  obtain ⟨ccl, cdd, cvs, ccs, file, tf, hcode, hvs, hfile⟩ := T.cod
  have hloc : ∀ y ∈ ps.zip us, scope.names.lookup y.1 = some .local := fun ⟨n, v⟩ hy => S.par n (List.of_mem_zip hy).1
  refine PySem.ks_codeAny_call_defAt (fd := ksFn name qual params (.Expr (.Call (.Attribute (.Call (.Name "super" p0) [] [] p1) "__init__" p2) (e :: es) [] p3) p4 :: rest) scope dV kV doc pm an (.ref cda) ct cc) hr.depth (KX _ _ lk) rfl lim (PySem.W.codeRec_of KX hcd) rfl hb S.nocell hloc (fun h₁ hns hk₁ => ?_) S.co S.gen S.kind
  obtain ⟨a, vs', ta, t, rfl, ha, hA, ht, hq⟩ := hbody A outer s H vs Q E (hr.deeper _) hsp
  have I : Inv (cxE CX P w K mg base N qual scope f (.ref cda) cc A outer s H E) [] (L2.start N (.ref a :: vs')) H { s with heap := h₁, toks := s.toks + (ps.zip us).length } := inv_startE S hr.hd e0 hl r hcell hns hk₁
  cases r with
  | @cons _ u0 _ us' ra r' =>
  obtain rfl : u0 = Value.ref a := ra
  subst hps
  obtain ⟨t1, hoe⟩ := exo_at I.hok ha
  obtain ⟨nm, q, Nn, bs, bm, sn, sub, ab, col, dd, k0, k1, k2, k3, k5, hC, hbm⟩ := T.oex.cls
  have hclC : PySem.W.clsIn K C = some { name := nm, bases := bs, mro := .ref C :: bm, ns := Nn, qualname := q, hasDict := true, slotNames := sn, subclasses := sub, abstract := ab, collection := col, hasDel := false } := by unfold PySem.W.clsIn; rw [hC] <;> rfl
  have XI : K.In h₁ := I.kIn
  have J0 : PySem.W.InstAt h₁ a (PySem.HandSPX.excO C t1) C none := ⟨hoe, rfl, rfl, trivial⟩
  have hne := PySem.W.ks_ne XI J0 hclC
  have hclH : ∃ cdC, K.lookup C = some ⟨_, _, .cls cdC, _⟩ := ⟨_, hC⟩
  refine PySem.ks_wpAt_execs_cons (PySem.ks_wpAt_Expr_any (PySem.ks_wpAt_MethodCall (pl := pl _) ?_ (hc _)) I.quiet (hs _))
  refine PySem.ks_wpAt_super_base (f := f) (cc := cda) (fd := ksFn name qual params (.Expr (.Call (.Attribute (.Call (.Name "super" p0) [] [] p1) "__init__" p2) (e :: es) [] p3) p4 :: rest) scope dV kV doc pm an (.ref cda) ct cc) (ar := ar) S.sup S.cls (by decide) rfl (XI _ _ lk) rfl hp rfl (XI _ _ hcode) rfl hvs hfile T.top ?_
  obtain ⟨mb, hb1, hb2⟩ := I.mod.blt
  refine PySem.W.ks_loadName_global S.kind S.sup (Calls.loadGlobal_builtin (I.mod.glob.keeps I.bk) T.mgS (hb1.keeps I.bk) ((hb2 _ (by decide)).trans (by first | rfl | decide +kernel)) ⟨rfl, ?_⟩)
  refine wpAny_loadName_free S.kind S.cls rfl ⟨_, XI _ _ hcell, rfl⟩ ?_
  refine wpAny_loadName_local S.kind (S.par _ List.mem_cons_self) hns (v := .ref a) (lookup_rev_zip (i := 0) (by rw [← S.pre]; exact S.nd.sublist (List.take_sublist _ _)) rfl rfl) ?_
  have hDC := XI _ _ hC
  refine PySem.ks_wpAny_isType_cls hDC rfl ⟨rfl, ?_⟩
  refine PySem.ks_wpAny_call_super hDC rfl hoe rfl (fun c z => nomatch z) (PySem.W.looks_mroIn XI T.sub) (fun h₂ hso k₂ => ?_)
  have I2 := I.kept (t' := s.toks + (((ar.arg :: ps').zip (Value.ref a :: us')).length)) k₂
  have XI2 : K.In h₂ := I2.kIn
  have hsup := T.sup
  unfold PySem.W.ks_superIn at hsup
  rw [hclC] at hsup
  have J2 : PySem.W.InstAt h₂ a (PySem.HandSPX.excO C t1) C none := ⟨k₂ _ _ hoe, rfl, rfl, trivial⟩
  refine PySem.W.kxs_getMethod PySem.W.kxs_ValueError hso (PySem.W.looks_opaque XI2 T.op) (l₀ := .ref C :: bm) ?_ rfl XI2 hsup (J2.type.andThen (PySem.W.looks_subIn XI2 T.subV)) hne (by decide) ?_
  · exact fun A Q E s k q => wpAny_bind ((PySem.W.looks_clsIn XI2 hclC) A _ E s k (wpAny_pure q))
  have k₃ : ∀ b o, h₂.get? b = some o → (h₂.push (PySem.W.kxs_mw "ValueError.__init__" a)).get? b = some o := fun b o z => Heap.get?_push_of_some _ z
  have hu : (h₂.push (PySem.W.kxs_mw "ValueError.__init__" a)).get? h₂.objs.size = some (PySem.W.kxs_mw "ValueError.__init__" a) := Heap.get?_push_at rfl rfl
  have hfr : H h₂.objs.size = none := I2.hok.fresh (Nat.le_refl _)
  have I3 := (I2.kept (t' := s.toks + (((ar.arg :: ps').zip (Value.ref a :: us')).length) + 1) k₃)
  have I4 := I3.pins_of (pins' := [(h₂.objs.size, PySem.W.kxs_mw "ValueError.__init__" a)]) (fun p hp => by
    rw [List.mem_singleton] at hp
    subst hp
    refine ⟨hu, hfr, fun z => ?_, ?_, fun v z => nomatch z⟩
    · have := I2.lt
      rw [← z] at this
      exact absurd this (Nat.lt_irrefl _)
    · exact I2.nofs (Nat.le_refl _))
  refine callWith_mw (x := a) (thn (hA.run p3 _ _ (L2.start N (.ref a :: vs')) H _ I4 hq) fun wsv s1 ⟨ws, H1, I5, r5, hwl, ha1, q5⟩ => ⟨(I5.pin _ (List.mem_append_right _ List.mem_cons_self)).1, ?_⟩) (he _) (hpl _)
  obtain ⟨t5, ho5⟩ := exo_at I5.hok ha1
  have hu5 := (I5.pin _ (List.mem_append_right _ List.mem_cons_self)).1
  have XI5 := I5.kIn
  have hlen : wsv.length ≤ sizeLine := by
    rw [← Paired.length r5, sizeLine_eq]
    omega
  obtain ⟨hp5, g5, d5, tk5, os5⟩ := s1
  refine call_mw (XI5 _ _ hC) ho5 hu5 hlen fun h6 t6 k6 hx6 => ?_
  have I5' := I5.unpinned (pins := []) (pl := [(h₂.objs.size, PySem.W.kxs_mw "ValueError.__init__" a)])
  have J := I5'.write (t' := tk5) (x := a) (e := a) (o := exo a C none) (by rw [ha1]; exact True.intro) (.inl rfl) k6 ⟨_, hx6⟩ (exo_ok hx6)
  have eu : upd H1 a (exo a C none) = H1 := by
    funext b
    by_cases hb : b = a
    · rw [hb, upd_same, ha1]
    · rw [upd_ne hb]
  rw [eu] at J
  show _root_.PySem.wpAt _ _ _ (execs rest _) _ _ _
  refine wpAt_of_wpAny (wpAny_mono (ht.run [] _ (L2.start N (.ref a :: vs')) H1 _ J q5) (fun fl s' hs => ?_) fun e s' hs => hs)
  have fin : ∀ {σ' : L2.St} {H' : Hp} {v : V} {u : Value}, Inv (cxE CX P w K mg base N qual scope f (.ref cda) cc A outer s H E) [] σ' H' s' → RelV v u → Q v H' → CE outer P w H s Q u s' :=
    fun {σ' H' v u} J rv q => ⟨v, H', J.os, J.bare, J.base, J.hok, rv, q⟩
  cases fl with
  | ret u =>
    obtain ⟨v, σ', H', J, rv, q⟩ := hs
    exact fin J rv q
  | next =>
    obtain ⟨σ', H', J, q⟩ := hs
    exact fin (v := V.non) (u := Value.none) J rfl q
  | brk =>
    obtain ⟨_, _, _, q⟩ := hs
    exact False.elim q
  | cont =>
    obtain ⟨_, _, _, q⟩ := hs
    exact False.elim q
end EP
namespace EP
open PySem L2 PySem.Spec PyProof.Rows
open PySem.W (ksFn ksEnv)
open L2H (RoomH roomH_of)

/-! ### a def that may raise, called where it does not -/
theorem pass_no {X : Cx} : Passes (L2.CX X.prog X.w) X E0 := fun _ _ _ _ _ _ _ h => by
  obtain ⟨_, _, _, _, _, _, _, _, _, _, _, _, z⟩ := h
  exact z.elim

/-! ### making an exception -/
theorem pmk_imp {X : Cx} {e : Expr} {t t' : L2.St → Hp → XK → Prop} (h : PMk X e t) (i : ∀ σ H Q, t' σ H Q → t σ H Q) : PMk X e t' := fun pins s σ H Q I q => h pins s σ H Q I (i _ _ _ q)
/-- C(e): the made exception has one attribute, the value -/
def tMkS (C : Addr) (f : Str) (ok : V → Hp → Prop) (ta : TA) : L2.St → Hp → XK → Prop := fun σ H Q => ta σ H fun vs H1 => ∃ v, vs = [v] ∧ ok v H1 ∧ ∀ d, H1 d = none → Q (.ref C) (some d) (upd H1 d (.xd [(f, v)]))
/-- what such an __init__ promises -/
def spExc (C : Addr) (f : Str) (ok : V → Hp → Prop) : Sp := fun vs H Q _ => ∃ (a : Addr) (v : V) (H0 : Hp), vs = [.ref a, v] ∧ H0 a = none ∧ H = upd H0 a (exo a C none) ∧ ok v H0 ∧ ∀ d, H0 d = none → d ≠ a → Q .non (upd (upd H d (exd d [(f, v)])) a (exo a C (some d)))
theorem mkS_of {C : Addr} {f : Str} {ok : V → Hp → Prop} {ta : TA} (mono : ∀ σ H (Q Q' : List V → Hp → Prop), (∀ vs H1, Q vs H1 → Q' vs H1) → ta σ H Q → ta σ H Q') {σ : L2.St} {H : Hp} {Q : XK} (h : tMkS C f ok ta σ H Q) : tMkO C (spExc C f ok) [] ta σ H Q := by
  refine mono σ H _ _ (fun vs H1 q => ?_) h
  obtain ⟨v, rfl, hv, q⟩ := q
  refine ⟨(by show 1 ≤ 1000; decide), fun a ha => ?_⟩
  refine ⟨a, v, H1, rfl, ha, rfl, hv, fun d hd hda => ⟨rfl, d, [(f, v)], upd_same, ?_, hd, ?_⟩⟩
  · rw [upd_ne hda, upd_same]
  · have e : upd (L2.del (upd (upd (upd H1 a (exo a C none)) d (exd d [(f, v)])) a (exo a C (some d))) a) d (.xd [(f, v)]) = upd H1 d (.xd [(f, v)]) := by
      funext b
      by_cases hb : b = d
      · rw [hb, upd_same, upd_same]
      · rw [upd_ne hb, upd_ne hb]
        by_cases hba : b = a
        · rw [hba, del_same, ha]
        · rw [del_ne hba, upd_ne hba, upd_ne hb, upd_ne hba]
    rw [e]
    exact q d hd

/-! ### isinstance of a caught exception with attributes -/
theorem call_isD {X : Cx} {a D : Addr} {oe : Obj} {d : Addr} {pn : List (Addr × Obj)} (C : ExcC X.K D) (hz : Zc (.ref D) (some d) oe) (hf : ∃ vs, oe.data = .fields vs) :
    CallR (X.suite a ((a, oe) :: pn)) (.builtin "isinstance") (fun xs H Q => (∃ fs, H d = some (.xd fs)) ∧ rIsE X.K D a xs H Q) := by
  intro pins s σ H xs us Q I r h
  obtain ⟨⟨fs, hd⟩, c, cv, b, rfl, hcv, e, q⟩ := h
  cases r with
  | cons rx rr =>
    cases rr with
    | cons rt rr =>
      cases rr
      cases rx
      have ec := hcv _ rt
      subst ec
      obtain ⟨hget, _⟩ := I.pin (a, oe) (List.mem_append.mpr (.inl List.mem_cons_self))
      obtain ⟨vs, hv⟩ := hf
      have hx : ObjOk X.prog X.w H s.heap d (.xd fs) := I.hok d _ hd
      obtain ⟨mA, hns, hr⟩ := hx
      obtain ⟨od, ho, hl⟩ := lookIn_ns hns
      have J : PySem.W.InstAt s.heap a oe D (some od) := ⟨hget, hz.1, by unfold PySem.W.notCls; rw [hv] <;> rfl, by rw [hz.2]; exact ho⟩
      have hcl : (PySem.W.clsIn X.K D).isSome = true := by
        obtain ⟨cd, hc, _⟩ := PySem.W.any_some C.hd
        rw [hc]; rfl
      exact PySem.W.kia_one (PySem.W.kitx_exc hcl C.hg C.hk C.hs C.ha C.hn C.ht C.hm) I.kIn J e (fun z => nomatch z) fun tk => ⟨.bl b, H, I.kept (t' := tk) fun _ _ z => z, rfl, q⟩

theorem room_mark {A : Around} {k j : Nat} {x : Option Value} (hr : Room k A) (h : j ≤ k) : RoomH j (A.mark x) := L2H.RoomH.mono (k := k) ⟨hr.dp, hr.un⟩ h
/-! ### a def that is called within an except suite and raises nothing -/
structure FnQ (P : Program) (w : World) (K : PySem.W.Frag) (mg : Str → Option Value) (base : Heap) (k : Nat) (f : Addr) (fd : FuncData) (ps : List Str) (sp : Sp) : Prop where
  len : ∀ vs H Q E, sp vs H Q E → vs.length = ps.length
  run : ∀ (A : Around) (outer : List Env) (s : Shared) (H : Hp) (args : Args) (us : List Value) (vs : List V) (Q : VK), RoomH k A → Env0 P w K mg base A outer s H → BindsTo s fd args (ps.zip us) → Vals vs us → sp vs H Q E0 →
    codeAny (model P w) A (.call (.ref f) args) (CR L2.CX0 outer P w H s Q E0) s
theorem FnQ.ok {P : Program} {w : World} {K : PySem.W.Frag} {mg : Str → Option Value} {base : Heap} {k : Nat} {f : Addr} {fd : FuncData} {ps : List Str} {sp sp' : Sp} (F : FnQ P w K mg base k f fd ps sp) (h : ∀ vs H Q E, sp' vs H Q E → sp vs H Q E0) : FnOk P w K mg base L2.CX0 k f fd ps sp' :=
  ⟨fun vs H Q E q => F.len vs H Q E0 (h _ _ _ _ q), fun A outer s H args us vs Q E hr e0 hb r q => codeAny_mono (F.run A outer s H args us vs Q (roomH_of hr) e0 hb r (h _ _ _ _ q)) fun r s' z => by
    cases r with
    | error e => exact (show False from z).elim
    | ok fl => cases fl <;> exact z⟩
def cxQ (P : Program) (w : World) (K : PySem.W.Frag) (mg : Str → Option Value) (base : Heap) (N : List Str) (qual : Str) (scope : Scope) (f : Addr) (cd : Value) (A : Around) (outer : List Env) (s : Shared) (H : Hp) : Cx :=
  { cxOf L2.CX0 P w K mg base N qual scope f cd A outer s H E0 with calm := false }
theorem fn_ofQ {P : Program} {w : World} {K : PySem.W.Frag} {mg : Str → Option Value} {base : Heap} {k : Nat} {f : Addr} {name qual : Str} {params : Arguments} {body : List Stmt} {scope : Scope} {dV kV doc pm cdv ct oc : Value} {an od : Option Addr}
    {osl : Array (Option Value)} {N ps : List Str} {sp : Sp} (lk : K.lookup f = some ⟨oc, od, .func (PySem.W.fnOf name qual params body scope dV kV doc pm an cdv ct), osl⟩) (hcd : PySem.W.codeIn K cdv qual = true) (S : FnScope N ps scope)
    (len : ∀ vs H Q E, sp vs H Q E → vs.length = ps.length)
    (hbody : ∀ (A : Around) (outer : List Env) (s : Shared) (H : Hp) (vs : List V) (Q : VK), RoomH k (A.deeper (envOfC qual scope s.heap.objs.size f cdv)) → sp vs H Q E0 →
      ∃ t, PSs (cxQ P w K mg base N qual scope f cdv A outer s H) body t ∧ t { nx := fun _ H' => Q .non H', rt := Q } (L2.start N vs) H) :
    FnQ P w K mg base (k + 1) f (PySem.W.fnOf name qual params body scope dV kV doc pm an cdv ct) ps sp := by
  refine ⟨len, fun A outer s H args us vs Q hr e0 hb r hsp => ?_⟩
  have hl := len _ _ _ _ hsp
  have KX : K.In s.heap := e0.mod.kin.keeps fun b o e => (e0.bs b o e).1
  have lim : s.heap.NoLimit := e0.mod.nolimit.keeps fun b o e => (e0.bs b o e).1
  have hkind : ∀ y ∈ ps.zip us, scope.names.lookup y.1 = some .local ∨ (scope.names.lookup y.1 = some .cell ∧ ((cellsFrom (s.heap.objs.size + 1) scope.names []).lookup y.1).isSome = true) := fun ⟨n, v⟩ hy =>
    (S.par n (List.of_mem_zip hy).1).imp id fun q => ⟨q, PySem.W.cellsFrom_some _ _ _ (.inl q)⟩
  refine codeAny_call_function hr.depth (KX _ _ lk) rfl S.co S.gen rfl (PySem.W.codeRec_of KX hcd) (hb _ _ _ _ ?_)
  refine wpAny_newFunctionEnv_cells S.kind hkind fun env he s1 x => ?_
  subst he
  refine ⟨lim.keeps x.toInCall.keep, codeAny_func ?_⟩
  obtain ⟨t, ht, hq⟩ := hbody A outer s H vs Q (hr.deeper _) hsp
  have I : Inv (cxQ P w K mg base N qual scope f cdv A outer s H) [] (L2.start N vs) H s1 := by
    have A' : Around := { A with handled := none }
    have I0 : Inv (cxOf L2.CX0 P w K mg base N qual scope f cdv { A with handled := none } outer s H E0) [] (L2.start N vs) H s1 :=
      inv_start (A := { A with handled := none }) S rfl ⟨e0.frames, e0.mod, e0.bs, e0.bsz, e0.funs, e0.frf, e0.hok, e0.bare⟩ hl r x
    have o := I0.ok
    exact ⟨⟨o.mod, o.kind, o.glob, o.blt, o.above, o.inj, o.has, o.cab, fun z => Bool.noConfusion z, Around.frames_deeper e0.frames, o.stk, o.exf, o.bs, o.bsz, o.noex, o.exfs, o.funs, o.frf⟩, I0.os, I0.bare, I0.base, I0.loc, I0.cell, I0.free, I0.freeC, I0.pin, I0.hok, I0.len⟩
  refine wpAny_mono (ht.run [] s1 (L2.start N vs) H _ I hq) (fun fl s' hs => ?_) fun e s' hs => hs
  have fin : ∀ {σ' : L2.St} {H' : Hp} {v : V} {u : Value}, Inv (cxQ P w K mg base N qual scope f cdv A outer s H) [] σ' H' s' → RelV v u → Q v H' → CE outer P w H s Q u s' :=
    fun {σ' H' v u} J rv q => ⟨v, H', J.os, J.bare, J.base, J.hok, rv, q⟩
  cases fl with
  | ret u =>
    obtain ⟨v, σ', H', J, rv, q⟩ := hs
    exact fin J rv q
  | next =>
    obtain ⟨σ', H', J, q⟩ := hs
    exact fin (v := V.non) (u := Value.none) J rfl q
  | brk => exact hs.elim fun _ z => z.elim fun _ z => z.2.elim
  | cont => exact hs.elim fun _ z => z.elim fun _ z => z.2.elim
theorem Fun.okQ {P : Program} {w : World} {K : PySem.W.Frag} {mg : Str → Option Value} {base : Heap} {x qual : Str} {st : Stmt} {f : Addr} {fd : FuncData} {N ps : List Str} {k : Nat} {sp : Sp} (F : L2.Fun K x qual st f fd) (S : FnScope N ps (defScope st)) (len : ∀ vs H Q E, sp vs H Q E → vs.length = ps.length)
    (hbody : ∀ (cdv : Value) (A : Around) (outer : List Env) (s : Shared) (H : Hp) (vs : List V) (Q : VK), RoomH k (A.deeper (envOfC qual (defScope st) s.heap.objs.size f cdv)) → sp vs H Q E0 →
      ∃ t, PSs (cxQ P w K mg base N qual (defScope st) f cdv A outer s H) (defBody st) t ∧ t { nx := fun _ H' => Q .non H', rt := Q } (L2.start N vs) H) : FnQ P w K mg base (k + 1) f fd ps sp := by
  obtain ⟨oc, od, kV, doc, pm, an, cdv, ct, osl, rfl, lk, hcd⟩ := F.ex
  exact fn_ofQ lk hcd S len fun A outer s H vs Q hr hsp => hbody cdv A outer s H vs Q hr hsp
section
variable {X : Cx} {k : Nat} {f : Addr} {fd : FuncData} {ps : List Str} {sp : Sp} {x : Str} {p pos : Pos} {e : Expr} {es : List Expr} {t : TA}
def tCallQ (sp : Sp) (t : TA) : TE := fun σ H Q => t σ H fun vs H1 => sp vs H1 Q E0
theorem pe_callQ (F : FnQ X.prog X.w X.K X.mg X.base k f fd ps sp) (hr : RoomH k X.A) (hg : Gl X x) (hm : X.mg x = some (.ref f)) (hk : PySem.W.keepIn X.K (.ref f) = true) (hb : Binds X.K fd ps [])
    (ha : PA X (e :: es) t) (hdb : (x == ("__debug__" : Str)) = false := by decide) (he : starEach (e :: es) X.env = (false, eval e X.env) :: starEach es X.env := by rfl) (hpl : (backTo pos (starEach es X.env)).any (·.1) = false := by rfl) :
    PE X (.Call (.Name x p) (e :: es) [] pos) (tCallQ sp t) := by
  refine ⟨fun pins s σ H Q I h => ?_⟩
  refine wpAny_Call_Name_kw (ld_glob I hg hm ?_ hdb)
  refine PySem.W.callWith_K (h₀ := X.base) I.ok.mod.kin hk (thn (ha.run pos pins s σ H _ I h) fun us s1 ⟨vs, H1, I1, r, q⟩ => ⟨I1.kIn, ?_⟩) he hpl
  have hl : us.length = ps.length := by rw [← r.length]; exact F.len _ _ _ _ q
  have b := hb s1 us I1.kIn (by rw [List.append_nil]; exact hl)
  rw [List.append_nil] at b
  refine wpAny_call (codeAny_mono (F.run X.A X.stack s1 H1 ⟨us, []⟩ us vs Q hr I1.env0 b r q) fun r s' hq => ?_)
  cases r with
  | error e => exact (show False from hq).elim
  | ok fl =>
    cases fl with
    | ret u => exact I1.after hq
    | next => exact False.elim hq
    | brk => exact False.elim hq
    | cont => exact False.elim hq
end
end EP
namespace EP
open PySem L2 PySem.Spec PyProof.Rows
open PySem.W (ksFn ksEnv)
open L2H (RoomH roomH_of)
/-- an own exception class as the top has made it: its name, its __init__'s long name, its attribute, its text -/
structure ExT (P : Program) (K : PySem.W.Frag) (mg : Str → Option Value) (x qual fld : Str) (st : Stmt) where
  C : Addr
  fa : Addr
  cc : Addr
  cda : Addr
  fd : FuncData
  mgX : mg x = some (.ref C)
  sup : SupC P K mg C cc cda
  lk : ∃ oc od kV doc pm an ct osl, fd = ksFn "__init__" qual (defArgs st) (defBody st) (defScope st) .none kV doc pm an (.ref cda) ct cc ∧ K.lookup fa = some ⟨oc, od, .func fd, osl⟩
  cod : PySem.W.codeIn K (.ref cda) qual = true
  iC : PySem.W.findIn K (.ref C) "__init__" = some (some (.ref fa))
  tI : PySem.W.typeIn K (.ref fa) = some (.type "function")
  xf : XfC K C
  xn : PySem.W.findIn K (.ref C) fld = some none
  ec : ExcC K C
/-- a raise's exception, once its argument is there -/
theorem mkO_intro {C : Addr} {f : Str} {ok : V → Hp → Prop} {v : V} {H1 : Hp} {Q : XK} (hv : ok v H1) (q : ∀ d, H1 d = none → Q (.ref C) (some d) (upd H1 d (.xd [(f, v)]))) :
    [v].length ≤ 1000 ∧ ∀ a, H1 a = none → spExc C f ok (.ref a :: ([v] ++ [])) (upd H1 a (exo a C none)) (fun v H2 => v = .non ∧ ∃ (d : Addr) (fs : List (Str × V)), H2 a = some (exo a C (some d)) ∧ H2 d = some (exd d fs) ∧ H1 d = none ∧ Q (.ref C) (some d) (upd (L2.del H2 a) d (.xd fs))) (fun _ _ _ => False) := by
  have h : tMkS C f ok (fun _ H Q => Q [v] H) [] H1 Q := ⟨v, rfl, hv, q⟩
  have z := mkS_of (σ := []) (H := H1) (ta := fun _ H Q => Q [v] H) (fun _ _ _ _ i z => i _ _ z) h
  exact z
/-- isinstance(e, ..) in the suite, e's class and dict told by the reading -/
def rIsG (K : PySem.W.Frag) (a : Addr) (cls : Value) (d : Option Addr) : List V → Hp → VK → Prop := fun xs H Q => ∃ (D dd : Addr) (fs : List (Str × V)) (c : V) (cv : Value) (b : Bool),
  cls = .ref D ∧ d = some dd ∧ H dd = some (.xd fs) ∧ ExcC K D ∧ xs = [.ref a, c] ∧ (∀ u, RelV c u → u = cv) ∧ PySem.W.kitOne K (.ref D) cv = some b ∧ Q (.bl b) H
theorem call_isG {X : Cx} {a : Addr} {oe : Obj} {cls : Value} {d : Option Addr} {pn : List (Addr × Obj)} (hz : Zc cls d oe) (hf : ∃ vs, oe.data = .fields vs) : CallR (X.suite a ((a, oe) :: pn)) (.builtin "isinstance") (rIsG X.K a cls d) := by
  intro pins s σ H xs us Q I r h
  obtain ⟨D, dd, fs, c, cv, b, rfl, rfl, hd, ec, rfl, hcv, e, q⟩ := h
  exact call_isD ec hz hf pins s σ H _ us Q I r ⟨⟨fs, hd⟩, c, cv, b, rfl, hcv, e, q⟩
theorem relV_ref {C : Addr} (u : Value) (h : RelV (.ref C) u) : u = .ref C := h
/-- an attribute's text in an f-string, and the bound that it wants -/
def IntS (v : V) (_ : Hp) : Prop := ∃ i : Int, v = .int i ∧ i.natAbs.log2 < 1900
theorem intS_len {i : Int} (h : i.natAbs.log2 < 1900) : (Str.ofString (toString i)).length ≤ 1901 := by
  have e := int_text_length_le (k := 1900) (by decide) h
  rw [PySem.ofString_length]
  exact e
theorem int_small {i : Int} (h : i.natAbs < 2 ^ 200) : i.natAbs.log2 < 1900 := Nat.lt_of_lt_of_le (PySem.Flt.log2_lt_of (by decide) h) (by decide)
/-- what a callee may let out is let out -/
theorem pass_up {X : Cx} {E : XK} {E₁ : Value → Shared → Prop} (hs : X.stack = X.env :: X.outer := by rfl) (hf : X.env.frame = some X.env.locals := by rfl) (hex : X.ex = [] := by rfl)
    (hx : X.xe = fun e s' => wpAny (model X.prog X.w) X.A (leaving X.env e) (fun _ s'' => L2.CX X.prog X.w X.outer X.H_0 X.s_0 E e s'') E₁ s' := by rfl) : Passes (L2.CX X.prog X.w) X E :=
  passes_call (takes_of (E := E) hs hf hex hx) fun _ _ _ _ h => h
end EP
/-! exceptions whose context is None, through defs that raise; loops in defs that an except suite calls -/
namespace EP
open PySem L2 PySem.Spec PyProof.Rows
open L2H (RoomH roomH_of HotC Hot1)
theorem mk_endN {X : Cx} {pins : List (Addr × Obj)} {σ : L2.St} {H1 H2 : Hp} {Q : XK} {hp hp2 h2 : Heap} {g1 g2 : Array GenState} {d1 d2 : Drawn} {t1 t2 : Nat} {os1 os2 : OsState} {a C d : Addr} {fs : List (Str × V)} (T : Raises X (.ref C)) (I1 : Inv X pins σ H1 ⟨hp, g1, d1, t1, os1⟩)
    (ha : hp.objs.size ≤ a) (k : ∀ b o, hp.get? b = some o → hp2.get? b = some o) (un : Un (frs X.stack) [] (upd H1 a (exo a C none)) H2 hp2 h2) (hok : HOk X.prog X.w H2 h2) (ho : os2 = os1) (hb : AllBare g2)
    (ea : H2 a = some (exo a C (some d))) (ed : H2 d = some (exd d fs)) (hd1 : H1 d = none) (q : Q (.ref C) (some d) (upd (L2.del H2 a) d (.xd fs))) : L2N.MkP X pins σ Q (.ref a) ⟨h2, g2, d2, t2, os2⟩ := by
  obtain ⟨t0, G, J, kG, ge, hoe, na⟩ := mk_end0 (d2 := d2) (t2 := t2) I1 ha k un hok ho hb ea ed hd1
  exact ⟨a, _, _, ⟨G, g2, d2, t2, os2⟩, _, .ref C, some d, rfl, J, kG, ge, hoe, ⟨rfl, rfl, fun vs e => by cases e; rfl⟩, rfl, rfl, na, rfl, hb, T, q⟩
theorem pmk_oexN {X : Cx} {CX : CXT} {x : Str} {e : Expr} {es : List Expr} {ta : TA} {p pos : Pos} {C fI : Addr} {k : Nat} {fd : FuncData} {ps : List Str} {sp : Sp} {ds : List Value} {dvs : List V} (T : OexC X.K C) (iC : PySem.W.findIn X.K (.ref C) "__init__" = some (some (.ref fI))) (tI : PySem.W.typeIn X.K (.ref fI) = some (.type "function"))
    (F1 : FnOk X.prog X.w X.K X.mg X.base CX k fI fd ps sp) (hr : Room (k + 1) X.A) (hb : Binds X.K fd ps ds) (hd : Vals dvs ds) (hx : Passes CX X (fun _ _ _ => False)) (hg : Gl X x) (hm : X.mg x = some (.ref C)) (ha : PA X (e :: es) ta)
    (hdb : (x == ("__debug__" : Str)) = false := by decide) (he : starEach (e :: es) X.env = (false, eval e X.env) :: starEach es X.env := by rfl) (hpl : (backTo pos (starEach es X.env)).any (·.1) = false := by rfl) :
    L2N.PMk X (.Call (.Name x p) (e :: es) [] pos) (tMkO C sp dvs ta) := by
  intro pins s σ H Q I h
  obtain ⟨nm, q, N, bs, bm, sn, sub, ab, col, dd, k0, k1, k2, k3, k5, hC, hbm⟩ := T.cls
  refine wpAny_Call_Name_kw (ld_glob I hg hm ?_ hdb)
  refine PySem.W.callWith_K (h₀ := X.base) I.ok.mod.kin T.kC (thn (ha.run pos pins s σ H _ I h) fun us s1 ⟨vs, H1, I1, r1, hz, q1⟩ => ⟨I1.kIn, ?_⟩) he hpl
  show wpAny _ _ (call (.ref C) us) _ _ _
  obtain ⟨hp, g, dr, tk, os⟩ := s1
  have hsz : hp.objs.size ≤ hp.objs.size + 1 := Nat.le_succ _
  have hn : H1 (hp.objs.size + 1) = none := I1.hok.fresh hsz
  have hq := q1 (hp.objs.size + 1) hn
  have kk : ∀ b o, hp.get? b = some o → ((hp.push (PySem.W.kdv_tup us)).push (PySem.HandSPX.excO C hp.objs.size)).get? b = some o := fun b o e => Heap.get?_push_of_some _ (Heap.get?_push_of_some _ e)
  have hget : ((hp.push (PySem.W.kdv_tup us)).push (PySem.HandSPX.excO C hp.objs.size)).get? (hp.objs.size + 1) = some (PySem.HandSPX.excO C hp.objs.size) := by heap_get
  have I2 : Inv X pins σ (upd H1 (hp.objs.size + 1) (exo (hp.objs.size + 1) C none)) ⟨(hp.push (PySem.W.kdv_tup us)).push (PySem.HandSPX.excO C hp.objs.size), g, dr, tk, os⟩ :=
    I1.laid (t' := tk) (a := hp.objs.size + 1) (o := exo (hp.objs.size + 1) C none) (h' := (hp.push (PySem.W.kdv_tup us)).push (PySem.HandSPX.excO C hp.objs.size)) kk hsz (exo_ok hget)
  have r2 : Vals (V.ref (hp.objs.size + 1) :: (vs ++ dvs)) (Value.ref (hp.objs.size + 1) :: (us ++ ds)) := .cons rfl (r1.append hd)
  have hl : (Value.ref (hp.objs.size + 1) :: us ++ ds).length = ps.length := by
    have e := r2.length
    rw [F1.len _ _ _ _ hq] at e
    exact e.symm
  have hus : us.length ≤ sizeLine := by
    rw [← Paired.length r1, sizeLine_eq]
    omega
  refine wpAny_call (PySem.HandSPX.call_own F.excBase_ValueError (fun Y => PySem.HandSPX.refsVE_contains Y bm hbm) (I1.kIn _ _ hC) (PySem.W.looks_findIn I1.kIn iC) (fun self => PySem.W.bind_fn I1.kIn self tI) hus
    (codeAny_mono (F1.run _ X.stack _ _ ⟨Value.ref (hp.objs.size + 1) :: us, []⟩ (Value.ref (hp.objs.size + 1) :: (us ++ ds)) _ _ (fun _ _ _ => False) (hr.make C us []) (I2.env0.make C us []) (hb _ (Value.ref (hp.objs.size + 1) :: us) I2.kIn hl) r2 hq) fun r s' hq' => ?_))
  cases r with
  | error er => exact hx pins σ _ _ er s' I2 hq'
  | ok fl =>
    cases fl with
    | ret u =>
      obtain ⟨v, H2, os2, bare2, un2, hok2, rv, ev, d, fs, ea, ed, hd1, q2⟩ := hq'
      subst ev
      obtain ⟨h2, g2, d2, t2, os'⟩ := s'
      exact ⟨rv, mk_endN (raises_own T.exC T.tyC) I1 hsz kk un2 hok2 os2 bare2 ea ed hd1 q2⟩
    | next => exact False.elim hq'
    | brk => exact False.elim hq'
    | cont => exact False.elim hq'
theorem takes0N {X : Cx} : L2N.Takes X (fun _ _ _ _ => False) := fun _ _ x => by
  obtain ⟨_, _, _, _, _, _, _, _, _, _, _, _, _, _, _, _, z⟩ := x
  exact z.elim
theorem pass_upN {X : Cx} {E : XK} {E₁ : Value → Shared → Prop} (hs : X.stack = X.env :: X.outer := by rfl) (hf : X.env.frame = some X.env.locals := by rfl) (hex : X.ex = [] := by rfl)
    (hx : X.xe = fun e s' => wpAny (model X.prog X.w) X.A (leaving X.env e) (fun _ s'' => L2N.CX X.prog X.w X.outer X.H_0 X.s_0 E e s'') E₁ s' := by rfl) : Passes (L2N.CX X.prog X.w) X E :=
  L2N.passes_call (L2N.takes_of (E := E) hs hf hex hx) fun _ _ _ _ h => h
theorem pass_noN {X : Cx} : Passes (L2N.CX X.prog X.w) X E0 := fun _ _ _ _ _ _ _ h => by
  obtain ⟨_, _, _, _, _, _, _, _, _, _, _, _, z⟩ := h
  exact z.elim
section
variable {P : Program} {w : World} {K : PySem.W.Frag} {mg : Str → Option Value} {base : Heap}
theorem Fun.okXN {x qual : Str} {st : Stmt} {f : Addr} {fd : FuncData} {N ps : List Str} {k : Nat} {sp : Sp} (F : L2.Fun K x qual st f fd) (S : FnScope N ps (defScope st)) (len : ∀ vs H Q E, sp vs H Q E → vs.length = ps.length)
    (hbody : ∀ (cdv : Value) (A : Around) (outer : List Env) (s : Shared) (H : Hp) (vs : List V) (Q : VK) (E : XK), Room k (A.deeper (envOfC qual (defScope st) s.heap.objs.size f cdv)) → sp vs H Q E →
      ∃ t, PSs (cxOf (L2N.CX P w) P w K mg base N qual (defScope st) f cdv A outer s H E) (defBody st) t ∧ t { nx := fun _ H' => Q .non H', rt := Q } (L2.start N vs) H) : FnOk P w K mg base (L2N.CX P w) (k + 1) f fd ps sp := by
  obtain ⟨oc, od, kV, doc, pm, an, cdv, ct, osl, rfl, lk, hcd⟩ := F.ex
  exact fn_of lk hcd S len fun A outer s H vs Q E hr hsp => hbody cdv A outer s H vs Q E hr hsp
/-- a def that an except suite calls, with a loop -/
theorem Fun.okH {x qual : Str} {st : Stmt} {f : Addr} {fd : FuncData} {N ps : List Str} {k : Nat} {sp : Sp} (F : L2.Fun K x qual st f fd) (S : FnScope N ps (defScope st)) (len : ∀ vs H Q E, sp vs H Q E → vs.length = ps.length)
    (hbody : ∀ (cdv : Value) (A : Around) (outer : List Env) (s : Shared) (H : Hp) (vs : List V) (Q : VK) (E : XK) (p : Addr × Obj), Hot1 A p → RoomH k (A.deeper (envOfC qual (defScope st) s.heap.objs.size f cdv)) → sp vs H Q E →
      ∃ t, PSs (L2H.cxH L2.CX0 P w K mg base N qual (defScope st) f cdv A outer s H E p) (defBody st) t ∧ t { nx := fun _ H' => Q .non H', rt := Q } (L2.start N vs) H) : L2H.FnH P w K mg base L2.CX0 (k + 1) f fd ps sp := by
  obtain ⟨oc, od, kV, doc, pm, an, cdv, ct, osl, rfl, lk, hcd⟩ := F.ex
  exact L2H.fn_ofH lk hcd S len fun A outer s H vs Q E p hot hr hsp => hbody cdv A outer s H vs Q E p hot hr hsp
end
section
variable {X : Cx} {k : Nat} {f : Addr} {fd : FuncData} {ps : List Str} {sp : Sp} {x : Str} {p pos : Pos} {e : Expr} {es : List Expr} {t : TA}
theorem pe_callHQ (F : L2H.FnH X.prog X.w X.K X.mg X.base L2.CX0 k f fd ps sp) (hr : RoomH k X.A) (hc : HotC X) (hg : Gl X x) (hm : X.mg x = some (.ref f)) (hk : PySem.W.keepIn X.K (.ref f) = true) (hb : Binds X.K fd ps [])
    (ha : PA X (e :: es) t) (hdb : (x == ("__debug__" : Str)) = false := by decide) (he : starEach (e :: es) X.env = (false, eval e X.env) :: starEach es X.env := by rfl) (hpl : (backTo pos (starEach es X.env)).any (·.1) = false := by rfl) :
    PE X (.Call (.Name x p) (e :: es) [] pos) (tCallS sp (fun _ => E0) t) :=
  L2H.pe_callH F hr hc hg hm hk hb (fun σ _ _ _ _ _ _ h => (show False from h).elim) ha hdb he hpl
end
theorem hot_suite {X : Cx} {a : Addr} {oe : Obj} {cls : Value} {d : Option Addr} {pn : List (Addr × Obj)} (hz : L2N.Zn cls d oe) (hf : ∃ vs, oe.data = .fields vs) : HotC (X.suite a ((a, oe) :: pn)) := by
  obtain ⟨vs, hv⟩ := hf
  exact ⟨(a, oe), ⟨rfl, vs, hv, hz.2.2 vs hv⟩, List.mem_cons_self⟩
theorem hot_def {CX : CXT} {P : Program} {w : World} {K : PySem.W.Frag} {mg : Str → Option Value} {base : Heap} {N : List Str} {qual : Str} {scope : Scope} {f : Addr} {cd : Value} {A : Around} {outer : List Env} {s : Shared} {H : Hp} {E : XK} {p : Addr × Obj} (h : Hot1 A p) :
    HotC (L2H.cxH CX P w K mg base N qual scope f cd A outer s H E p) := ⟨p, ⟨h.1, h.2⟩, List.mem_cons_self⟩
end EP
namespace EP
open PySem L2
/-- an own base class of exceptions, caught -/
structure CatchB (K : PySem.W.Frag) (C : Addr) : Prop where
  exC : PySem.W.subIn K (.ref C) (.type "BaseException") = some true
  hdC : PySem.W.hasDictIn K C = true
  tyC : PySem.W.typeIn K (.ref C) = some (.type "type")
/-- isinstance of an object of an own class -/
structure InsC (K : PySem.W.Frag) (C : Addr) : Prop where
  cl : Cls K C
  ha : PySem.W.findIn K (.ref C) "__class__" = some (some (.builtin "object.__class__"))
  hn : PySem.W.specialIn K (.builtin "object.__class__") "__get__" = some (some (.builtin "getset_descriptor.__get__"))
  ht : PySem.W.takesIn K (.builtin "object.__class__") = some true
  hm : PySem.W.mroIn K C (.type "object") = some true
  hk : PySem.W.kitOne K (.ref C) (.ref C) = some true
theorem InsC.ty {K : PySem.W.Frag} {C a dx : Addr} {H : Hp} {fs : List (Str × V)} (I : InsC K C) (e : H a = some (.ins C dx fs)) : TyX K H (.ref a) (.ref C) := .base (.ins e I.cl I.ha I.hn I.ht I.hm)
end EP
namespace EP
open PySem L2
section
variable {X : Cx} {K : PySem.W.Frag}
theorem op_eqDK (hu : X.A.units + 64 < cLine) (h : X.K = K := by rfl) : OpR X (compareOp .Eq) (rEqD K) := h ▸ op_eqD hu
theorem op_neDK (hu : X.A.units + 64 < cLine) (h : X.K = K := by rfl) : OpR X (compareOp .NotEq) (rNeD K) := h ▸ op_neD hu
end
theorem hu64_mark {A : Around} {k : Nat} {x : Option Value} (hr : Room k A) : (A.mark x).units + 64 < cLine := by have := hr.un; show A.units + 64 < _; omega
end EP
namespace EP
open PySem L2
def rTupOf (K : PySem.W.Frag) : List V → Hp → VK → Prop := fun xs H Q => ∃ p ys, xs = [.ref p] ∧ ((SqL K H p ys ∧ ∀ l, H l = none → Q (.ref l) (upd H l (.tup ys))) ∨ (SqT K H p ys ∧ Q (.ref p) H))
theorem call_tuple_ofK {X : Cx} {K : PySem.W.Frag} (h : X.K = K := by rfl) : CallR X (.type "tuple") (rTupOf K) := h ▸ call_tuple_of
def rLstOf (K : PySem.W.Frag) : List V → Hp → VK → Prop := fun xs H Q => ∃ p ys, xs = [.ref p] ∧ (SqL K H p ys ∨ SqT K H p ys) ∧ ∀ l, H l = none → Q (.ref l) (upd H l (.lst ys))
theorem call_list_ofK {X : Cx} {K : PySem.W.Frag} (h : X.K = K := by rfl) : CallR X (.type "list") (rLstOf K) := h ▸ call_list_of
end EP
namespace PySem
open Sem (wp)
theorem ep_enumerate_newT (l : Addr) (items : Array Value) :
    Meets (Builtin.«enumerate.__new__» ⟨[.type "enumerate", .ref l], []⟩) (fun _ R s => s.heap.IsTuple l items ∧
      R (.ok (.ret (.ref (s.heap.push { cls := .type "tuple_iterator", data := .fields #[.ref l, .int 0 0] }).objs.size)))
        { s with heap := (s.heap.push { cls := .type "tuple_iterator", data := .fields #[.ref l, .int 0 0] }).push { cls := .type "enumerate", data := .fields #[.none, .bool false, .ref s.heap.objs.size, rawInt 0, .none, .none] } }) :=
  .of_wp fun prog w A R s h => by
    obtain ⟨hp, g, d, tk, os⟩ := s; obtain ⟨hL, h⟩ := h
    have hsub := sub_enumerate
    wp_walk using wpAny_pyIter_tuple hL
    refine wpAny_stack_any fun st => wpAny_pure ?_
    split
    · rename_i c _ _ _ _ _
      cases (c == Value.type "enumerate")
      · wp_walk using wpAny_pyIter_tuple hL
        exact ⟨_, rfl, h⟩
      · wp_walk using wpAny_pyIter_tuple hL
        exact ⟨_, rfl, h⟩
    · wp_walk using wpAny_pyIter_tuple hL
      exact ⟨_, rfl, h⟩
theorem ep_call_enumT {prog : Program} {w : World} {A : Around} {E : Value → Shared → Prop} {s : Shared} {l : Addr} {items : Array Value} {Q : Value → Shared → Prop} (hL : s.heap.IsTuple l items)
    (h : ∀ h', IsEnum h' (s.heap.objs.size + 1) s.heap.objs.size 0 .none → h'.IsTupleIter s.heap.objs.size l 0 → h'.objs.size = s.heap.objs.size + 2 →
      (∀ b o, s.heap.get? b = some o → h'.get? b = some o) → Q (.ref (s.heap.objs.size + 1)) { s with heap := h' }) :
    wpAny (model prog w) A (call (.type "enumerate") [.ref l]) Q E s := by
  refine callType_new F.called_enumerate (by decide) (F.typeCall_enumerate_1 _) (F.newCall_enumerate_1 _) (fun obj => F.args_object_init_2 obj _) F.entry_enumerate_new
    (ep_enumerate_newT l items) ⟨hL, ?_⟩
  have hz : (s.heap.push { cls := .type "tuple_iterator", data := .fields #[.ref l, .int 0 0] }).objs.size = s.heap.objs.size + 1 := Heap.size_push ..
  show _ ∧ _
  rw [hz]
  have he : IsEnum ((s.heap.push { cls := .type "tuple_iterator", data := .fields #[.ref l, .int 0 0] }).push
      { cls := .type "enumerate", data := .fields #[.none, .bool false, .ref s.heap.objs.size, rawInt 0, .none, .none] }) (s.heap.objs.size + 1) s.heap.objs.size 0 .none := by
    have := Heap.get?_push_size (s.heap.push { cls := .type "tuple_iterator", data := .fields #[.ref l, .int 0 0] })
      (o := { cls := .type "enumerate", data := .fields #[.none, .bool false, .ref s.heap.objs.size, rawInt 0, .none, .none] }) rfl
    rw [hz] at this; exact this
  refine ⟨⟨_, he, rfl⟩, h _ he ⟨_, Heap.get?_push_of_some _ (Heap.get?_push_size _ rfl), rfl, rfl⟩ (by rw [Heap.size_push, hz]) fun b o x => Heap.get?_push_of_some _ (Heap.get?_push_of_some _ x)⟩
end PySem

namespace EP
open PySem L2 PySem.Spec PyProof.Rows
/-! ### enumerate of a tuple -/
def IteT (K : PySem.W.Frag) (a : Addr) : It :=
  ⟨fun i H => ∃ (xs : List V) (x : V), SqT K H a xs ∧ xs[i]? = some x, fun i H v H' => ∃ T x, v = .ref T ∧ H T = none ∧ H' = upd H T (.tup [.int (i : Nat), x]) ∧ ∀ xs, SqT K H a xs → xs[i]? = some x, fun i H => ∃ xs : List V, SqT K H a xs ∧ xs.length = i⟩
theorem turn_enumT {P : Program} {w : World} {K : PySem.W.Frag} {elts : List Expr} {kk : Nat} {tpos : Pos} (a e it : Addr) (hae : a ≠ e) (hai : a ≠ it) :
    Turn P w K (.Tuple elts kk tpos) (IteT K a) [e, it] e (fun i h => (∃ old, IsEnum h e it ((i : Nat) : Int) old) ∧ h.IsTupleIter it a i ∧ e ≠ it) where
  mem := by simp
  obj := fun i h st b hb => by
    obtain ⟨⟨old, he⟩, ⟨o, ho, hc, hd⟩, _⟩ := st
    have e' : b = e ∨ b = it := by simpa using hb
    rcases e' with z | z
    · rw [z]; exact ⟨_, he, fun v q => nomatch q⟩
    · rw [z]; exact ⟨o, ho, fun v q => by rw [hd] at q; cases q⟩
  keep := fun i h h' st k => let ⟨⟨old, he⟩, hi, hne⟩ := st; ⟨⟨old, k e (by simp) _ he⟩, hi.at fun o q => k it (by simp) o q, hne⟩
  item := by
    intro X hP hw hK hc i pins s σ H E I hf st hg
    subst hP hw hK
    obtain ⟨⟨old, he⟩, hit, hne⟩ := st
    obtain ⟨xs, x, hq, hx⟩ := hg
    obtain ⟨its, rv, p, hz⟩ := I.tuple hq
    obtain ⟨u, hu, ru⟩ := rv.get hx
    have hel : e < s.heap.objs.size := Heap.lt_size he
    have hil : it < s.heap.objs.size := by obtain ⟨_, q, _⟩ := hit; exact Heap.lt_size q
    have D := Draws.tuple (prog := X.prog) (w := X.w) (A := X.A.in1) (show X.A.in1.handled = none from I.ok.hd hc) it a hai its.toArray
    have hil2 : i < its.toArray.size := by
      have := (List.getElem?_eq_some_iff.mp hu).1
      simpa using this
    have hei : e ∉ [it, a] := by
      intro z
      rcases List.mem_cons.mp z with z | z
      · exact hne z
      · exact hae (List.mem_singleton.mp z).symm
    refine wpAny_pyNext_enum_itemD D he ⟨hit, p⟩ hil2 hne hei fun u' h' tk hu' ho hst' hT hsz hk => ?_
    obtain ⟨hit', _⟩ := hst'
    obtain rfl : u' = u := by
      have : its[i]? = some u' := by simpa using hu'
      rw [hu] at this
      exact (Option.some.inj this).symm
    refine ⟨_, rfl, wpAny_letOwnedTupleGo_enum (s := { s with heap := h', toks := tk + 1 }) ho fun h'' he' sb => ?_⟩
    have hT2 : h''.get? s.heap.objs.size = some { cls := .type "tuple", data := .seq #[.int i tk, u'] } := (sb.2 _ (Nat.ne_of_gt hel)).trans hT
    have new : ObjOk X.prog X.w (upd H s.heap.objs.size (.tup [.int (i : Nat), x])) h'' s.heap.objs.size (.tup [.int (i : Nat), x]) :=
      ⟨by show 2 ≤ sizeLine; decide, [.int i tk, u'], .cons ⟨_, rfl⟩ (.cons ru .nil), ⟨_, hT2, rfl, _, rfl⟩⟩
    have I1 : Inv X pins σ (upd H s.heap.objs.size (.tup [.int (i : Nat), x])) { s with heap := h'', toks := tk + 1 } :=
      I.turnedNew (ch := [e, it]) (fun b ob hb q => (sb.2 b (fun z => hb (by simp [z]))).trans (hk b ob (fun z => hb (by simp [z])) (fun z => hb (by simp [z])) q)) hf (Nat.le_refl _) new
    refine ⟨.ref s.heap.objs.size, _, I1, rfl, ⟨_, x, rfl, I.hok.fresh (Nat.le_refl _), rfl, fun ys hy => by rw [I.tuple_inj hy hq]; exact hx⟩, ⟨⟨u', ?_⟩, hit'.at fun o q => (sb.2 it (Ne.symm hne)).trans q, hne⟩, fun b hb => ?_⟩
    · have e1 : ((i + 1 : Nat) : Int) = (i : Int) + 1 := by omega
      rw [e1]; exact he'
    · have hb' : b < s.heap.objs.size := by
        have e' : b = e ∨ b = it := by simpa using hb
        rcases e' with z | z
        · rw [z]; exact hel
        · rw [z]; exact hil
      rw [upd_ne (Nat.ne_of_lt hb')]
      exact (hf b hb).1
  done := by
    intro X hP hw hK hc i pins s σ H E I hf st hg
    subst hP hw hK
    obtain ⟨⟨old, he⟩, hit, hne⟩ := st
    obtain ⟨xs, hq, hx⟩ := hg
    obtain ⟨its, rv, p, hz⟩ := I.tuple hq
    obtain ⟨f0, f1, f2, f3, f4, f5⟩ := hf it (by simp)
    have hl := rv.length
    have D := Draws.tuple (prog := X.prog) (w := X.w) (A := X.A.in1) (show X.A.in1.handled = none from I.ok.hd hc) it a hai its.toArray
    have en : i = its.toArray.size := by simp; omega
    rw [en] at hit
    exact wpAny_pyNext_enum_endD D he ⟨hit, p⟩ fun h' eb => ⟨rfl, I.turned (t' := s.toks) (fun b o hb q => eb b o hb q) f0 f1 f3 f4 f5⟩
  self := fun A i s Q E st h => let ⟨⟨_, he⟩, _⟩ := st; wpAny_pyIter_enum he h
def iEnumS (K : PySem.W.Frag) (ta : TA) : TI := fun σ H R => ta σ H fun vs H1 => ∃ a xs, vs = [.ref a] ∧ ((SqL K H1 a xs ∧ R (Ite K a) H1) ∨ (SqT K H1 a xs ∧ R (IteT K a) H1))
theorem pi_enumS {X : Cx} {e : Expr} {ta : TA} {p pos tpos : Pos} {elts : List Expr} {kk : Nat} (hg : Gl X "enumerate") (hm : X.mg "enumerate" = none) (ha : PA X [e] ta) (hs : starEach [e] X.env = [(false, eval e X.env)] := by rfl) :
    PI X (.Tuple elts kk tpos) (.Call (.Name "enumerate" p) [e] [] pos) (iEnumS X.K ta) := by
  refine ⟨fun pins s σ H R I h => ?_⟩
  refine Call_ (ld_blt I hg hm boot_enumerate (PyProof.Rows.callWith_type1 (thn (ha.run pos pins s σ H _ I h) fun us s1 ⟨vs, H1, I1, r1, q1⟩ => ?_) hs rfl))
  obtain ⟨a, xs, ex, q⟩ := q1
  subst ex
  cases r1 with
  | cons r rr =>
    cases rr
    cases r
    have fin : ∀ b ∈ [s1.heap.objs.size + 1, s1.heap.objs.size], s1.heap.objs.size ≤ b := fun b hb => by
      have e' : b = s1.heap.objs.size + 1 ∨ b = s1.heap.objs.size := by simpa using hb
      rcases e' with z | z
      · rw [z]; exact Nat.le_add_right _ _
      · rw [z]; exact Nat.le_refl _
    rcases q with ⟨hq, q⟩ | ⟨hq, q⟩
    · obtain ⟨its, rv, p', hz⟩ := I1.list hq
      refine call_enumerate_list p'.isList fun h' he hit hsz hk => wpAny_pyIter_enum he ?_
      have I2 : Inv X pins σ H1 { s1 with heap := h' } := I1.kept (t' := s1.toks) hk
      refine ⟨s1.heap.objs.size + 1, [s1.heap.objs.size + 1, s1.heap.objs.size], _, _, H1, rfl, I2, turn_enum a (s1.heap.objs.size + 1) s1.heap.objs.size, ⟨⟨.none, he⟩, hit, Nat.succ_ne_self _⟩, fun b hb => ?_, q⟩
      exact I1.fpOk (fin b hb) (I1.hok.fresh (fin b hb))
    · obtain ⟨its, rv, p', hz⟩ := I1.tuple hq
      have hal : a < s1.heap.objs.size := by obtain ⟨_, z, _⟩ := p'; exact Heap.lt_size z
      refine ep_call_enumT (show s1.heap.IsTuple a its.toArray from p') fun h' he hit hsz hk => wpAny_pyIter_enum he ?_
      have I2 : Inv X pins σ H1 { s1 with heap := h' } := I1.kept (t' := s1.toks) hk
      refine ⟨s1.heap.objs.size + 1, [s1.heap.objs.size + 1, s1.heap.objs.size], _, _, H1, rfl, I2, turn_enumT a (s1.heap.objs.size + 1) s1.heap.objs.size (Nat.ne_of_lt (Nat.lt_succ_of_lt hal)) (Nat.ne_of_lt hal), ⟨⟨.none, he⟩, hit, Nat.succ_ne_self _⟩, fun b hb => ?_, q⟩
      exact I1.fpOk (fin b hb) (I1.hok.fresh (fin b hb))
end EP

namespace EP
open PySem L2 PySem.Spec PyProof.Rows
section
variable {X : Cx} {CX : CXT} {k : Nat} {f C : Addr} {fd : FuncData} {ps : List Str} {sp : Sp} {E : L2.St → XK} {x : Str} {p pos : Pos} {e : Expr} {es : List Expr} {t : TA}
/-- C(e, ..), what it raises wished for at the slots -/
def tMakeT (C : Addr) (sp : Sp) (E : L2.St → XK) (t : TA) : TE := fun σ H Q => t σ H fun vs H1 => ∀ x dx, H1 x = none → H1 dx = none → dx ≠ x →
  sp (.ref x :: vs) (upd (upd H1 dx (.own x)) x (.ins C dx [])) (fun v H2 => v = .non ∧ Q (.ref x) H2) (E σ)
theorem run_makeT {pins : List (Addr × Obj)} {σ : L2.St} {H : Hp} {s : Shared} {Q : VK} {us : List Value} {vs : List V} (M : Mk X.K C f) (F : FnOk X.prog X.w X.K X.mg X.base CX k f fd ps sp) (hr : Room (k + 1) X.A) (hb : Binds X.K fd ps [])
    (hx : PassesAt CX X σ (E σ)) (I : Inv X pins σ H s) (r : Vals vs us)
    (h : ∀ x dx, H x = none → H dx = none → dx ≠ x → sp (.ref x :: vs) (upd (upd H dx (.own x)) x (.ins C dx [])) (fun v H2 => v = .non ∧ Q (.ref x) H2) (E σ)) :
    wpAny (model X.prog X.w) X.A (call (.ref C) us) (EP X pins σ Q) X.xe s := by
  have hq := h (s.heap.objs.size + 1) s.heap.objs.size (I.hok.fresh (Nat.le_succ _)) (I.hok.fresh (Nat.le_refl _)) (Nat.ne_of_lt (Nat.lt_succ_self _))
  have I2 := Inv.made (C := C) I
  have r2 : Vals (V.ref (s.heap.objs.size + 1) :: vs) (Value.ref (s.heap.objs.size + 1) :: us) := .cons rfl r
  have hl : (Value.ref (s.heap.objs.size + 1) :: us ++ []).length = ps.length := by
    have e := r2.length
    rw [F.len _ _ _ _ hq] at e
    rw [List.append_nil]
    exact e.symm
  have b := hb _ (Value.ref (s.heap.objs.size + 1) :: us) I2.kIn hl
  rw [List.append_nil] at b
  refine wpAny_call (make_map (f := f) I.kIn M.makes M.init (beq_iff_eq.mp M.fn) (codeAny_mono (F.run _ X.stack _ _ ⟨Value.ref (s.heap.objs.size + 1) :: us, []⟩ (Value.ref (s.heap.objs.size + 1) :: us) _ _ (E σ) (hr.make C us [])
    (I2.env0.make C us []) b r2 hq) fun r s' hq' => ?_))
  cases r with
  | error e => exact hx pins _ _ e s' I2 hq'
  | ok fl =>
    cases fl with
    | ret u =>
      obtain ⟨v, H', I3, rv, ev, q3⟩ := I2.after hq'
      subst ev
      exact ⟨rv, ⟨V.ref (s.heap.objs.size + 1), H', I3, rfl, q3⟩⟩
    | next => exact False.elim hq'
    | brk => exact False.elim hq'
    | cont => exact False.elim hq'
theorem pe_makeT (M : Mk X.K C f) (F : FnOk X.prog X.w X.K X.mg X.base CX k f fd ps sp) (hr : Room (k + 1) X.A) (hg : Gl X x) (hm : X.mg x = some (.ref C)) (hb : Binds X.K fd ps []) (hx : ∀ σ, PassesAt CX X σ (E σ))
    (ha : PA X (e :: es) t) (hdb : (x == ("__debug__" : Str)) = false := by decide) (he : starEach (e :: es) X.env = (false, eval e X.env) :: starEach es X.env := by rfl) (hpl : (backTo pos (starEach es X.env)).any (·.1) = false := by rfl) :
    PE X (.Call (.Name x p) (e :: es) [] pos) (tMakeT C sp E t) := by
  refine ⟨fun pins s σ H Q I h => ?_⟩
  refine wpAny_Call_Name_kw (ld_glob I hg hm ?_ hdb)
  refine PySem.W.callWith_K (h₀ := X.base) I.ok.mod.kin M.kp (thn (ha.run pos pins s σ H _ I h) fun us s1 ⟨vs, H1, I1, r, q⟩ => ⟨I1.kIn, ?_⟩) he hpl
  exact run_makeT M F hr hb (hx σ) I1 r q
end
end EP
/-! Small trees by their lists of parents: chains, branches, middles. Plain mathematics. -/
namespace Tr
def Ok (ps : List Nat) : Prop := ∀ (i p : Nat), ps[i]? = some p → p ≤ i
def par (ps : List Nat) (p : Nat) : Nat := min (ps.getD (p - 1) 0) (p - 1)
theorem par_lt (ps : List Nat) {p : Nat} (h : 1 ≤ p) : par ps p < p := by unfold par; omega
theorem par_eq {ps : List Nat} (o : Ok ps) {p : Nat} (h : 1 ≤ p) (hp : p ≤ ps.length) : ps[p - 1]? = some (par ps p) := by
  have hl : p - 1 < ps.length := by omega
  have e := List.getElem?_eq_getElem hl
  have q := o _ _ e
  unfold par
  rw [e, List.getD_eq_getElem?_getD, e]
  simp only [Option.getD_some]
  congr 1
  omega
/-- the positions from p up to the root, without it -/
def up (ps : List Nat) : Nat → List Nat
  | 0 => []
  | p + 1 => (p + 1) :: up ps (par ps (p + 1))
termination_by p => p
decreasing_by exact par_lt ps (by omega)
theorem up_zero (ps : List Nat) : up ps 0 = [] := by rw [up]
theorem up_pos (ps : List Nat) {p : Nat} (h : 1 ≤ p) : up ps p = p :: up ps (par ps p) := by
  obtain ⟨q, rfl⟩ : ∃ q, p = q + 1 := ⟨p - 1, by omega⟩
  rw [up]
theorem up_le (ps : List Nat) : ∀ (p : Nat) {w : Nat}, w ∈ up ps p → 1 ≤ w ∧ w ≤ p := by
  intro p
  induction p using Nat.strongRecOn with
  | _ p ih =>
    intro w h
    by_cases hp : 1 ≤ p
    · rw [up_pos ps hp, List.mem_cons] at h
      rcases h with rfl | h
      · omega
      · have l := par_lt ps hp
        have q := ih _ l h
        omega
    · obtain rfl : p = 0 := by omega
      rw [up_zero] at h
      cases h
theorem up_self (ps : List Nat) {p : Nat} (h : 1 ≤ p) : p ∈ up ps p := by rw [up_pos ps h]; exact List.mem_cons_self
theorem up_trans (ps : List Nat) : ∀ (p : Nat) {v w : Nat}, v ∈ up ps p → w ∈ up ps v → w ∈ up ps p := by
  intro p
  induction p using Nat.strongRecOn with
  | _ p ih =>
    intro v w h1 h2
    by_cases hp : 1 ≤ p
    · rw [up_pos ps hp, List.mem_cons] at h1
      rcases h1 with rfl | h1
      · exact h2
      · rw [up_pos ps hp]
        exact List.mem_cons_of_mem _ (ih _ (par_lt ps hp) h1 h2)
    · obtain rfl : p = 0 := by omega
      rw [up_zero] at h1
      cases h1
theorem up_cmp (ps : List Nat) : ∀ (p : Nat) {v w : Nat}, v ∈ up ps p → w ∈ up ps p → w ≤ v → w ∈ up ps v := by
  intro p
  induction p using Nat.strongRecOn with
  | _ p ih =>
    intro v w h1 h2 hl
    by_cases hp : 1 ≤ p
    · have h1' := h1
      rw [up_pos ps hp, List.mem_cons] at h1
      rcases h1 with rfl | h1
      · exact h2
      · have lt := par_lt ps hp
        have lv := up_le ps _ h1
        rw [up_pos ps hp, List.mem_cons] at h2
        rcases h2 with rfl | h2
        · omega
        · exact ih _ lt h1 h2 hl
    · obtain rfl : p = 0 := by omega
      rw [up_zero] at h1
      cases h1
/-- position p has side w -/
def has (ps : List Nat) (p w : Nat) : Bool := decide (w ∈ up ps p)
theorem has_iff {ps : List Nat} {p w : Nat} : has ps p w = true ↔ w ∈ up ps p := by unfold has; exact decide_eq_true_iff
theorem same_of {ps : List Nat} {n p q : Nat} (hp : p ≤ n) (hq : q ≤ n) (h : ∀ k, 1 ≤ k → k ≤ n → has ps p k = has ps q k) : p = q := by
  have one : ∀ {a b : Nat}, a ≤ n → (∀ k, 1 ≤ k → k ≤ n → has ps a k = has ps b k) → a ≤ b := by
    intro a b ha h
    by_cases h1 : 1 ≤ a
    · have e := h a h1 ha
      rw [has_iff.mpr (up_self ps h1)] at e
      exact (up_le ps _ (has_iff.mp e.symm)).2
    · omega
  have a := one hp h
  have b := one hq (fun k h1 h2 => (h k h1 h2).symm)
  omega
/-! ### branches as bits -/
/-- q stands in the branch of b, as far as the walls above j are taken over -/
def inB (ps : List Nat) (j b q : Nat) : Prop := q = b ∨ ∃ c, c ∈ up ps q ∧ par ps c = b ∧ j < c
theorem inB_far {ps : List Nat} {n b q : Nat} (hq : q ≤ n) : inB ps n b q ↔ q = b := by
  constructor
  · rintro (h | ⟨c, h1, _, h3⟩)
    · exact h
    · have := up_le ps _ h1; omega
  · exact Or.inl
/-- a child on the way -/
theorem child (ps : List Nat) : ∀ (q : Nat) {w : Nat}, w ∈ up ps q → q ≠ w → ∃ c, c ∈ up ps q ∧ par ps c = w := by
  intro q
  induction q using Nat.strongRecOn with
  | _ q ih =>
    intro w h hne
    by_cases hq : 1 ≤ q
    · rw [up_pos ps hq, List.mem_cons] at h
      rcases h with h | h
      · exact absurd h.symm hne
      · by_cases e : par ps q = w
        · exact ⟨q, up_self ps hq, e⟩
        · obtain ⟨c, h1, h2⟩ := ih _ (par_lt ps hq) h e
          exact ⟨c, by rw [up_pos ps hq]; exact List.mem_cons_of_mem _ h1, h2⟩
    · obtain rfl : q = 0 := by omega
      rw [up_zero] at h
      cases h
theorem par_mem (ps : List Nat) : ∀ (q : Nat) {c : Nat}, c ∈ up ps q → 1 ≤ par ps c → par ps c ∈ up ps q := by
  intro q c h h1
  have hc := (up_le ps _ h).1
  refine up_trans ps q h ?_
  rw [up_pos ps hc]
  exact List.mem_cons_of_mem _ (up_self ps h1)
theorem inB_self {ps : List Nat} {w q : Nat} (hw : 1 ≤ w) : inB ps w w q ↔ w ∈ up ps q := by
  constructor
  · rintro (rfl | ⟨c, h1, h2, _⟩)
    · exact up_self ps hw
    · rw [← h2]; exact par_mem ps q h1 (by omega)
  · intro h
    by_cases e : q = w
    · exact Or.inl e
    · obtain ⟨c, h1, h2⟩ := child ps q h e
      have hc := (up_le ps _ h1).1
      have := par_lt ps hc
      exact Or.inr ⟨c, h1, h2, by omega⟩
theorem inB_all {ps : List Nat} {w q : Nat} (hw : 1 ≤ w) : inB ps 0 w q ↔ w ∈ up ps q := by
  constructor
  · rintro (rfl | ⟨c, h1, h2, _⟩)
    · exact up_self ps hw
    · rw [← h2]; exact par_mem ps q h1 (by omega)
  · intro h
    rcases (inB_self hw).mpr h with e | ⟨c, h1, h2, h3⟩
    · exact Or.inl e
    · exact Or.inr ⟨c, h1, h2, by omega⟩
theorem inB_root (ps : List Nat) : ∀ q : Nat, inB ps 0 0 q := by
  intro q
  induction q using Nat.strongRecOn with
  | _ q ih =>
    by_cases hq : 1 ≤ q
    · by_cases e : par ps q = 0
      · exact Or.inr ⟨q, up_self ps hq, e, hq⟩
      · rcases ih _ (par_lt ps hq) with h | ⟨c, h1, h2, h3⟩
        · exact absurd h e
        · exact Or.inr ⟨c, by rw [up_pos ps hq]; exact List.mem_cons_of_mem _ h1, h2, h3⟩
    · exact Or.inl (by omega)
theorem inB_step {ps : List Nat} {j b q : Nat} : inB ps j b q ↔ inB ps (j + 1) b q ∨ (par ps (j + 1) = b ∧ (j + 1) ∈ up ps q) := by
  constructor
  · rintro (h | ⟨c, h1, h2, h3⟩)
    · exact Or.inl (Or.inl h)
    · by_cases e : c = j + 1
      · subst e; exact Or.inr ⟨h2, h1⟩
      · exact Or.inl (Or.inr ⟨c, h1, h2, by omega⟩)
  · rintro ((h | ⟨c, h1, h2, h3⟩) | ⟨h1, h2⟩)
    · exact Or.inl h
    · exact Or.inr ⟨c, h1, h2, by omega⟩
    · exact Or.inr ⟨j + 1, h2, h1, by omega⟩
/-- m holds the branch of b among the positions up to n -/
def Bits (ps : List Nat) (n j b m : Nat) : Prop := ∀ q, m.testBit q = true ↔ q ≤ n ∧ inB ps j b q
theorem bits_start {ps : List Nat} {n b : Nat} (hb : b ≤ n) : Bits ps n n b (2 ^ b) := by
  intro q
  rw [Nat.testBit_two_pow]
  simp only [decide_eq_true_eq]
  constructor
  · rintro rfl; exact ⟨hb, Or.inl rfl⟩
  · rintro ⟨h1, h2⟩; exact ((inB_far h1).mp h2).symm
theorem bits_or {ps : List Nat} {n j mb mw : Nat} (hb : Bits ps n (j + 1) (par ps (j + 1)) mb) (hw : Bits ps n (j + 1) (j + 1) mw) : Bits ps n j (par ps (j + 1)) (mb ||| mw) := by
  intro q
  rw [Nat.testBit_or, Bool.or_eq_true, hb q, hw q, inB_step (j := j) (b := par ps (j + 1)), inB_self (by omega)]
  constructor
  · rintro (⟨h1, h2⟩ | ⟨h1, h2⟩)
    · exact ⟨h1, Or.inl h2⟩
    · exact ⟨h1, Or.inr ⟨rfl, h2⟩⟩
  · rintro ⟨h1, h2 | ⟨_, h2⟩⟩
    · exact Or.inl ⟨h1, h2⟩
    · exact Or.inr ⟨h1, h2⟩
theorem bits_keep {ps : List Nat} {n j b m : Nat} (h : Bits ps n (j + 1) b m) (hb : par ps (j + 1) ≠ b) : Bits ps n j b m := by
  intro q
  rw [h q, inB_step (j := j) (b := b)]
  constructor
  · rintro ⟨h1, h2⟩; exact ⟨h1, Or.inl h2⟩
  · rintro ⟨h1, h2 | ⟨h2, _⟩⟩
    · exact ⟨h1, h2⟩
    · exact absurd h2 hb
theorem bits_root {ps : List Nat} {n m : Nat} (h : Bits ps n 0 0 m) : m = 2 ^ (n + 1) - 1 := by
  apply Nat.eq_of_testBit_eq
  intro q
  rw [Nat.testBit_two_pow_sub_one]
  by_cases e : q ≤ n
  · rw [(h q).mpr ⟨e, inB_root ps q⟩]
    exact (decide_eq_true (by omega)).symm
  · have z : m.testBit q = false := by
      cases hz : m.testBit q with
      | false => rfl
      | true => exact absurd ((h q).mp hz).1 e
    rw [z]
    exact (decide_eq_false (by omega)).symm
theorem bits_lt {ps : List Nat} {n j b m : Nat} (h : Bits ps n j b m) : m < 2 ^ (n + 1) := by
  apply Nat.lt_pow_two_of_testBit
  intro q hq
  cases hz : m.testBit q with
  | false => rfl
  | true => exact absurd ((h q).mp hz).1 (by omega)
/-- the mask of side w, of side -w -/
theorem mask_pos {ps : List Nat} {n w m p : Nat} (hw : 1 ≤ w) (hp : p ≤ n) (h : Bits ps n 0 w m) : m.testBit p = has ps p w := by
  have e := h p
  rw [inB_all hw] at e
  cases hz : has ps p w with
  | true => exact e.mpr ⟨hp, has_iff.mp hz⟩
  | false =>
    cases hm : m.testBit p with
    | false => rfl
    | true =>
      have := has_iff.mpr (e.mp hm).2
      rw [hz] at this
      cases this
theorem mask_neg {ps : List Nat} {n w m m0 p : Nat} (hw : 1 ≤ w) (hp : p ≤ n) (h : Bits ps n 0 w m) (h0 : Bits ps n 0 0 m0) : (m0 - m).testBit p = !has ps p w := by
  rw [bits_root h0]
  have l := bits_lt h
  have e : 2 ^ (n + 1) - 1 - m = 2 ^ (n + 1) - (m + 1) := by omega
  rw [e, Nat.testBit_two_pow_sub_succ l, mask_pos hw hp h, decide_eq_true (show p < n + 1 by omega)]
  rfl
theorem mask_le {ps : List Nat} {n w m m0 : Nat} (h : Bits ps n 0 w m) (h0 : Bits ps n 0 0 m0) : m ≤ m0 := by
  have l := bits_lt h
  rw [bits_root h0]
  omega
/-! ### the middle of an odd number of positions -/
def maj (ps : List Nat) (l : List Nat) (w : Nat) : Bool := decide (l.length < 2 * l.countP fun p => has ps p w)
/-- the greatest wall up to w whose branch holds more than half of them, or 0 -/
def mid (ps : List Nat) (l : List Nat) : Nat → Nat
  | 0 => 0
  | w + 1 => if maj ps l (w + 1) = true then w + 1 else mid ps l w
theorem mid_le (ps : List Nat) (l : List Nat) : ∀ n, mid ps l n ≤ n
  | 0 => Nat.le_refl 0
  | w + 1 => by
    unfold mid
    split
    · exact Nat.le_refl _
    · have := mid_le ps l w; omega
theorem mid_ge (ps : List Nat) (l : List Nat) : ∀ n {w : Nat}, 1 ≤ w → w ≤ n → maj ps l w = true → w ≤ mid ps l n
  | 0, w, h1, h2, _ => by omega
  | n + 1, w, h1, h2, h => by
    unfold mid
    split
    · exact h2
    · rename_i hn
      by_cases e : w = n + 1
      · subst e; exact absurd h hn
      · exact mid_ge ps l n h1 (by omega) h
theorem mid_maj (ps : List Nat) (l : List Nat) : ∀ n, 1 ≤ mid ps l n → maj ps l (mid ps l n) = true
  | 0, h => by unfold mid at h; omega
  | n + 1, h => by
    unfold mid at h ⊢
    split
    · assumption
    · rename_i hn
      rw [if_neg hn] at h
      exact mid_maj ps l n h
theorem two_maj {α : Type} (f g : α → Bool) : ∀ l : List α, l.length < l.countP f + l.countP g → ∃ x, x ∈ l ∧ f x = true ∧ g x = true
  | [], h => by simp at h
  | x :: l, h => by
    by_cases hx : f x = true ∧ g x = true
    · exact ⟨x, List.mem_cons_self, hx.1, hx.2⟩
    · have h2 : l.length < l.countP f + l.countP g := by
        rw [List.countP_cons, List.countP_cons, List.length_cons] at h
        cases hf : f x <;> cases hg : g x <;> simp [hf, hg] at h hx <;> omega
      obtain ⟨y, hy, h3⟩ := two_maj f g l h2
      exact ⟨y, List.mem_cons_of_mem _ hy, h3⟩
theorem mid_has {ps : List Nat} {l : List Nat} {n k : Nat} (h1 : 1 ≤ k) (hk : k ≤ n) : has ps (mid ps l n) k = maj ps l k := by
  cases hm : maj ps l k with
  | true =>
    have hge := mid_ge ps l n h1 hk hm
    have hmm := mid_maj ps l n (by omega)
    unfold maj at hm hmm
    have a := of_decide_eq_true hm
    have b := of_decide_eq_true hmm
    obtain ⟨x, _, hx1, hx2⟩ := two_maj (fun p => has ps p k) (fun p => has ps p (mid ps l n)) l (by omega)
    exact has_iff.mpr (up_cmp ps x (has_iff.mp hx2) (has_iff.mp hx1) hge)
  | false =>
    cases hh : has ps (mid ps l n) k with
    | false => rfl
    | true =>
      have hu := has_iff.mp hh
      have h2 := up_le ps _ hu
      have hmm := mid_maj ps l n (by omega)
      unfold maj at hm hmm
      have b := of_decide_eq_true hmm
      have a := of_decide_eq_false hm
      have c : l.countP (fun p => has ps p (mid ps l n)) ≤ l.countP fun p => has ps p k := List.countP_mono_left fun x _ hx => has_iff.mpr (up_trans ps x (has_iff.mp hx) hu)
      omega
/-- the sides' numbers that a position has -/
def side (ps : List Nat) (p k : Nat) : Int := if has ps p k = true then (k : Int) else 0 - (k : Int)
theorem side_eq {ps : List Nat} {p q k : Nat} (h : 1 ≤ k) : side ps p k = side ps q k ↔ has ps p k = has ps q k := by
  unfold side
  cases has ps p k <;> cases has ps q k <;> simp <;> omega
/-- between in the law's words -/
def betw (ps : List Nat) (n p a b : Nat) : Prop := ∀ k, 1 ≤ k → k ≤ n → side ps a k = side ps b k → side ps p k = side ps a k
theorem middle3 {ps : List Nat} {n p a b c : Nat} (hp : p ≤ n) : (betw ps n p a b ∧ betw ps n p b c ∧ betw ps n p c a) ↔ p = mid ps [a, b, c] n := by
  have m3 : ∀ k, maj ps [a, b, c] k = ((has ps a k && has ps b k) || (has ps b k && has ps c k) || (has ps c k && has ps a k)) := by
    intro k
    unfold maj
    simp only [List.countP_cons, List.countP_nil, List.length_cons, List.length_nil]
    cases has ps a k <;> cases has ps b k <;> cases has ps c k <;> decide
  constructor
  · rintro ⟨h1, h2, h3⟩
    refine same_of (ps := ps) hp (mid_le ps _ n) fun k k1 k2 => ?_
    rw [mid_has k1 k2, m3]
    have a1 := h1 k k1 k2
    have a2 := h2 k k1 k2
    have a3 := h3 k k1 k2
    rw [side_eq k1, side_eq k1] at a1 a2 a3
    revert a1 a2 a3
    cases has ps a k <;> cases has ps b k <;> cases has ps c k <;> cases has ps p k <;> simp
  · rintro rfl
    refine ⟨?_, ?_, ?_⟩ <;> (intro k k1 k2; rw [side_eq k1, side_eq k1, mid_has k1 k2, m3]; cases has ps a k <;> cases has ps b k <;> cases has ps c k <;> simp)
/-- which order the three stand in makes no difference -/
theorem mid_perm {ps : List Nat} {l l' : List Nat} (h : l.Perm l') : ∀ n, mid ps l n = mid ps l' n
  | 0 => rfl
  | n + 1 => by
    have e : maj ps l (n + 1) = maj ps l' (n + 1) := by
      unfold maj
      rw [h.length_eq, h.countP_eq]
    unfold mid
    rw [e, mid_perm h n]
end Tr
/-! Ways in a small tree. -/
namespace Tr
/-- the positions from p up to the root -/
def ch (ps : List Nat) (p : Nat) : List Nat := up ps p ++ [0]
theorem ch_zero (ps : List Nat) : ch ps 0 = [0] := by unfold ch; rw [up_zero]; rfl
theorem ch_pos (ps : List Nat) {p : Nat} (h : 1 ≤ p) : ch ps p = p :: ch ps (par ps p) := by unfold ch; rw [up_pos ps h]; rfl
theorem ch_le {ps : List Nat} {p x : Nat} (h : x ∈ ch ps p) : x ≤ p := by
  unfold ch at h
  rcases List.mem_append.mp h with h | h
  · exact (up_le ps _ h).2
  · rw [List.mem_singleton.mp h]; omega
theorem ch_head (ps : List Nat) (p : Nat) : ∃ r, ch ps p = p :: r := by
  by_cases h : 1 ≤ p
  · exact ⟨_, ch_pos ps h⟩
  · obtain rfl : p = 0 := by omega
    exact ⟨[], ch_zero ps⟩
theorem mem_ch {ps : List Nat} {p x : Nat} (hx : 1 ≤ x) : x ∈ ch ps p ↔ x ∈ up ps p := by
  unfold ch
  rw [List.mem_append, List.mem_singleton]
  constructor
  · rintro (h | h)
    · exact h
    · omega
  · exact Or.inl
theorem ch_nodup (ps : List Nat) : ∀ p : Nat, (ch ps p).Nodup := by
  intro p
  induction p using Nat.strongRecOn with
  | _ p ih =>
    by_cases h : 1 ≤ p
    · rw [ch_pos ps h]
      refine List.nodup_cons.mpr ⟨fun m => ?_, ih _ (par_lt ps h)⟩
      have := ch_le m
      have := par_lt ps h
      omega
    · obtain rfl : p = 0 := by omega
      rw [ch_zero]
      exact List.nodup_cons.mpr ⟨List.not_mem_nil, List.nodup_nil⟩
/-- where two climbs meet -/
theorem meet (ps : List Nat) : ∀ (s a b : Nat), a + b ≤ s → ∃ A B m, ch ps a = A ++ ch ps m ∧ ch ps b = B ++ ch ps m ∧ (∀ x, x ∈ A → x ∉ ch ps b) ∧ ∀ x, x ∈ B → x ∉ ch ps a := by
  intro s
  induction s with
  | zero =>
    intro a b h
    obtain rfl : a = 0 := by omega
    obtain rfl : b = 0 := by omega
    exact ⟨[], [], 0, rfl, rfl, fun x h => absurd h List.not_mem_nil, fun x h => absurd h List.not_mem_nil⟩
  | succ s ih =>
    intro a b h
    by_cases e : a = b
    · subst e
      exact ⟨[], [], a, rfl, rfl, fun x h => absurd h List.not_mem_nil, fun x h => absurd h List.not_mem_nil⟩
    · by_cases l : b < a
      · have a1 : 1 ≤ a := by omega
        have pl := par_lt ps a1
        obtain ⟨A, B, m, h1, h2, h3, h4⟩ := ih (par ps a) b (by omega)
        refine ⟨a :: A, B, m, by rw [ch_pos ps a1, h1]; rfl, h2, fun x hx => ?_, fun x hx hm => ?_⟩
        · rcases List.mem_cons.mp hx with rfl | hx
          · intro hm
            have := ch_le hm
            omega
          · exact h3 x hx
        · rw [ch_pos ps a1] at hm
          rcases List.mem_cons.mp hm with rfl | hm
          · have : x ∈ ch ps b := by rw [h2]; exact List.mem_append_left _ hx
            have := ch_le this
            omega
          · exact h4 x hx hm
      · have b1 : 1 ≤ b := by omega
        have pl := par_lt ps b1
        obtain ⟨A, B, m, h1, h2, h3, h4⟩ := ih a (par ps b) (by omega)
        refine ⟨A, b :: B, m, h1, by rw [ch_pos ps b1, h2]; rfl, fun x hx hm => ?_, fun x hx => ?_⟩
        · rw [ch_pos ps b1] at hm
          rcases List.mem_cons.mp hm with rfl | hm
          · have : x ∈ ch ps a := by rw [h1]; exact List.mem_append_left _ hx
            have := ch_le this
            omega
          · exact h3 x hx hm
        · rcases List.mem_cons.mp hx with rfl | hx
          · intro hm
            have := ch_le hm
            omega
          · exact h4 x hx
theorem filter_out {α : Type} {f : α → Bool} {A C : List α} (h1 : ∀ x, x ∈ A → f x = true) (h2 : ∀ x, x ∈ C → f x = false) : (A ++ C).filter f = A := by
  rw [List.filter_append, List.filter_eq_self.mpr h1]
  have : C.filter f = [] := List.filter_eq_nil_iff.mpr fun x hx => by rw [h2 x hx]; exact Bool.false_ne_true
  rw [this, List.append_nil]
/-- the way in the program's words -/
def before (ps : List Nat) (a b : Nat) : List Nat := (ch ps a).filter fun x => decide (x ∉ ch ps b)
def way (ps : List Nat) (a b : Nat) : List Nat := before ps a b ++ [(ch ps a).getD (before ps a b).length 0] ++ (before ps b a).reverse
theorem way_is {ps : List Nat} (a b : Nat) : ∃ A B m, ch ps a = A ++ ch ps m ∧ ch ps b = B ++ ch ps m ∧ (∀ x, x ∈ A → x ∉ ch ps b) ∧ (∀ x, x ∈ B → x ∉ ch ps a) ∧ before ps a b = A ∧ before ps b a = B ∧ (ch ps a)[A.length]? = some m ∧ way ps a b = A ++ [m] ++ B.reverse := by
  obtain ⟨A, B, m, h1, h2, h3, h4⟩ := meet ps (a + b) a b (Nat.le_refl _)
  have e1 : before ps a b = A := by
    unfold before
    conv => lhs; rw [h1]
    refine filter_out (fun x hx => decide_eq_true (h3 x hx)) fun x hx => decide_eq_false fun z => z ?_
    rw [h2]
    exact List.mem_append_right _ hx
  have e2 : before ps b a = B := by
    unfold before
    conv => lhs; rw [h2]
    refine filter_out (fun x hx => decide_eq_true (h4 x hx)) fun x hx => decide_eq_false fun z => z ?_
    rw [h1]
    exact List.mem_append_right _ hx
  obtain ⟨r, hr⟩ := ch_head ps m
  have e3 : (ch ps a)[A.length]? = some m := by rw [h1, hr, List.getElem?_append_right (Nat.le_refl _)]; simp
  refine ⟨A, B, m, h1, h2, h3, h4, e1, e2, e3, ?_⟩
  unfold way
  rw [e1, e2, List.getD_eq_getElem?_getD, e3]
  rfl
theorem way_back {ps : List Nat} (a b : Nat) : way ps b a = (way ps a b).reverse := by
  obtain ⟨A, B, m, h1, h2, h3, h4, e1, e2, e3, e⟩ := way_is (ps := ps) a b
  obtain ⟨r, hr⟩ := ch_head ps m
  have e4 : (ch ps b)[B.length]? = some m := by rw [h2, hr, List.getElem?_append_right (Nat.le_refl _)]; simp
  rw [e]
  unfold way
  rw [e1, e2, List.getD_eq_getElem?_getD, e4]
  simp
/-! ### neighbours -/
def Nb (ps : List Nat) (x y : Nat) : Prop := (1 ≤ x ∧ y = par ps x) ∨ (1 ≤ y ∧ x = par ps y)
def Adj (R : Nat → Nat → Prop) : List Nat → Prop
  | [] => True
  | [_] => True
  | x :: y :: l => R x y ∧ Adj R (y :: l)
theorem adj_at {R : Nat → Nat → Prop} : ∀ {l : List Nat} {i x y : Nat}, Adj R l → l[i]? = some x → l[i + 1]? = some y → R x y
  | [], _, _, _, _, h, _ => by simp at h
  | [_], i, _, _, _, _, h => by simp at h
  | a :: b :: l, 0, x, y, h, h1, h2 => by
    simp at h1 h2
    subst h1 h2
    exact h.1
  | a :: b :: l, i + 1, x, y, h, h1, h2 => adj_at (i := i) h.2 (by simpa using h1) (by simpa using h2)
theorem adj_left {R : Nat → Nat → Prop} : ∀ {l r : List Nat}, Adj R (l ++ r) → Adj R l
  | [], _, _ => trivial
  | [_], _, _ => trivial
  | a :: b :: l, r, h => ⟨h.1, adj_left (l := b :: l) (r := r) h.2⟩
theorem adj_join {R : Nat → Nat → Prop} {m : Nat} : ∀ {l r : List Nat}, Adj R (l ++ [m]) → Adj R (m :: r) → Adj R (l ++ m :: r)
  | [], _, _, h => h
  | [a], r, h1, h2 => ⟨h1.1, h2⟩
  | a :: b :: l, r, h1, h2 => ⟨h1.1, adj_join (l := b :: l) h1.2 h2⟩
theorem adj_snoc {R : Nat → Nat → Prop} {x : Nat} : ∀ {l : List Nat} {y : Nat}, Adj R (l ++ [y]) → R y x → Adj R (l ++ [y] ++ [x])
  | [], y, _, h => ⟨h, trivial⟩
  | [a], y, h1, h => ⟨h1.1, h, trivial⟩
  | a :: b :: l, y, h1, h => ⟨h1.1, adj_snoc (l := b :: l) h1.2 h⟩
theorem adj_rev {R : Nat → Nat → Prop} (sy : ∀ x y, R x y → R y x) : ∀ {l : List Nat}, Adj R l → Adj R l.reverse
  | [], _ => trivial
  | [_], _ => trivial
  | a :: b :: l, h => by
    have ih := adj_rev sy (l := b :: l) h.2
    rw [List.reverse_cons, List.reverse_cons] at *
    exact adj_snoc ih (sy _ _ h.1)
theorem adj_ch (ps : List Nat) : ∀ p : Nat, Adj (Nb ps) (ch ps p) := by
  intro p
  induction p using Nat.strongRecOn with
  | _ p ih =>
    by_cases h : 1 ≤ p
    · obtain ⟨r, hr⟩ := ch_head ps (par ps p)
      have i := ih _ (par_lt ps h)
      rw [ch_pos ps h, hr] at *
      exact ⟨Or.inl ⟨h, rfl⟩, i⟩
    · obtain rfl : p = 0 := by omega
      rw [ch_zero]
      trivial
theorem nb_sym {ps : List Nat} (x y : Nat) (h : Nb ps x y) : Nb ps y x := h.elim Or.inr Or.inl
theorem way_adj (ps : List Nat) (a b : Nat) : Adj (Nb ps) (way ps a b) := by
  obtain ⟨A, B, m, h1, h2, h3, h4, e1, e2, e3, e⟩ := way_is (ps := ps) a b
  obtain ⟨r, hr⟩ := ch_head ps m
  rw [e, List.append_assoc]
  have a1 : Adj (Nb ps) (A ++ [m]) := by
    have := adj_ch ps a
    rw [h1, hr, show A ++ m :: r = (A ++ [m]) ++ r by simp] at this
    exact adj_left this
  have b1 : Adj (Nb ps) (B ++ [m]) := by
    have := adj_ch ps b
    rw [h2, hr, show B ++ m :: r = (B ++ [m]) ++ r by simp] at this
    exact adj_left this
  have b2 := adj_rev nb_sym b1
  rw [List.reverse_append] at b2
  exact adj_join a1 b2
theorem way_nodup (ps : List Nat) (a b : Nat) : (way ps a b).Nodup := by
  obtain ⟨A, B, m, h1, h2, h3, h4, e1, e2, e3, e⟩ := way_is (ps := ps) a b
  obtain ⟨r, hr⟩ := ch_head ps m
  have na := ch_nodup ps a
  have nb := ch_nodup ps b
  rw [h1, hr] at na
  rw [h2, hr] at nb
  rw [e, List.append_assoc]
  have mb : m ∈ ch ps b := by rw [h2, hr]; simp
  have ma : m ∈ ch ps a := by rw [h1, hr]; simp
  refine List.nodup_append.mpr ⟨(List.nodup_append.mp na).1, ?_, ?_⟩
  · refine List.nodup_cons.mpr ⟨fun hm => h4 m (List.mem_reverse.mp hm) ma, (List.reverse_perm B).nodup_iff.mpr (List.nodup_append.mp nb).1⟩
  · rintro x hx y hy rfl
    rcases List.mem_cons.mp hy with rfl | hy
    · exact h3 x hx mb
    · refine h3 x hx ?_
      rw [h2]
      exact List.mem_append_left _ (List.mem_reverse.mp hy)
theorem way_le {ps : List Nat} {a b n x : Nat} (ha : a ≤ n) (hb : b ≤ n) (h : x ∈ way ps a b) : x ≤ n := by
  obtain ⟨A, B, m, h1, h2, h3, h4, e1, e2, e3, e⟩ := way_is (ps := ps) a b
  rw [e] at h
  obtain ⟨r, hr⟩ := ch_head ps m
  have ia : ∀ y, y ∈ A ∨ y = m → y ≤ a := fun y hy => ch_le (ps := ps) (by rw [h1, hr]; rcases hy with hy | rfl <;> simp [*])
  have ib : ∀ y, y ∈ B → y ≤ b := fun y hy => ch_le (ps := ps) (by rw [h2]; simp [hy])
  simp only [List.mem_append, List.mem_singleton, List.mem_reverse] at h
  rcases h with (h | h) | h
  · have := ia x (Or.inl h); omega
  · have := ia x (Or.inr h); omega
  · have := ib x h; omega
theorem way_first (ps : List Nat) (a b : Nat) : (way ps a b)[0]? = some a := by
  obtain ⟨A, B, m, h1, h2, h3, h4, e1, e2, e3, e⟩ := way_is (ps := ps) a b
  obtain ⟨r, hr⟩ := ch_head ps m
  obtain ⟨q, hq⟩ := ch_head ps a
  rw [e]
  rw [h1, hr] at hq
  cases A with
  | nil => simp at hq ⊢; exact hq.1
  | cons x A => simp at hq ⊢; exact hq.1
theorem way_last (ps : List Nat) (a b : Nat) : (way ps a b)[(way ps a b).length - 1]? = some b := by
  have e := way_first ps b a
  rw [way_back] at e
  have hl : 0 < (way ps a b).length := by
    cases z : way ps a b with
    | nil => rw [z] at e; simp at e
    | cons x l => simp
  rw [List.getElem?_reverse (by omega)] at e
  exact e
/-- the walls that part a and b -/
def partw (ps : List Nat) (a b k : Nat) : Bool := has ps a k != has ps b k
def parting (ps : List Nat) (a b : Nat) : List Nat := ((List.range ps.length).map (· + 1)).filter fun k => partw ps a b k
theorem parting_nodup (ps : List Nat) (a b : Nat) : (parting ps a b).Nodup := by
  unfold parting
  refine List.Nodup.sublist List.filter_sublist ?_
  exact List.pairwise_map.mpr (List.Pairwise.imp (fun {x y} (h : x ≠ y) => by omega) List.nodup_range)
theorem way_len {ps : List Nat} {a b : Nat} (ha : a ≤ ps.length) (hb : b ≤ ps.length) : (way ps a b).length = (parting ps a b).length + 1 := by
  obtain ⟨A, B, m, h1, h2, h3, h4, e1, e2, e3, e⟩ := way_is (ps := ps) a b
  obtain ⟨r, hr⟩ := ch_head ps m
  have na := ch_nodup ps a
  have nb := ch_nodup ps b
  rw [h1] at na
  rw [h2] at nb
  have nab : (A ++ B).Nodup := by
    refine List.nodup_append.mpr ⟨(List.nodup_append.mp na).1, (List.nodup_append.mp nb).1, ?_⟩
    rintro x hx y hy rfl
    refine h3 x hx ?_
    rw [h2]
    exact List.mem_append_left _ hy
  have za : (0 : Nat) ∈ ch ps a := by unfold ch; simp
  have zb : (0 : Nat) ∈ ch ps b := by unfold ch; simp
  have mem : ∀ k, k ∈ parting ps a b ↔ k ∈ A ++ B := by
    intro k
    unfold parting
    rw [List.mem_filter, List.mem_map, List.mem_append]
    constructor
    · rintro ⟨⟨j, hj, rfl⟩, hp⟩
      unfold partw at hp
      by_cases c : has ps a (j + 1) = true
      · have d : ¬ has ps b (j + 1) = true := by
          intro d
          rw [c, d] at hp
          exact absurd hp (by decide)
        have ma := (mem_ch (ps := ps) (p := a) (x := j + 1) (by omega)).mpr (has_iff.mp c)
        have mb : ¬ (j + 1) ∈ ch ps b := fun z => d (has_iff.mpr ((mem_ch (by omega)).mp z))
        rw [h1] at ma
        rcases List.mem_append.mp ma with h | h
        · exact Or.inl h
        · exact absurd (by rw [h2]; exact List.mem_append_right _ h) mb
      · have d : has ps b (j + 1) = true := by
          cases hb' : has ps b (j + 1) with
          | true => rfl
          | false =>
            have c' : has ps a (j + 1) = false := by simpa using c
            rw [c', hb'] at hp
            exact absurd hp (by decide)
        have mb := (mem_ch (ps := ps) (p := b) (x := j + 1) (by omega)).mpr (has_iff.mp d)
        have ma : ¬ (j + 1) ∈ ch ps a := fun z => c (has_iff.mpr ((mem_ch (by omega)).mp z))
        rw [h2] at mb
        rcases List.mem_append.mp mb with h | h
        · exact Or.inr h
        · exact absurd (by rw [h1]; exact List.mem_append_right _ h) ma
    · intro h
      have one : ∀ x, (x = 0 → False) → 1 ≤ x := fun x hx => by
        by_cases z : x = 0
        · exact (hx z).elim
        · omega
      rcases h with h | h
      · have k1 := one k fun z => h3 k h (by rw [z]; exact zb)
        have ka : k ∈ ch ps a := by rw [h1]; exact List.mem_append_left _ h
        have kl := ch_le ka
        refine ⟨⟨k - 1, List.mem_range.mpr (by omega), by omega⟩, ?_⟩
        have x1 : has ps a k = true := has_iff.mpr ((mem_ch k1).mp ka)
        have x2 : has ps b k = false := by
          cases z : has ps b k with
          | false => rfl
          | true => exact absurd ((mem_ch k1).mpr (has_iff.mp z)) (h3 k h)
        unfold partw
        rw [x1, x2]
        rfl
      · have k1 := one k fun z => h4 k h (by rw [z]; exact za)
        have kb : k ∈ ch ps b := by rw [h2]; exact List.mem_append_left _ h
        have kl := ch_le kb
        refine ⟨⟨k - 1, List.mem_range.mpr (by omega), by omega⟩, ?_⟩
        have x1 : has ps b k = true := has_iff.mpr ((mem_ch k1).mp kb)
        have x2 : has ps a k = false := by
          cases z : has ps a k with
          | false => rfl
          | true => exact absurd ((mem_ch k1).mpr (has_iff.mp z)) (h4 k h)
        unfold partw
        rw [x1, x2]
        rfl
  have pm := (List.perm_ext_iff_of_nodup (parting_nodup ps a b) nab).mpr mem
  rw [pm.length_eq, e]
  simp
  omega
theorem mem_bool (ps : List Nat) (a k : Nat) : decide (k ∈ up ps a) = has ps a k := rfl
end Tr
namespace EP
open PySem L2 PySem.Spec PyProof.Rows
theorem hu64_of {A : Around} {k : Nat} (hr : Room k A) : A.units + 64 < cLine := by have := hr.un; omega
/-! ### a shape's attributes -/
def shf (t d : Addr) (n : Nat) : List (Str × V) := [("parents", .ref t), ("size", .int n), ("_masks", .ref d)]
theorem shf_parents {t d : Addr} {n : Nat} : (shf t d n).lookup ("parents" : Str) = some (.ref t) := by first | rfl | kernel_rfl
theorem shf_size {t d : Addr} {n : Nat} : (shf t d n).lookup ("size" : Str) = some (.int n) := by first | rfl | kernel_rfl
theorem shf_masks {t d : Addr} {n : Nat} : (shf t d n).lookup ("_masks" : Str) = some (.ref d) := by first | rfl | kernel_rfl
def nvs (ps : List Nat) : List V := ps.map (fun (p : Nat) => V.int (p : Int))
/-- side k of a shape of size n -/
def IsSide (n : Nat) (k : Int) : Prop := k ≠ 0 ∧ -(n : Int) ≤ k ∧ k ≤ n
def IsPos (n : Nat) (p : Int) : Prop := 0 ≤ p ∧ p ≤ n
instance (n : Nat) (k : Int) : Decidable (IsSide n k) := by unfold IsSide; exact inferInstance
instance (n : Nat) (p : Int) : Decidable (IsPos n p) := by unfold IsPos; exact inferInstance
/-- position p has side k -/
def hasS (ps : List Nat) (p k : Int) : Bool := if 0 < k then Tr.has ps p.toNat k.toNat else !Tr.has ps p.toNat (-k).toNat
def MasksOk (ps : List Nat) (kvs : List (Key × V)) : Prop := ∀ w, 1 ≤ w → w ≤ ps.length → ∃ m m' : Nat, valV kvs (.inl (w : Int)) = some (.int m) ∧ valV kvs (.inl (-(w : Int))) = some (.int m') ∧
  (∀ p, p ≤ ps.length → m.testBit p = Tr.has ps p w ∧ m'.testBit p = !Tr.has ps p w) ∧ m < 2 ^ (ps.length + 1) ∧ m' < 2 ^ (ps.length + 1)
theorem bit_is (m p : Nat) : Builtin.bitAnd ((m : Int) / 2 ^ ((p : Int)).toNat) 1 = if m.testBit p = true then 1 else 0 := by
  rw [PyProof.Rows.bitAnd_m1]
  have e : ((m : Int) / 2 ^ ((p : Int)).toNat) = ((m / 2 ^ p : Nat) : Int) := by
    rw [Int.toNat_natCast]
    norm_cast
  rw [e]
  have : m.testBit p = decide (m / 2 ^ p % 2 = 1) := by
    rw [Nat.testBit_eq_decide_div_mod_eq]
  rw [this]
  by_cases h : m / 2 ^ p % 2 = 1
  · rw [if_pos (decide_eq_true h)]; omega
  · rw [if_neg (by simpa using h)]; omega
theorem mask_of {ps : List Nat} {kvs : List (Key × V)} (M : MasksOk ps kvs) {p k : Int} (hp : IsPos ps.length p) (hk : IsSide ps.length k) : ∃ m : Nat, valV kvs (.inl k) = some (.int m) ∧ m.testBit p.toNat = hasS ps p k := by
  obtain ⟨h1, h2, h3⟩ := hk
  obtain ⟨h4, h5⟩ := hp
  unfold hasS
  by_cases h0 : 0 < k
  · obtain ⟨m, m', e1, e2, e3, _⟩ := M k.toNat (by omega) (by omega)
    rw [show ((k.toNat : Nat) : Int) = k by omega] at e1
    exact ⟨m, e1, by rw [if_pos h0]; exact (e3 p.toNat (by omega)).1⟩
  · obtain ⟨m, m', e1, e2, e3, _⟩ := M (-k).toNat (by omega) (by omega)
    rw [show -(((-k).toNat : Nat) : Int) = k by omega] at e2
    exact ⟨m', e2, by rw [if_neg h0]; exact (e3 p.toNat (by omega)).2⟩
/-- .. for all positions, and its size -/
theorem mask_all {ps : List Nat} {kvs : List (Key × V)} (M : MasksOk ps kvs) {k : Int} (hk : IsSide ps.length k) : ∃ m : Nat, valV kvs (.inl k) = some (.int m) ∧ (∀ p : Nat, p ≤ ps.length → m.testBit p = hasS ps (p : Int) k) ∧ m < 2 ^ (ps.length + 1) := by
  obtain ⟨h1, h2, h3⟩ := hk
  by_cases h0 : 0 < k
  · obtain ⟨m, m', e1, e2, e3, l1, l2⟩ := M k.toNat (by omega) (by omega)
    rw [show ((k.toNat : Nat) : Int) = k by omega] at e1
    exact ⟨m, e1, fun p hp => by unfold hasS; rw [if_pos h0, Int.toNat_natCast]; exact (e3 p hp).1, l1⟩
  · obtain ⟨m, m', e1, e2, e3, l1, l2⟩ := M (-k).toNat (by omega) (by omega)
    rw [show -(((-k).toNat : Nat) : Int) = k by omega] at e2
    exact ⟨m', e2, fun p hp => by unfold hasS; rw [if_neg h0, Int.toNat_natCast]; exact (e3 p hp).2, l2⟩
/-- a Shape of these parents stands at s -/
structure ShapeAt (K : PySem.W.Frag) (C : Addr) (H : Hp) (s : Addr) (ps : List Nat) : Prop where
  ok : Tr.Ok ps
  pos : 1 ≤ ps.length
  small : ps.length ≤ 1000
  at_ : ∃ dx t d kvs, H s = some (.ins C dx (shf t d ps.length)) ∧ SqT K H t (nvs ps) ∧ H d = some (.dK kvs) ∧ MasksOk ps kvs
theorem SqT_same {K : PySem.W.Frag} {H H' : Hp} {a : Addr} {xs : List V} (e : Same H H') (h : SqT K H a xs) : SqT K H' a xs := by
  rcases h with h | h
  · refine Or.inl ?_
    rcases h with h | ⟨o, h⟩
    · exact Or.inl (e a _ h)
    · exact Or.inr ⟨o, e a _ h⟩
  · exact Or.inr h
theorem ShapeAt.same {K : PySem.W.Frag} {C : Addr} {H H' : Hp} {s : Addr} {ps : List Nat} (S : ShapeAt K C H s ps) (e : Same H H') : ShapeAt K C H' s ps := by
  obtain ⟨o, p, sm, dx, t, d, kvs, h1, h2, h3, h4⟩ := S
  exact ⟨o, p, sm, dx, t, d, kvs, e _ _ h1, SqT_same e h2, e _ _ h3, h4⟩
def Small (i : Int) : Prop := i.natAbs < 2 ^ 100
theorem Small.ok {i : Int} (h : Small i) {H : Hp} : IntS (.int i) H := ⟨i, rfl, int_small (Nat.lt_trans h (by decide))⟩
theorem same_new {H : Hp} {d : Addr} {o : HO} (h : H d = none) : Same H (upd H d o) := fun b u e => by
  rw [upd_ne (ne_of_none e h)]
  exact e
end EP
namespace EP
open PySem L2
theorem notIte {A B : Prop} {b : Bool} (ht : b = true → B) (hf : b = false → A) : if (!b) = true then A else B := by
  cases b with
  | true => exact iteF (ht rfl)
  | false => exact iteT (hf rfl)
theorem boolIte {A B : Prop} {b : Bool} (ht : b = true → A) (hf : b = false → B) : if b = true then A else B := by
  cases b with
  | true => exact iteT (ht rfl)
  | false => exact iteF (hf rfl)
theorem ifT {A B : Prop} {b : Bool} (e : b = true) (h : A) : if b = true then A else B := by rw [e]; exact iteT h
theorem ifF {A B : Prop} {b : Bool} (e : b = false) (h : B) : if b = true then A else B := by rw [e]; exact iteF h
theorem shr_ok (m : Nat) (p : Int) : Builtin.bitAnd ((m : Int) / 2 ^ p.toNat) 1 = if m.testBit p.toNat = true then 1 else 0 := by
  have := bit_is m p.toNat
  rw [Int.toNat_natCast] at this
  exact this
end EP
namespace EP
open PySem L2
theorem nvs_len (ps : List Nat) : (nvs ps).length = ps.length := by unfold nvs; rw [List.length_map]
theorem nvs_get {ps : List Nat} {i p : Nat} (h : ps[i]? = some p) : (nvs ps)[i]? = some (V.int (p : Int)) := by unfold nvs; rw [List.getElem?_map, h]; rfl
theorem nvs_set (ps : List Nat) (i m : Nat) : (nvs ps).set i (V.int (m : Int)) = nvs (ps.set i m) := by unfold nvs; rw [List.map_set]
theorem nvs_snoc (ps : List Nat) (m : Nat) : nvs ps ++ [V.int (m : Int)] = nvs (ps ++ [m]) := by unfold nvs; rw [List.map_append]; rfl
theorem nvs_of {ps : List Nat} {i : Nat} {x : V} (h : (nvs ps)[i]? = some x) : ∃ p, ps[i]? = some p ∧ x = V.int (p : Int) := by
  unfold nvs at h
  rw [List.getElem?_map] at h
  cases e : ps[i]? with
  | none => rw [e] at h; cases h
  | some p => rw [e] at h; exact ⟨p, rfl, (Option.some.inj h).symm⟩
theorem ixN_nat {n j : Nat} (h : j < n) : ixN n (j : Int) = some j := by
  unfold ixN
  rw [if_pos (by omega), if_pos (by omega)]
  rfl
theorem size_lt {n : Nat} (h : n ≤ 2000) : n < sizeLine := by rw [sizeLine_eq]; omega
theorem size_le {n : Nat} (h : n ≤ 2000) : n ≤ sizeLine := by rw [sizeLine_eq]; omega
end EP
namespace EP
open PySem L2
theorem putK_len {κ : Type} [DecidableEq κ] (kvs : List (κ × V)) (k : κ) (v : V) : (putK kvs k v).length ≤ kvs.length + 1 := by
  unfold putK
  split
  · rw [List.length_map]; omega
  · rw [List.length_append]; exact Nat.le_refl _
theorem kv_ne {i j : Int} (h : i ≠ j) : ¬ (Sum.inl i : Key) = Sum.inl j := fun e => h (by cases e; rfl)
end EP
namespace EP
open PySem L2
theorem for_enum {K : PySem.W.Frag} {a : Addr} {xs : List V} {g : TG} {tb : TS} {D : Ends} {σ : L2.St} {H : Hp} (Pv : Nat → L2.St → Hp → Prop) (h0 : Pv 0 σ H) (hl : ∀ i σ H, i ≤ xs.length → Pv i σ H → SqL K H a xs)
    (hs : ∀ i x T σ H, xs[i]? = some x → Pv i σ H → H T = none → g (.ref T) σ (upd H T (.tup [.int (i : Nat), x])) fun σ2 H2 => tb { D with nx := Pv (i + 1), ct := Pv (i + 1), bk := D.nx } σ2 H2) (hd : ∀ σ H, Pv xs.length σ H → D.nx σ H) :
    ∃ W : Nat → Nat → L2.St → Hp → Prop, (∃ m, W 0 m σ H) ∧ ∀ i m σ H, W i m σ H →
      ((Ite K a).stop i H ∧ D.nx σ H) ∨ ((Ite K a).go i H ∧ ∃ N : L2.St → Hp → Prop, (∀ σ' H', N σ' H' → ∃ m', m' < m ∧ W (i + 1) m' σ' H') ∧ ∀ x H', (Ite K a).yld i H x H' → g x σ H' fun σ2 H2 => tb { D with nx := N, ct := N, bk := D.nx } σ2 H2) := by
  refine ⟨fun i m σ H => m = xs.length - i ∧ i ≤ xs.length ∧ Pv i σ H, ⟨xs.length, by simp, Nat.zero_le _, h0⟩, fun i m σ H h => ?_⟩
  obtain ⟨rfl, hi, p⟩ := h
  have q := hl i σ H hi p
  by_cases hlt : i < xs.length
  · refine .inr ⟨⟨xs, xs[i], q, List.getElem?_eq_getElem hlt⟩, Pv (i + 1), fun σ' H' p' => ⟨xs.length - (i + 1), by omega, rfl, hlt, p'⟩, fun x H' y => ?_⟩
    obtain ⟨T, x', rfl, hT, rfl, ex⟩ := y
    exact hs i x' T σ H (ex xs q) p hT
  · obtain rfl : i = xs.length := by omega
    exact .inl ⟨⟨xs, q, Nat.le_refl _⟩, hd σ H p⟩
theorem for_enumS {K : PySem.W.Frag} {a : Addr} {xs : List V} {g : TG} {tb : TS} {D : Ends} {σ : L2.St} {H : Hp} (hq : SqL K H a xs ∨ SqT K H a xs) (Pv : Nat → L2.St → Hp → Prop) (h0 : Pv 0 σ H) (hl : ∀ i σ H', i ≤ xs.length → Pv i σ H' → Same H H')
    (hs : ∀ i x T σ H, xs[i]? = some x → Pv i σ H → H T = none → g (.ref T) σ (upd H T (.tup [.int (i : Nat), x])) fun σ2 H2 => tb { D with nx := Pv (i + 1), ct := Pv (i + 1), bk := D.nx } σ2 H2) (hd : ∀ σ H, Pv xs.length σ H → D.nx σ H) :
    (SqL K H a xs ∧ ∃ W : Nat → Nat → L2.St → Hp → Prop, (∃ m, W 0 m σ H) ∧ ∀ i m σ H, W i m σ H →
      ((Ite K a).stop i H ∧ D.nx σ H) ∨ ((Ite K a).go i H ∧ ∃ N : L2.St → Hp → Prop, (∀ σ' H', N σ' H' → ∃ m', m' < m ∧ W (i + 1) m' σ' H') ∧ ∀ x H', (Ite K a).yld i H x H' → g x σ H' fun σ2 H2 => tb { D with nx := N, ct := N, bk := D.nx } σ2 H2)) ∨
    (SqT K H a xs ∧ ∃ W : Nat → Nat → L2.St → Hp → Prop, (∃ m, W 0 m σ H) ∧ ∀ i m σ H, W i m σ H →
      ((IteT K a).stop i H ∧ D.nx σ H) ∨ ((IteT K a).go i H ∧ ∃ N : L2.St → Hp → Prop, (∀ σ' H', N σ' H' → ∃ m', m' < m ∧ W (i + 1) m' σ' H') ∧ ∀ x H', (IteT K a).yld i H x H' → g x σ H' fun σ2 H2 => tb { D with nx := N, ct := N, bk := D.nx } σ2 H2)) := by
  rcases hq with hq | hq
  · exact .inl ⟨hq, for_enum Pv h0 (fun i σ H' hi p => (hl i σ H' hi p).seq hq) hs hd⟩
  refine .inr ⟨hq, fun i m σ H => m = xs.length - i ∧ i ≤ xs.length ∧ Pv i σ H, ⟨xs.length, by simp, Nat.zero_le _, h0⟩, fun i m σ H' h => ?_⟩
  obtain ⟨rfl, hi, p⟩ := h
  have q := SqT_same (hl i σ H' hi p) hq
  by_cases hlt : i < xs.length
  · refine .inr ⟨⟨xs, xs[i], q, List.getElem?_eq_getElem hlt⟩, Pv (i + 1), fun σ' H' p' => ⟨xs.length - (i + 1), by omega, rfl, hlt, p'⟩, fun x H' y => ?_⟩
    obtain ⟨T, x', rfl, hT, rfl, ex⟩ := y
    exact hs i x' T σ _ (ex xs q) p hT
  · obtain rfl : i = xs.length := by omega
    exact .inl ⟨⟨xs, q, rfl⟩, hd σ H' p⟩
theorem SqT_ins {K : PySem.W.Frag} {H : Hp} {a s C dx : Addr} {fs : List (Str × V)} {o : HO} {xs : List V} (hs : H s = some (.ins C dx fs)) (h : SqT K H a xs) : SqT K (upd H s o) a xs := by
  rcases h with h | h
  · refine Or.inl ?_
    rcases h with h | ⟨o', h⟩
    · refine Or.inl ?_
      rw [upd_ne (fun e => by rw [e, hs] at h; cases h)]
      exact h
    · refine Or.inr ⟨o', ?_⟩
      rw [upd_ne (fun e => by rw [e, hs] at h; cases h)]
      exact h
  · exact Or.inr h
theorem tup_of {K : PySem.W.Frag} {H : Hp} {l : Addr} {xs : List V} {G : V → Hp → Prop} (h : SqL K H l xs ∨ SqT K H l xs) (fin : ∀ t H2, Same H H2 → SqT K H2 t xs → G (.ref t) H2) :
    (SqL K H l xs ∧ ∀ p, H p = none → G (.ref p) (upd H p (.tup xs))) ∨ (SqT K H l xs ∧ G (.ref l) H) :=
  h.elim (fun h => .inl ⟨h, fun p hp => fin p _ (same_new hp) (SqT.of upd_same)⟩) (fun h => .inr ⟨h, fin l H (Same.refl _) h⟩)
theorem put_parents {t : Addr} : (putF "parents" (V.ref t) []).lookup ("parents" : Str) = some (.ref t) := by first | rfl | kernel_rfl
theorem put_parents2 {t : Addr} {n : V} : (putF "size" n (putF "parents" (V.ref t) [])).lookup ("parents" : Str) = some (.ref t) := by first | rfl | kernel_rfl
theorem put_shf {t d : Addr} {n : Nat} : putF "_masks" (.ref d) (putF "size" (.int n) (putF "parents" (V.ref t) [])) = shf t d n := by first | rfl | kernel_rfl
/-- the wrong items of a list of parents -/
def Wrong (ns : List Int) (j : Nat) : Prop := ∃ p, ns[j]? = some p ∧ ¬ (0 ≤ p ∧ p ≤ j)
/-- all but s stays -/
def But (s : Addr) (H H' : Hp) : Prop := ∀ b o, b ≠ s → H b = some o → H' b = some o
theorem But.of_same {s : Addr} {H H' : Hp} (e : Same H H') : But s H H' := fun b o _ h => e b o h
theorem But.trans {s : Addr} {H H1 H2 : Hp} (a : But s H H1) (b : But s H1 H2) : But s H H2 := fun c o n h => b c o n (a c o n h)
theorem But.set {s : Addr} {H : Hp} {o : HO} : But s H (upd H s o) := fun b u n h => by rw [upd_ne n]; exact h
theorem ns_nat : ∀ {ns : List Int}, (∀ j, ¬ Wrong ns j) → ∃ ps : List Nat, ns.map V.int = nvs ps ∧ ps.length = ns.length ∧ Tr.Ok ps := by
  intro ns h
  refine ⟨ns.map Int.toNat, ?_, List.length_map .., ?_⟩
  · unfold nvs
    rw [List.map_map]
    refine List.map_congr_left fun p hp => ?_
    obtain ⟨j, hj⟩ := List.getElem?_of_mem hp
    have q : 0 ≤ p := by
      by_cases c : 0 ≤ p
      · exact c
      · exact absurd ⟨p, hj, fun z => c z.1⟩ (h j)
    show V.int p = V.int (p.toNat : Int)
    rw [Int.toNat_of_nonneg q]
  · intro i p hp
    rw [List.getElem?_map] at hp
    cases e : ns[i]? with
    | none => rw [e] at hp; cases hp
    | some q =>
      rw [e] at hp
      obtain rfl : q.toNat = p := Option.some.inj hp
      by_cases c : 0 ≤ q ∧ q ≤ i
      · omega
      · exact absurd ⟨q, e, c⟩ (h i)
end EP
namespace EP
open PySem L2
theorem putF_len (f : Str) (v : V) : ∀ fs : List (Str × V), (putF f v fs).length ≤ fs.length + 1
  | [] => Nat.le_refl 1
  | (g, x) :: r => by
    unfold putF
    split
    · exact Nat.le_succ _
    · have := putF_len f v r
      simp only [List.length_cons]
      omega
theorem put_l1 {f : Str} {v : V} : (putF f v []).length < 1000 := Nat.lt_of_le_of_lt (putF_len f v []) (by decide)
theorem put_l2 {f g : Str} {u v : V} : (putF g u (putF f v [])).length < 1000 := by
  have a := putF_len g u (putF f v [])
  have b := putF_len f v []
  simp only [List.length_nil] at b
  omega
end EP
namespace EP
open PySem L2
theorem shf_no {t d : Addr} {n : Nat} {m : Str} (h1 : ¬ m = "parents") (h2 : ¬ m = "size") (h3 : ¬ m = "_masks") : (shf t d n).lookup m = none := by
  unfold shf
  have e1 : (m == ("parents" : Str)) = false := by simpa using h1
  have e2 : (m == ("size" : Str)) = false := by simpa using h2
  have e3 : (m == ("_masks" : Str)) = false := by simpa using h3
  simp only [List.lookup, e1, e2, e3]
theorem hasS_nat {ps : List Nat} {p w : Nat} (h : 1 ≤ w) : hasS ps (p : Int) (w : Int) = Tr.has ps p w := by
  unfold hasS
  rw [if_pos (by omega), Int.toNat_natCast, Int.toNat_natCast]
theorem hasS_neg {ps : List Nat} {p w : Nat} (h : 1 ≤ w) : hasS ps (p : Int) (-(w : Int)) = !Tr.has ps p w := by
  unfold hasS
  rw [if_neg (by omega), Int.toNat_natCast, show (- -(w : Int)).toNat = w by omega]
/-- the first item that is no position -/
def BadAt (n : Nat) (ns : List Int) (j : Nat) : Prop := (∃ p, ns[j]? = some p ∧ ¬ IsPos n p) ∧ ∀ i p, i < j → ns[i]? = some p → IsPos n p
theorem pos_nat {n : Nat} : ∀ {ns : List Int}, (∀ p, p ∈ ns → IsPos n p) → ∃ L : List Nat, ns.map V.int = nvs L ∧ L.length = ns.length ∧ (∀ p, p ∈ L → p ≤ n) ∧ ns = L.map fun (p : Nat) => (p : Int) := by
  intro ns h
  have e : ns = (ns.map Int.toNat).map fun (p : Nat) => (p : Int) := by
    rw [List.map_map]
    have : ns.map (fun p => p) = ns.map ((fun (p : Nat) => (p : Int)) ∘ Int.toNat) := List.map_congr_left fun p hp => by
      have := (h p hp).1
      show p = (p.toNat : Int)
      omega
    rw [List.map_id'] at this
    exact this
  refine ⟨ns.map Int.toNat, ?_, List.length_map .., fun p hp => ?_, e⟩
  · unfold nvs
    conv => lhs; rw [e]
    rw [List.map_map]
    rfl
  · obtain ⟨q, hq, rfl⟩ := List.mem_map.mp hp
    have := h q hq
    unfold IsPos at this
    omega
theorem ns_get {ns : List Int} {i : Nat} {x : V} (hx : (ns.map V.int)[i]? = some x) : ∃ p, ns[i]? = some p ∧ x = V.int p := by
  rw [List.getElem?_map] at hx
  cases e : ns[i]? with
  | none => rw [e] at hx; cases hx
  | some p => rw [e] at hx; exact ⟨p, rfl, (Option.some.inj hx).symm⟩
end EP

namespace EP
open PySem L2 PySem.Spec PyProof.Rows
/-! ### the rules with the written part named (within a comprehension) -/
section
variable {X : Cx} {K : PySem.W.Frag}
def rLenK (K : PySem.W.Frag) : List V → Hp → VK → Prop := fun xs H Q => ∃ p ys, xs = [.ref p] ∧ (SqL K H p ys ∨ SqT K H p ys) ∧ Q (.int ys.length) H
theorem call_lenK (h : X.K = K := by rfl) : CallR X (.builtin "len") (rLenK K) := h ▸ call_len_seq
theorem ix_listK (h : X.K = K := by rfl) : IxR X (rIxL K) := h ▸ ix_list
theorem ix_tupK (h : X.K = K := by rfl) : IxR X (rIxT K) := h ▸ ix_tup
theorem op_in_seqK (h : X.K = K := by rfl) : OpR X (compareOp .In) (rIn K false) := h ▸ op_in_seq
theorem op_notIn_seqK (h : X.K = K := by rfl) : OpR X (compareOp .NotIn) (rIn K true) := h ▸ op_notIn_seq
theorem pe_fldK {e : Expr} {ta : TE} {f : Str} {pos : Pos} (h : X.K = K) (he : PE X e ta) (hb : attributeBase e f X.env (eval e X.env) = eval e X.env) : PE X (.Attribute e f pos) (tFld K ta f) := by
  subst h
  exact pe_fld he hb
end
end EP

namespace EP
open PySem L2 PySem.Spec PyProof.Rows
section
variable {X : Cx} {CX : CXT} {k : Nat} {f C : Addr} {fd : FuncData} {ps : List Str} {sp : Sp} {E : L2.St → XK} {x m : Str} {p pos apos : Pos} {e o : Expr} {es : List Expr} {ta : TE} {t : TA}
/-- o.m(e, ..), what it raises wished for at the slots -/
def tMethT (C : Addr) (m : Str) (sp : Sp) (E : L2.St → XK) (ta : TE) (t : TA) : TE := fun σ H Q => ta σ H fun x H1 => ∃ a dx fs, x = .ref a ∧ H1 a = some (.ins C dx fs) ∧ fs.lookup m = none ∧ t σ H1 fun vs H2 => sp (x :: vs) H2 Q (E σ)
theorem pe_methT {pl : Sem Bool} (he : PE X o ta) (c : Cls X.K C) (hm : Meth X.K C m f) (F : FnOk X.prog X.w X.K X.mg X.base CX k f fd ps sp) (hr : Room k X.A) (hb : Binds X.K fd ps []) (hx : ∀ σ, PassesAt CX X σ (E σ)) (ha : PA X (e :: es) t)
    (hst : starEach (e :: es) X.env = (false, eval e X.env) :: starEach es X.env := by rfl) (hpl : (backTo pos (starEach es X.env)).any (·.1) = false := by rfl)
    (ht : eval (.Call (.Attribute o m apos) (e :: es) [] pos) X.env = (do
      let ov ← eval o X.env
      standAt apos.atName
      let (g, first) ← holding [ov] (getMethod ov m pl)
      callWith pos g first (backTo pos (starEach (e :: es) X.env)) (backToKw pos (keywordEach [] X.env))) := by rfl) :
    PE X (.Call (.Attribute o m apos) (e :: es) [] pos) (tMethT C m sp E ta t) := by
  refine ⟨fun pins s σ H Q I h => PySem.W.methodCall_KW (pl := pl) (thn (he.run pins s σ H _ I h) fun u s1 z => ?_) ht⟩
  obtain ⟨x, H1, I1, rx, a, dx, fs, rfl, ea, l, q⟩ := z
  obtain rfl : u = Value.ref a := rx
  refine getmeth_ok I1 ea c hm l (PySem.W.callWith_K (first := [.ref a]) (h₀ := X.base) I.ok.mod.kin hm.kp (thn (ha.run pos pins s1 σ H1 _ I1 q) fun us s2 z => ?_) hst hpl)
  obtain ⟨vs, H2, I2, r, q2⟩ := z
  exact ⟨I2.kIn, run_fnS (us := .ref a :: us) (vs := .ref a :: vs) F hr hb (hx σ) I2 (.cons rfl r) q2⟩
end
end EP
namespace EP
open PySem L2
def spIsNum (K : PySem.W.Frag) (C : Addr) : Sp := fun vs H Q _ => ∃ (s : Addr) (ps : List Nat) (k : Int), vs = [.ref s, .int k] ∧ ShapeAt K C H s ps ∧ Q (.bl (decide (IsSide ps.length k))) H
def spChkPos (K : PySem.W.Frag) (C D : Addr) : Sp := fun vs H Q E => ∃ (s : Addr) (ps : List Nat) (p : Int), vs = [.ref s, .int p] ∧ ShapeAt K C H s ps ∧ (IsPos ps.length p → Q .non H) ∧ (¬ IsPos ps.length p → Small p ∧ ∀ d, H d = none → E (.ref D) (some d) (upd H d (.xd [("position", .int p)])))
theorem is_num {Q : VK} {H : Hp} {b : Bool} {n : Nat} {k : Int} (q : Q (.bl (decide (IsSide n k))) H) (h : b = decide (IsSide n k)) : Q (.bl b) H := h ▸ q
end EP
namespace EP
open PySem L2
def spChkSide (K : PySem.W.Frag) (C D : Addr) : Sp := fun vs H Q E => ∃ (s : Addr) (ps : List Nat) (k : Int), vs = [.ref s, .int k] ∧ ShapeAt K C H s ps ∧ (IsSide ps.length k → Q .non H) ∧ (¬ IsSide ps.length k → Small k ∧ ∀ d, H d = none → E (.ref D) (some d) (upd H d (.xd [("side", .int k)])))
def spHas (K : PySem.W.Frag) (C D D2 : Addr) : Sp := fun vs H Q E => ∃ (s : Addr) (ps : List Nat) (p k : Int), vs = [.ref s, .int p, .int k] ∧ ShapeAt K C H s ps ∧ (IsPos ps.length p → IsSide ps.length k → Q (.bl (hasS ps p k)) H) ∧
  (¬ IsPos ps.length p → Small p ∧ ∀ d, H d = none → E (.ref D) (some d) (upd H d (.xd [("position", .int p)]))) ∧ (IsPos ps.length p → ¬ IsSide ps.length k → Small k ∧ ∀ d, H d = none → E (.ref D2) (some d) (upd H d (.xd [("side", .int k)])))
end EP
namespace EP
open PySem L2
def spMasks (K : PySem.W.Frag) : Sp := fun vs H Q _ => ∃ (t : Addr) (ps : List Nat), vs = [.ref t] ∧ SqT K H t (nvs ps) ∧ Tr.Ok ps ∧ ps.length ≤ 1000 ∧ ∀ d kvs H', Same H H' → H d = none → H' d = some (.dK kvs) → MasksOk ps kvs → Q (.ref d) H'
end EP
namespace EP
open PySem L2
def spShape (K : PySem.W.Frag) (C D : Addr) : Sp := fun vs H Q E => ∃ (s dx l : Addr) (ns : List Int), vs = [.ref s, .ref l] ∧ H s = some (.ins C dx []) ∧ (SqL K H l (ns.map V.int) ∨ SqT K H l (ns.map V.int)) ∧ ns.length ≤ 1000 ∧
  (∀ ps H', ns.map V.int = nvs ps → Tr.Ok ps → 1 ≤ ps.length → But s H H' → ShapeAt K C H' s ps → Q .non H') ∧
  (∀ j, Wrong ns j → (∀ i, i < j → ¬ Wrong ns i) → ∀ d H', Same H H' → H d = none → H' d = some (.xd [("place", .int (j : Nat))]) → E (.ref D) (some d) H') ∧
  (ns = [] → ∀ d H', Same H H' → H d = none → H' d = some (.xd [("place", .int 0)]) → E (.ref D) (some d) H')
end EP
namespace EP
open PySem L2
def spOddMid (K : PySem.W.Frag) (C D D2 : Addr) : Sp := fun vs H Q E => ∃ (s l : Addr) (ps : List Nat) (ns : List Int), vs = [.ref s, .ref l] ∧ ShapeAt K C H s ps ∧ SqL K H l (ns.map V.int) ∧ ns.length ≤ 100 ∧
  (∀ L H', ns = L.map (fun (p : Nat) => (p : Int)) → (∀ p, p ∈ L → p ≤ ps.length) → L.length % 2 = 1 → Same H H' → Q (.int (Tr.mid ps L ps.length : Nat)) H') ∧
  (∀ j p, BadAt ps.length ns j → ns[j]? = some p → Small p ∧ ∀ d, H d = none → E (.ref D) (some d) (upd H d (.xd [("position", .int p)]))) ∧
  ((∀ p, p ∈ ns → IsPos ps.length p) → ns.length % 2 = 0 → ∀ d, H d = none → E (.ref D2) (some d) (upd H d (.xd [("number", .int (ns.length : Nat))])))
end EP
namespace EP
open PySem L2
def spMid (K : PySem.W.Frag) (C D : Addr) : Sp := fun vs H Q E => ∃ (s : Addr) (ps : List Nat) (a b c : Int), vs = [.ref s, .int a, .int b, .int c] ∧ ShapeAt K C H s ps ∧
  (∀ (a' b' c' : Nat) H', a = a' → b = b' → c = c' → a' ≤ ps.length → b' ≤ ps.length → c' ≤ ps.length → Same H H' → Q (.int (Tr.mid ps [a', b', c'] ps.length : Nat)) H') ∧
  (∀ p, (∃ j, BadAt ps.length [a, b, c] j ∧ [a, b, c][j]? = some p) → Small p ∧ ∀ d H', Same H H' → H d = none → H' d = some (.xd [("position", .int p)]) → E (.ref D) (some d) H')
end EP

namespace EP
open PySem L2
/-! ### the law's own tape -/
def tp (u : Addr) (i b s c : Int) : List V := [.ref u, .int i, .int b, .int s, .int c]
def Tape (H : Hp) (t u : Addr) : Prop := ∃ (xs : List Int) (i b s c : Int), H t = some (.lst (tp u i b s c)) ∧ H u = some (.lst (xs.map V.int)) ∧ 0 ≤ i
theorem nvs_tp {ps : List Nat} {u : Addr} {i b s c : Int} : nvs ps ≠ tp u i b s c := fun e => by
  cases ps with
  | nil => cases e
  | cons p ps => unfold nvs tp at e; simp at e
theorem ints_tp {ns : List Int} {u : Addr} {i b s c : Int} : ns.map V.int ≠ tp u i b s c := fun e => by
  cases ns with
  | nil => cases e
  | cons p ps => unfold tp at e; simp at e
theorem Tape.ne {H : Hp} {t u l : Addr} {ps : List Nat} (h : Tape H t u) (hl : H l = some (.lst (nvs ps))) : l ≠ t := fun e => by
  obtain ⟨xs, i, b, s, c, h1, _⟩ := h
  rw [← e, hl] at h1
  exact nvs_tp (HO.lst.inj (Option.some.inj h1))
theorem Tape.neI {H : Hp} {t u l : Addr} {ns : List Int} (h : Tape H t u) (hl : H l = some (.lst (ns.map V.int))) : l ≠ t := fun e => by
  obtain ⟨xs, i, b, s, c, h1, _⟩ := h
  rw [← e, hl] at h1
  exact ints_tp (HO.lst.inj (Option.some.inj h1))
theorem Tape.same {H H' : Hp} {t u : Addr} (h : Tape H t u) (e : Same H H') : Tape H' t u := by
  obtain ⟨xs, i, b, s, c, h1, h2, h3⟩ := h
  exact ⟨xs, i, b, s, c, e _ _ h1, e _ _ h2, h3⟩
theorem Tape.new {H : Hp} {t u : Addr} (h : Tape H t u) : H t ≠ none := fun e => by
  obtain ⟨xs, i, b, s, c, h1, _⟩ := h
  rw [h1] at e
  cases e
theorem Tape.newu {H : Hp} {t u : Addr} (h : Tape H t u) : H u ≠ none := fun e => by
  obtain ⟨xs, i, b, s, c, h1, h2, _⟩ := h
  rw [h2] at e
  cases e
theorem But.of_new {t d : Addr} {H : Hp} {o : HO} (h : H d = none) : But t H (upd H d o) := But.of_same (same_new h)
theorem But.free {t l : Addr} {H H' : Hp} (e : But t H H') (hn : l ≠ t) (h : H' l = Option.none) : H l = Option.none := by
  cases z : H l with
  | none => rfl
  | some o => rw [e l o hn z] at h; cases h
theorem But.upd_at {t l : Addr} {H H0 : Hp} {o : HO} (e : But t H0 H) (h0 : H0 l = none) : But t H0 (upd H l o) := fun b v n hb => by
  rw [upd_ne (ne_of_none hb h0)]
  exact e b v n hb
def absI (i : Int) : Int := if i < 0 then -i else i
def spTape (K : PySem.W.Frag) : Sp := fun vs H Q _ => ∃ (a : Addr) (ns : List Int), vs = [.ref a] ∧ SqL K H a (ns.map V.int) ∧ ns.length ≤ 63 ∧ ∀ t u H', Same H H' → H t = none → Tape H' t u → Q (.ref t) H'
def spNext : Sp := fun vs H Q _ => ∃ (t u : Addr) (n : Int), vs = [.ref t, .int n] ∧ 0 < n ∧ n < 2 ^ 60 ∧ Tape H t u ∧ ∀ (r : Nat) H', (r : Int) < n → Tape H' t u → But t H H' → (∀ b, b ≠ t → H' b = H b) → Q (.int r) H'
def spLParents : Sp := fun vs H Q _ => ∃ (t u : Addr) (m : Nat), vs = [.ref t, .int m] ∧ 1 ≤ m ∧ m ≤ 100 ∧ Tape H t u ∧ ∀ l ps H', Tr.Ok ps → 1 ≤ ps.length → ps.length ≤ m → Tape H' t u → But t H H' → H l = none → H' l = some (.lst (nvs ps)) → Q (.ref l) H'
def spAbove (K : PySem.W.Frag) : Sp := fun vs H Q _ => ∃ (l : Addr) (ps : List Nat) (p : Nat), vs = [.ref l, .int p] ∧ SqL K H l (nvs ps) ∧ Tr.Ok ps ∧ ps.length ≤ 1000 ∧ p ≤ ps.length ∧ ∀ r H', Same H H' → H r = none → H' r = some (.lst (nvs (Tr.up ps p))) → Q (.ref r) H'
def spIsNumber : Sp := fun vs H Q _ => ∃ i : Int, vs = [.int i] ∧ Q (.bl true) H
def spFar : Sp := fun vs H Q _ => ∃ t u : Addr, vs = [.ref t] ∧ Tape H t u ∧ ∀ (r : Nat) H', r < 1000000000 → Tape H' t u → But t H H' → (∀ b, b ≠ t → H' b = H b) → Q (.int r) H'
def spBadPos : Sp := fun vs H Q _ => ∃ (t u l : Addr) (ps : List Nat), vs = [.ref t, .ref l] ∧ Tape H t u ∧ H l = some (.lst (nvs ps)) ∧ ps.length ≤ 1000 ∧ ∀ (p : Int) H', ¬ IsPos ps.length p → Small p → Tape H' t u → But t H H' → (∀ b, b ≠ t → H' b = H b) → Q (.int p) H'
def hadL (ps : List Nat) (p : Nat) : List V := (List.range ps.length).map fun k => V.int (Tr.side ps p (k + 1))
def spSidesHad (K : PySem.W.Frag) : Sp := fun vs H Q _ => ∃ (l : Addr) (ps : List Nat) (p : Nat), vs = [.ref l, .int p] ∧ SqL K H l (nvs ps) ∧ Tr.Ok ps ∧ ps.length ≤ 1000 ∧ p ≤ ps.length ∧ ∀ r H', Same H H' → H r = none → H' r = some (.lst (hadL ps p)) → Q (.ref r) H'
/-- at h the list of the lists of the sides of all positions -/
def Had (H : Hp) (h : Addr) (ps : List Nat) : Prop := ∃ rs : List Addr, H h = some (.lst (rs.map V.ref)) ∧ rs.length = ps.length + 1 ∧ ∀ (p : Nat) (r : Addr), rs[p]? = some r → H r = some (.lst (hadL ps p))
theorem Had.same {H H' : Hp} {h : Addr} {ps : List Nat} (a : Had H h ps) (e : Same H H') : Had H' h ps := by
  obtain ⟨rs, h1, h2, h3⟩ := a
  exact ⟨rs, e _ _ h1, h2, fun p r hr => e _ _ (h3 p r hr)⟩
theorem hadL_len (ps : List Nat) (p : Nat) : (hadL ps p).length = ps.length := by unfold hadL; rw [List.length_map, List.length_range]
theorem hadL_get {ps : List Nat} {p k : Nat} (h : k < ps.length) : (hadL ps p)[k]? = some (V.int (Tr.side ps p (k + 1))) := by
  unfold hadL
  rw [List.getElem?_map, List.getElem?_range h]
  rfl
theorem Had.row {H : Hp} {h : Addr} {ps : List Nat} (a : Had H h ps) {p : Nat} (hp : p ≤ ps.length) : ∃ (vs : List V) (r : Addr), H h = some (.lst vs) ∧ vs.length = ps.length + 1 ∧ vs[p]? = some (V.ref r) ∧ H r = some (.lst (hadL ps p)) := by
  obtain ⟨rs, h1, h2, h3⟩ := a
  have e := List.getElem?_eq_getElem (l := rs) (i := p) (by omega)
  exact ⟨_, rs[p], h1, by rw [List.length_map]; exact h2, by rw [List.getElem?_map, e]; rfl, h3 p _ e⟩
def spBetween : Sp := fun vs H Q _ => ∃ (h : Addr) (ps : List Nat) (p a b : Nat), vs = [.ref h, .int p, .int a, .int b] ∧ Had H h ps ∧ ps.length ≤ 1000 ∧ p ≤ ps.length ∧ a ≤ ps.length ∧ b ≤ ps.length ∧ ∀ z : Bool, (z = true ↔ Tr.betw ps ps.length p a b) → Q (.bl z) H
def spOnAll : Sp := fun vs H Q _ => ∃ (h : Addr) (ps : List Nat) (a b c : Nat), vs = [.ref h, .int a, .int b, .int c] ∧ Had H h ps ∧ ps.length ≤ 1000 ∧ a ≤ ps.length ∧ b ≤ ps.length ∧ c ≤ ps.length ∧ ∀ r H', Same H H' → H r = none → H' r = some (.lst (nvs [Tr.mid ps [a, b, c] ps.length])) → Q (.ref r) H'
def spSix (K : PySem.W.Frag) (C : Addr) : Sp := fun vs H Q _ => ∃ (s l th : Addr) (ps : List Nat) (a b c : Nat), vs = [.ref s, .ref l, .ref th] ∧ ShapeAt K C H s ps ∧ H l = some (.lst (nvs ps)) ∧ H th = some (.lst (nvs [a, b, c])) ∧ a ≤ ps.length ∧ b ≤ ps.length ∧ c ≤ ps.length ∧ ∀ H', Same H H' → Q (.bl true) H'
def spMidRef (K : PySem.W.Frag) (C : Addr) : Sp := fun vs H Q _ => ∃ (s : Addr) (ps : List Nat) (a b c p : Int), vs = [.ref s, .int a, .int b, .int c, .int p] ∧ ShapeAt K C H s ps ∧ (∃ j, BadAt ps.length [a, b, c] j ∧ [a, b, c][j]? = some p) ∧ Small p ∧ ∀ H', Same H H' → Q (.bl true) H'
def spLaw (K : PySem.W.Frag) : Sp := fun vs H Q _ => ∃ (a : Addr) (ns : List Int), vs = [.ref a] ∧ SqL K H a (ns.map V.int) ∧ ns.length ≤ 63 ∧ ∀ H', Q (.bl true) H'
end EP

namespace EP
open PySem L2
theorem emod_in {x m : Int} (h : 0 < m) : 0 ≤ x % m ∧ x % m < m := ⟨Int.emod_nonneg _ (by omega), Int.emod_lt_of_pos _ h⟩
end EP

namespace EP
open PySem L2
theorem nvs_flat (ps : List Nat) : (nvs ps).all flatV = true := by
  unfold nvs
  rw [List.all_map, List.all_eq_true]
  intro x _
  rfl
theorem nvs_in {ps : List Nat} {x : Int} {k : Nat} (h : x = (k : Int)) : inV (V.int x) (nvs ps) = decide (k ∈ ps) := by
  subst h
  unfold inV nvs
  rw [List.any_map]
  induction ps with
  | nil => rfl
  | cons p ps ih =>
    rw [List.any_cons, ih]
    show (decide ((p : Int) = (k : Int)) || _) = _
    by_cases e : k = p
    · subst e; simp
    · have : ¬ ((p : Int) = (k : Int)) := by omega
      simp [e, this]
end EP

namespace EP
open PySem L2
theorem same_mut {H H' : Hp} {D : Addr} {o : HO} (e : Same H H') (h : H D = none) : Same H (upd H' D o) := fun b u hb => by
  rw [upd_ne (ne_of_none hb h)]
  exact e b u hb
def toI (L : List Nat) : List Int := L.map fun (p : Nat) => (p : Int)
theorem nvs_toI (L : List Nat) : nvs L = (toI L).map V.int := by unfold nvs toI; rw [List.map_map]; rfl
theorem toI_len (L : List Nat) : (toI L).length = L.length := List.length_map ..
theorem nvs_inj {a b : List Nat} (h : nvs a = nvs b) : a = b := by
  induction a generalizing b with
  | nil => cases b with
    | nil => rfl
    | cons y b => cases h
  | cons x a ih => cases b with
    | nil => cases h
    | cons y b =>
      have h' : V.int (x : Int) :: nvs a = V.int (y : Int) :: nvs b := h
      injection h' with h1 h2
      have := V.int.inj h1
      rw [ih h2, show x = y by omega]
theorem toI_get {L : List Nat} {j : Nat} {x : Int} (h : (toI L)[j]? = some x) : ∃ p, L[j]? = some p ∧ x = (p : Int) := by
  unfold toI at h
  rw [List.getElem?_map] at h
  cases e : L[j]? with
  | none => rw [e] at h; cases h
  | some p => rw [e] at h; exact ⟨p, rfl, (Option.some.inj h).symm⟩
theorem noWrong {ps : List Nat} (ok : Tr.Ok ps) {j : Nat} : ¬ Wrong (toI ps) j := fun ⟨p, hp, c⟩ => by
  obtain ⟨q, hq, rfl⟩ := toI_get hp
  have := ok j q hq
  omega
theorem dp_ints {K : PySem.W.Frag} {H : Hp} : ∀ ns : List Int, DpAll K H (ns.map V.int) (ns.map PyData.int)
  | [] => .nil
  | n :: ns => .cons (.int n) (dp_ints ns)
theorem dp_list {K : PySem.W.Frag} {H : Hp} {a : Addr} {L : List Nat} (h : SqL K H a (nvs L)) : Dp K H (.ref a) (.list ((toI L).map PyData.int)) := .lst h (by rw [nvs_toI]; exact dp_ints _)
theorem eqv_self (ns : List Int) : PyData.eqv (.list (ns.map PyData.int)) (.list (ns.map PyData.int)) = true := by
  show PyData.eqvAll _ _ = true
  rw [PySem.W.ked_eqvAll]
  exact decide_eq_true rfl
theorem BadAt.uniq {n : Nat} {ns : List Int} {i j : Nat} (a : BadAt n ns i) (b : BadAt n ns j) : i = j := by
  obtain ⟨⟨p, hp, cp⟩, fp⟩ := a
  obtain ⟨⟨q, hq, cq⟩, fq⟩ := b
  by_cases h : i < j
  · exact absurd (fq i p h hp) cp
  · by_cases h2 : j < i
    · exact absurd (fp j q h2 hq) cq
    · omega
theorem three_of {a b c : Nat} {i j k : Nat} (h : (i, j, k) ∈ [(0, 1, 2), (0, 2, 1), (1, 0, 2), (1, 2, 0), (2, 0, 1), (2, 1, 0)]) : ∃ x y z : Nat, [a, b, c][i]? = some x ∧ [a, b, c][j]? = some y ∧ [a, b, c][k]? = some z ∧ [x, y, z].Perm [a, b, c] := by
  simp only [List.mem_cons, Prod.mk.injEq, List.not_mem_nil, or_false] at h
  rcases h with ⟨rfl, rfl, rfl⟩ | ⟨rfl, rfl, rfl⟩ | ⟨rfl, rfl, rfl⟩ | ⟨rfl, rfl, rfl⟩ | ⟨rfl, rfl, rfl⟩ | ⟨rfl, rfl, rfl⟩
  · exact ⟨a, b, c, rfl, rfl, rfl, .refl _⟩
  · exact ⟨a, c, b, rfl, rfl, rfl, .cons _ (.swap ..)⟩
  · exact ⟨b, a, c, rfl, rfl, rfl, .swap ..⟩
  · exact ⟨b, c, a, rfl, rfl, rfl, (List.Perm.cons b (.swap a c [])).trans (.swap a b [c])⟩
  · exact ⟨c, a, b, rfl, rfl, rfl, (List.Perm.swap a c [b]).trans (.cons _ (.swap ..))⟩
  · exact ⟨c, b, a, rfl, rfl, rfl, ((List.Perm.swap b c [a]).trans (.cons b (.swap a c []))).trans (.swap a b [c])⟩
end EP

namespace EP
open PySem L2
theorem xd_get {f : Str} {v : V} : List.lookup f [(f, v)] = some v := by simp [List.lookup]
end EP

namespace EP
open PySem L2
theorem ok_snoc {ps : List Nat} {p : Nat} (ok : Tr.Ok ps) (h : p ≤ ps.length) : Tr.Ok (ps ++ [p]) := fun j x hx => by
  rw [List.getElem?_append] at hx
  split at hx
  · exact ok j x hx
  · rename_i hj
    obtain rfl : p = x := by
      cases e : j - ps.length with
      | zero => rw [e] at hx; exact Option.some.inj hx
      | succ z => rw [e] at hx; cases hx
    omega
theorem Tape.upd {H : Hp} {t u l : Addr} {o : HO} (h : Tape H t u) (h1 : t ≠ l) (h2 : u ≠ l) : Tape (L2.upd H l o) t u := by
  obtain ⟨xs, i, b, s, c, a1, a2, a3⟩ := h
  exact ⟨xs, i, b, s, c, by rw [upd_ne h1]; exact a1, by rw [upd_ne h2]; exact a2, a3⟩
/-- a made shape: what stood before stands -/
theorem made {H H' : Hp} {x dx C : Addr} (nx : H x = none) (nd : H dx = none) (k : But x (upd (upd H dx (.own x)) x (.ins C dx [])) H') : Same H H' := fun b o hb =>
  k b o (ne_of_none hb nx) (by rw [upd_ne (ne_of_none hb nx), upd_ne (ne_of_none hb nd)]; exact hb)
theorem made_at {H : Hp} {x dx C l : Addr} {o : HO} (nx : H x = none) (nd : H dx = none) (hl : H l = some o) : (upd (upd H dx (.own x)) x (.ins C dx [])) l = some o := by
  rw [upd_ne (ne_of_none hl nx), upd_ne (ne_of_none hl nd)]
  exact hl
end EP

namespace EP
open PySem L2
/-! ### ways, parting walls, distances -/
theorem cut_to {L : List Nat} {k : Nat} (h : k ≤ L.length) : cutV (nvs L) none (some (k : Int)) = nvs (L.take k) := by
  unfold cutV
  rw [HT.sIx_none, HT.sIx_nat, nvs_len, Nat.min_eq_left h, List.drop_zero, Nat.sub_zero]
  unfold nvs
  rw [List.map_take]
theorem nvs_app (a b : List Nat) : nvs a ++ nvs b = nvs (a ++ b) := by unfold nvs; rw [List.map_append]
theorem nvs_rev (a : List Nat) : (nvs a).reverse = nvs a.reverse := by unfold nvs; rw [List.map_reverse]
theorem last_at (L : List Nat) (x : Nat) : atI (nvs (L ++ [x])) (-1) = some (V.int (x : Int)) := by rw [← nvs_snoc]; exact atI_last _ _
def spClimb (K : PySem.W.Frag) (C : Addr) : Sp := fun vs H Q _ => ∃ (s : Addr) (ps : List Nat) (p : Nat), vs = [.ref s, .int p] ∧ ShapeAt K C H s ps ∧ p ≤ ps.length ∧ ∀ r H', Same H H' → H r = none → H' r = some (.lst (nvs (Tr.ch ps p))) → Q (.ref r) H'
/-- two positions asked of a shape -/
def Two (K : PySem.W.Frag) (C D : Addr) (good : List Nat → Nat → Nat → Hp → Hp → VK → Prop) : Sp := fun vs H Q E => ∃ (s : Addr) (ps : List Nat) (a b : Int), vs = [.ref s, .int a, .int b] ∧ ShapeAt K C H s ps ∧
  (∀ (a' b' : Nat), a = a' → b = b' → a' ≤ ps.length → b' ≤ ps.length → ∀ H', Same H H' → good ps a' b' H H' Q) ∧
  (∀ p, (∃ j, BadAt ps.length [a, b] j ∧ [a, b][j]? = some p) → Small p ∧ ∀ d H', Same H H' → H d = none → H' d = some (.xd [("position", .int p)]) → E (.ref D) (some d) H')
def spWay (K : PySem.W.Frag) (C D : Addr) : Sp := Two K C D fun ps a b H H' Q => ∀ r, H r = none → H' r = some (.lst (nvs (Tr.way ps a b))) → Q (.ref r) H'
def spParting (K : PySem.W.Frag) (C D : Addr) : Sp := Two K C D fun ps a b H H' Q => ∀ r, H r = none → H' r = some (.lst (nvs (Tr.parting ps a b))) → Q (.ref r) H'
def spDistance (K : PySem.W.Frag) (C D : Addr) : Sp := Two K C D fun ps a b H H' Q => Q (.int ((Tr.parting ps a b).length : Nat)) H'
theorem bad2_0 {n : Nat} {a b : Int} (h : ¬ IsPos n a) : ∃ j, BadAt n [a, b] j ∧ [a, b][j]? = some a := ⟨0, ⟨⟨a, rfl, h⟩, fun i p h => absurd h (Nat.not_lt_zero _)⟩, rfl⟩
theorem bad2_1 {n : Nat} {a b : Int} (h0 : IsPos n a) (h : ¬ IsPos n b) : ∃ j, BadAt n [a, b] j ∧ [a, b][j]? = some b := ⟨1, ⟨⟨b, rfl, h⟩, fun i p hi hp => by
  obtain rfl : i = 0 := by omega
  cases hp
  exact h0⟩, rfl⟩
theorem bad2_no {n : Nat} {a b : Int} (ha : IsPos n a) (hb : IsPos n b) {j : Nat} (h : BadAt n [a, b] j) : False := by
  obtain ⟨⟨p, hp, cp⟩, _⟩ := h
  match j, hp with
  | 0, hp => cases hp; exact cp ha
  | 1, hp => cases hp; exact cp hb
  | n + 2, hp => simp at hp
theorem posOf {n : Nat} {a : Int} (h : IsPos n a) : ∃ a' : Nat, a = a' ∧ a' ≤ n := ⟨a.toNat, by unfold IsPos at h; omega, by unfold IsPos at h; omega⟩
def spLParting (K : PySem.W.Frag) : Sp := fun vs H Q _ => ∃ (l : Addr) (ps : List Nat) (a b : Nat), vs = [.ref l, .int a, .int b] ∧ SqL K H l (nvs ps) ∧ Tr.Ok ps ∧ ps.length ≤ 1000 ∧ a ≤ ps.length ∧ b ≤ ps.length ∧ ∀ r H', Same H H' → H r = none → H' r = some (.lst (nvs (Tr.parting ps a b))) → Q (.ref r) H'
def spInts (K : PySem.W.Frag) : Sp := fun vs H Q _ => ∃ (x y : Addr) (L : List Nat), vs = [.ref x, .ref y] ∧ H x = some (.lst (nvs L)) ∧ SqL K H y (nvs L) ∧ L.length ≤ 5000 ∧ Q (.bl true) H
def spIsWay (K : PySem.W.Frag) : Sp := fun vs H Q _ => ∃ (l w : Addr) (ps : List Nat) (a b : Nat), vs = [.ref l, .ref w, .int a, .int b] ∧ SqL K H l (nvs ps) ∧ H w = some (.lst (nvs (Tr.way ps a b))) ∧ Tr.Ok ps ∧ ps.length ≤ 1000 ∧ a ≤ ps.length ∧ b ≤ ps.length ∧ ∀ H', Same H H' → Q (.bl true) H'
def spPair (K : PySem.W.Frag) (C : Addr) : Sp := fun vs H Q _ => ∃ (s l : Addr) (ps : List Nat) (a b : Nat), vs = [.ref s, .ref l, .int a, .int b] ∧ ShapeAt K C H s ps ∧ H l = some (.lst (nvs ps)) ∧ a ≤ ps.length ∧ b ≤ ps.length ∧ ∀ H', Same H H' → Q (.bl true) H'
def spRef2 (K : PySem.W.Frag) (C : Addr) : Sp := fun vs H Q _ => ∃ (s : Addr) (ps : List Nat) (a b p : Int), vs = [.ref s, .int a, .int b, .int p] ∧ ShapeAt K C H s ps ∧ (∃ j, BadAt ps.length [a, b] j ∧ [a, b][j]? = some p) ∧ Small p ∧ ∀ H', Same H H' → Q (.bl true) H'
end EP

namespace EP
open PySem L2
theorem take_one {L : List Nat} {k p : Nat} (h : L[k]? = some p) : L.take (k + 1) = L.take k ++ [p] := by
  have hk := (List.getElem?_eq_some_iff.mp h).1
  rw [List.take_succ_eq_append_getElem hk, (List.getElem?_eq_some_iff.mp h).2]
theorem filt_len (L : List Nat) (k : Nat) (f : Nat → Bool) (h : L.length ≤ 2000) : ((L.take k).filter f).length ≤ 2000 := by
  have a := List.length_filter_le f (L.take k)
  have b : (L.take k).length ≤ L.length := by rw [List.length_take]; omega
  omega
theorem ch_len {ps : List Nat} : ∀ {p n : Nat}, p ≤ ps.length → p ≤ n → (Tr.ch ps p).length ≤ n + 1 := by
  intro p
  induction p using Nat.strongRecOn with
  | _ p ih =>
    intro n hp hn
    by_cases h : 1 ≤ p
    · have l := Tr.par_lt ps h
      have := ih _ l (n := n - 1) (by omega) (by omega)
      rw [Tr.ch_pos ps h, List.length_cons]
      omega
    · obtain rfl : p = 0 := by omega
      rw [Tr.ch_zero]
      show 1 ≤ n + 1
      omega
end EP
namespace EP
open PySem L2
/-! ### == of lists and tuples of ints -/
theorem dpAll_ints {K : PySem.W.Frag} {H : Hp} : ∀ ns : List Int, DpAll K H (ns.map V.int) (ns.map PyData.int)
  | [] => .nil
  | n :: ns => .cons (.int n) (dpAll_ints ns)
theorem dp_lst {K : PySem.W.Frag} {H : Hp} {a : Addr} {ns : List Int} (h : SqL K H a (ns.map V.int)) : Dp K H (.ref a) (.list (ns.map PyData.int)) := .lst h (dpAll_ints ns)
theorem dp_tup {K : PySem.W.Frag} {H : Hp} {a : Addr} {ns : List Int} (h : SqT K H a (ns.map V.int)) : Dp K H (.ref a) (.tuple (ns.map PyData.int)) := .tup h (dpAll_ints ns)
theorem shaped_lst (ns : List Int) : SeqAt.shaped (.list (ns.map PyData.int)) = true := PySem.W.ke_shaped_ints ns
theorem shaped_tup (ns : List Int) : SeqAt.shaped (.tuple (ns.map PyData.int)) = true := by
  simp [SeqAt.shaped, PyData.canLay0, PyData.depth, PySem.W.ke_canLayAll0, PySem.W.ke_depthAll]
theorem eqvAll_ints : ∀ ns ms : List Int, PyData.eqvAll (ns.map PyData.int) (ms.map PyData.int) = decide (ns = ms)
  | [], [] => by simp [PyData.eqvAll]
  | [], _ :: _ => by simp [PyData.eqvAll]
  | _ :: _, [] => by simp [PyData.eqvAll]
  | a :: r, b :: t => by
    simp only [List.map_cons, PyData.eqvAll, PyData.eqv, eqvAll_ints r t]
    by_cases h : a = b <;> by_cases h' : r = t <;> simp [h, h']
theorem eqv_lst (ns ms : List Int) : PyData.eqv (.list (ns.map PyData.int)) (.list (ms.map PyData.int)) = decide (ns = ms) := by simp only [PyData.eqv]; exact eqvAll_ints ns ms
theorem eqv_tup (ns ms : List Int) : PyData.eqv (.tuple (ns.map PyData.int)) (.tuple (ms.map PyData.int)) = decide (ns = ms) := by simp only [PyData.eqv]; exact eqvAll_ints ns ms
theorem toI_inj {a b : List Nat} : toI a = toI b ↔ a = b := ⟨fun h => nvs_inj (by rw [nvs_toI, nvs_toI, h]), fun h => by rw [h]⟩
theorem rgV_nvs (n : Nat) : rgV 0 (n : Int) = nvs (List.range n) := by
  unfold rgV nvs
  rw [show ((n : Int) - 0).toNat = n by omega]
  refine List.map_congr_left fun i _ => ?_
  rw [show (0 : Int) + (i : Int) = (i : Int) by omega]
theorem rgV_neg {n : Int} (h : n < 1) : rgV 0 n = [] := by
  unfold rgV
  rw [show (n - 0).toNat = 0 by omega]
  rfl
theorem ok_range (n : Nat) : Tr.Ok (List.range n) := fun i p h => by
  have hi := (List.getElem?_eq_some_iff.mp h).1
  rw [List.getElem?_range (by simpa using hi)] at h
  cases h
  exact Nat.le_refl _
theorem ok_zeros (n : Nat) : Tr.Ok (List.replicate n 0) := fun i p h => by
  have := List.mem_of_getElem? h
  rw [List.mem_replicate] at this
  omega
/-! ### promises of the shapes' stage -/
def posL (ps : List Nat) (k : Int) : List Nat := (List.range (ps.length + 1)).filter fun p => hasS ps (p : Int) k
def spPosOf (K : PySem.W.Frag) (C D : Addr) : Sp := fun vs H Q E => ∃ (s : Addr) (ps : List Nat) (k : Int), vs = [.ref s, .int k] ∧ ShapeAt K C H s ps ∧
  (IsSide ps.length k → ∀ r H', Same H H' → H r = none → H' r = some (.lst (nvs (posL ps k))) → Q (.ref r) H') ∧
  (¬ IsSide ps.length k → Small k ∧ ∀ d H', Same H H' → H d = none → H' d = some (.xd [("side", .int k)]) → E (.ref D) (some d) H')
def spSidesAt (K : PySem.W.Frag) (C D : Addr) : Sp := fun vs H Q E => ∃ (s : Addr) (ps : List Nat) (p : Int), vs = [.ref s, .int p] ∧ ShapeAt K C H s ps ∧
  (∀ p' : Nat, p = p' → p' ≤ ps.length → ∀ r H', Same H H' → H r = none → H' r = some (.lst (hadL ps p')) → Q (.ref r) H') ∧
  (¬ IsPos ps.length p → Small p ∧ ∀ d H', Same H H' → H d = none → H' d = some (.xd [("position", .int p)]) → E (.ref D) (some d) H')
def spIsLine (K : PySem.W.Frag) (C : Addr) : Sp := fun vs H Q _ => ∃ (s : Addr) (ps : List Nat), vs = [.ref s] ∧ ShapeAt K C H s ps ∧ ∀ H', Same H H' → Q (.bl (decide (ps = List.range ps.length))) H'
/-- a shape of n walls made: of the parents f n -/
def spMade (K : PySem.W.Frag) (C D : Addr) (f : Nat → List Nat) : Sp := fun vs H Q E => ∃ n : Int, vs = [.int n] ∧ -(2 ^ 62) ≤ n ∧ n ≤ 1000 ∧
  (1 ≤ n → ∀ s H', Same H H' → H s = none → ShapeAt K C H' s (f n.toNat) → Q (.ref s) H') ∧
  (n < 1 → ∀ d H', Same H H' → H d = none → H' d = some (.xd [("place", .int 0)]) → E (.ref D) (some d) H')
def spLine (K : PySem.W.Frag) (C D : Addr) : Sp := spMade K C D List.range
def spStar (K : PySem.W.Frag) (C D : Addr) : Sp := spMade K C D fun n => List.replicate n 0
def spEqual (K : PySem.W.Frag) (C : Addr) : Sp := fun vs H Q _ => ∃ (s t : Addr) (ps qs : List Nat), vs = [.ref s, .ref t] ∧ ShapeAt K C H s ps ∧ ShapeAt K C H t qs ∧ Q (.bl (decide (ps = qs))) H
def spYes : Sp := fun vs H Q _ => ∃ a : Bool, vs = [.bl a, .bl a] ∧ Q (.bl true) H
end EP
namespace EP
open PySem L2
theorem rep_one (n : Nat) : (List.replicate n [V.int 0]).flatten = nvs (List.replicate n 0) := by
  unfold nvs
  rw [List.map_replicate]
  induction n with
  | zero => rfl
  | succ n ih => rw [List.replicate_succ, List.flatten_cons, ih, List.replicate_succ]; rfl
end EP
namespace EP
open PySem L2
def spPosOfRef (K : PySem.W.Frag) (C : Addr) : Sp := fun vs H Q _ => ∃ (s : Addr) (ps : List Nat) (k : Int), vs = [.ref s, .int k] ∧ ShapeAt K C H s ps ∧ ¬ IsSide ps.length k ∧ Small k ∧ ∀ H', Same H H' → Q (.bl true) H'
def spSideRef (K : PySem.W.Frag) (C : Addr) : Sp := fun vs H Q _ => ∃ (s : Addr) (ps : List Nat) (p k : Int), vs = [.ref s, .int p, .int k] ∧ ShapeAt K C H s ps ∧ IsPos ps.length p ∧ ¬ IsSide ps.length k ∧ Small k ∧ ∀ H', Same H H' → Q (.bl true) H'
def spPosRef (K : PySem.W.Frag) (C : Addr) : Sp := fun vs H Q _ => ∃ (s : Addr) (ps : List Nat) (p k : Int), vs = [.ref s, .int p, .int k] ∧ ShapeAt K C H s ps ∧ ¬ IsPos ps.length p ∧ Small p ∧ ∀ H', Same H H' → Q (.bl true) H'
def spSidesAtRef (K : PySem.W.Frag) (C : Addr) : Sp := fun vs H Q _ => ∃ (s : Addr) (ps : List Nat) (p : Int), vs = [.ref s, .int p] ∧ ShapeAt K C H s ps ∧ ¬ IsPos ps.length p ∧ Small p ∧ ∀ H', Same H H' → Q (.bl true) H'
def spMadeRef : Sp := fun vs H Q _ => ∃ n : Int, vs = [.int n] ∧ -(2 ^ 62) ≤ n ∧ n < 1 ∧ ∀ H', Same H H' → Q (.bl true) H'
/-- the first wrong item, or 0 if none is wrong -/
def FirstW (ns : List Int) (w : Int) : Prop := (∃ j : Nat, w = (j : Int) ∧ Wrong ns j ∧ ∀ i, i < j → ¬ Wrong ns i) ∨ (w = 0 ∧ ∀ i, ¬ Wrong ns i)
def spFirstWrong (K : PySem.W.Frag) : Sp := fun vs H Q _ => ∃ (l : Addr) (ns : List Int), vs = [.ref l] ∧ SqL K H l (ns.map V.int) ∧ ns.length ≤ 1000 ∧ ∀ w, FirstW ns w → Q (.int w) H
end EP
namespace EP
open PySem L2
theorem ShapeAt.but {K : PySem.W.Frag} {C : Addr} {H H' : Hp} {s t u : Addr} {ps : List Nat} (S : ShapeAt K C H s ps) (hT : Tape H t u) (e : But t H H') : ShapeAt K C H' s ps := by
  obtain ⟨o, p, sm, dx, a, d, kvs, h1, h2, h3, h4⟩ := S
  obtain ⟨xs, i, b, s', c, ht, _⟩ := hT
  refine ⟨o, p, sm, dx, a, d, kvs, e s _ (fun z => by rw [z, ht] at h1; cases h1) h1, ?_, e d _ (fun z => by rw [z, ht] at h3; cases h3) h3, h4⟩
  rcases h2 with h2 | h2
  · rcases h2 with h2 | ⟨o', h2⟩
    · exact .inl (.inl (e a _ (fun z => by rw [z, ht] at h2; cases h2) h2))
    · exact .inl (.inr ⟨o', e a _ (fun z => by rw [z, ht] at h2; cases h2) h2⟩)
  · exact .inr h2
theorem cut_from {L : List Nat} {k : Nat} (h : k ≤ L.length) : cutV (nvs L) (some (k : Int)) none = nvs (L.drop k) := by
  unfold cutV
  rw [HT.sIx_none, HT.sIx_nat, nvs_len, Nat.min_eq_left h]
  unfold nvs
  rw [List.take_of_length_le (by simp), List.map_drop]
theorem ok_set {ps : List Nat} {k r : Nat} (ok : Tr.Ok ps) (hr : r ≤ k) : Tr.Ok (ps.set k r) := fun i p h => by
  rw [List.getElem?_set] at h
  split at h
  · rename_i e
    split at h
    · cases h; omega
    · cases h
  · exact ok i p h
theorem set_split {ps : List Nat} {k r : Nat} (h : k < ps.length) : ps.take k ++ [r] ++ ps.drop (k + 1) = ps.set k r := by
  rw [List.set_eq_take_append_cons_drop, if_pos h, List.append_assoc]
  rfl
theorem ok_take {ps : List Nat} {k : Nat} (ok : Tr.Ok ps) : Tr.Ok (ps.take k) := fun i p h => by
  rw [List.getElem?_take] at h
  split at h
  · exact ok i p h
  · cases h
def spNear : Sp := fun vs H Q _ => ∃ (t u l : Addr) (ps : List Nat), vs = [.ref t, .ref l] ∧ Tape H t u ∧ H l = some (.lst (nvs ps)) ∧ Tr.Ok ps ∧ 1 ≤ ps.length ∧ ps.length ≤ 8 ∧
  ∀ r qs H', Tr.Ok qs → 1 ≤ qs.length → qs.length ≤ 8 → Tape H' t u → But t H H' → H r = none → H' r = some (.lst (nvs qs)) → Q (.ref r) H'
def spSpoilt : Sp := fun vs H Q _ => ∃ (t u l : Addr) (ps : List Nat), vs = [.ref t, .ref l] ∧ Tape H t u ∧ H l = some (.lst (nvs ps)) ∧ 1 ≤ ps.length ∧ ps.length ≤ 8 ∧
  ∀ r ns H', ns.length = ps.length → (∃ j, Wrong ns j) → Tape H' t u → But t H H' → H r = none → H' r = some (.lst (ns.map V.int)) → Q (.ref r) H'
def spRefTold (K : PySem.W.Frag) (C : Addr) : Sp := fun vs H Q _ => ∃ (t u s : Addr) (ps : List Nat), vs = [.ref t, .ref s, .int ps.length] ∧ Tape H t u ∧ ShapeAt K C H s ps ∧ ∀ H', Tape H' t u → But t H H' → Q (.bl true) H'
def spTold (K : PySem.W.Frag) (C : Addr) : Sp := fun vs H Q _ => ∃ (s l : Addr) (ps : List Nat), vs = [.ref s, .ref l] ∧ ShapeAt K C H s ps ∧ SqL K H l (nvs ps) ∧ ∀ H', Same H H' → Q (.bl true) H'
def spEqTold (K : PySem.W.Frag) (C : Addr) : Sp := fun vs H Q _ => ∃ (s t : Addr) (ps qs : List Nat), vs = [.ref s, .ref t, .bl (decide (ps = qs))] ∧ ShapeAt K C H s ps ∧ ShapeAt K C H t qs ∧ Q (.bl true) H
def spLinesStars : Sp := fun vs H Q _ => ∃ n : Nat, vs = [.int n] ∧ n < 1000000000 ∧ ∀ H', Same H H' → Q (.bl true) H'
end EP
namespace EP
open PySem L2
/-- a list of parents that is none -/
def BadL (ns : List Int) : Prop := (∃ j, Wrong ns j) ∨ ns = []
def spCreRef : Sp := fun vs H Q _ => ∃ (l : Addr) (ns : List Int), vs = [.ref l] ∧ H l = some (.lst (ns.map V.int)) ∧ ns.length ≤ 1000 ∧ BadL ns ∧ ∀ H', Same H H' → Q (.bl true) H'
theorem least {p : Nat → Prop} (h : ∃ j, p j) : ∃ j, p j ∧ ∀ i, i < j → ¬ p i := by
  obtain ⟨j, hj⟩ := h
  induction j using Nat.strongRecOn with
  | _ j ih =>
    by_cases c : ∃ i, i < j ∧ p i
    · obtain ⟨i, hi, hp⟩ := c
      exact ih i hi hp
    · exact ⟨j, hj, fun i hi hp => c ⟨i, hi, hp⟩⟩
theorem FirstW.eq {ns : List Int} {w : Int} (h : FirstW ns w) {j : Nat} (hj : Wrong ns j) (hl : ∀ i, i < j → ¬ Wrong ns i) : w = (j : Int) := by
  rcases h with ⟨k, rfl, hk, hm⟩ | ⟨_, no⟩
  · by_cases c : j < k
    · exact absurd hj (hm j c)
    · by_cases c2 : k < j
      · exact absurd hk (hl k c2)
      · have : k = j := by omega
        rw [this]
  · exact absurd hj (no j)
theorem FirstW.nil {w : Int} (h : FirstW [] w) : w = 0 := by
  rcases h with ⟨k, rfl, ⟨p, hp, _⟩, _⟩ | ⟨e, _⟩
  · simp at hp
  · exact e
end EP
namespace EP
open PySem L2
theorem ints_inj {a b : List Int} (h : a.map V.int = b.map V.int) : a = b := by
  induction a generalizing b with
  | nil => cases b with
    | nil => rfl
    | cons y b => simp at h
  | cons x a ih => cases b with
    | nil => simp at h
    | cons y b =>
      rw [List.map_cons, List.map_cons] at h
      obtain ⟨h1, h2⟩ := List.cons.inj h
      rw [V.int.inj h1, ih h2]
theorem BadL.no {ns : List Int} {ps : List Nat} (b : BadL ns) (e : ns.map V.int = nvs ps) (ok : Tr.Ok ps) (pos : 1 ≤ ps.length) : False := by
  have e2 : ns = toI ps := ints_inj (by rw [e, nvs_toI])
  subst e2
  rcases b with ⟨j, hj⟩ | h
  · exact noWrong ok hj
  · have := congrArg List.length h
    rw [toI_len] at this
    simp at this
    rw [this] at pos
    simp at pos
end EP
namespace EP
open PySem L2
theorem tyT {K : PySem.W.Frag} {H : Hp} {a : Addr} {xs : List V} (h : SqT K H a xs) : TyX K H (.ref a) (.type "tuple") := by
  rcases h with (h | ⟨o, h⟩) | ⟨o, its, n, h, hc, _⟩
  · exact .base (.tup h)
  · exact .fTuple h
  · exact .kTuple h hc
theorem Tape.ne_new {H : Hp} {t u a : Addr} (h : Tape H t u) (n : H a = none) : a ≠ t := fun e => h.new (by rw [← e]; exact n)
theorem Tape.ne_newu {H : Hp} {t u a : Addr} (h : Tape H t u) (n : H a = none) : a ≠ u := fun e => h.newu (by rw [← e]; exact n)
end EP
namespace EP
open PySem L2
def spIntsZ (K : PySem.W.Frag) : Sp := fun vs H Q _ => ∃ (x y : Addr) (L : List Int), vs = [.ref x, .ref y] ∧ H x = some (.lst (L.map V.int)) ∧ SqL K H y (L.map V.int) ∧ L.length ≤ 5000 ∧ Q (.bl true) H
def hadI (ps : List Nat) (p : Nat) : List Int := (List.range ps.length).map fun k => Tr.side ps p (k + 1)
theorem hadI_eq (ps : List Nat) (p : Nat) : hadL ps p = (hadI ps p).map V.int := by unfold hadL hadI; rw [List.map_map]; rfl
theorem hadI_len (ps : List Nat) (p : Nat) : (hadI ps p).length = ps.length := by unfold hadI; rw [List.length_map, List.length_range]
theorem hadL_of {ps : List Nat} {p i : Nat} {x : V} (h : (hadL ps p)[i]? = some x) : i < ps.length ∧ x = V.int (Tr.side ps p (i + 1)) := by
  have hi := (List.getElem?_eq_some_iff.mp h).1
  rw [hadL_len] at hi
  rw [hadL_get hi] at h
  exact ⟨hi, (Option.some.inj h).symm⟩
/-- a side that p has, and its opposite -/
theorem side_has {ps : List Nat} {p k : Nat} (h : 1 ≤ k) (hk : k ≤ ps.length) : IsSide ps.length (Tr.side ps p k) ∧ hasS ps (p : Int) (Tr.side ps p k) = true ∧ IsSide ps.length (0 - Tr.side ps p k) ∧ hasS ps (p : Int) (0 - Tr.side ps p k) = false := by
  unfold Tr.side
  by_cases c : Tr.has ps p k = true
  · rw [if_pos c]
    have e := hasS_neg (ps := ps) (p := p) h
    rw [show (0 - (k : Int)) = -(k : Int) by omega, e, hasS_nat h, c]
    exact ⟨⟨by omega, by omega, by omega⟩, rfl, ⟨by omega, by omega, by omega⟩, rfl⟩
  · rw [if_neg c]
    have e := hasS_neg (ps := ps) (p := p) h
    have c' : Tr.has ps p k = false := by simpa using c
    rw [show (0 - (0 - (k : Int))) = (k : Int) by omega, show (0 - (k : Int)) = -(k : Int) by omega, e, hasS_nat h, c']
    exact ⟨⟨by omega, by omega, by omega⟩, rfl, ⟨by omega, by omega, by omega⟩, rfl⟩
/-- the sides that a position has, searched -/
theorem had_in {ps : List Nat} {p : Nat} {s : Int} (hs : IsSide ps.length s) : inV (V.int s) (hadL ps p) = hasS ps (p : Int) s := by
  obtain ⟨h0, h1, h2⟩ := hs
  have key : inV (V.int s) (hadL ps p) = true ↔ hasS ps (p : Int) s = true := by
    unfold inV
    rw [List.any_eq_true]
    constructor
    · rintro ⟨x, hx, e⟩
      obtain ⟨i, hi⟩ := List.getElem?_of_mem hx
      obtain ⟨hi', rfl⟩ := hadL_of hi
      have e' : s = Tr.side ps p (i + 1) := (of_decide_eq_true (p := Tr.side ps p (i + 1) = s) (by simpa [eqV] using e)).symm
      rw [e']
      exact (side_has (by omega) (by omega)).2.1
    · intro h
      by_cases c : 0 < s
      · refine ⟨V.int (Tr.side ps p (s.toNat - 1 + 1)), List.mem_of_getElem? (hadL_get (k := s.toNat - 1) (by omega)), ?_⟩
        have e : s.toNat - 1 + 1 = s.toNat := by omega
        rw [e]
        have h' : Tr.has ps p s.toNat = true := by unfold hasS at h; rw [if_pos c] at h; simpa using h
        unfold Tr.side
        rw [if_pos h']
        show decide (((s.toNat : Nat) : Int) = s) = true
        exact decide_eq_true (by omega)
      · refine ⟨V.int (Tr.side ps p ((-s).toNat - 1 + 1)), List.mem_of_getElem? (hadL_get (k := (-s).toNat - 1) (by omega)), ?_⟩
        have e : (-s).toNat - 1 + 1 = (-s).toNat := by omega
        rw [e]
        have h' : Tr.has ps p (-s).toNat = false := by unfold hasS at h; rw [if_neg c] at h; simpa using h
        unfold Tr.side
        rw [if_neg (by rw [h']; decide)]
        show decide (0 - (((-s).toNat : Nat) : Int) = s) = true
        exact decide_eq_true (by omega)
  cases a : inV (V.int s) (hadL ps p) <;> cases b : hasS ps (p : Int) s
  · rfl
  · rw [a, b] at key; simp at key
  · rw [a, b] at key; simp at key
  · rfl
theorem hadL_flat (ps : List Nat) (p : Nat) : (hadL ps p).all flatV = true := by
  rw [List.all_eq_true]
  intro x hx
  obtain ⟨i, hi⟩ := List.getElem?_of_mem hx
  obtain ⟨_, rfl⟩ := hadL_of hi
  rfl
end EP
namespace EP
open PySem L2
theorem posL_len (ps : List Nat) (k : Int) : (posL ps k).length ≤ ps.length + 1 := by
  unfold posL
  exact Nat.le_trans (List.length_filter_le _ _) (by rw [List.length_range]; exact Nat.le_refl _)
end EP
namespace EP
open PySem L2
theorem ShapeAt.mut {K : PySem.W.Frag} {C : Addr} {H : Hp} {s a : Addr} {o : HO} {xs : List V} {ps : List Nat} (S : ShapeAt K C H s ps) (ha : H a = some (.lst xs)) : ShapeAt K C (upd H a o) s ps := by
  obtain ⟨ok, p, sm, dx, b, d, kvs, h1, h2, h3, h4⟩ := S
  refine ⟨ok, p, sm, dx, b, d, kvs, by rw [upd_ne (fun z => by rw [z, ha] at h1; cases h1)]; exact h1, ?_, by rw [upd_ne (fun z => by rw [z, ha] at h3; cases h3)]; exact h3, h4⟩
  rcases h2 with h2 | h2
  · rcases h2 with h2 | ⟨o', h2⟩
    · exact .inl (.inl (by rw [upd_ne (fun z => by rw [z, ha] at h2; cases h2)]; exact h2))
    · exact .inl (.inr ⟨o', by rw [upd_ne (fun z => by rw [z, ha] at h2; cases h2)]; exact h2⟩)
  · exact .inr h2
def wideN : List Nat := [0, 1, 2, 0, 4, 5, 6, 7, 8, 0]
theorem ok_wide : Tr.Ok wideN := fun i p h => by
  match i, h with
  | 0, h => cases h; decide
  | 1, h => cases h; decide
  | 2, h => cases h; decide
  | 3, h => cases h; decide
  | 4, h => cases h; decide
  | 5, h => cases h; decide
  | 6, h => cases h; decide
  | 7, h => cases h; decide
  | 8, h => cases h; decide
  | 9, h => cases h; decide
  | n + 10, h => simp [wideN] at h
theorem wide_eq : [V.int 0, V.int 1, V.int 2, V.int 0, V.int 4, V.int 5, V.int 6, V.int 7, V.int 8, V.int 0] = (toI wideN).map V.int := rfl
end EP
namespace EG
open PySem PySem.Spec PyProof.Rows L2 GenW GxR

theorem over_genL {A : Around} {elt : Expr} {gs : List Comprehension} {scope : Scope} {pos : Pos} {it acc : Value} {env : Env} : A.over (.compLoop (.GeneratorExp elt gs scope pos) 0 it acc env) [] = A.deeper env := by
  first
    | rfl
    | (obtain ⟨hd, d, fr, gs, u⟩ := A; simp [Around.over, Around.deeper, marksOver, frameCount, unitsOf, envsOf, guardsOf, pushEnvs, pushGuards, Code.envs, Code.env?, Code.isFrame, Code.guards, Code.isGuard, Code.weight, Code.frames, Code.isCreation, Code.isCaller, Code.cUnits])

/-- the context of a generator expression's frame -/
abbrev cxGen (X : Cx) (s : Shared) (H : Hp) (cenv : Env) (A : Around) (fp : List Addr) (pn : List (Addr × Obj)) : Cx :=
  { X with A := A, s_0 := s, H_0 := H, env := cenv, outer := X.stack, stack := cenv :: X.stack, ex := fp, fn := fun _ => false, pn := pn, xe := fun _ _ => False }

theorem gen_start {X : Cx} {pins pn : List (Addr × Obj)} {σ : L2.St} {H : Hp} {s s5 : Shared} {scope : Scope} {own : List (Str × Nat)} {fp : List Addr} {cenv : Env} {A : Around}
    (I : Inv X pins σ H s) (ok : BlkOk X.N X.env.scope scope own) (hN : X.N.Nodup) (hnc : ∀ y ∈ scope.names, y.2 ≠ .cell) (hfp : ∀ b ∈ fp, FpOk X pins H b ∧ b < s.heap.objs.size)
    (eL : cenv.locals = s.heap.objs.size) (ecl : cenv.cells = cloFrom X.env.cells scope.names []) (esc : cenv.scope = scope) (egl : cenv.globals = mainGlobals) (ebl : cenv.builtins = builtinsNs) (efr : cenv.frame = some cenv.locals)
    (hA : A.frames = some (cenv :: X.stack)) (hd : A.handled = none) (hos : s5.os = s.os) (hb : AllBare s5.gens) (kp : ∀ b o, s.heap.get? b = some o → s5.heap.get? b = some o) (hn : ∃ m, s5.heap.Ns s.heap.objs.size m)
    (hpn : ∀ p ∈ pn, s5.heap.get? p.1 = some p.2 ∧ s.heap.objs.size < p.1 ∧ ∀ v, p.2.data ≠ .cell v) :
    Inv (cxGen X s H cenv A fp pn) [] (wipe σ (own.map (·.2))) H s5 := by
  have hfree : ∀ y ∈ scope.names, y.2 = .free → ∃ c, X.env.cells.lookup y.1 = some c := fun y hy e => by
    rcases ok.free y hy e with k | k
    · exact I.ok.has _ (.inl k)
    · exact I.ok.has _ (.inr k)
  have cm : ∀ {y c}, (y, c) ∈ cloFrom X.env.cells scope.names [] → X.env.cells.lookup y = some c ∧ c < s.heap.objs.size := fun {y c} hm => by
    rcases cloFrom_mem hm with hm | ⟨h1, rfl⟩
    · cases hm
    · obtain ⟨c, hc⟩ := hfree _ h1 rfl
      rw [hc]
      obtain ⟨w, z⟩ := I.cell _ _ hc
      exact ⟨rfl, z.lt⟩
  have mem : ∀ {y c}, cenv.cells.lookup y = some c → X.env.cells.lookup y = some c ∧ c < s.heap.objs.size := fun {y c} e => by
    rw [ecl] at e
    exact cm (PySem.mem_of_lookup e)
  have look : ∀ {y}, scope.names.lookup y = some .free → ∃ c, cenv.cells.lookup y = some c ∧ X.env.cells.lookup y = some c := fun {y} hl => by
    obtain ⟨c', e'⟩ := mem_lookup (cloFrom_has (cells := X.env.cells) (acc := []) (PySem.mem_of_lookup hl))
    rw [← ecl] at e'
    exact ⟨c', e', (mem e').1⟩
  have nocell : ∀ {y}, scope.names.lookup y ≠ some .cell := fun {y} e => hnc _ (PySem.mem_of_lookup e) rfl
  have okB : (cxGen X s H cenv A fp pn).Ok := by
    refine ⟨I.ok.mod, by show cenv.scope.kind = _; rw [esc]; exact ok.kind, egl, ebl, by show s.heap.objs.size ≤ cenv.locals; rw [eL]; exact Nat.le_refl _,
      fun y z c e1 e2 => I.ok.inj y z c (mem e1).1 (mem e2).1, fun y hy => ?_, fun y c z e => ?_, fun _ => hd, hA, .inr ⟨rfl, efr⟩, fun b hb => ⟨?_, fun y c e z => ?_⟩, I.bs, Nat.le_trans I.ok.bsz I.sz, fun b o e hb => ?_, fun b hb z => ?_, I.stack, I.stkFree⟩
    · show ∃ c, cenv.cells.lookup y = some c
      rcases hy with hy | hy
      · have hy : cenv.scope.names.lookup y = some .cell := hy
        rw [esc] at hy
        exact absurd hy nocell
      · have hy : cenv.scope.names.lookup y = some .free := hy
        rw [esc] at hy
        obtain ⟨c, h, _⟩ := look hy
        exact ⟨c, h⟩
    · exact absurd (show false = true from z) Bool.false_ne_true
    · show b ≠ cenv.locals
      rw [eL]; exact Nat.ne_of_lt (hfp b hb).2
    · exact (hfp b hb).1.2.2.2.2.1 y c (mem e).1 z
    · rcases (hfp b hb).1.2.2.2.1 with z | z
      · exact I.ok.noex b o e z
      · exact absurd (Nat.lt_of_lt_of_le (Heap.lt_size e) (Nat.le_trans I.ok.bsz z)) (Nat.lt_irrefl _)
    · rcases List.mem_cons.mp (I.stkSub b z) with z | z
      · exact (hfp b hb).1.2.1 z
      · exact (hfp b hb).1.2.2.1 z
  obtain ⟨m0, hn⟩ := hn
  refine ⟨okB, hos, hb, Un.kept kp, ⟨m0, ?_, fun i y av e1 e2 e3 => ?_⟩, fun y c e => ?_, ?_, fun y c e => ?_, fun p hp => ?_, I.hok.kept kp, by rw [wipe_length]; exact I.len⟩
  · show Heap.Ns _ cenv.locals _
    rw [eL]
    exact hn
  · obtain ⟨e2, hne⟩ := wipe_some e2
    have e3 : Vis cenv.scope y := e3
    rw [esc] at e3
    have no : ∀ k, scope.names.lookup y = some k → ¬ (k = .local ∨ k = .cell) := fun k e hh => by
      rcases ok.own _ (PySem.mem_of_lookup e) hh with e' | e'
      · obtain ⟨p, hp, hpy⟩ := List.mem_map.mp e'
        have e3 := ok.ix p hp
        have : p.1 = y := hpy
        rw [this] at e3
        exact hne (List.mem_map.mpr ⟨p, hp, nodup_ix hN e3 e1⟩)
      · exact e' (List.mem_of_getElem? e1)
    have hfr : scope.names.lookup y = some .free := by
      rcases e3 with e3 | e3 | e3
      · exact absurd (.inl rfl) (no _ e3)
      · exact absurd (.inr rfl) (no _ e3)
      · exact e3
    obtain ⟨m, hn', hl⟩ := I.loc
    have hvis : Vis X.env.scope y := (ok.free _ (PySem.mem_of_lookup hfr) rfl).elim (fun k => .inr (.inl k)) (fun k => .inr (.inr k))
    obtain ⟨w, r, q⟩ := hl i y av e1 e2 hvis
    refine ⟨w, r, .inr ⟨.inr (by show cenv.scope.names.lookup y = _; rw [esc]; exact hfr), ?_⟩⟩
    obtain ⟨c, h1, h2⟩ := look hfr
    rcases q with ⟨k, _⟩ | ⟨_, c', e', z⟩
    · have k : X.env.scope.names.lookup y = some .local := k
      rcases ok.free _ (PySem.mem_of_lookup hfr) rfl with k' | k' <;> rw [show X.env.scope.names.lookup y = _ from k'] at k <;> cases k
    · rw [h2] at e'; cases e'
      exact ⟨c, h1, z.keeps kp⟩
  · obtain ⟨w, z⟩ := I.cell y c (mem e).1
    exact ⟨w, z.keeps kp⟩
  · show H cenv.locals = none
    rw [eL]; exact I.hok.fresh (Nat.le_refl _)
  · exact I.freeC y c (mem e).1
  · have hp : p ∈ pn := by simpa using hp
    obtain ⟨h1, h2, h3⟩ := hpn p hp
    refine ⟨h1, I.hok.fresh (Nat.le_of_lt h2), by show p.1 ≠ cenv.locals; rw [eL]; exact Nat.ne_of_gt h2, fun z => ?_, h3⟩
    rcases List.mem_cons.mp (I.stkSub p.1 z) with z | z
    · have := I.lt
      rw [← z] at this
      exact absurd (Nat.lt_trans this h2) (Nat.lt_irrefl _)
    · exact I.nofs (Nat.le_of_lt h2) z

theorem allBare_set {s : Shared} {g : Nat} {x : GenState} (h : AllBare s.gens) (hx : x.bare = true) : AllBare (s.setGen g x).gens := fun y hy => by
  obtain ⟨j, hj, rfl⟩ := Array.mem_iff_getElem.mp hy
  have e : (s.setGen g x).gens[j]? = some ((s.setGen g x).gens[j]) := Array.getElem?_eq_getElem hj
  by_cases hg : g = j
  · subst hg
    have hj2 : g < s.gens.size := by rw [← GenW.setGen_size s g x]; exact hj
    have e2 : (s.setGen g x).gens[g]? = some x := by simp [Shared.setGen, hj2]
    rw [e] at e2
    rw [Option.some.inj e2]
    exact hx
  · have hj2 : j < s.gens.size := by rw [← GenW.setGen_size s g x]; exact hj
    have e2 : (s.setGen g x).gens[j]? = s.gens[j]? := by simp [Shared.setGen, hg]
    rw [e, Array.getElem?_eq_getElem hj2] at e2
    rw [Option.some.inj e2]
    exact h _ (Array.getElem_mem hj2)
/-! ### the consumer -/
inductive CK where
  | all | any | sum
abbrev sumObj (a : Int) (t : Tok) (c : Nat) : Obj := { cls := .type "list", dict := none, data := .seq #[.int a t] c, slots := #[] }
/-- what the consumer keeps while it waits: sum its list of one int -/
def cpOf : CK → Addr → Int → Tok → Nat → List (Addr × Obj)
  | .sum, S, a, t, c => [(S, sumObj a t c)]
  | _, _, _, _, _ => []
/-- what becomes of an element -/
def tEl (k : CK) (a : Int) (y : V) (Nx : Int → Hp → Prop) (Q : VK) (H : Hp) : Prop :=
  match k with
  | .all => ∃ c, y = .bl c ∧ if c = true then Nx a H else Q (.bl false) H
  | .any => ∃ c, y = .bl c ∧ if c = true then Q (.bl true) H else Nx a H
  | .sum => ∃ n, y = .int n ∧ Nx (a + n) H
def tFin (k : CK) (a : Int) : V :=
  match k with
  | .all => .bl true
  | .any => .bl false
  | .sum => .int a
/-- while the generator sleeps -/
structure Nap (k : CK) (S : Addr) (s s' : Shared) : Prop where
  os : s'.os = s.os
  bare : AllBare s'.gens
  keep : ∀ b o, (k = .sum → b ≠ S) → s.heap.get? b = some o → s'.heap.get? b = some o

/-- a generator expression that has been made -/
structure GG where
  X : Cx
  pins : List (Addr × Obj)
  σ : L2.St
  s4 : Shared
  H4 : Hp
  cenv : Env
  AG : Around
  fp : List Addr
  it : Addr
  tn : Nat → Heap → Prop
  J : It
  ga : Addr
  go : Obj
  g : Nat
  S : Addr
  elt : Expr
  tg : Expr
  iter : Expr
  ifs : List Expr
  scope : Scope
  gpos : Pos
  vs : List Nat
  gt : TG
  tt : TT
  te : TE
  k : CK
  W : Nat → Nat → Int → Hp → Prop
  Q : VK
namespace GG
variable (G : GG)
def code : Code := .compLoop (.GeneratorExp G.elt [⟨G.tg, G.iter, G.ifs, 0⟩] G.scope G.gpos) 0 (.ref G.it) .none G.cenv
abbrev XG : Cx := cxGen G.X G.s4 G.H4 G.cenv (G.AG.deeper G.cenv) G.fp [(G.ga, G.go)]
abbrev cp (a : Int) (t : Tok) (c : Nat) : List (Addr × Obj) := cpOf G.k G.S a t c
/-- it stands ahead of item i -/
def SI (cp : List (Addr × Obj)) (i : Nat) (H : Hp) (s : Shared) : Prop := Inv G.XG cp (wipe G.σ G.vs) H s ∧ G.tn i s.heap ∧ ∀ b ∈ G.fp, H b = none
def Y : Protocol := fun n s₀ v s kap => ∃ (i m : Nat) (a : Int) (t : Tok) (c : Nat) (y : V) (H : Hp) (Nx : Int → Hp → Prop), RelV y v ∧ m ≤ n ∧ (∀ p ∈ G.cp a t c, s₀.heap.get? p.1 = some p.2) ∧ G.SI (G.cp a t c) (i + 1) H s ∧
  (∀ a' H', Nx a' H' → ∃ m', m' < m ∧ G.W (i + 1) m' a' H') ∧ tEl G.k a y Nx G.Q H ∧
  ∀ s' m' a' t' c', m' < m → G.W (i + 1) m' a' H → Nap G.k G.S s s' → (∀ p ∈ G.cp a' t' c', s'.heap.get? p.1 = some p.2) → kap (.send .none) s'
def PD (n : Nat) (s₀ s : Shared) : Prop := ∃ (i : Nat) (a : Int) (t : Tok) (c : Nat) (H : Hp), (∀ p ∈ G.cp a t c, s₀.heap.get? p.1 = some p.2) ∧ Inv G.XG (G.cp a t c) (wipe G.σ G.vs) H s ∧ G.Q (tFin G.k a) H
def R : GenEnd := fun n s₀ r s => r = .ok .next ∧ G.PD n s₀ s
structure Ok : Prop where
  inv : Inv G.X G.pins G.σ G.H4 G.s4
  calm : G.X.calm = true
  turn : Turn G.X.prog G.X.w G.X.K G.tg G.J G.fp G.it G.tn
  fpok : ∀ b ∈ G.fp, FpOk G.X G.pins G.H4 b ∧ b < G.s4.heap.objs.size
  pg : PG G.XG G.tg G.gt
  pt : PTs G.XG G.ifs G.tt
  pe : PE G.XG G.elt G.te
  co : G.cenv.scope.isCoroutine = false
  eL : G.cenv.locals = G.s4.heap.objs.size
  ecl : ∀ y c, G.cenv.cells.lookup y = some c → c < G.s4.heap.objs.size
  gaL : G.s4.heap.objs.size < G.ga
  gaS : G.ga < G.S
  goc : G.go.cls = .type "generator"
  god : ∃ nm qn, G.go.data = .fields #[.int G.g 0, nm, qn]
  gos : G.go.slots = #[]
  hd : G.AG.handled = none
  room : G.AG.depth < recursionLimit
  turns : ∀ i m a H, G.W i m a H → (G.J.stop i H ∧ G.Q (tFin G.k a) H) ∨ (G.J.go i H ∧ ∃ Nx : Int → Hp → Prop, (∀ a' H', Nx a' H' → ∃ m', m' < m ∧ G.W (i + 1) m' a' H') ∧ ∀ x H', G.J.yld i H x H' →
    G.gt x (wipe G.σ G.vs) H' fun σ2 H2 => wipe σ2 G.vs = wipe G.σ G.vs ∧ G.tt σ2 H2 fun b H3 => if b = true then G.te σ2 H3 fun y H4 => tEl G.k a y Nx G.Q H4 else Nx a H3)
variable {G}
theorem cp_at {a : Int} {t : Tok} {c : Nat} {p : Addr × Obj} (h : p ∈ G.cp a t c) : G.k = .sum ∧ p.1 = G.S ∧ ∀ v, p.2.data ≠ .cell v := by
  unfold cp cpOf at h
  cases hk : G.k with
  | all => rw [hk] at h; cases h
  | any => rw [hk] at h; cases h
  | sum =>
    rw [hk] at h
    rw [List.mem_singleton.mp h]
    exact ⟨rfl, rfl, fun v e => by cases e⟩
theorem stat (O : G.Ok) {cp : List (Addr × Obj)} {σ' : L2.St} {H' : Hp} {s' : Shared} (hc : ∀ p ∈ cp, p.1 = G.S) (I : Inv G.XG cp σ' H' s') (hn : ∀ b ∈ G.fp, H' b = none) : ∀ b ∈ G.fp, FpOk G.XG cp H' b := fun b hb =>
  ⟨hn b hb, (I.ok.exf b hb).1, I.ok.exfs b hb, .inl hb, fun x c e => (I.ok.exf b hb).2 x c e, fun p hp => by
    have hlt := (O.fpok b hb).2
    rcases List.mem_append.mp hp with z | z
    · rw [List.mem_singleton.mp z]
      exact Nat.ne_of_gt (Nat.lt_trans hlt O.gaL)
    · rw [hc p z]
      exact Nat.ne_of_gt (Nat.lt_trans hlt (Nat.lt_trans O.gaL O.gaS))⟩
theorem nap_ok (O : G.Ok) {a a' : Int} {t t' : Tok} {c c' i : Nat} {H : Hp} {s s' : Shared} (h : G.SI (G.cp a t c) i H s) (z : Nap G.k G.S s s') (hp : ∀ p ∈ G.cp a' t' c', s'.heap.get? p.1 = some p.2) (hS : G.k = .sum → H G.S = none) : G.SI (G.cp a' t' c') i H s' := by
  obtain ⟨I, st, hn⟩ := h
  have hlt : ∀ b ∈ G.fp, b ≠ G.S := fun b hb => Nat.ne_of_lt (Nat.lt_trans (O.fpok b hb).2 (Nat.lt_trans O.gaL O.gaS))
  have nS : ∀ b u, H b = some u → G.k = .sum → b ≠ G.S := fun b u e hk z => by rw [z, hS hk] at e; cases e
  have I0 : Inv G.XG [] (wipe G.σ G.vs) H s := I.pins_of fun p hp => absurd hp (by simp)
  have SL : G.S ≠ G.cenv.locals := by rw [O.eL]; exact Nat.ne_of_gt (Nat.lt_trans O.gaL O.gaS)
  have young : G.s4.heap.objs.size ≤ G.S := Nat.le_of_lt (Nat.lt_trans O.gaL O.gaS)
  have SC : ∀ x c, G.cenv.cells.lookup x = some c → c ≠ G.S := fun x c e z => by
    have := O.ecl x c e
    rw [z] at this
    exact absurd (Nat.lt_of_lt_of_le this young) (Nat.lt_irrefl _)
  obtain ⟨z1, z2, z3⟩ := z
  obtain ⟨hh, g, d, tk, o⟩ := s'
  have ho : o = s.os := z1
  subst ho
  have nc : ∀ b, b ∉ [G.S] → G.k = .sum → b ≠ G.S := fun b hb _ e => hb (by rw [e]; exact List.mem_singleton.mpr rfl)
  have J : Inv G.XG [] (wipe G.σ G.vs) H { s with heap := hh, gens := g, drawn := d, toks := tk } := by
    by_cases hk : G.k = .sum
    · refine I0.step (g' := g) (t' := tk) (d' := d) (ch := [G.S]) (fun b hb => ?_)
        (fun b ob _ _ hc q _ => z3 b ob (nc b hc) q) (fun b ob _ _ hc q _ => ⟨ob.slots, z3 b ob (nc b hc) q⟩) (fun _ _ _ _ n => n) (fun b ob hc q => ⟨ob, z3 b ob (nc b hc) q⟩)
        (fun _ _ q => q) (fun _ _ _ q => q) (fun b ps q => ⟨#[], by rw [q]; simp⟩) (fun m hm => ?_) (fun b u q => ?_) z2
      · rw [List.mem_singleton.mp hb]
        refine ⟨.inr young, SL, SC, fun p hp => ?_⟩
        rcases List.mem_append.mp hp with hp | hp
        · rw [List.mem_singleton.mp hp]
          exact Nat.ne_of_lt O.gaS
        · cases hp
      · obtain ⟨ob, es, ep, ho, r⟩ := hm
        exact ⟨ob, es, ep, z3 _ ob (fun _ => Ne.symm SL) ho, r⟩
      · refine (I0.hok b u q).stay (fun c v hc y => z3 c v ?_ y) (fun _ y => y) fun _ _ y => y
        rcases hc with y | y
        · rw [y]; exact nS b u q
        · exact nS c _ y
    · have kp : ∀ b u, s.heap.get? b = some u → hh.get? b = some u := fun b u e => z3 b u (fun q => absurd q hk) e
      exact I0.call' (s' := ⟨hh, g, d, tk, s.os⟩) (ch := []) rfl (Un.kept kp) (I0.hok.kept kp) z2 fun b hb => absurd hb (by simp)
  refine ⟨J.pins_of fun p hp' => ?_, O.turn.keep _ _ _ st fun b hb ob e => z3 b ob (fun _ => hlt b hb) e, hn⟩
  obtain ⟨k1, k2, k3⟩ := cp_at hp'
  refine ⟨hp p hp', by rw [k2]; exact hS k1, by rw [k2]; exact SL, fun q => ?_, k3⟩
  rw [k2] at q
  rcases List.mem_cons.mp (O.inv.stkSub _ q) with y | y
  · have := O.inv.lt
    rw [← y] at this
    exact absurd (Nat.lt_of_lt_of_le this young) (Nat.lt_irrefl _)
  · exact O.inv.nofs young y
/-- S is not tracked while it is pinned -/
theorem SI.noS {a : Int} {t : Tok} {c i : Nat} {H : Hp} {s : Shared} (h : G.SI (G.cp a t c) i H s) (hk : G.k = .sum) : H G.S = none := by
  have : (G.S, sumObj a t c) ∈ G.cp a t c := by unfold cp cpOf; rw [hk]; exact List.mem_singleton.mpr rfl
  exact (h.1.pin _ (List.mem_append_right _ this)).2.1
theorem compTurn_genT (elt target iter : Expr) (ifs : List Expr) (scope : Scope) (pos : Pos) (it acc : Value) (env : Env) :
    compTurn (.GeneratorExp elt [⟨target, iter, ifs, 0⟩] scope pos) 0 it acc env = (do
      standAt iter.pos
      match ← pyNext it with
      | none => pure (.done .next)
      | some v =>
        letOwnedTupleGo target it v
        assign target env v
        let mut ok := true
        for c in ifs do
          if ok then ok ← isTrue c env (eval c env)
        if ok then
          (do let v ← eval elt env; standAt elt.pos; let _ ← yieldOut env v)
        again (.compLoop (.GeneratorExp elt [⟨target, iter, ifs, 0⟩] scope pos) 0 it acc env)) := by rfl

theorem seg_loop (O : G.Ok) : ∀ (m n i : Nat) (a : Int) (t : Tok) (c : Nat) (H : Hp) (s₀ s : Shared), m < n → G.W i m a H → G.SI (G.cp a t c) i H s → (∀ p ∈ G.cp a t c, s₀.heap.get? p.1 = some p.2) →
    Seg (model G.X.prog G.X.w) G.AG G.R G.Y n s₀ G.code ((model G.X.prog G.X.w).den G.code) [] s := by
  intro m
  induction m using Nat.strongRecOn with
  | ind m ih =>
    intro n i a t c H s₀ s hmn w hSI hs0
    obtain ⟨I, st, hn⟩ := id hSI
    have T := O.turn
    have hcS : ∀ p ∈ G.cp a t c, p.1 = G.S := fun p hp => (cp_at hp).2.1
    show Seg _ G.AG _ _ _ s₀ _ ((compTurn (.GeneratorExp G.elt [⟨G.tg, G.iter, G.ifs, 0⟩] G.scope G.gpos) 0 (.ref G.it) .none G.cenv).onRaise (leaving G.cenv)) [] s
    rw [compTurn_genT, Sem.onRaise_eq_wrap]
    refine seg_bind_wrap (wpAny_standAt ?_)
    have ov : G.AG.over G.code [] = G.XG.A := over_genL
    rcases O.turns i m a H w with ⟨stop, qq⟩ | ⟨go, Nx, hNx, step⟩
    · refine seg_bind_wrap ?_
      rw [ov]
      refine thnF (T.done G.XG rfl rfl rfl O.calm i _ s _ H (fun _ _ => False) I (stat O hcS I hn) st stop) fun r s1 ⟨hr, I1⟩ => ?_
      subst hr
      exact seg_end (.ok .next) ⟨rfl, i, a, t, c, H, hs0, I1, qq⟩
    · refine seg_bind_wrap ?_
      rw [ov]
      refine thnF (T.item G.XG rfl rfl rfl O.calm i _ s _ H (fun _ _ => False) I (stat O hcS I hn) st go) fun r s6 ⟨u, hr, h6⟩ => ?_
      subst hr
      refine seg_bind_wrap ?_
      rw [ov]
      refine thnF h6 fun _ s7 ⟨x, H7, I7, r7, y7, st7, n7⟩ => ?_
      have I7' := I7.pinned (stat O hcS I7 n7) (T.obj _ _ st7)
      refine seg_bind_wrap ?_
      rw [ov]
      refine thnF (O.pg.run _ s7 _ H7 x u _ I7' r7 (step x H7 y7)) fun _ s8 ⟨σ8, H8, I8, hw8, q8⟩ => ?_
      refine seg_bind_wrap ?_
      rw [ov]
      refine thnF (O.pt.run _ s8 σ8 H8 _ I8 q8) fun b s9 ⟨H9, I9, q9⟩ => ?_
      have fin : ∀ {s' : Shared} {H' : Hp}, Inv G.XG (G.cp a t c ++ pinsAt G.fp s7.heap) σ8 H' s' → G.SI (G.cp a t c) (i + 1) H' s' := fun {s' H'} I' => by
        have pin' : ∀ b ∈ G.fp, ∀ o, s7.heap.get? b = some o → s'.heap.get? b = some o ∧ H' b = none := fun b hb o e =>
          let z := I'.pin (b, o) (List.mem_append_right _ (List.mem_append_right _ (mem_pinsAt hb e)))
          ⟨z.1, z.2.1⟩
        have hl : (wipe G.σ G.vs).length = σ8.length := by rw [← hw8, wipe_length]
        refine ⟨(I'.unpinned (pins := G.cp a t c)).weak hl (fun j v e => ?_), T.keep _ _ _ st7 fun b hb o e => (pin' b hb o e).1, fun b hb => ?_⟩
        · rw [← hw8] at e
          exact (wipe_some e).1
        · obtain ⟨o, e, _⟩ := T.obj _ _ st7 b hb
          exact (pin' b hb o e).2
      cases b with
      | false =>
        simp only [Bool.false_eq_true, if_false] at q9 ⊢
        obtain ⟨m', hm, w'⟩ := hNx a H9 q9
        exact seg_again rfl (ih m' hm n (i + 1) a t c H9 s₀ s9 (by omega) w' (fin I9) hs0)
      | true =>
        simp only [if_true] at q9 ⊢
        have hy : ∀ v, yieldOut G.cenv v = yieldValue v := fun v => by simp only [yieldOut, O.co, Bool.false_eq_true, if_false]
        simp only [hy]
        rw [Sem.bind_eq_wrap', Sem.bind_eq_wrap', Sem.wrap_wrap, Sem.wrap_wrap]
        refine seg_wrap ?_
        rw [ov]
        refine thnF (O.pe.run _ s9 σ8 H9 _ I9 q9) fun z s10 ⟨yv, H10, I10, r10, q10⟩ => ?_
        obtain ⟨n', rfl⟩ : ∃ n', n = n' + 1 := ⟨n - 1, by omega⟩
        refine seg_at (seg_yield rfl rfl rfl ⟨i, m, a, t, c, yv, H10, Nx, r10, by omega, hs0, fin I10, fun a' H' nx => hNx a' H' nx, q10, fun s' m' a' t' c' hm w' nap hp => ?_⟩)
        exact seg_again rfl (ih m' hm n' (i + 1) a' t' c' H10 s' s' (by omega) w' (nap_ok O (fin I10) nap hp (fun hk => (fin I10).noS hk)) hp)
theorem seg_start (O : G.Ok) {m n i : Nat} {a : Int} {t : Tok} {c : Nat} {H : Hp} {s₀ s : Shared} (hmn : m < n) (w : G.W i m a H) (hSI : G.SI (G.cp a t c) i H s) (hs0 : ∀ p ∈ G.cp a t c, s₀.heap.get? p.1 = some p.2) :
    Seg (model G.X.prog G.X.w) G.AG G.R G.Y n s₀ (.compStart (.GeneratorExp G.elt [⟨G.tg, G.iter, G.ifs, 0⟩] G.scope G.gpos) 0 (.ref G.it) .none G.cenv)
      ((model G.X.prog G.X.w).den (.compStart (.GeneratorExp G.elt [⟨G.tg, G.iter, G.ifs, 0⟩] G.scope G.gpos) 0 (.ref G.it) .none G.cenv)) [] s := by
  have loop := seg_loop O m n i a t c H s₀ s hmn w hSI hs0
  obtain ⟨I, st, hn⟩ := hSI
  show Seg _ G.AG _ _ _ s₀ _ ((compStart (.GeneratorExp G.elt [⟨G.tg, G.iter, G.ifs, 0⟩] G.scope G.gpos) 0 (.ref G.it) .none G.cenv).onRaise (leaving G.cenv)) [] s
  unfold compStart
  rw [Sem.onRaise_eq_wrap]
  show Seg _ G.AG _ _ _ s₀ _ ((ask >>= _).wrap _ _ _ _) [] s
  refine seg_bind_wrap (wpAny_askSetting ?_)
  split
  · exact seg_again rfl loop
  · first
      | exact seg_bind_wrap (wpAny_rule (seg_bind_wrap (wpAny_standAt (seg_bind_wrap (O.turn.self _ i s _ _ st (seg_again rfl loop))))))
      | (refine seg_bind_wrap (wpAny_rule ?_); show Seg _ G.AG _ _ _ s₀ _ ((standAt G.iter.pos >>= _).wrap _ _ _ _) [] s; exact seg_bind_wrap (wpAny_standAt (seg_bind_wrap (O.turn.self _ i s _ _ st (seg_again rfl loop)))))
/-- it sleeps at s, n turns at most are left -/
def Zz (G : GG) (n : Nat) (s : Shared) : Prop := ∃ gs, s.gens[G.g]? = some gs ∧ gs.Goes (model G.X.prog G.X.w) G.AG G.R G.Y n (.send .none) (s.setGen G.g .running)
theorem SI.nap_set (O : G.Ok) {a : Int} {t : Tok} {c i : Nat} {H : Hp} {s : Shared} {g : Nat} {gs : GenState} (h : G.SI (G.cp a t c) i H s) (hb : gs.bare = true) : G.SI (G.cp a t c) i H (s.setGen g gs) :=
  nap_ok O h ⟨rfl, allBare_set h.1.bare hb, fun b o _ e => e⟩ (fun p hp => (h.1.pin p (List.mem_append_right _ hp)).1) (fun hk => h.noS hk)
theorem SI.isGen (O : G.Ok) {cp : List (Addr × Obj)} {i : Nat} {H : Hp} {s : Shared} (h : G.SI cp i H s) : s.heap.IsGen G.ga G.g := by
  obtain ⟨nm, qn, e⟩ := O.god
  exact ⟨G.go, nm, qn, (h.1.pin (G.ga, G.go) (List.mem_append_left _ List.mem_cons_self)).1, O.goc, e, O.gos⟩
theorem next (O : G.Ok) {A : Around} (hA : A.in1 = G.AG) (hh : A.handled = none) (hroom : A.depth < recursionLimit) {n i : Nat} {a : Int} {t : Tok} {c : Nat} {H : Hp} {s : Shared} {Qn : Option Value → Shared → Prop} {E : Value → Shared → Prop}
    (hSI : G.SI (G.cp a t c) i H s) (hz : G.Zz n s)
    (hNone : ∀ (a : Int) (t : Tok) (c : Nat) (H' : Hp) (s' : Shared), (∀ p ∈ G.cp a t c, s.heap.get? p.1 = some p.2) → Inv G.XG (G.cp a t c) (wipe G.σ G.vs) H' s' → G.Q (tFin G.k a) H' → Qn none s')
    (hSome : ∀ (i m : Nat) (a : Int) (t : Tok) (c : Nat) (y : V) (H' : Hp) (Nx : Int → Hp → Prop) (v : Value) (s' : Shared), RelV y v → (∀ p ∈ G.cp a t c, s.heap.get? p.1 = some p.2) → G.SI (G.cp a t c) i H' s' →
      (∀ a' H', Nx a' H' → ∃ m', m' < m ∧ G.W i m' a' H') → tEl G.k a y Nx G.Q H' →
      (∀ s'' m' a' t' c', m' < m → G.W i m' a' H' → Nap G.k G.S s' s'' → s''.gens = s'.gens → (∀ p ∈ G.cp a' t' c', s''.heap.get? p.1 = some p.2) → ∃ n', n' < n ∧ G.Zz n' s'') → Qn (some v) s') :
    wpAny (model G.X.prog G.X.w) A (pyNext (.ref G.ga)) Qn E s := by
  obtain ⟨gs, hgs, hgo⟩ := hz
  have hg := hSI.isGen O
  have hlt : G.g < s.gens.size := (Array.getElem?_eq_some_iff.mp hgs).1
  refine wpAny_gsz (Nat.le_refl s.gens.size) ?_
  refine wpAny_pyNext_genexpQ (P := fun n s₀ s₁ => G.PD n s₀ s₁) (n := n) (Y := G.Y) hh hSI.1.nolimit hroom hg hgs (by rw [hA]; exact hgo) (fun v s₁ gs' hb hv => ?_) (fun s₁ hp h' hk => ?_)
  · intro hsz
    obtain ⟨i', m', a', t', c', y, H', Nx, ry, hm, hs0, hS1, hNx, hel, kap⟩ := hv
    have hlt1 : G.g < s₁.gens.size := by
      have e : (s₁.setGen G.g gs').gens.size = s₁.gens.size := GenW.setGen_size s₁ G.g gs'
      omega
    have set1 : (s₁.setGen G.g gs').gens[G.g]? = some gs' := by simp [Shared.setGen, hlt1]
    refine hSome (i' + 1) m' a' t' c' y H' Nx v _ ry hs0 (hS1.nap_set O hb) hNx hel fun s'' m'' a'' t'' c'' hm'' w'' nap hg'' hp'' => ?_
    have k := kap (s''.setGen G.g .running) m'' a'' t'' c'' hm'' w'' ⟨nap.os, allBare_set nap.bare rfl, nap.keep⟩ hp''
    cases n with
    | zero => exact False.elim k
    | succ n' =>
      refine ⟨n', Nat.lt_succ_self _, gs', by rw [hg'']; exact set1, ?_⟩
      have k' : gs'.Goes (model G.X.prog G.X.w) A.in1 (fun n s₀ r s₁ => r = .ok .next ∧ G.PD n s₀ s₁) G.Y n' (.send .none) (s''.setGen G.g .running) := k
      rw [hA] at k'
      exact k'
  · intro _
    obtain ⟨i', a', t', c', H', hs0, I', qq⟩ := hp
    have I2 : Inv G.XG (G.cp a' t' c') (wipe G.σ G.vs) H' (s₁.setGen G.g .finished) := I'.call' (ch := []) rfl (Un.kept fun b o e => e) I'.hok (allBare_set I'.bare rfl) fun b hb => absurd hb (by simp)
    exact hNone a' t' c' H' _ hs0 (I2.call' (s' := { s₁.setGen G.g .finished with heap := h' }) (ch := []) rfl (Un.kept hk) (I'.hok.kept hk) I2.bare fun b hb => absurd hb (by simp)) qq
/-- back in the def's context -/
theorem back (O : G.Ok) {cp : List (Addr × Obj)} {σ' : L2.St} {H : Hp} {s : Shared} (I : Inv G.XG cp σ' H s) : Inv G.X G.pins G.σ H s :=
  O.inv.call' (ch := G.fp) I.os I.base I.hok I.bare fun b hb => ⟨(O.fpok b hb).1.2.2.2.1, (O.fpok b hb).1.2.1, (O.fpok b hb).1.2.2.2.2.1, (O.fpok b hb).1.2.2.2.2.2⟩
/-- the consumer's end -/
def Rc (G : GG) : Result → Shared → Prop := fun r s => ∃ u, r = .ok (.ret u) ∧ EP G.X G.pins G.σ G.Q u s
theorem all_loop (O : G.Ok) (hk : G.k = .all) {A : Around} (hA : A.in1.in1 = G.AG) (hh : A.in1.handled = none) (hroom : A.in1.depth < recursionLimit) : ∀ (n i : Nat) (a : Int) (t : Tok) (c : Nat) (H : Hp) (s : Shared), G.SI (G.cp a t c) i H s → G.Zz n s →
    codeAny (model G.X.prog G.X.w) A (.builtin "all.loop" ⟨[.ref G.ga], []⟩) G.Rc s := by
  intro n
  induction n using Nat.strongRecOn with
  | ind n ih =>
    intro i a t c H s hSI hz
    refine codeAny_builtin F.entry_all_loop ?_
    rw [Around.under_plainId F.plain_all_loop _]
    show wpAny _ A.in1 (pyNext (.ref G.ga) >>= _) _ _ s
    refine wpAny_bind (next O hA hh hroom hSI hz (fun a' t' c' H' s' _ I' qq => ?_) (fun i' m' a' t' c' y H' Nx v s' ry _ hS' hNx hel res => ?_))
    · refine wpAny_bind (wpAny_rule (wpAny_pure ?_))
      rw [hk] at qq
      exact ⟨_, rfl, .bl true, H', back O I', rfl, qq⟩
    · rw [hk] at hel
      obtain ⟨b, rfl, hel⟩ := hel
      obtain rfl : v = Value.bool b := ry
      refine wpAny_bind (wpAny_holding (wpAny_truthy_bool ?_))
      refine wpAny_bind (wpAny_letGo ?_)
      cases b with
      | true =>
        simp only [if_true] at hel ⊢
        obtain ⟨m'', hm, w⟩ := hNx _ _ hel
        have hp0 : ∀ p ∈ G.cp a' t' c', s'.heap.get? p.1 = some p.2 := fun p hp => (hS'.1.pin p (List.mem_append_right _ hp)).1
        obtain ⟨n', hn', z'⟩ := res s' m'' a' t' c' hm w ⟨rfl, hS'.1.bare, fun b o _ e => e⟩ rfl hp0
        exact wpAny_pure ⟨plainId_quiet F.plain_all_loop _, ih n' hn' i' a' t' c' H' s' hS' z'⟩
      | false =>
        simp only [Bool.false_eq_true, if_false] at hel ⊢
        refine wpAny_bind (wpAny_rule (wpAny_pure ?_))
        exact ⟨_, rfl, .bl false, H', back O hS'.1, rfl, hel⟩
theorem any_loop (O : G.Ok) (hk : G.k = .any) {A : Around} (hA : A.in1.in1 = G.AG) (hh : A.in1.handled = none) (hroom : A.in1.depth < recursionLimit) : ∀ (n i : Nat) (a : Int) (t : Tok) (c : Nat) (H : Hp) (s : Shared), G.SI (G.cp a t c) i H s → G.Zz n s →
    codeAny (model G.X.prog G.X.w) A (.builtin "any.loop" ⟨[.ref G.ga], []⟩) G.Rc s := by
  intro n
  induction n using Nat.strongRecOn with
  | ind n ih =>
    intro i a t c H s hSI hz
    refine codeAny_builtin F.entry_any_loop ?_
    rw [Around.under_plainId F.plain_any_loop _]
    show wpAny _ A.in1 (pyNext (.ref G.ga) >>= _) _ _ s
    refine wpAny_bind (next O hA hh hroom hSI hz (fun a' t' c' H' s' _ I' qq => ?_) (fun i' m' a' t' c' y H' Nx v s' ry _ hS' hNx hel res => ?_))
    · refine wpAny_bind (wpAny_rule (wpAny_pure ?_))
      rw [hk] at qq
      exact ⟨_, rfl, .bl false, H', back O I', rfl, qq⟩
    · rw [hk] at hel
      obtain ⟨b, rfl, hel⟩ := hel
      obtain rfl : v = Value.bool b := ry
      refine wpAny_bind (wpAny_holding (wpAny_truthy_bool ?_))
      refine wpAny_bind (wpAny_letGo ?_)
      cases b with
      | false =>
        simp only [Bool.false_eq_true, if_false] at hel ⊢
        obtain ⟨m'', hm, w⟩ := hNx _ _ hel
        have hp0 : ∀ p ∈ G.cp a' t' c', s'.heap.get? p.1 = some p.2 := fun p hp => (hS'.1.pin p (List.mem_append_right _ hp)).1
        obtain ⟨n', hn', z'⟩ := res s' m'' a' t' c' hm w ⟨rfl, hS'.1.bare, fun b o _ e => e⟩ rfl hp0
        exact wpAny_pure ⟨plainId_quiet F.plain_any_loop _, ih n' hn' i' a' t' c' H' s' hS' z'⟩
      | true =>
        simp only [if_true] at hel ⊢
        refine wpAny_bind (wpAny_rule (wpAny_pure ?_))
        exact ⟨_, rfl, .bl true, H', back O hS'.1, rfl, hel⟩
theorem sum_loop (O : G.Ok) (hk : G.k = .sum) {A : Around} (hA : A.in1.in1 = G.AG) (hh : A.in1.handled = none) (hroom : A.in1.depth < recursionLimit) : ∀ (n i : Nat) (a : Int) (t : Tok) (c : Nat) (H : Hp) (s : Shared) (st : Int), (st = 0 ∨ st = 2) → G.SI (G.cp a t c) i H s → G.Zz n s →
    codeAny (model G.X.prog G.X.w) A (.builtin "sum.loop" ⟨[.ref G.ga, .ref G.S, rawInt st, rawInt 0], []⟩) G.Rc s := by
  intro n
  induction n using Nat.strongRecOn with
  | ind n ih =>
    intro i a t c H s st hst hSI hz
    have inS : ∀ (a : Int) (t : Tok) (c : Nat), (G.S, sumObj a t c) ∈ G.cp a t c := fun a t c => by unfold cp cpOf; rw [hk]; exact List.mem_singleton.mpr rfl
    have cpS : ∀ {a : Int} {t : Tok} {c : Nat} {p : Addr × Obj}, p ∈ G.cp a t c → p = (G.S, sumObj a t c) := fun {a t c p} h => by unfold cp cpOf at h; rw [hk] at h; exact List.mem_singleton.mp h
    have hS : s.heap.get? G.S = some (sumObj a t c) := (hSI.1.pin _ (List.mem_append_right _ (inS a t c))).1
    refine codeAny_builtin F.entry_sum_loop ?_
    rw [Around.under_plainId F.plain_sum_loop _]
    show wpAny _ A.in1 (seqItems? (.ref G.S) >>= _) _ _ s
    refine wpAny_bind (wpAny_seqItems hS rfl ?_)
    show wpAny _ A.in1 (tryCatch (pyNext (.ref G.ga)) _ >>= _) _ _ s
    refine wpAny_bind (wpAny_tryCatch (next O hA hh hroom hSI hz (fun a' t' c' H' s' hp I' qq => ?_) (fun i' m' a' t' c' y H' Nx v s' ry hp hS' hNx hel res => ?_)))
    · have e := hp _ (inS a' t' c')
      rw [hS] at e
      obtain ⟨rfl, rfl, rfl⟩ : a = a' ∧ t = t' ∧ c = c' := by
        have e2 := congrArg Obj.data (Option.some.inj e)
        simp only [Data.seq.injEq] at e2
        obtain ⟨e3, e4⟩ := e2
        simp at e3
        exact ⟨e3.1, e3.2, e4⟩
      rw [hk] at qq
      exact wpAny_pure ⟨_, rfl, .int a, H', back O I', ⟨_, rfl⟩, qq⟩
    · have e := hp _ (inS a' t' c')
      rw [hS] at e
      obtain ⟨rfl, rfl, rfl⟩ : a = a' ∧ t = t' ∧ c = c' := by
        have e2 := congrArg Obj.data (Option.some.inj e)
        simp only [Data.seq.injEq] at e2
        obtain ⟨e3, e4⟩ := e2
        simp at e3
        exact ⟨e3.1, e3.2, e4⟩
      rw [hk] at hel
      obtain ⟨x, rfl, hel⟩ := hel
      obtain ⟨tx, rfl⟩ := ry
      obtain ⟨m'', hm, w⟩ := hNx _ _ hel
      have hS1 : s'.heap.get? G.S = some (sumObj a t c) := (hS'.1.pin _ (List.mem_append_right _ (inS a t c))).1
      have noS := hS'.noS hk
      have go : ∀ (s'' : Shared) (t2 : Tok) (c2 : Nat) (st : Int), (st = 0 ∨ st = 2) → s''.os = s'.os → s''.gens = s'.gens → (∀ b o, b ≠ G.S → s'.heap.get? b = some o → s''.heap.get? b = some o) → s''.heap.get? G.S = some (sumObj (a + x) t2 c2) →
          codeAny (model G.X.prog G.X.w) A (.builtin "sum.loop" ⟨[.ref G.ga, .ref G.S, rawInt st, rawInt 0], []⟩) G.Rc s'' := fun s'' t2 c2 st hst ho hg kp hS2 => by
        have nap : Nap G.k G.S s' s'' := ⟨ho, by rw [hg]; exact hS'.1.bare, fun b o hb e => kp b o (hb hk) e⟩
        have hp2 : ∀ p ∈ G.cp (a + x) t2 c2, s''.heap.get? p.1 = some p.2 := fun p hp => by rw [cpS hp]; exact hS2
        obtain ⟨n', hn', z'⟩ := res s'' m'' (a + x) t2 c2 hm w nap hg hp2
        exact ih n' hn' i' (a + x) t2 c2 H' s'' st hst (nap_ok O hS' nap hp2 fun _ => noS) z'
      rcases hst with rfl | rfl
      · show wpAny _ A.in1 (if (_ : Bool) = true then (mkInt (a + x) >>= _) else _) _ _ _
        split
        · refine wpAny_bind (wpAny_mkInt ?_)
          show wpAny _ A.in1 (updateSeq G.S (fun _ => #[.int (a + x) s'.toks]) >>= _) _ _ _
          refine wpAny_bind ?_
          refine wpAny_updateSeq hS1 rfl (wpAny_pure ⟨plainId_quiet F.plain_sum_loop _, go _ s'.toks _ 0 (.inl rfl) rfl rfl (fun b o hb e => ?_) (Heap.get?_update_self _ hS1 rfl)⟩)
          exact (Heap.get?_update_other _ _ (fun h : G.S = b => hb h.symm)).trans e
        · refine wpAny_bind (wpAny_rule ?_)
          refine wpAny_bind (wpAny_attempt (wpAny_holding (wpAny_add_int ?_)))
          show wpAny _ A.in1 (updateSeq G.S (fun _ => #[.int (a + x) s'.toks]) >>= _) _ _ _
          refine wpAny_bind (wpAny_updateSeq hS1 rfl ?_)
          have hS₂ := Heap.get?_update_self (Obj.mapSeq fun _ => #[Value.int (a + x) s'.toks]) hS1 rfl
          refine wpAny_bind (wpAny_letGo ?_)
          refine wpAny_bind (wpAny_updateSeq hS₂ rfl (wpAny_pure ⟨plainId_quiet F.plain_sum_loop _, go _ s'.toks _ 2 (.inr rfl) rfl rfl (fun b o hb e => ?_) (Heap.get?_update_self _ hS₂ rfl)⟩))
          exact (Heap.get?_update_other _ _ (fun h : G.S = b => hb h.symm)).trans ((Heap.get?_update_other _ _ (fun h : G.S = b => hb h.symm)).trans e)
      · show wpAny _ A.in1 ((holding [Value.int x tx] (binaryOp .Add (.int a t) (.int x tx))).attempt >>= _) _ _ _
        refine wpAny_bind (wpAny_attempt (wpAny_holding (wpAny_add_int ?_)))
        show wpAny _ A.in1 (updateSeq G.S (fun _ => #[.int (a + x) s'.toks]) >>= _) _ _ _
        refine wpAny_bind (wpAny_updateSeq hS1 rfl ?_)
        have hS₂ := Heap.get?_update_self (Obj.mapSeq fun _ => #[Value.int (a + x) s'.toks]) hS1 rfl
        refine wpAny_bind (wpAny_letGo ?_)
        refine wpAny_bind (wpAny_updateSeq hS₂ rfl (wpAny_pure ⟨plainId_quiet F.plain_sum_loop _, go _ s'.toks _ 2 (.inr rfl) rfl rfl (fun b o hb e => ?_) (Heap.get?_update_self _ hS₂ rfl)⟩))
        exact (Heap.get?_update_other _ _ (fun h : G.S = b => hb h.symm)).trans ((Heap.get?_update_other _ _ (fun h : G.S = b => hb h.symm)).trans e)
/-- it has been made and not begun -/
def Fresh (G : GG) (s : Shared) : Prop := s.gens[G.g]? = some (.fresh (.compStart (.GeneratorExp G.elt [⟨G.tg, G.iter, G.ifs, 0⟩] G.scope G.gpos) 0 (.ref G.it) .none G.cenv))
theorem zz_fresh (O : G.Ok) {m i : Nat} {a : Int} {t : Tok} {c : Nat} {H : Hp} {s : Shared} (hg : G.Fresh s) (hSI : G.SI (G.cp a t c) i H s) (w : G.W i m a H) : G.Zz (m + 1) s :=
  ⟨_, hg, rfl, seg_start O (Nat.lt_succ_self m) w (hSI.nap_set O rfl) fun p hp => (hSI.1.pin p (List.mem_append_right _ hp)).1⟩
theorem call_all (O : G.Ok) (hk : G.k = .all) {A : Around} (hA : A.in1.in1 = G.AG) (hh : A.handled = none) (hroom : A.depth < recursionLimit) {m : Nat} {H : Hp} {s : Shared} {E : Value → Shared → Prop} (hg : G.Fresh s) (hSI : G.SI [] 0 H s) (w : G.W 0 m 0 H) :
    wpAny (model G.X.prog G.X.w) A (PySem.call (.builtin "all") [.ref G.ga]) (EP G.X G.pins G.σ G.Q) E s := by
  have ec : G.cp 0 0 0 = [] := by unfold cp cpOf; rw [hk]
  have hSI' : G.SI (G.cp 0 0 0) 0 H s := by rw [ec]; exact hSI
  refine call_function_tree F.kind_all F.plain_all F.entry_all (F.args_all1 _) ?_
  unfold Builtin.«all»
  refine wpAny_bind (m := oneArg "all" _) (wpAny_pure ?_)
  refine wpAny_bind (wpAny_pyIter_gen (hSI.isGen O) ?_)
  refine wpAny_pure ⟨plainId_quiet F.plain_all_loop _, codeAny_mono (all_loop O hk hA hh hroom (m + 1) 0 0 0 0 H s hSI' (zz_fresh O hg hSI' w)) fun r s' h => ?_⟩
  obtain ⟨u, rfl, q⟩ := h
  exact q
theorem call_any (O : G.Ok) (hk : G.k = .any) {A : Around} (hA : A.in1.in1 = G.AG) (hh : A.handled = none) (hroom : A.depth < recursionLimit) {m : Nat} {H : Hp} {s : Shared} {E : Value → Shared → Prop} (hg : G.Fresh s) (hSI : G.SI [] 0 H s) (w : G.W 0 m 0 H) :
    wpAny (model G.X.prog G.X.w) A (PySem.call (.builtin "any") [.ref G.ga]) (EP G.X G.pins G.σ G.Q) E s := by
  have ec : G.cp 0 0 0 = [] := by unfold cp cpOf; rw [hk]
  have hSI' : G.SI (G.cp 0 0 0) 0 H s := by rw [ec]; exact hSI
  refine call_function_tree F.kind_any F.plain_any F.entry_any (F.args_any1 _) ?_
  unfold Builtin.«any»
  refine wpAny_bind (m := oneArg "any" _) (wpAny_pure ?_)
  refine wpAny_bind (wpAny_pyIter_gen (hSI.isGen O) ?_)
  refine wpAny_pure ⟨plainId_quiet F.plain_any_loop _, codeAny_mono (any_loop O hk hA hh hroom (m + 1) 0 0 0 0 H s hSI' (zz_fresh O hg hSI' w)) fun r s' h => ?_⟩
  obtain ⟨u, rfl, q⟩ := h
  exact q
theorem call_sum (O : G.Ok) (hk : G.k = .sum) {A : Around} (hA : A.in1.in1 = G.AG) (hh : A.handled = none) (hroom : A.depth < recursionLimit) {m : Nat} {H : Hp} {s : Shared} {E : Value → Shared → Prop} (hg : G.Fresh s) (hSI : G.SI [] 0 H s) (w : G.W 0 m 0 H) (hS : G.S = s.heap.objs.size) :
    wpAny (model G.X.prog G.X.w) A (PySem.call (.builtin "sum") [.ref G.ga]) (EP G.X G.pins G.σ G.Q) E s := by
  refine call_function_tree F.kind_sum F.plain_sum F.entry_sum (F.args_sum1 _) ?_
  unfold Builtin.«sum»
  simp only [List.length_cons, List.length_nil]
  rw [if_neg (by decide)]
  refine wpAny_bind (wpAny_of_eq (show Builtin.Builtins.bindParams "sum" ["start"] 0 { } = pure [none] from rfl) ?_)
  refine wpAny_bind (wpAny_pyIter_gen (hSI.isGen O) ?_)
  refine wpAny_bind (wpAny_mkInt ?_)
  refine wpAny_bind (wpAny_pure ?_)
  simp only [List.forIn_cons, List.forIn_nil]
  refine wpAny_bind (wpAny_bind (wpAny_bind (wpAny_isInstance (T := "int") (b := false) (typeIs_int _ _ _) PySem.sub_int_str ?_)))
  simp only [Bool.false_eq_true, if_false]
  refine wpAny_pure (wpAny_bind (wpAny_bind (wpAny_isInstance (T := "int") (b := false) (typeIs_int _ _ _) PySem.sub_int_bytes ?_)))
  simp only [Bool.false_eq_true, if_false]
  refine wpAny_pure (wpAny_bind (wpAny_bind (wpAny_isInstance (T := "int") (b := false) (typeIs_int _ _ _) PySem.sub_int_bytearray ?_)))
  simp only [Bool.false_eq_true, if_false]
  refine wpAny_pure (wpAny_pure ?_)
  refine wpAny_bind (wpAny_newObj_type ?_)
  have key : ∀ s' : Shared, s'.os = s.os → s'.gens = s.gens → (∀ b o, s.heap.get? b = some o → s'.heap.get? b = some o) → s'.heap.get? s.heap.objs.size = some (sumObj 0 s.toks 0) →
      codeAny (model G.X.prog G.X.w) A (.builtin "sum.loop" ⟨[.ref G.ga, .ref s.heap.objs.size, rawInt 0, rawInt 0], []⟩) G.Rc s' := fun s' ho hg' kp hS2 => by
    obtain ⟨I, st, hn⟩ := hSI
    have I2 : Inv G.XG [] (wipe G.σ G.vs) H s' := I.call' (ch := []) ho (Un.kept kp) (I.hok.kept kp) (by rw [hg']; exact I.bare) fun b hb => absurd hb (by simp)
    have hSI' : G.SI (G.cp 0 s.toks 0) 0 H s' := by
      refine ⟨I2.pins_of fun p hp => ?_, O.turn.keep _ _ _ st fun b hb o e => kp b o e, hn⟩
      have e : p = (G.S, sumObj 0 s.toks 0) := by unfold cp cpOf at hp; rw [hk] at hp; exact List.mem_singleton.mp hp
      subst e
      refine ⟨by rw [hS]; exact hS2, I.hok.fresh (by rw [hS]; exact Nat.le_refl _), ?_, fun z => ?_, fun v e => by cases e⟩
      · show G.S ≠ G.cenv.locals
        rw [O.eL]; exact Nat.ne_of_gt (Nat.lt_trans O.gaL O.gaS)
      · have young : G.s4.heap.objs.size ≤ G.S := Nat.le_of_lt (Nat.lt_trans O.gaL O.gaS)
        rcases List.mem_cons.mp (O.inv.stkSub _ z) with y | y
        · have := O.inv.lt
          rw [← y] at this
          exact absurd (Nat.lt_of_lt_of_le this young) (Nat.lt_irrefl _)
        · exact O.inv.nofs young y
    have := sum_loop O hk hA hh hroom (m + 1) 0 0 s.toks 0 H s' 0 (.inl rfl) hSI' (zz_fresh O (by unfold Fresh; rw [hg']; exact hg) hSI' w)
    rw [hS] at this
    exact this
  refine wpAny_pure ⟨plainId_quiet F.plain_sum_loop _, codeAny_mono (key _ rfl rfl (fun b o e => Heap.get?_push_of_some _ e) (Heap.get?_push_size _ rfl)) fun r s' h => ?_⟩
  obtain ⟨u, rfl, q⟩ := h
  exact q
end GG

/-! ### the making -/
/-- a wish at a value (so that it can be read off) -/
def ap2 (Q : VK) (v : V) (H : Hp) : Prop := Q v H
/-- the reading: the table may grow, then a walk; W: the turn, a measure, sum's sum so far -/
def tGen (k : CK) (P : Addr) (wi : TI) (g : TG) (tt : TT) (te : TE) (vs : List Nat) : TE := fun σ H Q => wi σ H fun J H1 => TabG H1 P ∧ ∀ H2, Tabbed P H1 H2 → ∃ W : Nat → Nat → Int → Hp → Prop, (∃ m, W 0 m 0 H2) ∧ ∀ i m a H, W i m a H →
  (J.stop i H ∧ ap2 Q (tFin k a) H) ∨ (J.go i H ∧ ∃ Nx : Int → Hp → Prop, (∀ a' H', Nx a' H' → ∃ m', m' < m ∧ W (i + 1) m' a' H') ∧ ∀ x H', J.yld i H x H' →
    g x (wipe σ vs) H' fun σ2 H2 => wipe σ2 vs = wipe σ vs ∧ tt σ2 H2 fun b H3 => if b = true then te σ2 H3 fun y H4 => tEl k a y Nx Q H4 else Nx a H3)
theorem roomG {j : Nat} {A : Around} {env : Env} (h : Room (j + 1) A) : Room j (A.in1.in1.deeper env) :=
  ⟨h.hd, by have := h.dp; show A.depth + 1 + 3 * j + 5 < _; omega, by have := h.un; show A.units + 1 + 1 + 3 + 16 * j + 200 < _; omega⟩
section
variable {X : Cx} {pins : List (Addr × Obj)} {σ : L2.St} {H : Hp} {s : Shared}
theorem gen_made {j : Nat} {c P : Addr} {elt tg iter : Expr} {ifs : List Expr} {scope : Scope} {own : List (Str × Nat)} {gpos : Pos} {wi : TI} {g : TG} {tt : TT} {te : TE} {k : CK} {Q : VK} {Q' : Value → Shared → Prop}
    (hr : Room (j + 1) X.A) (hc : X.calm = true) (hN : X.N.Nodup) (TB : TabB X.base X.mg c P) (hcode : X.env.code = .ref c) (ok : BlkOk X.N X.env.scope scope own) (hco : scope.isCoroutine = false) (hdot : scope.names.lookup (".0" : Str) = some NameKind.local) (hnc : ∀ y ∈ scope.names, y.2 ≠ .cell)
    (hi : PI X tg iter wi)
    (hg : ∀ (s : Shared) (H : Hp) (C : Addr) (cl : List (Str × Addr)) (cv : Value) (bi : Addr) (A : Around) (fp : List Addr) (pn : List (Addr × Obj)), Room j A → PG (cxGen X s H (genEnv scope cl C cv bi X.env) A fp pn) tg g)
    (ht : ∀ (s : Shared) (H : Hp) (C : Addr) (cl : List (Str × Addr)) (cv : Value) (bi : Addr) (A : Around) (fp : List Addr) (pn : List (Addr × Obj)), Room j A → PTs (cxGen X s H (genEnv scope cl C cv bi X.env) A fp pn) ifs tt)
    (he : ∀ (s : Shared) (H : Hp) (C : Addr) (cl : List (Str × Addr)) (cv : Value) (bi : Addr) (A : Around) (fp : List Addr) (pn : List (Addr × Obj)), Room j A → PE (cxGen X s H (genEnv scope cl C cv bi X.env) A fp pn) elt te)
    (hs : ∀ v, genFold iter X.env v = pure v) (I : Inv X pins σ H s) (h : tGen k P wi g tt te (own.map (·.2)) σ H Q)
    (hQ : ∀ (G : GG) (s5 : Shared) (m : Nat) (H5 : Hp), G.X = X → G.pins = pins → G.σ = σ → G.Q = Q → G.k = k → G.AG = X.A.in1.in1 → G.Ok → G.SI [] 0 H5 s5 → G.Fresh s5 → G.W 0 m 0 H5 → G.S = s5.heap.objs.size → Q' (.ref G.ga) s5) :
    wpAny (model X.prog X.w) X.A (eval (.GeneratorExp elt [⟨tg, iter, ifs, 0⟩] scope gpos) X.env) Q' X.xe s := by
  have hfree : ∀ y ∈ scope.names, y.2 = .free → ∃ c, X.env.cells.lookup y.1 = some c := fun y hy e => by
    rcases ok.free y hy e with k | k
    · exact I.ok.has _ (.inl k)
    · exact I.ok.has _ (.inr k)
  refine wpAny_GeneratorExp_make hco (closure_ok hfree) hnc hdot ok.kind hr.depth
    (thn (hi.run pins s σ H _ I h) fun xv s1 hx => thn hx fun itv s2 h2 => ?_) hs
  obtain ⟨it, fp, tn, J, H2, rfl, I2, T, st2, f2, ⟨ps, hP, htr⟩, turns⟩ := h2
  refine ⟨I2.nolimit, ?_⟩
  have hPs : s2.heap.get? P = some { cls := .none, data := .fields ps } := I2.hok P _ hP
  have cd : PySem.W.CodeHd s2.heap c P := TB.code.keeps fun b u e => I2.bk b u e
  have fP : ∀ b ∈ fp, b ≠ P := fun b hb z => by
    have := (f2 b hb).1
    rw [z, hP] at this
    cases this
  have sz : ∀ b ∈ fp, b < s2.heap.objs.size := fun b hb => by
    obtain ⟨o, e, _⟩ := T.obj _ _ st2 b hb
    exact Heap.lt_size e
  have cont : ∀ (cv : Value) (h3 : Heap) (tk : Nat) (more : Array Value), Heap.ExtBut P s2.heap h3 → s2.heap.objs.size ≤ h3.objs.size → h3.get? P = some { cls := .none, data := .fields (ps ++ more) } → TriplesOk (ps ++ more).toList →
      wpAny (model X.prog X.w) X.A (builtinsFor X.env.globals X.env.builtins) (fun bi s₄ =>
        ∀ h', h'.Ns s₄.heap.objs.size (fun y => if y = ".0" then some (Value.ref it) else none) → Heap.SameBut s₄.heap.objs.size (s₄.heap.push { cls := .type "frame", data := .dict #[] }) h' →
          Q' (.ref h'.objs.size) { s₄ with
            gens := s₄.gens.push (.fresh (.compStart (.GeneratorExp elt [⟨tg, iter, ifs, 0⟩] scope gpos) 0 (.ref it) .none (genEnv scope (cloFrom X.env.cells scope.names []) s₄.heap.objs.size cv bi X.env))),
            toks := s₄.toks + 1 + 1 + 1,
            heap := h'.push { cls := .type "generator", data := .fields #[.int s₄.gens.size 0, .str "<genexpr>" (s₄.toks + 1), .str (X.env.qual ++ "<genexpr>") (s₄.toks + 1 + 1)] } }) X.xe { s2 with heap := h3, toks := tk } := by
    intro cv h3 tk more hx hsz hP3 ht3
    obtain ⟨bm, ob, e1, e2, e3, e4, e5, e6, e7, e8⟩ := TB.bm
    have J3 := inv_tab (more := more) (h' := h3) (g' := s2.gens) (d' := s2.drawn) (t' := tk) I2 hP hx hP3 I2.bare
    have T3 : Tabbed P H2 (upd H2 P (.tbl (ps ++ more))) := ⟨⟨_, upd_same, ht3⟩, fun b hb => upd_ne hb⟩
    obtain ⟨W, ⟨m0, w0⟩, turn⟩ := turns _ T3
    generalize upd H2 P (.tbl (ps ++ more)) = H4 at J3 T3 w0
    have J4 : Inv X pins σ H4 ({ s2 with heap := h3, toks := tk } : Shared) := J3
    have f4 : ∀ b ∈ fp, FpOk X pins H4 b ∧ b < h3.objs.size := fun b hb => ⟨⟨by rw [T3.2 b (fP b hb)]; exact (f2 b hb).1, (f2 b hb).2⟩, Nat.lt_of_lt_of_le (sz b hb) hsz⟩
    have st4 : tn 0 h3 := T.keep _ _ _ st2 fun b hb o e => hx b o (fP b hb) e
    clear J3
    generalize hs4 : ({ s2 with heap := h3, toks := tk } : Shared) = s4 at J4 ⊢
    have h4 : s4.heap = h3 := by rw [← hs4]
    rw [← h4] at f4 st4
    refine wpAny_builtinsFor (m := X.mg) (by rw [J4.ok.glob]; exact J4.mod.glob.keeps J4.bk) e1 e2 (J4.bk _ _ e5) e6 e7 e8 ?_
    intro h' hn' hs'
    have hsz' : h'.objs.size = s4.heap.objs.size + 1 := by rw [hs'.1, Heap.size_push]
    have keep' : ∀ b o, s4.heap.get? b = some o → h'.get? b = some o := fun b o e => hs'.extBut b o (Nat.ne_of_lt (Heap.lt_size e)) (Heap.get?_push_of_some _ e)
    have cm : ∀ {y c}, (y, c) ∈ cloFrom X.env.cells scope.names [] → c < s4.heap.objs.size := fun {y c} hm => by
      rcases cloFrom_mem hm with hm | ⟨h1, rfl⟩
      · cases hm
      · obtain ⟨c, hc⟩ := hfree _ h1 rfl
        rw [hc]
        obtain ⟨w, z⟩ := J4.cell _ _ hc
        exact z.lt
    have hroom : Room j (X.A.in1.in1.deeper (genEnv scope (cloFrom X.env.cells scope.names []) s4.heap.objs.size cv builtinsNs X.env)) := roomG hr
    have O : GG.Ok { X := X, pins := pins, σ := σ, s4 := s4, H4 := H4, cenv := genEnv scope (cloFrom X.env.cells scope.names []) s4.heap.objs.size cv builtinsNs X.env, AG := X.A.in1.in1, fp := fp, it := it, tn := tn, J := J, ga := h'.objs.size, go := { cls := .type "generator", data := .fields #[.int s4.gens.size 0, .str "<genexpr>" (s4.toks + 1), .str (X.env.qual ++ "<genexpr>") (s4.toks + 1 + 1)] }, g := s4.gens.size, S := h'.objs.size + 1, elt := elt, tg := tg, iter := iter, ifs := ifs, scope := scope, gpos := gpos, vs := own.map (·.2), gt := g, tt := tt, te := te, k := k, W := W, Q := Q } :=
      { inv := J4, calm := hc, turn := T, fpok := f4, pg := hg _ _ _ _ _ _ _ _ _ hroom, pt := ht _ _ _ _ _ _ _ _ _ hroom, pe := he _ _ _ _ _ _ _ _ _ hroom, co := hco, eL := rfl, ecl := fun y c e => cm (PySem.mem_of_lookup e), gaL := by show s4.heap.objs.size < h'.objs.size; rw [hsz']; exact Nat.lt_succ_self _, gaS := Nat.lt_succ_self _, goc := rfl, god := ⟨_, _, rfl⟩, gos := rfl, hd := hr.hd, room := by show X.A.depth < _; exact hr.depth, turns := turn }
    refine hQ _ _ m0 H4 rfl rfl rfl rfl rfl rfl O ⟨?_, ?_, fun b hb => (f4 b hb).1.1⟩ (Array.getElem?_push_size ..) w0 (by show h'.objs.size + 1 = (h'.push _).objs.size; rw [Heap.size_push])
    · refine gen_start J4 ok hN hnc f4 rfl rfl rfl J4.ok.glob rfl rfl (Around.frames_deeper J4.ok.frames) hr.hd rfl (AllBare.push J4.bare rfl) (fun b o e => Heap.get?_push_of_some _ (keep' b o e)) ⟨_, hn'.push _⟩ fun p hp => ?_
      rw [List.mem_singleton.mp hp]
      exact ⟨Heap.get?_push_size _ rfl, by show s4.heap.objs.size < h'.objs.size; rw [hsz']; exact Nat.lt_succ_self _, fun v e => by cases e⟩
    · exact T.keep _ _ _ st4 fun b _ o e => Heap.get?_push_of_some _ (keep' b o e)
  cases hf : codeAmong gpos ps.toList with
  | none =>
    refine wpAny_genexprCodeX hcode (cd.code hPs htr) (cd.tab hPs) hf fun c' h' tk hx hge hlt hco' _ htab' _ => ?_
    obtain ⟨o1, vs, f1, tf, fl, tg, inF, tx, tt, op, _, _, _, _, _, _, _, _, _, htr', _⟩ := hco'
    exact cont _ h' tk _ hx (Nat.le_trans hge (Nat.le_of_lt hlt)) htab'.2 htr'
  | some cv =>
    refine wpAny_genexprCode_hit hcode (cd.code hPs htr) hf ?_
    have e0 : ps ++ #[] = ps := by simp
    exact cont cv s2.heap s2.toks #[] (Heap.ExtBut.refl _ _) (Nat.le_refl _) (by rw [e0]; exact hPs) (by rw [e0]; exact htr)
theorem pe_all {j : Nat} {c P : Addr} {elt tg iter : Expr} {ifs : List Expr} {scope : Scope} {own : List (Str × Nat)} {gpos p pos : Pos} {wi : TI} {g : TG} {tt : TT} {te : TE}
    (hr : Room (j + 1) X.A) (hc : X.calm = true) (hN : X.N.Nodup) (hgl : Gl X "all") (hm : X.mg "all" = none) (hb : bootBuiltins "all" = some (.builtin "all")) (TB : TabB X.base X.mg c P) (hcode : X.env.code = .ref c) (ok : BlkOk X.N X.env.scope scope own)
    (hco : scope.isCoroutine = false) (hdot : scope.names.lookup (".0" : Str) = some NameKind.local) (hnc : ∀ y ∈ scope.names, y.2 ≠ .cell) (hi : PI X tg iter wi)
    (hg : ∀ (s : Shared) (H : Hp) (C : Addr) (cl : List (Str × Addr)) (cv : Value) (bi : Addr) (A : Around) (fp : List Addr) (pn : List (Addr × Obj)), Room j A → PG (cxGen X s H (genEnv scope cl C cv bi X.env) A fp pn) tg g)
    (ht : ∀ (s : Shared) (H : Hp) (C : Addr) (cl : List (Str × Addr)) (cv : Value) (bi : Addr) (A : Around) (fp : List Addr) (pn : List (Addr × Obj)), Room j A → PTs (cxGen X s H (genEnv scope cl C cv bi X.env) A fp pn) ifs tt)
    (he : ∀ (s : Shared) (H : Hp) (C : Addr) (cl : List (Str × Addr)) (cv : Value) (bi : Addr) (A : Around) (fp : List Addr) (pn : List (Addr × Obj)), Room j A → PE (cxGen X s H (genEnv scope cl C cv bi X.env) A fp pn) elt te)
    (hs : ∀ v, genFold iter X.env v = pure v := by intro _; rfl)
    (hst : starEach [.GeneratorExp elt [⟨tg, iter, ifs, 0⟩] scope gpos] X.env = (false, eval (.GeneratorExp elt [⟨tg, iter, ifs, 0⟩] scope gpos) X.env) :: starEach [] X.env := by rfl) :
    PE X (.Call (.Name "all" p) [.GeneratorExp elt [⟨tg, iter, ifs, 0⟩] scope gpos] [] pos) (tGen .all P wi g tt te (own.map (·.2))) := by
  refine ⟨fun pins s σ H Q I h => ?_⟩
  refine wpAny_Call_Name_kw (ld_blt I hgl hm hb ?_)
  refine PyProof.Rows.callWith_builtin1 ?_ hst (by rfl)
  rw [hst]
  show wpAny _ _ (spliced ((false, eval (.GeneratorExp elt [⟨tg, iter, ifs, 0⟩] scope gpos) X.env) :: backTo pos (starEach [] X.env))) _ _ s
  refine Calls.spliced_cons (gen_made hr hc hN TB hcode ok hco hdot hnc hi hg ht he hs I h fun G s5 m H5 e1 e2 e3 e4 e5 e6 O hSI hF w hS => ?_)
  refine Calls.spliced_nil ?_
  subst e1 e2 e3 e4
  exact GG.call_all O e5 e6.symm hr.hd hr.depth hF hSI w
theorem pe_any {j : Nat} {c P : Addr} {elt tg iter : Expr} {ifs : List Expr} {scope : Scope} {own : List (Str × Nat)} {gpos p pos : Pos} {wi : TI} {g : TG} {tt : TT} {te : TE}
    (hr : Room (j + 1) X.A) (hc : X.calm = true) (hN : X.N.Nodup) (hgl : Gl X "any") (hm : X.mg "any" = none) (hb : bootBuiltins "any" = some (.builtin "any")) (TB : TabB X.base X.mg c P) (hcode : X.env.code = .ref c) (ok : BlkOk X.N X.env.scope scope own)
    (hco : scope.isCoroutine = false) (hdot : scope.names.lookup (".0" : Str) = some NameKind.local) (hnc : ∀ y ∈ scope.names, y.2 ≠ .cell) (hi : PI X tg iter wi)
    (hg : ∀ (s : Shared) (H : Hp) (C : Addr) (cl : List (Str × Addr)) (cv : Value) (bi : Addr) (A : Around) (fp : List Addr) (pn : List (Addr × Obj)), Room j A → PG (cxGen X s H (genEnv scope cl C cv bi X.env) A fp pn) tg g)
    (ht : ∀ (s : Shared) (H : Hp) (C : Addr) (cl : List (Str × Addr)) (cv : Value) (bi : Addr) (A : Around) (fp : List Addr) (pn : List (Addr × Obj)), Room j A → PTs (cxGen X s H (genEnv scope cl C cv bi X.env) A fp pn) ifs tt)
    (he : ∀ (s : Shared) (H : Hp) (C : Addr) (cl : List (Str × Addr)) (cv : Value) (bi : Addr) (A : Around) (fp : List Addr) (pn : List (Addr × Obj)), Room j A → PE (cxGen X s H (genEnv scope cl C cv bi X.env) A fp pn) elt te)
    (hs : ∀ v, genFold iter X.env v = pure v := by intro _; rfl)
    (hst : starEach [.GeneratorExp elt [⟨tg, iter, ifs, 0⟩] scope gpos] X.env = (false, eval (.GeneratorExp elt [⟨tg, iter, ifs, 0⟩] scope gpos) X.env) :: starEach [] X.env := by rfl) :
    PE X (.Call (.Name "any" p) [.GeneratorExp elt [⟨tg, iter, ifs, 0⟩] scope gpos] [] pos) (tGen .any P wi g tt te (own.map (·.2))) := by
  refine ⟨fun pins s σ H Q I h => ?_⟩
  refine wpAny_Call_Name_kw (ld_blt I hgl hm hb ?_)
  refine PyProof.Rows.callWith_builtin1 ?_ hst (by rfl)
  rw [hst]
  show wpAny _ _ (spliced ((false, eval (.GeneratorExp elt [⟨tg, iter, ifs, 0⟩] scope gpos) X.env) :: backTo pos (starEach [] X.env))) _ _ s
  refine Calls.spliced_cons (gen_made hr hc hN TB hcode ok hco hdot hnc hi hg ht he hs I h fun G s5 m H5 e1 e2 e3 e4 e5 e6 O hSI hF w hS => ?_)
  refine Calls.spliced_nil ?_
  subst e1 e2 e3 e4
  exact GG.call_any O e5 e6.symm hr.hd hr.depth hF hSI w
theorem pe_sum {j : Nat} {c P : Addr} {elt tg iter : Expr} {ifs : List Expr} {scope : Scope} {own : List (Str × Nat)} {gpos p pos : Pos} {wi : TI} {g : TG} {tt : TT} {te : TE}
    (hr : Room (j + 1) X.A) (hc : X.calm = true) (hN : X.N.Nodup) (hgl : Gl X "sum") (hm : X.mg "sum" = none) (hb : bootBuiltins "sum" = some (.builtin "sum")) (TB : TabB X.base X.mg c P) (hcode : X.env.code = .ref c) (ok : BlkOk X.N X.env.scope scope own)
    (hco : scope.isCoroutine = false) (hdot : scope.names.lookup (".0" : Str) = some NameKind.local) (hnc : ∀ y ∈ scope.names, y.2 ≠ .cell) (hi : PI X tg iter wi)
    (hg : ∀ (s : Shared) (H : Hp) (C : Addr) (cl : List (Str × Addr)) (cv : Value) (bi : Addr) (A : Around) (fp : List Addr) (pn : List (Addr × Obj)), Room j A → PG (cxGen X s H (genEnv scope cl C cv bi X.env) A fp pn) tg g)
    (ht : ∀ (s : Shared) (H : Hp) (C : Addr) (cl : List (Str × Addr)) (cv : Value) (bi : Addr) (A : Around) (fp : List Addr) (pn : List (Addr × Obj)), Room j A → PTs (cxGen X s H (genEnv scope cl C cv bi X.env) A fp pn) ifs tt)
    (he : ∀ (s : Shared) (H : Hp) (C : Addr) (cl : List (Str × Addr)) (cv : Value) (bi : Addr) (A : Around) (fp : List Addr) (pn : List (Addr × Obj)), Room j A → PE (cxGen X s H (genEnv scope cl C cv bi X.env) A fp pn) elt te)
    (hs : ∀ v, genFold iter X.env v = pure v := by intro _; rfl)
    (hst : starEach [.GeneratorExp elt [⟨tg, iter, ifs, 0⟩] scope gpos] X.env = (false, eval (.GeneratorExp elt [⟨tg, iter, ifs, 0⟩] scope gpos) X.env) :: starEach [] X.env := by rfl) :
    PE X (.Call (.Name "sum" p) [.GeneratorExp elt [⟨tg, iter, ifs, 0⟩] scope gpos] [] pos) (tGen .sum P wi g tt te (own.map (·.2))) := by
  refine ⟨fun pins s σ H Q I h => ?_⟩
  refine wpAny_Call_Name_kw (ld_blt I hgl hm hb ?_)
  refine PyProof.Rows.callWith_builtin1 ?_ hst (by rfl)
  rw [hst]
  show wpAny _ _ (spliced ((false, eval (.GeneratorExp elt [⟨tg, iter, ifs, 0⟩] scope gpos) X.env) :: backTo pos (starEach [] X.env))) _ _ s
  refine Calls.spliced_cons (gen_made hr hc hN TB hcode ok hco hdot hnc hi hg ht he hs I h fun G s5 m H5 e1 e2 e3 e4 e5 e6 O hSI hF w hS => ?_)
  refine Calls.spliced_nil ?_
  subst e1 e2 e3 e4
  exact GG.call_sum O e5 e6.symm hr.hd hr.depth hF hSI w hS
end
/-! ### the forms one uses -/
theorem gen_range {k : CK} {lo : Int} {n : Nat} {g : TG} {tt : TT} {te : TE} {vs : List Nat} {σ : L2.St} {H1 : Hp} {Q : VK} (Pv : Nat → Int → Hp → Prop) (h0 : Pv 0 0 H1)
    (hs : ∀ i a H, i < n → Pv i a H → g (.int (lo + i)) (wipe σ vs) H fun σ2 H2 => wipe σ2 vs = wipe σ vs ∧ tt σ2 H2 fun b H3 => if b = true then te σ2 H3 fun y H4 => tEl k a y (Pv (i + 1)) Q H4 else Pv (i + 1) a H3)
    (hd : ∀ a H, Pv n a H → Q (tFin k a) H) :
    ∃ W : Nat → Nat → Int → Hp → Prop, (∃ m, W 0 m 0 H1) ∧ ∀ i m a H, W i m a H →
      ((Itr lo n).stop i H ∧ ap2 Q (tFin k a) H) ∨ ((Itr lo n).go i H ∧ ∃ Nx : Int → Hp → Prop, (∀ a' H', Nx a' H' → ∃ m', m' < m ∧ W (i + 1) m' a' H') ∧ ∀ x H', (Itr lo n).yld i H x H' →
        g x (wipe σ vs) H' fun σ2 H2 => wipe σ2 vs = wipe σ vs ∧ tt σ2 H2 fun b H3 => if b = true then te σ2 H3 fun y H4 => tEl k a y Nx Q H4 else Nx a H3) := by
  refine ⟨fun i m a H => m = n - i ∧ i ≤ n ∧ Pv i a H, ⟨n, by simp, Nat.zero_le _, h0⟩, ?_⟩
  rintro i m a H ⟨rfl, hi, p⟩
  by_cases hlt : i < n
  · refine .inr ⟨hlt, Pv (i + 1), fun a' H' p' => ⟨n - (i + 1), by omega, rfl, hlt, p'⟩, fun x H' y => ?_⟩
    obtain ⟨e, y⟩ := y
    subst e y
    exact hs i a _ hlt p
  · have e : i = n := by omega
    subst e
    exact .inl ⟨Nat.le_refl _, hd a H p⟩
theorem gen_list {k : CK} {K : PySem.W.Frag} {b : Addr} {xs : List V} {g : TG} {tt : TT} {te : TE} {vs : List Nat} {σ : L2.St} {H1 : Hp} {Q : VK} (Pv : Nat → Int → Hp → Prop) (h0 : Pv 0 0 H1) (hl : ∀ i a H, i ≤ xs.length → Pv i a H → SqL K H b xs)
    (hs : ∀ i x a H, xs[i]? = some x → Pv i a H → g x (wipe σ vs) H fun σ2 H2 => wipe σ2 vs = wipe σ vs ∧ tt σ2 H2 fun b H3 => if b = true then te σ2 H3 fun y H4 => tEl k a y (Pv (i + 1)) Q H4 else Pv (i + 1) a H3)
    (hd : ∀ a H, Pv xs.length a H → Q (tFin k a) H) :
    ∃ W : Nat → Nat → Int → Hp → Prop, (∃ m, W 0 m 0 H1) ∧ ∀ i m a H, W i m a H →
      ((Itl K b).stop i H ∧ ap2 Q (tFin k a) H) ∨ ((Itl K b).go i H ∧ ∃ Nx : Int → Hp → Prop, (∀ a' H', Nx a' H' → ∃ m', m' < m ∧ W (i + 1) m' a' H') ∧ ∀ x H', (Itl K b).yld i H x H' →
        g x (wipe σ vs) H' fun σ2 H2 => wipe σ2 vs = wipe σ vs ∧ tt σ2 H2 fun b H3 => if b = true then te σ2 H3 fun y H4 => tEl k a y Nx Q H4 else Nx a H3) := by
  refine ⟨fun i m a H => m = xs.length - i ∧ i ≤ xs.length ∧ Pv i a H, ⟨xs.length, by simp, Nat.zero_le _, h0⟩, ?_⟩
  rintro i m a H ⟨rfl, hi, p⟩
  have q := hl i a H hi p
  by_cases hlt : i < xs.length
  · refine .inr ⟨⟨xs, xs[i], q, by simp [hlt]⟩, Pv (i + 1), fun a' H' p' => ⟨xs.length - (i + 1), by omega, rfl, hlt, p'⟩, fun x H' y => ?_⟩
    obtain ⟨e, y⟩ := y
    subst e
    exact hs i x a _ (y xs q) p
  · have e : i = xs.length := by omega
    subst e
    exact .inl ⟨⟨xs, q, Nat.le_refl _⟩, hd a H p⟩
theorem gen_tup {k : CK} {K : PySem.W.Frag} {b : Addr} {xs : List V} {g : TG} {tt : TT} {te : TE} {vs : List Nat} {σ : L2.St} {H1 : Hp} {Q : VK} (Pv : Nat → Int → Hp → Prop) (h0 : Pv 0 0 H1) (hl : ∀ i a H, i ≤ xs.length → Pv i a H → SqT K H b xs)
    (hs : ∀ i x a H, xs[i]? = some x → Pv i a H → g x (wipe σ vs) H fun σ2 H2 => wipe σ2 vs = wipe σ vs ∧ tt σ2 H2 fun b H3 => if b = true then te σ2 H3 fun y H4 => tEl k a y (Pv (i + 1)) Q H4 else Pv (i + 1) a H3)
    (hd : ∀ a H, Pv xs.length a H → Q (tFin k a) H) :
    ∃ W : Nat → Nat → Int → Hp → Prop, (∃ m, W 0 m 0 H1) ∧ ∀ i m a H, W i m a H →
      ((Itt K b).stop i H ∧ ap2 Q (tFin k a) H) ∨ ((Itt K b).go i H ∧ ∃ Nx : Int → Hp → Prop, (∀ a' H', Nx a' H' → ∃ m', m' < m ∧ W (i + 1) m' a' H') ∧ ∀ x H', (Itt K b).yld i H x H' →
        g x (wipe σ vs) H' fun σ2 H2 => wipe σ2 vs = wipe σ vs ∧ tt σ2 H2 fun b H3 => if b = true then te σ2 H3 fun y H4 => tEl k a y Nx Q H4 else Nx a H3) := by
  refine ⟨fun i m a H => m = xs.length - i ∧ i ≤ xs.length ∧ Pv i a H, ⟨xs.length, by simp, Nat.zero_le _, h0⟩, ?_⟩
  rintro i m a H ⟨rfl, hi, p⟩
  have q := hl i a H hi p
  by_cases hlt : i < xs.length
  · refine .inr ⟨⟨xs, xs[i], q, by simp [hlt]⟩, Pv (i + 1), fun a' H' p' => ⟨xs.length - (i + 1), by omega, rfl, hlt, p'⟩, fun x H' y => ?_⟩
    obtain ⟨e, y⟩ := y
    subst e
    exact hs i x a _ (y xs q) p
  · have e : i = xs.length := by omega
    subst e
    exact .inl ⟨⟨xs, q, Nat.le_refl _⟩, hd a H p⟩
end EG
namespace EP
open PySem PySem.Spec PyProof.Rows L2
/-! ### a list or a tuple, walked -/
abbrev SqE (K : PySem.W.Frag) (H : Hp) (a : Addr) (xs : List V) : Prop := SqL K H a xs ∨ SqT K H a xs
theorem SqE_same {K : PySem.W.Frag} {H H' : Hp} {a : Addr} {xs : List V} (e : Same H H') (h : SqE K H a xs) : SqE K H' a xs := h.imp e.seq (SqT_same e)
/-- .. which of the two -/
def Sqb (K : PySem.W.Frag) : Bool → Hp → Addr → List V → Prop
  | true => SqL K
  | false => SqT K
def Itb (K : PySem.W.Frag) : Bool → Addr → It
  | true => Itl K
  | false => Itt K
theorem Sqb.e {K : PySem.W.Frag} {b : Bool} {H : Hp} {a : Addr} {xs : List V} (h : Sqb K b H a xs) : SqE K H a xs := by
  cases b with
  | true => exact .inl h
  | false => exact .inr h
theorem sqb_of {K : PySem.W.Frag} {H : Hp} {a : Addr} {xs : List V} (h : SqE K H a xs) : ∃ b, Sqb K b H a xs := h.elim (fun h => ⟨true, h⟩) (fun h => ⟨false, h⟩)
theorem Sqb.same {K : PySem.W.Frag} {b : Bool} {H H' : Hp} {a : Addr} {xs : List V} (h : Sqb K b H a xs) (e : Same H H') : Sqb K b H' a xs := by
  cases b with
  | true => exact e.seq h
  | false => exact SqT_same e h
def iSeq (K : PySem.W.Frag) (tl : TE) : TI := fun σ H R => tl σ H fun x H1 => ∃ (a : Addr) (xs : List V) (b : Bool), x = .ref a ∧ Sqb K b H1 a xs ∧ R (Itb K b a) H1
theorem pi_seq {X : Cx} {tg l : Expr} {tl : TE} (hl : PE X l tl) : PI X tg l (iSeq X.K tl) := by
  refine ⟨fun pins s σ H R I h => ?_⟩
  refine thn (hl.run pins s σ H _ I h) fun v s1 ⟨x, H1, I1, r1, q1⟩ => ?_
  obtain ⟨a, xs, b, e, hq, q⟩ := q1
  subst e
  cases r1
  cases b with
  | true =>
    obtain ⟨its, rv, p, hz⟩ := I1.list hq
    refine wpAny_pyIter_list p.isList ?_
    refine ⟨s1.heap.objs.size, [s1.heap.objs.size], _, _, H1, rfl, I1.kept (t' := s1.toks) fun b o e => Heap.get?_push_of_some _ e, turn_list a _, ⟨_, Heap.get?_push_size _ rfl, rfl, rfl⟩, fun b hb => ?_, q⟩
    have e : b = s1.heap.objs.size := by simpa using hb
    subst e
    exact I1.fpOk (Nat.le_refl _) (I1.hok.fresh (Nat.le_refl _))
  | false =>
    obtain ⟨its, rv, p, hz⟩ := I1.tuple hq
    refine wpAny_pyIter_tuple (show s1.heap.IsTuple a its.toArray from p) ?_
    refine ⟨s1.heap.objs.size, [s1.heap.objs.size], _, _, H1, rfl, I1.kept (t' := s1.toks) fun b o e => Heap.get?_push_of_some _ e, turn_tuple a _, ⟨_, Heap.get?_push_size _ rfl, rfl, rfl⟩, fun b hb => ?_, q⟩
    have e : b = s1.heap.objs.size := by simpa using hb
    subst e
    exact I1.fpOk (Nat.le_refl _) (I1.hok.fresh (Nat.le_refl _))
theorem for_b {K : PySem.W.Frag} {a : Addr} {xs : List V} {b : Bool} {g : TG} {tb : TS} {D : Ends} {σ : L2.St} {H : Hp} (Pv : Nat → L2.St → Hp → Prop) (h0 : Pv 0 σ H) (hl : ∀ i σ H', i ≤ xs.length → Pv i σ H' → Sqb K b H' a xs)
    (hs : ∀ i x σ H, xs[i]? = some x → Pv i σ H → g x σ H fun σ2 H2 => tb { D with nx := Pv (i + 1), ct := Pv (i + 1), bk := D.nx } σ2 H2) (hd : ∀ σ H, Pv xs.length σ H → D.nx σ H) :
    ∃ W : Nat → Nat → L2.St → Hp → Prop, (∃ m, W 0 m σ H) ∧ ∀ i m σ H, W i m σ H →
      ((Itb K b a).stop i H ∧ D.nx σ H) ∨ ((Itb K b a).go i H ∧ ∃ N : L2.St → Hp → Prop, (∀ σ' H', N σ' H' → ∃ m', m' < m ∧ W (i + 1) m' σ' H') ∧ ∀ x H', (Itb K b a).yld i H x H' → g x σ H' fun σ2 H2 => tb { D with nx := N, ct := N, bk := D.nx } σ2 H2) := by
  cases b with
  | true => exact for_list Pv h0 hl hs hd
  | false => exact for_tup Pv h0 hl hs hd
theorem lc_b {K : PySem.W.Frag} {a : Addr} {xs : List V} {b : Bool} {g : TG} {tt : TT} {te : TE} {vs : List Nat} {σ : L2.St} {H1 : Hp} {D : Addr} {Qd : Hp → Prop} (Pv : Nat → Hp → Prop) (h0 : Pv 0 (upd H1 D (.lst []))) (hl : ∀ i H', i ≤ xs.length → Pv i H' → Sqb K b H' a xs)
    (hs : ∀ i x H, xs[i]? = some x → Pv i H → g x (wipe σ vs) H fun σ2 H2 => wipe σ2 vs = wipe σ vs ∧ tt σ2 H2 fun b H3 =>
      if b = true then te σ2 H3 fun y H4 => ∃ acc, H4 D = some (.lst acc) ∧ acc.length < sizeLine ∧ Pv (i + 1) (upd H4 D (.lst (acc ++ [y]))) else Pv (i + 1) H3) (hd : ∀ H, Pv xs.length H → Qd H) :
    ∃ W : Nat → Nat → Hp → Prop, (∃ m, W 0 m (upd H1 D (.lst []))) ∧ ∀ i m H, W i m H →
      ((Itb K b a).stop i H ∧ Qd H) ∨ ((Itb K b a).go i H ∧ ∃ Nx : Hp → Prop, (∀ H', Nx H' → ∃ m', m' < m ∧ W (i + 1) m' H') ∧ ∀ x H', (Itb K b a).yld i H x H' → g x (wipe σ vs) H' fun σ2 H2 => wipe σ2 vs = wipe σ vs ∧ tt σ2 H2 fun b H3 =>
        if b = true then te σ2 H3 fun y H4 => ∃ acc, H4 D = some (.lst acc) ∧ acc.length < sizeLine ∧ Nx (upd H4 D (.lst (acc ++ [y]))) else Nx H3) := by
  cases b with
  | true => exact lc_list Pv h0 hl hs hd
  | false => exact lc_tup Pv h0 hl hs hd
theorem gen_b {k : EG.CK} {K : PySem.W.Frag} {a : Addr} {xs : List V} {b : Bool} {g : TG} {tt : TT} {te : TE} {vs : List Nat} {σ : L2.St} {H1 : Hp} {Q : VK} (Pv : Nat → Int → Hp → Prop) (h0 : Pv 0 0 H1) (hl : ∀ i z H', i ≤ xs.length → Pv i z H' → Sqb K b H' a xs)
    (hs : ∀ i x z H, xs[i]? = some x → Pv i z H → g x (wipe σ vs) H fun σ2 H2 => wipe σ2 vs = wipe σ vs ∧ tt σ2 H2 fun b H3 => if b = true then te σ2 H3 fun y H4 => EG.tEl k z y (Pv (i + 1)) Q H4 else Pv (i + 1) z H3)
    (hd : ∀ z H, Pv xs.length z H → Q (EG.tFin k z) H) :
    ∃ W : Nat → Nat → Int → Hp → Prop, (∃ m, W 0 m 0 H1) ∧ ∀ i m z H, W i m z H →
      ((Itb K b a).stop i H ∧ EG.ap2 Q (EG.tFin k z) H) ∨ ((Itb K b a).go i H ∧ ∃ Nx : Int → Hp → Prop, (∀ a' H', Nx a' H' → ∃ m', m' < m ∧ W (i + 1) m' a' H') ∧ ∀ x H', (Itb K b a).yld i H x H' →
        g x (wipe σ vs) H' fun σ2 H2 => wipe σ2 vs = wipe σ vs ∧ tt σ2 H2 fun b H3 => if b = true then te σ2 H3 fun y H4 => EG.tEl k z y Nx Q H4 else Nx z H3) := by
  cases b with
  | true => exact EG.gen_list Pv h0 hl hs hd
  | false => exact EG.gen_tup Pv h0 hl hs hd
theorem cut_whole {xs : List V} {lo hi : Option Int} (h : HT.sIx xs.length 0 lo = 0 ∧ HT.sIx xs.length xs.length hi = xs.length) : cutV xs lo hi = xs := by
  unfold cutV
  rw [h.1, h.2]
  simp
/-- a slice of a list or a tuple -/
def rSlS (K : PySem.W.Frag) : V → Option Int → Option Int → Hp → VK → Prop := fun x lo hi H Q => ∃ (a : Addr) (xs : List V) (b : Bool), x = .ref a ∧ Sqb K b H a xs ∧ ∀ r H', Same H H' → Sqb K b H' r (cutV xs lo hi) → Q (.ref r) H'
theorem sl_seq {X : Cx} : SlR X (rSlS X.K) := by
  intro pins s σ H x v vl vu lo hi sl Q I rx hs pl pu h
  obtain ⟨a, xs, b, rfl, hx, q⟩ := h
  cases b with
  | true => exact sl_list pins s σ H _ v vl vu lo hi sl Q I rx hs pl pu ⟨a, xs, rfl, hx, fun p np => q p _ (same_new np) (SqL.of upd_same)⟩
  | false => exact sl_tupA pins s σ H _ v vl vu lo hi sl Q I rx hs pl pu ⟨a, xs, rfl, hx, fun hw => q a H (Same.refl _) (by rw [cut_whole hw]; exact hx), fun _ p np => q p _ (same_new np) (SqT.of upd_same)⟩
theorem pi_seqK {X : Cx} {K : PySem.W.Frag} {tg l : Expr} {tl : TE} (hl : PE X l tl) (h : X.K = K := by rfl) : PI X tg l (iSeq K tl) := h ▸ pi_seq hl
theorem pi_listK {X : Cx} {K : PySem.W.Frag} {tg l : Expr} {tl : TE} (hl : PE X l tl) (h : X.K = K := by rfl) : PI X tg l (iList K tl) := h ▸ pi_list hl
theorem pi_tupK {X : Cx} {K : PySem.W.Frag} {tg l : Expr} {tl : TE} (hl : PE X l tl) (h : X.K = K := by rfl) : PI X tg l (iTup K tl) := h ▸ pi_tup hl
end EP
namespace EP
open PySem PySem.Spec PyProof.Rows L2
/-! ### a def whose code object is known -/
structure FunG (K : PySem.W.Frag) (x qual : Str) (st : Stmt) (f : Addr) (fd : FuncData) (c : Addr) : Prop where
  ex : ∃ (oc : Value) (od : Option Addr) (kV doc pm : Value) (an : Option Addr) (ct : Value) (osl : Array (Option Value)),
    fd = PySem.W.fnOf x qual (defArgs st) (defBody st) (defScope st) .none kV doc pm an (.ref c) ct ∧ K.lookup f = some ⟨oc, od, .func fd, osl⟩ ∧ PySem.W.codeIn K (.ref c) qual = true
  kp : PySem.W.keepIn K (.ref f) = true
theorem FunG.fn {K : PySem.W.Frag} {x qual : Str} {st : Stmt} {f : Addr} {fd : FuncData} {c : Addr} (F : FunG K x qual st f fd c) : L2.Fun K x qual st f fd := by
  obtain ⟨oc, od, kV, doc, pm, an, ct, osl, e, lk, hcd⟩ := F.ex
  exact ⟨⟨oc, od, kV, doc, pm, an, _, ct, osl, e, lk, hcd⟩, F.kp⟩
theorem funG_mk {K : PySem.W.Frag} {x qual : Str} {st : Stmt} {f c : Addr} {oc : Value} {od an : Option Addr} {osl : Array (Option Value)} {kV doc pm ct : Value} (l : K.lookup f = some ⟨oc, od, .func (PySem.W.fnOf x qual (defArgs st) (defBody st) (defScope st) .none kV doc pm an (.ref c) ct), osl⟩)
    (cd : PySem.W.codeIn K (.ref c) qual = true) (k : PySem.W.keepIn K (.ref f) = true) : FunG K x qual st f (PySem.W.fnOf x qual (defArgs st) (defBody st) (defScope st) .none kV doc pm an (.ref c) ct) c := ⟨⟨oc, od, kV, doc, pm, an, ct, osl, rfl, l, cd⟩, k⟩
section
variable {P : Program} {w : World} {K : PySem.W.Frag} {mg : Str → Option Value} {base : Heap}
theorem FunG.ok {x qual : Str} {st : Stmt} {f c : Addr} {fd : FuncData} {N ps : List Str} {k : Nat} {sp : Sp} (F : FunG K x qual st f fd c) (S : FnScope N ps (defScope st)) (len : ∀ vs H Q E, sp vs H Q E → vs.length = ps.length)
    (hbody : ∀ (A : Around) (outer : List Env) (s : Shared) (H : Hp) (vs : List V) (Q : VK) (E : XK), Room k (A.deeper (envOfC qual (defScope st) s.heap.objs.size f (.ref c))) → sp vs H Q E →
      ∃ t, PSs (cxOf CX0 P w K mg base N qual (defScope st) f (.ref c) A outer s H E).nox (defBody st) t ∧ t { nx := fun _ H' => Q .non H', rt := Q } (L2.start N vs) H) : FnOk P w K mg base CX0 (k + 1) f fd ps sp := by
  obtain ⟨oc, od, kV, doc, pm, an, ct, osl, rfl, lk, hcd⟩ := F.ex
  refine fn_of lk hcd S len fun A outer s H vs Q E hr hsp => ?_
  obtain ⟨t, h, q⟩ := hbody A outer s H vs Q E hr hsp
  exact ⟨t, h.nox, q⟩
theorem FunG.okX {x qual : Str} {st : Stmt} {f c : Addr} {fd : FuncData} {N ps : List Str} {k : Nat} {sp : Sp} (F : FunG K x qual st f fd c) (S : FnScope N ps (defScope st)) (len : ∀ vs H Q E, sp vs H Q E → vs.length = ps.length)
    (hbody : ∀ (A : Around) (outer : List Env) (s : Shared) (H : Hp) (vs : List V) (Q : VK) (E : XK), Room k (A.deeper (envOfC qual (defScope st) s.heap.objs.size f (.ref c))) → sp vs H Q E →
      ∃ t, PSs (cxOf (L2.CX P w) P w K mg base N qual (defScope st) f (.ref c) A outer s H E) (defBody st) t ∧ t { nx := fun _ H' => Q .non H', rt := Q } (L2.start N vs) H) : FnOk P w K mg base (L2.CX P w) (k + 1) f fd ps sp := by
  obtain ⟨oc, od, kV, doc, pm, an, ct, osl, rfl, lk, hcd⟩ := F.ex
  exact fn_of lk hcd S len fun A outer s H vs Q E hr hsp => hbody A outer s H vs Q E hr hsp
theorem FunG.okXN {x qual : Str} {st : Stmt} {f c : Addr} {fd : FuncData} {N ps : List Str} {k : Nat} {sp : Sp} (F : FunG K x qual st f fd c) (S : FnScope N ps (defScope st)) (len : ∀ vs H Q E, sp vs H Q E → vs.length = ps.length)
    (hbody : ∀ (A : Around) (outer : List Env) (s : Shared) (H : Hp) (vs : List V) (Q : VK) (E : XK), Room k (A.deeper (envOfC qual (defScope st) s.heap.objs.size f (.ref c))) → sp vs H Q E →
      ∃ t, PSs (cxOf (L2N.CX P w) P w K mg base N qual (defScope st) f (.ref c) A outer s H E) (defBody st) t ∧ t { nx := fun _ H' => Q .non H', rt := Q } (L2.start N vs) H) : FnOk P w K mg base (L2N.CX P w) (k + 1) f fd ps sp := by
  obtain ⟨oc, od, kV, doc, pm, an, ct, osl, rfl, lk, hcd⟩ := F.ex
  exact fn_of lk hcd S len fun A outer s H vs Q E hr hsp => hbody A outer s H vs Q E hr hsp
end
/-! ### the tables -/
/-- the code object at c has its table at P -/
structure TabK (K : PySem.W.Frag) (c P : Addr) : Prop where
  ex : ∃ (e : Value) (dd : Option Addr) (vs : Array Value) (sl : Array (Option Value)), K.lookup c = some ⟨e, dd, .fields vs, sl⟩ ∧ vs[11]? = some (.ref P)
  no : K.lookup P = none
abbrev TabG (H : Hp) (P : Addr) : Prop := GxR.TabG H P
theorem TabG.empty {H : Hp} {P : Addr} (h : H P = some (.tbl #[])) : TabG H P := ⟨#[], h, trivial⟩
/-- the same but for tables, which may have grown -/
structure SameT (H H' : Hp) : Prop where
  keep : ∀ b o, (∀ ps, o ≠ .tbl ps) → H b = some o → H' b = some o
  tab : ∀ P, TabG H P → TabG H' P
  free : ∀ {b}, H' b = none → H b = none
theorem SameT.refl (H : Hp) : SameT H H := ⟨fun _ _ _ h => h, fun _ h => h, fun h => h⟩
theorem SameT.trans {H H1 H2 : Hp} (a : SameT H H1) (b : SameT H1 H2) : SameT H H2 := ⟨fun c o n h => b.keep c o n (a.keep c o n h), fun P h => b.tab P (a.tab P h), fun h => a.free (b.free h)⟩
theorem Same.t {H H' : Hp} (e : Same H H') : SameT H H' := ⟨fun b o _ h => e b o h, fun P ⟨ps, h, t⟩ => ⟨ps, e _ _ h, t⟩, fun h => e.free h⟩
theorem SameT.tabbed {P : Addr} {H H' : Hp} (e : GxR.Tabbed P H H') (h : TabG H P) : SameT H H' := ⟨fun b o n hb => by
    by_cases c : b = P
    · obtain ⟨ps, hp, _⟩ := h
      rw [c, hp] at hb
      exact absurd (Option.some.inj hb).symm (n ps)
    · rw [e.2 b c]; exact hb, fun Q hq => by
    by_cases c : Q = P
    · rw [c]; exact e.1
    · obtain ⟨ps, hp, t⟩ := hq
      exact ⟨ps, by rw [e.2 Q c]; exact hp, t⟩, fun {b} hb => by
    by_cases c : b = P
    · obtain ⟨ps, hp, _⟩ := e.1
      rw [c, hp] at hb
      cases hb
    · rw [← e.2 b c]; exact hb⟩
theorem SameT.lst {H H' : Hp} {a : Addr} {xs : List V} (e : SameT H H') (h : H a = some (.lst xs)) : H' a = some (.lst xs) := e.keep _ _ (fun _ z => by cases z) h
theorem SameT.seq {K : PySem.W.Frag} {H H' : Hp} {a : Addr} {xs : List V} (e : SameT H H') (h : SqL K H a xs) : SqL K H' a xs := by
  rcases h with (h | ⟨o, h⟩) | h
  · exact .inl (.inl (e.keep _ _ (fun _ z => by cases z) h))
  · exact .inl (.inr ⟨o, e.keep _ _ (fun _ z => by cases z) h⟩)
  · exact .inr h
theorem SameT.tup {K : PySem.W.Frag} {H H' : Hp} {a : Addr} {xs : List V} (e : SameT H H') (h : SqT K H a xs) : SqT K H' a xs := by
  rcases h with (h | ⟨o, h⟩) | h
  · exact .inl (.inl (e.keep _ _ (fun _ z => by cases z) h))
  · exact .inl (.inr ⟨o, e.keep _ _ (fun _ z => by cases z) h⟩)
  · exact .inr h
theorem Sqb.sameT {K : PySem.W.Frag} {b : Bool} {H H' : Hp} {a : Addr} {xs : List V} (h : Sqb K b H a xs) (e : SameT H H') : Sqb K b H' a xs := by
  cases b with
  | true => exact e.seq h
  | false => exact e.tup h
theorem SqE.sameT {K : PySem.W.Frag} {H H' : Hp} {a : Addr} {xs : List V} (h : SqE K H a xs) (e : SameT H H') : SqE K H' a xs := h.imp e.seq e.tup
theorem ShapeAt.sameT {K : PySem.W.Frag} {C : Addr} {H H' : Hp} {s : Addr} {ps : List Nat} (S : ShapeAt K C H s ps) (e : SameT H H') : ShapeAt K C H' s ps := by
  obtain ⟨o, p, sm, dx, t, d, kvs, h1, h2, h3, h4⟩ := S
  exact ⟨o, p, sm, dx, t, d, kvs, e.keep _ _ (fun _ z => by cases z) h1, e.tup h2, e.keep _ _ (fun _ z => by cases z) h3, h4⟩
theorem Had.sameT {H H' : Hp} {h : Addr} {ps : List Nat} (a : Had H h ps) (e : SameT H H') : Had H' h ps := by
  obtain ⟨rs, h1, h2, h3⟩ := a
  exact ⟨rs, e.lst h1, h2, fun p r hr => e.lst (h3 p r hr)⟩
theorem Tape.sameT {H H' : Hp} {t u : Addr} (h : Tape H t u) (e : SameT H H') : Tape H' t u := by
  obtain ⟨xs, i, b, s, c, h1, h2, h3⟩ := h
  exact ⟨xs, i, b, s, c, e.lst h1, e.lst h2, h3⟩
theorem sameT_new {H : Hp} {d : Addr} {o : HO} (h : H d = none) : SameT H (upd H d o) := Same.t (same_new h)
theorem sameT_mut {H H' : Hp} {D : Addr} {o : HO} (e : SameT H H') (h : H D = none) : SameT H (upd H' D o) := ⟨fun b v n hb => by
    rw [upd_ne (ne_of_none hb h)]
    exact e.keep b v n hb, fun P hP => by
    obtain ⟨ps, hp, _⟩ := id hP
    obtain ⟨ps', hp', t⟩ := e.tab P hP
    exact ⟨ps', by rw [upd_ne (ne_of_none hp h)]; exact hp', t⟩, fun {b} hb => by
    by_cases c : b = D
    · rw [c]; exact h
    · rw [upd_ne c] at hb
      exact e.free hb⟩
/-- all but t stays, and tables may have grown -/
structure ButT (t : Addr) (H H' : Hp) : Prop where
  keep : ∀ b o, b ≠ t → (∀ ps, o ≠ .tbl ps) → H b = some o → H' b = some o
  tab : ∀ P, TabG H P → TabG H' P
  free : ∀ {b}, b ≠ t → H' b = none → H b = none
theorem ButT.of {t : Addr} {H H' : Hp} (e : SameT H H') : ButT t H H' := ⟨fun b o _ n h => e.keep b o n h, e.tab, fun _ h => e.free h⟩
theorem ButT.trans {t : Addr} {H H1 H2 : Hp} (a : ButT t H H1) (b : ButT t H1 H2) : ButT t H H2 := ⟨fun c o n m h => b.keep c o n m (a.keep c o n m h), fun P h => b.tab P (a.tab P h), fun n h => a.free n (b.free n h)⟩
theorem But.t {t : Addr} {H H' : Hp} (e : But t H H') (hn : ∀ P, TabG H P → P ≠ t) : ButT t H H' := ⟨fun b o n _ h => e b o n h, fun P h => by
    have := hn P h
    obtain ⟨ps, hp, z⟩ := h
    exact ⟨ps, e P _ this hp, z⟩, fun n h => e.free n h⟩
theorem ButT.lst {t : Addr} {H H' : Hp} {a : Addr} {xs : List V} (e : ButT t H H') (hn : a ≠ t) (h : H a = some (.lst xs)) : H' a = some (.lst xs) := e.keep _ _ hn (fun _ z => by cases z) h
theorem Tape.noTab {H : Hp} {t u P : Addr} (h : Tape H t u) (hP : TabG H P) : P ≠ t := fun e => by
  obtain ⟨xs, i, b, s, c, h1, _⟩ := h
  obtain ⟨ps, hp, _⟩ := hP
  rw [e, h1] at hp
  cases hp

/-- what the head knows of a def's table -/
def TabsOf (K : PySem.W.Frag) (mg : Str → Option Value) (h : Heap) (y : Str) : Prop := ∀ (a c P : Addr) (o : Obj) (fd : FuncData) (e : Value) (dd : Option Addr) (vs : Array Value) (sl : Array (Option Value)), mg y = some (.ref a) → K.lookup a = some o → o.data = .func fd → fd.code = .ref c →
  K.lookup c = some ⟨e, dd, .fields vs, sl⟩ → vs[11]? = some (.ref P) → PySem.W.CodeHd h c P ∧ h.get? P = some { cls := .none, data := .fields #[] }
theorem walk_ofN {l : PySem.W.OpenLaw} {n k : Nat} {q : Program} {loose : List Str} {XP : (Str → Option Value) → Heap → Prop} {YP : World → Heap → Prop} {d : DefRec} {K : Params → PySem.W.Frag} {CX : World → CXT} {x : Str} (names : List Str)
    (hn : l.most = some n) (hn2 : n ≤ sizeLine) (hdf : d.params.defaults = []) (hr : Room k callerA) (hrec : (names.all fun y => (recsOf q).any fun e => e.name == y) = true) (hY : ∀ (w : World) (h : Heap), YP w h → (K w.params).In h)
    (F : ∀ (w : World) (mg : Str → Option Value) (fa : Addr) (h : Heap), YP w h → (K w.params).In h → h.Ns mainGlobals mg → mg d.name = some (.ref fa) → (∀ y ∈ names, TabsOf (K w.params) mg h y) → LamX.LawAtS l w (K w.params) (CX w) k n x mg fa h)
    (hCX : ∀ (w : World) (H : Hp) (s : Shared) (e : Value) (s' : Shared), CX w [] H s (fun _ _ _ => False) e s' → False) :
    PySem.W.WalkO q loose XP YP l.row.toRowW d [] (fun f vs => PySem.call f vs) := by
  refine Att.attach_callB hn hdf fun w s₀ s₁ mg mb fa o pm cd doc a vs ns G Y ho hd hcd hmg hobj hints hlen hbits hg => ?_
  have KX := hY w _ Y
  have tabs : ∀ y ∈ names, TabsOf (K w.params) mg s₁.heap y := fun y hy a c P o1 fd1 e dd vs1 sl k0 k1 k2 k3 k4 k5 => by
    obtain ⟨dL, hm, hn1⟩ := List.any_eq_true.mp (List.all_eq_true.mp hrec y hy)
    have hn2 : dL.name = y := beq_iff_eq.mp hn1
    obtain ⟨a', o', fd', c', P', h1, h2, h3, h4, h5, h6⟩ := G.T.tab dL hm
    rw [hn2, k0] at h1
    cases h1
    have g1 := KX _ _ k1
    rw [g1] at h2
    cases h2
    rw [k2] at h3
    cases h3
    rw [k3] at h4
    cases h4
    have hC := PySem.W.CodeHd.of h5 h6
    obtain ⟨⟨oc, vc, e1, _, e3, e4⟩, hP⟩ := h6
    have g2 := KX _ _ k4
    rw [g2] at e1
    cases e1
    cases e3
    rw [k5] at e4
    cases e4
    exact ⟨hC, hP⟩
  obtain ⟨fd, cs, sp, hT, nT, C, hb, hsp, hF⟩ := F w mg fa _ Y KX G.T.g hmg tabs
  exact LamX.law_callTs KX G.T.g G.T.b G.T.builtins G.T.nolimit hg hT nT C G.T.bmain hobj hints (Nat.le_trans hlen hn2) hr hF hb (fun H hH hS => hsp H a ns hlen hbits hH hS) fun H e s' => hCX w H s₁ e s'
/-- a def's table as it stands at the head -/
theorem TabK.head {K : PySem.W.Frag} {mg : Str → Option Value} {h : Heap} {y x qual : Str} {st : Stmt} {f c P : Addr} {fd : FuncData} (t : TabK K c P) (F : FunG K x qual st f fd c) (g : mg y = some (.ref f)) (T : TabsOf K mg h y) :
    PySem.W.CodeHd h c P ∧ h.get? P = some { cls := .none, data := .fields #[] } := by
  obtain ⟨oc, od, kV, doc, pm, an, ct, osl, e, lk, hcd⟩ := F.ex
  obtain ⟨e2, dd, vs, sl, k1, k2⟩ := t.ex
  subst e
  exact T f c P _ _ e2 dd vs sl g lk rfl rfl k1 k2
theorem tabB_of {base : Heap} {mg : Str → Option Value} {c P : Addr} (t : LamX.TabB base mg c P) : GxR.TabB base mg c P := ⟨t.code, t.bm, t.gP⟩
end EP
namespace Tr
/-! ### sums of distances -/
def dist (ps : List Nat) (a b : Nat) : Nat := (parting ps a b).length
def tot (ps : List Nat) (L : List Nat) (p : Nat) : Nat := (L.map fun x => dist ps x p).sum
theorem tot_snoc (ps L : List Nat) (x p : Nat) : tot ps (L ++ [x]) p = tot ps L p + dist ps x p := by
  unfold tot
  rw [List.map_append, List.sum_append]
  simp
theorem sum_add {α : Type} (g h : α → Nat) : ∀ W : List α, (W.map fun k => g k + h k).sum = (W.map g).sum + (W.map h).sum
  | [] => rfl
  | a :: W => by
    simp only [List.map_cons, List.sum_cons, sum_add g h W]
    omega
theorem sum_ones {α : Type} (f : α → Bool) : ∀ W : List α, (W.map fun k => if f k = true then 1 else 0).sum = W.countP f
  | [] => rfl
  | a :: W => by
    simp only [List.map_cons, List.sum_cons, List.countP_cons, sum_ones f W]
    omega
theorem sum_swap {α β : Type} (f : α → β → Bool) (W : List β) : ∀ L : List α, (L.map fun x => W.countP (f x)).sum = (W.map fun k => L.countP fun x => f x k).sum
  | [] => by
    show 0 = (W.map fun k => 0).sum
    induction W with
    | nil => rfl
    | cons a W ih => rw [List.map_cons, List.sum_cons, ← ih]; rfl
  | x :: L => by
    have e : (W.map fun k => (x :: L).countP fun x => f x k) = W.map fun k => (L.countP fun x => f x k) + (if f x k = true then 1 else 0) := List.map_congr_left fun k _ => by rw [List.countP_cons]
    rw [List.map_cons, List.sum_cons, sum_swap f W L, e, sum_add, sum_ones]
    omega
theorem sum_le {α : Type} (g h : α → Nat) : ∀ W : List α, (∀ k, k ∈ W → g k ≤ h k) → (W.map g).sum ≤ (W.map h).sum
  | [], _ => Nat.le_refl _
  | a :: W, q => by
    simp only [List.map_cons, List.sum_cons]
    have := sum_le g h W fun k hk => q k (List.mem_cons_of_mem _ hk)
    have := q a List.mem_cons_self
    omega
theorem sum_lt {α : Type} (g h : α → Nat) : ∀ W : List α, (∀ k, k ∈ W → g k ≤ h k) → (∃ k, k ∈ W ∧ g k < h k) → (W.map g).sum < (W.map h).sum
  | [], _, ⟨k, hk, _⟩ => by cases hk
  | a :: W, q, ⟨k, hk, lt⟩ => by
    simp only [List.map_cons, List.sum_cons]
    have le := sum_le g h W fun k hk => q k (List.mem_cons_of_mem _ hk)
    have qa := q a List.mem_cons_self
    rcases List.mem_cons.mp hk with rfl | hk
    · omega
    · have := sum_lt g h W (fun k hk => q k (List.mem_cons_of_mem _ hk)) ⟨k, hk, lt⟩
      omega
theorem cnt_eq {α : Type} (f : α → Bool) (b : Bool) : ∀ L : List α, (L.countP fun x => f x != b) = if b = true then L.length - L.countP f else L.countP f
  | [] => by cases b <;> rfl
  | x :: L => by
    have := List.countP_le_length (p := f) (l := L)
    have ih := cnt_eq f b L
    rw [List.countP_cons, List.countP_cons, ih]
    cases b <;> cases f x <;> simp <;> omega
def walls (n : Nat) : List Nat := (List.range n).map (· + 1)
theorem mem_walls {n k : Nat} : k ∈ walls n ↔ 1 ≤ k ∧ k ≤ n := by
  unfold walls
  rw [List.mem_map]
  constructor
  · rintro ⟨i, hi, rfl⟩
    have := List.mem_range.mp hi
    omega
  · rintro ⟨h1, h2⟩
    exact ⟨k - 1, List.mem_range.mpr (by omega), by omega⟩
theorem tot_eq (ps L : List Nat) (p : Nat) : tot ps L p = ((walls ps.length).map fun k => L.countP fun x => has ps x k != has ps p k).sum := by
  rw [← sum_swap (fun x k => has ps x k != has ps p k) (walls ps.length) L]
  unfold tot dist parting
  refine congrArg List.sum (List.map_congr_left fun x _ => ?_)
  rw [List.countP_eq_length_filter]
  rfl
theorem tot_lt {ps L : List Nat} {p : Nat} (odd : L.length % 2 = 1) (hp : p ≤ ps.length) (hne : p ≠ mid ps L ps.length) : tot ps L (mid ps L ps.length) < tot ps L p := by
  rw [tot_eq, tot_eq]
  have key : ∀ k, k ∈ walls ps.length → (has ps p k = has ps (mid ps L ps.length) k → (L.countP fun x => has ps x k != has ps (mid ps L ps.length) k) ≤ L.countP fun x => has ps x k != has ps p k) ∧
      (has ps p k ≠ has ps (mid ps L ps.length) k → (L.countP fun x => has ps x k != has ps (mid ps L ps.length) k) < L.countP fun x => has ps x k != has ps p k) := fun k hk => by
    obtain ⟨k1, k2⟩ := mem_walls.mp hk
    refine ⟨fun e => by rw [e]; exact Nat.le_refl _, fun ne => ?_⟩
    have hm := mid_has (ps := ps) (l := L) (n := ps.length) k1 k2
    rw [cnt_eq (fun x => has ps x k), cnt_eq (fun x => has ps x k)]
    rw [hm] at ne ⊢
    have le := List.countP_le_length (p := fun x => has ps x k) (l := L)
    unfold maj at ne ⊢
    generalize (L.countP fun x => has ps x k) = T at ne le ⊢
    by_cases c : L.length < 2 * T
    · rw [decide_eq_true c] at ne ⊢
      have : has ps p k = false := by cases z : has ps p k <;> simp [z] at ne ⊢
      rw [this]
      simp
      omega
    · rw [decide_eq_false c] at ne ⊢
      have : has ps p k = true := by cases z : has ps p k <;> simp [z] at ne ⊢
      rw [this]
      simp
      omega
  refine sum_lt _ _ _ (fun k hk => ?_) ?_
  · by_cases e : has ps p k = has ps (mid ps L ps.length) k
    · exact (key k hk).1 e
    · exact Nat.le_of_lt ((key k hk).2 e)
  · by_cases c : ∃ k, k ∈ walls ps.length ∧ has ps p k ≠ has ps (mid ps L ps.length) k
    · obtain ⟨k, hk, ne⟩ := c
      exact ⟨k, hk, (key k hk).2 ne⟩
    · refine absurd (same_of (ps := ps) hp (mid_le ps L ps.length) fun k h1 h2 => ?_) hne
      by_cases e : has ps p k = has ps (mid ps L ps.length) k
      · exact e
      · exact absurd ⟨k, mem_walls.mpr ⟨h1, h2⟩, e⟩ c
end Tr
namespace EP
open PySem L2
/-! ### lists of lists of counts -/
def LN (H : Hp) (h : Addr) (xss : List (List Nat)) : Prop := ∃ rs : List Addr, H h = some (.lst (rs.map V.ref)) ∧ rs.length = xss.length ∧ ∀ (i : Nat) (r : Addr) (xs : List Nat), rs[i]? = some r → xss[i]? = some xs → H r = some (.lst (nvs xs))
theorem LN.same {H H' : Hp} {h : Addr} {xss : List (List Nat)} (a : LN H h xss) (e : Same H H') : LN H' h xss := by
  obtain ⟨rs, h1, h2, h3⟩ := a
  exact ⟨rs, e _ _ h1, h2, fun i r xs hr hx => e _ _ (h3 i r xs hr hx)⟩
theorem LN.sameT {H H' : Hp} {h : Addr} {xss : List (List Nat)} (a : LN H h xss) (e : SameT H H') : LN H' h xss := by
  obtain ⟨rs, h1, h2, h3⟩ := a
  exact ⟨rs, e.lst h1, h2, fun i r xs hr hx => e.lst (h3 i r xs hr hx)⟩
theorem LN.row {H : Hp} {h : Addr} {xss : List (List Nat)} (a : LN H h xss) {i : Nat} {xs : List Nat} (hi : xss[i]? = some xs) : ∃ (vs : List V) (r : Addr), H h = some (.lst vs) ∧ vs.length = xss.length ∧ vs[i]? = some (V.ref r) ∧ H r = some (.lst (nvs xs)) := by
  obtain ⟨rs, h1, h2, h3⟩ := a
  have hlt := (List.getElem?_eq_some_iff.mp hi).1
  have e := List.getElem?_eq_getElem (l := rs) (i := i) (by omega)
  exact ⟨_, rs[i], h1, by rw [List.length_map]; exact h2, by rw [List.getElem?_map, e]; rfl, h3 i _ _ e hi⟩
def distL (ps : List Nat) (p : Nat) : List Nat := (List.range (ps.length + 1)).map fun o => Tr.dist ps o p
def tabN (ps : List Nat) : List (List Nat) := (List.range (ps.length + 1)).map (distL ps)
theorem distL_len (ps : List Nat) (p : Nat) : (distL ps p).length = ps.length + 1 := by unfold distL; rw [List.length_map, List.length_range]
theorem tabN_len (ps : List Nat) : (tabN ps).length = ps.length + 1 := by unfold tabN; rw [List.length_map, List.length_range]
theorem distL_get {ps : List Nat} {p o : Nat} (h : o ≤ ps.length) : (distL ps p)[o]? = some (Tr.dist ps o p) := by
  unfold distL
  rw [List.getElem?_map, List.getElem?_range (by omega)]
  rfl
theorem tabN_get {ps : List Nat} {p : Nat} (h : p ≤ ps.length) : (tabN ps)[p]? = some (distL ps p) := by
  unfold tabN
  rw [List.getElem?_map, List.getElem?_range (by omega)]
  rfl
theorem toI_sum : ∀ L : List Nat, (toI L).sum = ((L.sum : Nat) : Int)
  | [] => rfl
  | x :: L => by
    have := toI_sum L
    unfold toI at this ⊢
    rw [List.map_cons, List.sum_cons, List.sum_cons, this]
    omega
/-- a list of new objects, built at D -/
def Bld (H : Hp) (D : Addr) (f : Nat → HO) (k : Nat) (H' : Hp) : Prop := ∃ rs : List Addr, rs.length = k ∧ H' D = some (.lst (rs.map V.ref)) ∧ Same H H' ∧ ∀ (p : Nat) (r : Addr), rs[p]? = some r → r ≠ D ∧ H' r = some (f p)
theorem Bld.nil {H : Hp} {D : Addr} {f : Nat → HO} (hD : H D = none) : Bld H D f 0 (upd H D (.lst [])) := ⟨[], rfl, upd_same, same_new hD, fun p r hr => by simp at hr⟩
theorem Bld.snoc {H H1 H2 : Hp} {D r : Addr} {f : Nat → HO} {k : Nat} (b : Bld H D f k H1) (hD : H D = none) (sb : Same H1 H2) (nr : H1 r = none) (hr : H2 r = some (f k)) :
    ∃ acc, H2 D = some (.lst acc) ∧ acc.length = k ∧ Bld H D f (k + 1) (upd H2 D (.lst (acc ++ [V.ref r]))) := by
  obtain ⟨rs, r1, r2, sa, r3⟩ := b
  have hrD : r ≠ D := (ne_of_none r2 nr).symm
  refine ⟨_, sb _ _ r2, by rw [List.length_map]; exact r1, rs ++ [r], by rw [List.length_append, r1]; rfl, by rw [upd_same, List.map_append]; rfl, same_mut (sa.trans sb) hD, fun p r' hr' => ?_⟩
  rw [List.getElem?_append] at hr'
  split at hr'
  · obtain ⟨x1, x2⟩ := r3 p r' hr'
    exact ⟨x1, by rw [upd_ne x1]; exact sb _ _ x2⟩
  · rename_i hp
    cases e : p - rs.length with
    | zero =>
      rw [e] at hr'
      obtain rfl : r = r' := Option.some.inj hr'
      obtain rfl : p = k := by omega
      exact ⟨hrD, by rw [upd_ne hrD]; exact hr⟩
    | succ z => rw [e] at hr'; cases hr'
theorem Bld.had {H H' : Hp} {D : Addr} {ps : List Nat} (b : Bld H D (fun p => .lst (hadL ps p)) (ps.length + 1) H') : Had H' D ps := by
  obtain ⟨rs, r1, r2, _, r3⟩ := b
  exact ⟨rs, r2, r1, fun p r hr => (r3 p r hr).2⟩
theorem Bld.ln {H H' : Hp} {D : Addr} {xss : List (List Nat)} {f : Nat → List Nat} {k : Nat} (b : Bld H D (fun p => .lst (nvs (f p))) k H') (hk : xss.length = k) (hf : ∀ i xs, xss[i]? = some xs → xs = f i) : LN H' D xss := by
  obtain ⟨rs, r1, r2, _, r3⟩ := b
  exact ⟨rs, r2, by omega, fun i r xs hr hx => by rw [hf i xs hx]; exact (r3 i r hr).2⟩
theorem Bld.same {H H' : Hp} {D : Addr} {f : Nat → HO} {k : Nat} (b : Bld H D f k H') : Same H H' := let ⟨_, _, _, s, _⟩ := b; s
/-- one item of positions made a bad one -/
def spoil (L : List Nat) (k : Nat) (b : Int) : List Int := toI (L.take k) ++ [b] ++ toI (L.drop (k + 1))
theorem spoil_len {L : List Nat} {k : Nat} {b : Int} : (spoil L k b).length ≤ L.length + 1 := by
  unfold spoil
  rw [List.length_append, List.length_append, toI_len, toI_len, List.length_take, List.length_drop]
  show _ + 1 + _ ≤ _
  omega
theorem spoil_nvs (L : List Nat) (k : Nat) (b : Int) : nvs (L.take k) ++ [V.int b] ++ nvs (L.drop (k + 1)) = (spoil L k b).map V.int := by
  unfold spoil
  rw [List.map_append, List.map_append, ← nvs_toI, ← nvs_toI]
  rfl
theorem spoil_bad {L : List Nat} {k n : Nat} {b : Int} (hk : k ≤ L.length) (bd : ∀ x, x ∈ L → x ≤ n) (hb : ¬ IsPos n b) : BadAt n (spoil L k b) k ∧ (spoil L k b)[k]? = some b := by
  have e : (spoil L k b)[k]? = some b := by
    unfold spoil
    rw [List.append_assoc, List.getElem?_append_right (by rw [toI_len, List.length_take]; omega), toI_len, List.length_take, show k - min k L.length = 0 by omega]
    rfl
  refine ⟨⟨⟨b, e, hb⟩, fun i p hi hp => ?_⟩, e⟩
  unfold spoil at hp
  rw [List.append_assoc, List.getElem?_append_left (by rw [toI_len, List.length_take]; omega)] at hp
  obtain ⟨x, hx, rfl⟩ := toI_get hp
  have hm := List.mem_of_getElem? hx
  have := bd x (List.mem_of_mem_take hm)
  exact ⟨by omega, by omega⟩
theorem bad_first {n : Nat} {b : Int} {r : List Int} (h : ¬ IsPos n b) : BadAt n (b :: r) 0 := ⟨⟨b, rfl, h⟩, fun i p hi _ => absurd hi (Nat.not_lt_zero _)⟩
theorem bad_second {n : Nat} {a b : Int} {r : List Int} (ha : IsPos n a) (h : ¬ IsPos n b) : BadAt n (a :: b :: r) 1 := ⟨⟨b, rfl, h⟩, fun i p hi hp => by
  obtain rfl : i = 0 := by omega
  cases hp
  exact ha⟩
/-! ### a list made later is changed -/
theorem ShapeAt.butN {K : PySem.W.Frag} {C d : Addr} {H H' : Hp} {s : Addr} {ps : List Nat} (S : ShapeAt K C H s ps) (n : H d = none) (e : ButT d H H') : ShapeAt K C H' s ps := by
  obtain ⟨o, p, sm, dx, a, d, kvs, h1, h2, h3, h4⟩ := S
  refine ⟨o, p, sm, dx, a, d, kvs, e.keep _ _ (ne_of_none h1 n) (fun _ z => by cases z) h1, ?_, e.keep _ _ (ne_of_none h3 n) (fun _ z => by cases z) h3, h4⟩
  rcases h2 with h2 | h2
  · rcases h2 with h2 | ⟨o', h2⟩
    · exact .inl (.inl (e.keep _ _ (ne_of_none h2 n) (fun _ z => by cases z) h2))
    · exact .inl (.inr ⟨o', e.keep _ _ (ne_of_none h2 n) (fun _ z => by cases z) h2⟩)
  · exact .inr h2
theorem ButT.at {d a : Addr} {H H' : Hp} {xs : List V} (e : ButT d H H') (n : H d = none) (h : H a = some (.lst xs)) : H' a = some (.lst xs) := e.lst (ne_of_none h n) h
theorem LN.butN {d : Addr} {H H' : Hp} {h : Addr} {xss : List (List Nat)} (a : LN H h xss) (n : H d = none) (e : ButT d H H') : LN H' h xss := by
  obtain ⟨rs, h1, h2, h3⟩ := a
  exact ⟨rs, e.at n h1, h2, fun i r xs hr hx => e.at n (h3 i r xs hr hx)⟩
theorem Tape.butN {d : Addr} {H H' : Hp} {t u : Addr} (h : Tape H t u) (n : H d = none) (e : ButT d H H') : Tape H' t u := by
  obtain ⟨xs, i, b, s, c, h1, h2, h3⟩ := h
  exact ⟨xs, i, b, s, c, e.at n h1, e.at n h2, h3⟩
theorem ButT.upd {d : Addr} {H H' : Hp} {o : HO} (e : ButT d H H') (n : H d = none) (hd : ∃ xs, H' d = some (.lst xs)) : ButT d H (upd H' d o) := ⟨fun b v nb nt h => by rw [upd_ne nb]; exact e.keep b v nb nt h, fun P h => by
    obtain ⟨ps, hp, t⟩ := e.tab P h
    obtain ⟨xs, hd⟩ := hd
    exact ⟨ps, by rw [upd_ne (fun z => by rw [z, hd] at hp; cases hp)]; exact hp, t⟩, fun {b} nb h => by rw [upd_ne nb] at h; exact e.free nb h⟩
theorem cut_toA {L : List Nat} {k : Nat} : cutV (nvs L) none (some (k : Int)) = nvs (L.take k) := by
  by_cases h : k ≤ L.length
  · exact cut_to h
  · unfold cutV
    rw [HT.sIx_none, HT.sIx_nat, nvs_len, Nat.min_eq_right (by omega), List.drop_zero, Nat.sub_zero, List.take_of_length_le (by rw [nvs_len]; exact Nat.le_refl _), List.take_of_length_le (by omega)]
theorem Tape.neR {H : Hp} {t u l : Addr} {rs : List Addr} (h : Tape H t u) (hl : H l = some (.lst (rs.map V.ref))) : l ≠ t := fun e => by
  obtain ⟨xs, i, b, s, c, h1, _⟩ := h
  rw [← e, hl] at h1
  have h2 := HO.lst.inj (Option.some.inj h1)
  unfold tp at h2
  match rs, h2 with
  | [], h2 => cases h2
  | [_], h2 => simp at h2
  | _ :: _ :: _, h2 => simp at h2
theorem LN.but {t u : Addr} {H H' : Hp} {h : Addr} {xss : List (List Nat)} (a : LN H h xss) (hT : Tape H t u) (e : But t H H') : LN H' h xss := by
  obtain ⟨rs, h1, h2, h3⟩ := a
  exact ⟨rs, e _ _ (hT.neR h1) h1, h2, fun i r xs hr hx => e _ _ (hT.ne (h3 i r xs hr hx)) (h3 i r xs hr hx)⟩
/-! ### promises -/
def spOddMidE (K : PySem.W.Frag) (C D D2 : Addr) : Sp := fun vs H Q E => ∃ (s l : Addr) (ps : List Nat) (ns : List Int), vs = [.ref s, .ref l] ∧ ShapeAt K C H s ps ∧ SqE K H l (ns.map V.int) ∧ ns.length ≤ 100 ∧
  (∀ L H', ns = toI L → (∀ p, p ∈ L → p ≤ ps.length) → L.length % 2 = 1 → Same H H' → Q (.int (Tr.mid ps L ps.length : Nat)) H') ∧
  (∀ j p, BadAt ps.length ns j → ns[j]? = some p → Small p ∧ ∀ d, H d = none → E (.ref D) (some d) (upd H d (.xd [("position", .int p)]))) ∧
  ((∀ p, p ∈ ns → IsPos ps.length p) → ns.length % 2 = 0 → ∀ d, H d = none → E (.ref D2) (some d) (upd H d (.xd [("number", .int (ns.length : Nat))])))
def spTotal (K : PySem.W.Frag) (C D P : Addr) : Sp := fun vs H Q E => ∃ (s l : Addr) (ps : List Nat) (ns : List Int) (p : Int), vs = [.ref s, .ref l, .int p] ∧ ShapeAt K C H s ps ∧ SqE K H l (ns.map V.int) ∧ ns.length ≤ 100 ∧ TabG H P ∧
  (∀ L p' H', ns = toI L → (∀ p, p ∈ L → p ≤ ps.length) → p = ((p' : Nat) : Int) → p' ≤ ps.length → SameT H H' → Q (.int (Tr.tot ps L p' : Nat)) H') ∧
  (∀ j q, BadAt ps.length ns j → ns[j]? = some q → Small q ∧ ∀ d, H d = none → E (.ref D) (some d) (upd H d (.xd [("position", .int q)]))) ∧
  ((∀ q, q ∈ ns → IsPos ps.length q) → ¬ IsPos ps.length p → Small p ∧ ∀ d, H d = none → E (.ref D) (some d) (upd H d (.xd [("position", .int p)])))
def spDistances : Sp := fun vs H Q _ => ∃ (h : Addr) (ps : List Nat) (p : Nat), vs = [.ref h, .int p] ∧ Had H h ps ∧ ps.length ≤ 1000 ∧ p ≤ ps.length ∧ ∀ r H', Same H H' → H r = none → H' r = some (.lst (nvs (distL ps p))) → Q (.ref r) H'
def spTable (K : PySem.W.Frag) : Sp := fun vs H Q _ => ∃ (l : Addr) (ps : List Nat), vs = [.ref l] ∧ SqL K H l (nvs ps) ∧ Tr.Ok ps ∧ ps.length ≤ 1000 ∧ ∀ r H', Same H H' → H r = none → LN H' r (tabN ps) → Q (.ref r) H'
def spSum (K : PySem.W.Frag) : Sp := fun vs H Q _ => ∃ (d l : Addr) (ps L : List Nat) (p : Nat), vs = [.ref d, .ref l] ∧ H d = some (.lst (nvs (distL ps p))) ∧ SqL K H l (nvs L) ∧ L.length ≤ 100 ∧ (∀ x, x ∈ L → x ≤ ps.length) ∧ ∀ H', Same H H' → Q (.int (Tr.tot ps L p : Nat)) H'
def spPositions : Sp := fun vs H Q _ => ∃ (t u : Addr) (n m : Nat), vs = [.ref t, .int n, .int m] ∧ Tape H t u ∧ n ≤ 1000 ∧ m ≤ 100 ∧ ∀ l L H', L.length = m → (∀ x, x ∈ L → x ≤ n) → Tape H' t u → But t H H' → H l = none → H' l = some (.lst (nvs L)) → Q (.ref l) H'
def spMidTold (K : PySem.W.Frag) (C : Addr) : Sp := fun vs H Q _ => ∃ (s b l : Addr) (ps L : List Nat), vs = [.ref s, .ref b, .ref l] ∧ ShapeAt K C H s ps ∧ LN H b (tabN ps) ∧ SqE K H l (nvs L) ∧ L.length ≤ 100 ∧ L.length % 2 = 1 ∧ (∀ x, x ∈ L → x ≤ ps.length) ∧ ∀ H', Same H H' → Q (.bl true) H'
def spTotTold (K : PySem.W.Frag) (C P : Addr) : Sp := fun vs H Q _ => ∃ (s b l : Addr) (ps L : List Nat), vs = [.ref s, .ref b, .ref l] ∧ ShapeAt K C H s ps ∧ LN H b (tabN ps) ∧ SqE K H l (nvs L) ∧ L.length ≤ 100 ∧ (∀ x, x ∈ L → x ≤ ps.length) ∧ TabG H P ∧ ∀ H', SameT H H' → Q (.bl true) H'
def spBadRef (K : PySem.W.Frag) (C : Addr) : Sp := fun vs H Q _ => ∃ (s l : Addr) (ps : List Nat) (ns : List Int) (b : Int) (j : Nat), vs = [.ref s, .ref l, .int b] ∧ ShapeAt K C H s ps ∧ H l = some (.lst (ns.map V.int)) ∧ ns.length ≤ 100 ∧ BadAt ps.length ns j ∧ ns[j]? = some b ∧ Small b ∧ ∀ H', Same H H' → Q (.bl true) H'
def spEvenRef (K : PySem.W.Frag) (C : Addr) : Sp := fun vs H Q _ => ∃ (s l : Addr) (ps L : List Nat), vs = [.ref s, .ref l] ∧ ShapeAt K C H s ps ∧ H l = some (.lst (nvs L)) ∧ L.length ≤ 100 ∧ (∀ x, x ∈ L → x ≤ ps.length) ∧ L.length % 2 = 0 ∧ ∀ H', Same H H' → Q (.bl true) H'
def spTotRef (K : PySem.W.Frag) (C P : Addr) : Sp := fun vs H Q _ => ∃ (s l : Addr) (ps : List Nat) (ns : List Int) (p b : Int), vs = [.ref s, .ref l, .int p, .int b] ∧ ShapeAt K C H s ps ∧ H l = some (.lst (ns.map V.int)) ∧ ns.length ≤ 100 ∧ TabG H P ∧ Small b ∧
  ((∃ j, BadAt ps.length ns j ∧ ns[j]? = some b) ∨ ((∀ q, q ∈ ns → IsPos ps.length q) ∧ p = b ∧ ¬ IsPos ps.length b)) ∧ ∀ H', Same H H' → Q (.bl true) H'
def spRefAll (K : PySem.W.Frag) (C P : Addr) : Sp := fun vs H Q _ => ∃ (t u s l a : Addr) (ps L : List Nat), vs = [.ref t, .ref s, .ref l, .ref a] ∧ Tape H t u ∧ ShapeAt K C H s ps ∧ H l = some (.lst (nvs ps)) ∧ H a = some (.lst (nvs L)) ∧ L.length ≤ 90 ∧ L.length % 2 = 1 ∧ (∀ x, x ∈ L → x ≤ ps.length) ∧ TabG H P ∧ ∀ H', Tape H' t u → But t H H' → Q (.bl true) H'
def spLawT1 (K : PySem.W.Frag) (P : Addr) : Sp := fun vs H Q _ => ∃ (a : Addr) (ns : List Int), vs = [.ref a] ∧ SqL K H a (ns.map V.int) ∧ ns.length ≤ 63 ∧ TabG H P ∧ ∀ H', Q (.bl true) H'
end EP
namespace EP
open PySem L2
/-! ### sides that meet -/
theorem side_neg {n : Nat} {k : Int} (h : IsSide n k) : IsSide n (-k) := by unfold IsSide at h ⊢; omega
theorem hasS_opp {ps : List Nat} {n : Nat} {p k : Int} (h : IsSide n k) : hasS ps p (-k) = !hasS ps p k := by
  unfold IsSide at h
  unfold hasS
  by_cases c : 0 < k
  · rw [if_neg (by omega), if_pos c, show - -k = k by omega]
  · rw [if_pos (by omega), if_neg c]
    simp
theorem hasS_mid {ps : List Nat} {A B C : Nat} {k : Int} (hk : IsSide ps.length k) (h : (hasS ps (A : Int) k = true ∧ hasS ps (B : Int) k = true) ∨ (hasS ps (A : Int) k = true ∧ hasS ps (C : Int) k = true) ∨ (hasS ps (B : Int) k = true ∧ hasS ps (C : Int) k = true)) :
    hasS ps ((Tr.mid ps [A, B, C] ps.length : Nat) : Int) k = true := by
  unfold IsSide at hk
  have key : ∀ w, 1 ≤ w → w ≤ ps.length → Tr.has ps (Tr.mid ps [A, B, C] ps.length) w = decide (3 < 2 * ((if Tr.has ps A w = true then 1 else 0) + (if Tr.has ps B w = true then 1 else 0) + (if Tr.has ps C w = true then 1 else 0))) := fun w h1 h2 => by
    rw [Tr.mid_has h1 h2]
    unfold Tr.maj
    simp only [List.countP_cons, List.countP_nil, List.length_cons, List.length_nil]
    refine decide_eq_decide.mpr ?_
    omega
  unfold hasS at h ⊢
  simp only [Int.toNat_natCast] at h ⊢
  by_cases c : 0 < k
  · simp only [if_pos c] at h ⊢
    rw [key k.toNat (by omega) (by omega)]
    rcases h with ⟨a, b⟩ | ⟨a, b⟩ | ⟨a, b⟩ <;> simp [a, b] <;> split <;> omega
  · simp only [if_neg c] at h ⊢
    rw [key (-k).toNat (by omega) (by omega)]
    rcases h with ⟨a, b⟩ | ⟨a, b⟩ | ⟨a, b⟩ <;> simp only [Bool.not_eq_true'] at a b <;> simp [a, b] <;> split <;> omega
theorem helly {ps : List Nat} : ∀ (N : Nat) (ns : List Int), ns.length ≤ N → (∀ k, k ∈ ns → IsSide ps.length k) → (∀ a, a ∈ ns → ∀ b, b ∈ ns → ∃ p : Nat, p ≤ ps.length ∧ hasS ps (p : Int) a = true ∧ hasS ps (p : Int) b = true) →
    ∃ p : Nat, p ≤ ps.length ∧ ∀ k, k ∈ ns → hasS ps (p : Int) k = true
  | _, [], _, _, _ => ⟨0, Nat.zero_le _, fun k h => by cases h⟩
  | _, [a], _, _, h => by
    obtain ⟨p, hp, h1, _⟩ := h a List.mem_cons_self a List.mem_cons_self
    exact ⟨p, hp, fun k hk => by rw [List.mem_singleton.mp hk]; exact h1⟩
  | _, [a, b], _, _, h => by
    obtain ⟨p, hp, h1, h2⟩ := h a List.mem_cons_self b (List.mem_cons_of_mem _ List.mem_cons_self)
    refine ⟨p, hp, fun k hk => ?_⟩
    simp only [List.mem_cons, List.not_mem_nil, or_false] at hk
    rcases hk with rfl | rfl
    · exact h1
    · exact h2
  | 0, a :: b :: c :: r, hl, _, _ => absurd hl (by simp)
  | N + 1, a :: b :: c :: r, hl, hs, h => by
    have ih := fun (L : List Int) (hL : L.length = r.length + 2) (sub : ∀ k, k ∈ L → k ∈ a :: b :: c :: r) => helly N L (by simp only [List.length_cons] at hl; omega) (fun k hk => hs k (sub k hk)) (fun x hx y hy => h x (sub x hx) y (sub y hy))
    obtain ⟨A, hA, a1⟩ := ih (b :: c :: r) rfl (fun k hk => List.mem_cons_of_mem _ hk)
    obtain ⟨B, hB, b1⟩ := ih (a :: c :: r) rfl (fun k hk => by simp only [List.mem_cons] at hk ⊢; rcases hk with h | h | h <;> simp [h])
    obtain ⟨C, hC, c1⟩ := ih (a :: b :: r) rfl (fun k hk => by simp only [List.mem_cons] at hk ⊢; rcases hk with h | h | h <;> simp [h])
    refine ⟨Tr.mid ps [A, B, C] ps.length, Tr.mid_le _ _ _, fun k hk => hasS_mid (hs k hk) ?_⟩
    simp only [List.mem_cons] at hk
    rcases hk with rfl | rfl | rfl | hk
    · exact .inr (.inr ⟨b1 _ (by simp), c1 _ (by simp)⟩)
    · exact .inr (.inl ⟨a1 _ (by simp), c1 _ (by simp)⟩)
    · exact .inl ⟨a1 _ (by simp), b1 _ (by simp)⟩
    · exact .inl ⟨a1 _ (by simp [hk]), b1 _ (by simp [hk])⟩
/-- side a leads inside to side b -/
def insS (ps : List Nat) (a b : Int) : Bool := (List.range (ps.length + 1)).all fun p => !hasS ps (p : Int) a || hasS ps (p : Int) b
theorem insS_iff {ps : List Nat} {a b : Int} : insS ps a b = true ↔ ∀ p : Nat, p ≤ ps.length → hasS ps (p : Int) a = true → hasS ps (p : Int) b = true := by
  unfold insS
  rw [List.all_eq_true]
  constructor
  · intro h p hp ha
    have := h p (List.mem_range.mpr (by omega))
    rw [ha] at this
    simpa using this
  · intro h p hp
    have := h p (by have := List.mem_range.mp hp; omega)
    cases e : hasS ps (p : Int) a
    · rfl
    · rw [this e]; rfl
theorem bitAnd_nat (x y : Nat) : Builtin.bitAnd (x : Int) (y : Int) = ((x &&& y : Nat) : Int) := by
  have hx : (0 : Int) ≤ (x : Int) := by omega
  have hy : (0 : Int) ≤ (y : Int) := by omega
  simp [Builtin.bitAnd]
theorem and_ins {ps : List Nat} {a b : Int} {m m' : Nat} (h1 : ∀ p : Nat, p ≤ ps.length → m.testBit p = hasS ps (p : Int) a) (l1 : m < 2 ^ (ps.length + 1)) (h2 : ∀ p : Nat, p ≤ ps.length → m'.testBit p = hasS ps (p : Int) b) :
    decide (V.int (Builtin.bitAnd (m : Int) (m' : Int)) = V.int (m : Int)) = insS ps a b := by
  rw [bitAnd_nat, Bool.eq_iff_iff, decide_eq_true_iff, insS_iff]
  constructor
  · intro e p hp ha
    have e' : m &&& m' = m := by have := V.int.inj e; omega
    have : (m &&& m').testBit p = m.testBit p := by rw [e']
    rw [Nat.testBit_and, h1 p hp, h2 p hp, ha] at this
    simpa using this
  · intro h
    have : m &&& m' = m := by
      refine Nat.eq_of_testBit_eq fun i => ?_
      rw [Nat.testBit_and]
      by_cases hi : i ≤ ps.length
      · rw [h1 i hi, h2 i hi]
        cases e : hasS ps (i : Int) a
        · rfl
        · rw [h i hi e]; rfl
      · rw [Nat.testBit_lt_two_pow (Nat.lt_of_lt_of_le l1 (Nat.pow_le_pow_right (by decide) (by omega)))]
        rfl
    rw [this]
theorem side_some {ps : List Nat} {k : Int} (h : IsSide ps.length k) : ∃ p : Nat, p ≤ ps.length ∧ hasS ps (p : Int) k = true := by
  unfold IsSide at h
  unfold hasS
  by_cases c : 0 < k
  · refine ⟨k.toNat, by omega, ?_⟩
    rw [if_pos c, Int.toNat_natCast]
    unfold Tr.has
    rw [decide_eq_true_iff]
    exact Tr.up_self ps (by omega)
  · refine ⟨0, Nat.zero_le _, ?_⟩
    rw [if_neg c, Int.toNat_natCast]
    unfold Tr.has
    rw [Tr.up_zero]
    rfl
/-- the positions that have all the sides -/
def comL (ps : List Nat) (ns : List Int) : List Nat := (List.range (ps.length + 1)).filter fun p => ns.all fun k => hasS ps (p : Int) k
theorem mem_comL {ps : List Nat} {ns : List Int} {p : Nat} : p ∈ comL ps ns ↔ p ≤ ps.length ∧ ∀ k, k ∈ ns → hasS ps (p : Int) k = true := by
  unfold comL
  rw [List.mem_filter, List.all_eq_true, List.mem_range]
  exact ⟨fun h => ⟨by omega, h.2⟩, fun h => ⟨by omega, h.2⟩⟩
/-- the first item that is no side -/
def BadSd (n : Nat) (ns : List Int) (j : Nat) : Prop := (∃ p, ns[j]? = some p ∧ ¬ IsSide n p) ∧ ∀ i p, i < j → ns[i]? = some p → IsSide n p
theorem BadSd.uniq {n : Nat} {ns : List Int} {i j : Nat} (a : BadSd n ns i) (b : BadSd n ns j) : i = j := by
  obtain ⟨⟨p, hp, cp⟩, fp⟩ := a
  obtain ⟨⟨q, hq, cq⟩, fq⟩ := b
  by_cases h : i < j
  · exact absurd (fq i p h hp) cp
  · by_cases h2 : j < i
    · exact absurd (fp j q h2 hq) cq
    · omega
/-- no position has both -/
def ApartS (ps : List Nat) (a b : Int) : Prop := ∀ p : Nat, p ≤ ps.length → ¬ (hasS ps (p : Int) a = true ∧ hasS ps (p : Int) b = true)
/-! ### promises -/
def spInside (K : PySem.W.Frag) (C D : Addr) : Sp := fun vs H Q E => ∃ (s : Addr) (ps : List Nat) (a b : Int), vs = [.ref s, .int a, .int b] ∧ ShapeAt K C H s ps ∧ (IsSide ps.length a → IsSide ps.length b → Q (.bl (insS ps a b)) H) ∧
  (¬ IsSide ps.length a → Small a ∧ ∀ d, H d = none → E (.ref D) (some d) (upd H d (.xd [("side", .int a)]))) ∧ (IsSide ps.length a → ¬ IsSide ps.length b → Small b ∧ ∀ d, H d = none → E (.ref D) (some d) (upd H d (.xd [("side", .int b)])))
def spPosWith (K : PySem.W.Frag) (C P : Addr) : Sp := fun vs H Q _ => ∃ (s l : Addr) (ps : List Nat) (ns : List Int), vs = [.ref s, .ref l] ∧ ShapeAt K C H s ps ∧ SqE K H l (ns.map V.int) ∧ ns.length ≤ 100 ∧ (∀ k, k ∈ ns → IsSide ps.length k) ∧ TabG H P ∧
  ∀ r H', SameT H H' → H r = none → H' r = some (.lst (nvs (comL ps ns))) → Q (.ref r) H'
def spFirstApart (K : PySem.W.Frag) (C : Addr) : Sp := fun vs H Q _ => ∃ (s l : Addr) (ps : List Nat) (ns : List Int), vs = [.ref s, .ref l] ∧ ShapeAt K C H s ps ∧ SqE K H l (ns.map V.int) ∧ ns.length ≤ 100 ∧ (∀ k, k ∈ ns → IsSide ps.length k) ∧ comL ps ns = [] ∧
  ∀ r a b H', Same H H' → H' r = some (.tup [.int a, .int b]) → a ∈ ns → b ∈ ns → ApartS ps a b → Q (.ref r) H'
def spCommon (K : PySem.W.Frag) (C D P : Addr) : Sp := fun vs H Q E => ∃ (s l : Addr) (ps : List Nat) (ns : List Int), vs = [.ref s, .ref l] ∧ ShapeAt K C H s ps ∧ SqE K H l (ns.map V.int) ∧ ns.length ≤ 100 ∧ TabG H P ∧
  ((∀ k, k ∈ ns → IsSide ps.length k) → comL ps ns ≠ [] → ∀ r w H', SameT H H' → H w = none → H' r = some (.tup [.str "common", .ref w]) → H' w = some (.lst (nvs (comL ps ns))) → Q (.ref r) H') ∧
  ((∀ k, k ∈ ns → IsSide ps.length k) → comL ps ns = [] → ∀ r a b H', SameT H H' → H' r = some (.tup [.str "apart", .int a, .int b]) → a ∈ ns → b ∈ ns → ApartS ps a b → Q (.ref r) H') ∧
  (∀ j k, BadSd ps.length ns j → ns[j]? = some k → Small k ∧ ∀ d, H d = none → E (.ref D) (some d) (upd H d (.xd [("side", .int k)])))
theorem in_had {ps : List Nat} {p : Nat} {k : Int} (h : IsSide ps.length k) : inV (V.int k) (hadL ps p) = hasS ps (p : Int) k := by
  have key : inV (V.int k) (hadL ps p) = true ↔ hasS ps (p : Int) k = true := by
    unfold inV hadL
    rw [List.any_map, List.any_eq_true]
    unfold IsSide at h
    constructor
    · rintro ⟨i, hi, e⟩
      have hi' := List.mem_range.mp hi
      have e2 : Tr.side ps p (i + 1) = k := by
        have := of_decide_eq_true e
        first | exact (V.int.inj this) | exact (V.int.inj this).symm | exact this | exact this.symm
      unfold Tr.side at e2
      unfold hasS
      by_cases c : Tr.has ps p (i + 1) = true
      · rw [if_pos c] at e2
        rw [if_pos (by omega), Int.toNat_natCast, show k.toNat = i + 1 by omega]
        exact c
      · rw [if_neg c] at e2
        rw [if_neg (by omega), Int.toNat_natCast, show (-k).toNat = i + 1 by omega]
        simpa using c
    · intro e
      unfold hasS at e
      by_cases c : 0 < k
      · rw [if_pos c, Int.toNat_natCast] at e
        refine ⟨k.toNat - 1, List.mem_range.mpr (by omega), ?_⟩
        have : Tr.side ps p (k.toNat - 1 + 1) = k := by
          unfold Tr.side
          rw [show k.toNat - 1 + 1 = k.toNat by omega, if_pos e]
          omega
        refine decide_eq_true ?_
        show _ = _
        first | rw [this] | (show V.int _ = V.int _; rw [this])
      · rw [if_neg c, Int.toNat_natCast] at e
        refine ⟨(-k).toNat - 1, List.mem_range.mpr (by omega), ?_⟩
        have : Tr.side ps p ((-k).toNat - 1 + 1) = k := by
          unfold Tr.side
          rw [show (-k).toNat - 1 + 1 = (-k).toNat by omega, if_neg (by rw [Bool.not_eq_true'] at e; rw [e]; decide)]
          omega
        refine decide_eq_true ?_
        show _ = _
        first | rw [this] | (show V.int _ = V.int _; rw [this])
  cases a : inV (V.int k) (hadL ps p) <;> cases b : hasS ps (p : Int) k
  · rfl
  · rw [key.mpr b] at a; cases a
  · rw [key.mp a] at b; cases b
  · rfl
theorem side_is {ps : List Nat} {p k : Nat} (h : k < ps.length) : IsSide ps.length (Tr.side ps p (k + 1)) := by
  unfold Tr.side IsSide
  split <;> omega
/-! ### promises of the law -/
def Sides (n : Nat) (ns : List Int) : Prop := ∀ k, k ∈ ns → IsSide n k
def spDrawnSide : Sp := fun vs H Q _ => ∃ (t u l : Addr) (ps : List Nat), vs = [.ref t, .ref l] ∧ Tape H t u ∧ H l = some (.lst (nvs ps)) ∧ 1 ≤ ps.length ∧ ps.length ≤ 1000 ∧ ∀ (k : Int) H', IsSide ps.length k → Tape H' t u → But t H H' → Q (.int k) H'
def spBadSide : Sp := fun vs H Q _ => ∃ (t u l : Addr) (ps : List Nat), vs = [.ref t, .ref l] ∧ Tape H t u ∧ H l = some (.lst (nvs ps)) ∧ ps.length ≤ 1000 ∧ ∀ (k : Int) H', ¬ IsSide ps.length k → Small k → Tape H' t u → But t H H' → Q (.int k) H'
def spSidesDrawn : Sp := fun vs H Q _ => ∃ (t u l h : Addr) (ps : List Nat), vs = [.ref t, .ref l, .ref h] ∧ Tape H t u ∧ H l = some (.lst (nvs ps)) ∧ Had H h ps ∧ 1 ≤ ps.length ∧ ps.length ≤ 1000 ∧ ∀ r ns H', Sides ps.length ns → ns.length ≤ 8 → Tape H' t u → But t H H' → H r = none → H' r = some (.lst (ns.map V.int)) → Q (.ref r) H'
def spHaveAll (K : PySem.W.Frag) : Sp := fun vs H Q _ => ∃ (h c : Addr) (ps : List Nat) (ns : List Int), vs = [.ref h, .ref c] ∧ Had H h ps ∧ ps.length ≤ 1000 ∧ SqL K H c (ns.map V.int) ∧ ns.length ≤ 100 ∧ Sides ps.length ns ∧ ∀ r H', Same H H' → H r = none → H' r = some (.lst (nvs (comL ps ns))) → Q (.ref r) H'
def spComTold (K : PySem.W.Frag) (C P : Addr) : Sp := fun vs H Q _ => ∃ (s h l : Addr) (ps : List Nat) (ns : List Int), vs = [.ref s, .ref h, .ref l] ∧ ShapeAt K C H s ps ∧ Had H h ps ∧ SqE K H l (ns.map V.int) ∧ ns.length ≤ 100 ∧ Sides ps.length ns ∧ TabG H P ∧ ∀ H', SameT H H' → Q (.bl true) H'
def spLInside : Sp := fun vs H Q _ => ∃ (h : Addr) (ps : List Nat) (a b : Int), vs = [.ref h, .int a, .int b] ∧ Had H h ps ∧ ps.length ≤ 1000 ∧ IsSide ps.length a ∧ IsSide ps.length b ∧ Q (.bl (insS ps a b)) H
def spInsideTold (K : PySem.W.Frag) (C : Addr) : Sp := fun vs H Q _ => ∃ (s h : Addr) (ps : List Nat) (a : Int), vs = [.ref s, .ref h, .int a] ∧ ShapeAt K C H s ps ∧ Had H h ps ∧ IsSide ps.length a ∧ ∀ H', Same H H' → Q (.bl true) H'
def spComRef (K : PySem.W.Frag) (C P : Addr) : Sp := fun vs H Q _ => ∃ (s l : Addr) (ps : List Nat) (ns : List Int) (b : Int) (j : Nat), vs = [.ref s, .ref l, .int b] ∧ ShapeAt K C H s ps ∧ H l = some (.lst (ns.map V.int)) ∧ ns.length ≤ 100 ∧ TabG H P ∧ BadSd ps.length ns j ∧ ns[j]? = some b ∧ Small b ∧ ∀ H', Same H H' → Q (.bl true) H'
def spInsRef (K : PySem.W.Frag) (C : Addr) : Sp := fun vs H Q _ => ∃ (s : Addr) (ps : List Nat) (a b z : Int), vs = [.ref s, .int a, .int b, .int z] ∧ ShapeAt K C H s ps ∧ Small z ∧ ((¬ IsSide ps.length a ∧ z = a) ∨ (IsSide ps.length a ∧ ¬ IsSide ps.length b ∧ z = b)) ∧ ∀ H', Same H H' → Q (.bl true) H'
def spRefAll5 (K : PySem.W.Frag) (C P : Addr) : Sp := fun vs H Q _ => ∃ (t u s l c : Addr) (ps : List Nat) (ns : List Int), vs = [.ref t, .ref s, .ref l, .ref c] ∧ Tape H t u ∧ ShapeAt K C H s ps ∧ H l = some (.lst (nvs ps)) ∧ H c = some (.lst (ns.map V.int)) ∧ ns.length ≤ 8 ∧ Sides ps.length ns ∧ TabG H P ∧ ∀ H', Tape H' t u → But t H H' → Q (.bl true) H'
theorem cutI_to {ns : List Int} {k : Nat} (h : k ≤ ns.length) : cutV (ns.map V.int) none (some (k : Int)) = (ns.take k).map V.int := by
  unfold cutV
  rw [HT.sIx_none, HT.sIx_nat, List.length_map, Nat.min_eq_left h, List.drop_zero, Nat.sub_zero, List.map_take]
theorem cutI_from {ns : List Int} {k : Nat} (h : k ≤ ns.length) : cutV (ns.map V.int) (some (k : Int)) none = (ns.drop k).map V.int := by
  unfold cutV
  rw [HT.sIx_none, HT.sIx_nat, List.length_map, Nat.min_eq_left h, List.take_of_length_le (by simp), List.map_drop]
theorem cutI_any (ns : List Int) (lo hi : Option Int) : ∃ M : List Int, cutV (ns.map V.int) lo hi = M.map V.int ∧ M.length ≤ ns.length ∧ ∀ x, x ∈ M → x ∈ ns := by
  unfold cutV
  refine ⟨(ns.drop (HT.sIx (ns.map V.int).length 0 lo)).take (HT.sIx (ns.map V.int).length (ns.map V.int).length hi - HT.sIx (ns.map V.int).length 0 lo), ?_, ?_, fun x hx => List.mem_of_mem_drop (List.mem_of_mem_take hx)⟩
  · rw [List.map_take, List.map_drop]
  · rw [List.length_take, List.length_drop]
    omega
theorem hadL_ints (ps : List Nat) (p : Nat) : hadL ps p = ((List.range ps.length).map fun k => Tr.side ps p (k + 1)).map V.int := by
  unfold hadL
  rw [List.map_map]
  rfl
theorem Had.but {H H' : Hp} {t u h : Addr} {ps : List Nat} (a : Had H h ps) (hT : Tape H t u) (e : But t H H') : Had H' h ps := by
  obtain ⟨rs, h1, h2, h3⟩ := a
  refine ⟨rs, e h _ (hT.neR h1) h1, h2, fun p r hr => ?_⟩
  have h4 := h3 p r hr
  exact e r _ (by rw [hadL_ints] at h4; exact hT.neI h4) h4
theorem badSd_ins {n k : Nat} {ns : List Int} {b : Int} (hk : k ≤ ns.length) (al : Sides n ns) (hb : ¬ IsSide n b) (tl : List Int) : BadSd n (ns.take k ++ [b] ++ tl) k ∧ (ns.take k ++ [b] ++ tl)[k]? = some b := by
  have lt : (ns.take k).length = k := by rw [List.length_take]; omega
  have e : (ns.take k ++ [b] ++ tl)[k]? = some b := by
    rw [List.append_assoc, List.getElem?_append_right (by omega), lt, Nat.sub_self]
    rfl
  refine ⟨⟨⟨b, e, hb⟩, fun i p hi hp => ?_⟩, e⟩
  rw [List.append_assoc, List.getElem?_append_left (by omega)] at hp
  exact al p (List.mem_of_mem_take (List.mem_of_getElem? hp))
theorem ints_app (a b : List Int) : a.map V.int ++ b.map V.int = (a ++ b).map V.int := by rw [List.map_append]
theorem sides_app {n : Nat} {a b : List Int} (h1 : Sides n a) (h2 : Sides n b) : Sides n (a ++ b) := fun k hk => (List.mem_append.mp hk).elim (h1 k) (h2 k)
theorem sides_one {n : Nat} {k : Int} (h : IsSide n k) : Sides n [k] := fun x hx => by rw [List.mem_singleton.mp hx]; exact h
theorem ints_flat (ns : List Int) : (ns.map V.int).all flatV = true := by
  rw [List.all_map, List.all_eq_true]
  intro x _
  rfl
theorem in_ints {ns : List Int} {a : Int} (h : a ∈ ns) : inV (V.int a) (ns.map V.int) = true := by
  unfold inV
  rw [List.any_map, List.any_eq_true]
  exact ⟨a, h, decide_eq_true rfl⟩
theorem comL_apart {ps : List Nat} {a b : Int} (h : ApartS ps a b) : comL ps [a, b] = [] := by
  rw [List.eq_nil_iff_forall_not_mem]
  intro p hp
  obtain ⟨h1, h2⟩ := mem_comL.mp hp
  exact h p h1 ⟨h2 a (by simp), h2 b (by simp)⟩
theorem badSd_third {n : Nat} {a b c : Int} (ha : IsSide n a) (hb : IsSide n b) (hc : ¬ IsSide n c) : BadSd n [a, b, c] 2 := by
  refine ⟨⟨c, rfl, hc⟩, fun i p hi hp => ?_⟩
  match i, hi, hp with
  | 0, _, hp => cases hp; exact ha
  | 1, _, hp => cases hp; exact hb
  | n + 2, hi, _ => omega
theorem Had.butN {d : Addr} {H H' : Hp} {h : Addr} {ps : List Nat} (a : Had H h ps) (n : H d = none) (e : ButT d H H') : Had H' h ps := by
  obtain ⟨rs, h1, h2, h3⟩ := a
  exact ⟨rs, e.at n h1, h2, fun p r hr => e.at n (h3 p r hr)⟩
theorem TabG.updL {H : Hp} {P d : Addr} {o : HO} {xs : List V} (h : TabG H P) (hd : H d = some (.lst xs)) : TabG (upd H d o) P := by
  obtain ⟨ps, hp, z⟩ := h
  exact ⟨ps, by rw [upd_ne (fun z => by rw [z, hd] at hp; cases hp)]; exact hp, z⟩
/-- what the law of this file keeps -/
structure LawW (K : PySem.W.Frag) (C P x y h1 h2 l c t u : Addr) (ps qs : List Nat) (ns : List Int) (H : Hp) : Prop where
  sx : ShapeAt K C H x ps
  sy : ShapeAt K C H y qs
  d1 : Had H h1 ps
  d2 : Had H h2 qs
  hl : H l = some (.lst (nvs ps))
  hc : H c = some (.lst (ns.map V.int))
  tb : TabG H P
  tp : Tape H t u
section
variable {K : PySem.W.Frag} {C P x y h1 h2 l c t u : Addr} {ps qs : List Nat} {ns : List Int} {H H' : Hp}
theorem LawW.sameT (w : LawW K C P x y h1 h2 l c t u ps qs ns H) (e : SameT H H') : LawW K C P x y h1 h2 l c t u ps qs ns H' :=
  ⟨w.sx.sameT e, w.sy.sameT e, w.d1.sameT e, w.d2.sameT e, e.lst w.hl, e.lst w.hc, e.tab _ w.tb, w.tp.sameT e⟩
theorem LawW.butN {d : Addr} (w : LawW K C P x y h1 h2 l c t u ps qs ns H) (n : H d = none) (e : ButT d H H') : LawW K C P x y h1 h2 l c t u ps qs ns H' :=
  ⟨w.sx.butN n e, w.sy.butN n e, w.d1.butN n e, w.d2.butN n e, e.at n w.hl, e.at n w.hc, e.tab _ w.tb, w.tp.butN n e⟩
theorem LawW.but (w : LawW K C P x y h1 h2 l c t u ps qs ns H) (k : But t H H') (hT : Tape H' t u) : LawW K C P x y h1 h2 l c t u ps qs ns H' :=
  ⟨w.sx.but w.tp k, w.sy.but w.tp k, w.d1.but w.tp k, w.d2.but w.tp k, k _ _ (w.tp.ne w.hl) w.hl, k _ _ (w.tp.neI w.hc) w.hc, (But.t k fun P hP => w.tp.noTab hP).tab _ w.tb, hT⟩
theorem Had.step {d h : Addr} {H2 : Hp} {o : HO} (a : Had H h ps) (hT : Tape H t u) (n : H d = none) (e : ButT d H H') (k : But t H' H2) : Had (upd H2 d o) h ps := by
  obtain ⟨rs, h1, h2, h3⟩ := a
  refine ⟨rs, ?_, h2, fun p r hr => ?_⟩
  · rw [upd_ne (ne_of_none h1 n)]
    exact k _ _ (hT.neR h1) (e.at n h1)
  · have h4 := h3 p r hr
    rw [upd_ne (ne_of_none h4 n)]
    exact k _ _ (by rw [hadL_ints] at h4; exact hT.neI h4) (e.at n h4)
theorem LawW.step {d : Addr} {H2 : Hp} {o : HO} {xs : List V} (w : LawW K C P x y h1 h2 l c t u ps qs ns H) (n : H d = none) (e : ButT d H H') (k : But t H' H2) (hT : Tape H2 t u) (hd : H2 d = some (.lst xs)) : LawW K C P x y h1 h2 l c t u ps qs ns (upd H2 d o) := by
  have w1 := w.butN n e
  refine ⟨(w1.sx.but w1.tp k).mut hd, (w1.sy.but w1.tp k).mut hd, w.d1.step w.tp n e k, w.d2.step w.tp n e k, ?_, ?_, ((But.t k fun P hP => w1.tp.noTab hP).tab _ w1.tb).updL hd, hT.upd (w.tp.ne_new n).symm (w.tp.ne_newu n).symm⟩
  · rw [upd_ne (ne_of_none w.hl n)]
    exact k _ _ (w1.tp.ne w1.hl) w1.hl
  · rw [upd_ne (ne_of_none w.hc n)]
    exact k _ _ (w1.tp.neI w1.hc) w1.hc
end
end EP
namespace Tr
/-! ### no two walls cross; ways and what lies between -/
theorem cross {ps : List Nat} {s s' t q r : Nat} (t1 : has ps t s = true) (t2 : has ps t s' = true) (q1 : has ps q s = false) (q2 : has ps q s' = true) (r1 : has ps r s = true) (r2 : has ps r s' = false) : False := by
  have T1 := has_iff.mp t1
  have T2 := has_iff.mp t2
  by_cases h : s ≤ s'
  · have := up_trans ps q (has_iff.mp q2) (up_cmp ps t T2 T1 h)
    rw [has_iff.mpr this] at q1
    cases q1
  · have := up_trans ps r (has_iff.mp r1) (up_cmp ps t T1 T2 (by omega))
    rw [has_iff.mpr this] at r2
    cases r2
theorem betw_has {ps : List Nat} {n p a b : Nat} : betw ps n p a b ↔ ∀ k, 1 ≤ k → k ≤ n → has ps a k = has ps b k → has ps p k = has ps a k := by
  unfold betw
  constructor
  · intro h k h1 h2 e
    exact (side_eq h1).mp (h k h1 h2 ((side_eq h1).mpr e))
  · intro h k h1 h2 e
    exact (side_eq h1).mpr (h k h1 h2 ((side_eq h1).mp e))
/-- four positions, two walls, all four quarters -/
theorem quarters {ps : List Nat} {s s' x a b p : Nat} (h1 : has ps a s = has ps x s) (h2 : has ps b s = !has ps x s) (h3 : has ps p s = !has ps x s) (h4 : has ps b s' = has ps x s') (h5 : has ps a s' = !has ps x s') (h6 : has ps p s' = !has ps x s') : False := by
  cases c : has ps x s <;> cases c' : has ps x s' <;> rw [c] at h1 h2 h3 <;> rw [c'] at h4 h5 h6 <;> simp only [Bool.not_true, Bool.not_false] at h1 h2 h3 h4 h5 h6
  · exact cross h3 h6 h1 h5 h2 h4
  · exact cross h2 h4 c c' h3 h6
  · exact cross h1 h5 h3 h6 c c'
  · exact cross c c' h2 h4 h1 h5
theorem betw_via {ps : List Nat} {n p a b : Nat} (h : betw ps n p a b) (x : Nat) : betw ps n p x a ∨ betw ps n p x b := by
  rw [betw_has] at h
  by_cases c : betw ps n p x a
  · exact .inl c
  by_cases d : betw ps n p x b
  · exact .inr d
  exfalso
  rw [betw_has] at c d
  have ex : ∀ {y : Nat}, ¬ (∀ k, 1 ≤ k → k ≤ n → has ps x k = has ps y k → has ps p k = has ps x k) → ∃ k, 1 ≤ k ∧ k ≤ n ∧ has ps x k = has ps y k ∧ has ps p k ≠ has ps x k := fun {y} hn => by
    refine Classical.byContradiction fun z => hn fun k h1 h2 h3 => ?_
    refine Classical.byContradiction fun w => z ⟨k, h1, h2, h3, w⟩
  obtain ⟨s, s1, s2, s3, s4⟩ := ex c
  obtain ⟨s', t1, t2, t3, t4⟩ := ex d
  have flip : ∀ {u v : Bool}, u ≠ v → u = !v := fun {u v} e => by cases u <;> cases v <;> first | rfl | exact absurd rfl e
  have p1 := flip s4
  have p2 := flip t4
  have b1 : has ps b s = !has ps x s := by
    refine flip fun e => s4 ?_
    rw [h s s1 s2 (by rw [← s3, e]), ← s3]
  have a1 : has ps a s' = !has ps x s' := by
    refine flip fun e => t4 ?_
    rw [h s' t1 t2 (by rw [e, t3]), e]
  exact quarters s3.symm b1 p1 t3.symm a1 p2
theorem betw_way {ps : List Nat} {n p a b : Nat} (ha : a ≤ n) (hb : b ≤ n) (hp : p ≤ n) : betw ps n p a b ↔ p ∈ way ps a b := by
  obtain ⟨A, B, m, ea, eb, nA, nB, _, _, _, e4⟩ := way_is (ps := ps) a b
  have mA : ∀ x, x ∈ ch ps a ↔ x ∈ A ∨ x ∈ ch ps m := fun x => by rw [ea, List.mem_append]
  have mB : ∀ x, x ∈ ch ps b ↔ x ∈ B ∨ x ∈ ch ps m := fun x => by rw [eb, List.mem_append]
  have z0 : ∀ y, 0 ∈ ch ps y := fun y => by unfold ch; simp
  have mm : ∀ y, y ∈ ch ps y := fun y => by obtain ⟨r, hr⟩ := ch_head ps y; rw [hr]; exact List.mem_cons_self
  have hw : p ∈ way ps a b ↔ p ∈ A ∨ p = m ∨ p ∈ B := by
    rw [e4]
    simp only [List.mem_append, List.mem_reverse, List.mem_singleton, or_assoc]
  rw [hw, betw_has]
  have fromSide : ∀ {a b : Nat}, p ∈ ch ps a → p ∉ ch ps b → ∀ k, 1 ≤ k → k ≤ n → has ps a k = has ps b k → has ps p k = has ps a k := fun {a b} h1 h2 k k1 _ e => by
    have p1 : 1 ≤ p := by
      cases hp0 : p with
      | zero => rw [hp0] at h2; exact absurd (z0 b) h2
      | succ r => omega
    have pa := (mem_ch p1).mp h1
    cases c : has ps a k with
    | true =>
      rw [c] at e
      have ka := has_iff.mp c
      have kb := has_iff.mp e.symm
      refine has_iff.mpr ?_
      by_cases l : k ≤ p
      · exact up_cmp ps a pa ka l
      · exact absurd ((mem_ch p1).mpr (up_trans ps b kb (up_cmp ps a ka pa (by omega)))) h2
    | false =>
      refine Bool.eq_false_iff.mpr fun c2 => ?_
      have := has_iff.mpr (up_trans ps a pa (has_iff.mp c2))
      rw [c] at this
      cases this
  constructor
  · intro h
    by_cases p0 : p = 0
    · refine .inr (.inl ?_)
      by_cases m0 : m = 0
      · rw [p0, m0]
      · have k1 : 1 ≤ m := by omega
        have ua := (mem_ch k1).mp ((mA m).mpr (.inr (mm m)))
        have ub := (mem_ch k1).mp ((mB m).mpr (.inr (mm m)))
        have hm := (up_le ps a ua).2
        have := h m k1 (by omega) (by rw [has_iff.mpr ua, has_iff.mpr ub])
        rw [has_iff.mpr ua, p0] at this
        have := has_iff.mp this
        rw [up_zero] at this
        cases this
    · have p1 : 1 ≤ p := by omega
      have one : p ∈ up ps a ∨ p ∈ up ps b := by
        refine Classical.byContradiction fun z => ?_
        have na : has ps a p = false := Bool.eq_false_iff.mpr fun c => z (.inl (has_iff.mp c))
        have nb : has ps b p = false := Bool.eq_false_iff.mpr fun c => z (.inr (has_iff.mp c))
        have := h p p1 hp (by rw [na, nb])
        rw [na, has_iff.mpr (up_self ps p1)] at this
        cases this
      have low : p ∈ ch ps m → p = m := fun hc => by
        refine Classical.byContradiction fun ne => ?_
        have pm := ch_le hc
        have k1 : 1 ≤ m := by omega
        have ua := (mem_ch k1).mp ((mA m).mpr (.inr (mm m)))
        have ub := (mem_ch k1).mp ((mB m).mpr (.inr (mm m)))
        have hm := (up_le ps a ua).2
        have := h m k1 (by omega) (by rw [has_iff.mpr ua, has_iff.mpr ub])
        rw [has_iff.mpr ua] at this
        have := (up_le ps p (has_iff.mp this)).2
        omega
      rcases one with h1 | h1
      · rcases (mA p).mp ((mem_ch p1).mpr h1) with h2 | h2
        · exact .inl h2
        · exact .inr (.inl (low h2))
      · rcases (mB p).mp ((mem_ch p1).mpr h1) with h2 | h2
        · exact .inr (.inr h2)
        · exact .inr (.inl (low h2))
  · rintro (h | rfl | h)
    · exact fromSide ((mA p).mpr (.inl h)) (nA p h)
    · intro k k1 _ e
      cases c : has ps a k with
      | true =>
        rw [c] at e
        have ka := (mem_ch k1).mpr (has_iff.mp c)
        have kb := (mem_ch k1).mpr (has_iff.mp e.symm)
        rcases (mA k).mp ka with h | h
        · exact absurd kb (nA k h)
        · exact has_iff.mpr ((mem_ch k1).mp h)
      | false =>
        refine Bool.eq_false_iff.mpr fun c2 => ?_
        have := has_iff.mpr ((mem_ch k1).mp ((mA k).mpr (.inr ((mem_ch k1).mpr (has_iff.mp c2)))))
        rw [c] at this
        cases this
    · intro k k1 k2 e
      rw [fromSide ((mB p).mpr (.inl h)) (nB p h) k k1 k2 e.symm, e]
/-- the neighbour of q towards x: they differ in one wall, which parts q and x -/
theorem toward {ps : List Nat} {q x : Nat} (ne : q ≠ x) : ∃ y s, 1 ≤ s ∧ (s ≤ q ∨ s ≤ x) ∧ has ps x s = !has ps q s ∧ has ps y s = !has ps q s ∧ ∀ k, k ≠ s → has ps y k = has ps q k := by
  have down : ∀ c, c ∈ up ps x → par ps c = q → ∃ y s, 1 ≤ s ∧ (s ≤ q ∨ s ≤ x) ∧ has ps x s = !has ps q s ∧ has ps y s = !has ps q s ∧ ∀ k, k ≠ s → has ps y k = has ps q k := fun c hc pc => by
    obtain ⟨c1, c2⟩ := up_le ps x hc
    have hl := par_lt ps c1
    have nq : has ps q c = false := Bool.eq_false_iff.mpr fun z => by
      have := (up_le ps q (has_iff.mp z)).2
      omega
    refine ⟨c, c, c1, .inr c2, by rw [nq, has_iff.mpr hc]; rfl, by rw [nq, has_iff.mpr (up_self ps c1)]; rfl, fun k hk => ?_⟩
    unfold has
    rw [up_pos ps c1, pc]
    refine decide_eq_decide.mpr ?_
    simp [hk]
  by_cases q0 : q = 0
  · rcases inB_root ps x with h | ⟨c, hc, pc, _⟩
    · exact absurd (by rw [q0, h]) ne
    · exact down c hc (by rw [pc, q0])
  have q1 : 1 ≤ q := by omega
  by_cases c : q ∈ up ps x
  · obtain ⟨d, hd, pd⟩ := child ps x c (fun e => ne e.symm)
    exact down d hd pd
  · have hl := par_lt ps q1
    have tq := has_iff.mpr (up_self ps q1)
    refine ⟨par ps q, q, q1, .inl (Nat.le_refl _), by rw [tq]; exact Bool.eq_false_iff.mpr fun z => c (has_iff.mp z), ?_, fun k hk => ?_⟩
    · rw [tq]
      refine Bool.eq_false_iff.mpr fun z => ?_
      have := (up_le ps _ (has_iff.mp z)).2
      omega
    · unfold has
      rw [up_pos ps q1]
      refine decide_eq_decide.mpr ?_
      simp [hk]
/-- a wall that parts q from all of L, if q is between no two of L -/
theorem gate {ps : List Nat} {n q x : Nat} {L : List Nat} (hx : x ∈ L) (hq : q ≤ n) (bd : ∀ a, a ∈ L → a ≤ n) (no : ∀ a, a ∈ L → ¬ betw ps n q x a) : ∃ s, 1 ≤ s ∧ s ≤ n ∧ ∀ a, a ∈ L → has ps a s = !has ps q s := by
  have ne : q ≠ x := fun e => no x hx (betw_has.mpr fun k _ _ _ => by rw [e])
  obtain ⟨y, s, s1, s2, sx, sy, same⟩ := toward (ps := ps) ne
  refine ⟨s, s1, by have := bd x hx; omega, fun a ha => ?_⟩
  have flip : ∀ {u v : Bool}, u ≠ v → u = !v := fun {u v} e => by cases u <;> cases v <;> first | rfl | exact absurd rfl e
  refine flip fun e => ?_
  refine no a ha (betw_has.mpr fun k k1 k2 ek => ?_)
  refine Classical.byContradiction fun nk => ?_
  have nk' := flip nk
  have ks : k ≠ s := fun e2 => by
    rw [e2] at ek
    rw [ek, e] at sx
    cases c : has ps q s <;> rw [c] at sx <;> cases sx
  have hy := same k ks
  have hnot : ∀ {u v : Bool}, u = !v → v = !u := fun {u v} e => by rw [e, Bool.not_not]
  exact quarters (x := x) (a := y) (b := a) (p := q) (s := s) (s' := k) (by rw [sy, sx]) (by rw [e]; exact hnot sx) (hnot sx) ek.symm (by rw [hy]; exact nk') nk'
end Tr
/-! own layer: {elt for t0 in i0 if .. for t1 in i1 if ..} of ints -/
namespace EP
open PySem PySem.Spec PyProof.Rows L2
abbrev SC (elt : Expr) (c0 c1 : Comprehension) (sc : Scope) (pos : Pos) : Expr := .SetComp elt [c0, c1] sc pos
abbrev Tsts (ifs : List Expr) (env : Env) : Sem Bool := forIn ifs true fun c r => if r = true then do let ok ← isTrue c env (eval c env); pure (ForInStep.yield ok) else pure (ForInStep.yield r)
section
variable {P : Program} {w : World} {A : Around} {R : Result → Shared → Prop} {s : Shared} {elt t0 i0 t1 i1 : Expr} {f0 f1 : List Expr} {sc : Scope} {pos : Pos} {it acc : Value} {env : Env}
/-- the outer loop; no run of the inner one ends in an error -/
theorem loopA (hs : ∀ x, foldedSetIterable i1 env x = pure x) (I : Nat → Shared → Prop)
    (turn : ∀ n s, I n s → wpAny (model P w) A (pyNext it) (fun r s1 => match r with
      | none => R (.ok .next) s1
      | some v => wpAny (model P w) A (letOwnedTupleGo t0 it v) (fun _ s2 => wpAny (model P w) A (assign t0 env v) (fun _ s3 => wpAny (model P w) A (Tsts f0 env) (fun ok s4 =>
          if ok = true then wpAny (model P w) A (eval i1 env) (fun x s5 => wpAny (model P w) A (pyIter x) (fun it1 s6 =>
            codeAny (model P w) A (.compStart (SC elt ⟨t0, i0, f0, 0⟩ ⟨t1, i1, f1, 0⟩ sc pos) 1 it1 acc env) (fun r s' => match r with | .ok _ => ∃ m, m < n ∧ I m s' | .error _ => False) s6) (fun _ _ => False) s5) (fun _ _ => False) s4
          else ∃ m, m < n ∧ I m s4) (fun _ _ => False) s3) (fun _ _ => False) s2) (fun _ _ => False) s1) (fun _ _ => False) s) (n : Nat) (h : I n s) :
    codeAny (model P w) A (.compLoop (SC elt ⟨t0, i0, f0, 0⟩ ⟨t1, i1, f1, 0⟩ sc pos) 0 it acc env) R s := by
  refine codeAny_loop rfl I (fun n s hI => ?_) n h
  show wpAny _ A ((compTurn (SC elt ⟨t0, i0, f0, 0⟩ ⟨t1, i1, f1, 0⟩ sc pos) 0 it acc env).onRaise (fun x => do noteFrame x env; theTreesLotGoes x)) _ _ s
  refine wpAny_noted ?_
  unfold compTurn
  dsimp only [List.getElem?_cons_zero, List.getElem?_cons_succ]
  simp only [bne_self_eq_false, Bool.false_eq_true, if_false]
  have F : ∀ {α : Type} {t : Sem α} {Q Q' : α → Shared → Prop} {E : Value → Shared → Prop} {s : Shared}, wpAny (model P w) A t Q (fun _ _ => False) s → (∀ a s, Q a s → Q' a s) → wpAny (model P w) A t Q' E s := fun h hQ => thnF h hQ
  refine wpAny_bind (wpAny_standAt (wpAny_bind (F (turn n s hI) fun r s1 h1 => ?_)))
  cases r with
  | none => exact wpAny_pure h1
  | some v =>
    refine wpAny_bind (F h1 fun _ s2 h2 => wpAny_bind (F h2 fun _ s3 h3 => wpAny_bind (F h3 fun ok s4 h4 => ?_)))
    cases ok with
    | false => exact wpAny_pure ⟨rfl, h4⟩
    | true =>
      refine wpAny_bind (F h4 fun x s5 h5 => wpAny_bind (wpAny_standAt (wpAny_bind (wpAny_of_eq (hs x) (wpAny_bind (wpAny_holding (F h5 fun it1 s6 h6 => ?_)))))))
      refine wpAny_bind (wpAny_runOwn ?_)
      rw [Around.mark_none]
      refine codeAny_mono h6 fun r s' hr => ?_
      cases r with
      | ok f =>
        first
          | exact wpAny_pure ⟨rfl, hr⟩
          | exact wpAny_bind (wpAny_pure (wpAny_pure ⟨rfl, hr⟩))
      | error e => exact hr.elim
/-- the inner loop -/
theorem loopB (I : Nat → Shared → Prop)
    (turn : ∀ n s, I n s → wpAny (model P w) A (pyNext it) (fun r s1 => match r with
      | none => R (.ok .next) s1
      | some v => wpAny (model P w) A (letOwnedTupleGo t1 it v) (fun _ s2 => wpAny (model P w) A (assign t1 env v) (fun _ s3 => wpAny (model P w) A (Tsts f1 env) (fun ok s4 =>
          if ok = true then wpAny (model P w) A (eval elt env) (fun x s5 => wpAny (model P w) A (call (.builtin "set.add") [acc, x]) (fun _ s6 => ∃ m, m < n ∧ I m s6) (fun _ _ => False) s5) (fun _ _ => False) s4
          else ∃ m, m < n ∧ I m s4) (fun _ _ => False) s3) (fun _ _ => False) s2) (fun _ _ => False) s1) (fun _ _ => False) s) (n : Nat) (h : I n s) :
    codeAny (model P w) A (.compLoop (SC elt ⟨t0, i0, f0, 0⟩ ⟨t1, i1, f1, 0⟩ sc pos) 1 it acc env) R s := by
  refine codeAny_loop rfl I (fun n s hI => ?_) n h
  show wpAny _ A ((compTurn (SC elt ⟨t0, i0, f0, 0⟩ ⟨t1, i1, f1, 0⟩ sc pos) 1 it acc env).onRaise (fun x => do noteFrame x env; theTreesLotGoes x)) _ _ s
  refine wpAny_noted ?_
  unfold compTurn
  dsimp only [List.getElem?_cons_zero, List.getElem?_cons_succ]
  simp only [bne_self_eq_false, Bool.false_eq_true, if_false]
  have F : ∀ {α : Type} {t : Sem α} {Q Q' : α → Shared → Prop} {E : Value → Shared → Prop} {s : Shared}, wpAny (model P w) A t Q (fun _ _ => False) s → (∀ a s, Q a s → Q' a s) → wpAny (model P w) A t Q' E s := fun h hQ => thnF h hQ
  refine wpAny_bind (wpAny_standAt (wpAny_bind (F (turn n s hI) fun r s1 h1 => ?_)))
  cases r with
  | none => exact wpAny_pure h1
  | some v =>
    refine wpAny_bind (F h1 fun _ s2 h2 => wpAny_bind (F h2 fun _ s3 h3 => wpAny_bind (F h3 fun ok s4 h4 => ?_)))
    cases ok with
    | false => exact wpAny_pure ⟨rfl, h4⟩
    | true => exact wpAny_bind (wpAny_bind (F h4 fun x s5 h5 => wpAny_bind (wpAny_standAt (wpAny_bind (F h5 fun _ s6 h6 => wpAny_pure (wpAny_pure ⟨rfl, h6⟩))))))
theorem startB (h0 : codeAny (model P w) A (.compLoop (SC elt ⟨t0, i0, f0, 0⟩ ⟨t1, i1, f1, 0⟩ sc pos) 1 it acc env) R s)
    (h : wpAny (model P w) A (pyIter it) (fun it' s' => codeAny (model P w) A (.compLoop (SC elt ⟨t0, i0, f0, 0⟩ ⟨t1, i1, f1, 0⟩ sc pos) 1 it' acc env) R s') (notedBy (model P w) A env fun x s' => R (.error x) s') s) :
    codeAny (model P w) A (.compStart (SC elt ⟨t0, i0, f0, 0⟩ ⟨t1, i1, f1, 0⟩ sc pos) 1 it acc env) R s := by
  refine codeAny_of_tree ?_
  show wpAny _ _ ((compStart (SC elt ⟨t0, i0, f0, 0⟩ ⟨t1, i1, f1, 0⟩ sc pos) 1 it acc env).onRaise (fun x => do noteFrame x env; standAt theWindowsPlace)) _ _ s
  refine wpAny_notedAt ?_
  unfold compStart
  show wpAny _ _ (ask >>= _) _ _ s
  refine wpAny_bind (wpAny_askSetting (wpAny_ite ?_))
  split
  · first
      | exact wpAny_bind (wpAny_pure (wpAny_pure (And.intro rfl h0)))
      | exact wpAny_pure (And.intro rfl h0)
  · first
      | exact wpAny_bind (wpAny_rule (wpAny_bind (wpAny_standAt (wpAny_bind (wpAny_mono h (fun it' s' h' => wpAny_pure (And.intro rfl h')) fun _ _ x => x)))))
      | (refine wpAny_bind (wpAny_rule ?_); show wpAny _ _ (standAt i1.pos >>= _) _ _ s; exact wpAny_bind (wpAny_standAt (wpAny_bind (wpAny_mono h (fun it' s' h' => wpAny_pure (And.intro rfl h')) fun _ _ x => x))))
end
section
variable {X : Cx}
/-- y goes into the set of ints at D -/
def Adds (w : World) (D : Addr) (y : V) (H : Hp) (N : Hp → Prop) : Prop := ∃ (k : Int) (S : Int → Bool) (n : Nat), y = .int k ∧ H D = some (SetO w D S n) ∧ n + 1 < scanBound ∧ N (upd H D (SetO w D (fun j => S j || decide (j = k)) (if S k = true then n else n + 1)))
theorem adds_ok {pins : List (Addr × Obj)} {σ : L2.St} {H : Hp} {s : Shared} {E : Value → Shared → Prop} {D : Addr} {y : V} {v : Value} {N : Hp → Prop} {Q : Value → Shared → Prop} (I : Inv X pins σ H s) (r : RelV y v) (h : Adds X.w D y H N)
    (q : ∀ H' s', Inv X pins σ H' s' → N H' → Q .none s') : wpAny (model X.prog X.w) X.A (call (.builtin "set.add") [.ref D, v]) Q E s := by
  obtain ⟨k, S, n, rfl, hD, room, nx⟩ := h
  obtain ⟨tk, rfl⟩ := r
  refine setR_add (setO_get I hD) room fun h' sb new => ?_
  obtain ⟨o, _, _, _, ho, _⟩ := id new
  exact q _ _ (I.write (e := D) (t' := s.toks + 1) (by rw [hD]; trivial) (.inl rfl) (fun b u hb hu => (sb.2 b hb).trans hu) ⟨o, ho⟩ (setO_new new)) nx
def tSc2 (w : World) (wi : TI) (g : TG) (tt : TT) (wi1 : TI) (g1 : TG) (tt1 : TT) (te : TE) (vs vs1 : List Nat) : TE := fun σ H Q => wi σ H fun J H1 => ∀ D, H1 D = none → ∃ W : Nat → Nat → Hp → Prop, (∃ m, W 0 m (upd H1 D (SetO w D (fun _ => false) 0))) ∧ ∀ i m H, W i m H →
  (J.stop i H ∧ Q (.ref D) H) ∨ (J.go i H ∧ ∃ Nx : Hp → Prop, (∀ H', Nx H' → ∃ m', m' < m ∧ W (i + 1) m' H') ∧ ∀ x H', J.yld i H x H' → g x (wipe σ vs) H' fun σ2 H2 => wipe σ2 vs = wipe σ vs ∧ tt σ2 H2 fun b H3 =>
    if b = true then wi1 σ2 H3 fun J1 H4 => ∃ W1 : Nat → Nat → Hp → Prop, (∃ m, W1 0 m H4) ∧ ∀ j k H, W1 j k H →
      (J1.stop j H ∧ Nx H) ∨ (J1.go j H ∧ ∃ Nx1 : Hp → Prop, (∀ H', Nx1 H' → ∃ k', k' < k ∧ W1 (j + 1) k' H') ∧ ∀ x H', J1.yld j H x H' → g1 x (wipe σ2 vs1) H' fun σ3 H5 => wipe σ3 vs1 = wipe σ2 vs1 ∧ tt1 σ3 H5 fun b H6 =>
        if b = true then te σ3 H6 fun y H7 => Adds w D y H7 Nx1 else Nx1 H6)
    else Nx H3)
/-- the objects of a loop's iterator stand by -/
abbrev Idle (fp : List Addr) (H : Hp) : Prop := ∀ b ∈ fp, H b = none
theorem idle_step {P : Program} {w : World} {K : PySem.W.Frag} {tg : Expr} {J : It} {fp : List Addr} {it : Addr} {tn : Nat → Heap → Prop} (T : Turn P w K tg J fp it tn) {Y : Cx} {pins : List (Addr × Obj)} {σ σ' : L2.St} {H : Hp} {s7 s' : Shared} {i : Nat}
    (I : Inv Y (pins ++ pinsAt fp s7.heap) σ' H s') (st : tn i s7.heap) (hl : σ.length = σ'.length) (hk : ∀ (j : Nat) v, σ[j]? = some (some v) → σ'[j]? = some (some v)) : Inv Y pins σ H s' ∧ tn i s'.heap ∧ Idle fp H := by
  have pin : ∀ b ∈ fp, ∀ o, s7.heap.get? b = some o → s'.heap.get? b = some o ∧ H b = none := fun b hb o e =>
    let z := I.pin (b, o) (List.mem_append_right _ (List.mem_append_right _ (mem_pinsAt hb e)))
    ⟨z.1, z.2.1⟩
  refine ⟨I.unpinned.weak hl hk, T.keep _ _ _ st fun b hb o e => (pin b hb o e).1, fun b hb => ?_⟩
  obtain ⟨o, e, _⟩ := T.obj _ _ st b hb
  exact (pin b hb o e).2
end
section
variable {X : Cx}
/-- a context of the block, whatever its start -/
abbrev Bx (X : Cx) (sc : Scope) (s : Shared) (H : Hp) (C : Addr) (cl : List (PySem.Str × Addr)) (fp : List Addr) : Cx := X.blk s H sc (compEnvC sc cl C X.env) fp
theorem sc2_core {pins : List (Addr × Obj)} {s : Shared} {σ : L2.St} {H : Hp} {Q : VK} {elt tg iter tg1 iter1 : Expr} {ifs ifs1 : List Expr} {sc : Scope} {own : List (PySem.Str × Nat)} {vs1 : List Nat} {pos pos' : Pos} {wi wi1 : TI} {g g1 : TG} {tt tt1 : TT} {te : TE} {Qf : Value → Shared → Prop}
    (hc : X.calm = true) (hN : X.N.Nodup) (I : Inv X pins σ H s) (hi : PI X tg iter wi) (ok : BlkOk X.N X.env.scope sc own) (hv : ∀ i ∈ vs1, i ∈ own.map (·.2))
    (hg : ∀ s H C cl fp, PG (Bx X sc s H C cl fp) tg g) (ht : ∀ s H C cl fp, PTs (Bx X sc s H C cl fp) ifs tt) (he : ∀ s H C cl fp, PE (Bx X sc s H C cl fp) elt te)
    (hi1 : ∀ s H C cl fp, PI (Bx X sc s H C cl fp) tg1 iter1 wi1) (hg1 : ∀ s H C cl fp, PG (Bx X sc s H C cl fp) tg1 g1) (ht1 : ∀ s H C cl fp, PTs (Bx X sc s H C cl fp) ifs1 tt1)
    (hs : ∀ x, foldedSetIterable iter X.env x = pure x) (hs1 : ∀ env x, foldedSetIterable iter1 env x = pure x)
    (h : tSc2 X.w wi g tt wi1 g1 tt1 te (own.map (·.2)) vs1 σ H Q)
    (fine : ∀ D C s' m H', Inv X pins σ H' s' → Q (.ref D) H' → s'.heap.Ns C m → FpOk X pins H' C → compPost (model X.prog X.w) X.A X.xe none Qf (.ref D) C (.ok .next) s') :
    wpAny (model X.prog X.w) X.A (comprehension (SC elt ⟨tg, iter, ifs, 0⟩ ⟨tg1, iter1, ifs1, 0⟩ sc pos) sc X.env pos' (newSet (.type "set")) false (eval iter X.env) none) Qf X.xe s := by
  refine wpAny_comprehension_free (use := none) rfl hs (closure_ok fun y hy e => (ok.free y hy e).elim (fun k => I.ok.has _ (.inl k)) fun k => I.ok.has _ (.inr k)) ok.kind (fun y hy e => by rw [ok.uniq y hy, e])
    (thn (hi.run pins s σ H _ I h) fun xv s1 hx => thn hx fun itv s2 h2 => ?_)
  obtain ⟨it, fp, tn, J, H2, rfl, I2, T, st2, f2, q⟩ := h2
  refine PpSet.newSet_ok (newEnv_comp ?_)
  generalize hD : s2.heap.objs.size = D
  obtain ⟨W, ⟨m0, w0⟩, turn⟩ := q D (I2.hok.fresh (Nat.le_of_eq hD))
  -- behind the new set
  generalize e3 : ({ s2 with heap := s2.heap.push { cls := .type "set", dict := none, data := .set #[] 0 (.fresh 0 0 (!X.w.params.followText "set-order")) } } : Shared) = s3
  have k3 : ∀ b o, s2.heap.get? b = some o → s3.heap.get? b = some o := fun b o e => by rw [← e3]; exact Heap.get?_push_of_some _ e
  have I3 : Inv X pins σ (upd H2 D (SetO X.w D (fun _ => false) 0)) s3 := by
    rw [← e3]
    refine I2.laid (t' := s2.toks) (fun b o e => Heap.get?_push_of_some _ e) (Nat.le_of_eq hD) ?_
    rw [← hD]
    exact setO_new (setR_fresh X.w)
  have z3 : s2.heap.objs.size < s3.heap.objs.size := by rw [← e3]; show _ < (Heap.push _ _).objs.size; rw [Heap.size_push]; exact Nat.lt_succ_self _
  have f3 : ∀ b ∈ fp, FpOk X pins (upd H2 D (SetO X.w D (fun _ => false) 0)) b ∧ b < s3.heap.objs.size := fun b hb => by
    obtain ⟨o, e, _⟩ := T.obj _ _ st2 b hb
    have lt := Heap.lt_size e
    exact ⟨⟨by rw [upd_ne (by rw [← hD]; exact Nat.ne_of_lt lt)]; exact (f2 b hb).1, (f2 b hb).2⟩, Nat.lt_trans lt z3⟩
  have st3 : tn 0 s3.heap := T.keep _ _ _ st2 fun b _ o e => k3 b o e
  have I4 := block_start I3 ok hN f3
  generalize upd H2 D (SetO X.w D (fun _ => false) 0) = H3 at I3 I4 w0 f3
  have eD : ({ s2 with heap := s2.heap.push { cls := .type "set", dict := none, data := .set #[] 0 (.fresh 0 0 (!X.w.params.followText "set-order")) } } : Shared) = s3 := e3
  show codeAny _ _ (.compStart (SC elt ⟨tg, iter, ifs, 0⟩ ⟨tg1, iter1, ifs1, 0⟩ sc pos) 0 (.ref it) (.ref D) (compEnvC sc (cellsFrom (s3.heap.objs.size + 1) sc.names (cloFrom X.env.cells sc.names [])) s3.heap.objs.size X.env)) (compPost (model X.prog X.w) X.A X.xe none Qf (.ref D) s3.heap.objs.size) { s3 with heap := pushCells (s3.heap.push { cls := .type "dict", data := .dict #[] }) sc.names }
  have pg := hg s3 H3 s3.heap.objs.size (cellsFrom (s3.heap.objs.size + 1) sc.names (cloFrom X.env.cells sc.names [])) fp
  have pt := ht s3 H3 s3.heap.objs.size (cellsFrom (s3.heap.objs.size + 1) sc.names (cloFrom X.env.cells sc.names [])) fp
  have pe := he s3 H3 s3.heap.objs.size (cellsFrom (s3.heap.objs.size + 1) sc.names (cloFrom X.env.cells sc.names [])) fp
  have pi1 := hi1 s3 H3 s3.heap.objs.size (cellsFrom (s3.heap.objs.size + 1) sc.names (cloFrom X.env.cells sc.names [])) fp
  have pg1 := hg1 s3 H3 s3.heap.objs.size (cellsFrom (s3.heap.objs.size + 1) sc.names (cloFrom X.env.cells sc.names [])) fp
  have pt1 := ht1 s3 H3 s3.heap.objs.size (cellsFrom (s3.heap.objs.size + 1) sc.names (cloFrom X.env.cells sc.names [])) fp
  unfold Bx at pg pt pe pi1 pg1 pt1
  generalize hce : compEnvC sc (cellsFrom (s3.heap.objs.size + 1) sc.names (cloFrom X.env.cells sc.names [])) s3.heap.objs.size X.env = ce at I4 pg pt pe pi1 pg1 pt1 ⊢
  have cL : ce.locals = s3.heap.objs.size := by rw [← hce]; rfl
  generalize e4 : ({ s3 with heap := pushCells (s3.heap.push { cls := .type "dict", data := .dict #[] }) sc.names } : Shared) = s4 at I4 ⊢
  have st4 : tn 0 s4.heap := T.keep _ _ _ st3 fun b _ o e => by rw [← e4]; exact pushCells_keeps _ _ _ _ (Heap.get?_push_of_some _ e)
  have idle : ∀ {σ' : L2.St} {H' : Hp} {s' : Shared}, Inv (X.blk s3 H3 sc ce fp) [] σ' H' s' → Idle fp H' → ∀ b ∈ fp, FpOk (X.blk s3 H3 sc ce fp) [] H' b := fun I' hn b hb =>
    ⟨hn b hb, (I'.ok.exf b hb).1, I'.ok.exfs b hb, .inl hb, fun x c e => (I'.ok.exf b hb).2 x c e, fun p hp => absurd (show p ∈ ([] : List (Addr × Obj)) ++ [] from hp) (by simp)⟩
  have outer : codeAny (model X.prog X.w) X.A (.compLoop (SC elt ⟨tg, iter, ifs, 0⟩ ⟨tg1, iter1, ifs1, 0⟩ sc pos) 0 (.ref it) (.ref D) ce) (compPost (model X.prog X.w) X.A X.xe none Qf (.ref D) s3.heap.objs.size) s4 := by
    refine loopA (hs1 ce) (fun n s' => ∃ i H', (Inv (X.blk s3 H3 sc ce fp) [] (wipe σ (own.map (·.2))) H' s' ∧ tn i s'.heap ∧ Idle fp H') ∧ W i n H') ?_ m0 ⟨0, H3, ⟨I4, st4, fun b hb => (f3 b hb).1.1⟩, w0⟩
    rintro n s5 ⟨i, H5, ⟨I5, st5, n5⟩, w5⟩
    rcases turn i n H5 w5 with ⟨stop, qq⟩ | ⟨go, Nx, hNx, step⟩
    · refine thnF (T.done (X.blk s3 H3 sc ce fp) rfl rfl rfl hc i [] s5 _ H5 (fun _ _ => False) I5 (idle I5 n5) st5 stop) fun r s6 ⟨hr, I6⟩ => ?_
      subst hr
      have I7 : Inv X pins σ H5 s6 := I3.call' (ch := fp) I6.os I6.base I6.hok I6.bare fun b hb => let z := (f3 b hb).1; ⟨z.2.2.2.1, z.2.1, z.2.2.2.2.1, z.2.2.2.2.2⟩
      have free : H5 ce.locals = none := I6.free
      obtain ⟨m, hm, _⟩ := I6.loc
      have hm : s6.heap.Ns ce.locals m := hm
      rw [cL] at hm free
      exact fine D s3.heap.objs.size s6 m H5 I7 qq hm (I3.fpOk (Nat.le_refl _) free)
    refine thnF (T.item (X.blk s3 H3 sc ce fp) rfl rfl rfl hc i [] s5 _ H5 (fun _ _ => False) I5 (idle I5 n5) st5 go) fun r s6 ⟨u, hr, h6⟩ => ?_
    subst hr
    refine thnF h6 fun _ s7 ⟨x, H7, I7, r7, y7, st7, n7⟩ => ?_
    have J7 := I7.pinned (idle I7 n7) (T.obj _ _ st7)
    refine thnF (pg.run _ s7 _ H7 x u _ J7 r7 (step x H7 y7)) fun _ s8 ⟨σ8, H8, I8, hw8, q8⟩ => ?_
    refine thnF (pt.run _ s8 σ8 H8 _ I8 q8) fun b s9 ⟨H9, I9, q9⟩ => ?_
    have known : ∀ (j : Nat) v, (wipe σ (own.map (·.2)))[j]? = some (some v) → σ8[j]? = some (some v) ∧ j ∉ own.map (·.2) := fun j v e => by
      rw [← hw8] at e
      exact wipe_some e
    have len8 : (wipe σ (own.map (·.2))).length = σ8.length := by rw [← hw8, wipe_length]
    have ends : ∀ {σ9 : L2.St} {s' : Shared} {H' : Hp}, Inv (X.blk s3 H3 sc ce fp) ([] ++ pinsAt fp s7.heap) σ9 H' s' → (wipe σ (own.map (·.2))).length = σ9.length → (∀ (j : Nat) v, (wipe σ (own.map (·.2)))[j]? = some (some v) → σ9[j]? = some (some v)) → Nx H' →
        ∃ m, m < n ∧ ∃ i H', (Inv (X.blk s3 H3 sc ce fp) [] (wipe σ (own.map (·.2))) H' s' ∧ tn i s'.heap ∧ Idle fp H') ∧ W i m H' := fun {σ9 s' H'} I' hl hk nx => by
      obtain ⟨m', hm, w'⟩ := hNx H' nx
      exact ⟨m', hm, i + 1, H', idle_step T I' st7 hl hk, w'⟩
    cases b with
    | false =>
      simp only [Bool.false_eq_true, if_false] at q9 ⊢
      exact ends I9 len8 (fun j v e => (known j v e).1) q9
    | true =>
      simp only [if_true] at q9 ⊢
      refine thnF (pi1.run _ s9 σ8 H9 _ I9 q9) fun xv s10 hx => thnF hx fun itv s11 h11 => ?_
      obtain ⟨it1, fp1, tn1, J1, H11, rfl, I11, T1, st11, f11, W1, ⟨m1, w1⟩, turn1⟩ := h11
      have idle1 : ∀ {H' : Hp}, Idle fp1 H' → ∀ b ∈ fp1, FpOk (X.blk s3 H3 sc ce fp) ([] ++ pinsAt fp s7.heap) H' b := fun hn b hb => ⟨hn b hb, (f11 b hb).2⟩
      have inner : codeAny (model X.prog X.w) X.A (.compLoop (SC elt ⟨tg, iter, ifs, 0⟩ ⟨tg1, iter1, ifs1, 0⟩ sc pos) 1 (.ref it1) (.ref D) ce)
          (fun r s' => match r with
            | .ok _ => ∃ m, m < n ∧ ∃ i H', (Inv (X.blk s3 H3 sc ce fp) [] (wipe σ (own.map (·.2))) H' s' ∧ tn i s'.heap ∧ Idle fp H') ∧ W i m H'
            | .error _ => False) s11 := by
        refine loopB (fun k s' => ∃ j H', (Inv (X.blk s3 H3 sc ce fp) ([] ++ pinsAt fp s7.heap) (wipe σ8 vs1) H' s' ∧ tn1 j s'.heap ∧ Idle fp1 H') ∧ W1 j k H') ?_ m1 ⟨0, H11, ⟨I11.weak (wipe_length _ _) (fun j v e => (wipe_some e).1), st11, fun b hb => (f11 b hb).1⟩, w1⟩
        rintro k s12 ⟨j, H12, ⟨I12, st12, n12⟩, w12⟩
        rcases turn1 j k H12 w12 with ⟨stop1, nx1⟩ | ⟨go1, Nx1, hNx1, step1⟩
        · refine thnF (T1.done (X.blk s3 H3 sc ce fp) rfl rfl rfl hc j _ s12 (wipe σ8 vs1) H12 (fun _ _ => False) I12 (idle1 n12) st12 stop1) fun r s13 ⟨hr, I13⟩ => ?_
          subst hr
          refine ends I13 (len8.trans (wipe_length σ8 vs1).symm) (fun j v e => ?_) nx1
          obtain ⟨e1, e2⟩ := known j v e
          rw [wipe_out fun z => e2 (hv j z)]
          exact e1
        refine thnF (T1.item (X.blk s3 H3 sc ce fp) rfl rfl rfl hc j _ s12 (wipe σ8 vs1) H12 (fun _ _ => False) I12 (idle1 n12) st12 go1) fun r s13 ⟨u1, hr, h13⟩ => ?_
        subst hr
        refine thnF h13 fun _ s14 ⟨x1, H14, I14, r14, y14, st14, n14⟩ => ?_
        have J14 := I14.pinned (idle1 n14) (T1.obj _ _ st14)
        refine thnF (pg1.run _ s14 (wipe σ8 vs1) H14 x1 u1 _ J14 r14 (step1 x1 H14 y14)) fun _ s15 ⟨σ15, H15, I15, hw15, q15⟩ => ?_
        refine thnF (pt1.run _ s15 σ15 H15 _ I15 q15) fun b1 s16 ⟨H16, I16, q16⟩ => ?_
        have ends1 : ∀ {s' : Shared} {H' : Hp}, Inv (X.blk s3 H3 sc ce fp) (([] ++ pinsAt fp s7.heap) ++ pinsAt fp1 s14.heap) σ15 H' s' → Nx1 H' → ∃ m, m < k ∧ ∃ j H', (Inv (X.blk s3 H3 sc ce fp) ([] ++ pinsAt fp s7.heap) (wipe σ8 vs1) H' s' ∧ tn1 j s'.heap ∧ Idle fp1 H') ∧ W1 j m H' := fun {s' H'} I' nx => by
          obtain ⟨m', hm, w'⟩ := hNx1 H' nx
          exact ⟨m', hm, j + 1, H', idle_step T1 I' st14 (by rw [← hw15, wipe_length]) (fun j v e => by rw [← hw15] at e; exact (wipe_some e).1), w'⟩
        cases b1 with
        | false =>
          simp only [Bool.false_eq_true, if_false] at q16 ⊢
          exact ends1 I16 q16
        | true =>
          simp only [if_true] at q16 ⊢
          refine thnF (pe.run _ s16 σ15 H16 _ I16 q16) fun z s17 ⟨yv, H17, I17, r17, ad⟩ => ?_
          exact adds_ok (X := X.blk s3 H3 sc ce fp) I17 r17 ad fun _ _ I18 nx => ends1 I18 nx
      exact startB inner (T1.self X.A 0 _ _ _ st11 inner)
  exact PpSet.codeAny_compStart_set outer (T.self X.A 0 _ _ _ st4 outer)
theorem pe_sc2 {elt tg iter tg1 iter1 : Expr} {ifs ifs1 : List Expr} {sc : Scope} {own : List (PySem.Str × Nat)} {vs1 : List Nat} {pos : Pos} {wi wi1 : TI} {g g1 : TG} {tt tt1 : TT} {te : TE} (hc : X.calm = true) (hN : X.N.Nodup) (hi : PI X tg iter wi) (ok : BlkOk X.N X.env.scope sc own) (hv : ∀ i ∈ vs1, i ∈ own.map (·.2))
    (hg : ∀ s H C cl fp, PG (Bx X sc s H C cl fp) tg g) (ht : ∀ s H C cl fp, PTs (Bx X sc s H C cl fp) ifs tt)
    (hi1 : ∀ s H C cl fp, PI (Bx X sc s H C cl fp) tg1 iter1 wi1) (hg1 : ∀ s H C cl fp, PG (Bx X sc s H C cl fp) tg1 g1) (ht1 : ∀ s H C cl fp, PTs (Bx X sc s H C cl fp) ifs1 tt1)
    (he : ∀ s H C cl fp, PE (Bx X sc s H C cl fp) elt te) (hs : ∀ x, foldedSetIterable iter X.env x = pure x := by intro _; rfl) (hs1 : ∀ env x, foldedSetIterable iter1 env x = pure x := by intro _ _; rfl) :
    PE X (SC elt ⟨tg, iter, ifs, 0⟩ ⟨tg1, iter1, ifs1, 0⟩ sc pos) (tSc2 X.w wi g tt wi1 g1 tt1 te (own.map (·.2)) vs1) := by
  refine ⟨fun pins s σ H Q I h => ?_⟩
  rw [PpSet.eval_SetComp]
  refine sc2_core hc hN I hi ok hv hg ht he hi1 hg1 ht1 hs hs1 h fun D C s' m H' I' q hn f => ⟨m, hn, fun h'' sb => ?_⟩
  obtain ⟨f0, f1, f2, f3, f4, f5⟩ := f
  exact ⟨.ref D, H', I'.turned (t' := s'.toks) (fun b o hb e => (sb.2 b hb).trans e) f0 f1 f3 f4 f5, rfl, q⟩
end
/-- an item of a list or a tuple -/
def rIxE (K : PySem.W.Frag) : R2 := fun x y H Q => ∃ p xs i v, x = .ref p ∧ y = .int i ∧ SqE K H p xs ∧ atI xs i = some v ∧ Q v H
theorem ix_seq {X : Cx} : IxR X (rIxE X.K) := by
  intro value slice pins s σ H x y v u Q I rx ry h hs
  obtain ⟨p, xs, i, w, e1, e2, hq, hat, q⟩ := h
  rcases hq with hq | hq
  · exact ix_list value slice pins s σ H x y v u Q I rx ry ⟨p, xs, i, w, e1, e2, hq, hat, q⟩ hs
  · exact ix_tup value slice pins s σ H x y v u Q I rx ry ⟨p, xs, i, w, e1, e2, hq, hat, q⟩ hs
theorem ix_seqK {X : Cx} {K : PySem.W.Frag} (h : X.K = K := by rfl) : IxR X (rIxE K) := h ▸ ix_seq
end EP
namespace EP
open PySem L2
/-! ### spans and fences -/
theorem incr_eq : ∀ {l r : List Nat}, l.Pairwise (· < ·) → r.Pairwise (· < ·) → (∀ x, x ∈ l ↔ x ∈ r) → l = r
  | [], [], _, _, _ => rfl
  | [], b :: r, _, _, h => absurd ((h b).mpr List.mem_cons_self) (by simp)
  | a :: l, [], _, _, h => absurd ((h a).mp List.mem_cons_self) (by simp)
  | a :: l, b :: r, hl, hr, h => by
    obtain ⟨l1, l2⟩ := List.pairwise_cons.mp hl
    obtain ⟨r1, r2⟩ := List.pairwise_cons.mp hr
    have e : a = b := by
      rcases List.mem_cons.mp ((h a).mp List.mem_cons_self) with e | e
      · exact e
      rcases List.mem_cons.mp ((h b).mpr List.mem_cons_self) with e' | e'
      · exact e'.symm
      have := r1 a e
      have := l1 b e'
      omega
    subst e
    rw [incr_eq l2 r2 fun x => ?_]
    constructor
    · intro hx
      rcases List.mem_cons.mp ((h x).mp (List.mem_cons_of_mem _ hx)) with e | e
      · have := l1 x hx
        omega
      · exact e
    · intro hx
      rcases List.mem_cons.mp ((h x).mpr (List.mem_cons_of_mem _ hx)) with e | e
      · have := r1 x hx
        omega
      · exact e
def spn (ps : List Nat) (L : List Nat) : List Nat := (List.range (ps.length + 1)).filter fun p => L.any fun a => L.any fun b => decide (p ∈ Tr.way ps a b)
theorem mem_spn {ps L : List Nat} {p : Nat} (bd : ∀ x, x ∈ L → x ≤ ps.length) : p ∈ spn ps L ↔ p ≤ ps.length ∧ ∃ a, a ∈ L ∧ ∃ b, b ∈ L ∧ Tr.betw ps ps.length p a b := by
  unfold spn
  rw [List.mem_filter, List.mem_range, List.any_eq_true]
  constructor
  · rintro ⟨h1, a, ha, h2⟩
    obtain ⟨b, hb, h3⟩ := List.any_eq_true.mp h2
    exact ⟨by omega, a, ha, b, hb, (Tr.betw_way (bd a ha) (bd b hb) (by omega)).mpr (of_decide_eq_true h3)⟩
  · rintro ⟨h1, a, ha, b, hb, h2⟩
    exact ⟨by omega, a, ha, List.any_eq_true.mpr ⟨b, hb, decide_eq_true ((Tr.betw_way (bd a ha) (bd b hb) h1).mp h2)⟩⟩
theorem spn_from {ps L : List Nat} {p x : Nat} (bd : ∀ x, x ∈ L → x ≤ ps.length) (hx : x ∈ L) : p ∈ spn ps L ↔ ∃ b, b ∈ L ∧ p ∈ Tr.way ps x b := by
  rw [mem_spn bd]
  constructor
  · rintro ⟨h1, a, ha, b, hb, h2⟩
    rcases Tr.betw_via h2 x with h | h
    · exact ⟨a, ha, (Tr.betw_way (bd x hx) (bd a ha) h1).mp h⟩
    · exact ⟨b, hb, (Tr.betw_way (bd x hx) (bd b hb) h1).mp h⟩
  · rintro ⟨b, hb, h⟩
    have h1 := Tr.way_le (bd x hx) (bd b hb) h
    exact ⟨h1, x, hx, b, hb, (Tr.betw_way (bd x hx) (bd b hb) h1).mpr h⟩
theorem betw_self {ps : List Nat} {n p a : Nat} : Tr.betw ps n p p a := Tr.betw_has.mpr fun _ _ _ _ => rfl
theorem spn_sub {ps L : List Nat} {x : Nat} (bd : ∀ x, x ∈ L → x ≤ ps.length) (hx : x ∈ L) : x ∈ spn ps L := (mem_spn bd).mpr ⟨bd x hx, x, hx, x, hx, betw_self⟩
theorem spn_le {ps L : List Nat} {p : Nat} (h : p ∈ spn ps L) : p ≤ ps.length := by
  unfold spn at h
  have := List.mem_range.mp (List.mem_filter.mp h).1
  omega
theorem spn_incr (ps L : List Nat) : (spn ps L).Pairwise (· < ·) := List.Pairwise.filter _ List.pairwise_lt_range
/-- the least and all of it: a rising list with the members of the ways -/
theorem spn_is {ps L N : List Nat} {x : Nat} (bd : ∀ x, x ∈ L → x ≤ ps.length) (hx : x ∈ L) (inc : N.Pairwise (· < ·)) (mem : ∀ p, p ∈ N ↔ ∃ b, b ∈ L ∧ p ∈ Tr.way ps x b) : N = spn ps L :=
  incr_eq inc (spn_incr ps L) fun p => (mem p).trans (spn_from bd hx).symm
/-! sides that all have -/
theorem betw_side {ps : List Nat} {p a b : Nat} {k : Int} (hk : IsSide ps.length k) (h : Tr.betw ps ps.length p a b) (ha : hasS ps (a : Int) k = true) (hb : hasS ps (b : Int) k = true) : hasS ps (p : Int) k = true := by
  have h := Tr.betw_has.mp h
  unfold IsSide at hk
  unfold hasS at ha hb ⊢
  simp only [Int.toNat_natCast] at ha hb ⊢
  by_cases c : 0 < k
  · simp only [if_pos c] at ha hb ⊢
    rw [h k.toNat (by omega) (by omega) (by rw [ha, hb])]
    exact ha
  · simp only [if_neg c] at ha hb ⊢
    rw [h (-k).toNat (by omega) (by omega) (by rw [← Bool.not_inj_iff, ha, hb])]
    exact ha
def shB (ps L : List Nat) (k : Int) : Bool := L.all fun a => hasS ps (a : Int) k
theorem shB_spn {ps L : List Nat} {k : Int} (bd : ∀ x, x ∈ L → x ≤ ps.length) (hk : IsSide ps.length k) : shB ps (spn ps L) k = shB ps L k := by
  unfold shB
  rw [Bool.eq_iff_iff, List.all_eq_true, List.all_eq_true]
  constructor
  · exact fun h a ha => h a (spn_sub bd ha)
  · intro h p hp
    obtain ⟨_, a, ha, b, hb, e⟩ := (mem_spn bd).mp hp
    exact betw_side hk e (h a ha) (h b hb)
/-- a position off the span lacks a side that all have -/
theorem off_spn {ps L : List Nat} {q : Nat} (bd : ∀ x, x ∈ L → x ≤ ps.length) (ne : L ≠ []) (hq : q ≤ ps.length) (no : q ∉ spn ps L) : ∃ k, IsSide ps.length k ∧ shB ps L k = true ∧ hasS ps (q : Int) k = false := by
  obtain ⟨x, hx⟩ : ∃ x, x ∈ L := by
    cases L with
    | nil => exact absurd rfl ne
    | cons x r => exact ⟨x, List.mem_cons_self⟩
  obtain ⟨s, s1, s2, h⟩ := Tr.gate hx hq bd fun a ha e => no ((mem_spn bd).mpr ⟨hq, x, hx, a, ha, e⟩)
  have pos : ∀ p : Nat, hasS ps (p : Int) (s : Int) = Tr.has ps p s := fun p => by
    unfold hasS
    rw [if_pos (by omega), Int.toNat_natCast, Int.toNat_natCast]
  have neg : ∀ p : Nat, hasS ps (p : Int) (-(s : Int)) = !Tr.has ps p s := fun p => by
    rw [hasS_opp (n := ps.length) (by unfold IsSide; omega), pos]
  unfold shB
  cases c : Tr.has ps q s
  · refine ⟨(s : Int), by unfold IsSide; omega, List.all_eq_true.mpr fun a ha => ?_, by rw [pos, c]⟩
    rw [pos, h a ha, c]
    rfl
  · refine ⟨-(s : Int), by unfold IsSide; omega, List.all_eq_true.mpr fun a ha => ?_, by rw [neg, c]; rfl⟩
    rw [neg, h a ha, c]
    rfl
/-- two sides of the same positions are one -/
theorem side_uniq {ps : List Nat} {k j : Int} (hk : IsSide ps.length k) (hj : IsSide ps.length j) (h : ∀ p : Nat, p ≤ ps.length → hasS ps (p : Int) k = hasS ps (p : Int) j) : k = j := by
  unfold IsSide at hk hj
  have root : ∀ w, Tr.has ps 0 w = false := fun w => by
    unfold Tr.has
    rw [Tr.up_zero]
    rfl
  have key : ∀ {a b : Nat}, 1 ≤ a → a ≤ ps.length → (∀ p : Nat, p ≤ ps.length → Tr.has ps p a = Tr.has ps p b) → b ≤ a := fun {a b} a1 a2 e => by
    have := e a a2
    rw [Tr.has_iff.mpr (Tr.up_self ps a1)] at this
    exact (Tr.up_le ps a (Tr.has_iff.mp this.symm)).2
  have h0 := h 0 (Nat.zero_le _)
  unfold hasS at h h0
  simp only [Int.toNat_natCast] at h
  by_cases c : 0 < k <;> by_cases d : 0 < j
  · simp only [if_pos c, if_pos d] at h
    have := key (a := k.toNat) (b := j.toNat) (by omega) (by omega) h
    have := key (a := j.toNat) (b := k.toNat) (by omega) (by omega) fun p hp => (h p hp).symm
    omega
  · simp only [if_pos c, if_neg d] at h0
    exfalso
    rw [show ((0 : Nat) : Int).toNat = 0 from rfl, root, root] at h0
    cases h0
  · simp only [if_neg c, if_pos d] at h0
    exfalso
    rw [show ((0 : Nat) : Int).toNat = 0 from rfl, root, root] at h0
    cases h0
  · simp only [if_neg c, if_neg d] at h
    have h' : ∀ p : Nat, p ≤ ps.length → Tr.has ps p (-k).toNat = Tr.has ps p (-j).toNat := fun p hp => Bool.not_inj (h p hp)
    have := key (a := (-k).toNat) (b := (-j).toNat) (by omega) (by omega) h'
    have := key (a := (-j).toNat) (b := (-k).toNat) (by omega) (by omega) fun p hp => (h' p hp).symm
    omega
/-! the innermost of some sides -/
def inm (ps : List Nat) (S : List Int) : List Int := S.filter fun s => !S.any fun o => decide (o ≠ s) && insS ps o s
def cntS (ps : List Nat) (k : Int) : Nat := (List.range (ps.length + 1)).countP fun p : Nat => hasS ps (p : Int) k
theorem cnt_le {α : Type} {f g : α → Bool} : ∀ {l : List α}, (∀ x, x ∈ l → f x = true → g x = true) → l.countP f ≤ l.countP g
  | [], _ => Nat.le_refl _
  | x :: l, h => by
    have ih := cnt_le (f := f) (g := g) (l := l) fun y hy => h y (List.mem_cons_of_mem _ hy)
    rw [List.countP_cons, List.countP_cons]
    cases c : f x with
    | false => simp; omega
    | true => rw [h x List.mem_cons_self c]; simp; omega
theorem cnt_same {α : Type} {f g : α → Bool} : ∀ {l : List α}, (∀ x, x ∈ l → f x = true → g x = true) → l.countP g ≤ l.countP f → ∀ x, x ∈ l → f x = g x
  | x :: l, h, e, y, hy => by
    have sub := cnt_le (f := f) (g := g) (l := l) fun y hy => h y (List.mem_cons_of_mem _ hy)
    rw [List.countP_cons, List.countP_cons] at e
    have hxy : f x = g x := by
      cases c : f x with
      | true => rw [h x List.mem_cons_self c]
      | false =>
        cases d : g x with
        | false => rfl
        | true =>
          rw [c, d] at e
          simp at e
          omega
    have e' : l.countP g ≤ l.countP f := by
      rw [hxy] at e
      omega
    rcases List.mem_cons.mp hy with rfl | hy
    · exact hxy
    · exact cnt_same (fun y hy => h y (List.mem_cons_of_mem _ hy)) e' y hy
theorem inm_below {ps : List Nat} {S : List Int} (al : Sides ps.length S) : ∀ (N : Nat) (s : Int), s ∈ S → cntS ps s ≤ N → ∃ f, f ∈ inm ps S ∧ insS ps f s = true
  | N, s, hs, hN => by
    by_cases c : S.any (fun o => decide (o ≠ s) && insS ps o s) = true
    · obtain ⟨o, ho, h⟩ := List.any_eq_true.mp c
      rw [Bool.and_eq_true] at h
      have ne := of_decide_eq_true h.1
      have sub := insS_iff.mp h.2
      have sub' : ∀ x, x ∈ List.range (ps.length + 1) → hasS ps (x : Int) o = true → hasS ps (x : Int) s = true := fun x hx => sub x (by have := List.mem_range.mp hx; omega)
      have lt : cntS ps o < cntS ps s := by
        refine Nat.lt_of_not_le fun le => ne (side_uniq (al o ho) (al s hs) fun p hp => cnt_same sub' le p (List.mem_range.mpr (by omega)))
      match N, hN with
      | 0, hN => omega
      | N + 1, hN =>
        obtain ⟨f, hf, e⟩ := inm_below al N o ho (by omega)
        exact ⟨f, hf, insS_iff.mpr fun p hp hh => sub p hp (insS_iff.mp e p hp hh)⟩
    · refine ⟨s, List.mem_filter.mpr ⟨hs, by rw [Bool.not_eq_true] at c; rw [c]; rfl⟩, insS_iff.mpr fun _ _ h => h⟩
/-- all sides of a shape, 1, -1, 2, -2 and so on -/
def ordS (n : Nat) : List Int := (List.range n).flatMap fun i => [((i + 1 : Nat) : Int), -((i + 1 : Nat) : Int)]
theorem mem_ordS {n : Nat} {k : Int} : k ∈ ordS n ↔ IsSide n k := by
  unfold ordS IsSide
  rw [List.mem_flatMap]
  constructor
  · rintro ⟨i, hi, h⟩
    have := List.mem_range.mp hi
    simp only [List.mem_cons, List.not_mem_nil, or_false] at h
    omega
  · intro h
    refine ⟨k.natAbs - 1, List.mem_range.mpr (by omega), ?_⟩
    simp only [List.mem_cons, List.not_mem_nil, or_false]
    omega
def shr (ps L : List Nat) : List Int := (ordS ps.length).filter (shB ps L)
theorem shr_sides (ps L : List Nat) : Sides ps.length (shr ps L) := fun k hk => mem_ordS.mp (List.mem_filter.mp hk).1
theorem shr_spn {ps L : List Nat} (bd : ∀ x, x ∈ L → x ≤ ps.length) : shr ps (spn ps L) = shr ps L := by
  unfold shr
  refine List.filter_congr fun k hk => shB_spn bd (mem_ordS.mp hk)
/-- the fences of L -/
def fen (ps L : List Nat) : List Int := inm ps (shr ps L)
theorem fen_have {ps L : List Nat} (bd : ∀ x, x ∈ L → x ≤ ps.length) (ne : L ≠ []) : comL ps (fen ps L) = spn ps L := by
  refine incr_eq (List.Pairwise.filter _ List.pairwise_lt_range) (spn_incr ps L) fun p => ?_
  rw [mem_comL]
  constructor
  · rintro ⟨hp, h⟩
    refine Classical.byContradiction fun no => ?_
    obtain ⟨k, hk, sk, e⟩ := off_spn bd ne hp no
    obtain ⟨f, hf, i⟩ := inm_below (shr_sides ps L) _ k (List.mem_filter.mpr ⟨mem_ordS.mpr hk, sk⟩) (Nat.le_refl _)
    have := insS_iff.mp i p hp (h f hf)
    rw [e] at this
    cases this
  · intro hp
    refine ⟨spn_le hp, fun k hk => ?_⟩
    have h1 := (List.mem_filter.mp hk).1
    have h2 := (List.mem_filter.mp h1).2
    have h3 := shB_spn bd (shr_sides ps L k h1)
    rw [h2] at h3
    exact List.all_eq_true.mp h3 p hp
/-! sets of positions -/
theorem itb_turns {K : PySem.W.Frag} {a : Addr} {xs : List V} {b : Bool} {H0 : Hp} {Body : (Hp → Prop) → V → Hp → Prop} {Qd : Hp → Prop} (Pv : Nat → Hp → Prop) (h0 : Pv 0 H0) (hl : ∀ i H', i ≤ xs.length → Pv i H' → Sqb K b H' a xs) (hs : ∀ i x H, xs[i]? = some x → Pv i H → Body (Pv (i + 1)) x H) (hd : ∀ H, Pv xs.length H → Qd H) :
    ∃ W : Nat → Nat → Hp → Prop, (∃ m, W 0 m H0) ∧ ∀ i m H, W i m H → ((Itb K b a).stop i H ∧ Qd H) ∨ ((Itb K b a).go i H ∧ ∃ Nx : Hp → Prop, (∀ H', Nx H' → ∃ m', m' < m ∧ W (i + 1) m' H') ∧ ∀ x H', (Itb K b a).yld i H x H' → Body Nx x H') := by
  refine ⟨fun i m H => m = xs.length - i ∧ i ≤ xs.length ∧ Pv i H, ⟨xs.length, by simp, Nat.zero_le _, h0⟩, ?_⟩
  rintro i m H ⟨rfl, hi, p⟩
  have q := hl i H hi p
  by_cases hlt : i < xs.length
  · refine .inr ⟨?_, Pv (i + 1), fun H' p' => ⟨xs.length - (i + 1), by omega, rfl, hlt, p'⟩, fun x H' y => ?_⟩
    · cases b with
      | true => exact ⟨xs, xs[i], q, by simp [hlt]⟩
      | false => exact ⟨xs, xs[i], q, by simp [hlt]⟩
    · cases b with
      | true =>
        obtain ⟨e, y⟩ := y
        subst e
        exact hs i x _ (y xs q) p
      | false =>
        obtain ⟨e, y⟩ := y
        subst e
        exact hs i x _ (y xs q) p
  · have e : i = xs.length := by omega
    subst e
    refine .inl ⟨?_, hd H p⟩
    cases b with
    | true => exact ⟨xs, q, Nat.le_refl _⟩
    | false => exact ⟨xs, q, Nat.le_refl _⟩
/-- how many of the positions are in S -/
def cntP (n : Nat) (S : Int → Bool) : Nat := (List.range (n + 1)).countP fun p : Nat => S (p : Int)
theorem cntP_le (n : Nat) (S : Int → Bool) : cntP n S ≤ n + 1 := by
  unfold cntP
  exact Nat.le_trans List.countP_le_length (by rw [List.length_range]; exact Nat.le_refl _)
theorem count_one {f : Nat → Bool} {q : Nat} : ∀ {l : List Nat}, l.Nodup → (l.countP fun p => f p || decide (p = q)) = if q ∈ l ∧ f q = false then l.countP f + 1 else l.countP f
  | [], _ => by simp
  | x :: l, h => by
    obtain ⟨h1, h2⟩ := List.nodup_cons.mp h
    rw [List.countP_cons, List.countP_cons, count_one h2]
    by_cases e : x = q
    · subst e
      have n1 : ¬ (x ∈ l ∧ f x = false) := fun z => h1 z.1
      rw [if_neg n1]
      cases c : f x <;> simp
    · have e1 : (f x || decide (x = q)) = f x := by simp [e]
      have e2 : (q ∈ x :: l ∧ f q = false) ↔ (q ∈ l ∧ f q = false) := by
        rw [List.mem_cons]
        exact ⟨fun z => ⟨z.1.resolve_left fun w => e w.symm, z.2⟩, fun z => ⟨.inr z.1, z.2⟩⟩
      rw [e1]
      by_cases d : q ∈ l ∧ f q = false
      · rw [if_pos d, if_pos (e2.mpr d)]
        omega
      · rw [if_neg d, if_neg fun z => d (e2.mp z)]
theorem cntP_add {n q : Nat} {S : Int → Bool} (hq : q ≤ n) : (if S (q : Int) = true then cntP n S else cntP n S + 1) = cntP n fun j => S j || decide (j = (q : Int)) := by
  have e : cntP n (fun j => S j || decide (j = (q : Int))) = (List.range (n + 1)).countP fun p => (fun p : Nat => S (p : Int)) p || decide (p = q) := by
    unfold cntP
    refine List.countP_congr fun p _ => ?_
    simp only [Int.natCast_inj]
  rw [e, count_one List.nodup_range]
  unfold cntP
  have m : q < n + 1 := by omega
  cases c : S (q : Int) <;> simp [m]
/-- rising ints that are all positions -/
theorem ints_are {N : List Int} (h : ∀ k, k ∈ N → ∃ q : Nat, k = (q : Int)) : ∃ M : List Nat, N = toI M := by
  refine ⟨N.map Int.toNat, ?_⟩
  unfold toI
  rw [List.map_map]
  refine (List.map_id N).symm.trans (List.map_congr_left fun k hk => ?_)
  obtain ⟨q, rfl⟩ := h k hk
  rfl
theorem toI_incr {M : List Nat} (h : (toI M).Pairwise (· < ·)) : M.Pairwise (· < ·) := by
  unfold toI at h
  rw [List.pairwise_map] at h
  exact h.imp fun e => by omega
theorem ran_turns {lo : Int} {n : Nat} {H0 : Hp} {Body : (Hp → Prop) → V → Hp → Prop} {Qd : Hp → Prop} (Pv : Nat → Hp → Prop) (h0 : Pv 0 H0) (hs : ∀ i H, i < n → Pv i H → Body (Pv (i + 1)) (.int (lo + i)) H) (hd : ∀ H, Pv n H → Qd H) :
    ∃ W : Nat → Nat → Hp → Prop, (∃ m, W 0 m H0) ∧ ∀ i m H, W i m H → ((Itr lo n).stop i H ∧ Qd H) ∨ ((Itr lo n).go i H ∧ ∃ Nx : Hp → Prop, (∀ H', Nx H' → ∃ m', m' < m ∧ W (i + 1) m' H') ∧ ∀ x H', (Itr lo n).yld i H x H' → Body Nx x H') := by
  refine ⟨fun i m H => m = n - i ∧ i ≤ n ∧ Pv i H, ⟨n, by simp, Nat.zero_le _, h0⟩, ?_⟩
  rintro i m H ⟨rfl, hi, p⟩
  by_cases hlt : i < n
  · refine .inr ⟨hlt, Pv (i + 1), fun H' p' => ⟨n - (i + 1), by omega, rfl, hlt, p'⟩, fun x H' y => ?_⟩
    obtain ⟨e, y⟩ := y
    subst e y
    exact hs i _ hlt p
  · have e : i = n := by omega
    subst e
    exact .inl ⟨Nat.le_refl _, hd H p⟩
theorem ordS_len (n : Nat) : (ordS n).length = 2 * n := by
  unfold ordS
  induction n with
  | zero => rfl
  | succ n ih =>
    rw [List.range_succ, List.flatMap_append, List.length_append, ih]
    simp only [List.flatMap_cons, List.flatMap_nil, List.append_nil, List.length_cons, List.length_nil]
    omega
/-! ### promises -/
def spSpan (K : PySem.W.Frag) (C D : Addr) : Sp := fun vs H Q E => ∃ (s l : Addr) (ps : List Nat) (ns : List Int), vs = [.ref s, .ref l] ∧ ShapeAt K C H s ps ∧ SqE K H l (ns.map V.int) ∧ ns.length ≤ 100 ∧ ps.length ≤ 60 ∧
  (∀ L : List Nat, ns = toI L → (∀ x, x ∈ L → x ≤ ps.length) → ∀ r H', Same H H' → H r = none → H' r = some (.lst (nvs (spn ps L))) → Q (.ref r) H') ∧
  (∀ j k, BadAt ps.length ns j → ns[j]? = some k → Small k ∧ ∀ d, H d = none → E (.ref D) (some d) (upd H d (.xd [("position", .int k)])))
def spOrd (K : PySem.W.Frag) (C : Addr) : Sp := fun vs H Q _ => ∃ (s : Addr) (ps : List Nat), vs = [.ref s] ∧ ShapeAt K C H s ps ∧ ∀ r H', Same H H' → H r = none → H' r = some (.lst ((ordS ps.length).map V.int)) → Q (.ref r) H'
def spInner (K : PySem.W.Frag) (C P : Addr) : Sp := fun vs H Q _ => ∃ (s l : Addr) (ps : List Nat) (S : List Int), vs = [.ref s, .ref l] ∧ ShapeAt K C H s ps ∧ SqL K H l (S.map V.int) ∧ S.length ≤ 2000 ∧ Sides ps.length S ∧ TabG H P ∧
  ∀ r H', SameT H H' → H r = none → H' r = some (.lst ((inm ps S).map V.int)) → Q (.ref r) H'
def spFences (K : PySem.W.Frag) (C D B P P' : Addr) : Sp := fun vs H Q E => ∃ (s l : Addr) (ps : List Nat) (ns : List Int), vs = [.ref s, .ref l] ∧ ShapeAt K C H s ps ∧ SqE K H l (ns.map V.int) ∧ ns.length ≤ 100 ∧ TabG H P ∧ TabG H P' ∧
  (∀ L : List Nat, ns = toI L → (∀ x, x ∈ L → x ≤ ps.length) → L ≠ [] → ∀ r H', SameT H H' → H r = none → H' r = some (.lst ((fen ps L).map V.int)) → Q (.ref r) H') ∧
  (ns = [] → ∀ d, H d = none → E (.ref B) (some d) (upd H d (.xd [("number", .int 0)]))) ∧
  (∀ j k, BadAt ps.length ns j → ns[j]? = some k → Small k ∧ ∀ d, H d = none → E (.ref D) (some d) (upd H d (.xd [("position", .int k)])))
/-- at r a list of pairs of items of L, those of n among them -/
def PR (H : Hp) (r : Addr) (L : List Nat) (n : Nat → Nat → Prop) (c : Nat) : Prop := ∃ rs : List Addr, H r = some (.lst (rs.map V.ref)) ∧ rs.length ≤ c ∧ (∀ p, p ∈ rs → ∃ a b, a ∈ L ∧ b ∈ L ∧ H p = some (.lst (nvs [a, b]))) ∧ ∀ e t a b, n e t → L[e]? = some a → L[t]? = some b → ∃ p, p ∈ rs ∧ H p = some (.lst (nvs [a, b]))
def spLSpan : Sp := fun vs H Q _ => ∃ (h l : Addr) (ps L : List Nat), vs = [.ref h, .ref l] ∧ Had H h ps ∧ ps.length ≤ 60 ∧ H l = some (.lst (nvs L)) ∧ L.length ≤ 40 ∧ (∀ x, x ∈ L → x ≤ ps.length) ∧ ∀ r H', Same H H' → H r = none → H' r = some (.lst (nvs (spn ps L))) → Q (.ref r) H'
theorem betw_sym {ps : List Nat} {n p a b : Nat} (h : Tr.betw ps n p a b) : Tr.betw ps n p b a := Tr.betw_has.mpr fun k k1 k2 e => by rw [Tr.betw_has.mp h k k1 k2 e.symm, e]
def spEmpRef (K : PySem.W.Frag) (C P P' : Addr) : Sp := fun vs H Q _ => ∃ (s l : Addr) (ps : List Nat), vs = [.ref s, .ref l] ∧ ShapeAt K C H s ps ∧ SqE K H l [] ∧ TabG H P ∧ TabG H P' ∧ ∀ H', Same H H' → Q (.bl true) H'
/-- the sides as the law finds them -/
def spFenDue : Sp := fun vs H Q _ => ∃ (h l : Addr) (ps L : List Nat), vs = [.ref h, .ref l] ∧ Had H h ps ∧ ps.length ≤ 60 ∧ H l = some (.lst (nvs L)) ∧ L.length ≤ 100 ∧ (∀ x, x ∈ L → x ≤ ps.length) ∧ ∀ r H', Same H H' → H r = none → H' r = some (.lst ((fen ps L).map V.int)) → Q (.ref r) H'
end EP
/-! own layer: set(list or tuple of ints) -/
namespace EP
open PySem PySem.Spec PyProof.Rows L2
abbrev newS (w : World) : Obj := { cls := .type "set", dict := none, data := .set #[] 0 (.fresh 0 0 (!w.params.followText "set-order")) }
section
variable {P : Program} {w : World} {A : Around} {E : Value → Shared → Prop} {s : Shared}
set_option maxHeartbeats 4000000 in
theorem set_of_listI {l : Addr} {its : Array Value} (ns : List Int) {Q : Value → Shared → Prop} (hd : A.handled = none) (hl : s.heap.IsList l its) (hi : IntsAre its.toList ns) (room : ns.length + 1 < scanBound)
    (q : ∀ (h' : Heap) (tk c : Nat), SetR w h' s.heap.objs.size (fun j => decide (j ∈ ns)) c → c ≤ ns.length → (∀ b o, s.heap.get? b = some o → h'.get? b = some o) → Q (.ref s.heap.objs.size) { s with heap := h', toks := tk }) :
    wpAny (model P w) A (call (.type "set") [.ref l]) Q E s := by
  have sz : its.size = ns.length := by rw [← Array.length_toList]; exact IntsAre.length hi
  obtain ⟨cm, tlm, mro⟩ := F.called_set.mro
  have made := F.called_set.made
  have subs := F.called_set.sub
  have nt := F.called_set.notType
  have cc := F.called_set.canCreate
  have tc := F.typeCall_set_1 (.ref l)
  refine wpAny_call (codeAny_of_tree (wpAny_pure ⟨Code.quiet_builtin _ (by decide +kernel), codeAny_builtin F.entry_type_call ?_⟩))
  rw [Around.under_plain (weight_type_call_type "set" [.ref l] []) rfl]
  repeat (any_goals (first | assumption | wp_step))
  refine codeAny_mono (code_set_led1 (.ref l) (E := E) (Q₁ := fun v t => v = .ref s.heap.objs.size ∧ t = { s with heap := s.heap.push (newS w) }) ⟨rfl, rfl⟩) fun r t hr => ?_
  cases r with
  | error e => exact hr
  | ok f =>
    cases f with
    | ret v =>
      obtain ⟨rfl, rfl⟩ := hr
      have at0 : (s.heap.push (newS w)).get? s.heap.objs.size = some (newS w) := Heap.get?_push_size _ rfl
      have ty0 : Shared.TypeIs { s with heap := s.heap.push (newS w) } (.ref s.heap.objs.size) "set" := ⟨_, at0, rfl⟩
      have il := F.called_set.init.lookup
      have ib := F.called_set.init.bind (.ref s.heap.objs.size)
      repeat (any_goals (first | assumption | wp_step))
      refine codeAny_mono (codeAny_call_builtin (R := wants (fun r t => r = .none ∧ ∃ h' tk c, t = { s with heap := h', toks := tk } ∧ SetR w h' s.heap.objs.size (fun j => decide (j ∈ ns)) c ∧ c ≤ ns.length ∧ ∀ b o, s.heap.get? b = some o → h'.get? b = some o) E)
        F.called_set.init.plain F.entry_set_init (check_set_init_1 ty0 ?_)) fun r t hr => ?_
      · obtain ⟨⟨c1, d1, a1, s1⟩, ho, hc, nl, hdt⟩ := hl
        simp only at hc hdt
        subst hc
        subst hdt
        have ho' : (s.heap.push (newS w)).get? l = some { cls := .type "list", dict := d1, data := .seq its nl, slots := s1 } := Heap.get?_push_of_some _ ho
        have g1 := F.sub_list_set
        have g2 := F.sub_list_frozenset
        have g3 : (Value.type "list" == Value.type "dict") = false := by decide
        have hl1 : (s.heap.push (newS w)).IsList l its := ⟨_, ho', rfl, nl, rfl⟩
        unfold Builtin.«set.__init__» noKeywords Builtin.Frozenset.updateFrom
        generalize hPI : pyIter = PI
        wp_walk
        subst hPI
        refine wpAny_pyIter_list hl1 (wpAny_bind (wpAny_runValue ?_))
        have lt : l < s.heap.objs.size := Heap.lt_size ho
        have h3 : A.in1.in1.in1.handled = none := by simp [hd]
        have z1 : (s.heap.push (newS w)).objs.size = s.heap.objs.size + 1 := Heap.size_push ..
        have ne1 : l ≠ (s.heap.push (newS w)).objs.size := fun z => by
          rw [z1] at z
          exact absurd z (Nat.ne_of_lt (Nat.lt_succ_of_lt lt))
        have no1 : s.heap.objs.size ∉ [(s.heap.push (newS w)).objs.size, l] := by
          rw [z1]
          simp only [List.mem_cons, List.mem_singleton, List.not_mem_nil, or_false, not_or]
          exact ⟨(Nat.ne_of_lt (Nat.lt_succ_self _)), (Nat.ne_of_lt lt).symm⟩
        have val : ∀ (i : Nat) (v : Value), its[i]? = some v → ∃ k t, ns[i]? = some k ∧ v = .int k t := fun i v hv => by
          have hlt : i < ns.length := by rw [← sz]; exact (Array.getElem?_eq_some_iff.mp hv).1
          obtain ⟨t, e⟩ := PyProof.Rows.IntsAre.int_at hi i v (by rw [Array.getElem?_toList]; exact hv)
          refine ⟨ns[i], t, List.getElem?_eq_getElem hlt, ?_⟩
          rw [e, List.getD_eq_getElem?_getD, List.getElem?_eq_getElem hlt]
          rfl
        refine set_update_ints ((Walks.list h3 _ l ne1 its).toS) s.heap.objs.size no1 ns sz room val (its.size - 0) 0 _ (by omega) (Nat.zero_le _) ⟨⟨_, Heap.get?_push_size _ rfl, rfl, rfl⟩, hl1.push _⟩ ⟨0, Nat.le_refl 0, setR_new_at (Heap.get?_push_of_some _ at0)⟩ ?_
        intro t c mv hcn hS
        obtain ⟨h', gg, dd, tk, oo⟩ := t
        have eg : gg = s.gens := mv.gens
        have ed : dd = s.drawn := mv.drawn
        have eo : oo = s.os := mv.os
        subst eg
        subst ed
        subst eo
        rw [sz] at hcn
        refine wpAny_pure (wpAny_pure ⟨rfl, h', tk, c, rfl, hS, hcn, fun b o e => ?_⟩)
        have b0 : b < s.heap.objs.size := Heap.lt_size e
        refine mv.heap b o ?_ (Heap.get?_push_of_some _ (Heap.get?_push_of_some _ e))
        simp only [List.mem_cons, List.mem_singleton, List.not_mem_nil, or_false, not_or]
        refine ⟨Nat.ne_of_lt b0, fun z => ?_⟩
        rw [z1] at z
        exact absurd z (Nat.ne_of_lt (Nat.lt_succ_of_lt b0))
      · cases r with
        | error e => exact hr
        | ok f =>
          cases f with
          | ret v =>
            obtain ⟨rfl, h', tk, c, rfl, hS, hcn, kp⟩ := hr
            repeat (any_goals (first | assumption | wp_step))
            exact q _ _ _ hS hcn kp
          | _ => exact hr.elim
    | _ => exact hr.elim
end
/-- set(e) of a list or a tuple of ints -/
def rSetE (w : World) (K : PySem.W.Frag) : List V → Hp → VK → Prop := fun vs H Q => ∃ (p : Addr) (ns : List Int), vs = [.ref p] ∧ SqE K H p (ns.map V.int) ∧ ns.length ≤ 1000 ∧ ∀ (r : Addr) (c : Nat), H r = none → c ≤ ns.length → Q (.ref r) (upd H r (SetO w r (fun j => decide (j ∈ ns)) c))
theorem cr_setE {X : Cx} (hc : X.calm = true) : CallR X (.type "set") (rSetE X.w X.K) := by
  intro pins s σ H vs us Q I r h
  obtain ⟨p, ns, rfl, hq, sm, q⟩ := h
  rw [Vals.ref1 r]
  have hd := I.ok.hd hc
  have fin : ∀ (h' : Heap) (tk c : Nat), SetR X.w h' s.heap.objs.size (fun j => decide (j ∈ ns)) c → c ≤ ns.length → (∀ b o, s.heap.get? b = some o → h'.get? b = some o) → L2.EP X pins σ Q (.ref s.heap.objs.size) { s with heap := h', toks := tk } := fun h' tk c R hcn kp =>
    ⟨.ref _, upd H s.heap.objs.size (SetO X.w s.heap.objs.size (fun j => decide (j ∈ ns)) c), I.laid (t' := tk) kp (Nat.le_refl _) (setO_new R), rfl, q _ c (I.hok.fresh (Nat.le_refl _)) hcn⟩
  rcases hq with hq | hq
  · obtain ⟨its, rv, pl, hz⟩ := I.list hq
    exact set_of_listI ns hd pl.isList (by simpa using ints_of_vals rv) (by unfold scanBound; omega) fin
  · obtain ⟨its, rv, pt, hz⟩ := I.tuple hq
    exact call_set_tupI ns hd (show s.heap.IsTuple p its.toArray from pt) (by simpa using ints_of_vals rv) (by unfold scanBound; omega) fin
end EP
/-! tunnels: gains, additions, best ones -/
namespace Tn
/-- f 1 + .. + f n -/
def sm : Nat → (Nat → Int) → Int
  | 0, _ => 0
  | n + 1, f => sm n f + f (n + 1)
theorem sm_congr {f g : Nat → Int} : ∀ {n : Nat}, (∀ k, 1 ≤ k → k ≤ n → f k = g k) → sm n f = sm n g
  | 0, _ => rfl
  | n + 1, h => by
    show sm n f + f (n + 1) = sm n g + g (n + 1)
    rw [sm_congr (n := n) fun k a b => h k a (by omega), h (n + 1) (by omega) (Nat.le_refl _)]
theorem sm_le {f g : Nat → Int} : ∀ {n : Nat}, (∀ k, 1 ≤ k → k ≤ n → f k ≤ g k) → sm n f ≤ sm n g
  | 0, _ => Int.le_refl _
  | n + 1, h => by
    have a := sm_le (n := n) fun k a b => h k a (by omega)
    have b := h (n + 1) (by omega) (Nat.le_refl _)
    show sm n f + f (n + 1) ≤ sm n g + g (n + 1)
    omega
theorem sm_add (f g : Nat → Int) : ∀ n, sm n (fun k => f k + g k) = sm n f + sm n g
  | 0 => rfl
  | n + 1 => by
    show sm n _ + (f (n + 1) + g (n + 1)) = (sm n f + f (n + 1)) + (sm n g + g (n + 1))
    rw [sm_add f g n]
    omega
theorem sm_sub (f g : Nat → Int) : ∀ n, sm n (fun k => f k - g k) = sm n f - sm n g
  | 0 => rfl
  | n + 1 => by
    show sm n _ + (f (n + 1) - g (n + 1)) = (sm n f + f (n + 1)) - (sm n g + g (n + 1))
    rw [sm_sub f g n]
    omega
theorem sm_mul (c : Int) (f : Nat → Int) : ∀ n, sm n (fun k => c * f k) = c * sm n f
  | 0 => by show (0 : Int) = c * 0; rw [Int.mul_zero]
  | n + 1 => by
    show sm n _ + c * f (n + 1) = c * (sm n f + f (n + 1))
    rw [sm_mul c f n, Int.mul_add]
theorem sm_zero : ∀ n, sm n (fun _ => 0) = 0
  | 0 => rfl
  | n + 1 => by
    show sm n _ + 0 = 0
    rw [sm_zero n]
    rfl
theorem sm_nonneg {f : Nat → Int} {n : Nat} (h : ∀ k, 1 ≤ k → k ≤ n → 0 ≤ f k) : 0 ≤ sm n f := by
  have := sm_le (f := fun _ => 0) (g := f) h
  rwa [sm_zero] at this
theorem sm_one {f : Nat → Int} {k : Nat} : ∀ {n : Nat}, (∀ k, 1 ≤ k → k ≤ n → 0 ≤ f k) → 1 ≤ k → k ≤ n → f k ≤ sm n f
  | 0, _, a, b => by omega
  | n + 1, h, a, b => by
    show f k ≤ sm n f + f (n + 1)
    have h1 := h (n + 1) (by omega) (Nat.le_refl _)
    by_cases e : k = n + 1
    · have := sm_nonneg (n := n) fun k a b => h k a (by omega)
      rw [e]
      omega
    · have := sm_one (n := n) (fun k a b => h k a (by omega)) a (by omega)
      omega
theorem sm_all0 {f : Nat → Int} : ∀ {n : Nat}, (∀ k, 1 ≤ k → k ≤ n → 0 ≤ f k) → sm n f = 0 → ∀ k, 1 ≤ k → k ≤ n → f k = 0 := fun {n} h e k a b => by
  have := sm_one h a b
  have := h k a b
  omega
theorem sm_swap (F : Nat → Nat → Int) : ∀ n m, sm n (fun k => sm m (fun c => F k c)) = sm m (fun c => sm n (fun k => F k c))
  | 0, m => by
    show 0 = sm m (fun c => 0)
    rw [sm_zero]
  | n + 1, m => by
    show sm n _ + sm m (fun c => F (n + 1) c) = sm m (fun c => sm n (fun k => F k c) + F (n + 1) c)
    rw [sm_swap F n m, sm_add]
theorem sm_pick (p : Nat) (f : Nat → Int) : ∀ n, sm n (fun k => if p = k then f k else 0) = if 1 ≤ p ∧ p ≤ n then f p else 0
  | 0 => by rw [if_neg (by omega)]; rfl
  | n + 1 => by
    show sm n _ + (if p = n + 1 then f (n + 1) else 0) = _
    rw [sm_pick p f n]
    by_cases e : p = n + 1
    · rw [if_neg (by omega), if_pos e, if_pos (by omega), e]
      omega
    · rw [if_neg e]
      by_cases c : 1 ≤ p ∧ p ≤ n
      · rw [if_pos c, if_pos (by omega)]; omega
      · rw [if_neg c, if_neg (by omega)]; rfl
def i0 (b : Bool) (v : Int) : Int := if b = true then v else 0
/-- what the set s is worth -/
def fs (n : Nat) (f : Nat → Int) (s : Nat → Bool) : Int := sm n fun k => i0 (s k) (f k)
theorem fs_lin {n : Nat} {w l : Nat → Int} {a b : Int} {s : Nat → Bool} : fs n (fun k => b * w k - a * l k) s = b * fs n w s - a * fs n l s := by
  unfold fs
  rw [← sm_mul, ← sm_mul, ← sm_sub]
  refine sm_congr fun k _ _ => ?_
  unfold i0
  split <;> simp
section
variable {n : Nat} {par : Nat → Nat} {x g : Nat → Int} {d s t : Nat → Bool}
/-- not dug, and can be dug at once -/
def rt (par : Nat → Nat) (d : Nat → Bool) (c : Nat) : Bool := !d c && (decide (par c = 0) || d (par c))
def Par (n : Nat) (par : Nat → Nat) : Prop := ∀ k, 1 ≤ k → k ≤ n → par k < k
def Cld (n : Nat) (par : Nat → Nat) (d : Nat → Bool) : Prop := d 0 = false ∧ ∀ k, 1 ≤ k → k ≤ n → d k = true → par k = 0 ∨ d (par k) = true
/-- an addition to the closed set d -/
def Add (n : Nat) (par : Nat → Nat) (d s : Nat → Bool) : Prop := s 0 = false ∧ ∀ k, 1 ≤ k → k ≤ n → s k = true → d k = false ∧ (par k = 0 ∨ d (par k) = true ∨ s (par k) = true)
def mx (v : Int) : Int := if v > 0 then v else 0
theorem mx_le (v : Int) : v ≤ mx v := by unfold mx; split <;> omega
theorem mx_nn (v : Int) : 0 ≤ mx v := by unfold mx; split <;> omega
def GainEq (n : Nat) (par : Nat → Nat) (x g : Nat → Int) : Prop := ∀ k, 1 ≤ k → k ≤ n → g k = x k + sm n fun c => i0 (decide (par c = k)) (mx (g c))
/-- the greatest gain -/
def top (n : Nat) (par : Nat → Nat) (d : Nat → Bool) (g : Nat → Int) : Int := sm n fun c => i0 (rt par d c) (mx (g c))
def lack (par : Nat → Nat) (d s : Nat → Bool) (g : Nat → Int) (c : Nat) : Int := i0 (rt par d c || (!d c && s (par c))) (mx (g c) - i0 (s c) (g c))
theorem lack_nn (c : Nat) : 0 ≤ lack par d s g c := by
  unfold lack i0
  have a := mx_le (g c)
  have b := mx_nn (g c)
  split
  · split <;> omega
  · omega
theorem key (hp : Par n par) (hd : Cld n par d) (hs : Add n par d s) (G : GainEq n par x g) : fs n x s = top n par d g - sm n (lack par d s g) := by
  have A : sm n (fun k => i0 (s k) (g k)) = fs n x s + sm n (fun c => i0 (s (par c)) (mx (g c))) := by
    have e1 : sm n (fun k => i0 (s k) (g k)) = sm n (fun k => i0 (s k) (x k) + sm n (fun c => i0 (s k) (i0 (decide (par c = k)) (mx (g c))))) := sm_congr fun k a b => by
      rw [G k a b]
      cases hk : s k with
      | true => rfl
      | false =>
        show (0 : Int) = 0 + sm n (fun c => 0)
        rw [sm_zero]
        rfl
    rw [e1, sm_add, sm_swap]
    refine congrArg _ (sm_congr fun c a b => ?_)
    have e2 : sm n (fun k => i0 (s k) (i0 (decide (par c = k)) (mx (g c)))) = sm n (fun k => if par c = k then i0 (s k) (mx (g c)) else 0) := sm_congr fun k _ _ => by
      unfold i0
      by_cases e : par c = k
      · simp [e]
      · simp [e]
    rw [e2, sm_pick (par c) (fun k => i0 (s k) (mx (g c)))]
    have := hp c a b
    by_cases z : par c = 0
    · rw [if_neg (by omega), z, hs.1]
      rfl
    · rw [if_pos (by omega)]
  have B : fs n x s = sm n (fun c => i0 (s c) (g c) - i0 (s (par c)) (mx (g c))) := by
    rw [sm_sub, A]
    omega
  rw [B]
  unfold top
  rw [← sm_sub]
  refine sm_congr fun c a b => ?_
  have h1 := hs.2 c a b
  have h2 := hd.2 c a b
  unfold lack rt i0
  cases ec : s c with
  | true =>
    obtain ⟨q1, q2⟩ := h1 ec
    rw [q1]
    cases ep : s (par c) with
    | true =>
      have np : par c ≠ 0 := fun z => by rw [z, hs.1] at ep; cases ep
      have nd : d (par c) = false := (hs.2 (par c) (by omega) (by have := hp c a b; omega) ep).1
      rw [nd, decide_eq_false np]
      simp <;> omega
    | false =>
      have : decide (par c = 0) || d (par c) := by
        rcases q2 with q | q | q
        · rw [decide_eq_true q]; rfl
        · rw [q]; simp
        · rw [ep] at q; cases q
      simp [this] <;> omega
  | false =>
    cases ep : s (par c) with
    | true =>
      have np : par c ≠ 0 := fun z => by rw [z, hs.1] at ep; cases ep
      have nd : d (par c) = false := (hs.2 (par c) (by omega) (by have := hp c a b; omega) ep).1
      have dc : d c = false := by
        cases e : d c with
        | false => rfl
        | true =>
          rcases h2 e with z | z
          · exact absurd z np
          · rw [nd] at z; cases z
      rw [nd, dc, decide_eq_false np]
      simp <;> omega
    | false => simp <;> omega
theorem le_top (hp : Par n par) (hd : Cld n par d) (hs : Add n par d s) (G : GainEq n par x g) : fs n x s ≤ top n par d g := by
  rw [key hp hd hs G]
  have := sm_nonneg (n := n) fun c _ _ => lack_nn (par := par) (d := d) (s := s) (g := g) c
  omega
/-- the greatest addition with the greatest gain -/
def Wrt (n : Nat) (par : Nat → Nat) (d : Nat → Bool) (g : Nat → Int) (W : Nat → Bool) : Prop := W 0 = false ∧ ∀ c, 1 ≤ c → c ≤ n → (W c = true ↔ d c = false ∧ (par c = 0 ∨ d (par c) = true ∨ W (par c) = true) ∧ 0 ≤ g c)
variable {W : Nat → Bool}
theorem Wrt.add (h : Wrt n par d g W) : Add n par d W := ⟨h.1, fun k a b e => let ⟨q1, q2, _⟩ := (h.2 k a b).mp e; ⟨q1, q2⟩⟩
theorem Wrt.top (hp : Par n par) (hd : Cld n par d) (h : Wrt n par d g W) (G : GainEq n par x g) : fs n x W = top n par d g := by
  rw [key hp hd h.add G]
  have : sm n (lack par d W g) = sm n (fun _ => 0) := sm_congr fun c a b => by
    unfold lack i0
    split
    · rename_i e
      have q := h.2 c a b
      by_cases ec : W c = true
      · rw [if_pos ec]
        have := (q.mp ec).2.2
        unfold mx
        split <;> omega
      · rw [if_neg ec]
        have neg : ¬ 0 ≤ g c := fun z => ec (q.mpr (by
          unfold rt at e
          rw [Bool.or_eq_true, Bool.and_eq_true, Bool.and_eq_true, Bool.or_eq_true] at e
          rcases e with ⟨e1, e2 | e2⟩ | ⟨e1, e2⟩
          · exact ⟨by simpa using e1, .inl (of_decide_eq_true e2), z⟩
          · exact ⟨by simpa using e1, .inr (.inl e2), z⟩
          · exact ⟨by simpa using e1, .inr (.inr e2), z⟩))
        unfold mx
        rw [if_neg (by omega)]
        rfl
    · rfl
  rw [this, sm_zero]
  omega
theorem Wrt.great (hp : Par n par) (hd : Cld n par d) (h : Wrt n par d g W) (hs : Add n par d s) (G : GainEq n par x g) (e : fs n x s = Tn.top n par d g) : ∀ c, 1 ≤ c → c ≤ n → s c = true → W c = true := by
  rw [key hp hd hs G] at e
  have z := sm_all0 (n := n) (fun c _ _ => lack_nn (par := par) (d := d) (s := s) (g := g) c) (by omega)
  intro c
  induction c using Nat.strongRecOn with
  | _ c ih =>
    intro a b sc
    obtain ⟨q1, q2⟩ := hs.2 c a b sc
    have zc := z c a b
    unfold lack i0 rt at zc
    rw [q1, sc] at zc
    have cond : (!false && (decide (par c = 0) || d (par c)) || !false && s (par c)) = true := by
      rcases q2 with q | q | q
      · rw [decide_eq_true q]; rfl
      · rw [q]; simp
      · rw [q]; simp
    rw [if_pos cond, if_pos rfl] at zc
    have gn : 0 ≤ g c := by
      have := mx_nn (g c)
      omega
    refine (h.2 c a b).mpr ⟨q1, ?_, gn⟩
    rcases q2 with q | q | q
    · exact .inl q
    · exact .inr (.inl q)
    · have np : par c ≠ 0 := fun z => by rw [z, hs.1] at q; cases q
      have lt := hp c a b
      exact .inr (.inr (ih (par c) lt (by omega) (by omega) q))
end
/-! best additions -/
section
variable {n : Nat} {par : Nat → Nat} {w l g : Nat → Int} {d s V W : Nat → Bool}
def Best (n : Nat) (par : Nat → Nat) (w l : Nat → Int) (d W : Nat → Bool) : Prop := Add n par d W ∧ 0 < fs n l W ∧ ∀ s, Add n par d s → fs n w s * fs n l W ≤ fs n w W * fs n l s ∧ (fs n w s * fs n l W = fs n w W * fs n l s → ∀ c, 1 ≤ c → c ≤ n → s c = true → W c = true)
theorem fs_pos {f : Nat → Int} (hl : ∀ k, 1 ≤ k → k ≤ n → 1 ≤ f k) {c : Nat} (a : 1 ≤ c) (b : c ≤ n) (sc : s c = true) : 0 < fs n f s := by
  have := sm_one (f := fun k => i0 (s k) (f k)) (n := n) (fun k a b => by
    have := hl k a b
    unfold i0
    split <;> omega) a b
  have e : i0 (s c) (f c) = f c := by unfold i0; rw [if_pos sc]
  have := hl c a b
  unfold fs

  omega
theorem fs_nn {f : Nat → Int} (hl : ∀ k, 1 ≤ k → k ≤ n → 0 ≤ f k) : 0 ≤ fs n f s := sm_nonneg fun k a b => by
  have := hl k a b
  unfold i0
  split <;> omega
theorem fs_mono {f : Nat → Int} (hl : ∀ k, 1 ≤ k → k ≤ n → 0 ≤ f k) (h : ∀ c, 1 ≤ c → c ≤ n → s c = true → W c = true) : fs n f s ≤ fs n f W := sm_le fun k a b => by
  have := hl k a b
  unfold i0
  cases e : s k with
  | true => rw [h k a b e]; exact Int.le_refl _
  | false =>
    rw [if_neg (by decide)]
    split <;> omega
/-- some set of the list: none of it is nothing -/
theorem fs_some {f : Nat → Int} (h : fs n f s ≠ 0) : ∃ c, 1 ≤ c ∧ c ≤ n ∧ s c = true := Classical.byContradiction fun no => h (by
  unfold fs
  rw [show sm n (fun k => i0 (s k) (f k)) = sm n (fun _ => 0) from sm_congr fun k a b => by
    unfold i0
    rw [if_neg fun e => no ⟨k, a, b, e⟩], sm_zero])
theorem best_of (hp : Par n par) (hd : Cld n par d) (hl : ∀ k, 1 ≤ k → k ≤ n → 1 ≤ l k) (hV : Add n par d V) (pV : 0 < fs n l V) (h : Wrt n par d g W) (G : GainEq n par (fun k => fs n l V * w k - fs n w V * l k) g) (z : top n par d g ≤ 0) : Best n par w l d W := by
  have t0 := le_top hp hd hV G
  rw [fs_lin, Int.mul_comm, Int.sub_self] at t0
  have tz : top n par d g = 0 := by omega
  have eV := h.great hp hd hV G (by rw [fs_lin, tz, Int.mul_comm, Int.sub_self])
  have hW := h.top hp hd G
  rw [fs_lin, tz] at hW
  have pW : 0 < fs n l W := Int.lt_of_lt_of_le pV (fs_mono (fun k a b => by have := hl k a b; omega) eV)
  refine ⟨h.add, pW, fun s hs => ?_⟩
  have ts := le_top hp hd hs G
  rw [fs_lin, tz] at ts
  have sn : 0 ≤ fs n l s := fs_nn fun k a b => by have := hl k a b; omega
  have e1 : fs n l V * fs n w W = fs n w V * fs n l W := by omega
  have e2 : fs n l V * (fs n w s * fs n l W) ≤ fs n l V * (fs n w W * fs n l s) := by
    have : fs n l V * fs n w s * fs n l W ≤ fs n w V * fs n l s * fs n l W := Int.mul_le_mul_of_nonneg_right (by omega) (by omega)
    calc fs n l V * (fs n w s * fs n l W) = fs n l V * fs n w s * fs n l W := by rw [Int.mul_assoc]
      _ ≤ fs n w V * fs n l s * fs n l W := this
      _ = fs n w V * fs n l W * fs n l s := by rw [Int.mul_assoc, Int.mul_comm (fs n l s), ← Int.mul_assoc]
      _ = fs n l V * fs n w W * fs n l s := by rw [e1]
      _ = fs n l V * (fs n w W * fs n l s) := by rw [Int.mul_assoc]
  refine ⟨Int.le_of_mul_le_mul_left e2 pV, fun e => ?_⟩
  refine h.great hp hd hs G ?_
  rw [fs_lin, tz]
  have e3 : fs n l W * (fs n l V * fs n w s) = fs n l W * (fs n w V * fs n l s) := by
    calc fs n l W * (fs n l V * fs n w s) = fs n l V * (fs n w s * fs n l W) := by rw [Int.mul_comm, Int.mul_assoc]
      _ = fs n l V * (fs n w W * fs n l s) := by rw [e]
      _ = fs n l V * fs n w W * fs n l s := by rw [Int.mul_assoc]
      _ = fs n w V * fs n l W * fs n l s := by rw [e1]
      _ = fs n l W * (fs n w V * fs n l s) := by rw [Int.mul_comm (fs n w V), Int.mul_assoc]
  have := Int.eq_of_mul_eq_mul_left (by omega) e3
  omega
end
/-! the measure -/
def subs : Nat → List (List Nat)
  | 0 => [[]]
  | k + 1 => subs k ++ (subs k).map (· ++ [k + 1])
def inL (S : List Nat) : Nat → Bool := fun k => decide (k ∈ S)
/-- s as a list -/
def lst (n : Nat) (s : Nat → Bool) : List Nat := ((List.range n).map (· + 1)).filter s
theorem lst_succ (n : Nat) (s : Nat → Bool) : lst (n + 1) s = lst n s ++ (if s (n + 1) = true then [n + 1] else []) := by
  unfold lst
  rw [List.range_succ, List.map_append, List.filter_append]
  refine congrArg _ ?_
  cases e : s (n + 1) <;> simp [List.filter_cons, e]
theorem mem_lst {n : Nat} {s : Nat → Bool} {k : Nat} : k ∈ lst n s ↔ 1 ≤ k ∧ k ≤ n ∧ s k = true := by
  unfold lst
  rw [List.mem_filter, List.mem_map]
  constructor
  · rintro ⟨⟨i, hi, rfl⟩, h⟩
    have := List.mem_range.mp hi
    exact ⟨by omega, by omega, h⟩
  · rintro ⟨a, b, h⟩
    exact ⟨⟨k - 1, List.mem_range.mpr (by omega), by omega⟩, h⟩
theorem lst_subs (s : Nat → Bool) : ∀ n, lst n s ∈ subs n
  | 0 => List.mem_singleton.mpr rfl
  | n + 1 => by
    rw [lst_succ]
    show _ ∈ subs n ++ (subs n).map (· ++ [n + 1])
    rw [List.mem_append, List.mem_map]
    cases e : s (n + 1) with
    | true => exact .inr ⟨_, lst_subs s n, rfl⟩
    | false => rw [if_neg (by decide), List.append_nil]; exact .inl (lst_subs s n)
theorem fs_lst {n : Nat} {f : Nat → Int} {s : Nat → Bool} : fs n f (inL (lst n s)) = fs n f s := sm_congr fun k a b => by
  unfold inL
  have : decide (k ∈ lst n s) = s k := by
    cases e : s k with
    | true => exact decide_eq_true (mem_lst.mpr ⟨a, b, e⟩)
    | false => exact decide_eq_false fun z => by rw [(mem_lst.mp z).2.2] at e; cases e
  rw [this]
theorem sum_lst (f : Nat → Int) (s : Nat → Bool) : ∀ n, ((lst n s).map f).sum = fs n f s
  | 0 => rfl
  | n + 1 => by
    show _ = fs n f s + i0 (s (n + 1)) (f (n + 1))
    rw [lst_succ, List.map_append, List.sum_append, sum_lst f s n]
    refine congrArg _ ?_
    unfold i0
    cases e : s (n + 1) with
    | true => rw [if_pos rfl, if_pos rfl]; show f (n + 1) + 0 = _; omega
    | false => rfl
def mu (n : Nat) (w l : Nat → Int) (V : Nat → Bool) : Nat := (subs n).countP fun S => decide (fs n w V * fs n l (inL S) < fs n w (inL S) * fs n l V)
theorem cnt_lt {α : Type} {f g : α → Bool} {x : α} : ∀ {l : List α}, (∀ x, x ∈ l → f x = true → g x = true) → x ∈ l → f x = false → g x = true → l.countP f < l.countP g
  | y :: l, h, hx, fx, gx => by
    rw [List.countP_cons, List.countP_cons]
    have le : l.countP f ≤ l.countP g := List.countP_mono_left fun z hz => h z (List.mem_cons_of_mem _ hz)
    rcases List.mem_cons.mp hx with e | hx
    · subst e
      rw [fx, gx]
      simp
      omega
    · have := cnt_lt (fun z hz => h z (List.mem_cons_of_mem _ hz)) hx fx gx
      have hy := h y List.mem_cons_self
      cases e : f y with
      | true => rw [hy e]; simp; omega
      | false => cases g y <;> simp <;> omega
theorem mu_lt {n : Nat} {w l : Nat → Int} {V W : Nat → Bool} (hl : ∀ k, 1 ≤ k → k ≤ n → 1 ≤ l k) (pV : 0 < fs n l V) (pW : 0 < fs n l W) (h : fs n w V * fs n l W < fs n w W * fs n l V) : mu n w l W < mu n w l V := by
  unfold mu
  refine cnt_lt (x := lst n W) (fun S _ e => ?_) (lst_subs W n) ?_ ?_
  · have e := of_decide_eq_true e
    have sn : 0 ≤ fs n l (inL S) := fs_nn fun k a b => by have := hl k a b; omega
    refine decide_eq_true ?_
    have e1 : fs n w V * fs n l W * fs n l (inL S) ≤ fs n w W * fs n l V * fs n l (inL S) := Int.mul_le_mul_of_nonneg_right (by omega) sn
    have e2 : fs n w W * fs n l (inL S) * fs n l V < fs n w (inL S) * fs n l W * fs n l V := Int.mul_lt_mul_of_pos_right e pV
    have e3 : fs n l W * (fs n w V * fs n l (inL S)) < fs n l W * (fs n w (inL S) * fs n l V) := by
      calc fs n l W * (fs n w V * fs n l (inL S)) = fs n w V * fs n l W * fs n l (inL S) := by rw [← Int.mul_assoc, Int.mul_comm (fs n l W)]
        _ ≤ fs n w W * fs n l V * fs n l (inL S) := e1
        _ = fs n w W * fs n l (inL S) * fs n l V := by rw [Int.mul_assoc, Int.mul_comm (fs n l V), ← Int.mul_assoc]
        _ < fs n w (inL S) * fs n l W * fs n l V := e2
        _ = fs n l W * (fs n w (inL S) * fs n l V) := by rw [Int.mul_comm (fs n w (inL S)), Int.mul_assoc]
    exact Int.lt_of_mul_lt_mul_left e3 (by omega)
  · rw [fs_lst, fs_lst]
    exact decide_eq_false (by omega)
  · rw [fs_lst, fs_lst]
    exact decide_eq_true h
/-- the turn of the search: a gain above nothing is a better ratio -/
theorem step_of {n : Nat} {par : Nat → Nat} {w l g : Nat → Int} {d V W : Nat → Bool} (hp : Par n par) (hd : Cld n par d) (hl : ∀ k, 1 ≤ k → k ≤ n → 1 ≤ l k) (pV : 0 < fs n l V) (h : Wrt n par d g W) (G : GainEq n par (fun k => fs n l V * w k - fs n w V * l k) g) (z : 0 < top n par d g) : 0 < fs n l W ∧ mu n w l W < mu n w l V := by
  have hW := h.top hp hd G
  have hW' := hW
  rw [fs_lin] at hW
  obtain ⟨c, a, b, wc⟩ := fs_some (n := n) (f := fun k => fs n l V * w k - fs n w V * l k) (s := W) (by omega)
  have pW := fs_pos hl a b wc
  refine ⟨pW, mu_lt hl pV pW ?_⟩
  rw [Int.mul_comm (fs n w W)]
  omega
/-! built wall by wall -/
def ext {α : Type} (f : Nat → α) (i : Nat) (b : α) : Nat → α := fun c => if c = i then b else f c
theorem ext_at {α : Type} {f : Nat → α} {i : Nat} {b : α} : ext f i b i = b := by unfold ext; rw [if_pos rfl]
theorem ext_ne {α : Type} {f : Nat → α} {i c : Nat} {b : α} (h : c ≠ i) : ext f i b c = f c := by unfold ext; rw [if_neg h]
theorem lst_congr {n : Nat} {s t : Nat → Bool} (h : ∀ k, 1 ≤ k → k ≤ n → s k = t k) : lst n s = lst n t := by
  unfold lst
  refine List.filter_congr fun k hk => ?_
  obtain ⟨i, hi, rfl⟩ := List.mem_map.mp hk
  have := List.mem_range.mp hi
  exact h _ (by omega) (by omega)
theorem lst_ext {i : Nat} {W : Nat → Bool} {b : Bool} : lst (i + 1) (ext W (i + 1) b) = lst i W ++ if b = true then [i + 1] else [] := by
  rw [lst_succ, ext_at, lst_congr (n := i) (s := ext W (i + 1) b) (t := W) fun k _ h => ext_ne (by omega)]
theorem wrt_ext {i : Nat} {par : Nat → Nat} {d W : Nat → Bool} {g : Nat → Int} {b : Bool} (hp : Par (i + 1) par) (h : Wrt i par d g W) (hb : b = true ↔ d (i + 1) = false ∧ (par (i + 1) = 0 ∨ d (par (i + 1)) = true ∨ W (par (i + 1)) = true) ∧ 0 ≤ g (i + 1)) : Wrt (i + 1) par d g (ext W (i + 1) b) := by
  refine ⟨by rw [ext_ne (by omega)]; exact h.1, fun c a e => ?_⟩
  have lt := hp c a e
  by_cases z : c = i + 1
  · subst z
    rw [ext_at, ext_ne (by omega)]
    exact hb
  · rw [ext_ne z, ext_ne (by omega)]
    exact h.2 c a (by omega)
/-- the equations of the gains of the walls above k -/
def GainTo (n k : Nat) (par : Nat → Nat) (x g : Nat → Int) : Prop := ∀ j, k < j → j ≤ n → g j = x j + sm n fun c => i0 (decide (par c = j)) (mx (g c))
theorem gain_ext {n k : Nat} {par : Nat → Nat} {x g : Nat → Int} (hp : Par n par) (h : GainTo n (k + 1) par x g) : GainTo n k par x (ext g (k + 1) (x (k + 1) + sm n fun c => i0 (decide (par c = k + 1)) (mx (g c)))) := by
  generalize hv : (x (k + 1) + sm n fun c => i0 (decide (par c = k + 1)) (mx (g c))) = v
  have e : ∀ j, k < j → sm n (fun c => i0 (decide (par c = j)) (mx (ext g (k + 1) v c))) = sm n (fun c => i0 (decide (par c = j)) (mx (g c))) := fun j hj => sm_congr fun c a b => by
    have := hp c a b
    by_cases z : par c = j
    · rw [ext_ne (by omega)]
    · rw [decide_eq_false z]
      rfl
  intro j a b
  rw [e j a]
  by_cases z : j = k + 1
  · subst z
    rw [ext_at, hv]
  · rw [ext_ne z]
    exact h j (by omega) b
theorem lst_filter {n : Nat} {W r : Nat → Bool} : (lst n W).filter r = lst n fun c => W c && r c := by
  unfold lst
  rw [List.filter_filter]
  exact List.filter_congr fun k _ => Bool.and_comm _ _
/-- the gains of the first tunnels of the greatest addition -/
theorem sum_top {n : Nat} {par : Nat → Nat} {d W : Nat → Bool} {g : Nat → Int} (h : Wrt n par d g W) : (((lst n W).filter (rt par d)).map g).sum = top n par d g := by
  rw [lst_filter, sum_lst]
  unfold fs top
  refine sm_congr fun c a b => ?_
  have q := h.2 c a b
  show i0 (W c && rt par d c) (g c) = i0 (rt par d c) (mx (g c))
  unfold i0
  cases e : rt par d c with
  | false => rw [Bool.and_false, if_neg (by decide), if_neg (by decide)]
  | true =>
    unfold rt at e
    rw [Bool.and_eq_true, Bool.or_eq_true, Bool.not_eq_true', decide_eq_true_iff] at e
    have q' : W c = true ↔ 0 ≤ g c := q.trans ⟨fun z => z.2.2, fun z => ⟨e.1, e.2.elim .inl fun y => .inr (.inl y), z⟩⟩
    rw [Bool.and_true, if_pos rfl]
    unfold mx
    by_cases z : 0 ≤ g c
    · rw [if_pos (q'.mpr z)]
      split <;> omega
    · rw [if_neg fun y => z (q'.mp y), if_neg (by omega)]
/-! all closed sets, one by one -/
def clS (par : Nat → Nat) : Nat → List (List Nat)
  | 0 => [[]]
  | k + 1 => clS par k ++ ((clS par k).filter fun S => decide (par (k + 1) = 0) || decide (par (k + 1) ∈ S)).map (· ++ [k + 1])
theorem clS_len (par : Nat → Nat) : ∀ n, (clS par n).length ≤ 2 ^ n
  | 0 => Nat.le_refl _
  | n + 1 => by
    show (clS par n ++ ((clS par n).filter _).map _).length ≤ _
    have a := clS_len par n
    have b := Nat.le_trans (List.length_filter_le (fun S => decide (par (n + 1) = 0) || decide (par (n + 1) ∈ S)) (clS par n)) a
    rw [List.length_append, List.length_map, Nat.pow_succ]
    omega
def Inc (n : Nat) (S : List Nat) : Prop := S.Pairwise (· < ·) ∧ ∀ k, k ∈ S → 1 ≤ k ∧ k ≤ n
def ClL (n : Nat) (par : Nat → Nat) (S : List Nat) : Prop := Inc n S ∧ ∀ k, k ∈ S → par k = 0 ∨ par k ∈ S
theorem clS_ok {par : Nat → Nat} : ∀ {n : Nat} {S : List Nat}, S ∈ clS par n → ClL n par S
  | 0, S, h => by
    obtain rfl := List.mem_singleton.mp h
    exact ⟨⟨.nil, fun k hk => by cases hk⟩, fun k hk => by cases hk⟩
  | n + 1, S, h => by
    rcases List.mem_append.mp h with h | h
    · obtain ⟨⟨a, b⟩, c⟩ := clS_ok h
      exact ⟨⟨a, fun k hk => ⟨(b k hk).1, by have := (b k hk).2; omega⟩⟩, c⟩
    · obtain ⟨S', h', rfl⟩ := List.mem_map.mp h
      obtain ⟨h1, h2⟩ := List.mem_filter.mp h'
      obtain ⟨⟨a, b⟩, c⟩ := clS_ok h1
      rw [Bool.or_eq_true, decide_eq_true_iff, decide_eq_true_iff] at h2
      refine ⟨⟨List.pairwise_append.mpr ⟨a, List.pairwise_singleton _ _, fun x hx y hy => ?_⟩, fun k hk => ?_⟩, fun k hk => ?_⟩
      · obtain rfl := List.mem_singleton.mp hy
        have := (b x hx).2
        omega
      · rcases List.mem_append.mp hk with hk | hk
        · exact ⟨(b k hk).1, by have := (b k hk).2; omega⟩
        · obtain rfl := List.mem_singleton.mp hk
          exact ⟨by omega, Nat.le_refl _⟩
      · rcases List.mem_append.mp hk with hk | hk
        · exact (c k hk).imp id fun z => List.mem_append_left _ z
        · obtain rfl := List.mem_singleton.mp hk
          exact h2.imp id fun z => List.mem_append_left _ z
theorem inc_lst {n : Nat} {S : List Nat} (h : Inc n S) : S = lst n (inL S) := by
  have key : ∀ {l r : List Nat}, l.Pairwise (· < ·) → r.Pairwise (· < ·) → (∀ x, x ∈ l ↔ x ∈ r) → l = r := by
    intro l
    induction l with
    | nil =>
      intro r _ _ m
      cases r with
      | nil => rfl
      | cons b r => exact absurd ((m b).mpr List.mem_cons_self) List.not_mem_nil
    | cons a l ih =>
      intro r hl hr m
      cases r with
      | nil => exact absurd ((m a).mp List.mem_cons_self) List.not_mem_nil
      | cons b r =>
        obtain ⟨l1, l2⟩ := List.pairwise_cons.mp hl
        obtain ⟨r1, r2⟩ := List.pairwise_cons.mp hr
        have e : a = b := by
          rcases List.mem_cons.mp ((m a).mp List.mem_cons_self) with e | e
          · exact e
          rcases List.mem_cons.mp ((m b).mpr List.mem_cons_self) with e' | e'
          · exact e'.symm
          have := r1 a e
          have := l1 b e'
          omega
        subst e
        rw [ih l2 r2 fun x => ?_]
        constructor
        · intro hx
          rcases List.mem_cons.mp ((m x).mp (List.mem_cons_of_mem _ hx)) with e | e
          · have := l1 x hx
            omega
          · exact e
        · intro hx
          rcases List.mem_cons.mp ((m x).mpr (List.mem_cons_of_mem _ hx)) with e | e
          · have := r1 x hx
            omega
          · exact e
  refine key h.1 ?_ fun x => ?_
  · unfold lst
    refine List.Pairwise.filter _ ?_
    rw [List.pairwise_map]
    exact List.pairwise_lt_range.imp fun e => by omega
  · rw [mem_lst]
    unfold inL
    rw [decide_eq_true_iff]
    exact ⟨fun z => ⟨(h.2 x z).1, (h.2 x z).2, z⟩, fun z => z.2.2⟩
theorem ClL.add {n : Nat} {par : Nat → Nat} {S : List Nat} (h : ClL n par S) : Add n par (inL []) (inL S) := by
  refine ⟨?_, fun k a b e => ⟨rfl, ?_⟩⟩
  · unfold inL
    exact decide_eq_false fun z => by have := (h.1.2 0 z).1; omega
  · rcases h.2 k (of_decide_eq_true e) with z | z
    · exact .inl z
    · exact .inr (.inr (decide_eq_true z))
theorem cl_mem {par : Nat → Nat} {s : Nat → Bool} : ∀ {n : Nat}, Par n par → Add n par (inL []) s → lst n s ∈ clS par n
  | 0, _, _ => List.mem_singleton.mpr rfl
  | n + 1, hp, h => by
    have ih := cl_mem (n := n) (fun k a b => hp k a (by omega)) ⟨h.1, fun k a b => h.2 k a (by omega)⟩
    show _ ∈ clS par n ++ _
    rw [lst_succ, List.mem_append, List.mem_map]
    cases e : s (n + 1) with
    | false => rw [if_neg (by decide), List.append_nil]; exact .inl ih
    | true =>
      rw [if_pos rfl]
      refine .inr ⟨_, List.mem_filter.mpr ⟨ih, ?_⟩, rfl⟩
      rw [Bool.or_eq_true, decide_eq_true_iff, decide_eq_true_iff, mem_lst]
      have lt := hp (n + 1) (by omega) (Nat.le_refl _)
      rcases (h.2 (n + 1) (by omega) (Nat.le_refl _) e).2 with z | z | z
      · exact .inl z
      · cases z
      · by_cases c : par (n + 1) = 0
        · exact .inl c
        · exact .inr ⟨by omega, by omega, z⟩
def sumL (f : Nat → Int) (S : List Nat) : Int := (S.map f).sum
theorem sumL_fs {n : Nat} {f : Nat → Int} {S : List Nat} (h : Inc n S) : sumL f S = fs n f (inL S) := by
  unfold sumL
  rw [← sum_lst, ← inc_lst h]
theorem sumL_snoc {f : Nat → Int} {S : List Nat} {k : Nat} : sumL f (S ++ [k]) = sumL f S + f k := by
  unfold sumL
  rw [List.map_append, List.sum_append]
  show _ + (f k + 0) = _
  omega
theorem clS_hd (par : Nat → Nat) : ∀ n, ∃ T, clS par n = [] :: T ∧ ∀ S, S ∈ T → S ≠ []
  | 0 => ⟨[], rfl, fun S h => by cases h⟩
  | n + 1 => by
    obtain ⟨T, e, h⟩ := clS_hd par n
    refine ⟨T ++ ((clS par n).filter fun S => decide (par (n + 1) = 0) || decide (par (n + 1) ∈ S)).map (· ++ [n + 1]), ?_, fun S hS => ?_⟩
    · show clS par n ++ _ = _
      rw [e]
      rfl
    · rcases List.mem_append.mp hS with hS | hS
      · exact h S hS
      · obtain ⟨S', _, rfl⟩ := List.mem_map.mp hS
        simp
theorem clS_one {par : Nat → Nat} (h1 : par 1 = 0) : ∀ n, 2 ≤ (clS par (n + 1)).length
  | 0 => by
    show 2 ≤ ([[]] ++ (([[]] : List (List Nat)).filter _).map _).length
    rw [List.filter_cons, if_pos (by rw [decide_eq_true h1]; rfl)]
    exact Nat.le_refl 2
  | n + 1 => by
    have := clS_one h1 n
    show 2 ≤ (clS par (n + 1) ++ _).length
    rw [List.length_append]
    omega
/-- B is one of the best of the list -/
def BestOf (w l : Nat → Int) (T : List (List Nat)) (B : List Nat) : Prop := ∀ S, S ∈ T → sumL w S * sumL l B ≤ sumL w B * sumL l S
theorem better {a b c x y z : Int} (hx : 0 < x) (hz : 0 ≤ z) (h1 : c * x ≤ a * z) (h2 : a * y < b * x) : 0 ≤ y → c * y ≤ b * z := fun hy => by
  have e1 : c * x * y ≤ a * z * y := Int.mul_le_mul_of_nonneg_right h1 hy
  have e2 : a * y * z ≤ b * x * z := Int.mul_le_mul_of_nonneg_right (by omega) hz
  have e3 : x * (c * y) ≤ x * (b * z) := by
    calc x * (c * y) = c * x * y := by rw [← Int.mul_assoc, Int.mul_comm x c]
      _ ≤ a * z * y := e1
      _ = a * y * z := by rw [Int.mul_assoc, Int.mul_comm z y, ← Int.mul_assoc]
      _ ≤ b * x * z := e2
      _ = x * (b * z) := by rw [Int.mul_comm b x, Int.mul_assoc]
  exact Int.le_of_mul_le_mul_left e3 hx
/-- what the law finds is the greatest best set -/
theorem due_is {n : Nat} {par : Nat → Nat} {w l : Nat → Int} {T : List (List Nat)} {B : List Nat} {W c : Nat → Bool} (hp : Par n par) (hl : ∀ k, 1 ≤ k → k ≤ n → 1 ≤ l k) (e : clS par n = [] :: T) (ne : ∀ S, S ∈ T → S ≠ []) (hB : B ∈ T) (bB : BestOf w l T B) (bW : Best n par w l (inL []) W)
    (hc : ∀ k, 1 ≤ k → k ≤ n → (c k = true ↔ ∃ S, S ∈ T ∧ sumL w S * sumL l B = sumL w B * sumL l S ∧ k ∈ S)) : lst n c = lst n W := by
  have cl : ∀ S, S ∈ T → ClL n par S := fun S hS => clS_ok (by rw [e]; exact List.mem_cons_of_mem _ hS)
  have pos : ∀ S, S ∈ T → 0 < sumL l S := fun S hS => by
    have h := cl S hS
    rw [sumL_fs h.1]
    cases hs : S with
    | nil => exact absurd hs (ne S hS)
    | cons x r =>
      obtain ⟨a, b⟩ := h.1.2 x (by rw [hs]; exact List.mem_cons_self)
      exact fs_pos hl a b (decide_eq_true List.mem_cons_self)
  have sW : sumL w (lst n W) = fs n w W := sum_lst w W n
  have tW : sumL l (lst n W) = fs n l W := sum_lst l W n
  have mW : lst n W ∈ T := by
    have h := cl_mem hp bW.1
    rw [e] at h
    rcases List.mem_cons.mp h with h | h
    · have := bW.2.1
      rw [← tW, h] at this
      exact absurd this (by show ¬ (0 : Int) < 0; omega)
    · exact h
  refine lst_congr fun k a b => ?_
  rw [Bool.eq_iff_iff, hc k a b]
  have q1 := bB _ mW
  rw [sW, tW] at q1
  have iB := (cl B hB).1
  have q2 := (bW.2.2 (inL B) (cl B hB).add).1
  rw [← sumL_fs iB, ← sumL_fs iB] at q2
  constructor
  · rintro ⟨S, hS, r, hk⟩
    have iS := (cl S hS).1
    have q3 := bW.2.2 (inL S) (cl S hS).add
    rw [← sumL_fs iS, ← sumL_fs iS] at q3
    refine q3.2 ?_ k a b (decide_eq_true hk)
    have pB := pos B hB
    refine Int.eq_of_mul_eq_mul_left (a := sumL l B) (by omega) ?_
    calc sumL l B * (sumL w S * fs n l W) = sumL w S * sumL l B * fs n l W := by rw [← Int.mul_assoc, Int.mul_comm (sumL l B)]
      _ = sumL w B * sumL l S * fs n l W := by rw [r]
      _ = sumL w B * fs n l W * sumL l S := by rw [Int.mul_assoc, Int.mul_comm (sumL l S), ← Int.mul_assoc]
      _ = fs n w W * sumL l B * sumL l S := by rw [show sumL w B * fs n l W = fs n w W * sumL l B by omega]
      _ = sumL l B * (fs n w W * sumL l S) := by rw [Int.mul_comm (fs n w W), Int.mul_assoc]
  · intro wk
    exact ⟨_, mW, by rw [sW, tW]; omega, mem_lst.mpr ⟨a, b, wk⟩⟩
/-- as many as n at most -/
theorem nodup_len : ∀ {n : Nat} {X : List Nat}, X.Nodup → (∀ k, k ∈ X → 1 ≤ k ∧ k ≤ n) → X.length ≤ n
  | 0, X, _, h => by
    cases X with
    | nil => exact Nat.le_refl _
    | cons x r => have := h x List.mem_cons_self; omega
  | n + 1, X, nd, h => by
    have ih := nodup_len (n := n) (X := X.erase (n + 1)) (nd.erase _) fun k hk => by
      obtain ⟨a, b⟩ := (List.Nodup.mem_erase_iff nd).mp hk
      have := h k b
      omega
    by_cases c : n + 1 ∈ X
    · have := List.length_erase_of_mem c
      omega
    · rw [List.erase_of_not_mem c] at ih
      omega
end Tn
namespace EP
open PySem L2
/-! ### tunnels -/
/-- the value of wall k -/
def vf (vs : List Int) (k : Nat) : Int := vs.getD (k - 1) 0
theorem vf_get {vs : List Int} {k : Nat} (a : 1 ≤ k) (b : k ≤ vs.length) : vs[k - 1]? = some (vf vs k) := by
  unfold vf
  rw [List.getD_eq_getElem?_getD, List.getElem?_eq_getElem (by omega)]
  rfl
theorem ints_get {ns : List Int} {j : Nat} {x : Int} (h : ns[j]? = some x) : (ns.map V.int)[j]? = some (V.int x) := by
  rw [List.getElem?_map, h]
  rfl
theorem vf_at {vs : List Int} {k : Nat} {i : Int} (a : 1 ≤ k) (b : k ≤ vs.length) (e : i = ((k : Nat) : Int) - 1) : atI (vs.map V.int) i = some (V.int (vf vs k)) := at_of (j := k - 1) (by omega) (ints_get (vf_get a b))
theorem par_at {ps : List Nat} {k : Nat} {i : Int} (ok : Tr.Ok ps) (a : 1 ≤ k) (b : k ≤ ps.length) (e : i = ((k : Nat) : Int) - 1) : atI (nvs ps) i = some (V.int (Tr.par ps k : Nat)) := at_of (j := k - 1) (by omega) (nvs_get (Tr.par_eq ok a b))
def Bd (vs : List Int) : Prop := ∀ v, v ∈ vs → 0 ≤ v ∧ v < 2 ^ 40
theorem Bd.vf {vs : List Int} (h : Bd vs) (k : Nat) : 0 ≤ vf vs k ∧ vf vs k < 2 ^ 40 := by
  unfold EP.vf
  by_cases c : k - 1 < vs.length
  · rw [List.getD_eq_getElem?_getD, List.getElem?_eq_getElem c]
    exact h _ (List.getElem_mem c)
  · rw [List.getD_eq_getElem?_getD, List.getElem?_eq_none (by omega)]
    exact ⟨Int.le_refl _, by decide⟩
theorem fs_bd {vs : List Int} (h : Bd vs) (s : Nat → Bool) : ∀ n, 0 ≤ Tn.fs n (vf vs) s ∧ Tn.fs n (vf vs) s ≤ n * 2 ^ 40
  | 0 => ⟨Int.le_refl _, by show (0 : Int) ≤ _; omega⟩
  | n + 1 => by
    have a := fs_bd h s n
    have b := h.vf (n + 1)
    show 0 ≤ Tn.fs n (vf vs) s + Tn.i0 (s (n + 1)) (vf vs (n + 1)) ∧ Tn.fs n (vf vs) s + Tn.i0 (s (n + 1)) (vf vs (n + 1)) ≤ _
    unfold Tn.i0
    split <;> omega
theorem par_ok {ps : List Nat} : Tn.Par ps.length (Tr.par ps) := fun k a _ => Tr.par_lt ps a
/-- the first item that is below m -/
def LowAt (ns : List Int) (m : Int) (j : Nat) : Prop := (∃ p, ns[j]? = some p ∧ p < m) ∧ ∀ i p, i < j → ns[i]? = some p → m ≤ p
theorem LowAt.uniq {ns : List Int} {m : Int} {i j : Nat} (a : LowAt ns m i) (b : LowAt ns m j) : i = j := by
  obtain ⟨⟨p, hp, cp⟩, fp⟩ := a
  obtain ⟨⟨q, hq, cq⟩, fq⟩ := b
  by_cases h : i < j
  · have := fq i p h hp
    omega
  · by_cases h2 : j < i
    · have := fp j q h2 hq
      omega
    · omega
/-- what is wrong with a list of n numbers of at least m -/
def Fault (ns : List Int) (m : Int) (n : Nat) (z : Int) : Prop := (∃ j : Nat, z = ((j : Nat) : Int) ∧ LowAt ns m j) ∨ ((∀ v, v ∈ ns → m ≤ v) ∧ z = (ns.length : Nat) ∧ ns.length ≠ n)
def NoFault (ns : List Int) (m : Int) (n : Nat) : Prop := (∀ v, v ∈ ns → m ≤ v) ∧ ns.length = n
theorem Fault.no {ns : List Int} {m : Int} {n : Nat} {z : Int} (f : Fault ns m n z) (g : NoFault ns m n) : False := by
  rcases f with ⟨j, _, ⟨p, hp, c⟩, _⟩ | ⟨_, _, c⟩
  · have := g.1 p (List.mem_of_getElem? hp)
    omega
  · exact c g.2
theorem Fault.uniq {ns : List Int} {m : Int} {n : Nat} {z y : Int} (f : Fault ns m n z) (g : Fault ns m n y) : z = y := by
  rcases f with ⟨j, rfl, hj⟩ | ⟨a, rfl, c⟩
  · rcases g with ⟨i, rfl, hi⟩ | ⟨a, _, _⟩
    · rw [hj.uniq hi]
    · obtain ⟨⟨p, hp, c⟩, _⟩ := hj
      have := a p (List.mem_of_getElem? hp)
      omega
  · rcases g with ⟨i, _, ⟨p, hp, c'⟩, _⟩ | ⟨_, rfl, _⟩
    · have := a p (List.mem_of_getElem? hp)
      omega
    · rfl
/-- an object of Tunnels -/
def TunAt (K : PySem.W.Frag) (C CS : Addr) (H : Hp) (s : Addr) (ps : List Nat) (ls : List Int) : Prop := ∃ dx sh t : Addr, H s = some (.ins C dx [("shape", .ref sh), ("lengths", .ref t)]) ∧ ShapeAt K CS H sh ps ∧ SqT K H t (ls.map V.int) ∧ ls.length = ps.length ∧ (∀ v, v ∈ ls → 1 ≤ v ∧ v < 2 ^ 40)
theorem TunAt.same {K : PySem.W.Frag} {C CS : Addr} {H H' : Hp} {s : Addr} {ps : List Nat} {ls : List Int} (T : TunAt K C CS H s ps ls) (e : Same H H') : TunAt K C CS H' s ps ls := by
  obtain ⟨dx, sh, t, h1, h2, h3, h4⟩ := T
  exact ⟨dx, sh, t, e _ _ h1, h2.same e, SqT_same e h3, h4⟩
theorem TunAt.bd {K : PySem.W.Frag} {C CS : Addr} {H : Hp} {s : Addr} {ps : List Nat} {ls : List Int} (T : TunAt K C CS H s ps ls) : ls.length = ps.length ∧ Bd ls ∧ ∀ k, 1 ≤ k → k ≤ ps.length → 1 ≤ vf ls k := by
  obtain ⟨dx, sh, t, h1, h2, h3, h4, h5⟩ := T
  refine ⟨h4, fun v hv => ?_, fun k a b => ?_⟩
  · have := h5 v hv
    omega
  · exact (h5 _ (List.mem_of_getElem? (vf_get a (by omega)))).1
theorem TunAt.ok {K : PySem.W.Frag} {C CS : Addr} {H : Hp} {s : Addr} {ps : List Nat} {ls : List Int} (T : TunAt K C CS H s ps ls) : Tr.Ok ps ∧ 1 ≤ ps.length ∧ ps.length ≤ 1000 := by
  obtain ⟨dx, sh, t, h1, h2, _⟩ := T
  exact ⟨h2.1, h2.pos, h2.small⟩
theorem tun_l0 : ([("shape", V.ref 0), ("lengths", V.ref 0)] : List (Str × V)).length < 1000 := by decide
theorem lst_incr (n : Nat) (W : Nat → Bool) : (Tn.lst n W).Pairwise (· < ·) := by
  unfold Tn.lst
  refine List.Pairwise.filter _ ?_
  rw [List.pairwise_map]
  exact List.pairwise_lt_range.imp fun e => by omega
theorem mem_toIT {M : List Nat} {p : Nat} : (p : Int) ∈ toI M ↔ p ∈ M := by
  unfold toI
  constructor
  · intro h
    obtain ⟨q, hq, e⟩ := List.mem_map.mp h
    rwa [show p = q by omega]
  · exact fun h => List.mem_map_of_mem h
/-- a rising list of the members of L -/
theorem rising_is {L : List Nat} {N : List Int} (incL : L.Pairwise (· < ·)) (inc : N.Pairwise (· < ·)) (mN : ∀ k : Int, k ∈ N ↔ k ∈ toI L) : N = toI L := by
  obtain ⟨M, rfl⟩ := ints_are (N := N) fun k hk => by
    have h := (mN k).mp hk
    unfold toI at h
    obtain ⟨q, _, e⟩ := List.mem_map.mp h
    exact ⟨q, e.symm⟩
  exact congrArg toI (incr_eq (toI_incr inc) incL fun p => by rw [← mem_toIT, mN, mem_toIT])
theorem ShapeAt.insU {K : PySem.W.Frag} {C CS : Addr} {H : Hp} {s x dx : Addr} {fs : List (Str × V)} {o : HO} {ps : List Nat} (S : ShapeAt K CS H x ps) (hs : H s = some (.ins C dx fs)) (n : x ≠ s) : ShapeAt K CS (upd H s o) x ps := by
  obtain ⟨ok, p, sm, dx', b, d, kvs, h1, h2, h3, h4⟩ := S
  exact ⟨ok, p, sm, dx', b, d, kvs, by rw [upd_ne n]; exact h1, SqT_ins hs h2, by rw [upd_ne (fun z => by rw [z, hs] at h3; cases h3)]; exact h3, h4⟩
theorem SqL_ins {K : PySem.W.Frag} {H : Hp} {a s C dx : Addr} {fs : List (Str × V)} {o : HO} {xs : List V} (hs : H s = some (.ins C dx fs)) (h : SqL K H a xs) : SqL K (upd H s o) a xs := by
  rcases h with (h | ⟨od, h⟩) | h
  · exact .inl (.inl (by rw [upd_ne (fun z => by rw [z, hs] at h; cases h)]; exact h))
  · exact .inl (.inr ⟨od, by rw [upd_ne (fun z => by rw [z, hs] at h; cases h)]; exact h⟩)
  · exact .inr h
theorem put_tun {x t : Addr} : putF "lengths" (V.ref t) (putF "shape" (V.ref x) []) = ([("shape", V.ref x), ("lengths", V.ref t)] : List (Str × V)) := by first | rfl | kernel_rfl
/-! promises -/
def spFault (K : PySem.W.Frag) : Sp := fun vs H Q _ => ∃ (l : Addr) (ns : List Int) (m : Int) (n : Nat), vs = [.ref l, .int m, .int n] ∧ SqE K H l (ns.map V.int) ∧ ns.length ≤ 1000 ∧
  (∀ z H', Fault ns m n z → Same H H' → Q (.int z) H') ∧ (NoFault ns m n → ∀ H', Same H H' → Q .non H')
def spTunInit (K : PySem.W.Frag) (C CS : Addr) : Sp := fun vs H Q _ => ∃ (s dx a b : Addr) (ps : List Nat) (ls : List Int), vs = [.ref s, .ref a, .ref b] ∧ H s = some (.ins C dx []) ∧ SqE K H a (nvs ps) ∧ Tr.Ok ps ∧ 1 ≤ ps.length ∧ ps.length ≤ 900 ∧ SqE K H b (ls.map V.int) ∧ ls.length = ps.length ∧ (∀ v, v ∈ ls → 1 ≤ v ∧ v < 2 ^ 40) ∧
  ∀ H', But s H H' → TunAt K C CS H' s ps ls → Q .non H'
def spChkTun (K : PySem.W.Frag) (C CS : Addr) : Sp := fun vs H Q _ => ∃ (s l : Addr) (ps : List Nat) (ls : List Int) (L : List Nat), vs = [.ref s, .ref l] ∧ TunAt K C CS H s ps ls ∧ SqL K H l (nvs L) ∧ L.length ≤ 1000 ∧ (∀ k, k ∈ L → 1 ≤ k ∧ k ≤ ps.length) ∧ Q .non H
def spTotalT (K : PySem.W.Frag) (C CS : Addr) : Sp := fun vs H Q _ => ∃ (s v l : Addr) (ps : List Nat) (ls us : List Int) (W : Nat → Bool), vs = [.ref s, .ref v, .ref l] ∧ TunAt K C CS H s ps ls ∧ SqE K H v (us.map V.int) ∧ us.length = ps.length ∧ ps.length ≤ 60 ∧ SqL K H l (nvs (Tn.lst ps.length W)) ∧
  ∀ H', Same H H' → Q (.int (Tn.fs ps.length (vf us) W)) H'
def spParent (K : PySem.W.Frag) (C CS : Addr) : Sp := fun vs H Q _ => ∃ (s : Addr) (ps : List Nat) (ls : List Int) (k : Nat), vs = [.ref s, .int k] ∧ TunAt K C CS H s ps ls ∧ 1 ≤ k ∧ k ≤ ps.length ∧ Q (.int (Tr.par ps k : Nat)) H
def spBranching (K : PySem.W.Frag) (C CS : Addr) : Sp := fun vs H Q _ => ∃ (s : Addr) (ps : List Nat) (ls : List Int) (p : Nat), vs = [.ref s, .int p] ∧ TunAt K C CS H s ps ls ∧ ∀ r H', Same H H' → H r = none → H' r = some (.lst (nvs (Tn.lst ps.length fun c => decide (Tr.par ps c = p)))) → Q (.ref r) H'
def spChkW (K : PySem.W.Frag) (C CS D : Addr) : Sp := fun vs H Q E => ∃ (s v : Addr) (ps : List Nat) (ls ws : List Int), vs = [.ref s, .ref v] ∧ TunAt K C CS H s ps ls ∧ SqE K H v (ws.map V.int) ∧ ws.length ≤ 900 ∧
  (NoFault ws 0 ps.length → ∀ H', Same H H' → Q .non H') ∧
  (∀ z, Fault ws 0 ps.length z → ∀ d H', Same H H' → H d = none → H' d = some (.xd [("place", .int z)]) → E (.ref D) (some d) H')
/-- at d the dict of the gains g of n walls -/
def GDict (H : Hp) (d : Addr) (n : Nat) (g : Nat → Int) : Prop := ∃ kvs : List (Key × V), H d = some (.dK kvs) ∧ ∀ k : Nat, 1 ≤ k → k ≤ n → valV kvs (.inl (k : Int)) = some (.int (g k))
theorem GDict.same {H H' : Hp} {d : Addr} {n : Nat} {g : Nat → Int} (h : GDict H d n g) (e : Same H H') : GDict H' d n g := by
  obtain ⟨kvs, h1, h2⟩ := h
  exact ⟨kvs, e _ _ h1, h2⟩
theorem GDict.get {H : Hp} {d : Addr} {n : Nat} {g : Nat → Int} (h : GDict H d n g) {k : Nat} (a : 1 ≤ k) (b : k ≤ n) : DGet H d (.int (k : Int)) (some (.int (g k))) := by
  obtain ⟨kvs, h1, h2⟩ := h
  rw [← h2 k a b]
  exact DGet.k (k := Sum.inl (k : Int)) h1
def spGains (K : PySem.W.Frag) (C CS : Addr) : Sp := fun vs H Q _ => ∃ (s v : Addr) (ps : List Nat) (ls ws : List Int) (a b : Int), vs = [.ref s, .ref v, .int a, .int b] ∧ TunAt K C CS H s ps ls ∧ SqE K H v (ws.map V.int) ∧ ws.length = ps.length ∧ ps.length ≤ 60 ∧ Bd ws ∧ (0 ≤ a ∧ a < 2 ^ 50) ∧ (0 ≤ b ∧ b < 2 ^ 50) ∧
  ∀ r g H', Tn.GainEq ps.length (Tr.par ps) (fun k => b * vf ws k - a * vf ls k) g → Same H H' → H r = none → GDict H' r ps.length g → Q (.ref r) H'
def spBorder (K : PySem.W.Frag) (C CS : Addr) : Sp := fun vs H Q _ => ∃ (s l : Addr) (ps : List Nat) (ls : List Int) (Dg : List Nat) (c : Nat), vs = [.ref s, .ref l, .int c] ∧ TunAt K C CS H s ps ls ∧ SqL K H l (nvs Dg) ∧ 1 ≤ c ∧ c ≤ ps.length ∧ Q (.bl (Tn.rt (Tr.par ps) (Tn.inL Dg) c)) H
def spWorth (K : PySem.W.Frag) (C CS : Addr) : Sp := fun vs H Q _ => ∃ (s d l : Addr) (ps : List Nat) (ls : List Int) (g : Nat → Int) (Dg : List Nat), vs = [.ref s, .ref d, .ref l] ∧ TunAt K C CS H s ps ls ∧ GDict H d ps.length g ∧ SqL K H l (nvs Dg) ∧
  ∀ r W H', Tn.Wrt ps.length (Tr.par ps) (Tn.inL Dg) g W → Same H H' → H r = none → H' r = some (.lst (nvs (Tn.lst ps.length W))) → Q (.ref r) H'
def spBestAdd (K : PySem.W.Frag) (C CS : Addr) : Sp := fun vs H Q _ => ∃ (s v l : Addr) (ps : List Nat) (ls ws : List Int) (Dg : List Nat), vs = [.ref s, .ref v, .ref l] ∧ TunAt K C CS H s ps ls ∧ SqE K H v (ws.map V.int) ∧ ws.length = ps.length ∧ ps.length ≤ 60 ∧ Bd ws ∧ SqL K H l (nvs Dg) ∧ Tn.Cld ps.length (Tr.par ps) (Tn.inL Dg) ∧ (∃ c, 1 ≤ c ∧ c ≤ ps.length ∧ c ∉ Dg) ∧
  ∀ r t W H', Tn.Best ps.length (Tr.par ps) (vf ws) (vf ls) (Tn.inL Dg) W → Same H H' → H r = none → H t = none → r ≠ t → H' r = some (.lst (nvs (Tn.lst ps.length W))) → H' t = some (.tup [.int (Tn.fs ps.length (vf ws) W), .int (Tn.fs ps.length (vf ls) W), .ref r]) → Q (.ref t) H'
def spBestSet (K : PySem.W.Frag) (C CS D : Addr) : Sp := fun vs H Q E => ∃ (s v : Addr) (ps : List Nat) (ls ws : List Int), vs = [.ref s, .ref v] ∧ TunAt K C CS H s ps ls ∧ SqE K H v (ws.map V.int) ∧ ws.length ≤ 900 ∧ ps.length ≤ 60 ∧ (∀ v, v ∈ ws → v < 2 ^ 40) ∧
  (NoFault ws 0 ps.length → ∀ r t W H', Tn.Best ps.length (Tr.par ps) (vf ws) (vf ls) (Tn.inL []) W → Same H H' → H r = none → H t = none → r ≠ t → H' r = some (.lst (nvs (Tn.lst ps.length W))) → H' t = some (.tup [.int (Tn.fs ps.length (vf ws) W), .int (Tn.fs ps.length (vf ls) W), .ref r]) → Q (.ref t) H') ∧
  (∀ z, Fault ws 0 ps.length z → ∀ d H', Same H H' → H d = none → H' d = some (.xd [("place", .int z)]) → E (.ref D) (some d) H')
/-! ### the law of the best ratio -/
def Bd2 (vs : List Int) : Prop := ∀ v, v ∈ vs → -(2 ^ 40) < v ∧ v < 2 ^ 40
/-- a set as the law keeps it: its length, its weight, its tunnels -/
def SetT (H : Hp) (ls ws : List Int) (r : Addr) (S : List Nat) : Prop := ∃ q : Addr, H r = some (.tup [.int (Tn.sumL (vf ls) S), .int (Tn.sumL (vf ws) S), .ref q]) ∧ H q = some (.lst (nvs S))
theorem SetT.same {H H' : Hp} {ls ws : List Int} {r : Addr} {S : List Nat} (h : SetT H ls ws r S) (e : Same H H') : SetT H' ls ws r S := by
  obtain ⟨q, h1, h2⟩ := h
  exact ⟨q, e _ _ h1, e _ _ h2⟩
def SetsAt (H : Hp) (ls ws : List Int) (a : Addr) (L : List (List Nat)) : Prop := ∃ rs : List Addr, H a = some (.lst (rs.map V.ref)) ∧ rs.length = L.length ∧ ∀ (i : Nat) (r : Addr) (S : List Nat), rs[i]? = some r → L[i]? = some S → SetT H ls ws r S
theorem SetsAt.same {H H' : Hp} {ls ws : List Int} {a : Addr} {L : List (List Nat)} (h : SetsAt H ls ws a L) (e : Same H H') : SetsAt H' ls ws a L := by
  obtain ⟨rs, h1, h2, h3⟩ := h
  exact ⟨rs, e _ _ h1, h2, fun i r S a b => (h3 i r S a b).same e⟩
/-- .. a list of new ones, growing at m -/
def MoreAt (H1 H : Hp) (ls ws : List Int) (m : Addr) (L : List (List Nat)) : Prop := ∃ rs : List Addr, H m = some (.lst (rs.map V.ref)) ∧ rs.length = L.length ∧ Same H1 H ∧ ∀ (i : Nat) (r : Addr) (S : List Nat), rs[i]? = some r → L[i]? = some S → ∃ q : Addr, r ≠ m ∧ q ≠ m ∧ H r = some (.tup [.int (Tn.sumL (vf ls) S), .int (Tn.sumL (vf ws) S), .ref q]) ∧ H q = some (.lst (nvs S))
theorem MoreAt.sets {H1 H : Hp} {ls ws : List Int} {m : Addr} {L : List (List Nat)} (h : MoreAt H1 H ls ws m L) : SetsAt H ls ws m L := by
  obtain ⟨rs, h1, h2, h3, h4⟩ := h
  exact ⟨rs, h1, h2, fun i r S a b => let ⟨q, _, _, x, y⟩ := h4 i r S a b; ⟨q, x, y⟩⟩
theorem MoreAt.nil {H1 : Hp} {ls ws : List Int} {m : Addr} (n : H1 m = none) : MoreAt H1 (upd H1 m (.lst [])) ls ws m [] := ⟨[], upd_same, rfl, same_new n, fun i r S h _ => by simp at h⟩
theorem MoreAt.snoc {H1 H H2 : Hp} {ls ws : List Int} {m r q : Addr} {L : List (List Nat)} {S : List Nat} (h : MoreAt H1 H ls ws m L) (nm : H1 m = none) (s : Same H H2) (nr : H r = none) (nq : H q = none)
    (hr : H2 r = some (.tup [.int (Tn.sumL (vf ls) S), .int (Tn.sumL (vf ws) S), .ref q])) (hq : H2 q = some (.lst (nvs S))) :
    ∃ acc, H2 m = some (.lst acc) ∧ acc.length = L.length ∧ MoreAt H1 (upd H2 m (.lst (acc ++ [V.ref r]))) ls ws m (L ++ [S]) := by
  obtain ⟨rs, h1, h2, h3, h4⟩ := h
  have rm : r ≠ m := (ne_of_none h1 nr).symm
  have qm : q ≠ m := (ne_of_none h1 nq).symm
  refine ⟨_, s _ _ h1, by rw [List.length_map]; exact h2, rs ++ [r], by rw [upd_same, List.map_append]; rfl, by rw [List.length_append, List.length_append, h2]; rfl, same_mut (h3.trans s) nm, fun i r' S' hi hS => ?_⟩
  rw [List.getElem?_append] at hi hS
  by_cases c : i < rs.length
  · rw [if_pos c] at hi
    rw [if_pos (by omega)] at hS
    obtain ⟨q', a, b, x, y⟩ := h4 i r' S' hi hS
    exact ⟨q', a, b, by rw [upd_ne a]; exact s _ _ x, by rw [upd_ne b]; exact s _ _ y⟩
  · rw [if_neg c] at hi
    rw [if_neg (by omega)] at hS
    have e0 : i - rs.length = 0 := by
      cases e : i - rs.length with
      | zero => rfl
      | succ z => rw [e] at hi; cases hi
    rw [e0] at hi
    rw [show i - L.length = 0 by omega] at hS
    obtain rfl : r = r' := Option.some.inj hi
    obtain rfl : S = S' := Option.some.inj hS
    exact ⟨q, rm, qm, by rw [upd_ne rm]; exact hr, by rw [upd_ne qm]; exact hq⟩
theorem SetsAt.app {H H' : Hp} {ls ws : List Int} {a m z : Addr} {L M : List (List Nat)} (h : SetsAt H ls ws a L) (g : SetsAt H ls ws m M) (e : Same H H') :
    ∃ xs ys, H a = some (.lst xs) ∧ H m = some (.lst ys) ∧ xs.length = L.length ∧ ys.length = M.length ∧ (H' z = some (.lst (xs ++ ys)) → SetsAt H' ls ws z (L ++ M)) := by
  obtain ⟨rs, h1, h2, h3⟩ := h
  obtain ⟨us, g1, g2, g3⟩ := g
  refine ⟨_, _, h1, g1, by rw [List.length_map]; exact h2, by rw [List.length_map]; exact g2, fun hz => ⟨rs ++ us, by rw [hz, List.map_append], by rw [List.length_append, List.length_append, h2, g2], fun i r S hi hS => ?_⟩⟩
  rw [List.getElem?_append] at hi hS
  by_cases c : i < rs.length
  · rw [if_pos c] at hi
    rw [if_pos (by omega)] at hS
    exact (h3 i r S hi hS).same e
  · rw [if_neg c] at hi
    rw [if_neg (by omega)] at hS
    exact (g3 _ r S hi (by rw [h2]; exact hS)).same e
theorem SetsAt.get {H : Hp} {ls ws : List Int} {a : Addr} {L : List (List Nat)} (h : SetsAt H ls ws a L) {i : Nat} {S : List Nat} (hS : L[i]? = some S) : ∃ xs r, H a = some (.lst xs) ∧ xs.length = L.length ∧ xs[i]? = some (V.ref r) ∧ SetT H ls ws r S := by
  obtain ⟨rs, h1, h2, h3⟩ := h
  have hi := (List.getElem?_eq_some_iff.mp hS).1
  have hr := List.getElem?_eq_getElem (l := rs) (i := i) (by omega)
  exact ⟨_, rs[i], h1, by rw [List.length_map]; exact h2, by rw [List.getElem?_map, hr]; rfl, h3 i _ S hr hS⟩
theorem sum_bd {vs : List Int} (h : Bd vs) {n : Nat} {S : List Nat} (hS : Tn.Inc n S) : 0 ≤ Tn.sumL (vf vs) S ∧ Tn.sumL (vf vs) S ≤ n * 2 ^ 40 := by
  rw [Tn.sumL_fs hS]
  exact fs_bd h _ n
def spClosed (K : PySem.W.Frag) : Sp := fun vs H Q _ => ∃ (p l w : Addr) (ps : List Nat) (ls ws : List Int), vs = [.ref p, .ref l, .ref w] ∧ SqL K H p (nvs ps) ∧ SqL K H l (ls.map V.int) ∧ SqL K H w (ws.map V.int) ∧ Tr.Ok ps ∧ ls.length = ps.length ∧ ws.length = ps.length ∧ ps.length ≤ 8 ∧ ∀ a H', Same H H' → H a = none → SetsAt H' ls ws a (Tn.clS (Tr.par ps) ps.length) → Q (.ref a) H'
def spBestL : Sp := fun vs H Q _ => ∃ (a : Addr) (n : Nat) (par : Nat → Nat) (ls ws : List Int) (T : List (List Nat)), vs = [.ref a] ∧ SetsAt H ls ws a ([] :: T) ∧ T.length ≤ 300 ∧ 1 ≤ T.length ∧ n ≤ 8 ∧ Bd ls ∧ Bd ws ∧ (∀ S, S ∈ T → Tn.Inc n S ∧ 0 < Tn.sumL (vf ls) S) ∧ ∀ r B H', Same H H' → B ∈ T → Tn.BestOf (vf ws) (vf ls) T B → SetT H' ls ws r B → Q (.ref r) H'
def spUnion : Sp := fun vs H Q _ => ∃ (a b : Addr) (n : Nat) (ls ws : List Int) (T : List (List Nat)) (B : List Nat), vs = [.ref a, .ref b] ∧ SetsAt H ls ws a ([] :: T) ∧ SetT H ls ws b B ∧ B ∈ T ∧ T.length ≤ 300 ∧ n ≤ 8 ∧ Bd ls ∧ Bd ws ∧ (∀ S, S ∈ T → Tn.Inc n S) ∧ ∀ r c H', (∀ k, 1 ≤ k → k ≤ n → (c k = true ↔ ∃ S, S ∈ T ∧ Tn.sumL (vf ws) S * Tn.sumL (vf ls) B = Tn.sumL (vf ws) B * Tn.sumL (vf ls) S ∧ k ∈ S)) → Same H H' → H r = none → H' r = some (.lst (nvs (Tn.lst n c))) → Q (.ref r) H'
/-- what the law calls due -/
def IsDue (n : Nat) (par : Nat → Nat) (ws ls : List Int) (c : Nat → Bool) : Prop := ∀ W, Tn.Best n par (vf ws) (vf ls) (Tn.inL []) W → Tn.lst n c = Tn.lst n W
def spDue (K : PySem.W.Frag) : Sp := fun vs H Q _ => ∃ (p l w : Addr) (ps : List Nat) (ls ws : List Int), vs = [.ref p, .ref l, .ref w] ∧ SqL K H p (nvs ps) ∧ SqL K H l (ls.map V.int) ∧ SqL K H w (ws.map V.int) ∧ Tr.Ok ps ∧ 1 ≤ ps.length ∧ ls.length = ps.length ∧ ws.length = ps.length ∧ ps.length ≤ 8 ∧ Bd ws ∧ Bd ls ∧ (∀ v, v ∈ ls → 1 ≤ v) ∧
  ∀ r t c H', IsDue ps.length (Tr.par ps) ws ls c → Same H H' → H r = none → H t = none → H' r = some (.lst (nvs (Tn.lst ps.length c))) → H' t = some (.tup [.int (Tn.fs ps.length (vf ws) c), .int (Tn.fs ps.length (vf ls) c), .ref r]) → Q (.ref t) H'
def spWrong (K : PySem.W.Frag) : Sp := fun vs H Q _ => ∃ (l : Addr) (ns : List Int) (m : Int) (n : Nat), vs = [.ref l, .int m, .int n] ∧ SqL K H l (ns.map V.int) ∧ ns.length ≤ 1000 ∧ (∀ z, Fault ns m n z → Q (.int z) H) ∧ (NoFault ns m n → Q .non H)
theorem cutA_from {xs : List V} {k : Nat} (h : k ≤ xs.length) : cutV xs (some (k : Int)) none = xs.drop k := by
  unfold cutV
  rw [HT.sIx_none, HT.sIx_nat, Nat.min_eq_left h, List.take_of_length_le (by simp)]
theorem SetsAt.all {H : Hp} {ls ws : List Int} {a : Addr} {L : List (List Nat)} (h : SetsAt H ls ws a L) : ∃ xs, H a = some (.lst xs) ∧ xs.length = L.length ∧ ∀ (i : Nat) (x : V), xs[i]? = some x → ∃ r S, x = V.ref r ∧ L[i]? = some S ∧ SetT H ls ws r S := by
  obtain ⟨rs, h1, h2, h3⟩ := h
  refine ⟨_, h1, by rw [List.length_map]; exact h2, fun i x hx => ?_⟩
  rw [List.getElem?_map] at hx
  cases e : rs[i]? with
  | none => rw [e] at hx; cases hx
  | some r =>
    rw [e] at hx
    have hi := (List.getElem?_eq_some_iff.mp e).1
    have hS := List.getElem?_eq_getElem (l := L) (i := i) (by omega)
    exact ⟨r, _, (Option.some.inj hx).symm, hS, h3 i r _ e hS⟩
/-- what is due, as the law keeps it at d -/
def DueAt (H : Hp) (n : Nat) (par : Nat → Nat) (ws ls : List Int) (d : Addr) : Prop := ∃ (q : Addr) (c : Nat → Bool), IsDue n par ws ls c ∧ H d = some (.tup [.int (Tn.fs n (vf ws) c), .int (Tn.fs n (vf ls) c), .ref q]) ∧ H q = some (.lst (nvs (Tn.lst n c)))
theorem DueAt.same {H H' : Hp} {n : Nat} {par : Nat → Nat} {ws ls : List Int} {d : Addr} (h : DueAt H n par ws ls d) (e : Same H H') : DueAt H' n par ws ls d := by
  obtain ⟨q, c, h1, h2, h3⟩ := h
  exact ⟨q, c, h1, e _ _ h2, e _ _ h3⟩
/-- .. of the best set W -/
theorem DueAt.best {H : Hp} {n : Nat} {par : Nat → Nat} {ws ls : List Int} {d : Addr} {W : Nat → Bool} (h : DueAt H n par ws ls d) (b : Tn.Best n par (vf ws) (vf ls) (Tn.inL []) W) : ∃ q : Addr, H d = some (.tup [.int (Tn.fs n (vf ws) W), .int (Tn.fs n (vf ls) W), .ref q]) ∧ H q = some (.lst (nvs (Tn.lst n W))) := by
  obtain ⟨q, c, h1, h2, h3⟩ := h
  have e := h1 W b
  have f : ∀ f : Nat → Int, Tn.fs n f c = Tn.fs n f W := fun f => by rw [← Tn.sum_lst, ← Tn.sum_lst, e]
  rw [f, f] at h2
  rw [e] at h3
  exact ⟨q, h2, h3⟩
theorem TunAt.but {K : PySem.W.Frag} {C CS : Addr} {H H' : Hp} {s t u : Addr} {ps : List Nat} {ls : List Int} (T : TunAt K C CS H s ps ls) (hT : Tape H t u) (e : But t H H') : TunAt K C CS H' s ps ls := by
  obtain ⟨dx, sh, tp, h1, h2, h3, h4⟩ := T
  have hT' := hT
  obtain ⟨xs, i, b, s', c, ht, _⟩ := hT
  refine ⟨dx, sh, tp, e s _ (fun z => by rw [z, ht] at h1; cases h1) h1, h2.but hT' e, ?_, h4⟩
  rcases h3 with h3 | h3
  · rcases h3 with h3 | ⟨o', h3⟩
    · exact .inl (.inl (e tp _ (fun z => by rw [z, ht] at h3; cases h3) h3))
    · exact .inl (.inr ⟨o', e tp _ (fun z => by rw [z, ht] at h3; cases h3) h3⟩)
  · exact .inr h3
def spRight (K : PySem.W.Frag) (C CS : Addr) : Sp := fun vs H Q _ => ∃ (m w d : Addr) (ps : List Nat) (ls ws : List Int), vs = [.ref m, .ref w, .ref d] ∧ TunAt K C CS H m ps ls ∧ H w = some (.lst (ws.map V.int)) ∧ ws.length = ps.length ∧ ps.length ≤ 8 ∧ Bd ws ∧ DueAt H ps.length (Tr.par ps) ws ls d ∧ ∀ H', Same H H' → Q (.bl true) H'
def spRefT (K : PySem.W.Frag) (C CS : Addr) : Sp := fun vs H Q _ => ∃ (m w p l : Addr) (ps : List Nat) (ls ws : List Int), vs = [.ref m, .ref w, .ref p, .ref l] ∧ TunAt K C CS H m ps ls ∧ H w = some (.lst (ws.map V.int)) ∧ ws.length ≤ 20 ∧ (∀ v, v ∈ ws → v < 2 ^ 40) ∧ H p = some (.lst (nvs ps)) ∧ H l = some (.lst (ls.map V.int)) ∧ ps.length ≤ 8 ∧ ∀ H', Same H H' → Q (.bl true) H'
def spSpoiltT : Sp := fun vs H Q _ => ∃ (t u w : Addr) (ws : List Int), vs = [.ref t, .ref w, .int 0] ∧ Tape H t u ∧ H w = some (.lst (ws.map V.int)) ∧ ws.length ≤ 8 ∧ Bd ws ∧ ∀ (r : Addr) (ns : List Int) (H' : Hp), ns.length ≤ 9 → (∀ v, v ∈ ns → v < 2 ^ 40) → Tape H' t u → But t H H' → H' r = some (.lst (ns.map V.int)) → Q (.ref r) H'
def spDug : Sp := fun vs H Q _ => ∃ (t u : Addr), vs = [.ref t] ∧ Tape H t u ∧ ∀ (r p l w : Addr) (ps : List Nat) (ls ws : List Int) (H' : Hp), Tr.Ok ps → 1 ≤ ps.length → ps.length ≤ 8 → ls.length = ps.length → ws.length = ps.length → Bd ws → (∀ v, v ∈ ls → 1 ≤ v ∧ v < 2 ^ 40) → Tape H' t u → But t H H' → H' r = some (.tup [.ref p, .ref l, .ref w]) → H' p = some (.lst (nvs ps)) → H' l = some (.lst (ls.map V.int)) → H' w = some (.lst (ws.map V.int)) → Q (.ref r) H'
end EP
namespace Tn
theorem exists_wrt {par : Nat → Nat} {d : Nat → Bool} {g : Nat → Int} : ∀ {n : Nat}, Par n par → ∃ W, Wrt n par d g W
  | 0, _ => ⟨fun _ => false, rfl, fun c a b => by omega⟩
  | n + 1, hp => by
    obtain ⟨W, h⟩ := exists_wrt (n := n) (d := d) (g := g) fun k a b => hp k a (by omega)
    refine ⟨ext W (n + 1) (!d (n + 1) && ((decide (par (n + 1) = 0) || d (par (n + 1)) || W (par (n + 1))) && decide (0 ≤ g (n + 1)))), wrt_ext hp h ?_⟩
    rw [Bool.and_eq_true, Bool.and_eq_true, Bool.or_eq_true, Bool.or_eq_true, Bool.not_eq_true', decide_eq_true_iff, decide_eq_true_iff, or_assoc]
/-- no closed set is worth more than nothing exactly if the greatest gain is nothing -/
theorem top_nn {n : Nat} {par : Nat → Nat} {d : Nat → Bool} {g : Nat → Int} : 0 ≤ top n par d g := sm_nonneg fun c _ _ => by
  have := mx_nn (g c)
  unfold i0
  split <;> omega
theorem none_better {n : Nat} {par : Nat → Nat} {w l g : Nat → Int} {a b : Int} (hp : Par n par) (G : GainEq n par (fun k => b * w k - a * l k) g) : top n par (inL []) g ≤ 0 ↔ ∀ S, S ∈ clS par n → b * sumL w S ≤ a * sumL l S := by
  have cd : Cld n par (inL []) := ⟨rfl, fun k _ _ e => by cases e⟩
  constructor
  · intro h S hS
    have c := clS_ok hS
    have := le_top hp cd c.add G
    rw [fs_lin, ← sumL_fs c.1, ← sumL_fs c.1] at this
    omega
  · intro h
    obtain ⟨W, hW⟩ := exists_wrt (d := inL []) (g := g) hp
    have e := hW.top hp cd G
    have m := h _ (cl_mem hp hW.add)
    have i : Inc n (lst n W) := (clS_ok (cl_mem hp hW.add)).1
    rw [← e, fs_lin]
    unfold sumL at m
    rw [sum_lst, sum_lst] at m
    omega
end Tn
namespace EP
open PySem L2
/-! ### prices -/
theorem TunAt.sameT {K : PySem.W.Frag} {C CS : Addr} {H H' : Hp} {s : Addr} {ps : List Nat} {ls : List Int} (T : TunAt K C CS H s ps ls) (e : SameT H H') : TunAt K C CS H' s ps ls := by
  obtain ⟨dx, sh, t, h1, h2, h3, h4⟩ := T
  exact ⟨dx, sh, t, e.keep _ _ (fun _ z => by cases z) h1, h2.sameT e, e.tup h3, h4⟩
theorem GDict.sameT {H H' : Hp} {d : Addr} {n : Nat} {g : Nat → Int} (h : GDict H d n g) (e : SameT H H') : GDict H' d n g := by
  obtain ⟨kvs, h1, h2⟩ := h
  exact ⟨kvs, e.keep _ _ (fun _ z => by cases z) h1, h2⟩
theorem top_root {n : Nat} {par : Nat → Nat} {g : Nat → Int} : 0 < Tn.top n par (Tn.inL []) g ↔ ∃ c, 1 ≤ c ∧ c ≤ n ∧ par c = 0 ∧ 0 < g c := by
  have rt : ∀ c, Tn.rt par (Tn.inL []) c = decide (par c = 0) := fun c => by
    unfold Tn.rt Tn.inL
    simp
  constructor
  · intro h
    refine Classical.byContradiction fun no => ?_
    have : Tn.top n par (Tn.inL []) g = 0 := by
      unfold Tn.top
      rw [show Tn.sm n (fun c => Tn.i0 (Tn.rt par (Tn.inL []) c) (Tn.mx (g c))) = Tn.sm n (fun _ => 0) from Tn.sm_congr fun c a b => by
        rw [rt]
        unfold Tn.i0 Tn.mx
        by_cases z : par c = 0
        · rw [if_pos (decide_eq_true z), if_neg fun y => no ⟨c, a, b, z, y⟩]
        · rw [if_neg (by rw [decide_eq_false z]; decide)], Tn.sm_zero]
    omega
  · rintro ⟨c, a, b, z, y⟩
    have nn : ∀ c, 1 ≤ c → c ≤ n → 0 ≤ Tn.i0 (Tn.rt par (Tn.inL []) c) (Tn.mx (g c)) := fun c _ _ => by
      have := Tn.mx_nn (g c)
      unfold Tn.i0
      split <;> omega
    have o := Tn.sm_one nn a b
    have e : Tn.i0 (Tn.rt par (Tn.inL []) c) (Tn.mx (g c)) = g c := by
      rw [rt, decide_eq_true z]
      unfold Tn.i0 Tn.mx
      rw [if_pos rfl, if_pos y]
    rw [e] at o
    unfold Tn.top
    omega
def spTerms (K : PySem.W.Frag) (C CS D N : Addr) : Sp := fun vs H Q E => ∃ (s v : Addr) (ps : List Nat) (ls ws : List Int) (a b : Int), vs = [.ref s, .ref v, .int a, .int b] ∧ TunAt K C CS H s ps ls ∧ SqE K H v (ws.map V.int) ∧ ws.length ≤ 900 ∧ Small a ∧ Small b ∧
  (NoFault ws 0 ps.length → 0 ≤ a → 1 ≤ b → ∀ H', Same H H' → Q .non H') ∧
  (∀ z, Fault ws 0 ps.length z → ∀ d H', Same H H' → H d = none → H' d = some (.xd [("place", .int z)]) → E (.ref D) (some d) H') ∧
  (NoFault ws 0 ps.length → ∀ z, (a < 0 ∧ z = a ∨ 0 ≤ a ∧ b < 1 ∧ z = b) → ∀ d H', Same H H' → H d = none → H' d = some (.xd [("number", .int z)]) → E (.ref N) (some d) H')
/-- the prices that are found -/
def prs (n : Nat) (g : Nat → Int) : List Int := (List.range n).map fun i => Tn.mx (g (i + 1))
def spPrices (K : PySem.W.Frag) (C CS D N P : Addr) : Sp := fun vs H Q E => ∃ (s v : Addr) (ps : List Nat) (ls ws : List Int) (a b : Int), vs = [.ref s, .ref v, .int a, .int b] ∧ TunAt K C CS H s ps ls ∧ SqE K H v (ws.map V.int) ∧ ws.length ≤ 900 ∧ ps.length ≤ 60 ∧ (∀ v, v ∈ ws → v < 2 ^ 40) ∧ a.natAbs < 2 ^ 49 ∧ b.natAbs < 2 ^ 49 ∧ TabG H P ∧
  (NoFault ws 0 ps.length → 0 ≤ a → 1 ≤ b → ∀ g, Tn.GainEq ps.length (Tr.par ps) (fun k => b * vf ws k - a * vf ls k) g →
    (0 < Tn.top ps.length (Tr.par ps) (Tn.inL []) g → ∀ H', SameT H H' → Q .non H') ∧ (Tn.top ps.length (Tr.par ps) (Tn.inL []) g ≤ 0 → ∀ r H', SameT H H' → H r = none → H' r = some (.lst ((prs ps.length g).map V.int)) → Q (.ref r) H')) ∧
  (∀ z, Fault ws 0 ps.length z → ∀ d H', Same H H' → H d = none → H' d = some (.xd [("place", .int z)]) → E (.ref D) (some d) H') ∧
  (NoFault ws 0 ps.length → ∀ z, (a < 0 ∧ z = a ∨ 0 ≤ a ∧ b < 1 ∧ z = b) → ∀ d H', Same H H' → H d = none → H' d = some (.xd [("number", .int z)]) → E (.ref N) (some d) H')
/-- prices, by their rule -/
def Rule (n : Nat) (par : Nat → Nat) (x : Nat → Int) (off : List Int) : Prop := NoFault off 0 n ∧ ∀ k, 1 ≤ k → k ≤ n → x k + Tn.sm n (fun c => Tn.i0 (decide (par c = k)) (vf off c)) ≤ vf off k ∧ (par k = 0 → vf off k = 0)
theorem prs_len (n : Nat) (g : Nat → Int) : (prs n g).length = n := by unfold prs; rw [List.length_map, List.length_range]
theorem prs_vf {n : Nat} {g : Nat → Int} {k : Nat} (a : 1 ≤ k) (b : k ≤ n) : vf (prs n g) k = Tn.mx (g k) := by
  have h := vf_get (vs := prs n g) a (by rw [prs_len]; exact b)
  have h' : (prs n g)[k - 1]? = some (Tn.mx (g (k - 1 + 1))) := by
    unfold prs
    rw [List.getElem?_map, List.getElem?_range (by omega)]
    rfl
  rw [h', show k - 1 + 1 = k by omega] at h
  exact (Option.some.inj h).symm
theorem prs_rule {n : Nat} {par : Nat → Nat} {x g : Nat → Int} (G : Tn.GainEq n par x g) (h : Tn.top n par (Tn.inL []) g ≤ 0) : Rule n par x (prs n g) := by
  refine ⟨⟨fun v hv => ?_, prs_len _ _⟩, fun k a b => ⟨?_, fun z => ?_⟩⟩
  · unfold prs at hv
    obtain ⟨i, _, rfl⟩ := List.mem_map.mp hv
    exact Tn.mx_nn _
  · rw [prs_vf a b, Tn.sm_congr (g := fun c => Tn.i0 (decide (par c = k)) (Tn.mx (g c))) fun c c1 c2 => by rw [prs_vf c1 c2], ← G k a b]
    exact Tn.mx_le _
  · rw [prs_vf a b]
    have t0 := Tn.top_nn (n := n) (par := par) (d := Tn.inL []) (g := g)
    unfold Tn.top at h t0
    have nn : ∀ c, 1 ≤ c → c ≤ n → 0 ≤ Tn.i0 (Tn.rt par (Tn.inL []) c) (Tn.mx (g c)) := fun c _ _ => by
      have := Tn.mx_nn (g c)
      unfold Tn.i0
      split <;> omega
    have e := Tn.sm_all0 nn (by omega) k a b
    have r : Tn.rt par (Tn.inL []) k = true := by
      unfold Tn.rt
      rw [decide_eq_true z]
      rfl
    rw [r] at e
    exact e
def spAre (K : PySem.W.Frag) (C CS D N : Addr) : Sp := fun vs H Q E => ∃ (s v o : Addr) (ps : List Nat) (ls ws off : List Int) (a b : Int), vs = [.ref s, .ref v, .int a, .int b, .ref o] ∧ TunAt K C CS H s ps ls ∧ SqE K H v (ws.map V.int) ∧ SqE K H o (off.map V.int) ∧ ws.length ≤ 900 ∧ off.length ≤ 900 ∧ ps.length ≤ 60 ∧ (∀ v, v ∈ ws → v < 2 ^ 40) ∧ a.natAbs < 2 ^ 49 ∧ b.natAbs < 2 ^ 49 ∧
  (NoFault ws 0 ps.length → 0 ≤ a → 1 ≤ b → ∀ z : Bool, (z = true ↔ Rule ps.length (Tr.par ps) (fun k => b * vf ws k - a * vf ls k) off) → ∀ H', Same H H' → Q (.bl z) H') ∧
  (∀ z, Fault ws 0 ps.length z → ∀ d H', Same H H' → H d = none → H' d = some (.xd [("place", .int z)]) → E (.ref D) (some d) H') ∧
  (NoFault ws 0 ps.length → ∀ z, (a < 0 ∧ z = a ∨ 0 ≤ a ∧ b < 1 ∧ z = b) → ∀ d H', Same H H' → H d = none → H' d = some (.xd [("number", .int z)]) → E (.ref N) (some d) H')
def spRule (K : PySem.W.Frag) : Sp := fun vs H Q _ => ∃ (p l w o : Addr) (ps : List Nat) (ls ws off : List Int) (a b : Int), vs = [.ref p, .ref l, .ref w, .int a, .int b, .ref o] ∧ SqL K H p (nvs ps) ∧ SqL K H l (ls.map V.int) ∧ SqL K H w (ws.map V.int) ∧ SqL K H o (off.map V.int) ∧ Tr.Ok ps ∧ ls.length = ps.length ∧ ws.length = ps.length ∧ ps.length ≤ 60 ∧ off.length ≤ 900 ∧ Bd ls ∧ Bd ws ∧
  ∀ z : Bool, (z = true ↔ Rule ps.length (Tr.par ps) (fun k => b * vf ws k - a * vf ls k) off) → ∀ H', Same H H' → Q (.bl z) H'
end EP
namespace Tn
theorem gain_to {n : Nat} {par : Nat → Nat} {x : Nat → Int} (hp : Par n par) : ∀ m, m ≤ n → ∃ g, GainTo n (n - m) par x g
  | 0, _ => ⟨fun _ => 0, fun j a b => by omega⟩
  | m + 1, h => by
    obtain ⟨g, hg⟩ := gain_to (x := x) hp m (by omega)
    obtain ⟨k, hk⟩ : ∃ k, n - m = k + 1 := ⟨n - m - 1, by omega⟩
    rw [hk] at hg
    rw [show n - (m + 1) = k by omega]
    exact ⟨_, gain_ext hp hg⟩
theorem exists_gain {n : Nat} {par : Nat → Nat} {x : Nat → Int} (hp : Par n par) : ∃ g, GainEq n par x g := by
  obtain ⟨g, hg⟩ := gain_to (x := x) hp n (Nat.le_refl _)
  rw [Nat.sub_self] at hg
  exact ⟨g, fun k a b => hg k (by omega) b⟩
end Tn
namespace EP
open PySem L2
theorem SetT.sameT {H H' : Hp} {ls ws : List Int} {r : Addr} {S : List Nat} (h : SetT H ls ws r S) (e : SameT H H') : SetT H' ls ws r S := by
  obtain ⟨q, h1, h2⟩ := h
  exact ⟨q, e.keep _ _ (fun _ z => by cases z) h1, e.lst h2⟩
theorem SetT.but {H H' : Hp} {ls ws : List Int} {t u r : Addr} {S : List Nat} (h : SetT H ls ws r S) (hT : Tape H t u) (e : But t H H') : SetT H' ls ws r S := by
  obtain ⟨q, h1, h2⟩ := h
  obtain ⟨xs, i, b, s, c, t1, _⟩ := id hT
  exact ⟨q, e _ _ (fun z => by rw [z, t1] at h1; cases h1) h1, e _ _ (hT.ne h2) h2⟩
theorem SetsAt.sameT {H H' : Hp} {ls ws : List Int} {a : Addr} {L : List (List Nat)} (h : SetsAt H ls ws a L) (e : SameT H H') : SetsAt H' ls ws a L := by
  obtain ⟨rs, h1, h2, h3⟩ := h
  exact ⟨rs, e.lst h1, h2, fun i r S a b => (h3 i r S a b).sameT e⟩
theorem SetsAt.but {H H' : Hp} {ls ws : List Int} {t u a : Addr} {L : List (List Nat)} (h : SetsAt H ls ws a L) (hT : Tape H t u) (e : But t H H') : SetsAt H' ls ws a L := by
  obtain ⟨rs, h1, h2, h3⟩ := h
  exact ⟨rs, e _ _ (hT.neR h1) h1, h2, fun i r S a b => (h3 i r S a b).but hT e⟩
/-- what the law of prices keeps -/
structure LawP (K : PySem.W.Frag) (C CS P m p l w a : Addr) (ps : List Nat) (ls ws : List Int) (H : Hp) : Prop where
  T : TunAt K C CS H m ps ls
  hp : H p = some (.lst (nvs ps))
  hl : H l = some (.lst (ls.map V.int))
  hw : H w = some (.lst (ws.map V.int))
  S : SetsAt H ls ws a (Tn.clS (Tr.par ps) ps.length)
  tb : TabG H P
  n8 : ps.length ≤ 8
  lw : ws.length = ps.length
  bw : Bd ws
section
variable {K : PySem.W.Frag} {C CS P m p l w a t u : Addr} {ps : List Nat} {ls ws : List Int} {H H' : Hp}
theorem LawP.sameT (x : LawP K C CS P m p l w a ps ls ws H) (e : SameT H H') : LawP K C CS P m p l w a ps ls ws H' :=
  ⟨x.T.sameT e, e.lst x.hp, e.lst x.hl, e.lst x.hw, x.S.sameT e, e.tab _ x.tb, x.n8, x.lw, x.bw⟩
theorem LawP.but (x : LawP K C CS P m p l w a ps ls ws H) (hT : Tape H t u) (k : But t H H') : LawP K C CS P m p l w a ps ls ws H' :=
  ⟨x.T.but hT k, k _ _ (hT.ne x.hp) x.hp, k _ _ (hT.neI x.hl) x.hl, k _ _ (hT.neI x.hw) x.hw, x.S.but hT k, (But.t k fun P hP => hT.noTab hP).tab _ x.tb, x.n8, x.lw, x.bw⟩
theorem LawP.butT (x : LawP K C CS P m p l w a ps ls ws H) (hT : Tape H t u) (k : ButT t H H') : LawP K C CS P m p l w a ps ls ws H' := by
  obtain ⟨xs, i, b, s, c, t1, _⟩ := id hT
  obtain ⟨dx, sh, tt, h1, h2, h3, h4⟩ := id x.T
  obtain ⟨rs, r1, r2, r3⟩ := id x.S
  have nt : ∀ {q : Addr} {o : HO}, H q = some o → (∀ xs, o ≠ .lst xs) → q ≠ t := fun h n z => by
    rw [z, t1] at h
    exact n _ (Option.some.inj h).symm
  refine ⟨?_, k.lst (hT.ne x.hp) x.hp, k.lst (hT.neI x.hl) x.hl, k.lst (hT.neI x.hw) x.hw, ⟨rs, k.lst (hT.neR r1) r1, r2, fun i r S a b => ?_⟩, k.tab _ x.tb, x.n8, x.lw, x.bw⟩
  · refine ⟨dx, sh, tt, k.keep _ _ (nt h1 fun _ z => by cases z) (fun _ z => by cases z) h1, ?_, ?_, h4⟩
    · obtain ⟨o, p', sm, dx', tp, d, kvs, g1, g2, g3, g4⟩ := h2
      refine ⟨o, p', sm, dx', tp, d, kvs, k.keep _ _ (nt g1 fun _ z => by cases z) (fun _ z => by cases z) g1, ?_, k.keep _ _ (nt g3 fun _ z => by cases z) (fun _ z => by cases z) g3, g4⟩
      rcases g2 with (h | ⟨o', h⟩) | h
      · exact .inl (.inl (k.keep _ _ (nt h fun _ z => by cases z) (fun _ z => by cases z) h))
      · exact .inl (.inr ⟨o', k.keep _ _ (nt h fun _ z => by cases z) (fun _ z => by cases z) h⟩)
      · exact .inr h
    · rcases h3 with (h | ⟨o', h⟩) | h
      · exact .inl (.inl (k.keep _ _ (nt h fun _ z => by cases z) (fun _ z => by cases z) h))
      · exact .inl (.inr ⟨o', k.keep _ _ (nt h fun _ z => by cases z) (fun _ z => by cases z) h⟩)
      · exact .inr h
  · obtain ⟨q, q1, q2⟩ := r3 i r S a b
    exact ⟨q, k.keep _ _ (nt q1 fun _ z => by cases z) (fun _ z => by cases z) q1, k.lst (hT.ne q2) q2⟩
end
/-- the text of two lists in a list -/
def two (a b : List Int) : PyData := .list [.list (a.map PyData.int), .list (b.map PyData.int)]
theorem dp_two {K : PySem.W.Frag} {H : Hp} {o x y : Addr} {a b : List Int} (h : H o = some (.lst [V.ref x, V.ref y])) (hx : SqL K H x (a.map V.int)) (hy : SqL K H y (b.map V.int)) : Dp K H (.ref o) (two a b) :=
  .lst (SqL.of h) (.cons (dp_lst hx) (.cons (dp_lst hy) .nil))
theorem shaped_two (a b : List Int) : SeqAt.shaped (two a b) = true := by
  simp [two, SeqAt.shaped, PyData.canLay0, PyData.canLayAll0, PyData.depth, PyData.depthAll, PySem.W.ke_canLayAll0, PySem.W.ke_depthAll]
theorem eqv_two (a b : List Int) : PyData.eqv (two a b) (two a b) = true := by
  simp only [two, PyData.eqv, PyData.eqvAll]
  rw [eqvAll_ints, eqvAll_ints]
  simp
/-- a ratio of the law at r -/
def Ratio (H : Hp) (r : Addr) : Prop := ∃ a b : Int, H r = some (.tup [V.int a, V.int b]) ∧ 0 ≤ a ∧ a < 2 ^ 49 ∧ 1 ≤ b ∧ b < 2 ^ 49
def RL (H : Hp) (rs : List Addr) : Prop := ∀ r, r ∈ rs → Ratio H r
theorem Ratio.sameT {H H' : Hp} {r : Addr} (h : Ratio H r) (e : SameT H H') : Ratio H' r := let ⟨a, b, h1, h2⟩ := h; ⟨a, b, e.keep _ _ (fun _ z => by cases z) h1, h2⟩
theorem Ratio.butT {H H' : Hp} {t u r : Addr} (h : Ratio H r) (hT : Tape H t u) (e : ButT t H H') : Ratio H' r := by
  obtain ⟨a, b, h1, h2⟩ := h
  obtain ⟨xs, i, b', s, c, t1, _⟩ := id hT
  exact ⟨a, b, e.keep _ _ (fun z => by rw [z, t1] at h1; cases h1) (fun _ z => by cases z) h1, h2⟩
theorem Ratio.mut {H : Hp} {r o : Addr} {x : HO} {xs : List V} (h : Ratio H r) (ho : H o = some (.lst xs)) : Ratio (upd H o x) r := by
  obtain ⟨a, b, h1, h2⟩ := h
  exact ⟨a, b, by rw [upd_ne (fun z => by rw [z, ho] at h1; cases h1)]; exact h1, h2⟩
theorem RL.nil {H : Hp} : RL H [] := fun r h => by cases h
theorem RL.sameT {H H' : Hp} {rs : List Addr} (h : RL H rs) (e : SameT H H') : RL H' rs := fun r hr => (h r hr).sameT e
theorem RL.butT {H H' : Hp} {t u : Addr} {rs : List Addr} (h : RL H rs) (hT : Tape H t u) (e : ButT t H H') : RL H' rs := fun r hr => (h r hr).butT hT e
theorem RL.mut {H : Hp} {o : Addr} {rs : List Addr} {x : HO} {xs : List V} (h : RL H rs) (ho : H o = some (.lst xs)) : RL (upd H o x) rs := fun r hr => (h r hr).mut ho
theorem RL.snoc {H : Hp} {rs : List Addr} {r : Addr} (h : RL H rs) (a : Ratio H r) : RL H (rs ++ [r]) := fun y hy => by
  rcases List.mem_append.mp hy with hy | hy
  · exact h y hy
  · rw [List.mem_singleton.mp hy]; exact a
theorem cutR_any (ns : List Addr) (lo hi : Option Int) : ∃ M : List Addr, cutV (ns.map V.ref) lo hi = M.map V.ref ∧ M.length ≤ ns.length ∧ ∀ x, x ∈ M → x ∈ ns := by
  unfold cutV
  refine ⟨(ns.drop (HT.sIx (ns.map V.ref).length 0 lo)).take (HT.sIx (ns.map V.ref).length (ns.map V.ref).length hi - HT.sIx (ns.map V.ref).length 0 lo), ?_, ?_, fun x hx => List.mem_of_mem_drop (List.mem_of_mem_take hx)⟩
  · rw [List.map_take, List.map_drop]
  · rw [List.length_take, List.length_drop]
    omega
theorem times_bd {x t : Int} (a : 0 ≤ x) (b : x ≤ 2 ^ 43) (c : 1 ≤ t) (d : t ≤ 15) : x ≤ x * t ∧ x * t ≤ 2 ^ 47 := by
  constructor
  · have := Int.mul_le_mul_of_nonneg_left c a
    omega
  · have := Int.mul_le_mul b d (by omega) (by decide)
    omega
/-- what the law of refusals passes -/
def Item (H : Hp) (r : Addr) : Prop := ∃ (v : Addr) (ns : List Int) (a b : Int), H r = some (.lst [V.ref v, V.int a, V.int b]) ∧ H v = some (.lst (ns.map V.int)) ∧ ns.length ≤ 20 ∧ (∀ x, x ∈ ns → x < 2 ^ 40) ∧ a.natAbs < 2 ^ 49 ∧ b.natAbs < 2 ^ 49
theorem Item.same {H H' : Hp} {r : Addr} (h : Item H r) (e : Same H H') : Item H' r := let ⟨v, ns, a, b, h1, h2, h3⟩ := h; ⟨v, ns, a, b, e _ _ h1, e _ _ h2, h3⟩
theorem Item.sameT {H H' : Hp} {r : Addr} (h : Item H r) (e : SameT H H') : Item H' r := let ⟨v, ns, a, b, h1, h2, h3⟩ := h; ⟨v, ns, a, b, e.lst h1, e.lst h2, h3⟩
/-- lists of numbers at rs -/
def LL (H : Hp) (rs : List Addr) : Prop := ∀ r, r ∈ rs → ∃ ns : List Int, H r = some (.lst (ns.map V.int)) ∧ ns.length ≤ 20
theorem LL.same {H H' : Hp} {rs : List Addr} (h : LL H rs) (e : Same H H') : LL H' rs := fun r hr => let ⟨ns, a, b⟩ := h r hr; ⟨ns, e _ _ a, b⟩
theorem LL.sameT {H H' : Hp} {rs : List Addr} (h : LL H rs) (e : SameT H H') : LL H' rs := fun r hr => let ⟨ns, a, b⟩ := h r hr; ⟨ns, e.lst a, b⟩
theorem LL.but {H H' : Hp} {t u : Addr} {rs : List Addr} (h : LL H rs) (hT : Tape H t u) (e : But t H H') : LL H' rs := fun r hr => let ⟨ns, a, b⟩ := h r hr; ⟨ns, e _ _ (hT.neI a) a, b⟩
theorem LL.mut {H : Hp} {o q : Addr} {rs qs : List Addr} {x : HO} (h : LL H rs) (ho : H o = some (.lst ((q :: qs).map V.ref))) : LL (upd H o x) rs := fun r hr => let ⟨ns, a, b⟩ := h r hr; ⟨ns, by
    rw [upd_ne]
    · exact a
    · intro e
      rw [e, ho] at a
      cases ns with
      | nil => cases a
      | cons y ns => simp at a, b⟩
theorem LL.snoc {H : Hp} {rs : List Addr} {r : Addr} {ns : List Int} (h : LL H rs) (a : H r = some (.lst (ns.map V.int))) (b : ns.length ≤ 20) : LL H (rs ++ [r]) := fun y hy => by
  rcases List.mem_append.mp hy with hy | hy
  · exact h y hy
  · rw [List.mem_singleton.mp hy]; exact ⟨ns, a, b⟩
theorem LL.nil {H : Hp} : LL H [] := fun r h => by cases h
def spRuleL (K : PySem.W.Frag) : Sp := fun vs H Q _ => ∃ (p l w o : Addr) (ps : List Nat) (ls ws off : List Int) (a b : Int), vs = [.ref p, .ref l, .ref w, .int a, .int b, .ref o] ∧ SqL K H p (nvs ps) ∧ SqL K H l (ls.map V.int) ∧ SqL K H w (ws.map V.int) ∧ SqL K H o (off.map V.int) ∧ Tr.Ok ps ∧ ls.length = ps.length ∧ ws.length = ps.length ∧ ps.length ≤ 60 ∧ off.length ≤ 900 ∧ Bd ls ∧ Bd ws ∧ a.natAbs < 2 ^ 49 ∧ b.natAbs < 2 ^ 49 ∧
  ∀ z : Bool, (z = true ↔ Rule ps.length (Tr.par ps) (fun k => b * vf ws k - a * vf ls k) off) → ∀ H', Same H H' → Q (.bl z) H'
def spTolds (K : PySem.W.Frag) (C CS P : Addr) : Sp := fun vs H Q _ => ∃ (m p l w s : Addr) (ps : List Nat) (ls ws : List Int) (a b : Int), vs = [.ref m, .ref p, .ref l, .ref w, .ref s, .int a, .int b] ∧ LawP K C CS P m p l w s ps ls ws H ∧ 0 ≤ a ∧ a < 2 ^ 49 ∧ 1 ≤ b ∧ b < 2 ^ 49 ∧ ∀ H', SameT H H' → Q (.bl true) H'
def spLists : Sp := fun vs H Q _ => ∃ (t u : Addr) (x : V) (n : Nat), vs = [.ref t, x, .int n] ∧ Tape H t u ∧ 1 ≤ n ∧ n ≤ 8 ∧ (x = .non ∨ ∃ (r : Addr) (ns : List Int), x = .ref r ∧ H r = some (.lst (ns.map V.int)) ∧ ns.length = n) ∧
  ∀ (q : Addr) (rs : List Addr) H', Tape H' t u → But t H H' → H' q = some (.lst (rs.map V.ref)) → rs.length ≤ 7 → LL H' rs → Q (.ref q) H'
def spOffers (K : PySem.W.Frag) (C CS P : Addr) : Sp := fun vs H Q _ => ∃ (t u m p l w s : Addr) (ps : List Nat) (ls ws : List Int) (a b : Int), vs = [.ref t, .ref m, .ref p, .ref l, .ref w, .int a, .int b] ∧ Tape H t u ∧ LawP K C CS P m p l w s ps ls ws H ∧ 0 ≤ a ∧ a < 2 ^ 49 ∧ 1 ≤ b ∧ b < 2 ^ 49 ∧ ∀ H', Tape H' t u → ButT t H H' → Q (.bl true) H'
def spRefP (K : PySem.W.Frag) (C CS P : Addr) : Sp := fun vs H Q _ => ∃ (m v o : Addr) (wd : Str) (ps : List Nat) (ls ws off : List Int) (a b : Int), vs = [.ref m, .str wd, .ref v, .int a, .int b, .ref o] ∧ TunAt K C CS H m ps ls ∧ H v = some (.lst (ws.map V.int)) ∧ ws.length ≤ 20 ∧ (∀ v, v ∈ ws → v < 2 ^ 40) ∧ a.natAbs < 2 ^ 49 ∧ b.natAbs < 2 ^ 49 ∧ H o = some (.lst (off.map V.int)) ∧ off.length = ps.length ∧ ps.length ≤ 8 ∧ TabG H P ∧ ∀ H', SameT H H' → Q (.bl true) H'
def spRefsP (K : PySem.W.Frag) (C CS P : Addr) : Sp := fun vs H Q _ => ∃ (t u m w : Addr) (ps : List Nat) (ls ws : List Int), vs = [.ref t, .ref m, .ref w] ∧ Tape H t u ∧ TunAt K C CS H m ps ls ∧ TabG H P ∧ H w = some (.lst (ws.map V.int)) ∧ ws.length = ps.length ∧ Bd ws ∧ ps.length ≤ 8 ∧ ∀ H', Tape H' t u → ButT t H H' → Q (.bl true) H'
end EP
/-! the stairs -/
namespace Tn
section
variable {n : Nat} {par : Nat → Nat} {w l : Nat → Int} {d W V : Nat → Bool}
theorem sumL_lst (f : Nat → Int) (s : Nat → Bool) (n : Nat) : sumL f (lst n s) = fs n f s := sum_lst f s n
theorem best_up (hp : Par n par) (hd : Cld n par d) (hl : ∀ k, 1 ≤ k → k ≤ n → 1 ≤ l k) : ∀ (m : Nat) (V : Nat → Bool), mu n w l V < m → Add n par d V → 0 < fs n l V → ∃ W, Best n par w l d W
  | 0, _, h, _, _ => absurd h (Nat.not_lt_zero _)
  | m + 1, V, h, hV, pV => by
    obtain ⟨g, G⟩ := exists_gain (x := fun k => fs n l V * w k - fs n w V * l k) hp
    obtain ⟨W, hW⟩ := exists_wrt (d := d) (g := g) hp
    by_cases z : top n par d g ≤ 0
    · exact ⟨W, best_of hp hd hl hV pV hW G z⟩
    · obtain ⟨pW, lt⟩ := step_of hp hd hl pV hW G (by omega)
      exact best_up hp hd hl m W (by omega) hW.add pW
theorem exists_best (hp : Par n par) (hd : Cld n par d) (hl : ∀ k, 1 ≤ k → k ≤ n → 1 ≤ l k) (hc : ∃ c, 1 ≤ c ∧ c ≤ n ∧ d c = false) : ∃ W, Best n par w l d W := by
  obtain ⟨c, a, b, hc⟩ := hc
  refine best_up hp hd hl _ (fun k => decide (1 ≤ k) && !d k) (Nat.lt_succ_self _) ⟨rfl, fun k a b e => ?_⟩ (fs_pos hl a b (by rw [hc, decide_eq_true a]; rfl))
  rw [Bool.and_eq_true, Bool.not_eq_true'] at e
  refine ⟨e.2, ?_⟩
  by_cases z : par k = 0
  · exact .inl z
  · right
    cases q : d (par k) with
    | true => exact .inl rfl
    | false => exact .inr (by show (decide (1 ≤ par k) && !d (par k)) = true; rw [q, decide_eq_true (by omega : 1 ≤ par k)]; rfl)
theorem Best.same_of (a : Best n par w l d W) (b : Best n par w l d V) : lst n W = lst n V := by
  have q1 := a.2.2 V b.1
  have q2 := b.2.2 W a.1
  refine lst_congr fun k k1 k2 => ?_
  rw [Bool.eq_iff_iff]
  exact ⟨fun h => q2.2 (by omega) k k1 k2 h, fun h => q1.2 (by omega) k k1 k2 h⟩
theorem Best.one (b : Best n par w l d W) : ∃ c, 1 ≤ c ∧ c ≤ n ∧ W c = true ∧ d c = false := by
  obtain ⟨c, a, e, h⟩ := fs_some (n := n) (f := l) (s := W) (by have := b.2.1; omega)
  exact ⟨c, a, e, h, (b.1.2 c a e h).1⟩
/-- blocks, one behind the other -/
inductive Sts (n : Nat) (par : Nat → Nat) (w l : Nat → Int) : List (List Nat) → Prop
  | nil : Sts n par w l []
  | snoc {bs : List (List Nat)} {W : Nat → Bool} : Sts n par w l bs → Best n par w l (inL bs.flatten) W → Sts n par w l (bs ++ [lst n W])
def Full (n : Nat) (bs : List (List Nat)) : Prop := ∀ c, 1 ≤ c → c ≤ n → c ∈ bs.flatten
theorem flat_snoc (bs : List (List Nat)) (x : List Nat) : (bs ++ [x]).flatten = bs.flatten ++ x := by rw [List.flatten_append]; simp
theorem lst_nodup (n : Nat) (s : Nat → Bool) : (lst n s).Nodup := by
  have : (lst n s).Pairwise (· < ·) := by
    unfold lst
    refine List.Pairwise.filter _ ?_
    rw [List.pairwise_map]
    exact (List.pairwise_lt_range).imp fun h => by omega
  exact this.imp fun h => by omega
theorem Sts.facts (hp : Par n par) {bs : List (List Nat)} (h : Sts n par w l bs) : bs.flatten.Nodup ∧ (∀ k, k ∈ bs.flatten → 1 ≤ k ∧ k ≤ n) ∧ Cld n par (inL bs.flatten) ∧ bs.length ≤ bs.flatten.length := by
  induction h with
  | nil => exact ⟨List.nodup_nil, fun k h => (by cases h), ⟨rfl, fun k _ _ e => by cases e⟩, Nat.le_refl _⟩
  | @snoc bs W _ b ih =>
    obtain ⟨i1, i2, i3, i4⟩ := ih
    rw [flat_snoc]
    refine ⟨List.nodup_append.mpr ⟨i1, lst_nodup _ _, fun x hx y hy e => ?_⟩, fun k hk => ?_, ⟨?_, fun k a e hk => ?_⟩, ?_⟩
    · subst e
      obtain ⟨a, e, h⟩ := mem_lst.mp hy
      have := (b.1.2 _ a e h).1
      unfold inL at this
      exact of_decide_eq_false this hx
    · rcases List.mem_append.mp hk with hk | hk
      · exact i2 k hk
      · obtain ⟨a, e, _⟩ := mem_lst.mp hk
        exact ⟨a, e⟩
    · unfold inL
      refine decide_eq_false fun z => ?_
      rcases List.mem_append.mp z with z | z
      · have := i2 0 z; omega
      · have := mem_lst.mp z; omega
    · have hk := of_decide_eq_true hk
      have up : ∀ p, inL bs.flatten p = true → inL (bs.flatten ++ lst n W) p = true := fun p hp => decide_eq_true (List.mem_append_left _ (of_decide_eq_true hp))
      rcases List.mem_append.mp hk with hk | hk
      · exact (i3.2 k a e (decide_eq_true hk)).imp_right (up _)
      · obtain ⟨_, _, hk⟩ := mem_lst.mp hk
        rcases (b.1.2 k a e hk).2 with z | z | z
        · exact .inl z
        · exact .inr (up _ z)
        · by_cases p0 : par k = 0
          · exact .inl p0
          · have wl : par k ≤ n := by have := hp k a e; omega
            exact .inr (decide_eq_true (List.mem_append_right _ (mem_lst.mpr ⟨by omega, wl, z⟩)))
    · rw [List.length_append, List.length_append]
      obtain ⟨c, a, e, h, _⟩ := b.one
      have : 1 ≤ (lst n W).length := List.length_pos_of_mem (mem_lst.mpr ⟨a, e, h⟩)
      show _ + 1 ≤ _
      omega
theorem all_len : ∀ {n : Nat} {X : List Nat}, (∀ k, 1 ≤ k → k ≤ n → k ∈ X) → n ≤ X.length
  | 0, _, _ => Nat.zero_le _
  | n + 1, X, h => by
    have m := h (n + 1) (by omega) (Nat.le_refl _)
    have := all_len (n := n) (X := X.erase (n + 1)) fun k a b => (List.mem_erase_of_ne (by omega)).mpr (h k a (by omega))
    rw [List.length_erase_of_mem m] at this
    have := List.length_pos_of_mem m
    omega
theorem Sts.full (hp : Par n par) {bs : List (List Nat)} (h : Sts n par w l bs) (e : ¬ bs.flatten.length < n) : Full n bs := fun c a b => by
  obtain ⟨f1, f2, _, _⟩ := h.facts hp
  refine Classical.byContradiction fun no => e ?_
  have := nodup_len (n := n) (X := c :: bs.flatten) (List.nodup_cons.mpr ⟨no, f1⟩) fun k hk => by
    rcases List.mem_cons.mp hk with rfl | hk
    · exact ⟨a, b⟩
    · exact f2 k hk
  rw [List.length_cons] at this
  omega
theorem Sts.more {bs : List (List Nat)} (e : bs.flatten.length < n) : ∃ c, 1 ≤ c ∧ c ≤ n ∧ c ∉ bs.flatten := Classical.byContradiction fun no => by
  have := all_len (n := n) (X := bs.flatten) fun k a b => Classical.byContradiction fun z => no ⟨k, a, b, z⟩
  omega
theorem Sts.at {bs : List (List Nat)} (h : Sts n par w l bs) : ∀ i b, bs[i]? = some b → ∃ W, b = lst n W ∧ Best n par w l (inL (bs.take i).flatten) W := by
  induction h with
  | nil => intro i b h; simp at h
  | @snoc bs W _ bW ih =>
    intro i b h
    rw [List.getElem?_append] at h
    split at h
    · rename_i hi
      obtain ⟨V, e, bV⟩ := ih i b h
      refine ⟨V, e, ?_⟩
      rw [List.take_append_of_le_length (by omega)]
      exact bV
    · rename_i hi
      obtain ⟨e1, e2⟩ : i = bs.length ∧ lst n W = b := by
        cases q : i - bs.length with
        | zero => rw [q] at h; exact ⟨by omega, Option.some.inj h⟩
        | succ z => rw [q] at h; simp at h
      refine ⟨W, e2.symm, ?_⟩
      rw [e1, List.take_append_of_le_length (Nat.le_refl _), List.take_length]
      exact bW
theorem Sts.same_of {as bs : List (List Nat)} (ha : Sts n par w l as) (fa : Full n as) (hb : Sts n par w l bs) (fb : Full n bs) : as = bs := by
  have stop : ∀ {xs ys : List (List Nat)}, Full n xs → Sts n par w l ys → ∀ i, xs.take i = ys.take i → xs[i]? = none → ys[i]? = none := fun {xs ys} fx hy i e h => by
    cases q : ys[i]? with
    | none => rfl
    | some y =>
      obtain ⟨W, _, bW⟩ := hy.at i y q
      rw [← e, List.take_of_length_le (List.getElem?_eq_none_iff.mp h)] at bW
      obtain ⟨c, a, b, _, hd⟩ := bW.one
      exact absurd (fx c a b) (of_decide_eq_false hd)
  have step : ∀ i, as.take i = bs.take i ∧ as[i]? = bs[i]? := fun i => by
    induction i with
    | zero =>
      refine ⟨rfl, ?_⟩
      cases q : as[0]? with
      | none => exact (stop fa hb 0 rfl q).symm
      | some x =>
        cases r : bs[0]? with
        | none => rw [stop fb ha 0 rfl r] at q; cases q
        | some y =>
          obtain ⟨W, e1, bW⟩ := ha.at 0 x q
          obtain ⟨V, e2, bV⟩ := hb.at 0 y r
          rw [e1, e2, bW.same_of bV]
    | succ i ih =>
      have e : as.take (i + 1) = bs.take (i + 1) := by rw [List.take_succ, List.take_succ, ih.1, ih.2]
      refine ⟨e, ?_⟩
      cases q : as[i + 1]? with
      | none => exact (stop fa hb _ e q).symm
      | some x =>
        cases r : bs[i + 1]? with
        | none => rw [stop fb ha _ e.symm r] at q; cases q
        | some y =>
          obtain ⟨W, e1, bW⟩ := ha.at _ x q
          obtain ⟨V, e2, bV⟩ := hb.at _ y r
          rw [← e] at bV
          rw [e1, e2, bW.same_of bV]
  exact List.ext_getElem? fun i => (step i).2
theorem fs_or {f : Nat → Int} (h : ∀ k, 1 ≤ k → k ≤ n → W k = true → V k = false) : fs n f (fun k => W k || V k) = fs n f W + fs n f V := by
  unfold fs
  rw [← sm_add]
  refine sm_congr fun k a b => ?_
  have := h k a b
  unfold i0
  by_cases hW : W k = true
  · have hV := this hW
    rw [if_pos (show (W k || V k) = true by rw [hW]; rfl), if_pos hW, if_neg (by rw [hV]; decide)]
    omega
  · by_cases hV : V k = true
    · rw [if_pos (show (W k || V k) = true by rw [hV, Bool.or_true]), if_neg hW, if_pos hV]
      omega
    · rw [if_neg (show ¬ (W k || V k) = true from fun e => ((Bool.or_eq_true _ _).mp e).elim hW hV), if_neg hW, if_neg hV]
      rfl
/-- the next best addition is worse -/
theorem Best.falls (hp : Par n par) (bW : Best n par w l d W) (bV : Best n par w l (fun k => d k || (decide (1 ≤ k) && W k)) V) : fs n w V * fs n l W < fs n w W * fs n l V := by
  have dis : ∀ k, 1 ≤ k → k ≤ n → W k = true → V k = false := fun k a b h => by
    cases q : V k with
    | false => rfl
    | true =>
      have this : (d k || (decide (1 ≤ k) && W k)) = false := (bV.1.2 k a b q).1
      rw [h, decide_eq_true a, Bool.and_true, Bool.or_true] at this
      cases this
  have ad : Add n par d (fun k => W k || V k) := ⟨by show (W 0 || V 0) = false; rw [bW.1.1, bV.1.1]; rfl, fun k a b e => by
    rcases (Bool.or_eq_true _ _).mp e with e | e
    · obtain ⟨h1, h2⟩ := bW.1.2 k a b e
      refine ⟨h1, h2.imp_right fun h => h.imp_right fun h => ?_⟩
      show (W _ || V _) = true
      rw [h]; rfl
    · obtain ⟨h1, h2⟩ := bV.1.2 k a b e
      have h1 : (d k || (decide (1 ≤ k) && W k)) = false := h1
      rw [Bool.or_eq_false_iff] at h1
      refine ⟨h1.1, ?_⟩
      rcases h2 with h | h | h
      · exact .inl h
      · rcases (Bool.or_eq_true _ _).mp h with h | h
        · exact .inr (.inl h)
        · right; right
          show (W _ || V _) = true
          rw [((Bool.and_eq_true _ _).mp h).2]; rfl
      · right; right
        show (W _ || V _) = true
        rw [h, Bool.or_true]⟩
  have q := bW.2.2 _ ad
  rw [fs_or dis, fs_or dis, Int.add_mul, Int.mul_add] at q
  obtain ⟨c, a, b, vc, dc⟩ := bV.one
  have ne : fs n w V * fs n l W ≠ fs n w W * fs n l V := fun e => by
    have := q.2 (by omega) c a b (by show (W c || V c) = true; rw [vc, Bool.or_true])
    rw [dis c a b this] at vc
    cases vc
  omega
theorem Sts.falls (hp : Par n par) {bs : List (List Nat)} (h : Sts n par w l bs) {i : Nat} {x y : List Nat} (hx : bs[i]? = some x) (hy : bs[i + 1]? = some y) : sumL w y * sumL l x < sumL w x * sumL l y := by
  obtain ⟨W, rfl, bW⟩ := h.at i x hx
  obtain ⟨V, rfl, bV⟩ := h.at (i + 1) y hy
  rw [sumL_lst, sumL_lst, sumL_lst, sumL_lst]
  refine Best.falls hp bW ?_
  have e : inL (bs.take (i + 1)).flatten = fun k => inL (bs.take i).flatten k || (decide (1 ≤ k) && (decide (k ≤ n) && W k)) := by
    funext k
    rw [List.take_succ, hx, show (some (lst n W)).toList = [lst n W] from rfl, flat_snoc]
    unfold inL
    rw [Bool.eq_iff_iff, Bool.or_eq_true, decide_eq_true_iff, decide_eq_true_iff, List.mem_append, mem_lst, Bool.and_eq_true, Bool.and_eq_true, decide_eq_true_iff, decide_eq_true_iff]
  rw [e] at bV
  have pk : ∀ k, 1 ≤ k → k ≤ n → par k ≤ n := fun k a b => by have := hp k a b; omega
  have ee : ∀ k, k ≤ n → (inL (bs.take i).flatten k || (decide (1 ≤ k) && (decide (k ≤ n) && W k))) = (inL (bs.take i).flatten k || (decide (1 ≤ k) && W k)) := fun k h => by rw [decide_eq_true h, Bool.true_and]
  have ad : ∀ s, Add n par (fun k => inL (bs.take i).flatten k || (decide (1 ≤ k) && (decide (k ≤ n) && W k))) s ↔ Add n par (fun k => inL (bs.take i).flatten k || (decide (1 ≤ k) && W k)) s := fun s => by
    unfold Add
    refine and_congr_right fun _ => forall_congr' fun k => forall_congr' fun a => forall_congr' fun b => ?_
    dsimp only
    rw [ee k b, ee (par k) (pk k a b)]
  exact ⟨(ad _).mp bV.1, bV.2.1, fun s hs => bV.2.2 s ((ad s).mpr hs)⟩
end
end Tn
namespace Tn
/-- S is a closed set beyond S0 -/
def Qual (S0 S : List Nat) : Prop := S ≠ S0 ∧ ∀ k, k ∈ S0 → k ∈ S
def exc (S S0 : List Nat) : Nat → Bool := fun k => inL S k && !inL S0 k
def dif (f : Nat → Int) (S S0 : List Nat) : Int := sumL f S - sumL f S0
section
variable {n : Nat} {par : Nat → Nat} {w l : Nat → Int} {S S0 B : List Nat}
theorem inL_true {k : Nat} : inL S k = true ↔ k ∈ S := decide_eq_true_iff
theorem inL_false {k : Nat} : inL S k = false ↔ k ∉ S := decide_eq_false_iff_not
theorem exc_true {k : Nat} : exc S S0 k = true ↔ k ∈ S ∧ k ∉ S0 := by
  unfold exc
  rw [Bool.and_eq_true, Bool.not_eq_true', inL_true, inL_false]
theorem dif_fs {f : Nat → Int} (hS : Inc n S) (h0 : Inc n S0) (h : ∀ k, k ∈ S0 → k ∈ S) : dif f S S0 = fs n f (exc S S0) := by
  unfold dif
  rw [sumL_fs hS, sumL_fs h0]
  have e : fs n f (inL S) = fs n f (fun k => inL S0 k || exc S S0 k) := sm_congr fun k _ _ => by
    have : inL S k = (inL S0 k || exc S S0 k) := by
      rw [Bool.eq_iff_iff, Bool.or_eq_true, exc_true, inL_true, inL_true]
      refine ⟨fun z => ?_, fun z => z.elim (h k) fun y => y.1⟩
      by_cases c : k ∈ S0
      · exact .inl c
      · exact .inr ⟨z, c⟩
    rw [this]
  rw [e, fs_or fun k _ _ z => by
    cases q : exc S S0 k with
    | false => rfl
    | true => exact absurd (inL_true.mp z) (exc_true.mp q).2]
  omega
theorem exc_add (hS : ClL n par S) (h0 : ClL n par S0) : Add n par (inL S0) (exc S S0) := by
  refine ⟨?_, fun k a b e => ?_⟩
  · cases q : exc S S0 0 with
    | false => rfl
    | true => have := hS.1.2 0 (exc_true.mp q).1; omega
  · obtain ⟨e1, e2⟩ := exc_true.mp e
    refine ⟨inL_false.mpr e2, ?_⟩
    rcases hS.2 k e1 with z | z
    · exact .inl z
    · by_cases c : par k ∈ S0
      · exact .inr (.inl (inL_true.mpr c))
      · exact .inr (.inr (exc_true.mpr ⟨z, c⟩))
theorem exc_one (hS : Inc n S) (h0 : Inc n S0) (q : Qual S0 S) : ∃ k, 1 ≤ k ∧ k ≤ n ∧ exc S S0 k = true := Classical.byContradiction fun no => q.1 (by
  rw [inc_lst hS, inc_lst h0]
  refine lst_congr fun k a b => ?_
  rw [Bool.eq_iff_iff, inL_true, inL_true]
  exact ⟨fun z => Classical.byContradiction fun c => no ⟨k, a, b, exc_true.mpr ⟨z, c⟩⟩, q.2 k⟩)
theorem dif_pos (hl : ∀ k, 1 ≤ k → k ≤ n → 1 ≤ l k) (hS : Inc n S) (h0 : Inc n S0) (q : Qual S0 S) : 0 < dif l S S0 := by
  rw [dif_fs hS h0 q.2]
  obtain ⟨k, a, b, e⟩ := exc_one hS h0 q
  exact fs_pos hl a b e
/-- the union of S0 and a closed addition is a closed set beyond S0 -/
theorem add_mem {W : Nat → Bool} (hp : Par n par) (h0 : ClL n par S0) (hW : Add n par (inL S0) W) : lst n (fun k => inL S0 k || W k) ∈ clS par n := by
  refine cl_mem hp ⟨?_, fun k a b e => ⟨rfl, ?_⟩⟩
  · show (inL S0 0 || W 0) = false
    rw [hW.1, Bool.or_false, inL_false]
    intro z
    have := h0.1.2 0 z
    omega
  · rcases (Bool.or_eq_true _ _).mp e with e | e
    · rcases h0.2 k (inL_true.mp e) with z | z
      · exact .inl z
      · right; right
        show (inL S0 _ || W _) = true
        rw [inL_true.mpr z]; rfl
    · rcases (hW.2 k a b e).2 with z | z | z
      · exact .inl z
      · right; right
        show (inL S0 _ || W _) = true
        rw [z]; rfl
      · right; right
        show (inL S0 _ || W _) = true
        rw [z, Bool.or_true]
theorem union_exc {W : Nat → Bool} (h0 : ClL n par S0) (hW : Add n par (inL S0) W) : ∀ k, 1 ≤ k → k ≤ n → exc (lst n (fun k => inL S0 k || W k)) S0 k = W k := fun k a b => by
  rw [Bool.eq_iff_iff, exc_true, mem_lst, Bool.or_eq_true, inL_true]
  constructor
  · rintro ⟨⟨_, _, z | z⟩, c⟩
    · exact absurd z c
    · exact z
  · intro z
    exact ⟨⟨a, b, .inr z⟩, inL_false.mp (hW.2 k a b z).1⟩
theorem union_qual {W : Nat → Bool} (h0 : ClL n par S0) (bW : Best n par w l (inL S0) W) : Qual S0 (lst n (fun k => inL S0 k || W k)) := by
  refine ⟨fun e => ?_, fun k hk => mem_lst.mpr ⟨(h0.1.2 k hk).1, (h0.1.2 k hk).2, by rw [inL_true.mpr hk]; rfl⟩⟩
  obtain ⟨c, a, b, wc, dc⟩ := bW.one
  have : c ∈ lst n (fun k => inL S0 k || W k) := mem_lst.mpr ⟨a, b, by rw [wc, Bool.or_true]⟩
  rw [e] at this
  exact inL_false.mp dc this
theorem add_is {W c : Nat → Bool} (hp : Par n par) (hl : ∀ k, 1 ≤ k → k ≤ n → 1 ≤ l k) (m0 : S0 ∈ clS par n) (mB : B ∈ clS par n) (qB : Qual S0 B) (bB : ∀ S, S ∈ clS par n → Qual S0 S → dif w S S0 * dif l B S0 ≤ dif w B S0 * dif l S S0) (bW : Best n par w l (inL S0) W)
    (hc : ∀ k, 1 ≤ k → k ≤ n → (c k = true ↔ ∃ S, S ∈ clS par n ∧ Qual S0 S ∧ dif w S S0 * dif l B S0 = dif w B S0 * dif l S S0 ∧ k ∈ S ∧ k ∉ S0)) : lst n c = lst n W := by
  have h0 := clS_ok m0
  have hB := clS_ok mB
  have mW := add_mem hp h0 bW.1
  have qW := union_qual h0 bW
  have iW := (clS_ok mW).1
  have eW : ∀ f : Nat → Int, dif f (lst n (fun k => inL S0 k || W k)) S0 = fs n f W := fun f => by
    rw [dif_fs iW h0.1 qW.2]
    exact sm_congr fun k a b => by rw [union_exc h0 bW.1 k a b]
  refine lst_congr fun k a b => ?_
  rw [Bool.eq_iff_iff, hc k a b]
  have q1 := bB _ mW qW
  rw [eW, eW] at q1
  have q2 := (bW.2.2 _ (exc_add hB h0)).1
  rw [← dif_fs hB.1 h0.1 qB.2, ← dif_fs hB.1 h0.1 qB.2] at q2
  constructor
  · rintro ⟨S, hS, qS, r, hk, hk0⟩
    have cS := clS_ok hS
    have q3 := bW.2.2 _ (exc_add cS h0)
    rw [← dif_fs cS.1 h0.1 qS.2, ← dif_fs cS.1 h0.1 qS.2] at q3
    refine q3.2 ?_ k a b (exc_true.mpr ⟨hk, hk0⟩)
    have pB := dif_pos hl hB.1 h0.1 qB
    refine Int.eq_of_mul_eq_mul_left (a := dif l B S0) (by omega) ?_
    calc dif l B S0 * (dif w S S0 * fs n l W) = dif w S S0 * dif l B S0 * fs n l W := by rw [← Int.mul_assoc, Int.mul_comm (dif l B S0)]
      _ = dif w B S0 * dif l S S0 * fs n l W := by rw [r]
      _ = dif w B S0 * fs n l W * dif l S S0 := by rw [Int.mul_assoc, Int.mul_comm (dif l S S0), ← Int.mul_assoc]
      _ = fs n w W * dif l B S0 * dif l S S0 := by rw [show dif w B S0 * fs n l W = fs n w W * dif l B S0 by omega]
      _ = dif l B S0 * (fs n w W * dif l S S0) := by rw [Int.mul_comm (fs n w W), Int.mul_assoc]
  · intro wk
    exact ⟨_, mW, qW, by rw [eW, eW]; omega, mem_lst.mpr ⟨a, b, by rw [wk, Bool.or_true]⟩, inL_false.mp (bW.1.2 k a b wk).1⟩
theorem worse {a b c x y z : Int} (hx : 0 < x) (hy : 0 < y) (hz : 0 < z) (h1 : c * x ≤ a * z) (h2 : a * y < b * x) : c * y < b * z := by
  have e1 : c * x * y ≤ a * z * y := Int.mul_le_mul_of_nonneg_right h1 (by omega)
  have e2 : a * y * z < b * x * z := Int.mul_lt_mul_of_pos_right h2 hz
  have e3 : x * (c * y) < x * (b * z) := by
    calc x * (c * y) = c * x * y := by rw [← Int.mul_assoc, Int.mul_comm x]
      _ ≤ a * z * y := e1
      _ = a * y * z := by rw [Int.mul_assoc, Int.mul_comm z, ← Int.mul_assoc]
      _ < b * x * z := e2
      _ = x * (b * z) := by rw [Int.mul_comm b, Int.mul_assoc]
  exact Int.lt_of_mul_lt_mul_left e3 (by omega)
end
end Tn
namespace EP
open PySem L2
theorem MoreAt.same {H1 H H' : Hp} {ls ws : List Int} {m : Addr} {L : List (List Nat)} (h : MoreAt H1 H ls ws m L) (e : Same H H') : MoreAt H1 H' ls ws m L := by
  obtain ⟨rs, h1, h2, h3, h4⟩ := h
  exact ⟨rs, e _ _ h1, h2, h3.trans e, fun i r S a b => let ⟨q, a1, a2, a3, a4⟩ := h4 i r S a b; ⟨q, a1, a2, e _ _ a3, e _ _ a4⟩⟩
/-- blocks that grow at m, with lists that are new since H1 -/
def GrowF (H1 H : Hp) (m : Addr) : Prop := ∃ rs : List Addr, H m = some (.lst (rs.map V.ref)) ∧ ∀ t, t ∈ rs → t ≠ m ∧ ∃ x y q, H t = some (.tup [x, y, .ref q]) ∧ H1 q = none
theorem GrowF.same {H1 H H' : Hp} {m : Addr} (h : GrowF H1 H m) (e : Same H H') : GrowF H1 H' m := let ⟨rs, a, b⟩ := h; ⟨rs, e _ _ a, fun t ht => let ⟨c, x, y, q, d, f⟩ := b t ht; ⟨c, x, y, q, e _ _ d, f⟩⟩
theorem GrowF.snoc {H1 H H2 : Hp} {m t q : Addr} {x y : V} {acc : List V} (h : GrowF H1 H m) (e : Same H H2) (nt : H t = none) (ht : H2 t = some (.tup [x, y, .ref q])) (nq : H1 q = none) (ha : H2 m = some (.lst acc)) : GrowF H1 (upd H2 m (.lst (acc ++ [V.ref t]))) m := by
  obtain ⟨rs, a, b⟩ := h
  have := e _ _ a
  rw [ha] at this
  have ea : acc = rs.map V.ref := HO.lst.inj (Option.some.inj this)
  have tm : t ≠ m := (ne_of_none a nt).symm
  refine ⟨rs ++ [t], by rw [upd_same, ea, List.map_append]; rfl, fun t' h => ?_⟩
  rcases List.mem_append.mp h with h | h
  · obtain ⟨c, x, y, q, d, f⟩ := b t' h
    exact ⟨c, x, y, q, by rw [upd_ne c]; exact e _ _ d, f⟩
  · rw [List.mem_singleton.mp h]
    exact ⟨tm, x, y, q, by rw [upd_ne tm]; exact ht, nq⟩
theorem GrowF.ok {H0 H1 H : Hp} {m : Addr} (h : GrowF H1 H m) (e : Same H0 H1) : ∀ xs, H m = some (.lst xs) → ∀ t, V.ref t ∈ xs → ∀ x y q, H t = some (.tup [x, y, .ref q]) → H0 q = none := fun xs hx t hm x y q hq => by
  obtain ⟨rs, a, b⟩ := h
  rw [a] at hx
  rw [← HO.lst.inj (Option.some.inj hx)] at hm
  obtain ⟨t', ht', e'⟩ := List.mem_map.mp hm
  obtain rfl := V.ref.inj e'
  obtain ⟨_, x', y', q', d, f⟩ := b t' ht'
  rw [d] at hq
  have z := HO.tup.inj (Option.some.inj hq)
  injection z with _ z
  injection z with _ z
  injection z with z _
  rw [← V.ref.inj z]
  exact e.free f
/-- what is promised of blocks, and of what rests on it: P r H' bs -/
def spBlk (K : PySem.W.Frag) (C CS D : Addr) (R : Hp → List Int → List Int → List (List Nat) → Addr → Hp → Prop) : Sp := fun vs H Q E => ∃ (s v : Addr) (ps : List Nat) (ls ws : List Int), vs = [.ref s, .ref v] ∧ TunAt K C CS H s ps ls ∧ SqE K H v (ws.map V.int) ∧ ws.length ≤ 900 ∧ ps.length ≤ 60 ∧ (∀ v, v ∈ ws → v < 2 ^ 40) ∧
  (NoFault ws 0 ps.length → ∀ r bs H', Same H H' → H r = none → Tn.Sts ps.length (Tr.par ps) (vf ws) (vf ls) bs → Tn.Full ps.length bs → R H ls ws bs r H' → Q (.ref r) H') ∧
  (∀ z, Fault ws 0 ps.length z → ∀ d H', Same H H' → H d = none → H' d = some (.xd [("place", .int z)]) → E (.ref D) (some d) H')
/-- the lists in the blocks are new since H0 -/
def BlkF (H0 : Hp) (r : Addr) (H : Hp) : Prop := ∀ xs, H r = some (.lst xs) → ∀ t, V.ref t ∈ xs → ∀ x y q, H t = some (.tup [x, y, .ref q]) → H0 q = none
theorem BlkF.same {H0 H H' : Hp} {r : Addr} {rs : List Addr} (h : BlkF H0 r H) (hr : H r = some (.lst (rs.map V.ref))) (ht : ∀ t, t ∈ rs → H t ≠ none) (e : Same H H') : BlkF H0 r H' := fun xs hx t hm x y q hq => by
  have := e _ _ hr
  rw [hx] at this
  have ex : xs = rs.map V.ref := HO.lst.inj (Option.some.inj this)
  rw [ex] at hm
  obtain ⟨t', ht', e'⟩ := List.mem_map.mp hm
  obtain rfl := V.ref.inj e'
  cases c : H t' with
  | none => exact absurd c (ht t' ht')
  | some o =>
    have := e _ _ c
    rw [hq] at this
    rw [← Option.some.inj this] at c
    exact h _ hr t' (List.mem_map_of_mem ht') x y q c
def RBlk (H0 : Hp) (ls ws : List Int) (bs : List (List Nat)) (r : Addr) (H : Hp) : Prop := SetsAt H ws ls r bs ∧ BlkF H0 r H
/-- lists of tunnels at r -/
def LLN (H : Hp) (r : Addr) (bs : List (List Nat)) : Prop := ∃ rs : List Addr, H r = some (.lst (rs.map V.ref)) ∧ rs.length = bs.length ∧ ∀ (i : Nat) (q : Addr) (b : List Nat), rs[i]? = some q → bs[i]? = some b → q ≠ r ∧ H q = some (.lst (nvs b))
/-- the corners: lengths and weights of the first i blocks -/
def RStr (H0 : Hp) (_ _ : List Int) (bs : List (List Nat)) (r : Addr) (H : Hp) : Prop := LLN H r bs ∧ ∀ xs, H r = some (.lst xs) → ∀ q, V.ref q ∈ xs → H0 q = none
def crn (f : Nat → Int) (bs : List (List Nat)) (i : Nat) : Int := Tn.sumL f (bs.take i).flatten
theorem sumL_app (f : Nat → Int) (a b : List Nat) : Tn.sumL f (a ++ b) = Tn.sumL f a + Tn.sumL f b := by unfold Tn.sumL; rw [List.map_append, List.sum_append]
theorem crn_succ {f : Nat → Int} {bs : List (List Nat)} {i : Nat} {b : List Nat} (h : bs[i]? = some b) : crn f bs (i + 1) = crn f bs i + Tn.sumL f b := by
  unfold crn
  rw [List.take_succ, h, show (some b).toList = [b] from rfl, Tn.flat_snoc, sumL_app]
theorem ref_get {rs : List Addr} {i : Nat} {x : V} (h : (rs.map V.ref)[i]? = some x) : ∃ r, rs[i]? = some r ∧ x = V.ref r := by
  rw [List.getElem?_map] at h
  cases e : rs[i]? with
  | none => rw [e] at h; cases h
  | some p => rw [e] at h; cases h; exact ⟨p, rfl, rfl⟩
theorem get_snoc {α : Type} {xs : List α} {x y : α} {j : Nat} (h : (xs ++ [x])[j]? = some y) : xs[j]? = some y ∨ (j = xs.length ∧ y = x) := by
  rw [List.getElem?_append] at h
  split at h
  · exact .inl h
  · right
    cases z : j - xs.length with
    | zero => rw [z] at h; exact ⟨by omega, (Option.some.inj h).symm⟩
    | succ z' => rw [z] at h; simp at h
def CrnAt (H : Hp) (ls ws : List Int) (bs : List (List Nat)) (n : Nat) (r : Addr) : Prop := ∃ rs : List Addr, H r = some (.lst (rs.map V.ref)) ∧ rs.length = n + 1 ∧ ∀ (i : Nat) (q : Addr), rs[i]? = some q → H q = some (.tup [V.int (crn (vf ls) bs i), V.int (crn (vf ws) bs i)])
def RCrn (_ : Hp) (ls ws : List Int) (bs : List (List Nat)) (r : Addr) (H : Hp) : Prop := CrnAt H ls ws bs bs.length r
/-- what the law has found so far: the best of the sets P beyond S0, and the union of the best ones -/
def Found (w l : Nat → Int) (S0 : List Nat) (P : List (List Nat)) (B : Option (List Nat)) (X : List Nat) : Prop := X.Nodup ∧ match B with
  | none => X = [] ∧ ∀ S, S ∈ P → ¬ Tn.Qual S0 S
  | some B => B ∈ P ∧ Tn.Qual S0 B ∧ (∀ S, S ∈ P → Tn.Qual S0 S → Tn.dif w S S0 * Tn.dif l B S0 ≤ Tn.dif w B S0 * Tn.dif l S S0) ∧ ∀ k, k ∈ X ↔ ∃ S, S ∈ P ∧ Tn.Qual S0 S ∧ Tn.dif w S S0 * Tn.dif l B S0 = Tn.dif w B S0 * Tn.dif l S S0 ∧ k ∈ S ∧ k ∉ S0
def isNew (S0 X : List Nat) (k : Nat) : Bool := !decide (k ∈ S0) && !decide (k ∈ X)
theorem isNew_true {S0 X : List Nat} {k : Nat} : isNew S0 X k = true ↔ k ∉ S0 ∧ k ∉ X := by
  unfold isNew
  rw [Bool.and_eq_true, Bool.not_eq_true', Bool.not_eq_true', decide_eq_false_iff_not, decide_eq_false_iff_not]
section
variable {w l : Nat → Int} {S0 X S B0 : List Nat} {P : List (List Nat)} {B : Option (List Nat)}
theorem Found.skip (h : Found w l S0 P B X) (q : ¬ Tn.Qual S0 S) : Found w l S0 (P ++ [S]) B X := by
  refine ⟨h.1, ?_⟩
  have h := h.2
  have mem : ∀ {T}, T ∈ P ++ [S] → T ∈ P ∨ T = S := fun z => (List.mem_append.mp z).imp_right List.mem_singleton.mp
  cases B with
  | none => exact ⟨h.1, fun T hT => (mem hT).elim (h.2 T) fun e => e ▸ q⟩
  | some B =>
    obtain ⟨h1, h2, h3, h4⟩ := h
    refine ⟨List.mem_append_left _ h1, h2, fun T hT qT => (mem hT).elim (fun z => h3 T z qT) fun e => absurd (e ▸ qT) q, fun k => (h4 k).trans ⟨fun ⟨T, a, b⟩ => ⟨T, List.mem_append_left _ a, b⟩, fun ⟨T, a, b, c⟩ => ?_⟩⟩
    rcases mem a with z | e
    · exact ⟨T, z, b, c⟩
    · exact absurd (e ▸ b) q
theorem Found.put (nd : S.Nodup) (q : Tn.Qual S0 S) (h : ∀ T, T ∈ P → Tn.Qual S0 T → Tn.dif w T S0 * Tn.dif l S S0 < Tn.dif w S S0 * Tn.dif l T S0) : Found w l S0 (P ++ [S]) (some S) ([] ++ S.filter (isNew S0 [])) := by
  have mem : ∀ {T}, T ∈ P ++ [S] → T ∈ P ∨ T = S := fun z => (List.mem_append.mp z).imp_right List.mem_singleton.mp
  refine ⟨nd.filter _, List.mem_append_right _ (List.mem_singleton.mpr rfl), q, fun T hT qT => (mem hT).elim (fun z => Int.le_of_lt (h T z qT)) fun e => by rw [e]; exact Int.le_refl _, fun k => ?_⟩
  rw [List.nil_append, List.mem_filter, isNew_true]
  constructor
  · rintro ⟨a, b, _⟩
    exact ⟨S, List.mem_append_right _ (List.mem_singleton.mpr rfl), q, rfl, a, b⟩
  · rintro ⟨T, hT, qT, e, a, b⟩
    rcases mem hT with z | z
    · have := h T z qT
      omega
    · rw [z] at a
      exact ⟨a, b, List.not_mem_nil⟩
theorem Found.less (h : Found w l S0 P (some B0) X) (q : Tn.dif w S S0 * Tn.dif l B0 S0 < Tn.dif w B0 S0 * Tn.dif l S S0) : Found w l S0 (P ++ [S]) (some B0) X := by
  obtain ⟨h0, h1, h2, h3, h4⟩ := h
  have mem : ∀ {T}, T ∈ P ++ [S] → T ∈ P ∨ T = S := fun z => (List.mem_append.mp z).imp_right List.mem_singleton.mp
  refine ⟨h0, List.mem_append_left _ h1, h2, fun T hT qT => (mem hT).elim (fun z => h3 T z qT) fun e => by rw [e]; exact Int.le_of_lt q, fun k => (h4 k).trans ⟨fun ⟨T, a, b⟩ => ⟨T, List.mem_append_left _ a, b⟩, fun ⟨T, a, b, c, d⟩ => ?_⟩⟩
  rcases mem a with z | e
  · exact ⟨T, z, b, c, d⟩
  · rw [e] at c
    omega
theorem Found.tie (nd : S.Nodup) (h : Found w l S0 P (some B0) X) (qS : Tn.Qual S0 S) (q : Tn.dif w S S0 * Tn.dif l B0 S0 = Tn.dif w B0 S0 * Tn.dif l S S0) : Found w l S0 (P ++ [S]) (some B0) (X ++ S.filter (isNew S0 X)) := by
  obtain ⟨h0, h1, h2, h3, h4⟩ := h
  have mem : ∀ {T}, T ∈ P ++ [S] → T ∈ P ∨ T = S := fun z => (List.mem_append.mp z).imp_right List.mem_singleton.mp
  refine ⟨List.nodup_append.mpr ⟨h0, nd.filter _, fun x hx y hy e => ?_⟩, List.mem_append_left _ h1, h2, fun T hT qT => (mem hT).elim (fun z => h3 T z qT) fun e => by rw [e]; omega, fun k => ?_⟩
  · subst e
    exact (isNew_true.mp (List.mem_filter.mp hy).2).2 hx
  · rw [List.mem_append, List.mem_filter, isNew_true]
    constructor
    · rintro (z | ⟨a, b, _⟩)
      · obtain ⟨T, a, b⟩ := (h4 k).mp z
        exact ⟨T, List.mem_append_left _ a, b⟩
      · exact ⟨S, List.mem_append_right _ (List.mem_singleton.mpr rfl), qS, q, a, b⟩
    · rintro ⟨T, hT, qT, e, a, b⟩
      rcases mem hT with z | z
      · exact .inl ((h4 k).mpr ⟨T, z, qT, e, a, b⟩)
      · rw [z] at a
        by_cases c : k ∈ X
        · exact .inl c
        · exact .inr ⟨a, b, c⟩
end
def MoreV (H : Hp) (ls ws : List Int) (S0 : List Nat) (v : V) : Option (List Nat) → Prop
  | none => v = .non
  | some B => ∃ t : Addr, v = .ref t ∧ H t = some (.tup [V.int (Tn.dif (vf ls) B S0), V.int (Tn.dif (vf ws) B S0)])
theorem all_in (S0 S : List Nat) : ((S0.map fun k => decide (k ∈ S)).all id) = decide (∀ k, k ∈ S0 → k ∈ S) := by
  rw [Bool.eq_iff_iff, decide_eq_true_iff, List.all_eq_true]
  constructor
  · intro h k hk
    exact of_decide_eq_true (h _ (List.mem_map_of_mem hk))
  · rintro h _ hx
    obtain ⟨k, hk, rfl⟩ := List.mem_map.mp hx
    exact decide_eq_true (h k hk)
def spAddn : Sp := fun vs H Q _ => ∃ (a b : Addr) (n : Nat) (par : Nat → Nat) (ls ws : List Int) (S0 : List Nat), vs = [.ref a, .ref b] ∧ SetsAt H ls ws a (Tn.clS par n) ∧ H b = some (.lst (nvs S0)) ∧ S0 ∈ Tn.clS par n ∧ Tn.Par n par ∧ n ≤ 8 ∧ Bd ls ∧ Bd ws ∧ (∀ k, 1 ≤ k → k ≤ n → 1 ≤ vf ls k) ∧ (∃ c, 1 ≤ c ∧ c ≤ n ∧ c ∉ S0) ∧
  ∀ W r H', Tn.Best n par (vf ws) (vf ls) (Tn.inL S0) W → Same H H' → H r = none → H' r = some (.lst (nvs (Tn.lst n W))) → Q (.ref r) H'
theorem sorted_lst {N : List Int} {X : List Nat} {n : Nat} {s : Nat → Bool} (pm : N.Perm (toI X)) (ple : N.Pairwise (· ≤ ·)) (nX : X.Nodup) (h : ∀ k, k ∈ X ↔ 1 ≤ k ∧ k ≤ n ∧ s k = true) : N = toI (Tn.lst n s) := by
  have ndI : (toI X).Nodup := by
    unfold toI
    exact List.Pairwise.map _ (fun x y h e => h (by omega)) nX
  have ndN : N.Nodup := pm.nodup_iff.mpr ndI
  have inc2 : N.Pairwise (· < ·) := (ple.and ndN).imp fun e => by omega
  refine rising_is (lst_incr _ _) inc2 fun k => ?_
  rw [pm.mem_iff]
  constructor
  · intro hk
    unfold toI at hk ⊢
    obtain ⟨m, hm, rfl⟩ := List.mem_map.mp hk
    exact List.mem_map_of_mem (Tn.mem_lst.mpr ((h m).mp hm))
  · intro hk
    unfold toI at hk ⊢
    obtain ⟨m, hm, rfl⟩ := List.mem_map.mp hk
    exact List.mem_map_of_mem ((h m).mpr (Tn.mem_lst.mp hm))
theorem lst_more {n : Nat} {L : List Nat} (h : (Tn.lst n (Tn.inL L)).length < n) : ∃ c, 1 ≤ c ∧ c ≤ n ∧ c ∉ L := Classical.byContradiction fun no => by
  have := Tn.all_len (n := n) (X := Tn.lst n (Tn.inL L)) fun k a b => Tn.mem_lst.mpr ⟨a, b, Tn.inL_true.mpr (Classical.byContradiction fun z => no ⟨k, a, b, z⟩)⟩
  omega
theorem lst_full {n : Nat} {L : List Nat} (h : ¬ (Tn.lst n (Tn.inL L)).length < n) : ∀ c, 1 ≤ c → c ≤ n → c ∈ L := fun c a b => Classical.byContradiction fun no => h (by
  have := Tn.nodup_len (n := n) (X := c :: Tn.lst n (Tn.inL L)) (List.nodup_cons.mpr ⟨fun z => no (Tn.inL_true.mp (Tn.mem_lst.mp z).2.2), Tn.lst_nodup _ _⟩) fun k hk => by
    rcases List.mem_cons.mp hk with rfl | hk
    · exact ⟨a, b⟩
    · have := Tn.mem_lst.mp hk
      exact ⟨this.1, this.2.1⟩
  rw [List.length_cons] at this
  omega)
theorem inL_lst {n : Nat} {L : List Nat} (h : ∀ k, k ∈ L → 1 ≤ k ∧ k ≤ n) : Tn.inL (Tn.lst n (Tn.inL L)) = Tn.inL L := by
  funext k
  rw [Bool.eq_iff_iff, Tn.inL_true, Tn.mem_lst, Tn.inL_true]
  exact ⟨fun z => z.2.2, fun z => ⟨(h k z).1, (h k z).2, z⟩⟩
theorem cld_mem {n : Nat} {par : Nat → Nat} {L : List Nat} (hp : Tn.Par n par) (h : Tn.Cld n par (Tn.inL L)) : Tn.lst n (Tn.inL L) ∈ Tn.clS par n := Tn.cl_mem hp ⟨h.1, fun k a b e => ⟨rfl, (h.2 k a b e).imp_right .inr⟩⟩
theorem LLN.same {H H' : Hp} {r : Addr} {bs : List (List Nat)} (h : LLN H r bs) (e : Same H H') : LLN H' r bs := by
  obtain ⟨rs, h1, h2, h3⟩ := h
  exact ⟨rs, e _ _ h1, h2, fun i q b x y => let ⟨a, c⟩ := h3 i q b x y; ⟨a, e _ _ c⟩⟩
theorem LLN.snoc {H H' : Hp} {r q : Addr} {bs : List (List Nat)} {b : List Nat} (h : LLN H r bs) (e : Same H H') (nq : H q = none) (hq : H' q = some (.lst (nvs b))) : ∃ acc, H' r = some (.lst acc) ∧ acc.length = bs.length ∧ LLN (upd H' r (.lst (acc ++ [V.ref q]))) r (bs ++ [b]) := by
  obtain ⟨rs, h1, h2, h3⟩ := h
  have qr : q ≠ r := (ne_of_none h1 nq).symm
  refine ⟨_, e _ _ h1, by rw [List.length_map, h2], rs ++ [q], by rw [upd_same, List.map_append]; rfl, by rw [List.length_append, List.length_append, h2]; rfl, fun i x y hx hy => ?_⟩
  rcases get_snoc hx with hx | ⟨rfl, rfl⟩
  · have hi := (List.getElem?_eq_some_iff.mp hx).1
    rw [List.getElem?_append_left (by omega)] at hy
    obtain ⟨a, c⟩ := h3 i x y hx hy
    exact ⟨a, by rw [upd_ne a]; exact e _ _ c⟩
  · rw [h2, List.getElem?_append_right (Nat.le_refl _), Nat.sub_self] at hy
    obtain rfl : b = y := Option.some.inj hy
    exact ⟨qr, by rw [upd_ne qr]; exact hq⟩
theorem LLN.at {H : Hp} {r : Addr} {bs : List (List Nat)} (h : LLN H r bs) {i : Nat} {b : List Nat} (hb : bs[i]? = some b) : ∃ xs q, H r = some (.lst xs) ∧ xs.length = bs.length ∧ xs[i]? = some (V.ref q) ∧ H q = some (.lst (nvs b)) := by
  obtain ⟨rs, h1, h2, h3⟩ := h
  have hi := (List.getElem?_eq_some_iff.mp hb).1
  have hr := List.getElem?_eq_getElem (show i < rs.length by omega)
  exact ⟨_, _, h1, by rw [List.length_map, h2], by rw [List.getElem?_map, hr]; rfl, (h3 i _ b hr hb).2⟩
def spBlocksL (K : PySem.W.Frag) : Sp := fun vs H Q _ => ∃ (p l w : Addr) (ps : List Nat) (ls ws : List Int), vs = [.ref p, .ref l, .ref w] ∧ SqL K H p (nvs ps) ∧ SqL K H l (ls.map V.int) ∧ SqL K H w (ws.map V.int) ∧ Tr.Ok ps ∧ 1 ≤ ps.length ∧ ls.length = ps.length ∧ ws.length = ps.length ∧ ps.length ≤ 8 ∧ Bd ws ∧ Bd ls ∧ (∀ v, v ∈ ls → 1 ≤ v) ∧
  ∀ r bs H', Same H H' → H r = none → Tn.Sts ps.length (Tr.par ps) (vf ws) (vf ls) bs → Tn.Full ps.length bs → LLN H' r bs → Q (.ref r) H'
/-- blocks at r: lists of numbers within bounds -/
def spCornersL (K : PySem.W.Frag) : Sp := fun vs H Q _ => ∃ (r l w : Addr) (bs : List (List Nat)) (ls ws : List Int), vs = [.ref r, .ref l, .ref w] ∧ LLN H r bs ∧ SqL K H l (ls.map V.int) ∧ SqL K H w (ws.map V.int) ∧ bs.length ≤ 60 ∧ (∀ b, b ∈ bs → b.length ≤ 60) ∧ (∀ b, b ∈ bs → ∀ k, k ∈ b → 1 ≤ k ∧ k ≤ ls.length ∧ k ≤ ws.length) ∧
  ∀ r' H', Same H H' → H r' = none → CrnAt H' ls ws bs bs.length r' → Q (.ref r') H'
def spRightS (K : PySem.W.Frag) (C CS : Addr) : Sp := fun vs H Q _ => ∃ (m w r e : Addr) (ps : List Nat) (ls ws : List Int) (bs : List (List Nat)), vs = [.ref m, .ref w, .ref r, .ref e] ∧ TunAt K C CS H m ps ls ∧ H w = some (.lst (ws.map V.int)) ∧ ws.length = ps.length ∧ ps.length ≤ 8 ∧ Bd ws ∧ Tn.Sts ps.length (Tr.par ps) (vf ws) (vf ls) bs ∧ Tn.Full ps.length bs ∧ LLN H r bs ∧ CrnAt H ls ws bs bs.length e ∧ ∀ H', Same H H' → Q (.bl true) H'
def spFall (K : PySem.W.Frag) : Sp := fun vs H Q _ => ∃ (e p r : Addr) (ps : List Nat) (ls ws : List Int) (bs : List (List Nat)), vs = [.ref e, .ref p, .ref r] ∧ SqL K H p (nvs ps) ∧ Tr.Ok ps ∧ ps.length ≤ 8 ∧ Bd ws ∧ Bd ls ∧ Tn.Sts ps.length (Tr.par ps) (vf ws) (vf ls) bs ∧ Tn.Full ps.length bs ∧ LLN H r bs ∧ CrnAt H ls ws bs bs.length e ∧ ∀ H', Same H H' → Q (.bl true) H'
def spRefS (K : PySem.W.Frag) (C CS : Addr) : Sp := fun vs H Q _ => ∃ (m w : Addr) (wd : Str) (ps : List Nat) (ls ws : List Int), vs = [.ref m, .str wd, .ref w, .int ps.length] ∧ TunAt K C CS H m ps ls ∧ H w = some (.lst (ws.map V.int)) ∧ ws.length ≤ 20 ∧ (∀ v, v ∈ ws → v < 2 ^ 40) ∧ ps.length ≤ 8 ∧ ∀ H', Same H H' → Q (.bl true) H'
theorem rg_lst (n : Nat) : rgV 1 ((n : Int) + 1) = (toI (Tn.lst n fun _ => true)).map V.int := by
  rw [← nvs_toI]
  unfold rgV nvs Tn.lst
  rw [List.filter_eq_self.mpr (fun _ _ => rfl), List.map_map, show ((n : Int) + 1 - 1).toNat = n by omega]
  refine List.map_congr_left fun i _ => ?_
  show V.int _ = V.int _
  congr 1
  show (1 : Int) + (i : Int) = ((i + 1 : Nat) : Int)
  omega
theorem CrnAt.at {H : Hp} {ls ws : List Int} {bs : List (List Nat)} {n : Nat} {r : Addr} (h : CrnAt H ls ws bs n r) : ∃ xs, H r = some (.lst xs) ∧ xs.length = n + 1 ∧ ∀ i, i ≤ n → ∃ q, xs[i]? = some (V.ref q) ∧ H q = some (.tup [V.int (crn (vf ls) bs i), V.int (crn (vf ws) bs i)]) := by
  obtain ⟨rs, h1, h2, h3⟩ := h
  refine ⟨_, h1, by rw [List.length_map, h2], fun i hi => ?_⟩
  have hr := List.getElem?_eq_getElem (show i < rs.length by omega)
  exact ⟨_, by rw [List.getElem?_map, hr]; rfl, h3 i _ hr⟩
theorem CrnAt.same {H H' : Hp} {ls ws : List Int} {bs : List (List Nat)} {n : Nat} {r : Addr} (h : CrnAt H ls ws bs n r) (e : Same H H') : CrnAt H' ls ws bs n r := by
  obtain ⟨rs, h1, h2, h3⟩ := h
  exact ⟨rs, e _ _ h1, h2, fun i q hq => e _ _ (h3 i q hq)⟩
theorem LLN.mut {H : Hp} {r D : Addr} {bs : List (List Nat)} {qs : List Addr} {o : HO} (h : LLN H r bs) (rD : r ≠ D) (hD : H D = some (.lst (qs.map V.ref))) (ne : ∀ b, b ∈ bs → b ≠ []) : LLN (upd H D o) r bs := by
  obtain ⟨rs, h1, h2, h3⟩ := h
  refine ⟨rs, by rw [upd_ne rD]; exact h1, h2, fun i q b hq hb => ?_⟩
  obtain ⟨a, c⟩ := h3 i q b hq hb
  refine ⟨a, ?_⟩
  rw [upd_ne]
  · exact c
  · intro e
    rw [e, hD] at c
    have c := HO.lst.inj (Option.some.inj c)
    have nb := ne b (List.mem_of_getElem? hb)
    cases b with
    | nil => exact nb rfl
    | cons x y => cases qs with
      | nil => cases c
      | cons z qs => unfold nvs at c; simp at c
theorem blk_ok {n : Nat} {par : Nat → Nat} {w l : Nat → Int} {bs : List (List Nat)} (hp : Tn.Par n par) (st : Tn.Sts n par w l bs) : bs.length ≤ n ∧ (∀ b, b ∈ bs → b ≠ [] ∧ b.length ≤ n ∧ ∀ k, k ∈ b → 1 ≤ k ∧ k ≤ n) := by
  obtain ⟨f1, f2, f3, f4⟩ := st.facts hp
  have fl := Tn.nodup_len f1 f2
  refine ⟨by omega, fun b hb => ?_⟩
  obtain ⟨i, hi⟩ := List.getElem?_of_mem hb
  obtain ⟨W, e, bW⟩ := st.at i b hi
  have rg : ∀ k, k ∈ b → 1 ≤ k ∧ k ≤ n := fun k hk => by
    rw [e] at hk
    exact ⟨(Tn.mem_lst.mp hk).1, (Tn.mem_lst.mp hk).2.1⟩
  refine ⟨fun z => ?_, ?_, rg⟩
  · obtain ⟨c, a, b', h, _⟩ := bW.one
    have : c ∈ b := by rw [e]; exact Tn.mem_lst.mpr ⟨a, b', h⟩
    rw [z] at this
    cases this
  · rw [e]
    exact Tn.nodup_len (Tn.lst_nodup _ _) fun k hk => ⟨(Tn.mem_lst.mp hk).1, (Tn.mem_lst.mp hk).2.1⟩
end EP
/-! the outer line -/
namespace Tn
section
variable {n : Nat} {par : Nat → Nat} {w l : Nat → Int} {bs : List (List Nat)}
theorem Sts.take (h : Sts n par w l bs) : ∀ i, Sts n par w l (bs.take i) := by
  induction h with
  | nil => intro i; rw [List.take_nil]; exact .nil
  | @snoc bs W hs bW ih =>
    intro i
    by_cases c : i ≤ bs.length
    · rw [List.take_append_of_le_length c]
      exact ih i
    · rw [List.take_of_length_le (by rw [List.length_append]; show _ + 1 ≤ _; omega)]
      exact .snoc hs bW
theorem Sts.pos (h : Sts n par w l bs) {i : Nat} {b : List Nat} (hb : bs[i]? = some b) : 0 < sumL l b := by
  obtain ⟨W, e, bW⟩ := h.at i b hb
  rw [e, sumL_lst]
  exact bW.2.1
theorem Sts.fallen (hp : Par n par) (h : Sts n par w l bs) : ∀ (d i : Nat) (x y : List Nat), bs[i]? = some x → bs[i + (d + 1)]? = some y → sumL w y * sumL l x < sumL w x * sumL l y
  | 0, i, x, y, hx, hy => h.falls hp hx hy
  | d + 1, i, x, y, hx, hy => by
    have hj := (List.getElem?_eq_some_iff.mp hy).1
    have hm := List.getElem?_eq_getElem (show i + (d + 1) < bs.length by omega)
    generalize bs[i + (d + 1)]'(show i + (d + 1) < bs.length by omega) = m at hm
    have q1 := h.fallen hp d i x m hx hm
    have q2 := h.falls hp hm (show bs[i + (d + 1) + 1]? = some y from hy)
    exact worse (h.pos hm) (h.pos hx) (h.pos hy) (Int.le_of_lt q2) q1
/-- what the blocks have beyond a closed set weighs at least as their ratios say -/
theorem beyond (hp : Par n par) (hl : ∀ k, 1 ≤ k → k ≤ n → 1 ≤ l k) {S : List Nat} (hS : ClL n par S) {p q : Int} (q0 : 0 < q) (h : Sts n par w l bs) : (∀ b, b ∈ bs → p * sumL l b < sumL w b * q) → p * fs n l (exc bs.flatten S) ≤ fs n w (exc bs.flatten S) * q ∧ ((∃ k, 1 ≤ k ∧ k ≤ n ∧ exc bs.flatten S k = true) → p * fs n l (exc bs.flatten S) < fs n w (exc bs.flatten S) * q) := by
  induction h with
  | nil =>
    intro _
    have z : ∀ f : Nat → Int, fs n f (exc ([] : List (List Nat)).flatten S) = 0 := fun f => by
      unfold fs
      rw [show sm n (fun k => i0 (exc ([] : List (List Nat)).flatten S k) (f k)) = sm n (fun _ => 0) from sm_congr fun k _ _ => rfl, sm_zero]
    rw [z, z]
    exact ⟨by omega, fun ⟨k, _, _, e⟩ => by cases e⟩
  | @snoc bs W hs bW ih =>
    intro al
    obtain ⟨i1, i2⟩ := ih fun b hb => al b (List.mem_append_left _ hb)
    have aW := al (lst n W) (List.mem_append_right _ (List.mem_singleton.mpr rfl))
    rw [sumL_lst, sumL_lst] at aW
    have inter : Add n par (inL bs.flatten) (fun k => W k && inL S k) := ⟨by show (W 0 && inL S 0) = false; rw [bW.1.1]; rfl, fun k a b e => by
      obtain ⟨e1, e2⟩ := (Bool.and_eq_true _ _).mp e
      obtain ⟨d1, d2⟩ := bW.1.2 k a b e1
      refine ⟨d1, ?_⟩
      rcases hS.2 k (inL_true.mp e2) with z | z
      · exact .inl z
      · rcases d2 with y | y | y
        · exact .inl y
        · exact .inr (.inl y)
        · right; right
          show (W _ && inL S _) = true
          rw [y, inL_true.mpr z]; rfl⟩
    have q1 := (bW.2.2 _ inter).1
    have split : ∀ f : Nat → Int, fs n f W = fs n f (fun k => W k && inL S k) + fs n f (fun k => W k && !inL S k) := fun f => by
      rw [← fs_or fun k _ _ e => by
        obtain ⟨e1, e2⟩ := (Bool.and_eq_true _ _).mp e
        show (W k && !inL S k) = false
        rw [e2, Bool.not_true, Bool.and_false]]
      refine sm_congr fun k _ _ => ?_
      congr 1
      show W k = (W k && inL S k || W k && !inL S k)
      cases W k <;> cases inL S k <;> rfl
    have ext : ∀ f : Nat → Int, fs n f (exc (bs ++ [lst n W]).flatten S) = fs n f (exc bs.flatten S) + fs n f (fun k => W k && !inL S k) := fun f => by
      rw [← fs_or fun k a b e => by
        obtain ⟨e1, _⟩ := exc_true.mp e
        show (W k && !inL S k) = false
        cases z : W k with
        | false => rfl
        | true => exact absurd e1 (inL_false.mp (bW.1.2 k a b z).1)]
      refine sm_congr fun k a b => ?_
      congr 1
      rw [Bool.eq_iff_iff, exc_true, flat_snoc, List.mem_append, mem_lst, Bool.or_eq_true, exc_true, Bool.and_eq_true, Bool.not_eq_true', inL_false]
      constructor
      · rintro ⟨c | ⟨_, _, c⟩, d⟩
        · exact .inl ⟨c, d⟩
        · exact .inr ⟨c, d⟩
      · rintro (⟨c, d⟩ | ⟨c, d⟩)
        · exact ⟨.inl c, d⟩
        · exact ⟨.inr ⟨a, b, c⟩, d⟩
    rw [ext, ext]
    have sw := split w
    have sl := split l
    generalize fs n w (fun k => W k && inL S k) = wi at *
    generalize fs n l (fun k => W k && inL S k) = li at *
    have nn : 0 ≤ fs n l (fun k => W k && !inL S k) := fs_nn fun k a b => by have := hl k a b; omega
    have some_ : (∃ k, 1 ≤ k ∧ k ≤ n ∧ (W k && !inL S k) = true) → 0 < fs n l (fun k => W k && !inL S k) := fun ⟨k, a, b, e⟩ => fs_pos hl a b e
    generalize hx : fs n w (fun k => W k && !inL S k) = x at *
    generalize hy : fs n l (fun k => W k && !inL S k) = y at *
    have pW := bW.2.1
    -- x * l(W) ≥ w(W) * y
    have r1 : fs n w W * y ≤ x * fs n l W := by
      have e1 : fs n w W * fs n l W = wi * fs n l W + x * fs n l W := by rw [← Int.add_mul, ← sw]
      have e2 : fs n w W * fs n l W = fs n w W * li + fs n w W * y := by rw [← Int.mul_add, ← sl]
      omega
    have r2 : fs n l W * (p * y) ≤ fs n l W * (x * q) := by
      have a1 : p * fs n l W * y ≤ fs n w W * q * y := Int.mul_le_mul_of_nonneg_right (Int.le_of_lt aW) nn
      have a2 : fs n w W * y * q ≤ x * fs n l W * q := Int.mul_le_mul_of_nonneg_right r1 (Int.le_of_lt q0)
      calc fs n l W * (p * y) = p * fs n l W * y := by rw [← Int.mul_assoc, Int.mul_comm (fs n l W)]
        _ ≤ fs n w W * q * y := a1
        _ = fs n w W * y * q := by rw [Int.mul_assoc, Int.mul_comm q, ← Int.mul_assoc]
        _ ≤ x * fs n l W * q := a2
        _ = fs n l W * (x * q) := by rw [Int.mul_comm x, Int.mul_assoc]
    have r3 : p * y ≤ x * q := Int.le_of_mul_le_mul_left r2 pW
    have r4 : 0 < y → p * y < x * q := fun y0 => by
      have a1 : p * fs n l W * y < fs n w W * q * y := Int.mul_lt_mul_of_pos_right aW y0
      have a2 : fs n w W * y * q ≤ x * fs n l W * q := Int.mul_le_mul_of_nonneg_right r1 (Int.le_of_lt q0)
      refine Int.lt_of_mul_lt_mul_left (a := fs n l W) ?_ (Int.le_of_lt pW)
      calc fs n l W * (p * y) = p * fs n l W * y := by rw [← Int.mul_assoc, Int.mul_comm (fs n l W)]
        _ < fs n w W * q * y := a1
        _ = fs n w W * y * q := by rw [Int.mul_assoc, Int.mul_comm q, ← Int.mul_assoc]
        _ ≤ x * fs n l W * q := a2
        _ = fs n l W * (x * q) := by rw [Int.mul_comm x, Int.mul_assoc]
    rw [Int.mul_add, Int.add_mul]
    refine ⟨by omega, fun ⟨k, a, b, e⟩ => ?_⟩
    obtain ⟨e1, e2⟩ := exc_true.mp e
    rw [flat_snoc, List.mem_append, mem_lst] at e1
    rcases e1 with c | ⟨_, _, c⟩
    · have := i2 ⟨k, a, b, exc_true.mpr ⟨c, e2⟩⟩
      omega
    · have := r4 (some_ ⟨k, a, b, by rw [c, inL_false.mpr e2]; rfl⟩)
      omega
theorem Sts.sum (h : Sts n par w l bs) (f : Nat → Int) : sumL f bs.flatten = fs n f (inL bs.flatten) := by
  induction h with
  | nil =>
    show (0 : Int) = _
    unfold fs
    rw [show sm n (fun k => i0 (inL ([] : List (List Nat)).flatten k) (f k)) = sm n (fun _ => 0) from sm_congr fun k _ _ => rfl, sm_zero]
  | @snoc bs W hs bW ih =>
    rw [flat_snoc]
    have e1 : sumL f (bs.flatten ++ lst n W) = sumL f bs.flatten + sumL f (lst n W) := by unfold sumL; rw [List.map_append, List.sum_append]
    rw [e1, ih, sumL_lst, ← fs_or fun k a b e => by
      cases z : W k with
      | false => rfl
      | true =>
        rw [(bW.1.2 k a b z).1] at e
        cases e]
    refine sm_congr fun k a b => ?_
    congr 1
    rw [Bool.eq_iff_iff, inL_true, List.mem_append, mem_lst, Bool.or_eq_true, inL_true]
    exact ⟨fun z => z.imp_right fun y => ⟨a, b, y⟩, fun z => z.imp_right fun y => y.2.2⟩
theorem modular (f : Nat → Int) (S D : List Nat) : fs n f (inL S) - fs n f (inL D) = fs n f (exc S D) - fs n f (exc D S) := by
  have one : ∀ A B : List Nat, fs n f (inL A) = fs n f (fun k => inL A k && inL B k) + fs n f (exc A B) := fun A B => by
    rw [← fs_or fun k _ _ e => by
      obtain ⟨_, e2⟩ := (Bool.and_eq_true _ _).mp e
      unfold exc
      rw [e2, Bool.not_true, Bool.and_false]]
    refine sm_congr fun k _ _ => ?_
    congr 1
    show inL A k = (inL A k && inL B k || inL A k && !inL B k)
    cases inL A k <;> cases inL B k <;> rfl
  have e : fs n f (fun k => inL S k && inL D k) = fs n f (fun k => inL D k && inL S k) := sm_congr fun k _ _ => by
    show i0 (inL S k && inL D k) (f k) = i0 (inL D k && inL S k) (f k)
    rw [Bool.and_comm]
  rw [one S D, one D S, e]
  omega
theorem exc_add' {S : List Nat} (hS : ClL n par S) (D : List Nat) : Add n par (inL D) (exc S D) := by
  refine ⟨?_, fun k a b e => ?_⟩
  · cases q : exc S D 0 with
    | false => rfl
    | true => have := hS.1.2 0 (exc_true.mp q).1; omega
  · obtain ⟨e1, e2⟩ := exc_true.mp e
    refine ⟨inL_false.mpr e2, ?_⟩
    rcases hS.2 k e1 with z | z
    · exact .inl z
    · by_cases c : par k ∈ D
      · exact .inr (.inl (inL_true.mpr c))
      · exact .inr (.inr (exc_true.mpr ⟨z, c⟩))
/-- from the corner before a block, no closed set is beyond the block's line, and on it none reaches farther -/
theorem hull (hp : Par n par) (hl : ∀ k, 1 ≤ k → k ≤ n → 1 ≤ l k) (h : Sts n par w l bs) {i : Nat} {b : List Nat} (hb : bs[i]? = some b) {S : List Nat} (hS : ClL n par S) :
    (sumL w S - sumL w (bs.take i).flatten) * sumL l b ≤ sumL w b * (sumL l S - sumL l (bs.take i).flatten) ∧ ((sumL w S - sumL w (bs.take i).flatten) * sumL l b = sumL w b * (sumL l S - sumL l (bs.take i).flatten) → sumL l S - sumL l (bs.take i).flatten ≤ sumL l b) := by
  obtain ⟨W, eb, bW⟩ := h.at i b hb
  have ht := h.take i
  rw [sumL_fs hS.1, sumL_fs hS.1, ht.sum w, ht.sum l, modular, modular, eb, sumL_lst, sumL_lst]
  have A := bW.2.2 _ (exc_add' hS (bs.take i).flatten)
  have B := beyond hp hl hS (p := fs n w W) (q := fs n l W) bW.2.1 ht fun b' hb' => by
    obtain ⟨j, hj⟩ := List.getElem?_of_mem hb'
    have lj := (List.getElem?_eq_some_iff.mp hj).1
    rw [List.length_take] at lj
    rw [List.getElem?_take_of_lt (by omega)] at hj
    have q := h.fallen hp (i - j - 1) j b' b hj (by rw [show j + (i - j - 1 + 1) = i by omega]; exact hb)
    rw [eb, sumL_lst, sumL_lst] at q
    exact q
  have nn : 0 ≤ fs n l (exc (bs.take i).flatten S) := fs_nn fun k a b => by have := hl k a b; omega
  generalize hX : exc S (bs.take i).flatten = X at *
  generalize hY : exc (bs.take i).flatten S = Y at *
  rw [Int.sub_mul, Int.mul_sub]
  refine ⟨by omega, fun e => ?_⟩
  have eA : fs n w X * fs n l W = fs n w W * fs n l X := by omega
  have up : fs n l X ≤ fs n l W := fs_mono (fun k a b => by have := hl k a b; omega) (A.2 eA)
  omega
end
end Tn
namespace EP
open PySem L2
def spStub : Sp := fun vs H Q E => False
end EP
/-! xs[::k], k positive -/
namespace EP
open PySem PySem.Spec PyProof.Rows L2
theorem vals_pick {xs : List V} {us : List Value} (r : Vals xs us) : ∀ idx : List Nat, Vals (idx.filterMap (xs[·]?)) (idx.filterMap (us[·]?))
  | [] => .nil
  | i :: idx => by
    have ih := vals_pick r idx
    cases e : xs[i]? with
    | none => rw [List.filterMap_cons_none e, List.filterMap_cons_none (r.none_of e)]; exact ih
    | some x =>
      obtain ⟨u, hu, rv⟩ := r.get e
      rw [List.filterMap_cons_some e, List.filterMap_cons_some hu]
      exact .cons rv ih
theorem pick_mem {α : Type} {xs : List α} {idx : List Nat} {y : α} (h : y ∈ idx.filterMap (xs[·]?)) : y ∈ xs := by
  obtain ⟨i, _, e⟩ := List.mem_filterMap.mp h
  exact List.mem_of_getElem? e
theorem range_len (n : Nat) {k : Int} (hk : 0 < k) : (sliceRange 0 (n : Int) k).length ≤ n := by
  unfold sliceRange
  rw [List.length_map, List.length_range]
  simp only [show k > 0 from hk, if_true]
  split
  · rename_i h
    have := ceilDiv_le ((n : Int) - 0) k (by omega) (by omega)
    omega
  · exact Nat.zero_le _
def stepQ (K : PySem.W.Frag) (a : Addr) (xs : List V) (Q : VK) (o : Option Int) (H2 : Hp) : Prop := match o with
  | none => False
  | some k => 0 < k ∧ SqL K H2 a xs ∧ ∀ (p : Addr) (ys : List V), H2 p = none → ys.length ≤ xs.length → (∀ y, y ∈ ys → y ∈ xs) → Q (.ref p) (upd H2 p (.lst ys))
def tStepL (K : PySem.W.Frag) (te ts : TE) : TE := fun σ H Q => te σ H fun x H1 => ∃ a xs, x = .ref a ∧ ts σ H1 fun y H2 => ∃ k : Int, y = .int k ∧ stepQ K a xs Q (some k) H2
theorem pe_stepL {X : Cx} {e st : Expr} {te ts : TE} {p3 pos : Pos} (he : PE X e te) (hs : PE X st ts) : PE X (.Subscript e (.Slice none none (some st) p3) pos) (tStepL X.K te ts) := by
  refine ⟨fun pins s σ H Q I h => ?_⟩
  refine Subscript_ (thn (he.run pins s σ H _ I h) fun v s1 ⟨x, H1, I1, r1, q1⟩ => ?_)
  obtain ⟨a, xs, ex, q⟩ := q1
  subst ex
  cases r1
  have hst : PO X (some st) (tPart ts) := po_some hs
  refine wpAny_Slice (thn (po_none.run pins s1 σ H1 (fun o H2 => o = none ∧ H2 = H1) I1 ⟨rfl, rfl⟩) fun vl s2 ⟨l, H2, I2, pl, el, e2⟩ => ?_)
  subst el e2
  refine thn (po_none.run pins s2 σ H2 (fun o H3 => o = none ∧ H3 = H2) I2 ⟨rfl, rfl⟩) fun vu s3 ⟨u, H3, I3, pu, eu, e3⟩ => ?_
  subst eu e3
  refine thn (hst.run pins s3 σ H3 (fun o H4 => stepQ X.K a xs Q o H4) I3 q) fun vs s4 ⟨o, H4, I4, ps, eo⟩ => ?_
  obtain ⟨k, rfl⟩ : ∃ k, o = some k := by
    cases o with
    | none => exact eo.elim
    | some k => exact ⟨k, rfl⟩
  obtain ⟨k0, hx, q⟩ : 0 < k ∧ SqL X.K H4 a xs ∧ ∀ (p : Addr) (ys : List V), H4 p = none → ys.length ≤ xs.length → (∀ y, y ∈ ys → y ∈ xs) → Q (.ref p) (upd H4 p (.lst ys)) := eo
  have I5 : Inv X pins σ H4 { s4 with heap := s4.heap.push { cls := .type "slice", data := .fields #[vl, vu, vs] } } := I4.kept (t' := s4.toks) fun b ob q => Heap.get?_push_of_some _ q
  obtain ⟨its, r, ht, hz⟩ := I5.list hx
  have hlen := r.length
  show wpAny (model X.prog X.w) X.A (subscriptTail e (.Slice none none (some st) p3) (.ref a) (.ref s4.heap.objs.size)) (EP X pins σ Q) X.xe { s4 with heap := s4.heap.push { cls := .type "slice", data := .fields #[vl, vu, vs] } }
  refine tail_any (ops := [.ref a, .ref s4.heap.objs.size]) ht.isList.typeIs (PySem.slot_list_getitem.lookup) ?_ (by with_unfolding_all rfl)
  refine wpAny_getItem_list_slice ht.isList (Heap.IsSliceOf.new _ vl vu vs) pl pu ps (by intro z; cases z; omega) ?_ (by rw [List.size_toArray]; omega)
  have eb : sliceBounds none none (some k) its.toArray.size = (0, (its.length : Int), k) := by
    unfold sliceBounds
    simp [show k > 0 from k0]
  unfold slicePick
  rw [eb]
  dsimp only
  have ef : ((sliceRange 0 (its.length : Int) k).filterMap fun i => its.toArray[i]?) = (sliceRange 0 (its.length : Int) k).filterMap (its[·]?) := by
    congr 1
    funext i
    simp
  rw [ef]
  have ll : ((sliceRange 0 (its.length : Int) k).filterMap (xs[·]?)).length ≤ xs.length := by
    have a := List.length_filterMap_le (xs[·]?) (sliceRange 0 (its.length : Int) k)
    have b := range_len its.length k0
    omega
  refine ⟨.ref _, _, I5.laid (t' := s4.toks) (o := .lst ((sliceRange 0 (its.length : Int) k).filterMap (xs[·]?))) (fun b ob q => Heap.get?_push_of_some _ q) (Nat.le_refl _) ?_, rfl, q _ _ (I5.hok.fresh (Nat.le_refl _)) ll fun y hy => pick_mem hy⟩
  exact ⟨by omega, _, 0, vals_pick r _, Heap.get?_push_size _ rfl⟩
end EP
/-! sum(list of ints) while an exception is handled -/
namespace EP
open PySem PySem.Spec PyProof.Rows HotX
section
variable {prog : Program} {w : World} {A : Around} {E : Value → Shared → Prop} {s : Shared}
theorem pyNext_list_end_hot {it l x1 : Addr} {i : Nat} {items : Array Value} {Q : Option Value → Shared → Prop} (hot : HotAt A x1 s.heap) (hne : x1 ≠ it)
    (hit : s.heap.IsListIter it l i) (hl : s.heap.IsList l items) (hx : items[i]? = none)
    (hQ : ∀ h', Heap.ExtBut it s.heap h' → Q none { s with heap := h' }) : wpAny (model prog w) A (pyNext (.ref it)) Q E s := by
  obtain ⟨o, ho, hc, hd⟩ := id hit
  obtain ⟨ol, hol, _, nl, hdl⟩ := hl
  obtain ⟨hh, o1, vs1, h1, d1, c1⟩ := hot
  unfold pyNext
  refine wpAny_bind (wpAny_attempt (wpAny_callSpecial?_slot (name := Str.ofString "__next__") hit.typeIs slot_listiter_next
    (wpAny_call_entry slot_listiter_next hit.typeIs entry_listiter_next ?_ (args_listiter_next _))))
  show wpAny _ _ (field (.ref it) 0 >>= _) _ _ s
  refine wpAny_bind (wpAny_field ho hd (x := .ref l) rfl ?_)
  show wpAny _ _ (if (Value.ref l == Value.none) = true then _ else _) _ _ s
  rw [if_neg (show ¬ ((Value.ref l == Value.none) = true) from Bool.false_ne_true)]
  show wpAny _ _ (field (.ref it) 1 >>= _) _ _ s
  refine wpAny_bind (wpAny_field ho hd (x := .int i 0) rfl ?_)
  show wpAny _ _ (seqItems? (.ref l) >>= _) _ _ s
  refine wpAny_bind (wpAny_seqItems hol hdl ?_)
  simp only [Int.toNat_natCast, hx]
  refine wpAny_bind (wpAny_rule (wpAny_bind (wpAny_setField ho hd (by simp) ?_)))
  show wpAny _ _ (newExc (.type "StopIteration") [] >>= _) _ _ _
  refine wpAny_bind ?_
  simp only [newExc, newTuple]
  refine wpAny_bind (wpAny_newObj_type ?_ (by size_fits))
  refine wpAny_bind (m := firstArgMember _ _) (wpAny_of_eq (a := Value.none) (by first | rfl | (simp only [firstArgMember]; rfl)) ?_)
  refine wpAny_newObj_type ?_ (by size_fits)
  have g1 : ∀ ob, (s.heap.update it ob).get? x1 = some o1 := fun ob => by rw [Heap.get?_update_other _ _ hne.symm]; exact h1
  refine raiseNew_hot ⟨hh, o1, vs1, Heap.get?_push_of_some _ (Heap.get?_push_of_some _ (g1 _)), d1, c1⟩ (Nat.ne_of_lt (Heap.lt_size (Heap.get?_push_of_some _ (g1 _)))) (Heap.get?_push_size _ rfl) rfl (by first | (simp; done) | (simp; omega) | (simp only [Array.size_append]; simp; omega)) ?_
  refine wpAny_bind (wpAny_isInstance (T := "StopIteration") (b := true) ⟨_, Heap.get?_update_self _ (Heap.get?_push_size _ rfl) rfl, rfl⟩ isSubtype_stop ?_)
  refine wpAny_pure (hQ _ fun b ob e1 e => ?_)
  have g : ∀ ob', (s.heap.update it ob').get? b = some ob := fun ob' => by rw [Heap.get?_update_other _ _ (Ne.symm e1)]; exact e
  rw [Heap.get?_update_other _ _ (Nat.ne_of_gt (Heap.lt_size (Heap.get?_push_of_some _ (g _))))]
  exact Heap.get?_push_of_some _ (Heap.get?_push_of_some _ (g _))
theorem hotAt_at {x1 : Addr} {h h' : Heap} (c : HotAt A x1 h) (k : ∀ o, h.get? x1 = some o → h'.get? x1 = some o) : HotAt A x1 h' := let ⟨a, o, vs, b, d⟩ := c; ⟨a, o, vs, k _ b, d⟩
theorem walks_list_hot {x1 : Addr} (I ax : Addr) (hne : ax ≠ I) (hx : x1 ≠ I) (items : Array Value) :
    Walks prog w A I [I, ax, x1] [I] items.size (fun i v => items[i]? = some v) (fun i h => h.IsListIter I ax i ∧ h.IsList ax items ∧ HotAt A x1 h) where
  sub := fun b hb => by simp at hb; simp [hb]
  frame := fun _ _ _ st hk => ⟨st.1.at fun o e => hk I (by simp) o e, st.2.1.at fun o e => hk ax (by simp) o e, hotAt_at st.2.2 fun o e => hk x1 (by simp) o e⟩
  item := fun i s Q E hi st hQ => by
    refine wpAny_pyNext_list_item st.1 st.2.1 (x := items[i]) (by simp [hi]) fun h' hit' hs' => ?_
    exact hQ _ h' s.toks (by simp [hi]) ⟨hit', st.2.1.extBut hs'.extBut hne, hotAt_at st.2.2 fun o e => hs'.extBut x1 o hx e⟩ fun b o hb e => hs'.extBut b o (fun h => hb (by simp [h])) e
  done := fun s Q E st hQ => pyNext_list_end_hot st.2.2 hx st.1 st.2.1 (by simp) fun h' he' => hQ h' s.toks fun b o hb e => he' b o (fun h => hb (by simp [h])) e
  self := fun _ _ _ _ st hQ => wpAny_pyIter_listiter st.1 hQ
theorem sum_raw_hot {l x1 : Addr} {its : List Value} {ns : List Int} {Q : Value → Shared → Prop} (hot : HotAt A x1 s.heap) (hl : s.heap.IsList l its.toArray) (hi : IntsAre its ns)
    (h : ∀ h' tk t', (∀ b o, s.heap.get? b = some o → h'.get? b = some o) → Q (.int ns.sum t') { s with heap := h', toks := tk }) : wpAny (model prog w) A (call (.builtin "sum") [.ref l]) Q E s := by
  obtain ⟨xs, e⟩ := hi.allInts.items
  have hn : numsOf (intItems xs).toList = ns := by rw [← e]; exact hi.numsOf
  rw [nums_intItems] at hn
  rw [e] at hl
  have hx1 : x1 < s.heap.objs.size := by obtain ⟨_, o, vs, b, _⟩ := hot; exact Heap.lt_size b
  refine call_sum_walkG (iter_intList hl fun s₂ e st hfp hlI => ?_)
  subst e
  have hot2 : HotAt A.in1 x1 (s.heap.push { cls := .type "list_iterator", data := .fields #[.ref l, .int 0 0] }) := hotAt_at (A := A.in1) hot fun o e => Heap.get?_push_of_some _ e
  refine ⟨_, _, _, _, _, _, numAt xs, rfl, walks_list_hot (A := A.in1) (x1 := x1) _ l hlI (Nat.ne_of_lt hx1) (intItems xs), ⟨st.1, st.2, hot2⟩, fun b hb => ?_, (fun _ _ => intItems_at), fun h' tk t' hk => ?_⟩
  · rcases List.mem_cons.mp hb with rfl | hb
    · exact hfp _ (by simp)
    · rcases List.mem_cons.mp hb with rfl | hb
      · exact hfp _ (by simp)
      · rw [List.mem_singleton.mp hb]
        show x1 < (s.heap.push _).objs.size
        rw [Heap.size_push]
        exact Nat.lt_succ_of_lt hx1
  · have := h h' tk t' (old_kept hk)
    rw [← hn] at this
    have e3 : preSum (numAt xs) (intItems xs).size = preSum (numAt xs) xs.size := by simp [intItems]
    rw [e3, preSum_eq, List.take_of_length_le (by simp)]
    exact this
end
open L2 in
theorem cr_sumH {X : Cx} {K : PySem.W.Frag} (hot : L2H.HotC X) (hk : X.K = K := by rfl) : CallR X (.builtin "sum") (rSum K) := by
  subst hk
  intro pins s σ H vs us Q I r h
  obtain ⟨a, ns, rfl, hs, q⟩ := h
  obtain ⟨its, rv, hl, _⟩ := I.list hs
  obtain ⟨x1, hx⟩ := hot.at I
  rw [Vals.ref1 r]
  exact sum_raw_hot hx hl.isList rv.ints fun h' tk t' hk => ⟨.int _, H, I.kept hk, ⟨_, rfl⟩, q⟩
end EP
/-! heights -/
namespace Tn
section
variable {n : Nat} {par : Nat → Nat} {w l : Nat → Int} {bs : List (List Nat)}
theorem exists_full (hp : Par n par) (hl : ∀ k, 1 ≤ k → k ≤ n → 1 ≤ l k) : ∀ (m : Nat) (bs : List (List Nat)), Sts n par w l bs → n - bs.flatten.length ≤ m → ∃ bs', Sts n par w l bs' ∧ Full n bs' := fun m => by
  induction m with
  | zero => intro bs h e; exact ⟨bs, h, h.full hp (by omega)⟩
  | succ m ih =>
    intro bs h e
    by_cases c : bs.flatten.length < n
    · obtain ⟨f1, f2, f3, f4⟩ := h.facts hp
      obtain ⟨k, a, b, hk⟩ := Sts.more c
      obtain ⟨W, bW⟩ := exists_best (w := w) hp f3 hl ⟨k, a, b, inL_false.mpr hk⟩
      refine ih _ (.snoc h bW) ?_
      obtain ⟨c, c1, c2, c3, _⟩ := bW.one
      have : 1 ≤ (lst n W).length := List.length_pos_of_mem (mem_lst.mpr ⟨c1, c2, c3⟩)
      rw [flat_snoc, List.length_append]
      omega
    · exact ⟨bs, h, h.full hp c⟩
theorem exists_sts (hp : Par n par) (hl : ∀ k, 1 ≤ k → k ≤ n → 1 ≤ l k) : ∃ bs, Sts n par w l bs ∧ Full n bs := exists_full hp hl n [] .nil (by show n - 0 ≤ n; omega)
end
end Tn
namespace EP
open PySem L2
section
variable {n : Nat} {par : Nat → Nat} {ls ws : List Int} {bs : List (List Nat)}
theorem crn_zero (f : Nat → Int) (bs : List (List Nat)) : crn f bs 0 = 0 := rfl
theorem crn_lt (st : Tn.Sts n par (vf ws) (vf ls) bs) {i : Nat} (h : i < bs.length) : crn (vf ls) bs i < crn (vf ls) bs (i + 1) := by
  have hb := List.getElem?_eq_getElem h
  rw [crn_succ hb]
  have := st.pos hb
  omega
theorem crn_up (st : Tn.Sts n par (vf ws) (vf ls) bs) : ∀ (d i : Nat), i + d ≤ bs.length → crn (vf ls) bs i + d ≤ crn (vf ls) bs (i + d)
  | 0, i, _ => by show _ + (0 : Int) ≤ crn (vf ls) bs i; omega
  | d + 1, i, h => by
    have a := crn_up st d i (by omega)
    have b := crn_lt st (show i + d < bs.length by omega)
    show _ ≤ crn (vf ls) bs (i + d + 1)
    omega
theorem crn_mono (st : Tn.Sts n par (vf ws) (vf ls) bs) {i j : Nat} (h : i ≤ j) (hj : j ≤ bs.length) : crn (vf ls) bs i ≤ crn (vf ls) bs j := by
  have := crn_up st (j - i) i (by omega)
  rw [show i + (j - i) = j by omega] at this
  omega
theorem crn_inj (st : Tn.Sts n par (vf ws) (vf ls) bs) {i j : Nat} (hi : i ≤ bs.length) (hj : j ≤ bs.length) (e : crn (vf ls) bs i = crn (vf ls) bs j) : i = j := by
  by_cases h : i < j
  · have := crn_up st (j - i) i (by omega)
    rw [show i + (j - i) = j by omega] at this
    omega
  · by_cases h2 : j < i
    · have := crn_up st (i - j) j (by omega)
      rw [show j + (i - j) = i by omega] at this
      omega
    · omega
/-- the set of the first i blocks -/
theorem crn_set (hp : Tn.Par n par) (st : Tn.Sts n par (vf ws) (vf ls) bs) (i : Nat) : Tn.lst n (Tn.inL (bs.take i).flatten) ∈ Tn.clS par n ∧ ∀ f : Nat → Int, Tn.sumL f (Tn.lst n (Tn.inL (bs.take i).flatten)) = crn f bs i := by
  have ht := st.take i
  obtain ⟨_, _, f3, _⟩ := ht.facts hp
  exact ⟨cld_mem hp f3, fun f => by rw [Tn.sumL_lst]; exact (ht.sum f).symm⟩
theorem crn_bd {us : List Int} (st : Tn.Sts n par (vf ws) (vf ls) bs) (h : Bd us) (i : Nat) : 0 ≤ crn (vf us) bs i ∧ crn (vf us) bs i ≤ n * 2 ^ 40 := by
  have ht := st.take i
  unfold crn
  rw [ht.sum]
  exact fs_bd h _ n
/-- no closed set reaches beyond the last corner -/
theorem crn_top (st : Tn.Sts n par (vf ws) (vf ls) bs) (fu : Tn.Full n bs) (hl : ∀ k, 1 ≤ k → k ≤ n → 1 ≤ vf ls k) {S : List Nat} (hS : S ∈ Tn.clS par n) : Tn.sumL (vf ls) S ≤ crn (vf ls) bs bs.length := by
  unfold crn
  rw [List.take_length, st.sum, Tn.sumL_fs (Tn.clS_ok hS).1]
  exact Tn.fs_mono (fun k a b => by have := hl k a b; omega) fun c a b _ => Tn.inL_true.mpr (fu c a b)
theorem crn_hull (hp : Tn.Par n par) (hl : ∀ k, 1 ≤ k → k ≤ n → 1 ≤ vf ls k) (st : Tn.Sts n par (vf ws) (vf ls) bs) {i : Nat} (h : i < bs.length) {S : List Nat} (hS : S ∈ Tn.clS par n) :
    (Tn.sumL (vf ws) S - crn (vf ws) bs i) * (crn (vf ls) bs (i + 1) - crn (vf ls) bs i) ≤ (crn (vf ws) bs (i + 1) - crn (vf ws) bs i) * (Tn.sumL (vf ls) S - crn (vf ls) bs i) ∧
    ((Tn.sumL (vf ws) S - crn (vf ws) bs i) * (crn (vf ls) bs (i + 1) - crn (vf ls) bs i) = (crn (vf ws) bs (i + 1) - crn (vf ws) bs i) * (Tn.sumL (vf ls) S - crn (vf ls) bs i) → Tn.sumL (vf ls) S ≤ crn (vf ls) bs (i + 1)) := by
  have hb := List.getElem?_eq_getElem h
  have q := Tn.hull hp hl st hb (Tn.clS_ok hS)
  rw [crn_succ hb, crn_succ hb]
  rw [show crn (vf ls) bs i + Tn.sumL (vf ls) bs[i] - crn (vf ls) bs i = Tn.sumL (vf ls) bs[i] by omega, show crn (vf ws) bs i + Tn.sumL (vf ws) bs[i] - crn (vf ws) bs i = Tn.sumL (vf ws) bs[i] by omega]
  refine ⟨q.1, fun e => ?_⟩
  have := q.2 e
  unfold crn
  omega
end
/-- x / y is the height of the outer line at L -/
def OnLine (ls ws : List Int) (bs : List (List Nat)) (L x y : Int) : Prop := ∃ i : Nat, i < bs.length ∧ crn (vf ls) bs i ≤ L ∧ L ≤ crn (vf ls) bs (i + 1) ∧ y = crn (vf ls) bs (i + 1) - crn (vf ls) bs i ∧ x = crn (vf ws) bs i * y + (L - crn (vf ls) bs i) * (crn (vf ws) bs (i + 1) - crn (vf ws) bs i)
def Ht (ls ws : List Int) (bs : List (List Nat)) (L p q : Int) : Prop := 1 ≤ q ∧ q ≤ 2 ^ 46 ∧ Nat.gcd p.natAbs q.natAbs = 1 ∧ ∃ x y, OnLine ls ws bs L x y ∧ p * y = x * q
section
variable {n : Nat} {par : Nat → Nat} {ls ws : List Int} {bs : List (List Nat)} {L x y x' y' p q : Int}
theorem OnLine.pos (st : Tn.Sts n par (vf ws) (vf ls) bs) (h : OnLine ls ws bs L x y) : 0 < y := by
  obtain ⟨i, h1, _, _, rfl, _⟩ := h
  have := crn_lt st h1
  omega
theorem OnLine.at (st : Tn.Sts n par (vf ws) (vf ls) bs) {k : Nat} (hk : k ≤ bs.length) (h : OnLine ls ws bs (crn (vf ls) bs k) x y) : x = crn (vf ws) bs k * y := by
  obtain ⟨i, h1, h2, h3, rfl, rfl⟩ := h
  by_cases c : k ≤ i
  · have e : crn (vf ls) bs i = crn (vf ls) bs k := by have := crn_mono st c (by omega); omega
    obtain rfl := crn_inj st (by omega) hk e
    rw [Int.sub_self, Int.zero_mul, Int.add_zero]
  · have e : crn (vf ls) bs k = crn (vf ls) bs (i + 1) := by have := crn_mono st (show i + 1 ≤ k by omega) hk; omega
    obtain rfl := crn_inj st hk (by omega) e
    rw [Int.mul_sub, Int.mul_comm (crn (vf ls) bs (i + 1) - crn (vf ls) bs i) (crn (vf ws) bs (i + 1) - crn (vf ws) bs i), Int.sub_mul, Int.mul_sub, Int.mul_sub]
    omega
theorem OnLine.same (st : Tn.Sts n par (vf ws) (vf ls) bs) (h : OnLine ls ws bs L x y) (h' : OnLine ls ws bs L x' y') : x * y' = x' * y := by
  by_cases c : ∃ k, k ≤ bs.length ∧ L = crn (vf ls) bs k
  · obtain ⟨k, hk, rfl⟩ := c
    rw [h.at st hk, h'.at st hk, Int.mul_assoc, Int.mul_assoc, Int.mul_comm y]
  · obtain ⟨i, h1, h2, h3, rfl, rfl⟩ := h
    obtain ⟨j, g1, g2, g3, rfl, rfl⟩ := h'
    have e : i = j := by
      by_cases a : i < j
      · have := crn_mono st (show i + 1 ≤ j by omega) (by omega)
        exact absurd ⟨i + 1, by omega, by omega⟩ c
      · by_cases b : j < i
        · have := crn_mono st (show j + 1 ≤ i by omega) (by omega)
          exact absurd ⟨i, by omega, by omega⟩ c
        · omega
    rw [e]
theorem lowest (q0 : 1 ≤ q) (g : Nat.gcd p.natAbs q.natAbs = 1) (y0 : 0 < y) (e : p * y = x * q) : q ≤ y := by
  have d : q.natAbs ∣ p.natAbs * y.natAbs := by
    rw [← Int.natAbs_mul, e, Int.natAbs_mul]
    exact Nat.dvd_mul_left _ _
  have d' : q.natAbs ∣ y.natAbs := (Nat.Coprime.dvd_of_dvd_mul_left (Nat.Coprime.symm g) d)
  have := Nat.le_of_dvd (by omega) d'
  omega
theorem Ht.line (st : Tn.Sts n par (vf ws) (vf ls) bs) (h : Ht ls ws bs L p q) (h' : OnLine ls ws bs L x' y') : p * y' = x' * q ∧ q ≤ y' := by
  obtain ⟨q1, _, g, x, y, o, e⟩ := h
  have y0 := o.pos st
  have s := o.same st h'
  have e2 : p * y' = x' * q := by
    refine Int.eq_of_mul_eq_mul_left (a := y) (by omega) ?_
    calc y * (p * y') = p * y * y' := by rw [← Int.mul_assoc, Int.mul_comm y]
      _ = x * y' * q := by rw [e, Int.mul_assoc, Int.mul_assoc, Int.mul_comm q]
      _ = y * (x' * q) := by rw [s, Int.mul_comm x', Int.mul_assoc]
  exact ⟨e2, lowest q1 g (h'.pos st) e2⟩
theorem Ht.above (hp : Tn.Par n par) (hl : ∀ k, 1 ≤ k → k ≤ n → 1 ≤ vf ls k) (st : Tn.Sts n par (vf ws) (vf ls) bs) (h : Ht ls ws bs L p q) {S : List Nat} (hS : S ∈ Tn.clS par n) (e : Tn.sumL (vf ls) S = L) : Tn.sumL (vf ws) S * q ≤ p := by
  obtain ⟨q1, _, g, x, y, o, eq⟩ := h
  have y0 := o.pos st
  obtain ⟨i, h1, h2, h3, ey, ex⟩ := o
  have hu := (crn_hull hp hl st h1 hS).1
  rw [← ey, e, Int.sub_mul, Int.mul_comm (crn (vf ws) bs (i + 1) - crn (vf ws) bs i)] at hu
  have a : Tn.sumL (vf ws) S * y ≤ x := by omega
  have b : Tn.sumL (vf ws) S * y * q ≤ x * q := Int.mul_le_mul_of_nonneg_right a (by omega)
  refine Int.le_of_mul_le_mul_left (a := y) ?_ y0
  calc y * (Tn.sumL (vf ws) S * q) = Tn.sumL (vf ws) S * y * q := by rw [← Int.mul_assoc, Int.mul_comm y]
    _ ≤ x * q := b
    _ = y * p := by rw [← eq, Int.mul_comm]
theorem Ht.corner (st : Tn.Sts n par (vf ws) (vf ls) bs) {k : Nat} (hk : k ≤ bs.length) (h : Ht ls ws bs (crn (vf ls) bs k) p q) : crn (vf ws) bs k * q = p := by
  obtain ⟨q1, _, g, x, y, o, eq⟩ := h
  have y0 := o.pos st
  rw [o.at st hk] at eq
  refine Int.eq_of_mul_eq_mul_left (a := y) (by omega) ?_
  rw [Int.mul_comm y p, eq, ← Int.mul_assoc, Int.mul_comm y]
theorem gcd_ht (o : OnLine ls ws bs L x y) (y0 : 0 < y) (x0 : 0 ≤ x) (yb : y ≤ 2 ^ 46) : Ht ls ws bs L (x / ((Nat.gcd x.natAbs y.natAbs : Nat) : Int)) (y / ((Nat.gcd x.natAbs y.natAbs : Nat) : Int)) := by
  have gp : 0 < Nat.gcd x.natAbs y.natAbs := Nat.gcd_pos_of_pos_right _ (by omega)
  have dx : ((Nat.gcd x.natAbs y.natAbs : Nat) : Int) ∣ x := Int.ofNat_dvd_left.mpr (Nat.gcd_dvd_left _ _)
  have dy : ((Nat.gcd x.natAbs y.natAbs : Nat) : Int) ∣ y := Int.ofNat_dvd_left.mpr (Nat.gcd_dvd_right _ _)
  have cop := Nat.coprime_div_gcd_div_gcd gp
  obtain ⟨a, ea⟩ := dx
  obtain ⟨b, eb⟩ := dy
  generalize hg : Nat.gcd x.natAbs y.natAbs = G at *
  have G0 : (0 : Int) < (G : Int) := by omega
  have e1 : x / (G : Int) = a := by rw [ea, Int.mul_ediv_cancel_left _ (by omega)]
  have e2 : y / (G : Int) = b := by rw [eb, Int.mul_ediv_cancel_left _ (by omega)]
  rw [e1, e2]
  have b0 : 0 < b := by
    refine Classical.byContradiction fun no => ?_
    have := Int.mul_nonpos_of_nonneg_of_nonpos (a := (G : Int)) (b := b) (by omega) (by omega)
    omega
  have bl : b ≤ y := by
    have := Int.mul_le_mul_of_nonneg_right (c := b) (show (1 : Int) ≤ (G : Int) by omega) (by omega)
    omega
  refine ⟨by omega, by omega, ?_, x, y, o, ?_⟩
  · have f1 : a.natAbs = x.natAbs / G := by rw [ea, Int.natAbs_mul, Int.natAbs_natCast, Nat.mul_div_cancel_left _ gp]
    have f2 : b.natAbs = y.natAbs / G := by rw [eb, Int.natAbs_mul, Int.natAbs_natCast, Nat.mul_div_cancel_left _ gp]
    rw [f1, f2]
    exact cop
  · rw [ea, eb, ← Int.mul_assoc, Int.mul_comm a, Int.mul_assoc]

end
theorem lc_enum {K : PySem.W.Frag} {a : Addr} {xs : List V} {g : TG} {tt : TT} {te : TE} {vs : List Nat} {σ : L2.St} {H1 : Hp} {D : Addr} {Qd : Hp → Prop} (Pv : Nat → Hp → Prop) (h0 : Pv 0 (upd H1 D (.lst []))) (hl : ∀ i H', i ≤ xs.length → Pv i H' → SqL K H' a xs)
    (hs : ∀ i x T H, xs[i]? = some x → Pv i H → H T = none → g (.ref T) (wipe σ vs) (upd H T (.tup [.int (i : Nat), x])) fun σ2 H2 => wipe σ2 vs = wipe σ vs ∧ tt σ2 H2 fun b H3 =>
      if b = true then te σ2 H3 fun y H4 => ∃ acc, H4 D = some (.lst acc) ∧ acc.length < sizeLine ∧ Pv (i + 1) (upd H4 D (.lst (acc ++ [y]))) else Pv (i + 1) H3) (hd : ∀ H, Pv xs.length H → Qd H) :
    ∃ W : Nat → Nat → Hp → Prop, (∃ m, W 0 m (upd H1 D (.lst []))) ∧ ∀ i m H, W i m H →
      ((Ite K a).stop i H ∧ Qd H) ∨ ((Ite K a).go i H ∧ ∃ Nx : Hp → Prop, (∀ H', Nx H' → ∃ m', m' < m ∧ W (i + 1) m' H') ∧ ∀ x H', (Ite K a).yld i H x H' → g x (wipe σ vs) H' fun σ2 H2 => wipe σ2 vs = wipe σ vs ∧ tt σ2 H2 fun b H3 =>
        if b = true then te σ2 H3 fun y H4 => ∃ acc, H4 D = some (.lst acc) ∧ acc.length < sizeLine ∧ Nx (upd H4 D (.lst (acc ++ [y]))) else Nx H3) := by
  refine ⟨fun i m H => m = xs.length - i ∧ i ≤ xs.length ∧ Pv i H, ⟨xs.length, by simp, Nat.zero_le _, h0⟩, fun i m H h => ?_⟩
  obtain ⟨rfl, hi, p⟩ := h
  have q := hl i H hi p
  by_cases hlt : i < xs.length
  · refine .inr ⟨⟨xs, xs[i], q, List.getElem?_eq_getElem hlt⟩, Pv (i + 1), fun H' p' => ⟨xs.length - (i + 1), by omega, rfl, hlt, p'⟩, fun x H' y => ?_⟩
    obtain ⟨T, x', rfl, hT, rfl, ex⟩ := y
    exact hs i x' T H (ex xs q) p hT
  · obtain rfl : i = xs.length := by omega
    exact .inl ⟨⟨xs, q, Nat.le_refl _⟩, hd H p⟩
/-- the way (x, y) to the best of the sets P beyond the corner (lD, wD) -/
def FB (w l : Nat → Int) (wD lD : Int) (P : List (List Nat)) : Option (Int × Int) → Prop
  | none => ∀ S, S ∈ P → Tn.sumL l S ≤ lD
  | some (x, y) => 0 < x ∧ (∃ S, S ∈ P ∧ x = Tn.sumL l S - lD ∧ y = Tn.sumL w S - wD) ∧ ∀ S, S ∈ P → 0 < Tn.sumL l S - lD → (Tn.sumL w S - wD) * x ≤ y * (Tn.sumL l S - lD) ∧ ((Tn.sumL w S - wD) * x = y * (Tn.sumL l S - lD) → Tn.sumL l S - lD ≤ x)
def steeper (a b x y : Int) : Bool := if b * x = y * a then decide (x < a) else decide (y * a < b * x)
section
variable {w l : Nat → Int} {wD lD x y : Int} {P : List (List Nat)} {S : List Nat} {b : Option (Int × Int)}
theorem mem_snoc {T : List Nat} (h : T ∈ P ++ [S]) : T ∈ P ∨ T = S := (List.mem_append.mp h).imp_right List.mem_singleton.mp
theorem FB.skip (h : FB w l wD lD P b) (n : ¬ 0 < Tn.sumL l S - lD) : FB w l wD lD (P ++ [S]) b := by
  cases b with
  | none => exact fun T hT => (mem_snoc hT).elim (h T) fun e => by rw [e]; omega
  | some p =>
    obtain ⟨h1, ⟨T, a, c⟩, h3⟩ := h
    exact ⟨h1, ⟨T, List.mem_append_left _ a, c⟩, fun T hT pT => (mem_snoc hT).elim (fun z => h3 T z pT) fun e => absurd (e ▸ pT) n⟩
theorem FB.first (h : FB w l wD lD P none) (p : 0 < Tn.sumL l S - lD) : FB w l wD lD (P ++ [S]) (some (Tn.sumL l S - lD, Tn.sumL w S - wD)) := by
  refine ⟨p, ⟨S, List.mem_append_right _ (List.mem_singleton.mpr rfl), rfl, rfl⟩, fun T hT pT => (mem_snoc hT).elim (fun z => ?_) fun e => by rw [e]; exact ⟨Int.le_refl _, fun _ => Int.le_refl _⟩⟩
  have := h T z
  omega
theorem FB.put (h : FB w l wD lD P (some (x, y))) (p : 0 < Tn.sumL l S - lD) (st : steeper (Tn.sumL l S - lD) (Tn.sumL w S - wD) x y = true) : FB w l wD lD (P ++ [S]) (some (Tn.sumL l S - lD, Tn.sumL w S - wD)) := by
  obtain ⟨x0, _, h3⟩ := h
  refine ⟨p, ⟨S, List.mem_append_right _ (List.mem_singleton.mpr rfl), rfl, rfl⟩, fun T hT pT => (mem_snoc hT).elim (fun z => ?_) fun e => by rw [e]; exact ⟨Int.le_refl _, fun _ => Int.le_refl _⟩⟩
  obtain ⟨g1, g2⟩ := h3 T z pT
  generalize Tn.sumL l S - lD = a at *
  generalize Tn.sumL w S - wD = b at *
  generalize Tn.sumL l T - lD = c at *
  generalize Tn.sumL w T - wD = d at *
  unfold steeper at st
  by_cases e : b * x = y * a
  · rw [if_pos e] at st
    have xa := of_decide_eq_true st
    have m : d * x * a ≤ y * c * a := Int.mul_le_mul_of_nonneg_right g1 (by omega)
    have e1 : y * c * a = b * c * x := by rw [Int.mul_assoc, Int.mul_comm c, ← Int.mul_assoc, ← e, Int.mul_assoc, Int.mul_comm x, ← Int.mul_assoc]
    have e2 : d * x * a = d * a * x := by rw [Int.mul_assoc, Int.mul_comm x, ← Int.mul_assoc]
    rw [e1, e2] at m
    refine ⟨Int.le_of_mul_le_mul_right m x0, fun q => ?_⟩
    have : d * x = y * c := by
      refine Int.eq_of_mul_eq_mul_right (a := a) (by omega) ?_
      rw [e1, e2, q]
    have := g2 this
    omega
  · rw [if_neg e] at st
    have lt := of_decide_eq_true st
    have := Tn.worse x0 p pT g1 lt
    exact ⟨Int.le_of_lt this, fun q => by omega⟩
theorem FB.keep (h : FB w l wD lD P (some (x, y))) (p : 0 < Tn.sumL l S - lD) (st : steeper (Tn.sumL l S - lD) (Tn.sumL w S - wD) x y = false) : FB w l wD lD (P ++ [S]) (some (x, y)) := by
  obtain ⟨x0, ⟨T, a, c⟩, h3⟩ := h
  refine ⟨x0, ⟨T, List.mem_append_left _ a, c⟩, fun T hT pT => (mem_snoc hT).elim (fun z => h3 T z pT) fun e => ?_⟩
  subst e
  unfold steeper at st
  by_cases e : (Tn.sumL w T - wD) * x = y * (Tn.sumL l T - lD)
  · rw [if_pos e] at st
    have := of_decide_eq_false st
    exact ⟨by omega, fun _ => by omega⟩
  · rw [if_neg e] at st
    have := of_decide_eq_false st
    exact ⟨by omega, fun q => absurd q e⟩
end
theorem FB.step {n : Nat} {par : Nat → Nat} {ls ws : List Int} {bs : List (List Nat)} {k : Nat} {b : Option (Int × Int)} (hp : Tn.Par n par) (hl : ∀ k, 1 ≤ k → k ≤ n → 1 ≤ vf ls k) (st : Tn.Sts n par (vf ws) (vf ls) bs) (hk : k < bs.length) (h : FB (vf ws) (vf ls) (crn (vf ws) bs k) (crn (vf ls) bs k) (Tn.clS par n) b) :
    b = some (crn (vf ls) bs (k + 1) - crn (vf ls) bs k, crn (vf ws) bs (k + 1) - crn (vf ws) bs k) := by
  obtain ⟨m, sm⟩ := crn_set hp st (k + 1)
  have lt := crn_lt st hk
  cases b with
  | none =>
    have := h _ m
    rw [sm] at this
    omega
  | some p =>
    obtain ⟨x, y⟩ := p
    obtain ⟨x0, ⟨S, mS, ex, ey⟩, al⟩ := h
    have u1 := crn_hull hp hl st hk mS
    have u2 := al _ m (by rw [sm]; omega)
    rw [sm, sm] at u2
    rw [← ex, ← ey] at u1
    have e : y * (crn (vf ls) bs (k + 1) - crn (vf ls) bs k) = (crn (vf ws) bs (k + 1) - crn (vf ws) bs k) * x := Int.le_antisymm u1.1 u2.1
    have a1 := u1.2 e
    have a2 := u2.2 e.symm
    have xe : x = crn (vf ls) bs (k + 1) - crn (vf ls) bs k := by omega
    rw [← xe] at e ⊢
    rw [Int.eq_of_mul_eq_mul_right (by omega) e]
theorem FB.last {n : Nat} {par : Nat → Nat} {ls ws : List Int} {bs : List (List Nat)} {b : Option (Int × Int)} (hl : ∀ k, 1 ≤ k → k ≤ n → 1 ≤ vf ls k) (st : Tn.Sts n par (vf ws) (vf ls) bs) (fu : Tn.Full n bs) {wD : Int} (h : FB (vf ws) (vf ls) wD (crn (vf ls) bs bs.length) (Tn.clS par n) b) : b = none := by
  cases b with
  | none => rfl
  | some p =>
    obtain ⟨x, y⟩ := p
    obtain ⟨x0, ⟨S, mS, ex, ey⟩, _⟩ := h
    have := crn_top st fu hl mS
    omega
def WayV (H : Hp) (v : V) : Option (Int × Int) → Prop
  | none => v = .non
  | some (x, y) => ∃ t : Addr, v = .ref t ∧ H t = some (.tup [V.int x, V.int y])
theorem WayV.same {H H' : Hp} {v : V} {b : Option (Int × Int)} (h : WayV H v b) (e : Same H H') : WayV H' v b := by
  cases b with
  | none => exact h
  | some p => obtain ⟨t, a, c⟩ := h; exact ⟨t, a, e _ _ c⟩
theorem sum_all : ∀ (ls : List Int), ls.sum = Tn.fs ls.length (vf ls) fun _ => true := fun ls => by
  rw [← Tn.sum_lst]
  congr 1
  refine List.ext_getElem? fun i => ?_
  unfold Tn.lst
  rw [List.filter_eq_self.mpr (fun _ _ => rfl), List.map_map, List.getElem?_map]
  by_cases h : i < ls.length
  · rw [List.getElem?_range h]
    exact vf_get (vs := ls) (k := i + 1) (by omega) (by omega)
  · rw [List.getElem?_eq_none (by omega), List.getElem?_eq_none (by rw [List.length_range]; omega)]
    rfl
theorem crn_all {n : Nat} {par : Nat → Nat} {ls ws : List Int} {bs : List (List Nat)} (ll : ls.length = n) (st : Tn.Sts n par (vf ws) (vf ls) bs) (fu : Tn.Full n bs) : crn (vf ls) bs bs.length = ls.sum := by
  unfold crn
  rw [List.take_length, st.sum, sum_all, ll]
  refine Tn.sm_congr fun k a b => ?_
  rw [Tn.inL_true.mpr (fu k a b)]
/-! promises -/
def spHeight (K : PySem.W.Frag) (C CS D N : Addr) : Sp := fun vs H Q E => ∃ (s v : Addr) (ps : List Nat) (ls ws : List Int) (L : Int), vs = [.ref s, .ref v, .int L] ∧ TunAt K C CS H s ps ls ∧ SqE K H v (ws.map V.int) ∧ ws.length ≤ 900 ∧ ps.length ≤ 60 ∧ (∀ v, v ∈ ws → v < 2 ^ 40) ∧ Small L ∧
  (NoFault ws 0 ps.length → ∀ bs, Tn.Sts ps.length (Tr.par ps) (vf ws) (vf ls) bs → Tn.Full ps.length bs →
    (0 ≤ L → L ≤ crn (vf ls) bs bs.length → ∀ p q t H', Ht ls ws bs L p q → Same H H' → H t = none → H' t = some (.tup [.int p, .int q]) → Q (.ref t) H') ∧
    ((L < 0 ∨ crn (vf ls) bs bs.length < L) → ∀ d H', Same H H' → H d = none → H' d = some (.xd [("number", .int L)]) → E (.ref N) (some d) H')) ∧
  (∀ z, Fault ws 0 ps.length z → ∀ d H', Same H H' → H d = none → H' d = some (.xd [("place", .int z)]) → E (.ref D) (some d) H')
def spSteeper (K : PySem.W.Frag) : Sp := fun vs H Q _ => ∃ (m t : Addr) (a b x y : Int), vs = [.ref m, .ref t] ∧ SqT K H m [.int a, .int b] ∧ SqT K H t [.int x, .int y] ∧ a.natAbs < 2 ^ 50 ∧ b.natAbs < 2 ^ 50 ∧ x.natAbs < 2 ^ 50 ∧ y.natAbs < 2 ^ 50 ∧ Q (.bl (steeper a b x y)) H
def spEnds (K : PySem.W.Frag) : Sp := fun vs H Q _ => ∃ (p a : Addr) (ps : List Nat) (ls ws : List Int), vs = [.ref p, .ref a] ∧ SqL K H p (nvs ps) ∧ SetsAt H ls ws a (Tn.clS (Tr.par ps) ps.length) ∧ ps.length ≤ 8 ∧ Bd ls ∧ Bd ws ∧ (∀ k, 1 ≤ k → k ≤ ps.length → 1 ≤ vf ls k) ∧
  ∀ r bs H', Tn.Sts ps.length (Tr.par ps) (vf ws) (vf ls) bs → Tn.Full ps.length bs → Same H H' → H r = none → CrnAt H' ls ws bs bs.length r → Q (.ref r) H'
def spLineE (K : PySem.W.Frag) : Sp := fun vs H Q _ => ∃ (e : Addr) (n : Nat) (par : Nat → Nat) (ls ws : List Int) (bs : List (List Nat)) (L : Int), vs = [.ref e, .int L] ∧ CrnAt H ls ws bs bs.length e ∧ Tn.Sts n par (vf ws) (vf ls) bs ∧ bs.length ≤ 8 ∧ 1 ≤ bs.length ∧ n ≤ 8 ∧ Bd ls ∧ Bd ws ∧ 0 ≤ L ∧ L ≤ crn (vf ls) bs bs.length ∧
  ∀ t x y H', OnLine ls ws bs L x y → y ≤ 2 ^ 46 → Same H H' → H t = none → H' t = some (.tup [.int x, .int y]) → Q (.ref t) H'
def spFraction (K : PySem.W.Frag) : Sp := fun vs H Q _ => ∃ (t l : Addr) (p q x y : Int), vs = [.ref t, .ref l] ∧ H t = some (.tup [.int p, .int q]) ∧ SqT K H l [.int x, .int y] ∧ 1 ≤ q ∧ q ≤ y ∧ y ≤ 2 ^ 46 ∧ p * y = x * q ∧ Nat.gcd p.natAbs q.natAbs = 1 ∧ Q (.bl true) H
def spCornered (K : PySem.W.Frag) (C CS : Addr) : Sp := fun vs H Q _ => ∃ (m w e : Addr) (ps : List Nat) (ls ws : List Int) (bs : List (List Nat)), vs = [.ref m, .ref w, .ref e] ∧ TunAt K C CS H m ps ls ∧ H w = some (.lst (ws.map V.int)) ∧ ws.length = ps.length ∧ ps.length ≤ 8 ∧ Bd ws ∧ Tn.Sts ps.length (Tr.par ps) (vf ws) (vf ls) bs ∧ Tn.Full ps.length bs ∧ CrnAt H ls ws bs bs.length e ∧ ∀ H', Same H H' → Q (.bl true) H'
def spAsked : Sp := fun vs H Q _ => ∃ (t u e : Addr) (n : Nat) (par : Nat → Nat) (ls ws : List Int) (bs : List (List Nat)), vs = [.ref t, .ref e] ∧ Tape H t u ∧ CrnAt H ls ws bs bs.length e ∧ Tn.Sts n par (vf ws) (vf ls) bs ∧ bs.length ≤ 8 ∧ n ≤ 8 ∧ Bd ls ∧
  ∀ r (As : List Int) H', (∀ L, L ∈ As → 0 ≤ L ∧ L ≤ crn (vf ls) bs bs.length) → As.length ≤ 40 → Tape H' t u → But t H H' → H r = none → H' r = some (.lst (As.map V.int)) → Q (.ref r) H'
def spHeightsL (K : PySem.W.Frag) (C CS : Addr) : Sp := fun vs H Q _ => ∃ (m w p a e k : Addr) (ps : List Nat) (ls ws As : List Int) (bs : List (List Nat)), vs = [.ref m, .ref w, .ref p, .ref a, .ref e, .ref k] ∧ TunAt K C CS H m ps ls ∧ H w = some (.lst (ws.map V.int)) ∧ SqE K H p (ws.map V.int) ∧ SetsAt H ls ws a (Tn.clS (Tr.par ps) ps.length) ∧ ws.length = ps.length ∧ ps.length ≤ 8 ∧ Bd ws ∧ Tn.Sts ps.length (Tr.par ps) (vf ws) (vf ls) bs ∧ Tn.Full ps.length bs ∧ CrnAt H ls ws bs bs.length e ∧ SqL K H k (As.map V.int) ∧ As.length ≤ 40 ∧ (∀ L, L ∈ As → 0 ≤ L ∧ L ≤ crn (vf ls) bs bs.length) ∧ ∀ H', Same H H' → Q (.bl true) H'
def spPriced (K : PySem.W.Frag) (C CS P : Addr) : Sp := fun vs H Q _ => ∃ (m p l w e r : Addr) (ps : List Nat) (ls ws : List Int) (bs : List (List Nat)) (n a b : Int), vs = [.ref m, .ref p, .ref l, .ref w, .ref e, .int n, .ref r] ∧ TunAt K C CS H m ps ls ∧ H p = some (.lst (nvs ps)) ∧ H l = some (.lst (ls.map V.int)) ∧ H w = some (.lst (ws.map V.int)) ∧ TabG H P ∧ ws.length = ps.length ∧ ps.length ≤ 8 ∧ Bd ws ∧ Tn.Sts ps.length (Tr.par ps) (vf ws) (vf ls) bs ∧ Tn.Full ps.length bs ∧ H e = some (.tup [.int (crn (vf ls) bs 1), .int (crn (vf ws) bs 1)]) ∧ H r = some (.tup [.int a, .int b]) ∧ 1 ≤ n ∧ n ≤ 60 ∧ 0 ≤ a ∧ a ≤ 20 ∧ 1 ≤ b ∧ b ≤ 6 ∧ ∀ H', SameT H H' → Q (.bl true) H'
def spRefH (K : PySem.W.Frag) (C CS : Addr) : Sp := fun vs H Q _ => ∃ (m w l : Addr) (L : Int) (ps : List Nat) (ls ws : List Int), vs = [.ref m, .ref w, .int L, .ref l] ∧ TunAt K C CS H m ps ls ∧ H w = some (.lst (ws.map V.int)) ∧ ws.length ≤ 20 ∧ (∀ v, v ∈ ws → v < 2 ^ 40) ∧ H l = some (.lst (ls.map V.int)) ∧ ps.length ≤ 8 ∧ Small L ∧ ∀ H', Same H H' → Q (.bl true) H'
theorem fr_no {p q : Int} {k : Nat} (g : Nat.gcd p.natAbs q.natAbs = 1) (k2 : 2 ≤ k) (h1 : p % (k : Int) = 0) (h2 : q % (k : Int) = 0) : False := by
  have d1 : k ∣ p.natAbs := Int.ofNat_dvd_left.mp (Int.dvd_of_emod_eq_zero h1)
  have d2 : k ∣ q.natAbs := Int.ofNat_dvd_left.mp (Int.dvd_of_emod_eq_zero h2)
  have := Nat.dvd_gcd d1 d2
  rw [g] at this
  have := Nat.le_of_dvd (by decide) this
  omega
/-- closed sets, the empty one with a list that is new -/
def spClosedN (K : PySem.W.Frag) : Sp := fun vs H Q _ => ∃ (p l w : Addr) (ps : List Nat) (ls ws : List Int), vs = [.ref p, .ref l, .ref w] ∧ SqL K H p (nvs ps) ∧ SqL K H l (ls.map V.int) ∧ SqL K H w (ws.map V.int) ∧ Tr.Ok ps ∧ ls.length = ps.length ∧ ws.length = ps.length ∧ ps.length ≤ 8 ∧ ∀ (a t0 e0 : Addr) (xs : List V) H', Same H H' → H a = none → H e0 = none → SetsAt H' ls ws a (Tn.clS (Tr.par ps) ps.length) → H' a = some (.lst (V.ref t0 :: xs)) → H' t0 = some (.tup [.int 0, .int 0, .ref e0]) → Q (.ref a) H'
theorem CrnAt.sameT {H H' : Hp} {ls ws : List Int} {bs : List (List Nat)} {n : Nat} {r : Addr} (h : CrnAt H ls ws bs n r) (e : SameT H H') : CrnAt H' ls ws bs n r := by
  obtain ⟨rs, h1, h2, h3⟩ := h
  exact ⟨rs, e.lst h1, h2, fun i q hq => e.keep _ _ (fun _ z => by cases z) (h3 i q hq)⟩
theorem CrnAt.but {H H' : Hp} {ls ws : List Int} {bs : List (List Nat)} {n : Nat} {r t u : Addr} (h : CrnAt H ls ws bs n r) (hT : Tape H t u) (e : But t H H') : CrnAt H' ls ws bs n r := by
  obtain ⟨rs, h1, h2, h3⟩ := h
  obtain ⟨xs, i, b, s, c, t1, _⟩ := id hT
  exact ⟨rs, e _ _ (hT.neR h1) h1, h2, fun i q hq => e _ _ (fun z => by have := h3 i q hq; rw [z, t1] at this; cases this) (h3 i q hq)⟩
/-- what the law holds for one list of weights -/
structure Vt (ps : List Nat) (ls ws As : List Int) (bs : List (List Nat)) (wa sa ea ka fq : Addr) (H : Hp) : Prop where
  hw : H wa = some (.lst (ws.map V.int))
  SA : SetsAt H ls ws sa (Tn.clS (Tr.par ps) ps.length)
  CE : CrnAt H ls ws bs bs.length ea
  hk : H ka = some (.lst (As.map V.int))
  hf : H fq = some (.lst [V.ref sa, V.ref ea, V.ref ka])
  st : Tn.Sts ps.length (Tr.par ps) (vf ws) (vf ls) bs
  fu : Tn.Full ps.length bs
  la : As.length ≤ 40
  bA : ∀ L, L ∈ As → 0 ≤ L ∧ L ≤ crn (vf ls) bs bs.length
  lw : ws.length = ps.length
  bw : Bd ws
section
variable {ps : List Nat} {ls ws As : List Int} {bs : List (List Nat)} {wa sa ea ka fq t u : Addr} {H H' : Hp}
theorem Vt.sameT (x : Vt ps ls ws As bs wa sa ea ka fq H) (e : SameT H H') : Vt ps ls ws As bs wa sa ea ka fq H' :=
  ⟨e.lst x.hw, x.SA.sameT e, x.CE.sameT e, e.lst x.hk, e.lst x.hf, x.st, x.fu, x.la, x.bA, x.lw, x.bw⟩
theorem Vt.but (x : Vt ps ls ws As bs wa sa ea ka fq H) (hT : Tape H t u) (k : But t H H') : Vt ps ls ws As bs wa sa ea ka fq H' :=
  ⟨k _ _ (hT.neI x.hw) x.hw, x.SA.but hT k, x.CE.but hT k, k _ _ (hT.neI x.hk) x.hk, k _ _ (hT.neR (rs := [sa, ea, ka]) x.hf) x.hf, x.st, x.fu, x.la, x.bA, x.lw, x.bw⟩
/-- the list of what was found, at F, is another one -/
theorem Vt.mut {F : Addr} {o : HO} {xs : List V} (x : Vt ps ls ws As bs wa sa ea ka fq H) (hF : H F = some (.lst xs)) (n1 : wa ≠ F) (n2 : sa ≠ F) (n3 : ea ≠ F) (n4 : ka ≠ F) (n5 : fq ≠ F) (n7 : ∀ (i : Nat) (r q : Addr) (S : List Nat) (v w : V), (∃ rs : List Addr, H sa = some (.lst (rs.map V.ref)) ∧ rs[i]? = some r) → H r = some (.tup [v, w, V.ref q]) → H q = some (.lst (nvs S)) → (Tn.clS (Tr.par ps) ps.length)[i]? = some S → q ≠ F) : Vt ps ls ws As bs wa sa ea ka fq (upd H F o) := by
  have nt : ∀ {q : Addr} {vs : List V}, H q = some (.tup vs) → q ≠ F := fun h z => by rw [z, hF] at h; cases h
  refine ⟨by rw [upd_ne n1]; exact x.hw, ?_, ?_, by rw [upd_ne n4]; exact x.hk, by rw [upd_ne n5]; exact x.hf, x.st, x.fu, x.la, x.bA, x.lw, x.bw⟩
  · obtain ⟨rs, h1, h2, h3⟩ := x.SA
    refine ⟨rs, by rw [upd_ne n2]; exact h1, h2, fun i r S a b => ?_⟩
    obtain ⟨q, q1, q2⟩ := h3 i r S a b
    exact ⟨q, by rw [upd_ne (nt q1)]; exact q1, by rw [upd_ne (n7 i r q S _ _ ⟨rs, h1, a⟩ q1 q2 b)]; exact q2⟩
  · obtain ⟨rs, h1, h2, h3⟩ := x.CE
    exact ⟨rs, by rw [upd_ne n3]; exact h1, h2, fun i q hq => by rw [upd_ne (nt (h3 i q hq))]; exact h3 i q hq⟩
end
theorem ints_pick {As : List Int} : ∀ {ys : List V}, (∀ y, y ∈ ys → y ∈ As.map V.int) → ∃ Bs : List Int, ys = Bs.map V.int ∧ ∀ x, x ∈ Bs → x ∈ As
  | [], _ => ⟨[], rfl, fun x h => by cases h⟩
  | y :: ys, h => by
    obtain ⟨Bs, e, m⟩ := ints_pick (ys := ys) fun z hz => h z (List.mem_cons_of_mem _ hz)
    obtain ⟨x, hx, ex⟩ := List.mem_map.mp (h y List.mem_cons_self)
    refine ⟨x :: Bs, by rw [e, List.map_cons, ex], fun z hz => ?_⟩
    rcases List.mem_cons.mp hz with rfl | hz
    · exact hx
    · exact m z hz
end EP
namespace K61
open PySem L2 EP
open L2H (RoomH roomH_of)
local macro_rules | `(tactic| walk_at "rd") => `(tactic| (repeat (first
  | (refine ⟨_, rfl, ?_⟩) | (refine ⟨_, _, rfl, rfl, ?_⟩) | (refine ⟨rfl, ?_⟩)
  | (refine ⟨_, _, _, _, _, rfl, (by assumption), (by assumption), (by assumption), (by first | exact shf_size | exact shf_parents | exact shf_masks), ?_⟩))))
def top (i : Nat) : Stmt := PySem.Challenge.pw_everypast_k61_whole_stairs.main.body.getD i (.Pass ⟨0, 0, 0, 0⟩)
abbrev s_BadShape_init : Stmt := inClass (top 4) 0
abbrev s_BadLength_init : Stmt := inClass (top 5) 0
abbrev s_BadWeight_init : Stmt := inClass (top 6) 0
abbrev s_BadCount_init : Stmt := inClass (top 7) 0
abbrev s_BadPosition_init : Stmt := inClass (top 8) 0
abbrev s_BadSide_init : Stmt := inClass (top 9) 0
abbrev s_side_masks : Stmt := top 11
abbrev s_Shape_init : Stmt := inClass (top 12) 0
abbrev s_Shape_has : Stmt := inClass (top 12) 2
abbrev s_Shape_parting : Stmt := inClass (top 12) 7
abbrev s_check_position : Stmt := top 13
abbrev s_check_side : Stmt := top 14
abbrev s_is_number_of_side : Stmt := top 15
abbrev s_Tunnels_init : Stmt := inClass (top 17) 0
abbrev s_Tunnels_between : Stmt := inClass (top 17) 3
abbrev s_Tunnels_total : Stmt := inClass (top 17) 5
abbrev s_Tunnels_parent : Stmt := inClass (top 17) 6
abbrev s_Tunnels_branching : Stmt := inClass (top 17) 7
abbrev s_Tunnels_check_tunnels : Stmt := inClass (top 17) 8
abbrev s_fault_in : Stmt := top 18
abbrev s_check_weights : Stmt := top 20
abbrev s_best_addition : Stmt := top 21
abbrev s_gains : Stmt := top 22
abbrev s_worthwhile : Stmt := top 23
abbrev s_is_border : Stmt := top 24
abbrev s_prices : Stmt := top 25
abbrev s_check_terms : Stmt := top 26
abbrev s_blocks : Stmt := top 28
abbrev s_corners : Stmt := top 29
abbrev s_height : Stmt := top 30
abbrev s_l_tape : Stmt := top 32
abbrev s_l_next : Stmt := top 33
abbrev s_l_parents : Stmt := top 34
abbrev s_l_is_number : Stmt := top 35
abbrev s_l_same : Stmt := top 36
abbrev s_l_wrong : Stmt := top 37
abbrev s_l_spoilt : Stmt := top 38
abbrev s_l_dug : Stmt := top 39
abbrev s_l_closed : Stmt := top 40
abbrev s_l_rule : Stmt := top 41
abbrev s_l_steeper : Stmt := top 42
abbrev s_l_ends : Stmt := top 43
abbrev s_l_line : Stmt := top 44
abbrev s_l_fraction : Stmt := top 45
abbrev s_l_heights : Stmt := top 46
abbrev s_l_cornered : Stmt := top 47
abbrev s_l_priced : Stmt := top 48
abbrev s_l_asked : Stmt := top 49
abbrev s_l_refused : Stmt := top 50
abbrev s_law : Stmt := top 51
structure Tx (P : Program) (K : PySem.W.Frag) (mg : Str → Option Value) where
  z_abs : mg "abs" = none
  z_all : mg "all" = none
  z_any : mg "any" = none
  z_bool : mg "bool" = none
  z_enumerate : mg "enumerate" = none
  z_int : mg "int" = none
  z_isinstance : mg "isinstance" = none
  z_len : mg "len" = none
  z_list : mg "list" = none
  z_max : mg "max" = none
  z_range : mg "range" = none
  z_set : mg "set" = none
  z_sorted : mg "sorted" = none
  z_sum : mg "sum" = none
  z_tuple : mg "tuple" = none
  im_gcd : mg "gcd" = some (.builtin "math.gcd")
  C_FindsError : Addr
  mg_FindsError : mg "FindsError" = some (.ref C_FindsError)
  x_BadShape : ExT P K mg "BadShape" "BadShape.__init__" "place" s_BadShape_init
  x_BadLength : ExT P K mg "BadLength" "BadLength.__init__" "place" s_BadLength_init
  x_BadWeight : ExT P K mg "BadWeight" "BadWeight.__init__" "place" s_BadWeight_init
  x_BadCount : ExT P K mg "BadCount" "BadCount.__init__" "number" s_BadCount_init
  x_BadPosition : ExT P K mg "BadPosition" "BadPosition.__init__" "position" s_BadPosition_init
  x_BadSide : ExT P K mg "BadSide" "BadSide.__init__" "side" s_BadSide_init
  a_side_masks : Addr
  d_side_masks : FuncData
  F_side_masks : Fun K "_side_masks" "_side_masks" s_side_masks a_side_masks d_side_masks
  B_side_masks : Binds K d_side_masks ["parents"] []
  g_side_masks : mg "_side_masks" = some (.ref a_side_masks)
  a_Shape_init : Addr
  d_Shape_init : FuncData
  F_Shape_init : Fun K "__init__" "Shape.__init__" s_Shape_init a_Shape_init d_Shape_init
  B_Shape_init : Binds K d_Shape_init ["self", "parents"] []
  a_Shape_has : Addr
  d_Shape_has : FuncData
  F_Shape_has : Fun K "has" "Shape.has" s_Shape_has a_Shape_has d_Shape_has
  B_Shape_has : Binds K d_Shape_has ["self", "position", "side"] []
  a_Shape_parting : Addr
  d_Shape_parting : FuncData
  F_Shape_parting : Fun K "parting" "Shape.parting" s_Shape_parting a_Shape_parting d_Shape_parting
  B_Shape_parting : Binds K d_Shape_parting ["self", "first", "second"] []
  a_check_position : Addr
  d_check_position : FuncData
  F_check_position : Fun K "check_position" "check_position" s_check_position a_check_position d_check_position
  B_check_position : Binds K d_check_position ["shape", "position"] []
  g_check_position : mg "check_position" = some (.ref a_check_position)
  a_check_side : Addr
  d_check_side : FuncData
  F_check_side : Fun K "check_side" "check_side" s_check_side a_check_side d_check_side
  B_check_side : Binds K d_check_side ["shape", "side"] []
  g_check_side : mg "check_side" = some (.ref a_check_side)
  a_is_number_of_side : Addr
  d_is_number_of_side : FuncData
  F_is_number_of_side : Fun K "is_number_of_side" "is_number_of_side" s_is_number_of_side a_is_number_of_side d_is_number_of_side
  B_is_number_of_side : Binds K d_is_number_of_side ["shape", "number"] []
  g_is_number_of_side : mg "is_number_of_side" = some (.ref a_is_number_of_side)
  a_Tunnels_init : Addr
  d_Tunnels_init : FuncData
  F_Tunnels_init : Fun K "__init__" "Tunnels.__init__" s_Tunnels_init a_Tunnels_init d_Tunnels_init
  B_Tunnels_init : Binds K d_Tunnels_init ["self", "parents", "lengths"] []
  a_Tunnels_between : Addr
  d_Tunnels_between : FuncData
  F_Tunnels_between : Fun K "between" "Tunnels.between" s_Tunnels_between a_Tunnels_between d_Tunnels_between
  B_Tunnels_between : Binds K d_Tunnels_between ["self", "first", "second"] []
  a_Tunnels_total : Addr
  d_Tunnels_total : FuncData
  F_Tunnels_total : Fun K "total" "Tunnels.total" s_Tunnels_total a_Tunnels_total d_Tunnels_total
  B_Tunnels_total : Binds K d_Tunnels_total ["self", "values", "walls"] []
  a_Tunnels_parent : Addr
  d_Tunnels_parent : FuncData
  F_Tunnels_parent : Fun K "parent" "Tunnels.parent" s_Tunnels_parent a_Tunnels_parent d_Tunnels_parent
  B_Tunnels_parent : Binds K d_Tunnels_parent ["self", "wall"] []
  a_Tunnels_branching : Addr
  d_Tunnels_branching : FuncData
  F_Tunnels_branching : Fun K "branching" "Tunnels.branching" s_Tunnels_branching a_Tunnels_branching d_Tunnels_branching
  B_Tunnels_branching : Binds K d_Tunnels_branching ["self", "position"] []
  a_Tunnels_check_tunnels : Addr
  d_Tunnels_check_tunnels : FuncData
  F_Tunnels_check_tunnels : Fun K "_check_tunnels" "Tunnels._check_tunnels" s_Tunnels_check_tunnels a_Tunnels_check_tunnels d_Tunnels_check_tunnels
  B_Tunnels_check_tunnels : Binds K d_Tunnels_check_tunnels ["self", "walls"] []
  a_fault_in : Addr
  d_fault_in : FuncData
  F_fault_in : Fun K "fault_in" "fault_in" s_fault_in a_fault_in d_fault_in
  KB_fault_in : KBn K d_fault_in ["numbers", "least", "count"] 1 ["least", "count"] (fun us ws => us ++ ws) (fun vs zs => vs ++ zs)
  g_fault_in : mg "fault_in" = some (.ref a_fault_in)
  a_check_weights : Addr
  d_check_weights : FuncData
  F_check_weights : Fun K "check_weights" "check_weights" s_check_weights a_check_weights d_check_weights
  B_check_weights : Binds K d_check_weights ["tunnels", "weights"] []
  g_check_weights : mg "check_weights" = some (.ref a_check_weights)
  a_best_addition : Addr
  d_best_addition : FuncData
  F_best_addition : Fun K "best_addition" "best_addition" s_best_addition a_best_addition d_best_addition
  B_best_addition : Binds K d_best_addition ["tunnels", "weights", "dug"] []
  g_best_addition : mg "best_addition" = some (.ref a_best_addition)
  a_gains : Addr
  d_gains : FuncData
  F_gains : Fun K "_gains" "_gains" s_gains a_gains d_gains
  B_gains : Binds K d_gains ["tunnels", "weights", "a", "b"] []
  g_gains : mg "_gains" = some (.ref a_gains)
  a_worthwhile : Addr
  d_worthwhile : FuncData
  F_worthwhile : Fun K "_worthwhile" "_worthwhile" s_worthwhile a_worthwhile d_worthwhile
  B_worthwhile : Binds K d_worthwhile ["tunnels", "gains", "dug"] []
  g_worthwhile : mg "_worthwhile" = some (.ref a_worthwhile)
  a_is_border : Addr
  d_is_border : FuncData
  F_is_border : Fun K "_is_border" "_is_border" s_is_border a_is_border d_is_border
  B_is_border : Binds K d_is_border ["tunnels", "dug", "wall"] []
  g_is_border : mg "_is_border" = some (.ref a_is_border)
  a_prices : Addr
  c_prices : Addr
  P_prices : Addr
  d_prices : FuncData
  F_prices : FunG K "prices" "prices" s_prices a_prices d_prices c_prices
  t_prices : TabK K c_prices P_prices
  B_prices : Binds K d_prices ["tunnels", "weights", "a", "b"] []
  g_prices : mg "prices" = some (.ref a_prices)
  a_check_terms : Addr
  d_check_terms : FuncData
  F_check_terms : Fun K "_check_terms" "_check_terms" s_check_terms a_check_terms d_check_terms
  B_check_terms : Binds K d_check_terms ["tunnels", "weights", "a", "b"] []
  g_check_terms : mg "_check_terms" = some (.ref a_check_terms)
  a_blocks : Addr
  d_blocks : FuncData
  F_blocks : Fun K "_blocks" "_blocks" s_blocks a_blocks d_blocks
  B_blocks : Binds K d_blocks ["tunnels", "weights"] []
  g_blocks : mg "_blocks" = some (.ref a_blocks)
  a_corners : Addr
  d_corners : FuncData
  F_corners : Fun K "corners" "corners" s_corners a_corners d_corners
  B_corners : Binds K d_corners ["tunnels", "weights"] []
  g_corners : mg "corners" = some (.ref a_corners)
  a_height : Addr
  d_height : FuncData
  F_height : Fun K "height" "height" s_height a_height d_height
  B_height : Binds K d_height ["tunnels", "weights", "length"] []
  g_height : mg "height" = some (.ref a_height)
  a_l_tape : Addr
  d_l_tape : FuncData
  F_l_tape : Fun K "_law_tape" "_law_tape" s_l_tape a_l_tape d_l_tape
  B_l_tape : Binds K d_l_tape ["_law_script"] []
  g_l_tape : mg "_law_tape" = some (.ref a_l_tape)
  a_l_next : Addr
  d_l_next : FuncData
  F_l_next : Fun K "_law_next" "_law_next" s_l_next a_l_next d_l_next
  B_l_next : Binds K d_l_next ["_law_tape_here", "_law_size"] []
  g_l_next : mg "_law_next" = some (.ref a_l_next)
  a_l_parents : Addr
  d_l_parents : FuncData
  F_l_parents : Fun K "_law_parents" "_law_parents" s_l_parents a_l_parents d_l_parents
  B_l_parents : Binds K d_l_parents ["_law_tape_here", "_law_most"] []
  g_l_parents : mg "_law_parents" = some (.ref a_l_parents)
  a_l_is_number : Addr
  d_l_is_number : FuncData
  F_l_is_number : Fun K "_law_is_number" "_law_is_number" s_l_is_number a_l_is_number d_l_is_number
  B_l_is_number : Binds K d_l_is_number ["_law_thing"] []
  g_l_is_number : mg "_law_is_number" = some (.ref a_l_is_number)
  a_l_same : Addr
  d_l_same : FuncData
  F_l_same : Fun K "_law_same" "_law_same" s_l_same a_l_same d_l_same
  B_l_same : Binds K d_l_same ["_law_told", "_law_due"] []
  g_l_same : mg "_law_same" = some (.ref a_l_same)
  a_l_wrong : Addr
  d_l_wrong : FuncData
  F_l_wrong : Fun K "_law_wrong" "_law_wrong" s_l_wrong a_l_wrong d_l_wrong
  B_l_wrong : Binds K d_l_wrong ["_law_values", "_law_least", "_law_many"] []
  g_l_wrong : mg "_law_wrong" = some (.ref a_l_wrong)
  a_l_spoilt : Addr
  d_l_spoilt : FuncData
  F_l_spoilt : Fun K "_law_spoilt" "_law_spoilt" s_l_spoilt a_l_spoilt d_l_spoilt
  B_l_spoilt : Binds K d_l_spoilt ["_law_tape_here", "_law_values", "_law_least"] []
  g_l_spoilt : mg "_law_spoilt" = some (.ref a_l_spoilt)
  a_l_dug : Addr
  d_l_dug : FuncData
  F_l_dug : Fun K "_law_dug" "_law_dug" s_l_dug a_l_dug d_l_dug
  B_l_dug : Binds K d_l_dug ["_law_tape_here"] []
  g_l_dug : mg "_law_dug" = some (.ref a_l_dug)
  a_l_closed : Addr
  d_l_closed : FuncData
  F_l_closed : Fun K "_law_closed" "_law_closed" s_l_closed a_l_closed d_l_closed
  B_l_closed : Binds K d_l_closed ["_law_parents_here", "_law_lengths", "_law_weights"] []
  g_l_closed : mg "_law_closed" = some (.ref a_l_closed)
  a_l_rule : Addr
  d_l_rule : FuncData
  F_l_rule : Fun K "_law_rule" "_law_rule" s_l_rule a_l_rule d_l_rule
  B_l_rule : Binds K d_l_rule ["_law_parents_here", "_law_lengths", "_law_weights", "_law_a", "_law_b", "_law_offered"] []
  g_l_rule : mg "_law_rule" = some (.ref a_l_rule)
  a_l_steeper : Addr
  d_l_steeper : FuncData
  F_l_steeper : Fun K "_law_steeper" "_law_steeper" s_l_steeper a_l_steeper d_l_steeper
  B_l_steeper : Binds K d_l_steeper ["_law_more", "_law_best"] []
  g_l_steeper : mg "_law_steeper" = some (.ref a_l_steeper)
  a_l_ends : Addr
  d_l_ends : FuncData
  F_l_ends : Fun K "_law_ends" "_law_ends" s_l_ends a_l_ends d_l_ends
  B_l_ends : Binds K d_l_ends ["_law_parents_here", "_law_sets"] []
  g_l_ends : mg "_law_ends" = some (.ref a_l_ends)
  a_l_line : Addr
  d_l_line : FuncData
  F_l_line : Fun K "_law_line" "_law_line" s_l_line a_l_line d_l_line
  B_l_line : Binds K d_l_line ["_law_ends_here", "_law_length"] []
  g_l_line : mg "_law_line" = some (.ref a_l_line)
  a_l_fraction : Addr
  d_l_fraction : FuncData
  F_l_fraction : Fun K "_law_fraction" "_law_fraction" s_l_fraction a_l_fraction d_l_fraction
  B_l_fraction : Binds K d_l_fraction ["_law_told", "_law_line_here"] []
  g_l_fraction : mg "_law_fraction" = some (.ref a_l_fraction)
  a_l_heights : Addr
  d_l_heights : FuncData
  F_l_heights : Fun K "_law_heights" "_law_heights" s_l_heights a_l_heights d_l_heights
  B_l_heights : Binds K d_l_heights ["_law_made", "_law_weights", "_law_passed", "_law_sets", "_law_ends_here", "_law_asked_here"] []
  g_l_heights : mg "_law_heights" = some (.ref a_l_heights)
  a_l_cornered : Addr
  d_l_cornered : FuncData
  F_l_cornered : Fun K "_law_cornered" "_law_cornered" s_l_cornered a_l_cornered d_l_cornered
  B_l_cornered : Binds K d_l_cornered ["_law_made", "_law_weights", "_law_ends_here"] []
  g_l_cornered : mg "_law_cornered" = some (.ref a_l_cornered)
  a_l_priced : Addr
  d_l_priced : FuncData
  F_l_priced : Fun K "_law_priced" "_law_priced" s_l_priced a_l_priced d_l_priced
  B_l_priced : Binds K d_l_priced ["_law_made", "_law_parents_here", "_law_lengths", "_law_weights", "_law_end", "_law_times", "_law_pair"] []
  g_l_priced : mg "_law_priced" = some (.ref a_l_priced)
  a_l_asked : Addr
  d_l_asked : FuncData
  F_l_asked : Fun K "_law_asked" "_law_asked" s_l_asked a_l_asked d_l_asked
  B_l_asked : Binds K d_l_asked ["_law_tape_here", "_law_ends_here"] []
  g_l_asked : mg "_law_asked" = some (.ref a_l_asked)
  a_l_refused : Addr
  d_l_refused : FuncData
  F_l_refused : Fun K "_law_refused" "_law_refused" s_l_refused a_l_refused d_l_refused
  B_l_refused : Binds K d_l_refused ["_law_made", "_law_weights", "_law_length", "_law_lengths"] []
  g_l_refused : mg "_law_refused" = some (.ref a_l_refused)
  a_law : Addr
  d_law : FuncData
  F_law : Fun K "law" "law" s_law a_law d_law
  B_law : Binds K d_law ["_law_script"] []
  g_law : mg "law" = some (.ref a_law)
  C_Shape : Addr
  mg_Shape : mg "Shape" = some (.ref C_Shape)
  cl_Shape : Cls K C_Shape
  M_Shape : Mk K C_Shape a_Shape_init
  n_Shape_masks : NoAttr K C_Shape "_masks"
  n_Shape_parents : NoAttr K C_Shape "parents"
  n_Shape_size : NoAttr K C_Shape "size"
  m_Shape_has : Meth K C_Shape "has" a_Shape_has
  m_Shape_parting : Meth K C_Shape "parting" a_Shape_parting
  C_Tunnels : Addr
  mg_Tunnels : mg "Tunnels" = some (.ref C_Tunnels)
  cl_Tunnels : Cls K C_Tunnels
  M_Tunnels : Mk K C_Tunnels a_Tunnels_init
  n_Tunnels_lengths : NoAttr K C_Tunnels "lengths"
  n_Tunnels_shape : NoAttr K C_Tunnels "shape"
  m_Tunnels_between : Meth K C_Tunnels "between" a_Tunnels_between
  m_Tunnels_total : Meth K C_Tunnels "total" a_Tunnels_total
  m_Tunnels_parent : Meth K C_Tunnels "parent" a_Tunnels_parent
  m_Tunnels_branching : Meth K C_Tunnels "branching" a_Tunnels_branching
  m_Tunnels_check_tunnels : Meth K C_Tunnels "_check_tunnels" a_Tunnels_check_tunnels
  k_BadCount_BadCount : PySem.W.kitOne K (.ref x_BadCount.C) (.ref x_BadCount.C) = some true
  k_BadCount_BadWeight : PySem.W.kitOne K (.ref x_BadCount.C) (.ref x_BadWeight.C) = some false
  k_BadLength_BadCount : PySem.W.kitOne K (.ref x_BadLength.C) (.ref x_BadCount.C) = some false
  k_BadLength_BadWeight : PySem.W.kitOne K (.ref x_BadLength.C) (.ref x_BadWeight.C) = some false
  k_BadPosition_BadCount : PySem.W.kitOne K (.ref x_BadPosition.C) (.ref x_BadCount.C) = some false
  k_BadPosition_BadWeight : PySem.W.kitOne K (.ref x_BadPosition.C) (.ref x_BadWeight.C) = some false
  k_BadShape_BadCount : PySem.W.kitOne K (.ref x_BadShape.C) (.ref x_BadCount.C) = some false
  k_BadShape_BadWeight : PySem.W.kitOne K (.ref x_BadShape.C) (.ref x_BadWeight.C) = some false
  k_BadSide_BadCount : PySem.W.kitOne K (.ref x_BadSide.C) (.ref x_BadCount.C) = some false
  k_BadSide_BadWeight : PySem.W.kitOne K (.ref x_BadSide.C) (.ref x_BadWeight.C) = some false
  k_BadWeight_BadCount : PySem.W.kitOne K (.ref x_BadWeight.C) (.ref x_BadCount.C) = some false
  k_BadWeight_BadWeight : PySem.W.kitOne K (.ref x_BadWeight.C) (.ref x_BadWeight.C) = some true
  cb_FindsError : CatchB K C_FindsError
  sb_BadShape_FindsError : PySem.W.subIn K (.ref x_BadShape.C) (.ref C_FindsError) = some true
  sb_BadLength_FindsError : PySem.W.subIn K (.ref x_BadLength.C) (.ref C_FindsError) = some true
  sb_BadWeight_FindsError : PySem.W.subIn K (.ref x_BadWeight.C) (.ref C_FindsError) = some true
  sb_BadCount_FindsError : PySem.W.subIn K (.ref x_BadCount.C) (.ref C_FindsError) = some true
  sb_BadPosition_FindsError : PySem.W.subIn K (.ref x_BadPosition.C) (.ref C_FindsError) = some true
  sb_BadSide_FindsError : PySem.W.subIn K (.ref x_BadSide.C) (.ref C_FindsError) = some true
structure TBs {P : Program} {K : PySem.W.Frag} {mg : Str → Option Value} (T : Tx P K mg) (base : Heap) : Prop where
  t_prices : GxR.TabB base mg T.c_prices T.P_prices
section
variable {P : Program} {w : World} {K : PySem.W.Frag} {mg : Str → Option Value} {base : Heap}
theorem sc_BadShape_init : ScE ["self", "place"] ["self", "place"] (defScope s_BadShape_init) := ⟨rfl, rfl, rfl, by decide +kernel, rfl, by decide +kernel, by decide +kernel, by decide +kernel, by decide +kernel, by decide +kernel⟩
theorem sc_BadLength_init : ScE ["self", "place"] ["self", "place"] (defScope s_BadLength_init) := ⟨rfl, rfl, rfl, by decide +kernel, rfl, by decide +kernel, by decide +kernel, by decide +kernel, by decide +kernel, by decide +kernel⟩
theorem sc_BadWeight_init : ScE ["self", "place"] ["self", "place"] (defScope s_BadWeight_init) := ⟨rfl, rfl, rfl, by decide +kernel, rfl, by decide +kernel, by decide +kernel, by decide +kernel, by decide +kernel, by decide +kernel⟩
theorem sc_BadCount_init : ScE ["self", "number"] ["self", "number"] (defScope s_BadCount_init) := ⟨rfl, rfl, rfl, by decide +kernel, rfl, by decide +kernel, by decide +kernel, by decide +kernel, by decide +kernel, by decide +kernel⟩
theorem sc_BadPosition_init : ScE ["self", "position"] ["self", "position"] (defScope s_BadPosition_init) := ⟨rfl, rfl, rfl, by decide +kernel, rfl, by decide +kernel, by decide +kernel, by decide +kernel, by decide +kernel, by decide +kernel⟩
theorem sc_BadSide_init : ScE ["self", "side"] ["self", "side"] (defScope s_BadSide_init) := ⟨rfl, rfl, rfl, by decide +kernel, rfl, by decide +kernel, by decide +kernel, by decide +kernel, by decide +kernel, by decide +kernel⟩
theorem sc_side_masks : FnScope ["parents", "count", "branches", "wall", "parent", "masks", "position"] ["parents"] (defScope s_side_masks) := ⟨rfl, rfl, rfl, by decide +kernel, rfl, by decide +kernel, by decide +kernel⟩
theorem sc_Shape_init : FnScope ["self", "parents", "place", "parent"] ["self", "parents"] (defScope s_Shape_init) := ⟨rfl, rfl, rfl, by decide +kernel, rfl, by decide +kernel, by decide +kernel⟩
theorem sc_Shape_has : FnScope ["self", "position", "side"] ["self", "position", "side"] (defScope s_Shape_has) := ⟨rfl, rfl, rfl, by decide +kernel, rfl, by decide +kernel, by decide +kernel⟩
theorem sc_Shape_parting : FnScope ["self", "first", "second", "wall"] ["self", "first", "second"] (defScope s_Shape_parting) := ⟨rfl, rfl, rfl, by decide +kernel, rfl, by decide +kernel, by decide +kernel⟩
theorem sc_check_position : FnScope ["shape", "position"] ["shape", "position"] (defScope s_check_position) := ⟨rfl, rfl, rfl, by decide +kernel, rfl, by decide +kernel, by decide +kernel⟩
theorem sc_check_side : FnScope ["shape", "side"] ["shape", "side"] (defScope s_check_side) := ⟨rfl, rfl, rfl, by decide +kernel, rfl, by decide +kernel, by decide +kernel⟩
theorem sc_is_number_of_side : FnScope ["shape", "number"] ["shape", "number"] (defScope s_is_number_of_side) := ⟨rfl, rfl, rfl, by decide +kernel, rfl, by decide +kernel, by decide +kernel⟩
theorem sc_Tunnels_init : FnScope ["self", "parents", "lengths", "shape", "place"] ["self", "parents", "lengths"] (defScope s_Tunnels_init) := ⟨rfl, rfl, rfl, by decide +kernel, rfl, by decide +kernel, by decide +kernel⟩
theorem sc_Tunnels_between : FnScope ["self", "first", "second"] ["self", "first", "second"] (defScope s_Tunnels_between) := ⟨rfl, rfl, rfl, by decide +kernel, rfl, by decide +kernel, by decide +kernel⟩
theorem sc_Tunnels_total : FnScope ["self", "values", "walls", "wall"] ["self", "values", "walls"] (defScope s_Tunnels_total) := ⟨rfl, rfl, rfl, by decide +kernel, rfl, by decide +kernel, by decide +kernel⟩
theorem sc_Tunnels_parent : FnScope ["self", "wall"] ["self", "wall"] (defScope s_Tunnels_parent) := ⟨rfl, rfl, rfl, by decide +kernel, rfl, by decide +kernel, by decide +kernel⟩
theorem sc_Tunnels_branching : FnScope ["self", "position", "wall"] ["self", "position"] (defScope s_Tunnels_branching) := ⟨rfl, rfl, rfl, by decide +kernel, rfl, by decide +kernel, by decide +kernel⟩
theorem sc_Tunnels_check_tunnels : FnScope ["self", "walls", "wall"] ["self", "walls"] (defScope s_Tunnels_check_tunnels) := ⟨rfl, rfl, rfl, by decide +kernel, rfl, by decide +kernel, by decide +kernel⟩
theorem sc_fault_in : FnScope ["numbers", "least", "count", "place", "number"] ["numbers", "least", "count"] (defScope s_fault_in) := ⟨rfl, rfl, rfl, by decide +kernel, rfl, by decide +kernel, by decide +kernel⟩
theorem sc_check_weights : FnScope ["tunnels", "weights", "place"] ["tunnels", "weights"] (defScope s_check_weights) := ⟨rfl, rfl, rfl, by decide +kernel, rfl, by decide +kernel, by decide +kernel⟩
theorem sc_best_addition : FnScope ["tunnels", "weights", "dug", "walls", "gain", "weight", "length", "gains", "wall"] ["tunnels", "weights", "dug"] (defScope s_best_addition) := ⟨rfl, rfl, rfl, by decide +kernel, rfl, by decide +kernel, by decide +kernel⟩
theorem sc_gains : FnScope ["tunnels", "weights", "a", "b", "gains", "wall", "behind", "other"] ["tunnels", "weights", "a", "b"] (defScope s_gains) := ⟨rfl, rfl, rfl, by decide +kernel, rfl, by decide +kernel, by decide +kernel⟩
theorem sc_worthwhile : FnScope ["tunnels", "gains", "dug", "walls", "wall", "reachable"] ["tunnels", "gains", "dug"] (defScope s_worthwhile) := ⟨rfl, rfl, rfl, by decide +kernel, rfl, by decide +kernel, by decide +kernel⟩
theorem sc_is_border : FnScope ["tunnels", "dug", "wall"] ["tunnels", "dug", "wall"] (defScope s_is_border) := ⟨rfl, rfl, rfl, by decide +kernel, rfl, by decide +kernel, by decide +kernel⟩
theorem sc_prices : FnScope ["tunnels", "weights", "a", "b", "gains", "wall"] ["tunnels", "weights", "a", "b"] (defScope s_prices) := ⟨rfl, rfl, rfl, by decide +kernel, rfl, by decide +kernel, by decide +kernel⟩
theorem sc_check_terms : FnScope ["tunnels", "weights", "a", "b"] ["tunnels", "weights", "a", "b"] (defScope s_check_terms) := ⟨rfl, rfl, rfl, by decide +kernel, rfl, by decide +kernel, by decide +kernel⟩
theorem sc_blocks : FnScope ["tunnels", "weights", "blocks", "dug", "block"] ["tunnels", "weights"] (defScope s_blocks) := ⟨rfl, rfl, rfl, by decide +kernel, rfl, by decide +kernel, by decide +kernel⟩
theorem sc_corners : FnScope ["tunnels", "weights", "found", "weight", "length", "_"] ["tunnels", "weights"] (defScope s_corners) := ⟨rfl, rfl, rfl, by decide +kernel, rfl, by decide +kernel, by decide +kernel⟩
theorem sc_height : FnScope ["tunnels", "weights", "length", "found", "place", "start", "low", "end", "high", "numerator", "shared", "at", "corner"] ["tunnels", "weights", "length"] (defScope s_height) := ⟨rfl, rfl, rfl, by decide +kernel, rfl, by decide +kernel, by decide +kernel⟩
theorem sc_l_tape : FnScope ["_law_script", "_law_cell"] ["_law_script"] (defScope s_l_tape) := ⟨rfl, rfl, rfl, by decide +kernel, rfl, by decide +kernel, by decide +kernel⟩
theorem sc_l_next : FnScope ["_law_tape_here", "_law_size", "_law_cell", "_law_digit", "_law_mixed"] ["_law_tape_here", "_law_size"] (defScope s_l_next) := ⟨rfl, rfl, rfl, by decide +kernel, rfl, by decide +kernel, by decide +kernel⟩
theorem sc_l_parents : FnScope ["_law_tape_here", "_law_most", "_law_many", "_law_kind", "_law_parents_here", "_law_k"] ["_law_tape_here", "_law_most"] (defScope s_l_parents) := ⟨rfl, rfl, rfl, by decide +kernel, rfl, by decide +kernel, by decide +kernel⟩
theorem sc_l_is_number : FnScope ["_law_thing"] ["_law_thing"] (defScope s_l_is_number) := ⟨rfl, rfl, rfl, by decide +kernel, rfl, by decide +kernel, by decide +kernel⟩
theorem sc_l_same : FnScope ["_law_told", "_law_due", "_law_at"] ["_law_told", "_law_due"] (defScope s_l_same) := ⟨rfl, rfl, rfl, by decide +kernel, rfl, by decide +kernel, by decide +kernel⟩
theorem sc_l_wrong : FnScope ["_law_values", "_law_least", "_law_many", "_law_at"] ["_law_values", "_law_least", "_law_many"] (defScope s_l_wrong) := ⟨rfl, rfl, rfl, by decide +kernel, rfl, by decide +kernel, by decide +kernel⟩
theorem sc_l_spoilt : FnScope ["_law_tape_here", "_law_values", "_law_least", "_law_spoilt_here", "_law_kind", "_law_far", "_law_turn"] ["_law_tape_here", "_law_values", "_law_least"] (defScope s_l_spoilt) := ⟨rfl, rfl, rfl, by decide +kernel, rfl, by decide +kernel, by decide +kernel⟩
theorem sc_l_dug : FnScope ["_law_tape_here", "_law_parents_here", "_law_kind", "_law_bounds", "_law_lengths", "_law_k", "_law_length"] ["_law_tape_here"] (defScope s_l_dug) := ⟨rfl, rfl, rfl, by decide +kernel, rfl, by decide +kernel, by decide +kernel⟩
theorem sc_l_closed : FnScope ["_law_parents_here", "_law_lengths", "_law_weights", "_law_sets", "_law_k", "_law_more", "_law_one"] ["_law_parents_here", "_law_lengths", "_law_weights"] (defScope s_l_closed) := ⟨rfl, rfl, rfl, by decide +kernel, rfl, by decide +kernel, by decide +kernel⟩
theorem sc_l_rule : FnScope ["_law_parents_here", "_law_lengths", "_law_weights", "_law_a", "_law_b", "_law_offered", "_law_k", "_law_behind", "_law_c"] ["_law_parents_here", "_law_lengths", "_law_weights", "_law_a", "_law_b", "_law_offered"] (defScope s_l_rule) := ⟨rfl, rfl, rfl, by decide +kernel, rfl, by decide +kernel, by decide +kernel⟩
theorem sc_l_steeper : FnScope ["_law_more", "_law_best"] ["_law_more", "_law_best"] (defScope s_l_steeper) := ⟨rfl, rfl, rfl, by decide +kernel, rfl, by decide +kernel, by decide +kernel⟩
theorem sc_l_ends : FnScope ["_law_parents_here", "_law_sets", "_law_found", "_law_turn", "_law_low", "_law_best", "_law_one", "_law_more"] ["_law_parents_here", "_law_sets"] (defScope s_l_ends) := ⟨rfl, rfl, rfl, by decide +kernel, rfl, by decide +kernel, by decide +kernel⟩
theorem sc_l_line : FnScope ["_law_ends_here", "_law_length", "_law_at", "_law_low", "_law_base"] ["_law_ends_here", "_law_length"] (defScope s_l_line) := ⟨rfl, rfl, rfl, by decide +kernel, rfl, by decide +kernel, by decide +kernel⟩
theorem sc_l_fraction : FnScope ["_law_told", "_law_line_here", "_law_k"] ["_law_told", "_law_line_here"] (defScope s_l_fraction) := ⟨rfl, rfl, rfl, by decide +kernel, rfl, by decide +kernel, by decide +kernel⟩
theorem sc_l_heights : FnScope ["_law_made", "_law_weights", "_law_passed", "_law_sets", "_law_ends_here", "_law_asked_here", "_law_corner", "_law_length", "_law_told", "_law_here", "_law_end", "_law_one"] ["_law_made", "_law_weights", "_law_passed", "_law_sets", "_law_ends_here", "_law_asked_here"] (defScope s_l_heights) := ⟨rfl, rfl, rfl, by decide +kernel, rfl, by decide +kernel, by decide +kernel⟩
theorem sc_l_cornered : FnScope ["_law_made", "_law_weights", "_law_ends_here", "_law_told", "_law_at"] ["_law_made", "_law_weights", "_law_ends_here"] (defScope s_l_cornered) := ⟨rfl, rfl, rfl, by decide +kernel, rfl, by decide +kernel, by decide +kernel⟩
theorem sc_l_priced : FnScope ["_law_made", "_law_parents_here", "_law_lengths", "_law_weights", "_law_end", "_law_times", "_law_pair", "_law_told", "_law_price"] ["_law_made", "_law_parents_here", "_law_lengths", "_law_weights", "_law_end", "_law_times", "_law_pair"] (defScope s_l_priced) := ⟨rfl, rfl, rfl, by decide +kernel, rfl, by decide +kernel, by decide +kernel⟩
theorem sc_l_asked : FnScope ["_law_tape_here", "_law_ends_here", "_law_whole", "_law_end", "_law_j"] ["_law_tape_here", "_law_ends_here"] (defScope s_l_asked) := ⟨rfl, rfl, rfl, by decide +kernel, rfl, by decide +kernel, by decide +kernel⟩
theorem sc_l_refused : FnScope ["_law_made", "_law_weights", "_law_length", "_law_lengths", "_law_place", "_law_passed", "e"] ["_law_made", "_law_weights", "_law_length", "_law_lengths"] (defScope s_l_refused) := ⟨rfl, rfl, rfl, by decide +kernel, rfl, by decide +kernel, by decide +kernel⟩
theorem sc_law : FnScope ["_law_script", "_law_tape_here", "_law_parents_here", "_law_lengths", "_law_weights", "_law_heavy", "_law_spoilt_here", "_law_far", "_law_times", "_law_pair", "_law_whole", "_law_made", "_law_found", "_law_one", "_law_sets", "_law_ends_here", "_law_turn", "_law_at", "_law_passed", "_law_length"] ["_law_script"] (defScope s_law) := ⟨rfl, rfl, rfl, by decide +kernel, rfl, by decide +kernel, by decide +kernel⟩
theorem bind_BadShape (T : Tx P K mg) : Binds K T.x_BadShape.fd ["self", "place"] [] := by
  obtain ⟨oc, od, kV, doc, pm, an, ct, osl, e, lk⟩ := T.x_BadShape.lk
  rw [e]
  exact .all fun us hl => match us, hl with | [_, _], _ => rfl
theorem init_BadShape (T : Tx P K mg) : FnOk P w K mg base L2.CX0 1 T.x_BadShape.fa T.x_BadShape.fd ["self", "place"] (spExc T.x_BadShape.C "place" IntS) := by
  obtain ⟨oc, od, kV, doc, pm, an, ct, osl, e, lk⟩ := T.x_BadShape.lk
  rw [e] at lk ⊢
  refine fn_exc lk T.x_BadShape.cod sc_BadShape_init T.x_BadShape.sup rfl rfl (fun vs H Q E h => ?_) (fun A outer s H vs Q E hr h => ?_)
  · obtain ⟨a, v, H0, rfl, _⟩ := h
    rfl
  obtain ⟨a, v, H0, rfl, ha, rfl, ⟨i, rfl, hi⟩, q⟩ := h
  have le0 : Str.empty.length = 0 := by decide +kernel
  have le1 : ("not a shape, at index " : Str).length = 22 := by decide +kernel
  refine ⟨a, [.int i], _, _, rfl, upd_same, pa_cons (pe_joined (.cons pe_str (.cons (pe_fmt (pv 1)) .nil))) pa_nil, pss_one (ps_ost (pv 0) (pv 1)), ?_⟩
  refine ⟨_, rfl, ?_, ?_⟩
  · (simp only [Str.length_append]; first | decide | (have hz := intS_len hi; rw [sizeLine_eq]; omega))
  refine ⟨_, rfl, .inr ⟨i, rfl, Nat.lt_of_lt_of_le hi (by decide), ?_⟩⟩
  refine ⟨_, rfl, ?_, ?_⟩
  · (simp only [Str.length_append]; first | decide | (have hz := intS_len hi; rw [sizeLine_eq]; omega))
  refine ⟨(by show 1 ≤ 1000; decide), upd_same, ?_⟩
  refine ⟨_, rfl, _, rfl, a, T.x_BadShape.C, rfl, T.x_BadShape.sup.oex, T.x_BadShape.xn, .inl ⟨upd_same, fun dx h1 h2 => ?_⟩⟩
  rw [upd_ne h2] at h1
  exact q dx h1 h2
theorem bind_BadLength (T : Tx P K mg) : Binds K T.x_BadLength.fd ["self", "place"] [] := by
  obtain ⟨oc, od, kV, doc, pm, an, ct, osl, e, lk⟩ := T.x_BadLength.lk
  rw [e]
  exact .all fun us hl => match us, hl with | [_, _], _ => rfl
theorem init_BadLength (T : Tx P K mg) : FnOk P w K mg base L2.CX0 1 T.x_BadLength.fa T.x_BadLength.fd ["self", "place"] (spExc T.x_BadLength.C "place" IntS) := by
  obtain ⟨oc, od, kV, doc, pm, an, ct, osl, e, lk⟩ := T.x_BadLength.lk
  rw [e] at lk ⊢
  refine fn_exc lk T.x_BadLength.cod sc_BadLength_init T.x_BadLength.sup rfl rfl (fun vs H Q E h => ?_) (fun A outer s H vs Q E hr h => ?_)
  · obtain ⟨a, v, H0, rfl, _⟩ := h
    rfl
  obtain ⟨a, v, H0, rfl, ha, rfl, ⟨i, rfl, hi⟩, q⟩ := h
  have le0 : Str.empty.length = 0 := by decide +kernel
  have le1 : ("not a list of lengths, at index " : Str).length = 32 := by decide +kernel
  refine ⟨a, [.int i], _, _, rfl, upd_same, pa_cons (pe_joined (.cons pe_str (.cons (pe_fmt (pv 1)) .nil))) pa_nil, pss_one (ps_ost (pv 0) (pv 1)), ?_⟩
  refine ⟨_, rfl, ?_, ?_⟩
  · (simp only [Str.length_append]; first | decide | (have hz := intS_len hi; rw [sizeLine_eq]; omega))
  refine ⟨_, rfl, .inr ⟨i, rfl, Nat.lt_of_lt_of_le hi (by decide), ?_⟩⟩
  refine ⟨_, rfl, ?_, ?_⟩
  · (simp only [Str.length_append]; first | decide | (have hz := intS_len hi; rw [sizeLine_eq]; omega))
  refine ⟨(by show 1 ≤ 1000; decide), upd_same, ?_⟩
  refine ⟨_, rfl, _, rfl, a, T.x_BadLength.C, rfl, T.x_BadLength.sup.oex, T.x_BadLength.xn, .inl ⟨upd_same, fun dx h1 h2 => ?_⟩⟩
  rw [upd_ne h2] at h1
  exact q dx h1 h2
theorem bind_BadWeight (T : Tx P K mg) : Binds K T.x_BadWeight.fd ["self", "place"] [] := by
  obtain ⟨oc, od, kV, doc, pm, an, ct, osl, e, lk⟩ := T.x_BadWeight.lk
  rw [e]
  exact .all fun us hl => match us, hl with | [_, _], _ => rfl
theorem init_BadWeight (T : Tx P K mg) : FnOk P w K mg base L2.CX0 1 T.x_BadWeight.fa T.x_BadWeight.fd ["self", "place"] (spExc T.x_BadWeight.C "place" IntS) := by
  obtain ⟨oc, od, kV, doc, pm, an, ct, osl, e, lk⟩ := T.x_BadWeight.lk
  rw [e] at lk ⊢
  refine fn_exc lk T.x_BadWeight.cod sc_BadWeight_init T.x_BadWeight.sup rfl rfl (fun vs H Q E h => ?_) (fun A outer s H vs Q E hr h => ?_)
  · obtain ⟨a, v, H0, rfl, _⟩ := h
    rfl
  obtain ⟨a, v, H0, rfl, ha, rfl, ⟨i, rfl, hi⟩, q⟩ := h
  have le0 : Str.empty.length = 0 := by decide +kernel
  have le1 : ("not a list of weights, at index " : Str).length = 32 := by decide +kernel
  refine ⟨a, [.int i], _, _, rfl, upd_same, pa_cons (pe_joined (.cons pe_str (.cons (pe_fmt (pv 1)) .nil))) pa_nil, pss_one (ps_ost (pv 0) (pv 1)), ?_⟩
  refine ⟨_, rfl, ?_, ?_⟩
  · (simp only [Str.length_append]; first | decide | (have hz := intS_len hi; rw [sizeLine_eq]; omega))
  refine ⟨_, rfl, .inr ⟨i, rfl, Nat.lt_of_lt_of_le hi (by decide), ?_⟩⟩
  refine ⟨_, rfl, ?_, ?_⟩
  · (simp only [Str.length_append]; first | decide | (have hz := intS_len hi; rw [sizeLine_eq]; omega))
  refine ⟨(by show 1 ≤ 1000; decide), upd_same, ?_⟩
  refine ⟨_, rfl, _, rfl, a, T.x_BadWeight.C, rfl, T.x_BadWeight.sup.oex, T.x_BadWeight.xn, .inl ⟨upd_same, fun dx h1 h2 => ?_⟩⟩
  rw [upd_ne h2] at h1
  exact q dx h1 h2
theorem bind_BadCount (T : Tx P K mg) : Binds K T.x_BadCount.fd ["self", "number"] [] := by
  obtain ⟨oc, od, kV, doc, pm, an, ct, osl, e, lk⟩ := T.x_BadCount.lk
  rw [e]
  exact .all fun us hl => match us, hl with | [_, _], _ => rfl
theorem init_BadCount (T : Tx P K mg) : FnOk P w K mg base L2.CX0 1 T.x_BadCount.fa T.x_BadCount.fd ["self", "number"] (spExc T.x_BadCount.C "number" IntS) := by
  obtain ⟨oc, od, kV, doc, pm, an, ct, osl, e, lk⟩ := T.x_BadCount.lk
  rw [e] at lk ⊢
  refine fn_exc lk T.x_BadCount.cod sc_BadCount_init T.x_BadCount.sup rfl rfl (fun vs H Q E h => ?_) (fun A outer s H vs Q E hr h => ?_)
  · obtain ⟨a, v, H0, rfl, _⟩ := h
    rfl
  obtain ⟨a, v, H0, rfl, ha, rfl, ⟨i, rfl, hi⟩, q⟩ := h
  have le0 : Str.empty.length = 0 := by decide +kernel
  have le1 : ("not allowed as a number here: " : Str).length = 30 := by decide +kernel
  refine ⟨a, [.int i], _, _, rfl, upd_same, pa_cons (pe_joined (.cons pe_str (.cons (pe_fmt (pv 1)) .nil))) pa_nil, pss_one (ps_ost (pv 0) (pv 1)), ?_⟩
  refine ⟨_, rfl, ?_, ?_⟩
  · (simp only [Str.length_append]; first | decide | (have hz := intS_len hi; rw [sizeLine_eq]; omega))
  refine ⟨_, rfl, .inr ⟨i, rfl, Nat.lt_of_lt_of_le hi (by decide), ?_⟩⟩
  refine ⟨_, rfl, ?_, ?_⟩
  · (simp only [Str.length_append]; first | decide | (have hz := intS_len hi; rw [sizeLine_eq]; omega))
  refine ⟨(by show 1 ≤ 1000; decide), upd_same, ?_⟩
  refine ⟨_, rfl, _, rfl, a, T.x_BadCount.C, rfl, T.x_BadCount.sup.oex, T.x_BadCount.xn, .inl ⟨upd_same, fun dx h1 h2 => ?_⟩⟩
  rw [upd_ne h2] at h1
  exact q dx h1 h2
theorem bind_BadPosition (T : Tx P K mg) : Binds K T.x_BadPosition.fd ["self", "position"] [] := by
  obtain ⟨oc, od, kV, doc, pm, an, ct, osl, e, lk⟩ := T.x_BadPosition.lk
  rw [e]
  exact .all fun us hl => match us, hl with | [_, _], _ => rfl
theorem init_BadPosition (T : Tx P K mg) : FnOk P w K mg base L2.CX0 1 T.x_BadPosition.fa T.x_BadPosition.fd ["self", "position"] (spExc T.x_BadPosition.C "position" IntS) := by
  obtain ⟨oc, od, kV, doc, pm, an, ct, osl, e, lk⟩ := T.x_BadPosition.lk
  rw [e] at lk ⊢
  refine fn_exc lk T.x_BadPosition.cod sc_BadPosition_init T.x_BadPosition.sup rfl rfl (fun vs H Q E h => ?_) (fun A outer s H vs Q E hr h => ?_)
  · obtain ⟨a, v, H0, rfl, _⟩ := h
    rfl
  obtain ⟨a, v, H0, rfl, ha, rfl, ⟨i, rfl, hi⟩, q⟩ := h
  have le0 : Str.empty.length = 0 := by decide +kernel
  have le1 : ("not a position: " : Str).length = 16 := by decide +kernel
  refine ⟨a, [.int i], _, _, rfl, upd_same, pa_cons (pe_joined (.cons pe_str (.cons (pe_fmt (pv 1)) .nil))) pa_nil, pss_one (ps_ost (pv 0) (pv 1)), ?_⟩
  refine ⟨_, rfl, ?_, ?_⟩
  · (simp only [Str.length_append]; first | decide | (have hz := intS_len hi; rw [sizeLine_eq]; omega))
  refine ⟨_, rfl, .inr ⟨i, rfl, Nat.lt_of_lt_of_le hi (by decide), ?_⟩⟩
  refine ⟨_, rfl, ?_, ?_⟩
  · (simp only [Str.length_append]; first | decide | (have hz := intS_len hi; rw [sizeLine_eq]; omega))
  refine ⟨(by show 1 ≤ 1000; decide), upd_same, ?_⟩
  refine ⟨_, rfl, _, rfl, a, T.x_BadPosition.C, rfl, T.x_BadPosition.sup.oex, T.x_BadPosition.xn, .inl ⟨upd_same, fun dx h1 h2 => ?_⟩⟩
  rw [upd_ne h2] at h1
  exact q dx h1 h2
theorem bind_BadSide (T : Tx P K mg) : Binds K T.x_BadSide.fd ["self", "side"] [] := by
  obtain ⟨oc, od, kV, doc, pm, an, ct, osl, e, lk⟩ := T.x_BadSide.lk
  rw [e]
  exact .all fun us hl => match us, hl with | [_, _], _ => rfl
theorem init_BadSide (T : Tx P K mg) : FnOk P w K mg base L2.CX0 1 T.x_BadSide.fa T.x_BadSide.fd ["self", "side"] (spExc T.x_BadSide.C "side" IntS) := by
  obtain ⟨oc, od, kV, doc, pm, an, ct, osl, e, lk⟩ := T.x_BadSide.lk
  rw [e] at lk ⊢
  refine fn_exc lk T.x_BadSide.cod sc_BadSide_init T.x_BadSide.sup rfl rfl (fun vs H Q E h => ?_) (fun A outer s H vs Q E hr h => ?_)
  · obtain ⟨a, v, H0, rfl, _⟩ := h
    rfl
  obtain ⟨a, v, H0, rfl, ha, rfl, ⟨i, rfl, hi⟩, q⟩ := h
  have le0 : Str.empty.length = 0 := by decide +kernel
  have le1 : ("not a side here: " : Str).length = 17 := by decide +kernel
  refine ⟨a, [.int i], _, _, rfl, upd_same, pa_cons (pe_joined (.cons pe_str (.cons (pe_fmtR (pv 1)) .nil))) pa_nil, pss_one (ps_ost (pv 0) (pv 1)), ?_⟩
  refine ⟨_, rfl, ?_, ?_⟩
  · (simp only [Str.length_append]; first | decide | (have hz := intS_len hi; rw [sizeLine_eq]; omega))
  refine ⟨_, rfl, .inr ⟨i, rfl, Nat.lt_of_lt_of_le hi (by decide), ?_⟩⟩
  refine ⟨_, rfl, ?_, ?_⟩
  · (simp only [Str.length_append]; first | decide | (have hz := intS_len hi; rw [sizeLine_eq]; omega))
  refine ⟨(by show 1 ≤ 1000; decide), upd_same, ?_⟩
  refine ⟨_, rfl, _, rfl, a, T.x_BadSide.C, rfl, T.x_BadSide.sup.oex, T.x_BadSide.xn, .inl ⟨upd_same, fun dx h1 h2 => ?_⟩⟩
  rw [upd_ne h2] at h1
  exact q dx h1 h2
end
section
variable {P : Program} {w : World} {K : PySem.W.Frag} {mg : Str → Option Value} {base : Heap}
theorem ok_side_masks (T : Tx P K mg) (TB : TBs T base) : FnOk P w K mg base L2.CX0 1 T.a_side_masks T.d_side_masks ["parents"] (spMasks K) := by
  refine T.F_side_masks.ok sc_side_masks (fun vs H Q E h => ?_) (fun cdv A outer s H vs Q E hr h => ?_)
  · obtain ⟨t, ps, rfl, _⟩ := h
    rfl
  · obtain ⟨t, ps, rfl, ht, ok, sm, q⟩ := h
    have hl : (nvs ps).length = ps.length := nvs_len ps
    refine ⟨_, (pss_cons (ps_set (i := 1) sc_side_masks.nd rfl (Or.inl rfl) (pe_op op_add (pe_callB (id := "len") call_len_seq (by rfl) T.z_len (by decide +kernel) (pa_cons (pv 0) pa_nil)) pe_int))
          (pss_cons (ps_setLc (i := 2) (own := [("position", 6)]) (g := gName 6) (tt := tYes) rfl sc_side_masks.nd rfl rfl (sw_true rfl rfl rfl (by decide +kernel)) (pi_range1 rfl T.z_range (pa_cons (pv 1) pa_nil)) (blkOk_by (N := ["parents", "count", "branches", "wall", "parent", "masks", "position"]) (sc := defScope s_side_masks) (by decide +kernel)) (fun _ _ _ _ _ => (pg_name (i := 6) sc_side_masks.nd rfl (Or.inl rfl))) (fun _ _ _ _ _ => pts_nil) (fun _ _ _ _ _ => (pe_op op_shl pe_int (pv 6))))
          (pss_cons (ps_for PassesOwn.never rfl (pi_range3 rfl T.z_range (pa_cons (pe_op op_sub (pv 1) pe_int) (pa_cons pe_int (pa_cons (pe_un un_neg pe_int) pa_nil)))) (pg_name (i := 3) sc_side_masks.nd rfl (Or.inl rfl))
          (pss_cons (ps_set (i := 4) sc_side_masks.nd rfl (Or.inl rfl) (pe_ix ix_tup (pv 0) (pe_op op_sub (pv 3) pe_int) (fun _ _ => rfl)))
          (pss_one (ps_asg (pe_op op_or (pe_ix ix_list (pv 2) (pv 4) (fun _ _ => rfl)) (pe_ix ix_list (pv 2) (pv 3) (fun _ _ => rfl))) (pg_sub (pv 2) (pv 4) set_list)))))
          (pss_cons (ps_set (i := 5) sc_side_masks.nd rfl (Or.inl rfl) pe_dnewK)
          (pss_cons (ps_for PassesOwn.never rfl (pi_range2 rfl T.z_range (pa_cons pe_int (pa_cons (pv 1) pa_nil))) (pg_name (i := 3) sc_side_masks.nd rfl (Or.inl rfl))
          (pss_cons (ps_dput (hu_of hr) (pv 5) (pv 3) (pe_ix ix_list (pv 2) (pv 3) (fun _ _ => rfl)) rfl)
          (pss_one (ps_dput (hu_of hr) (pv 5) (pe_un un_neg (pv 3)) (pe_op op_sub (pe_ix ix_list (pv 2) pe_int (fun _ _ => rfl)) (pe_ix ix_list (pv 2) (pv 3) (fun _ _ => rfl))) rfl))))
          (pss_one (ps_ret (pv 5)))))))), ?_⟩
    refine ⟨_, rfl, t, _, rfl, .inr ht, _, _, rfl, rfl, ?_⟩
    refine ⟨_, rfl, _, rfl, by omega, by omega, fun D hD => ?_⟩
    have en : ((((nvs ps).length : Nat) : Int) + 1).toNat = ps.length + 1 := by omega
    rw [en]
    refine lc_range (fun i H' => H' = upd H D (.lst (nvs ((List.range i).map (2 ^ ·))))) rfl ?_ ?_
    · rintro i _ hi rfl
      refine ⟨rfl, ?_⟩
      refine ⟨_, rfl, _, _, rfl, rfl, ⟨by omega, by omega, by decide⟩, _, upd_same, size_lt (by rw [nvs_len, List.length_map, List.length_range]; omega), ?_⟩
      rw [upd_upd, List.range_succ, List.map_append, List.map_cons, List.map_nil, ← nvs_snoc]
      have e : (1 : Int) * 2 ^ (0 + (i : Int)).toNat = ((2 ^ i : Nat) : Int) := by
        rw [show (0 + (i : Int)).toNat = i by omega]
        norm_cast
        omega
      dsimp only
      rw [e]
    · rintro _ rfl
      have b1 : ∀ b, b ≤ ps.length → ∃ m, ((List.range (ps.length + 1)).map (2 ^ ·))[b]? = some m ∧ Tr.Bits ps ps.length (ps.length - 0) b m := fun b hb =>
        ⟨2 ^ b, by rw [List.getElem?_map, List.getElem?_range (by omega)]; rfl, Tr.bits_start hb⟩
      have b0 : ((List.range (ps.length + 1)).map (2 ^ ·)).length = ps.length + 1 := by rw [List.length_map, List.length_range]
      generalize (List.range (ps.length + 1)).map (2 ^ ·) = bs0 at b0 b1 ⊢
      have tt : ∀ x, SqT K (upd H D x) t (nvs ps) := fun x => SqT_same (same_new hD) ht
      refine ⟨_, rfl, _, _, rfl, rfl, _, rfl, _, _, _, _, rfl, RgC.neg (by omega) (by omega) (by decide) (by decide), for_rangeC (fun i σ H' => ∃ (bs : List Nat) (a b : Option V), σ = [some (.ref t), some (.int (((nvs ps).length : Nat) + 1)), some (.ref D), a, b, none, none] ∧ H' = upd H D (.lst (nvs bs)) ∧ bs.length = ps.length + 1 ∧ ∀ b, b ≤ ps.length → ∃ m, bs[b]? = some m ∧ Tr.Bits ps ps.length (ps.length - i) b m)
        ⟨bs0, none, none, rfl, rfl, b0, b1⟩ ?_ ?_⟩
      · rintro i _ _ hi ⟨bs, a, b, rfl, rfl, hb0, hb⟩
        have hi' : i < ps.length := by omega
        obtain ⟨j, hj⟩ : ∃ j, ps.length - i = j + 1 := ⟨ps.length - i - 1, by omega⟩
        have pe := Tr.par_eq ok (p := j + 1) (by omega) (by omega)
        have pl := Tr.par_lt ps (p := j + 1) (by omega)
        obtain ⟨mw, w1, w2⟩ := hb (j + 1) (by omega)
        obtain ⟨mp, p1, p2⟩ := hb (Tr.par ps (j + 1)) (by omega)
        rw [hj] at w2 p2
        refine ⟨_, rfl, _, rfl, _, _, rfl, rfl, t, _, _, _, rfl, rfl, tt _, at_of (j := j) (by omega) (nvs_get pe), ?_⟩
        refine ⟨_, rfl, _, rfl, D, _, _, _, rfl, rfl, SqL.of upd_same, at_of (j := Tr.par ps (j + 1)) rfl (nvs_get p1), _, rfl, _, rfl, D, _, _, _, rfl, rfl, SqL.of upd_same, at_of (j := j + 1) (by omega) (nvs_get w1), _, _, rfl, rfl, ?_⟩
        refine ⟨_, rfl, _, rfl, D, _, _, _, rfl, rfl, upd_same, ixN_nat (by rw [nvs_len]; omega), ?_⟩
        have eo : Builtin.bitOr ((mp : Nat) : Int) ((mw : Nat) : Int) = ((mp ||| mw : Nat) : Int) := by
          have z := L2.bitOr_nn (x := (mp : Int)) (y := (mw : Int)) (by omega) (by omega)
          rw [z, Int.toNat_natCast, Int.toNat_natCast]
        refine ⟨bs.set (Tr.par ps (j + 1)) (mp ||| mw), _, _, rfl, ?_, by rw [List.length_set]; exact hb0, fun c hc => ?_⟩
        · dsimp only
          rw [upd_upd, eo, nvs_set]
        · have ej : ps.length - (i + 1) = j := by omega
          rw [ej]
          by_cases e : Tr.par ps (j + 1) = c
          · subst e
            exact ⟨_, List.getElem?_set_self (by omega), Tr.bits_or p2 w2⟩
          · obtain ⟨m, m1, m2⟩ := hb c hc
            rw [hj] at m2
            exact ⟨m, by rw [List.getElem?_set_ne e]; exact m1, Tr.bits_keep m2 e⟩
      · rintro _ _ ⟨bs, a, b, rfl, rfl, hb0, hb⟩
        have ez : ps.length - ((((nvs ps).length : Nat) : Int) + 1 - 1 - 0).toNat = 0 := by omega
        rw [ez] at hb
        obtain ⟨m0, z1, z2⟩ := hb 0 (by omega)
        intro d hd
        have hDd : D ≠ d := ne_of_none upd_same hd
        have hd0 : H d = Option.none := by
          rw [upd_ne hDd.symm] at hd
          exact hd
        have hDl : ∀ x, (upd (upd H D (.lst (nvs bs))) d x) D = some (.lst (nvs bs)) := fun x => by rw [upd_ne hDd, upd_same]
        refine ⟨_, rfl, _, _, rfl, ⟨by decide, by decide, by omega, by omega⟩, for_range (fun i σ H' => ∃ (kvs : List (Key × V)) (a : Option V), σ = [some (.ref t), some (.int (((nvs ps).length : Nat) + 1)), some (.ref D), a, b, some (.ref d), none] ∧ H' = upd (upd H D (.lst (nvs bs))) d (.dK kvs) ∧ kvs.length ≤ 2 * i ∧
          ∀ w, 1 ≤ w → w ≤ i → ∃ m m' : Nat, valV kvs (.inl (w : Int)) = some (.int m) ∧ valV kvs (.inl (-(w : Int))) = some (.int m') ∧ (∀ p, p ≤ ps.length → m.testBit p = Tr.has ps p w ∧ m'.testBit p = !Tr.has ps p w) ∧ m < 2 ^ (ps.length + 1) ∧ m' < 2 ^ (ps.length + 1))
          ⟨[], a, rfl, rfl, by simp, fun w h1 h2 => by omega⟩ ?_ ?_⟩
        · rintro i _ _ hi ⟨kvs, a, rfl, rfl, hk, hv⟩
          have hi' : i < ps.length := by omega
          obtain ⟨mw, w1, w2⟩ := hb (i + 1) (by omega)
          refine ⟨_, rfl, _, rfl, D, _, _, _, rfl, rfl, SqL.of (hDl _), at_of (j := i + 1) (by omega) (nvs_get w1), _, rfl, _, rfl, d, _, rfl, DPut.k (k := Sum.inl (1 + (i : Int))) upd_same (size_lt (by omega)), ?_⟩
          have hk2 := putK_len kvs (Sum.inl (1 + (i : Int))) (V.int (mw : Int))
          refine ⟨_, rfl, D, _, _, _, rfl, rfl, SqL.of (by rw [upd_upd]; exact hDl _), at_of (j := 0) rfl (nvs_get z1), _, rfl, _, rfl, D, _, _, _, rfl, rfl, SqL.of (by rw [upd_upd]; exact hDl _), at_of (j := i + 1) (by omega) (nvs_get w1), _, _, rfl, rfl, _, rfl, _, rfl, _, rfl, d, _, rfl, DPut.k (k := Sum.inl (-(1 + (i : Int)))) upd_same (size_lt (by omega)), ?_⟩
          have ml := Tr.mask_le w2 z2
          have ed : ((m0 : Nat) : Int) - ((mw : Nat) : Int) = ((m0 - mw : Nat) : Int) := by omega
          refine ⟨_, _, rfl, by rw [upd_upd, upd_upd], ?_, fun w h1 h2 => ?_⟩
          · have := putK_len (putK kvs (Sum.inl (1 + (i : Int))) (V.int (mw : Int))) (Sum.inl (-(1 + (i : Int)))) (V.int (((m0 : Nat) : Int) - ((mw : Nat) : Int)))
            dsimp only
            omega
          · rw [valV_put, valV_put, valV_put, valV_put]
            by_cases e : w = i + 1
            · subst e
              refine ⟨mw, m0 - mw, ?_, ?_, fun p hp => ⟨Tr.mask_pos h1 hp (show Tr.Bits ps ps.length 0 (i + 1) mw from w2), Tr.mask_neg h1 hp w2 z2⟩, Tr.bits_lt w2, Nat.lt_of_le_of_lt (Nat.sub_le _ _) (Tr.bits_lt z2)⟩
              · rw [if_neg (kv_ne (by omega)), if_pos (by rw [show ((i + 1 : Nat) : Int) = 1 + (i : Int) by omega])]
              · rw [if_pos (by rw [show ((i + 1 : Nat) : Int) = 1 + (i : Int) by omega])]
                dsimp only
                rw [ed]
            · obtain ⟨m, m', v1, v2, v3⟩ := hv w h1 (by omega)
              refine ⟨m, m', ?_, ?_, v3⟩
              · rw [if_neg (kv_ne (by omega)), if_neg (kv_ne (by omega))]
                exact v1
              · rw [if_neg (kv_ne (by omega)), if_neg (kv_ne (by omega))]
                exact v2
        · rintro _ _ ⟨kvs, a, rfl, rfl, hk, hv⟩
          refine ⟨_, rfl, q d kvs _ ((same_new hD).trans (same_new hd)) hd0 upd_same fun w h1 h2 => hv w h1 (by omega)⟩
theorem ok_is_number_of_side (T : Tx P K mg) (TB : TBs T base) : FnOk P w K mg base L2.CX0 1 T.a_is_number_of_side T.d_is_number_of_side ["shape", "number"] (spIsNum K T.C_Shape) := by
  refine T.F_is_number_of_side.ok sc_is_number_of_side (fun vs H Q E h => ?_) (fun cdv A outer s H vs Q E hr h => ?_)
  · obtain ⟨s, ps, p, rfl, _⟩ := h
    rfl
  · obtain ⟨s, ps, k, rfl, S, q⟩ := h
    obtain ⟨dx, t, d, kvs, hs, ht, hd, hM⟩ := S.at_
    have cS := T.cl_Shape
    have nP := T.n_Shape_parents
    have nZ := T.n_Shape_size
    have nM := T.n_Shape_masks
    refine ⟨_, (pss_one (ps_ret (pe_and (pe_cmpR op_ne (pv 1) pe_int (nomark _)) (pe_one (pe_chain op_le op_le (pe_un un_neg (pe_fld (pv 0) rfl)) (pv 1) (pe_fld (pv 0) rfl)))))), ?_⟩
    walk_at "rd"
    refine ite2 (fun h0 => ?_) (fun h0 => ?_)
    · walk_at "rd"
      refine ite2 (fun h1 => ?_) (fun h1 => ?_)
      · walk_at "rd"
        refine is_num q ?_
        simp at h0 h1 ⊢
        unfold IsSide
        omega
      · refine is_num q ?_
        simp at h0 h1 ⊢
        unfold IsSide
        omega
    · refine is_num q ?_
      simp at h0 ⊢
      unfold IsSide
      omega
theorem ok_check_position (T : Tx P K mg) (TB : TBs T base) : FnOk P w K mg base (L2N.CX P w) 3 T.a_check_position T.d_check_position ["shape", "position"] (spChkPos K T.C_Shape T.x_BadPosition.C) := by
  refine EP.Fun.okXN T.F_check_position sc_check_position (fun vs H Q E h => ?_) (fun cdv A outer s H vs Q E hr h => ?_)
  · obtain ⟨s, ps, p, rfl, _⟩ := h
    rfl
  · obtain ⟨s, ps, p, rfl, S, q1, q2⟩ := h
    obtain ⟨dx, t, d, kvs, hs, ht, hd, hM⟩ := S.at_
    have cS := T.cl_Shape
    have nP := T.n_Shape_parents
    have nZ := T.n_Shape_size
    have nM := T.n_Shape_masks
    refine ⟨_, (pss_one (ps_if (pt_not (pt_chain op_le op_le pe_int (pv 1) (pe_fld (pv 0) rfl)))
          (pss_one (L2N.ps_raise rfl (L2N.takes_of rfl rfl rfl rfl) (pmk_oexN T.x_BadPosition.sup.oex T.x_BadPosition.iC T.x_BadPosition.tI (init_BadPosition T) (hr.mono (by decide)) (bind_BadPosition T) .nil pass0 rfl T.x_BadPosition.mgX (pa_cons (pv 1) pa_nil))))
          pss_nil)), ?_⟩
    walk_at "rd"
    refine ite2 (fun h0 => ?_) (fun h0 => ?_)
    · walk_at "rd"
      refine notIte (fun e => q1 ⟨of_decide_eq_true h0, of_decide_eq_true e⟩) (fun e => ?_)
      obtain ⟨sm, q2⟩ := q2 fun z => of_decide_eq_false e z.2
      exact ⟨_, rfl, mkO_intro sm.ok q2⟩
    · walk_at "rd"
      obtain ⟨sm, q2⟩ := q2 fun z => h0 (decide_eq_true z.1)
      exact mkO_intro sm.ok q2
theorem ok_check_side (T : Tx P K mg) (TB : TBs T base) : FnOk P w K mg base (L2N.CX P w) 3 T.a_check_side T.d_check_side ["shape", "side"] (spChkSide K T.C_Shape T.x_BadSide.C) := by
  have G_is_number_of_side := ok_is_number_of_side (P := P) (w := w) (base := base) T TB
  refine EP.Fun.okXN T.F_check_side sc_check_side (fun vs H Q E h => ?_) (fun cdv A outer s H vs Q E hr h => ?_)
  · obtain ⟨s, ps, p, rfl, _⟩ := h
    rfl
  · obtain ⟨s, ps, k, rfl, S, q1, q2⟩ := h
    refine ⟨_, (pss_one (ps_if (pt_not (pt_val (pe_call G_is_number_of_side (hr.mono (by decide)) rfl T.g_is_number_of_side T.F_is_number_of_side.kp T.B_is_number_of_side .nil pass0 (pa_cons (pv 0) (pa_cons (pv 1) pa_nil)))))
          (pss_one (L2N.ps_raise rfl (L2N.takes_of rfl rfl rfl rfl) (pmk_oexN T.x_BadSide.sup.oex T.x_BadSide.iC T.x_BadSide.tI (init_BadSide T) (hr.mono (by decide)) (bind_BadSide T) .nil pass0 rfl T.x_BadSide.mgX (pa_cons (pv 1) pa_nil))))
          pss_nil)), ?_⟩
    refine ⟨_, rfl, _, rfl, s, ps, k, rfl, S, _, rfl, ?_⟩
    by_cases c : IsSide ps.length k
    · rw [decide_eq_true c]
      exact iteF (q1 c)
    · rw [decide_eq_false c]
      refine iteT ?_
      obtain ⟨sm, q2⟩ := q2 c
      refine ⟨_, rfl, mkO_intro sm.ok q2⟩
theorem ok_Shape_init (T : Tx P K mg) (TB : TBs T base) : FnOk P w K mg base (L2N.CX P w) 3 T.a_Shape_init T.d_Shape_init ["self", "parents"] (spShape K T.C_Shape T.x_BadShape.C) := by
  have G_side_masks := ok_side_masks (P := P) (w := w) (base := base) T TB
  refine EP.Fun.okXN T.F_Shape_init sc_Shape_init (fun vs H Q E h => ?_) (fun cdv A outer s H vs Q E hr h => ?_)
  · obtain ⟨s, dx, l, ns, rfl, _⟩ := h
    rfl
  · obtain ⟨s, dx, l, ns, rfl, hs, hl, sm, good, bad, emp⟩ := h
    have len : (ns.map V.int).length = ns.length := List.length_map ..
    refine ⟨_, (pss_cons (ps_for (passes_of rfl) rfl (pi_enumS rfl T.z_enumerate (pa_cons (pv 1) pa_nil)) (pg_tup rfl (pgs_cons (pg_name (i := 2) sc_Shape_init.nd rfl (Or.inl rfl)) (pgs_cons (pg_name (i := 3) sc_Shape_init.nd rfl (Or.inl rfl)) pgs_nil)))
          (pss_one (ps_if (pt_not (pt_chain op_le op_le pe_int (pv 3) (pv 2)))
          (pss_one (L2N.ps_raise rfl (L2N.takes_of rfl rfl rfl rfl) (pmk_oexN T.x_BadShape.sup.oex T.x_BadShape.iC T.x_BadShape.tI (init_BadShape T) (hr.mono (by decide)) (bind_BadShape T) .nil pass0 rfl T.x_BadShape.mgX (pa_cons (pv 2) pa_nil))))
          pss_nil)))
          (pss_cons (ps_if (pt_cmpR op_eq (pe_callB (id := "len") call_len_seq (by rfl) T.z_len (by decide +kernel) (pa_cons (pv 1) pa_nil)) pe_int (nomark _))
          (pss_one (L2N.ps_raise rfl (L2N.takes_of rfl rfl rfl rfl) (pmk_oexN T.x_BadShape.sup.oex T.x_BadShape.iC T.x_BadShape.tI (init_BadShape T) (hr.mono (by decide)) (bind_BadShape T) .nil pass0 rfl T.x_BadShape.mgX (pa_cons pe_int pa_nil))))
          pss_nil)
          (pss_cons (ps_fld (pv 0) (pe_callTy (T := "tuple") call_tuple_of (by rfl) T.z_tuple (by decide +kernel) (pa_cons (pv 1) pa_nil)) rfl)
          (pss_cons (ps_fld (pv 0) (pe_callB (id := "len") call_len_seq (by rfl) T.z_len (by decide +kernel) (pa_cons (pe_fld (pv 0) rfl) pa_nil)) rfl)
          (pss_one (ps_fld (pv 0) (pe_call G_side_masks (hr.mono (by decide)) rfl T.g_side_masks T.F_side_masks.kp T.B_side_masks .nil pass0 (pa_cons (pe_fld (pv 0) rfl) pa_nil)) rfl)))))), ?_⟩
    refine ⟨_, rfl, l, _, rfl, for_enumS hl (fun i σ H' => ∃ (a b : Option V), σ = [some (.ref s), some (.ref l), a, b] ∧ Same H H' ∧ ∀ j, j < i → ¬ Wrong ns j) ⟨none, none, rfl, Same.refl _, fun j hj => absurd hj (Nat.not_lt_zero _)⟩ (fun i σ H' _ ⟨_, _, _, sa, _⟩ => sa) ?_ ?_⟩
    · rintro i x t _ H1 hx ⟨a, b, rfl, sa, nw⟩ ht
      obtain ⟨p, hp, rfl⟩ : ∃ p, ns[i]? = some p ∧ x = V.int p := by
        rw [List.getElem?_map] at hx
        cases e : ns[i]? with
        | none => rw [e] at hx; cases hx
        | some p => rw [e] at hx; exact ⟨p, rfl, (Option.some.inj hx).symm⟩
      have hi : i < ns.length := (List.getElem?_eq_some_iff.mp hp).1
      have sb : Same H (upd H1 t (.tup [.int (i : Nat), .int p])) := sa.trans (same_new ht)
      have raise : ¬ (0 ≤ p ∧ p ≤ (i : Int)) → ∀ d, (upd H1 t (.tup [.int (i : Nat), .int p])) d = none → E (.ref T.x_BadShape.C) (some d) (upd (upd H1 t (.tup [.int (i : Nat), .int p])) d (.xd [("place", .int (i : Nat))])) := fun c d hd =>
        bad i ⟨p, hp, c⟩ nw d _ (sb.trans (same_new hd)) (sb.free hd) upd_same
      have iS : IntS (.int ((i : Nat) : Int)) (upd H1 t (.tup [.int (i : Nat), .int p])) := Small.ok (by unfold Small; omega)
      refine ⟨t, _, rfl, SqT.of upd_same, rfl, _, _, rfl, _, _, rfl, rfl, ?_⟩
      refine ⟨_, rfl, _, _, rfl, rfl, _, rfl, ?_⟩
      refine ite2 (fun h0 => ?_) (fun h0 => ?_)
      · refine ⟨_, rfl, _, _, rfl, rfl, _, rfl, ?_⟩
        refine notIte (fun e => ?_) (fun e => ?_)
        · refine ⟨_, _, rfl, sb, fun j hj => ?_⟩
          by_cases c : j < i
          · exact nw j c
          · obtain rfl : j = i := by omega
            rintro ⟨p', hp', c'⟩
            rw [hp] at hp'
            cases hp'
            exact c' ⟨of_decide_eq_true h0, of_decide_eq_true e⟩
        · exact ⟨_, rfl, mkO_intro iS (raise fun z => of_decide_eq_false e z.2)⟩
      · refine ⟨_, rfl, ?_⟩
        exact ⟨_, rfl, mkO_intro iS (raise fun z => h0 (decide_eq_true z.1))⟩
    · rintro _ H1 ⟨a, b, rfl, sa, nw⟩
      have hl1 : SqL K H1 l (ns.map V.int) ∨ SqT K H1 l (ns.map V.int) := hl.imp sa.seq (SqT_same sa)
      refine ⟨_, rfl, l, _, rfl, hl1, rfl, _, rfl, ?_⟩
      refine ite2 (fun h0 => ?_) (fun h0 => ?_)
      · have e : ns = [] := by
          have := of_decide_eq_true h0
          have z : ((ns.map V.int).length : Int) = 0 := V.int.inj this
          exact List.eq_nil_of_length_eq_zero (by omega)
        exact mkO_intro (Small.ok (by unfold Small; decide)) (fun d hd => emp e d _ (sa.trans (same_new hd)) (sa.free hd) upd_same)
      · have hne : ns.length ≠ 0 := fun z => h0 (decide_eq_true (by rw [len, z]; rfl))
        obtain ⟨ps, e1, e2, ok⟩ := ns_nat fun j => by
          by_cases c : j < (ns.map V.int).length
          · exact nw j c
          · rintro ⟨p, hp, _⟩
            have := (List.getElem?_eq_some_iff.mp hp).1
            omega
        rw [e1] at hl1
        have hs1 := sa _ _ hs
        refine ⟨_, rfl, l, nvs ps, rfl, ?_⟩
        rcases hl1 with hl1 | hl1
        · refine .inl ⟨hl1, fun t ht0 => ?_⟩
          have s12 : Same H1 (upd H1 t (.tup (nvs ps))) := same_new ht0
          have ht : SqT K (upd H1 t (.tup (nvs ps))) t (nvs ps) := SqT.of upd_same
          have hs2 := s12 _ _ hs1
          refine ⟨_, rfl, s, T.C_Shape, dx, _, rfl, hs2, T.cl_Shape, T.n_Shape_parents, (by decide), ?_⟩
          have ht2 : ∀ o, SqT K (upd (upd H1 t (.tup (nvs ps))) s o) t (nvs ps) := fun o => SqT_ins hs2 ht
          refine ⟨_, rfl, s, T.C_Shape, dx, _, _, rfl, upd_same, T.cl_Shape, T.n_Shape_parents, put_parents, t, _, rfl, .inr (ht2 _), _, rfl, s, T.C_Shape, dx, _, rfl, upd_same, T.cl_Shape, T.n_Shape_size, put_l1, ?_⟩
          rw [upd_upd]
          refine ⟨_, rfl, s, T.C_Shape, dx, _, _, rfl, upd_same, T.cl_Shape, T.n_Shape_parents, put_parents2, t, ps, rfl, ht2 _, ok, by omega, fun d kvs H3 same hd hd2 mk => ?_⟩
          have hs3 := same _ _ upd_same
          have nsd : s ≠ d := ne_of_none upd_same hd
          refine ⟨_, rfl, s, T.C_Shape, dx, _, rfl, hs3, T.cl_Shape, T.n_Shape_masks, put_l2, ?_⟩
          refine good ps _ e1 ok (by omega) ?_ ?_
          · exact ((But.of_same (sa.trans s12)).trans (But.set.trans (But.of_same same))).trans But.set
          · have e3 : (nvs ps).length = ps.length := nvs_len ps
            rw [e3, put_shf]
            exact ⟨ok, by omega, by omega, dx, t, d, kvs, upd_same, SqT_ins hs3 (SqT_same same (ht2 _)), by rw [upd_ne nsd.symm]; exact hd2, mk⟩
        · refine .inr ⟨hl1, ?_⟩
          have s12 : Same H1 H1 := Same.refl _
          have ht : SqT K H1 l (nvs ps) := hl1
          have hs2 := s12 _ _ hs1
          refine ⟨_, rfl, s, T.C_Shape, dx, _, rfl, hs2, T.cl_Shape, T.n_Shape_parents, (by decide), ?_⟩
          have ht2 : ∀ o, SqT K (upd H1 s o) l (nvs ps) := fun o => SqT_ins hs2 ht
          refine ⟨_, rfl, s, T.C_Shape, dx, _, _, rfl, upd_same, T.cl_Shape, T.n_Shape_parents, put_parents, l, _, rfl, .inr (ht2 _), _, rfl, s, T.C_Shape, dx, _, rfl, upd_same, T.cl_Shape, T.n_Shape_size, put_l1, ?_⟩
          rw [upd_upd]
          refine ⟨_, rfl, s, T.C_Shape, dx, _, _, rfl, upd_same, T.cl_Shape, T.n_Shape_parents, put_parents2, l, ps, rfl, ht2 _, ok, by omega, fun d kvs H3 same hd hd2 mk => ?_⟩
          have hs3 := same _ _ upd_same
          have nsd : s ≠ d := ne_of_none upd_same hd
          refine ⟨_, rfl, s, T.C_Shape, dx, _, rfl, hs3, T.cl_Shape, T.n_Shape_masks, put_l2, ?_⟩
          refine good ps _ e1 ok (by omega) ?_ ?_
          · exact ((But.of_same (sa.trans s12)).trans (But.set.trans (But.of_same same))).trans But.set
          · have e3 : (nvs ps).length = ps.length := nvs_len ps
            rw [e3, put_shf]
            exact ⟨ok, by omega, by omega, dx, l, d, kvs, upd_same, SqT_ins hs3 (SqT_same same (ht2 _)), by rw [upd_ne nsd.symm]; exact hd2, mk⟩
theorem ok_fault_in (T : Tx P K mg) (TB : TBs T base) : FnOk P w K mg base L2.CX0 1 T.a_fault_in T.d_fault_in ["numbers", "least", "count"] (spFault K) := by
  refine T.F_fault_in.ok sc_fault_in (fun vs H Q E h => ?_) (fun cdv A outer s H vs Q E hr h => ?_)
  · obtain ⟨l, ns, m, n, rfl, _⟩ := h
    rfl
  · obtain ⟨l, ns, m, n, rfl, hl, sm, bad, good⟩ := h
    have len : (ns.map V.int).length = ns.length := List.length_map ..
    refine ⟨_, (pss_cons (ps_for PassesOwn.never rfl (pi_enumS rfl T.z_enumerate (pa_cons (pv 0) pa_nil)) (pg_tup rfl (pgs_cons (pg_name (i := 3) sc_fault_in.nd rfl (Or.inl rfl)) (pgs_cons (pg_name (i := 4) sc_fault_in.nd rfl (Or.inl rfl)) pgs_nil)))
          (pss_one (ps_if (pt_cmpR op_lt (pv 4) (pv 1) (nomark _))
          (pss_one (ps_ret (pv 3)))
          pss_nil)))
          (pss_one (ps_ret (pe_ifExp (pt_cmpR op_eq (pe_callB (id := "len") call_len_seq (by rfl) T.z_len (by decide +kernel) (pa_cons (pv 0) pa_nil)) (pv 2) (nomark _)) pe_non (pe_callB (id := "len") call_len_seq (by rfl) T.z_len (by decide +kernel) (pa_cons (pv 0) pa_nil)))))), ?_⟩
    refine ⟨_, rfl, l, _, rfl, for_enumS hl (fun i σ H' => ∃ a b : Option V, σ = [some (.ref l), some (.int m), some (.int (n : Int)), a, b] ∧ Same H H' ∧ ∀ j p, j < i → ns[j]? = some p → m ≤ p) ⟨none, none, rfl, Same.refl _, fun j p hj => absurd hj (Nat.not_lt_zero _)⟩ (fun i σ H' _ ⟨_, _, _, sa, _⟩ => sa) ?_ ?_⟩
    · rintro i x t _ H1 hx ⟨a, b, rfl, sa, nw⟩ ht
      obtain ⟨p, hp, rfl⟩ := ns_get hx
      have sb : Same H (upd H1 t (.tup [.int (i : Nat), .int p])) := sa.trans (same_new ht)
      refine ⟨t, _, rfl, SqT.of upd_same, rfl, _, _, rfl, _, _, rfl, rfl, ?_⟩
      refine ⟨_, rfl, _, rfl, _, _, rfl, rfl, _, rfl, ?_⟩
      refine boolIte (fun h0 => ⟨_, rfl, ?_⟩) (fun h0 => ?_)
      · exact bad _ _ (.inl ⟨i, rfl, ⟨p, hp, of_decide_eq_true h0⟩, nw⟩) sb
      · refine ⟨_, _, rfl, sb, fun j q hj hq => ?_⟩
        by_cases c : j < i
        · exact nw j q c hq
        · obtain rfl : j = i := by omega
          rw [hp] at hq
          cases hq
          have := of_decide_eq_false h0
          omega
    rintro _ H1 ⟨a, b, rfl, sa, nw⟩
    rw [len] at nw
    have al : ∀ v, v ∈ ns → m ≤ v := fun v hv => by
      obtain ⟨j, hj⟩ := List.getElem?_of_mem hv
      exact nw j v (List.getElem?_eq_some_iff.mp hj).1 hj
    have hl1 := SqE_same sa hl
    refine ⟨_, rfl, l, _, rfl, hl1, _, rfl, rfl, _, rfl, ?_⟩
    refine boolIte (fun h0 => ?_) (fun h0 => ?_)
    · have := V.int.inj (of_decide_eq_true h0)
      exact good ⟨al, by omega⟩ _ sa
    · refine ⟨_, rfl, l, _, rfl, hl1, ?_⟩
      have := of_decide_eq_false h0
      exact bad _ _ (.inr ⟨al, by rw [len], fun e => this (by rw [len, e])⟩) sa
theorem ok_Tunnels_parent (T : Tx P K mg) (TB : TBs T base) : FnOk P w K mg base L2.CX0 1 T.a_Tunnels_parent T.d_Tunnels_parent ["self", "wall"] (spParent K T.C_Tunnels T.C_Shape) := by
  refine T.F_Tunnels_parent.ok sc_Tunnels_parent (fun vs H Q E h => ?_) (fun cdv A outer s H vs Q E hr h => ?_)
  · obtain ⟨s, ps, ls, k, rfl, _⟩ := h
    rfl
  · obtain ⟨s, ps, ls, k, rfl, S, k1, k2, q⟩ := h
    obtain ⟨dx, sh, t, h1, h2, h3, h4, h5⟩ := S
    obtain ⟨dx', tp, d, kvs, hs, ht, hd, hM⟩ := h2.at_
    refine ⟨_, (pss_one (ps_ret (pe_ix ix_tup (pe_fld (pe_fld (pv 0) rfl) rfl) (pe_op op_sub (pv 1) pe_int) (fun _ _ => rfl)))), ?_⟩
    refine ⟨_, rfl, _, _, _, _, _, rfl, h1, T.cl_Tunnels, T.n_Tunnels_shape, (by first | rfl | kernel_rfl), _, _, _, _, _, rfl, hs, T.cl_Shape, T.n_Shape_parents, shf_parents, ?_⟩
    refine ⟨_, rfl, _, _, rfl, rfl, tp, _, _, _, rfl, rfl, ht, par_at h2.1 k1 k2 (by omega), q⟩
theorem ok_Tunnels_branching (T : Tx P K mg) (TB : TBs T base) : FnOk P w K mg base L2.CX0 2 T.a_Tunnels_branching T.d_Tunnels_branching ["self", "position"] (spBranching K T.C_Tunnels T.C_Shape) := by
  have G_Tunnels_parent := ok_Tunnels_parent (P := P) (w := w) (base := base) T TB
  refine T.F_Tunnels_branching.ok sc_Tunnels_branching (fun vs H Q E h => ?_) (fun cdv A outer s H vs Q E hr h => ?_)
  · obtain ⟨s, ps, ls, p, rfl, _⟩ := h
    rfl
  · obtain ⟨s, ps, ls, p, rfl, S, q⟩ := h
    have S0 := S
    have ss := S.ok.2.2
    obtain ⟨dx, sh, t, h1, h2, h3, h4, h5⟩ := S
    obtain ⟨dx', tp, d, kvs, hs, ht, hd, hM⟩ := h2.at_
    refine ⟨_, (pss_one (ps_ret (pe_lc (own := [("wall", 2)]) (g := gName 2) rfl sc_Tunnels_branching.nd (pi_range2 rfl T.z_range (pa_cons pe_int (pa_cons (pe_op op_add (pe_fld (pe_fld (pv 0) rfl) rfl) pe_int) pa_nil))) (blkOk_by (N := ["self", "position", "wall"]) (sc := defScope s_Tunnels_branching) (by decide +kernel)) (fun _ _ _ _ _ => (pg_name (i := 2) sc_Tunnels_branching.nd rfl (Or.inl rfl))) (fun _ _ _ _ _ => (pts_one (pt_cmpR op_eq (pe_meth (pv 0) T.cl_Tunnels T.m_Tunnels_parent G_Tunnels_parent hr T.B_Tunnels_parent .nil pass0 (pa_cons (pv 2) pa_nil)) (pv 1) (nomark _)))) (fun _ _ _ _ _ => (pv 2))))), ?_⟩
    refine ⟨_, rfl, _, _, _, _, _, rfl, h1, T.cl_Tunnels, T.n_Tunnels_shape, (by first | rfl | kernel_rfl), _, _, _, _, _, rfl, hs, T.cl_Shape, T.n_Shape_size, shf_size, ?_⟩
    refine ⟨_, _, rfl, rfl, _, _, rfl, ⟨by decide, by decide, by omega, by omega⟩, fun D hD => ?_⟩
    rw [show ((ps.length : Int) + 1 - 1).toNat = ps.length by omega]
    refine lc_range (lo := 1) (fun i H' => Same H H' ∧ H' D = some (.lst (nvs (Tn.lst i fun c => decide (Tr.par ps c = p))))) ⟨same_new hD, upd_same⟩ ?_ ?_
    · rintro i H1 hi ⟨sa, hD1⟩
      refine ⟨rfl, ?_⟩
      have li : (Tn.lst i fun c => decide (Tr.par ps c = p)).length ≤ i := by
        unfold Tn.lst
        exact Nat.le_trans (List.length_filter_le _ _) (by rw [List.length_map, List.length_range]; exact Nat.le_refl _)
      refine ⟨_, rfl, s, dx, _, rfl, sa _ _ h1, (by first | rfl | decide +kernel), ?_⟩
      refine ⟨_, rfl, s, ps, ls, i + 1, congrArg (fun z => [V.ref s, V.int z]) (by omega), S0.same sa, by omega, by omega, ?_⟩
      refine ⟨_, rfl, rfl, _, rfl, ?_⟩
      have eb : decide (V.int (Tr.par ps (i + 1) : Nat) = V.int (p : Nat)) = decide (Tr.par ps (i + 1) = p) := decide_eq_decide.mpr ⟨fun e => by have := V.int.inj e; omega, fun e => by rw [e]⟩
      rw [Tn.lst_succ]
      refine boolIte (fun hb => ?_) (fun hb => ?_)
      · rw [eb] at hb
        refine ⟨_, rfl, _, hD1, size_lt (by rw [nvs_len]; omega), same_mut sa hD, ?_⟩
        rw [upd_same, if_pos hb, ← nvs_snoc, show (1 : Int) + (i : Int) = ((i + 1 : Nat) : Int) by omega]
      · rw [eb] at hb
        refine ⟨sa, ?_⟩
        rw [hD1, if_neg (by rw [hb]; decide), List.append_nil]
    · rintro H1 ⟨sa, hD1⟩
      exact q D H1 sa hD hD1
theorem ok_Tunnels_check_tunnels (T : Tx P K mg) (TB : TBs T base) : FnOk P w K mg base (L2N.CX P w) 3 T.a_Tunnels_check_tunnels T.d_Tunnels_check_tunnels ["self", "walls"] (spChkTun K T.C_Tunnels T.C_Shape) := by
  refine EP.Fun.okXN T.F_Tunnels_check_tunnels sc_Tunnels_check_tunnels (fun vs H Q E h => ?_) (fun cdv A outer s H vs Q E hr h => ?_)
  · obtain ⟨s, l, ps, ls, L, rfl, _⟩ := h
    rfl
  · obtain ⟨s, l, ps, ls, L, rfl, S, hl, sL, al, q⟩ := h
    obtain ⟨dx, sh, t, h1, h2, h3, h4, h5⟩ := S
    obtain ⟨dx', tp, d, kvs, hs, ht, hd, hM⟩ := h2.at_
    refine ⟨_, (pss_one (ps_for (passes_of rfl) rfl (pi_list (pv 1)) (pg_name (i := 2) sc_Tunnels_check_tunnels.nd rfl (Or.inl rfl))
          (pss_one (ps_if (pt_not (pt_chain op_le op_le pe_int (pv 2) (pe_fld (pe_fld (pv 0) rfl) rfl)))
          (pss_one (L2N.ps_raise rfl (L2N.takes_of rfl rfl rfl rfl) (pmk_oexN T.x_BadSide.sup.oex T.x_BadSide.iC T.x_BadSide.tI (init_BadSide T) (hr.mono (by decide)) (bind_BadSide T) .nil pass0 rfl T.x_BadSide.mgX (pa_cons (pv 2) pa_nil))))
          pss_nil)))), ?_⟩
    refine ⟨_, rfl, l, rfl, ⟨_, hl⟩, for_list (K := K) (a := l) (xs := nvs L) (fun i σ H' => ∃ v : Option V, σ = [some (.ref s), some (.ref l), v] ∧ H' = H) ⟨none, rfl, rfl⟩ (fun i σ H' _ ⟨_, _, e⟩ => by rw [e]; exact hl) ?_ ?_⟩
    · rintro i x _ _ hx ⟨v, rfl, rfl⟩
      obtain ⟨k, hk, rfl⟩ := nvs_of hx
      obtain ⟨k1, k2⟩ := al k (List.mem_of_getElem? hk)
      refine ⟨_, rfl, _, _, rfl, rfl, _, rfl, ?_⟩
      refine ite2 (fun h0 => ?_) (fun h0 => absurd (decide_eq_true (by omega)) h0)
      refine ⟨_, rfl, _, _, _, _, _, rfl, h1, T.cl_Tunnels, T.n_Tunnels_shape, (by first | rfl | kernel_rfl), _, _, _, _, _, rfl, hs, T.cl_Shape, T.n_Shape_size, shf_size, ?_⟩
      refine ⟨_, _, rfl, rfl, _, rfl, ?_⟩
      exact notIte (fun e => ⟨_, rfl, rfl⟩) (fun e => absurd (of_decide_eq_false e) (by omega))
    · rintro _ _ ⟨v, rfl, rfl⟩
      exact q
theorem ok_Tunnels_total (T : Tx P K mg) (TB : TBs T base) : FnOk P w K mg base (L2N.CX P w) 4 T.a_Tunnels_total T.d_Tunnels_total ["self", "values", "walls"] (spTotalT K T.C_Tunnels T.C_Shape) := by
  have G_Tunnels_check_tunnels := ok_Tunnels_check_tunnels (P := P) (w := w) (base := base) T TB
  refine EP.Fun.okXN T.F_Tunnels_total sc_Tunnels_total (fun vs H Q E h => ?_) (fun cdv A outer s H vs Q E hr h => ?_)
  · obtain ⟨s, v, l, ps, ls, us, W, rfl, _⟩ := h
    rfl
  · obtain ⟨s, v, l, ps, ls, us, W, rfl, S, hv, lu, s60, hl, q⟩ := h
    have lW : (Tn.lst ps.length W).length ≤ ps.length := by
      unfold Tn.lst
      exact Nat.le_trans (List.length_filter_le _ _) (by rw [List.length_map, List.length_range]; exact Nat.le_refl _)
    have S0 := S
    obtain ⟨dx, sh, t, h1, h2, h3, h4, h5⟩ := S
    refine ⟨_, (pss_cons (ps_expr (pe_meth (pv 0) T.cl_Tunnels T.m_Tunnels_check_tunnels G_Tunnels_check_tunnels hr T.B_Tunnels_check_tunnels .nil pass_upN (pa_cons (pv 2) pa_nil)))
          (pss_one (ps_ret (pe_callB (id := "sum") (cr_sum rfl) (by rfl) T.z_sum (by decide +kernel) (pa_cons (pe_lc (own := [("wall", 3)]) (g := gName 3) (tt := tYes) rfl sc_Tunnels_total.nd (pi_list (pe_callB (id := "sorted") (cr_sortedSet rfl) (by rfl) T.z_sorted (by decide +kernel) (pa_cons (pe_callTy (T := "set") (cr_setE rfl) (by rfl) T.z_set (by decide +kernel) (pa_cons (pv 2) pa_nil)) pa_nil))) (blkOk_by (N := ["self", "values", "walls", "wall"]) (sc := defScope s_Tunnels_total) (by decide +kernel)) (fun _ _ _ _ _ => (pg_name (i := 3) sc_Tunnels_total.nd rfl (Or.inl rfl))) (fun _ _ _ _ _ => pts_nil) (fun _ _ _ _ _ => (pe_ix (EP.ix_seqK (K := K)) (pv 1) (pe_op op_sub (pv 3) pe_int) (fun _ _ => rfl)))) pa_nil))))), ?_⟩
    refine ⟨_, rfl, s, dx, _, rfl, h1, (by first | rfl | decide +kernel), _, rfl, s, l, ps, ls, Tn.lst ps.length W, rfl, S0, hl, by omega, fun k hk => let ⟨a, b, _⟩ := Tn.mem_lst.mp hk; ⟨a, b⟩, ?_⟩
    refine ⟨_, rfl, l, toI (Tn.lst ps.length W), rfl, .inl (by rw [← nvs_toI]; exact hl), by rw [toI_len]; omega, fun r c nr hc => ?_⟩
    rw [toI_len] at hc
    refine ⟨r, _, c, rfl, upd_same, by omega, fun N p inc mN lN np => ?_⟩
    obtain rfl : N = toI (Tn.lst ps.length W) := rising_is (lst_incr _ _) inc fun k => by rw [mN, decide_eq_true_iff]
    have s1 := (same_new (o := SetO w r (fun j => decide (j ∈ toI (Tn.lst ps.length W))) c) nr).trans (same_new (o := .lst ((toI (Tn.lst ps.length W)).map V.int)) np)
    have hp0 : (upd (upd H r (SetO w r (fun j => decide (j ∈ toI (Tn.lst ps.length W))) c)) p (.lst ((toI (Tn.lst ps.length W)).map V.int))) p = some (.lst (nvs (Tn.lst ps.length W))) := by rw [upd_same, nvs_toI]
    refine ⟨p, rfl, ⟨_, SqL.of upd_same⟩, fun D hD => ?_⟩
    have hD0 : H D = none := s1.free hD
    refine lc_list (K := K) (a := p) (xs := nvs (Tn.lst ps.length W)) (fun i H' => Same H H' ∧ H' p = some (.lst (nvs (Tn.lst ps.length W))) ∧ H' D = some (.lst ((((Tn.lst ps.length W).take i).map (vf us)).map V.int))) ⟨s1.trans (same_new hD), (same_new hD) p _ hp0, upd_same⟩ (fun i H' _ e => SqL.of e.2.1) ?_ ?_
    · rintro i x H2 hx ⟨s2, hp2, hD2⟩
      obtain ⟨k, hk, rfl⟩ := nvs_of hx
      have hi := (List.getElem?_eq_some_iff.mp hk).1
      obtain ⟨k1, k2, _⟩ := Tn.mem_lst.mp (List.mem_of_getElem? hk)
      refine ⟨rfl, ?_⟩
      refine ⟨_, rfl, _, rfl, _, _, rfl, rfl, v, _, _, _, rfl, rfl, SqE_same s2 hv, vf_at k1 (by omega) rfl, ?_⟩
      have pD : p ≠ D := ne_of_none hp0 hD
      refine ⟨_, hD2, size_lt (by rw [List.length_map, List.length_map, List.length_take]; omega), same_mut s2 hD0, by rw [upd_ne pD]; exact hp2, ?_⟩
      rw [upd_same, List.take_succ_eq_append_getElem hi, (List.getElem?_eq_some_iff.mp hk).2, List.map_append, List.map_append]
      rfl
    rintro H2 ⟨s2, hp2, hD2⟩
    rw [nvs_len, List.take_of_length_le (Nat.le_refl _)] at hD2
    refine ⟨D, _, rfl, SqL.of hD2, ?_⟩
    rw [Tn.sum_lst]
    exact q _ s2
theorem ok_is_border (T : Tx P K mg) (TB : TBs T base) : FnOk P w K mg base L2.CX0 2 T.a_is_border T.d_is_border ["tunnels", "dug", "wall"] (spBorder K T.C_Tunnels T.C_Shape) := by
  have G_Tunnels_parent := ok_Tunnels_parent (P := P) (w := w) (base := base) T TB
  refine T.F_is_border.ok sc_is_border (fun vs H Q E h => ?_) (fun cdv A outer s H vs Q E hr h => ?_)
  · obtain ⟨s, l, ps, ls, Dg, c, rfl, _⟩ := h
    rfl
  · obtain ⟨s, l, ps, ls, Dg, c, rfl, S, hl, c1, c2, q⟩ := h
    have S0 := S
    obtain ⟨dx, sh, t, h1, h2, h3, h4, h5⟩ := S
    have eR : ∀ b : Bool, (b = true ↔ c ∉ Dg ∧ (Tr.par ps c = 0 ∨ Tr.par ps c ∈ Dg)) → Q (.bl b) H := fun b hb => by
      have : b = Tn.rt (Tr.par ps) (Tn.inL Dg) c := by
        rw [Bool.eq_iff_iff, hb]
        unfold Tn.rt Tn.inL
        rw [Bool.and_eq_true, Bool.or_eq_true, Bool.not_eq_true', decide_eq_false_iff_not, decide_eq_true_iff, decide_eq_true_iff]
      rw [this]
      exact q
    refine ⟨_, (pss_one (ps_ret (pe_and (pe_cmpR op_notIn_seq (pv 2) (pv 1) (by rfl)) (pe_one (pe_or (pe_cmpR op_eq (pe_meth (pv 0) T.cl_Tunnels T.m_Tunnels_parent G_Tunnels_parent hr T.B_Tunnels_parent .nil pass0 (pa_cons (pv 2) pa_nil)) pe_int (nomark _)) (pe_one (pe_cmpR op_in_seq (pe_meth (pv 0) T.cl_Tunnels T.m_Tunnels_parent G_Tunnels_parent hr T.B_Tunnels_parent .nil pass0 (pa_cons (pv 2) pa_nil)) (pv 1) (by rfl)))))))), ?_⟩
    refine ⟨_, rfl, _, rfl, l, _, rfl, .inl hl, rfl, nvs_flat _, ?_⟩
    rw [nvs_in rfl]
    refine ⟨_, rfl, ?_⟩
    refine notIte (fun hb => eR _ ⟨fun z => (by cases z), fun z => absurd (of_decide_eq_true hb) z.1⟩) (fun hb => ?_)
    have hb := of_decide_eq_false hb
    refine ⟨_, rfl, s, dx, _, rfl, h1, (by first | rfl | decide +kernel), _, rfl, s, ps, ls, c, rfl, S0, c1, c2, rfl, _, rfl, ?_⟩
    refine boolIte (fun e => eR _ ⟨fun _ => ⟨hb, .inl (by have := V.int.inj (of_decide_eq_true e); omega)⟩, fun _ => rfl⟩) (fun e => ?_)
    refine ⟨_, rfl, s, dx, _, rfl, h1, (by first | rfl | decide +kernel), _, rfl, s, ps, ls, c, rfl, S0, c1, c2, _, rfl, l, _, rfl, .inl hl, rfl, nvs_flat _, ?_⟩
    rw [nvs_in rfl]
    refine eR _ ⟨fun z => ⟨hb, .inr (of_decide_eq_true z)⟩, fun z => ?_⟩
    rcases z.2 with y | y
    · exact absurd (congrArg V.int (by rw [y]; rfl)) (of_decide_eq_false e)
    · exact decide_eq_true y
theorem ok_check_weights (T : Tx P K mg) (TB : TBs T base) : FnOk P w K mg base (L2N.CX P w) 3 T.a_check_weights T.d_check_weights ["tunnels", "weights"] (spChkW K T.C_Tunnels T.C_Shape T.x_BadWeight.C) := by
  have G_fault_in := ok_fault_in (P := P) (w := w) (base := base) T TB
  refine EP.Fun.okXN T.F_check_weights sc_check_weights (fun vs H Q E h => ?_) (fun cdv A outer s H vs Q E hr h => ?_)
  · obtain ⟨s, v, ps, ls, ws, rfl, _⟩ := h
    rfl
  · obtain ⟨s, v, ps, ls, ws, rfl, S, hv, sm, good, bad⟩ := h
    have S0 := S
    have ss := S.ok.2.2
    obtain ⟨dx, sh, t, h1, h2, h3, h4, h5⟩ := S
    obtain ⟨dx', tp, d, kvs, hs, ht, hd, hM⟩ := h2.at_
    refine ⟨_, (pss_cons (ps_set (i := 2) sc_check_weights.nd rfl (Or.inl rfl) (pe_callN G_fault_in (hr.mono (by decide)) rfl T.g_fault_in T.F_fault_in.kp T.KB_fault_in pass0 (pa_cons (pv 1) pa_nil) (pk_cons pe_int (pk_cons (pe_fld (pe_fld (pv 0) rfl) rfl) pk_nil))))
          (pss_one (ps_if (pt_cmpR op_notN (pv 2) pe_non (nomark _))
          (pss_one (L2N.ps_raise rfl (L2N.takes_of rfl rfl rfl rfl) (pmk_oexN T.x_BadWeight.sup.oex T.x_BadWeight.iC T.x_BadWeight.tI (init_BadWeight T) (hr.mono (by decide)) (bind_BadWeight T) .nil pass0 rfl T.x_BadWeight.mgX (pa_cons (pv 2) pa_nil))))
          pss_nil))), ?_⟩
    refine ⟨_, rfl, _, rfl, _, _, _, _, _, rfl, h1, T.cl_Tunnels, T.n_Tunnels_shape, (by first | rfl | kernel_rfl), _, _, _, _, _, rfl, hs, T.cl_Shape, T.n_Shape_size, shf_size, ?_⟩
    refine ⟨rfl, rfl, v, ws, 0, ps.length, rfl, hv, by omega, fun z H1 hz s1 => ?_, fun hn H1 s1 => ?_⟩
    · refine ⟨_, rfl, rfl, _, rfl, ?_⟩
      refine ifT rfl ?_
      have sz : Small z := by
        unfold Small
        rcases hz with ⟨j, rfl, ⟨p, hp, _⟩, _⟩ | ⟨_, rfl, _⟩
        · have := (List.getElem?_eq_some_iff.mp hp).1
          omega
        · omega
      exact ⟨_, rfl, mkO_intro sz.ok fun d nd => bad z hz d _ (s1.trans (same_new nd)) (s1.free nd) upd_same⟩
    · refine ⟨_, rfl, rfl, _, rfl, ?_⟩
      exact ifF rfl (good hn H1 s1)
theorem ok_worthwhile (T : Tx P K mg) (TB : TBs T base) : FnOk P w K mg base L2.CX0 3 T.a_worthwhile T.d_worthwhile ["tunnels", "gains", "dug"] (spWorth K T.C_Tunnels T.C_Shape) := by
  have G_Tunnels_parent := ok_Tunnels_parent (P := P) (w := w) (base := base) T TB
  have G_is_border := ok_is_border (P := P) (w := w) (base := base) T TB
  refine T.F_worthwhile.ok sc_worthwhile (fun vs H Q E h => ?_) (fun cdv A outer s H vs Q E hr h => ?_)
  · obtain ⟨s, d, l, ps, ls, g, Dg, rfl, _⟩ := h
    rfl
  · obtain ⟨s, d, l, ps, ls, g, Dg, rfl, S, G, hl, q⟩ := h
    have S0 := S
    have ss := S.ok.2.2
    obtain ⟨dx, sh, t, h1, h2, h3, h4, h5⟩ := S
    obtain ⟨dx', tp, dm, kvs, hs, ht, hd, hM⟩ := h2.at_
    refine ⟨_, (pss_cons (ps_set (i := 3) sc_worthwhile.nd rfl (Or.inl rfl) (pe_lst pa_nil))
          (pss_cons (ps_for PassesOwn.never rfl (pi_range2 rfl T.z_range (pa_cons pe_int (pa_cons (pe_op op_add (pe_fld (pe_fld (pv 0) rfl) rfl) pe_int) pa_nil))) (pg_name (i := 4) sc_worthwhile.nd rfl (Or.inl rfl))
          (pss_cons (ps_set (i := 5) sc_worthwhile.nd rfl (Or.inl rfl) (pe_or (pe_call G_is_border hr rfl T.g_is_border T.F_is_border.kp T.B_is_border .nil pass0 (pa_cons (pv 0) (pa_cons (pv 2) (pa_cons (pv 4) pa_nil)))) (pe_one (pe_cmpR op_in_seq (pe_meth (pv 0) T.cl_Tunnels T.m_Tunnels_parent G_Tunnels_parent (hr.mono (by decide)) T.B_Tunnels_parent .nil pass0 (pa_cons (pv 4) pa_nil)) (pv 3) (by rfl)))))
          (pss_one (ps_if (PW.pt (pw_and (pt_cmpR op_notIn_seq (pv 4) (pv 2) (by rfl)) (pw_and (pt_val (pv 5)) (pw_and1 (pt_cmpR op_ge (pe_dget (hu_of hr) (pv 1) (pv 4) (fun _ _ => rfl)) pe_int (nomark _))))))
          (pss_one (ps_expr (pe_bm PySem.F.plainAttrs_list PySem.F.slot_list_append PySem.F.type_list_append mt_append (pv 3) (pa_cons (pv 4) pa_nil))))
          pss_nil))))
          (pss_one (ps_ret (pv 3))))), ?_⟩
    refine ⟨Nat.zero_le _, fun D hD => ?_⟩
    have sD := same_new (o := .lst []) hD
    refine ⟨_, rfl, _, _, _, _, _, rfl, sD _ _ h1, T.cl_Tunnels, T.n_Tunnels_shape, (by first | rfl | kernel_rfl), _, _, _, _, _, rfl, sD _ _ hs, T.cl_Shape, T.n_Shape_size, shf_size, ?_⟩
    refine ⟨_, _, rfl, rfl, _, _, rfl, ⟨by decide, by decide, by omega, by omega⟩, for_range (lo := 1) (fun i σ H' => ∃ (a b : Option V) (W : Nat → Bool), σ = [some (.ref s), some (.ref d), some (.ref l), some (.ref D), a, b] ∧ Same H H' ∧ H' D = some (.lst (nvs (Tn.lst i W))) ∧ Tn.Wrt i (Tr.par ps) (Tn.inL Dg) g W) ⟨none, none, fun _ => false, rfl, sD, upd_same, rfl, fun c a b => by omega⟩ ?_ ?_⟩
    · rintro i _ H1 hi ⟨a, b, W, rfl, sa, hD1, hW⟩
      have hi' : i < ps.length := by omega
      have e0 : (1 : Int) + (i : Int) = ((i + 1 : Nat) : Int) := by omega
      rw [e0]
      have lW : (Tn.lst i W).length ≤ i := by
        unfold Tn.lst
        exact Nat.le_trans (List.length_filter_le _ _) (by rw [List.length_map, List.length_range]; exact Nat.le_refl _)
      have pl := Tr.par_lt ps (p := i + 1) (by omega)
      have inW : Tr.par ps (i + 1) ∈ Tn.lst i W ↔ W (Tr.par ps (i + 1)) = true := by
        rw [Tn.mem_lst]
        refine ⟨fun z => z.2.2, fun z => ⟨?_, by omega, z⟩⟩
        by_cases c : Tr.par ps (i + 1) = 0
        · rw [c, hW.1] at z; cases z
        · omega
      have fin : ∀ (v : Option V) (H2 : Hp) (bb : Bool), (bb = true ↔ (i + 1) ∉ Dg ∧ (Tr.par ps (i + 1) = 0 ∨ Tr.par ps (i + 1) ∈ Dg ∨ Tr.par ps (i + 1) ∈ Tn.lst i W) ∧ 0 ≤ g (i + 1)) → Same H H2 → H2 D = some (.lst (nvs (Tn.lst i W ++ if bb = true then [i + 1] else []))) →
          ∃ (a b : Option V) (W : Nat → Bool), ([some (.ref s), some (.ref d), some (.ref l), some (.ref D), some (.int ((i + 1 : Nat) : Int)), v] : List (Option V)) = [some (.ref s), some (.ref d), some (.ref l), some (.ref D), a, b] ∧ Same H H2 ∧ H2 D = some (.lst (nvs (Tn.lst (i + 1) W))) ∧ Tn.Wrt (i + 1) (Tr.par ps) (Tn.inL Dg) g W := fun v H2 bb hb s2 h2 =>
        ⟨_, _, Tn.ext W (i + 1) bb, rfl, s2, by rw [Tn.lst_ext]; exact h2, Tn.wrt_ext (fun k a b => Tr.par_lt ps a) hW (by
          rw [hb, inW]
          unfold Tn.inL
          rw [decide_eq_false_iff_not, decide_eq_true_iff])⟩
      have rest : ∀ rr : Bool, (rr = true ↔ (i + 1) ∉ Dg ∧ (Tr.par ps (i + 1) = 0 ∨ Tr.par ps (i + 1) ∈ Dg) ∨ Tr.par ps (i + 1) ∈ Tn.lst i W) → (i + 1) ∉ Dg → 0 ≤ g (i + 1) → rr = true → (i + 1) ∉ Dg ∧ (Tr.par ps (i + 1) = 0 ∨ Tr.par ps (i + 1) ∈ Dg ∨ Tr.par ps (i + 1) ∈ Tn.lst i W) ∧ 0 ≤ g (i + 1) := fun rr h1 h2 h3 h4 => ⟨h2, (h1.mp h4).elim (fun z => z.2.elim .inl fun y => .inr (.inl y)) fun z => .inr (.inr z), h3⟩
      refine ⟨_, rfl, _, rfl, _, rfl, s, l, ps, ls, Dg, i + 1, rfl, S0.same sa, sa.seq hl, by omega, by omega, _, rfl, ?_⟩
      have key : ∀ rr : Bool, (rr = true ↔ ((i + 1) ∉ Dg ∧ (Tr.par ps (i + 1) = 0 ∨ Tr.par ps (i + 1) ∈ Dg)) ∨ Tr.par ps (i + 1) ∈ Tn.lst i W) → ∀ bb : Bool, bb = (!decide ((i + 1) ∈ Dg) && (rr && decide (0 ≤ g (i + 1)))) → (bb = true ↔ (i + 1) ∉ Dg ∧ (Tr.par ps (i + 1) = 0 ∨ Tr.par ps (i + 1) ∈ Dg ∨ Tr.par ps (i + 1) ∈ Tn.lst i W) ∧ 0 ≤ g (i + 1)) := fun rr h bb e => by
        rw [e, Bool.and_eq_true, Bool.and_eq_true, Bool.not_eq_true', decide_eq_false_iff_not, decide_eq_true_iff, h]
        constructor
        · rintro ⟨h1, (⟨_, h2 | h2⟩ | h2), h3⟩
          · exact ⟨h1, .inl h2, h3⟩
          · exact ⟨h1, .inr (.inl h2), h3⟩
          · exact ⟨h1, .inr (.inr h2), h3⟩
        · rintro ⟨h1, (h2 | h2 | h2), h3⟩
          · exact ⟨h1, .inl ⟨h1, .inl h2⟩, h3⟩
          · exact ⟨h1, .inl ⟨h1, .inr h2⟩, h3⟩
          · exact ⟨h1, .inr h2, h3⟩
      have eR : (Tn.rt (Tr.par ps) (Tn.inL Dg) (i + 1) = true ↔ (i + 1) ∉ Dg ∧ (Tr.par ps (i + 1) = 0 ∨ Tr.par ps (i + 1) ∈ Dg)) := by
        unfold Tn.rt Tn.inL
        rw [Bool.and_eq_true, Bool.or_eq_true, Bool.not_eq_true', decide_eq_false_iff_not, decide_eq_true_iff, decide_eq_true_iff]
      clear rest
      have G1 := G.same sa
      have hl1 := sa.seq hl
      refine boolIte (fun hR => ?_) (fun hR => ?_)
      · have kk := key true ⟨fun _ => .inl (eR.mp hR), fun _ => rfl⟩
        refine ⟨_, rfl, _, rfl, l, _, rfl, .inl hl1, rfl, nvs_flat _, _, rfl, ?_⟩
        rw [nvs_in rfl]
        refine notIte (fun hb => fin _ H1 false (kk _ (by rw [hb]; rfl)) sa (by rw [if_neg (by decide), List.append_nil]; exact hD1)) (fun hb => ?_)
        refine ⟨_, rfl, _, rfl, ?_⟩
        refine iteT ?_
        refine ⟨_, rfl, _, rfl, d, .int (g (i + 1)), rfl, G1.get (by omega) (by omega), _, _, rfl, rfl, _, rfl, ?_⟩
        refine boolIte (fun hg => ?_) (fun hg => fin _ H1 false (kk _ (by rw [hb, show decide (0 ≤ g (i + 1)) = false from hg]; rfl)) sa (by rw [if_neg (by decide), List.append_nil]; exact hD1))
        refine ⟨_, rfl, .inl ⟨rfl, _, SqL.of hD1⟩, _, rfl, D, _, _, rfl, rfl, hD1, size_lt (by rw [nvs_len]; omega), ?_⟩
        exact fin _ _ true (kk _ (by rw [hb, show decide (0 ≤ g (i + 1)) = true from hg]; rfl)) (same_mut sa hD) (by rw [upd_same, if_pos rfl, nvs_snoc])
      · refine ⟨_, rfl, s, dx, _, rfl, sa _ _ h1, (by first | rfl | decide +kernel), _, rfl, s, ps, ls, i + 1, rfl, S0.same sa, by omega, by omega, _, rfl, D, _, rfl, .inl (SqL.of hD1), rfl, nvs_flat _, ?_⟩
        rw [nvs_in rfl]
        have hR' : ¬ ((i + 1) ∉ Dg ∧ (Tr.par ps (i + 1) = 0 ∨ Tr.par ps (i + 1) ∈ Dg)) := fun z => by
          rw [eR.mpr z] at hR
          cases hR
        have kk := key (decide (Tr.par ps (i + 1) ∈ Tn.lst i W)) ⟨fun z => .inr (of_decide_eq_true z), fun z => decide_eq_true (z.resolve_left hR')⟩
        refine ⟨_, rfl, _, rfl, l, _, rfl, .inl hl1, rfl, nvs_flat _, _, rfl, ?_⟩
        rw [nvs_in rfl]
        refine notIte (fun hb => fin _ H1 false (kk _ (by rw [hb]; rfl)) sa (by rw [if_neg (by decide), List.append_nil]; exact hD1)) (fun hb => ?_)
        refine ⟨_, rfl, _, rfl, ?_⟩
        refine boolIte (fun hw => ?_) (fun hw => fin _ H1 false (kk _ (by rw [hb, show decide (Tr.par ps (i + 1) ∈ Tn.lst i W) = false from hw]; rfl)) sa (by rw [if_neg (by decide), List.append_nil]; exact hD1))
        refine ⟨_, rfl, _, rfl, d, .int (g (i + 1)), rfl, G1.get (by omega) (by omega), _, _, rfl, rfl, _, rfl, ?_⟩
        refine boolIte (fun hg => ?_) (fun hg => fin _ H1 false (kk _ (by rw [hb, show decide (0 ≤ g (i + 1)) = false from hg, Bool.and_false]; rfl)) sa (by rw [if_neg (by decide), List.append_nil]; exact hD1))
        refine ⟨_, rfl, .inl ⟨rfl, _, SqL.of hD1⟩, _, rfl, D, _, _, rfl, rfl, hD1, size_lt (by rw [nvs_len]; omega), ?_⟩
        exact fin _ _ true (kk _ (by rw [hb, show decide (Tr.par ps (i + 1) ∈ Tn.lst i W) = true from hw, show decide (0 ≤ g (i + 1)) = true from hg]; rfl)) (same_mut sa hD) (by rw [upd_same, if_pos rfl, nvs_snoc])
    rintro _ H1 ⟨a, b, W, rfl, sa, hD1, hW⟩
    rw [show ((ps.length : Int) + 1 - 1).toNat = ps.length by omega] at hD1 hW
    exact ⟨_, rfl, q D W H1 hW sa hD hD1⟩
theorem ok_gains (T : Tx P K mg) (TB : TBs T base) : FnOk P w K mg base L2.CX0 3 T.a_gains T.d_gains ["tunnels", "weights", "a", "b"] (spGains K T.C_Tunnels T.C_Shape) := by
  have G_Tunnels_branching := ok_Tunnels_branching (P := P) (w := w) (base := base) T TB
  refine T.F_gains.ok sc_gains (fun vs H Q E h => ?_) (fun cdv A outer s H vs Q E hr h => ?_)
  · obtain ⟨s, v, ps, ls, ws, a, b, rfl, _⟩ := h
    rfl
  · obtain ⟨s, v, ps, ls, ws, a, b, rfl, S, hv, lw, s60, bw, ba, bb, q⟩ := h
    have S0 := S
    have ss := S.ok.2.2
    obtain ⟨dx, sh, t, h1, h2, h3, h4, h5⟩ := S
    obtain ⟨dx', tp, dm, kvs, hs, ht, hd, hM⟩ := h2.at_
    refine ⟨_, (pss_cons (ps_set (i := 4) sc_gains.nd rfl (Or.inr rfl) pe_dnewK)
          (pss_cons (ps_for PassesOwn.never rfl (pi_range3 rfl T.z_range (pa_cons (pe_fld (pe_fld (pv 0) rfl) rfl) (pa_cons pe_int (pa_cons (pe_un un_neg pe_int) pa_nil)))) (pg_name (i := 5) sc_gains.nd rfl (Or.inl rfl))
          (pss_cons (ps_setLc (i := 6) (own := [("other", 7)]) (g := gName 7) (tt := tYes) rfl sc_gains.nd rfl rfl (sw_true rfl rfl rfl (by decide +kernel)) (pi_list (pe_meth (pv 0) T.cl_Tunnels T.m_Tunnels_branching G_Tunnels_branching hr T.B_Tunnels_branching .nil pass0 (pa_cons (pv 5) pa_nil))) (blkOk_by (N := ["tunnels", "weights", "a", "b", "gains", "wall", "behind", "other"]) (sc := defScope s_gains) (by decide +kernel)) (fun _ _ _ _ _ => (pg_name (i := 7) sc_gains.nd rfl (Or.inl rfl))) (fun _ _ _ _ _ => pts_nil) (fun _ _ _ _ _ => (pe_callB (id := "max") (call_max2 rfl) (by rfl) T.z_max (by decide +kernel) (pa_cons pe_int (pa_cons (pe_dget (hu_of hr) (pv 4) (pv 7) (fun _ _ => rfl)) pa_nil)))))
          (pss_one (ps_dput (hu_of hr) (pv 4) (pv 5) (pe_op op_add (pe_op op_sub (pe_op op_mul (pv 3) (pe_ix EP.ix_seq (pv 1) (pe_op op_sub (pv 5) pe_int) (fun _ _ => rfl))) (pe_op op_mul (pv 2) (pe_ix ix_tup (pe_fld (pv 0) rfl) (pe_op op_sub (pv 5) pe_int) (fun _ _ => rfl)))) (pe_callB (id := "sum") (cr_sum rfl) (by rfl) T.z_sum (by decide +kernel) (pa_cons (pv 6) pa_nil))) rfl))))
          (pss_one (ps_ret (pv 4))))), ?_⟩
    intro D hD
    have sD := same_new (o := .dK []) hD
    refine ⟨_, rfl, _, _, _, _, _, rfl, sD _ _ h1, T.cl_Tunnels, T.n_Tunnels_shape, (by first | rfl | kernel_rfl), _, _, _, _, _, rfl, sD _ _ hs, T.cl_Shape, T.n_Shape_size, shf_size, ?_⟩
    refine ⟨_, rfl, _, _, _, _, rfl, RgC.neg (by omega) (by omega) (by decide) (by decide), for_rangeC (fun i σ H' => ∃ (kvs : List (Key × V)) (g : Nat → Int) (c e : Option V), σ = [some (.ref s), some (.ref v), some (.int a), some (.int b), some (.ref D), c, e, none] ∧ Same H H' ∧ H' D = some (.dK kvs) ∧ kvs.length ≤ i ∧ (∀ k : Nat, ps.length - i < k → k ≤ ps.length → valV kvs (.inl (k : Int)) = some (.int (g k))) ∧ Tn.GainTo ps.length (ps.length - i) (Tr.par ps) (fun k => b * vf ws k - a * vf ls k) g)
      ⟨[], fun _ => 0, none, none, rfl, sD, upd_same, Nat.le_refl _, fun k h1 h2 => by omega, fun j h1 h2 => by omega⟩ ?_ ?_⟩
    · rintro i _ H1 hi ⟨kvs1, g, c, e, rfl, sa, hD1, lk, hv1, hG⟩
      have hi' : i < ps.length := by omega
      obtain ⟨k, hk⟩ : ∃ k, ps.length - i = k + 1 := ⟨ps.length - i - 1, by omega⟩
      have ek : ((ps.length : Int) + (i : Int) * -1) = ((k + 1 : Nat) : Int) := by omega
      rw [ek]
      rw [hk] at hv1 hG
      refine ⟨_, rfl, s, dx, _, rfl, sa _ _ h1, (by first | rfl | decide +kernel), _, rfl, s, ps, ls, k + 1, rfl, S0.same sa, fun r H2 s2 nr hr => ?_⟩
      have hD2 := s2 _ _ hD1
      have s02 := sa.trans s2
      refine ⟨r, rfl, ⟨_, SqL.of hr⟩, fun B hB => ?_⟩
      have lL : (Tn.lst ps.length fun c => decide (Tr.par ps c = k + 1)).length ≤ ps.length := by
        unfold Tn.lst
        exact Nat.le_trans (List.length_filter_le _ _) (by rw [List.length_map, List.length_range]; exact Nat.le_refl _)
      refine lc_list (K := K) (a := r) (xs := nvs (Tn.lst ps.length fun c => decide (Tr.par ps c = k + 1))) (fun j H' => Same H2 H' ∧ H' B = some (.lst ((((Tn.lst ps.length fun c => decide (Tr.par ps c = k + 1)).take j).map fun c => Tn.mx (g c)).map V.int))) ⟨same_new hB, upd_same⟩ (fun j H' _ z => SqL.of (z.1 _ _ hr)) ?_ ?_
      · rintro j x H3 hx ⟨s3, hB3⟩
        obtain ⟨m, hm, rfl⟩ := nvs_of hx
        have hj := (List.getElem?_eq_some_iff.mp hm).1
        obtain ⟨m1, m2, m3⟩ := Tn.mem_lst.mp (List.mem_of_getElem? hm)
        have m3 := of_decide_eq_true m3
        have pl := Tr.par_lt ps (p := m) m1
        have hD3 := s3 _ _ hD2
        refine ⟨rfl, ?_⟩
        refine ⟨_, rfl, _, rfl, D, .int (g m), rfl, ?_, _, _, rfl, ?_⟩
        · rw [← hv1 m (by omega) m2]
          exact DGet.k (k := Sum.inl (m : Int)) hD3
        refine ⟨_, hB3, size_lt (by rw [List.length_map, List.length_map, List.length_take]; omega), same_mut s3 hB, ?_⟩
        rw [upd_same, List.take_succ_eq_append_getElem hj, (List.getElem?_eq_some_iff.mp hm).2, List.map_append, List.map_append]
        rfl
      rintro H3 ⟨s3, hB3⟩
      rw [nvs_len, List.take_of_length_le (Nat.le_refl _)] at hB3
      have s03 := s02.trans s3
      have hD3 := s3 _ _ hD2
      have bw' := bw.vf (k + 1)
      have bl' := S0.bd.2.1.vf (k + 1)
      refine ⟨_, rfl, _, rfl, _, rfl, _, _, rfl, rfl, v, _, _, _, rfl, rfl, SqE_same s03 hv, vf_at (k := k + 1) (by omega) (by omega) rfl, _, _, rfl, rfl, .inl ⟨by omega, by omega⟩, ?_⟩
      refine ⟨_, rfl, _, rfl, _, _, _, _, _, rfl, s03 _ _ h1, T.cl_Tunnels, T.n_Tunnels_lengths, (by first | rfl | kernel_rfl), _, rfl, _, _, rfl, rfl, t, _, _, _, rfl, rfl, SqT_same s03 h3, vf_at (k := k + 1) (by omega) (by omega) rfl, _, _, rfl, rfl, .inl ⟨by omega, by omega⟩, _, _, rfl, rfl, ?_⟩
      refine ⟨_, rfl, B, _, rfl, SqL.of hB3, _, _, rfl, rfl, _, rfl, _, rfl, D, _, rfl, DPut.k (k := Sum.inl ((k + 1 : Nat) : Int)) hD3 (size_lt (by omega)), ?_⟩
      have hk2 := putK_len kvs1 (Sum.inl ((k + 1 : Nat) : Int))
      rw [Tn.sum_lst]
      have GE := Tn.gain_ext par_ok hG
      have hn : ps.length - (i + 1) = k := by omega
      rw [← hn] at GE
      refine ⟨_, _, _, _, rfl, same_mut s03 hD, upd_same, ?_, ?_, GE⟩
      · have := hk2 (V.int (b * vf ws (k + 1) - a * vf ls (k + 1) + Tn.fs ps.length (fun c => Tn.mx (g c)) fun c => decide (Tr.par ps c = k + 1)))
        dsimp only
        omega
      · intro j h1' h2'
        rw [valV_put]
        by_cases z : j = k + 1
        · subst z
          rw [if_pos rfl, hn, Tn.ext_at]
          rfl
        · rw [if_neg (kv_ne (by omega)), hn, Tn.ext_ne z]
          exact hv1 j (by omega) h2'
    · rintro _ H1 ⟨kvs1, g, c, e, rfl, sa, hD1, lk, hv1, hG⟩
      rw [show ((ps.length : Int) - 0).toNat = ps.length by omega, Nat.sub_self] at hv1 hG
      exact ⟨_, rfl, q D g H1 (fun k k1 k2 => hG k (by omega) k2) sa hD ⟨kvs1, hD1, fun k k1 k2 => hv1 k (by omega) k2⟩⟩
theorem ok_best_addition (T : Tx P K mg) (TB : TBs T base) : FnOk P w K mg base (L2N.CX P w) 5 T.a_best_addition T.d_best_addition ["tunnels", "weights", "dug"] (spBestAdd K T.C_Tunnels T.C_Shape) := by
  have G_Tunnels_total := ok_Tunnels_total (P := P) (w := w) (base := base) T TB
  have G_gains := ok_gains (P := P) (w := w) (base := base) T TB
  have G_is_border := ok_is_border (P := P) (w := w) (base := base) T TB
  have G_worthwhile := ok_worthwhile (P := P) (w := w) (base := base) T TB
  refine EP.Fun.okXN T.F_best_addition sc_best_addition (fun vs H Q E h => ?_) (fun cdv A outer s H vs Q E hr h => ?_)
  · obtain ⟨s, v, l, ps, ls, ws, Dg, rfl, _⟩ := h
    rfl
  · obtain ⟨s, v, l, ps, ls, ws, Dg, rfl, S, hv, lw, s60, bw, hl, cl, ex, q⟩ := h
    have S0 := S
    have ss := S.ok.2.2
    obtain ⟨dx, sh, t, h1, h2, h3, h4, h5⟩ := S
    obtain ⟨dx', tp, dm, kvs, hs, ht, hd, hM⟩ := h2.at_
    refine ⟨_, (pss_cons (ps_setLc (i := 3) (own := [("wall", 8)]) (g := gName 8) rfl sc_best_addition.nd rfl rfl (sw_true rfl rfl rfl (by decide +kernel)) (pi_range2 rfl T.z_range (pa_cons pe_int (pa_cons (pe_op op_add (pe_fld (pe_fld (pv 0) rfl) rfl) pe_int) pa_nil))) (blkOk_by (N := ["tunnels", "weights", "dug", "walls", "gain", "weight", "length", "gains", "wall"]) (sc := defScope s_best_addition) (by decide +kernel)) (fun _ _ _ _ _ => (pg_name (i := 8) sc_best_addition.nd rfl (Or.inl rfl))) (fun _ _ _ _ _ => (pts_one (pt_cmpR (op_notIn_seqK (K := K)) (pv 8) (pv 2) (by rfl)))) (fun _ _ _ _ _ => (pv 8)))
          (pss_cons (ps_set (i := 4) sc_best_addition.nd rfl (Or.inl rfl) pe_int)
          (pss_cons (ps_while (passes_of rfl) (pt_cmpR op_gt (pv 4) pe_int (nomark _))
          (pss_cons (ps_set (i := 5) sc_best_addition.nd rfl (Or.inl rfl) (pe_meth (pv 0) T.cl_Tunnels T.m_Tunnels_total G_Tunnels_total hr T.B_Tunnels_total .nil pass_upN (pa_cons (pv 1) (pa_cons (pv 3) pa_nil))))
          (pss_cons (ps_set (i := 6) sc_best_addition.nd rfl (Or.inl rfl) (pe_meth (pv 0) T.cl_Tunnels T.m_Tunnels_total G_Tunnels_total hr T.B_Tunnels_total .nil pass_upN (pa_cons (pe_fld (pv 0) rfl) (pa_cons (pv 3) pa_nil))))
          (pss_cons (ps_set (i := 7) sc_best_addition.nd rfl (Or.inr rfl) (pe_call G_gains (hr.mono (by decide)) rfl T.g_gains T.F_gains.kp T.B_gains .nil pass0 (pa_cons (pv 0) (pa_cons (pv 1) (pa_cons (pv 5) (pa_cons (pv 6) pa_nil))))))
          (pss_cons (ps_set (i := 3) sc_best_addition.nd rfl (Or.inl rfl) (pe_call G_worthwhile (hr.mono (by decide)) rfl T.g_worthwhile T.F_worthwhile.kp T.B_worthwhile .nil pass0 (pa_cons (pv 0) (pa_cons (pv 7) (pa_cons (pv 2) pa_nil)))))
          (pss_one (ps_set (i := 4) sc_best_addition.nd rfl (Or.inl rfl) (pe_callB (id := "sum") (cr_sum rfl) (by rfl) T.z_sum (by decide +kernel) (pa_cons (pe_lc (own := [("wall", 8)]) (g := gName 8) rfl sc_best_addition.nd (pi_list (pv 3)) (blkOk_by (N := ["tunnels", "weights", "dug", "walls", "gain", "weight", "length", "gains", "wall"]) (sc := defScope s_best_addition) (by decide +kernel)) (fun _ _ _ _ _ => (pg_name (i := 8) sc_best_addition.nd rfl (Or.inl rfl))) (fun _ _ _ _ _ => (pts_one (pt_val (pe_call G_is_border (hr.mono (by decide)) rfl T.g_is_border T.F_is_border.kp T.B_is_border .nil pass0 (pa_cons (pv 0) (pa_cons (pv 2) (pa_cons (pv 8) pa_nil))))))) (fun _ _ _ _ _ => (pe_dget (hu_of hr) (pv 7) (pv 8) (fun _ _ => rfl)))) pa_nil)))))))))
          (pss_one (ps_ret (pe_tup (pa_cons (pe_meth (pv 0) T.cl_Tunnels T.m_Tunnels_total G_Tunnels_total hr T.B_Tunnels_total .nil pass_upN (pa_cons (pv 1) (pa_cons (pv 3) pa_nil))) (pa_cons (pe_meth (pv 0) T.cl_Tunnels T.m_Tunnels_total G_Tunnels_total hr T.B_Tunnels_total .nil pass_upN (pa_cons (pe_fld (pv 0) rfl) (pa_cons (pv 3) pa_nil))) (pa_cons (pv 3) pa_nil))))))))), ?_⟩
    refine ⟨_, rfl, _, _, _, _, _, rfl, h1, T.cl_Tunnels, T.n_Tunnels_shape, (by first | rfl | kernel_rfl), _, _, _, _, _, rfl, hs, T.cl_Shape, T.n_Shape_size, shf_size, ?_⟩
    refine ⟨_, _, rfl, rfl, _, _, rfl, ⟨by decide, by decide, by omega, by omega⟩, fun D hD => ?_⟩
    rw [show ((ps.length : Int) + 1 - 1).toNat = ps.length by omega]
    refine lc_range (lo := 1) (fun i H' => Same H H' ∧ H' D = some (.lst (nvs (Tn.lst i fun c => !Tn.inL Dg c)))) ⟨same_new hD, upd_same⟩ ?_ ?_
    · rintro i H1 hi ⟨sa, hD1⟩
      refine ⟨rfl, ?_⟩
      have e0 : (1 : Int) + (i : Int) = ((i + 1 : Nat) : Int) := by omega
      rw [e0]
      have li : (Tn.lst i fun c => !Tn.inL Dg c).length ≤ i := by
        unfold Tn.lst
        exact Nat.le_trans (List.length_filter_le _ _) (by rw [List.length_map, List.length_range]; exact Nat.le_refl _)
      refine ⟨_, rfl, _, rfl, l, _, rfl, .inl (sa.seq hl), rfl, nvs_flat _, _, rfl, ?_⟩
      rw [nvs_in rfl, Tn.lst_succ]
      have eD : Tn.inL Dg (i + 1) = decide ((i + 1) ∈ Dg) := rfl
      refine notIte (fun hb => ?_) (fun hb => ?_)
      · refine ⟨sa, ?_⟩
        rw [hD1, if_neg (by rw [eD, hb]; decide), List.append_nil]
      · refine ⟨_, rfl, _, hD1, size_lt (by rw [nvs_len]; omega), same_mut sa hD, ?_⟩
        rw [upd_same, if_pos (by rw [eD, hb]; rfl), ← nvs_snoc]
    rintro H1 ⟨sa, hD1⟩
    have V0 : Tn.Add ps.length (Tr.par ps) (Tn.inL Dg) (fun c => decide (1 ≤ c) && !Tn.inL Dg c) := ⟨rfl, fun k k1 k2 e => by
      have pl := Tr.par_lt ps k1
      have e := (Bool.and_eq_true _ _ ▸ e).2
      refine ⟨by simpa using e, ?_⟩
      by_cases c : Tr.par ps k = 0
      · exact .inl c
      · by_cases z : Tn.inL Dg (Tr.par ps k) = true
        · exact .inr (.inl z)
        · refine .inr (.inr ?_)
          show (decide (1 ≤ Tr.par ps k) && !Tn.inL Dg (Tr.par ps k)) = true
          rw [decide_eq_true (by omega)]
          simpa using z⟩
    have p0 : 0 < Tn.fs ps.length (vf ls) (fun c => decide (1 ≤ c) && !Tn.inL Dg c) := by
      obtain ⟨c, c1, c2, c3⟩ := ex
      refine Tn.fs_pos S0.bd.2.2 c1 c2 ?_
      rw [decide_eq_true c1]
      unfold Tn.inL
      rw [decide_eq_false c3]
      rfl
    rw [Tn.lst_congr (t := fun c => decide (1 ≤ c) && !Tn.inL Dg c) fun k k1 _ => by rw [decide_eq_true k1]; rfl] at hD1
    generalize (fun c => decide (1 ≤ c) && !Tn.inL Dg c) = U0 at V0 p0 hD1
    have bD := S0.bd
    refine ⟨fun m σ H' => ∃ (U : Nat → Bool) (w : Addr) (gn : Int) (a b c : Option V), σ = [some (.ref s), some (.ref v), some (.ref l), some (.ref w), some (.int gn), a, b, c, none] ∧ Same H H' ∧ H w = none ∧ H' w = some (.lst (nvs (Tn.lst ps.length U))) ∧ Tn.Add ps.length (Tr.par ps) (Tn.inL Dg) U ∧ 0 < Tn.fs ps.length (vf ls) U ∧
      ((0 < gn ∧ m = Tn.mu ps.length (vf ws) (vf ls) U + 1) ∨ (gn ≤ 0 ∧ m = 0 ∧ Tn.Best ps.length (Tr.par ps) (vf ws) (vf ls) (Tn.inL Dg) U)),
      ⟨_, U0, D, 1, none, none, none, rfl, sa, hD, hD1, V0, p0, .inl ⟨by decide, rfl⟩⟩, ?_⟩
    clear sa hD hD1 V0 p0 U0 ex
    rintro m _ H1 ⟨U, w, gn, a, b, c, rfl, sa, nw, hw, aU, pU, alt⟩
    refine ⟨_, rfl, _, _, rfl, rfl, _, rfl, ?_⟩
    refine boolIte (fun hg => ?_) (fun hg => ?_)
    · have hg := of_decide_eq_true hg
      obtain ⟨_, rfl⟩ := alt.resolve_right fun z => by omega
      refine ⟨fun σ' H' => ∃ m', m' < Tn.mu ps.length (vf ws) (vf ls) U + 1 ∧ ∃ (U : Nat → Bool) (w : Addr) (gn : Int) (a b c : Option V), σ' = [some (.ref s), some (.ref v), some (.ref l), some (.ref w), some (.int gn), a, b, c, none] ∧ Same H H' ∧ H w = none ∧ H' w = some (.lst (nvs (Tn.lst ps.length U))) ∧ Tn.Add ps.length (Tr.par ps) (Tn.inL Dg) U ∧ 0 < Tn.fs ps.length (vf ls) U ∧
        ((0 < gn ∧ m' = Tn.mu ps.length (vf ws) (vf ls) U + 1) ∨ (gn ≤ 0 ∧ m' = 0 ∧ Tn.Best ps.length (Tr.par ps) (vf ws) (vf ls) (Tn.inL Dg) U)), fun σ' H' h => h, ?_⟩
      refine ⟨_, rfl, s, dx, _, rfl, sa _ _ h1, (by first | rfl | decide +kernel), _, rfl, _, rfl, s, v, w, ps, ls, ws, U, rfl, S0.same sa, SqE_same sa hv, lw, s60, SqL.of hw, fun H2 s2 => ?_⟩
      have s02 := sa.trans s2
      refine ⟨_, rfl, s, dx, _, rfl, s02 _ _ h1, (by first | rfl | decide +kernel), _, rfl, _, _, _, _, _, rfl, s02 _ _ h1, T.cl_Tunnels, T.n_Tunnels_lengths, (by first | rfl | kernel_rfl), _, rfl, s, t, w, ps, ls, ls, U, rfl, S0.same s02, .inr (SqT_same s02 h3), h4, s60, SqL.of (s2 _ _ hw), fun H3 s3 => ?_⟩
      have s03 := s02.trans s3
      have bw1 := fs_bd bw U ps.length
      have bl1 := fs_bd bD.2.1 U ps.length
      refine ⟨_, rfl, _, rfl, _, rfl, _, rfl, s, v, ps, ls, ws, _, _, rfl, S0.same s03, SqE_same s03 hv, lw, s60, bw, ⟨by omega, by omega⟩, ⟨by omega, by omega⟩, fun gd g H4 GE s4 ngd hgd => ?_⟩
      have s04 := s03.trans s4
      refine ⟨_, rfl, _, rfl, _, rfl, s, gd, l, ps, ls, g, Dg, rfl, S0.same s04, hgd, s04.seq hl, fun w2 W H5 hW s5 nw2 hw2 => ?_⟩
      have s05 := s04.trans s5
      have hgd5 := hgd.same s5
      refine ⟨_, rfl, w2, rfl, ⟨_, SqL.of hw2⟩, fun B hB => ?_⟩
      have lW : (Tn.lst ps.length W).length ≤ ps.length := by
        unfold Tn.lst
        exact Nat.le_trans (List.length_filter_le _ _) (by rw [List.length_map, List.length_range]; exact Nat.le_refl _)
      refine lc_list (K := K) (a := w2) (xs := nvs (Tn.lst ps.length W)) (fun i H' => Same H5 H' ∧ H' B = some (.lst (((((Tn.lst ps.length W).take i).filter (Tn.rt (Tr.par ps) (Tn.inL Dg))).map g).map V.int))) ⟨same_new hB, upd_same⟩ (fun i H' _ z => SqL.of (z.1 _ _ hw2)) ?_ ?_
      · rintro i x H6 hx ⟨s6, hB6⟩
        obtain ⟨k, hk, rfl⟩ := nvs_of hx
        have hi := (List.getElem?_eq_some_iff.mp hk).1
        obtain ⟨k1, k2, _⟩ := Tn.mem_lst.mp (List.mem_of_getElem? hk)
        have s06 := s05.trans s6
        have et : (Tn.lst ps.length W).take (i + 1) = (Tn.lst ps.length W).take i ++ [k] := by rw [List.take_succ_eq_append_getElem hi, (List.getElem?_eq_some_iff.mp hk).2]
        refine ⟨rfl, ?_⟩
        refine ⟨_, rfl, _, rfl, _, rfl, s, l, ps, ls, Dg, k, rfl, S0.same s06, s06.seq hl, k1, k2, _, rfl, ?_⟩
        rw [et, List.filter_append]
        refine boolIte (fun hb => ?_) (fun hb => ?_)
        · refine ⟨_, rfl, _, rfl, gd, .int (g k), rfl, (hgd5.same s6).get k1 k2, _, hB6, size_lt (by rw [List.length_map, List.length_map]; exact Nat.le_trans (List.length_filter_le _ _) (by rw [List.length_take]; omega)), same_mut s6 hB, ?_⟩
          rw [upd_same]
          simp [List.filter_cons, hb]
        · refine ⟨s6, ?_⟩
          rw [hB6]
          simp [List.filter_cons, hb]
      rintro H6 ⟨s6, hB6⟩
      rw [nvs_len, List.take_of_length_le (Nat.le_refl _)] at hB6
      refine ⟨B, _, rfl, SqL.of hB6, ?_⟩
      rw [Tn.sum_top hW]
      by_cases hz : 0 < Tn.top ps.length (Tr.par ps) (Tn.inL Dg) g
      · obtain ⟨pW, lt⟩ := Tn.step_of par_ok cl bD.2.2 pU hW GE hz
        exact ⟨_, Nat.succ_lt_succ lt, W, w2, _, _, _, _, rfl, s05.trans s6, s04.free nw2, s6 _ _ hw2, hW.add, pW, .inl ⟨hz, rfl⟩⟩
      · have bst := Tn.best_of par_ok cl bD.2.2 aU pU hW GE (by omega)
        exact ⟨0, Nat.succ_pos _, W, w2, _, _, _, _, rfl, s05.trans s6, s04.free nw2, s6 _ _ hw2, hW.add, bst.2.1, .inr ⟨by omega, rfl, bst⟩⟩
    · have hg := of_decide_eq_false hg
      obtain ⟨_, _, bst⟩ := alt.resolve_left fun z => hg z.1
      refine ⟨_, rfl, s, dx, _, rfl, sa _ _ h1, (by first | rfl | decide +kernel), _, rfl, _, rfl, s, v, w, ps, ls, ws, U, rfl, S0.same sa, SqE_same sa hv, lw, s60, SqL.of hw, fun H2 s2 => ?_⟩
      have s02 := sa.trans s2
      refine ⟨_, rfl, s, dx, _, rfl, s02 _ _ h1, (by first | rfl | decide +kernel), _, rfl, _, _, _, _, _, rfl, s02 _ _ h1, T.cl_Tunnels, T.n_Tunnels_lengths, (by first | rfl | kernel_rfl), _, rfl, s, t, w, ps, ls, ls, U, rfl, S0.same s02, .inr (SqT_same s02 h3), h4, s60, SqL.of (s2 _ _ hw), fun H3 s3 => ?_⟩
      have s03 := s02.trans s3
      refine ⟨_, rfl, (by show 3 ≤ sizeLine; exact size_le (by omega)), fun z nz => ?_⟩
      have hw3 := s3 _ _ (s2 _ _ hw)
      have wz : w ≠ z := ne_of_none hw3 nz
      exact q w z U _ bst (s03.trans (same_new nz)) nw (s03.free nz) wz (by rw [upd_ne wz]; exact hw3) upd_same
theorem ok_Tunnels_init (T : Tx P K mg) (TB : TBs T base) : FnOk P w K mg base (L2N.CX P w) 5 T.a_Tunnels_init T.d_Tunnels_init ["self", "parents", "lengths"] (spTunInit K T.C_Tunnels T.C_Shape) := by
  have G_Shape_init := ok_Shape_init (P := P) (w := w) (base := base) T TB
  have G_fault_in := ok_fault_in (P := P) (w := w) (base := base) T TB
  refine EP.Fun.okXN T.F_Tunnels_init sc_Tunnels_init (fun vs H Q E h => ?_) (fun cdv A outer s H vs Q E hr h => ?_)
  · obtain ⟨s, dx, a, b, ps, ls, rfl, _⟩ := h
    rfl
  · obtain ⟨s, dx, a, b, ps, ls, rfl, hs, ha, ok, p1, s900, hb, ll, al, q⟩ := h
    have ha' : SqE K H a ((toI ps).map V.int) := by rw [← nvs_toI]; exact ha
    refine ⟨_, (pss_cons (ps_set (i := 3) sc_Tunnels_init.nd rfl (Or.inl rfl) (pe_make T.M_Shape G_Shape_init hr rfl T.mg_Shape T.B_Shape_init .nil pass_upN (pa_cons (pv 1) pa_nil)))
          (pss_cons (ps_set (i := 4) sc_Tunnels_init.nd rfl (Or.inl rfl) (pe_callN G_fault_in (hr.mono (by decide)) rfl T.g_fault_in T.F_fault_in.kp T.KB_fault_in pass0 (pa_cons (pv 2) pa_nil) (pk_cons pe_int (pk_cons (pe_fld (pv 3) rfl) pk_nil))))
          (pss_cons (ps_if (pt_cmpR op_notN (pv 4) pe_non (nomark _))
          (pss_one (L2N.ps_raise rfl (L2N.takes_of rfl rfl rfl rfl) (pmk_oexN T.x_BadLength.sup.oex T.x_BadLength.iC T.x_BadLength.tI (init_BadLength T) (hr.mono (by decide)) (bind_BadLength T) .nil pass0 rfl T.x_BadLength.mgX (pa_cons (pv 4) pa_nil))))
          pss_nil)
          (pss_cons (ps_fld (pv 0) (pv 3) rfl)
          (pss_one (ps_fld (pv 0) (pe_callTy (T := "tuple") call_tuple_of (by rfl) T.z_tuple (by decide +kernel) (pa_cons (pv 2) pa_nil)) rfl)))))), ?_⟩
    refine ⟨_, rfl, ?_⟩
    intro x dx2 nx ndx nex
    have sM : Same H (upd (upd H dx2 (.own x)) x (.ins T.C_Shape dx2 [])) := (same_new ndx).trans (same_new (by rw [upd_ne nex.symm]; exact nx))
    refine ⟨x, dx2, a, toI ps, rfl, upd_same, SqE_same sM ha', by rw [toI_len]; omega, fun ps' H1 e ok' pos' bt S1 => ⟨rfl, ?_⟩, fun j wr => absurd wr (noWrong ok), fun e => absurd (congrArg List.length e) (by rw [toI_len]; show ¬ ps.length = 0; omega)⟩
    obtain rfl : ps = ps' := nvs_inj (by rw [← e, nvs_toI])
    have s1 := made nx ndx bt
    obtain ⟨dx', tp, d, kvs, hx, ht, hd, hM⟩ := S1.at_
    refine ⟨_, rfl, _, rfl, _, _, _, _, _, rfl, hx, T.cl_Shape, T.n_Shape_size, shf_size, rfl, rfl, b, ls, 1, ps.length, rfl, SqE_same s1 hb, by omega, fun z H2 hz s2 => (hz.no ⟨fun v hv => (al v hv).1, ll⟩).elim, fun _ H2 s2 => ?_⟩
    refine ⟨_, rfl, rfl, _, rfl, ?_⟩
    refine ifF rfl ?_
    have s12 := s1.trans s2
    have hs2 := s12 _ _ hs
    have xs : x ≠ s := (ne_of_none hs nx).symm
    have S2 := S1.same s2
    have hb2 := SqE_same s12 hb
    refine ⟨_, rfl, _, rfl, s, T.C_Tunnels, dx, _, rfl, hs2, T.cl_Tunnels, T.n_Tunnels_shape, (by decide), ?_⟩
    have S3 : ∀ o, ShapeAt K T.C_Shape (upd H2 s o) x ps := fun o => S2.insU hs2 xs
    have B0 : But s H H2 := But.of_same s12
    have fin : ∀ (t : Addr) (H3 : Hp), But s (upd H2 s (.ins T.C_Tunnels dx (putF "shape" (V.ref x) []))) H3 → ShapeAt K T.C_Shape H3 x ps → SqT K H3 t (ls.map V.int) → H3 s = some (.ins T.C_Tunnels dx (putF "lengths" (V.ref t) (putF "shape" (V.ref x) []))) → Q .non H3 := fun t H3 b3 S4 t4 e4 =>
      q H3 (B0.trans (But.set.trans b3)) ⟨dx, x, t, by rw [e4, put_tun], S4, t4, ll, al⟩
    rcases hb2 with hb2 | hb2
    · refine ⟨_, rfl, b, _, rfl, .inl ⟨SqL_ins hs2 hb2, fun t nt => ?_⟩⟩
      have h3 := (same_new (o := .tup (ls.map V.int)) nt) s _ upd_same
      refine ⟨_, rfl, s, T.C_Tunnels, dx, _, rfl, h3, T.cl_Tunnels, T.n_Tunnels_lengths, put_l1, ?_⟩
      exact fin t _ ((But.of_same (same_new nt)).trans But.set) (((S3 _).same (same_new nt)).insU h3 xs) (SqT_ins h3 (SqT.of upd_same)) upd_same
    · refine ⟨_, rfl, b, _, rfl, .inr ⟨SqT_ins hs2 hb2, ?_⟩⟩
      refine ⟨_, rfl, s, T.C_Tunnels, dx, _, rfl, upd_same, T.cl_Tunnels, T.n_Tunnels_lengths, put_l1, ?_⟩
      exact fin b _ But.set ((S3 _).insU upd_same xs) (SqT_ins upd_same (SqT_ins hs2 hb2)) upd_same
theorem ok_l_tape (T : Tx P K mg) (TB : TBs T base) : FnOk P w K mg base L2.CX0 1 T.a_l_tape T.d_l_tape ["_law_script"] (spTape K) := by
  refine T.F_l_tape.ok sc_l_tape (fun vs H Q E h => ?_) (fun cdv A outer s H vs Q E hr h => ?_)
  · obtain ⟨a, ns, rfl, _⟩ := h
    rfl
  · obtain ⟨a, ns, rfl, hl, sm, q⟩ := h
    have len : (ns.map V.int).length = ns.length := List.length_map ..
    refine ⟨_, (pss_one (ps_ret (pe_lst (pa_cons (pe_lc (own := [("_law_cell", 1)]) (g := gName 1) (tt := tYes) rfl sc_l_tape.nd (pi_list (pv 0)) (blkOk_by (N := ["_law_script", "_law_cell"]) (sc := defScope s_l_tape) (by decide +kernel)) (fun _ _ _ _ _ => (pg_name (i := 1) sc_l_tape.nd rfl (Or.inl rfl))) (fun _ _ _ _ _ => pts_nil) (fun _ _ _ _ _ => (pe_callB (id := "abs") call_abs (by rfl) T.z_abs (by decide +kernel) (pa_cons (pe_callTy (T := "int") call_int1 (by rfl) T.z_int (by decide +kernel) (pa_cons (pv 1) pa_nil)) pa_nil)))) (pa_cons pe_int (pa_cons pe_int (pa_cons pe_int (pa_cons pe_int pa_nil)))))))), ?_⟩
    refine ⟨_, rfl, a, rfl, ⟨_, hl⟩, fun D hD => ?_⟩
    have hl2 : ∀ x, SqL K (upd H D x) a (ns.map V.int) := fun x => (same_new hD).seq hl
    refine lc_list (K := K) (a := a) (xs := ns.map V.int) (fun k H' => H' = upd H D (.lst ((((ns.take k).map absI).map V.int)))) rfl (fun k H' _ e => by rw [e]; exact hl2 _) ?_ ?_
    · rintro k x _ hx rfl
      obtain ⟨p, hp, rfl⟩ := ns_get hx
      refine ⟨rfl, ?_⟩
      refine ⟨_, rfl, .inl ⟨_, rfl, _, rfl, _, upd_same, size_lt ?_, ?_⟩⟩
      · rw [List.length_map, List.length_map, List.length_take]
        omega
      · rw [upd_upd]
        have hk := (List.getElem?_eq_some_iff.mp hp).1
        rw [List.take_succ_eq_append_getElem hk, (List.getElem?_eq_some_iff.mp hp).2, List.map_append, List.map_append]
        rfl
    · rintro _ rfl
      refine ⟨(by show 5 ≤ sizeLine; exact size_le (by omega)), fun t ht => ?_⟩
      have nt : D ≠ t := ne_of_none upd_same ht
      refine q t D _ ((same_new hD).trans (same_new ht)) ((same_new hD).free ht) ⟨(ns.take (ns.map V.int).length).map absI, 0, 0, 0, 0, upd_same, by rw [upd_ne nt]; exact upd_same, Int.le_refl 0⟩
theorem ok_l_next (T : Tx P K mg) (TB : TBs T base) : FnOk P w K mg base L2.CX0 1 T.a_l_next T.d_l_next ["_law_tape_here", "_law_size"] (spNext) := by
  refine T.F_l_next.ok sc_l_next (fun vs H Q E h => ?_) (fun cdv A outer s H vs Q E hr h => ?_)
  · obtain ⟨t, u, n, rfl, _⟩ := h
    rfl
  · obtain ⟨t, u, n, rfl, n0, n1, ⟨xs, i, b, sm, c, ht, hu, hi⟩, q⟩ := h
    have nut : u ≠ t := fun e => by
      rw [e, ht] at hu
      exact ints_tp (HO.lst.inj (Option.some.inj hu)).symm
    have wn : CDivW 0 n := wide_div (b := 60) n0 (by omega) (by decide) (by decide)
    refine ⟨_, (pss_cons (ps_asg (pe_op op_add (pe_ix ix_list (pv 0) pe_int (fun _ _ => rfl)) pe_int) (pg_sub (pv 0) pe_int set_list))
          (C8.pss_cut (ps_if (PW.pt (pw_and (pt_cmpR op_eq (pe_ix ix_list (pv 0) pe_int (fun _ _ => rfl)) pe_int (nomark _)) (pw_and (pt_cmpR op_lt (pe_ix ix_list (pv 0) pe_int (fun _ _ => rfl)) (pe_callB (id := "len") call_len_seq (by rfl) T.z_len (by decide +kernel) (pa_cons (pe_ix ix_list (pv 0) pe_int (fun _ _ => rfl)) pa_nil)) (nomark _)) (pw_and1 (pt_cmpR op_eq (pe_op op_mod (pe_callTy (T := "int") call_int1 (by rfl) T.z_int (by decide +kernel) (pa_cons (pe_ix ix_list (pv 0) pe_int (fun _ _ => rfl)) pa_nil)) pe_int) pe_int (nomark _))))))
          (pss_cons (ps_set (i := 2) sc_l_next.nd rfl (Or.inl rfl) (pe_ix ix_list (pe_ix ix_list (pv 0) pe_int (fun _ _ => rfl)) (pe_ix ix_list (pv 0) pe_int (fun _ _ => rfl)) (fun _ _ => rfl)))
          (pss_cons (ps_asg (pe_op op_add (pe_ix ix_list (pv 0) pe_int (fun _ _ => rfl)) pe_int) (pg_sub (pv 0) pe_int set_list))
          (pss_one (ps_if (pt_cmpR op_ge (pv 2) (pe_op op_pow pe_int pe_int) (nomark _))
          (pss_one (ps_asg (pv 2) (pg_sub (pv 0) pe_int set_list)))
          (pss_one (ps_asg (pv 2) (pg_sub (pv 0) pe_int set_list)))))))
          pss_nil)
          (pss_cons (ps_if (pt_cmpR op_gt (pe_ix ix_list (pv 0) pe_int (fun _ _ => rfl)) pe_int (nomark _))
          (pss_cons (ps_set (i := 3) sc_l_next.nd rfl (Or.inl rfl) (pe_op op_mod (pe_callTy (T := "int") call_int1 (by rfl) T.z_int (by decide +kernel) (pa_cons (pe_ix ix_list (pv 0) pe_int (fun _ _ => rfl)) pa_nil)) (pv 1)))
          (pss_cons (ps_asg (pe_op op_fdivW (pe_ix ix_list (pv 0) pe_int (fun _ _ => rfl)) (pv 1)) (pg_sub (pv 0) pe_int set_list))
          (pss_one (ps_ret (pv 3)))))
          pss_nil)
          (pss_cons (ps_set (i := 4) sc_l_next.nd rfl (Or.inl rfl) (pe_op op_mod (pe_callTy (T := "int") call_int1 (by rfl) T.z_int (by decide +kernel) (pa_cons (pe_op op_add (pe_op op_add (pe_ix ix_list (pv 0) pe_int (fun _ _ => rfl)) (pe_op op_mul pe_int (pe_ix ix_list (pv 0) pe_int (fun _ _ => rfl)))) pe_int) pa_nil)) pe_int))
          (pss_cons (ps_set (i := 4) sc_l_next.nd rfl (Or.inl rfl) (pe_op op_mod (pe_callTy (T := "int") call_int1 (by rfl) T.z_int (by decide +kernel) (pa_cons (pe_op op_mul (pv 4) (pe_op op_add (pv 4) pe_int)) pa_nil)) pe_int))
          (pss_cons (ps_set (i := 4) sc_l_next.nd rfl (Or.inl rfl) (pe_op op_mod (pe_callTy (T := "int") call_int1 (by rfl) T.z_int (by decide +kernel) (pa_cons (pe_op op_add (pe_op op_mul (pv 4) (pe_op op_add (pv 4) pe_int)) (pe_op op_mul pe_int (pe_ix ix_list (pv 0) pe_int (fun _ _ => rfl)))) pa_nil)) pe_int))
          (pss_one (ps_ret (pe_op op_mod (pe_callTy (T := "int") call_int1 (by rfl) T.z_int (by decide +kernel) (pa_cons (pe_op op_fdivW (pv 4) pe_int) pa_nil)) (pv 1)))))))))), ?_⟩
    refine ⟨_, rfl, t, tp u i b sm c, _, _, rfl, rfl, SqL.of ht, rfl, _, _, rfl, rfl, ?_⟩
    refine ⟨_, rfl, t, tp u i b sm c, _, _, rfl, rfl, ht, rfl, ?_⟩
    refine ⟨fun σ H' => ∃ (v : Option V) (i b sm c : Int), 0 ≤ i ∧ σ = [some (.ref t), some (.int n), v, none, none] ∧ H' = upd H t (.lst (tp u i b sm c)), ?_, ?_⟩
    · have hH : ∀ o, (upd H t o) u = some (.lst (xs.map V.int)) := fun o => by rw [upd_ne nut]; exact hu
      have no : ∃ (v : Option V) (i' b' sm' c' : Int), 0 ≤ i' ∧ ([some (.ref t), some (.int n), none, none, none] : List (Option V)) = [some (.ref t), some (.int n), v, none, none] ∧ upd H t (.lst (tp u i b sm (c + 1))) = upd H t (.lst (tp u i' b' sm' c')) := ⟨none, i, b, sm, c + 1, hi, rfl, rfl⟩
      refine ⟨_, rfl, _, _, _, _, rfl, rfl, SqL.of upd_same, rfl, rfl, _, rfl, ?_⟩
      refine boolIte (fun h1 => ?_) (fun h1 => no)
      refine ⟨_, rfl, _, _, _, _, rfl, rfl, SqL.of upd_same, rfl, _, rfl, _, _, _, _, rfl, rfl, SqL.of upd_same, rfl, u, _, rfl, .inl (SqL.of (hH _)), _, _, rfl, rfl, _, rfl, ?_⟩
      refine boolIte (fun h2 => ?_) (fun h2 => no)
      refine ⟨_, rfl, _, _, _, _, rfl, rfl, SqL.of upd_same, rfl, .inl ⟨_, rfl, _, _, rfl, rfl, (by show (0 : Int) < 4; decide), rfl, _, rfl, ?_⟩⟩
      refine boolIte (fun h3 => ?_) (fun h3 => no)
      have hlt : i < (((xs.map V.int).length : Nat) : Int) := of_decide_eq_true h2
      rw [List.length_map] at hlt
      obtain ⟨x, hx⟩ : ∃ x, xs[i.toNat]? = some x := ⟨xs[i.toNat]'(by omega), List.getElem?_eq_getElem _⟩
      refine ⟨_, rfl, _, _, _, _, rfl, rfl, SqL.of upd_same, rfl, _, rfl, _, _, _, _, rfl, rfl, SqL.of upd_same, rfl, u, _, _, _, rfl, rfl, SqL.of (hH _), at_of (j := i.toNat) (v := V.int x) (by omega) (by rw [List.getElem?_map, hx]; rfl), ?_⟩
      refine ⟨_, rfl, _, _, _, _, rfl, rfl, SqL.of upd_same, rfl, _, _, rfl, rfl, ?_⟩
      refine ⟨_, rfl, t, _, _, _, rfl, rfl, upd_same, rfl, ?_⟩
      rw [upd_upd]
      refine ⟨_, rfl, _, _, rfl, rfl, ⟨by decide, by decide, by decide⟩, _, _, rfl, rfl, _, rfl, ?_⟩
      refine boolIte (fun h4 => ?_) (fun h4 => ?_)
      · refine ⟨_, rfl, _, rfl, t, _, _, _, rfl, rfl, upd_same, rfl, ?_⟩
        rw [upd_upd]
        exact ⟨_, i + 1, x, sm, c + 1, by omega, rfl, rfl⟩
      · refine ⟨_, rfl, _, rfl, t, _, _, _, rfl, rfl, upd_same, rfl, ?_⟩
        rw [upd_upd]
        exact ⟨_, i + 1, b, x, c + 1, by omega, rfl, rfl⟩
    · rintro _ _ ⟨v, i, b, sm, c, hi, rfl, rfl⟩
      have hH : ∀ o, (upd H t o) u = some (.lst (xs.map V.int)) := fun o => by rw [upd_ne nut]; exact hu
      have fin : ∀ (r : Int) (i b sm c : Int), 0 ≤ i → 0 ≤ r → r < n → Q (.int r) (upd H t (.lst (tp u i b sm c))) := fun r i b sm c hi r0 r1 => by
        have := q r.toNat (upd H t (.lst (tp u i b sm c))) (by omega) ⟨xs, i, b, sm, c, upd_same, hH _, hi⟩ But.set (fun b hb => upd_ne hb)
        rw [show ((r.toNat : Nat) : Int) = r by omega] at this
        exact this
      refine ⟨_, rfl, _, _, _, _, rfl, rfl, SqL.of upd_same, rfl, _, _, rfl, rfl, _, rfl, ?_⟩
      refine boolIte (fun h1 => ?_) (fun h1 => ?_)
      · refine ⟨_, rfl, _, _, _, _, rfl, rfl, SqL.of upd_same, rfl, .inl ⟨_, rfl, _, rfl, _, _, rfl, rfl, n0, ?_⟩⟩
        refine ⟨_, rfl, _, _, _, _, rfl, rfl, SqL.of upd_same, rfl, _, rfl, _, _, rfl, rfl, wn, ?_⟩
        refine ⟨_, rfl, t, _, _, _, rfl, rfl, upd_same, rfl, ?_⟩
        refine ⟨_, rfl, ?_⟩
        rw [upd_upd]
        exact fin _ i _ sm c hi (Int.emod_nonneg _ (by omega)) (Int.emod_lt_of_pos _ n0)
      · refine ⟨_, rfl, _, _, _, _, rfl, rfl, SqL.of upd_same, rfl, _, rfl, _, _, _, _, rfl, rfl, SqL.of upd_same, rfl, _, _, rfl, rfl, .inl ⟨by decide, by decide⟩, _, _, rfl, rfl, _, _, rfl, rfl, .inl ⟨_, rfl, _, _, rfl, rfl, (by show (0 : Int) < 2147483647; decide), ?_⟩⟩
        have b1 := emod_in (x := sm + 7919 * c + 13) (m := 2147483647) (by decide)
        dsimp only
        generalize (sm + 7919 * c + 13) % 2147483647 = m1 at b1 ⊢
        refine ⟨_, rfl, _, rfl, _, _, rfl, rfl, _, _, rfl, rfl, .inl ⟨by omega, by omega⟩, .inl ⟨_, rfl, _, _, rfl, rfl, (by show (0 : Int) < 2147483629; decide), ?_⟩⟩
        have b2 := emod_in (x := m1 * (m1 + 48271)) (m := 2147483629) (by decide)
        dsimp only
        generalize m1 * (m1 + 48271) % 2147483629 = m2 at b2 ⊢
        refine ⟨_, rfl, _, rfl, _, _, rfl, rfl, _, _, rfl, rfl, .inl ⟨by omega, by omega⟩, _, rfl, _, _, _, _, rfl, rfl, SqL.of upd_same, rfl, _, _, rfl, rfl, .inl ⟨by decide, by decide⟩, _, _, rfl, rfl, .inl ⟨_, rfl, _, _, rfl, rfl, (by show (0 : Int) < 2147483647; decide), ?_⟩⟩
        refine ⟨_, rfl, _, _, rfl, rfl, wide_div (b := 4) (by decide) (by decide) (by decide) (by decide), .inl ⟨_, rfl, _, rfl, _, _, rfl, rfl, n0, ?_⟩⟩
        exact fin _ i b sm c hi (Int.emod_nonneg _ (by omega)) (Int.emod_lt_of_pos _ n0)
theorem ok_l_parents (T : Tx P K mg) (TB : TBs T base) : FnOk P w K mg base L2.CX0 2 T.a_l_parents T.d_l_parents ["_law_tape_here", "_law_most"] (spLParents) := by
  have G_l_next := ok_l_next (P := P) (w := w) (base := base) T TB
  refine T.F_l_parents.ok sc_l_parents (fun vs H Q E h => ?_) (fun cdv A outer s H vs Q E hr h => ?_)
  · obtain ⟨t, u, m, rfl, _⟩ := h
    rfl
  · obtain ⟨t, u, m, rfl, m1, m2, hT, q⟩ := h
    refine ⟨_, (pss_cons (ps_set (i := 2) sc_l_parents.nd rfl (Or.inl rfl) (pe_op op_add pe_int (pe_call G_l_next hr rfl T.g_l_next T.F_l_next.kp T.B_l_next .nil pass0 (pa_cons (pv 0) (pa_cons (pv 1) pa_nil)))))
          (pss_cons (ps_set (i := 3) sc_l_parents.nd rfl (Or.inl rfl) (pe_call G_l_next hr rfl T.g_l_next T.F_l_next.kp T.B_l_next .nil pass0 (pa_cons (pv 0) (pa_cons pe_int pa_nil))))
          (pss_cons (ps_set (i := 4) sc_l_parents.nd rfl (Or.inl rfl) (pe_lst pa_nil))
          (pss_cons (ps_for PassesOwn.never rfl (pi_range1 rfl T.z_range (pa_cons (pv 2) pa_nil)) (pg_name (i := 5) sc_l_parents.nd rfl (Or.inl rfl))
          (pss_one (ps_if (pt_cmpR op_eq (pv 3) pe_int (nomark _))
          (pss_one (ps_expr (pe_bm PySem.F.plainAttrs_list PySem.F.slot_list_append PySem.F.type_list_append mt_append (pv 4) (pa_cons (pv 5) pa_nil))))
          (pss_one (ps_expr (pe_bm PySem.F.plainAttrs_list PySem.F.slot_list_append PySem.F.type_list_append mt_append (pv 4) (pa_cons (pe_call G_l_next hr rfl T.g_l_next T.F_l_next.kp T.B_l_next .nil pass0 (pa_cons (pv 0) (pa_cons (pe_op op_add (pv 5) pe_int) pa_nil))) pa_nil)))))))
          (pss_one (ps_ret (pv 4))))))), ?_⟩
    refine ⟨_, rfl, _, rfl, t, u, (m : Int), rfl, by omega, by omega, hT, fun r H1 hr hT1 k1 _ => ?_⟩
    refine ⟨_, _, rfl, rfl, ?_⟩
    refine ⟨_, rfl, t, u, 3, rfl, by decide, by decide, hT1, fun kd H2 _ hT2 k2 _ => ?_⟩
    refine ⟨Nat.zero_le _, fun l hl => ?_⟩
    have k3 := k1.trans k2
    have hlt : l ≠ t := fun e => hT2.new (by rw [← e]; exact hl)
    have hlu : u ≠ l := fun e => hT2.newu (by rw [e]; exact hl)
    have hl0 : H l = Option.none := k3.free hlt hl
    refine ⟨_, rfl, _, rfl, by omega, by omega, for_range (fun i σ H' => ∃ (ps : List Nat) (v : Option V), σ = [some (.ref t), some (.int m), some (.int (1 + (r : Int))), some (.int (kd : Int)), some (.ref l), v] ∧ Tr.Ok ps ∧ ps.length = i ∧ Tape H' t u ∧ But t H H' ∧ H' l = some (.lst (nvs ps)))
      ⟨[], none, rfl, fun i p h => by simp at h, rfl, hT2.same (same_new hl), k3.trans (But.of_new hl), upd_same⟩ ?_ ?_⟩
    · rintro i _ H3 hi ⟨ps, v, rfl, ok, hlen, hT3, k4, h3⟩
      have add : ∀ (p : Nat) (H4 : Hp), p ≤ i → Tape H4 t u → But t H H4 → H4 l = some (.lst (nvs ps)) → ∃ (ps' : List Nat) (v : Option V), ([some (.ref t), some (.int m), some (.int (1 + (r : Int))), some (.int (kd : Int)), some (.ref l), some (.int (0 + (i : Int)))] : List (Option V)) = [some (.ref t), some (.int m), some (.int (1 + (r : Int))), some (.int (kd : Int)), some (.ref l), v] ∧ Tr.Ok ps' ∧ ps'.length = i + 1 ∧ Tape (upd H4 l (.lst (nvs ps ++ [V.int (p : Int)]))) t u ∧ But t H (upd H4 l (.lst (nvs ps ++ [V.int (p : Int)]))) ∧ (upd H4 l (.lst (nvs ps ++ [V.int (p : Int)]))) l = some (.lst (nvs ps')) := fun p H4 hp hT4 k5 h4 => by
        refine ⟨ps ++ [p], _, rfl, ?_, by rw [List.length_append, hlen]; rfl, ?_, k5.upd_at hl0, by rw [upd_same, nvs_snoc]⟩
        · intro j x hx
          rw [List.getElem?_append] at hx
          split at hx
          · exact ok j x hx
          · rename_i hj
            obtain rfl : p = x := by
              cases e : j - ps.length with
              | zero => rw [e] at hx; exact Option.some.inj hx
              | succ z => rw [e] at hx; cases hx
            omega
        · obtain ⟨xs, i', b', s', c', a1, a2, a3⟩ := hT4
          exact ⟨xs, i', b', s', c', by rw [upd_ne hlt.symm]; exact a1, by rw [upd_ne hlu]; exact a2, a3⟩
      refine ⟨_, rfl, rfl, _, rfl, ?_⟩
      refine boolIte (fun h1 => ?_) (fun h1 => ?_)
      · refine ⟨_, rfl, .inl ⟨rfl, _, SqL.of h3⟩, _, rfl, l, _, _, rfl, rfl, h3, size_lt (by rw [nvs_len]; omega), ?_⟩
        have := add i H3 (Nat.le_refl _) hT3 k4 h3
        rw [show ((0 : Int) + (i : Int)) = (i : Int) by omega] at this ⊢
        exact this
      · refine ⟨_, rfl, .inl ⟨rfl, _, SqL.of h3⟩, _, rfl, _, rfl, _, _, rfl, rfl, t, u, (0 + (i : Int) + 1), rfl, by omega, by omega, hT3, fun p H4 hp hT4 k5 same5 => ?_⟩
        have h4 : H4 l = some (.lst (nvs ps)) := k5 l _ hlt h3
        refine ⟨l, _, _, rfl, rfl, h4, size_lt (by rw [nvs_len]; omega), ?_⟩
        exact add p H4 (by omega) hT4 (k4.trans k5) h4
    · rintro _ H3 ⟨ps, v, rfl, ok, hlen, hT3, k4, h3⟩
      refine ⟨_, rfl, q l ps H3 ok (by omega) (by omega) hT3 k4 hl0 h3⟩
theorem ok_l_is_number (T : Tx P K mg) (TB : TBs T base) : FnQ P w K mg base 1 T.a_l_is_number T.d_l_is_number ["_law_thing"] (spIsNumber) := by
  refine EP.Fun.okQ T.F_l_is_number sc_l_is_number (fun vs H Q E h => ?_) (fun cdv A outer s H vs Q hr h => ?_)
  · obtain ⟨i, rfl, _⟩ := h
    rfl
  · obtain ⟨i, rfl, q⟩ := h
    refine ⟨_, (pss_one (ps_ret (pe_and (pe_callB (id := "isinstance") call_isi (by rfl) T.z_isinstance (by decide +kernel) (pa_cons (pv 0) (pa_cons (pe_bltn (v := .ty "int") rfl T.z_int (by decide +kernel) rfl) pa_nil))) (pe_one (pe_not (pe_callB (id := "isinstance") call_isi (by rfl) T.z_isinstance (by decide +kernel) (pa_cons (pv 0) (pa_cons (pe_bltn (v := .ty "bool") rfl T.z_bool (by decide +kernel) rfl) pa_nil)))))))), ?_⟩
    refine ⟨_, rfl, _, _, _, _, _, rfl, .ty "int", .base (.int i), kit_ty (r := true) (by decide +kernel), _, rfl, ?_⟩
    refine iteT ?_
    refine ⟨_, rfl, _, _, _, _, _, rfl, .ty "bool", .base (.int i), kit_ty (r := false) (by decide +kernel), _, rfl, q⟩
theorem ok_l_same (T : Tx P K mg) (TB : TBs T base) : FnOk P w K mg base L2.CX0 2 T.a_l_same T.d_l_same ["_law_told", "_law_due"] (spIntsZ K) := by
  have G_l_is_number := ok_l_is_number (P := P) (w := w) (base := base) T TB
  refine T.F_l_same.ok sc_l_same (fun vs H Q E h => ?_) (fun cdv A outer s H vs Q E hr h => ?_)
  · obtain ⟨x, y, L, rfl, _⟩ := h
    rfl
  · obtain ⟨x, y, L, rfl, hx, hy, sm, q⟩ := h
    have len : (L.map V.int).length = L.length := List.length_map ..
    have gt : ∀ {i : Nat} {p : Int}, L[i]? = some p → (L.map V.int)[i]? = some (.int p) := fun hp => by rw [List.getElem?_map, hp]; rfl
    refine ⟨_, (pss_cons (ps_if (PW.pt (pw_or (pt_not (pt_val (pe_callB (id := "isinstance") call_isi (by rfl) T.z_isinstance (by decide +kernel) (pa_cons (pv 0) (pa_cons (pe_bltn (v := .ty "list") rfl T.z_list (by decide +kernel) rfl) pa_nil))))) (pw_or1 (pt_cmpR op_ne (pe_callB (id := "len") call_len_seq (by rfl) T.z_len (by decide +kernel) (pa_cons (pv 0) pa_nil)) (pe_callB (id := "len") call_len_seq (by rfl) T.z_len (by decide +kernel) (pa_cons (pv 1) pa_nil)) (nomark _)))))
          (pss_one (ps_ret pe_bl))
          pss_nil)
          (pss_cons (ps_for PassesOwn.never rfl (pi_range1 rfl T.z_range (pa_cons (pe_callB (id := "len") call_len_seq (by rfl) T.z_len (by decide +kernel) (pa_cons (pv 1) pa_nil)) pa_nil)) (pg_name (i := 2) sc_l_same.nd rfl (Or.inl rfl))
          (pss_one (ps_if (PW.pt (pw_or (pt_not (pt_val (pe_callQ G_l_is_number ((roomH_of hr).mono (by decide)) rfl T.g_l_is_number T.F_l_is_number.kp T.B_l_is_number (pa_cons (pe_ix ix_list (pv 0) (pv 2) (fun _ _ => rfl)) pa_nil)))) (pw_or1 (pt_cmpR op_ne (pe_ix ix_list (pv 0) (pv 2) (fun _ _ => rfl)) (pe_ix ix_list (pv 1) (pv 2) (fun _ _ => rfl)) (nomark _)))))
          (pss_one (ps_ret pe_bl))
          pss_nil)))
          (pss_one (ps_ret pe_bl)))), ?_⟩
    refine ⟨_, rfl, _, _, _, _, _, rfl, .ty "list", .base (.lst hx), kit_ty (r := true) (by decide +kernel), _, rfl, ?_⟩
    refine iteF ?_
    refine ⟨_, rfl, x, _, rfl, .inl (SqL.of hx), _, rfl, y, _, rfl, .inl hy, rfl, _, rfl, ?_⟩
    refine ifF (by simp) ?_
    refine ⟨_, rfl, y, _, rfl, .inl hy, _, rfl, by omega, by omega, for_range (fun i σ H' => ∃ v : Option V, σ = [some (.ref x), some (.ref y), v] ∧ H' = H) ⟨none, rfl, rfl⟩ ?_ ?_⟩
    · rintro i _ H hi ⟨v, rfl, rfl⟩
      obtain ⟨p, hp⟩ : ∃ p, L[i]? = some p := ⟨L[i]'(by omega), List.getElem?_eq_getElem _⟩
      have e0 : (0 : Int) + (i : Int) = (i : Int) := by omega
      refine ⟨_, rfl, _, rfl, x, _, _, _, rfl, rfl, SqL.of hx, at_of e0 (gt hp), _, rfl, _, rfl, ?_⟩
      refine iteF ?_
      refine ⟨_, rfl, _, rfl, x, _, _, _, rfl, rfl, SqL.of hx, at_of e0 (gt hp), _, rfl, _, rfl, y, _, _, _, rfl, rfl, hy, at_of e0 (gt hp), rfl, _, rfl, ?_⟩
      exact ifF (by simp) ⟨_, rfl, rfl⟩
    · rintro _ H ⟨v, rfl, rfl⟩
      exact q
theorem okH_l_same (T : Tx P K mg) (TB : TBs T base) : L2H.FnH P w K mg base L2.CX0 2 T.a_l_same T.d_l_same ["_law_told", "_law_due"] (spIntsZ K) := by
  have G_l_is_number := ok_l_is_number (P := P) (w := w) (base := base) T TB
  refine EP.Fun.okH T.F_l_same sc_l_same (fun vs H Q E h => ?_) (fun cdv A outer s H vs Q E p0 hot hr h => ?_)
  · obtain ⟨x, y, L, rfl, _⟩ := h
    rfl
  · obtain ⟨x, y, L, rfl, hx, hy, sm, q⟩ := h
    have len : (L.map V.int).length = L.length := List.length_map ..
    have gt : ∀ {i : Nat} {p : Int}, L[i]? = some p → (L.map V.int)[i]? = some (.int p) := fun hp => by rw [List.getElem?_map, hp]; rfl
    refine ⟨_, (pss_cons (ps_if (PW.pt (pw_or (pt_not (pt_val (pe_callB (id := "isinstance") call_isi (by rfl) T.z_isinstance (by decide +kernel) (pa_cons (pv 0) (pa_cons (pe_bltn (v := .ty "list") rfl T.z_list (by decide +kernel) rfl) pa_nil))))) (pw_or1 (pt_cmpR op_ne (pe_callB (id := "len") call_len_seq (by rfl) T.z_len (by decide +kernel) (pa_cons (pv 0) pa_nil)) (pe_callB (id := "len") call_len_seq (by rfl) T.z_len (by decide +kernel) (pa_cons (pv 1) pa_nil)) (nomark _)))))
          (pss_one (ps_ret pe_bl))
          pss_nil)
          (pss_cons (L2H.ps_forH (passes_of rfl) (hot_def hot) (L2H.pi_range1H rfl T.z_range (pa_cons (pe_callB (id := "len") call_len_seq (by rfl) T.z_len (by decide +kernel) (pa_cons (pv 1) pa_nil)) pa_nil)) (pg_name (i := 2) sc_l_same.nd rfl (Or.inl rfl))
          (pss_one (ps_if (PW.pt (pw_or (pt_not (pt_val (pe_callQ G_l_is_number (hr.mono (by decide)) rfl T.g_l_is_number T.F_l_is_number.kp T.B_l_is_number (pa_cons (pe_ix ix_list (pv 0) (pv 2) (fun _ _ => rfl)) pa_nil)))) (pw_or1 (pt_cmpR op_ne (pe_ix ix_list (pv 0) (pv 2) (fun _ _ => rfl)) (pe_ix ix_list (pv 1) (pv 2) (fun _ _ => rfl)) (nomark _)))))
          (pss_one (ps_ret pe_bl))
          pss_nil)))
          (pss_one (ps_ret pe_bl)))), ?_⟩
    refine ⟨_, rfl, _, _, _, _, _, rfl, .ty "list", .base (.lst hx), kit_ty (r := true) (by decide +kernel), _, rfl, ?_⟩
    refine iteF ?_
    refine ⟨_, rfl, x, _, rfl, .inl (SqL.of hx), _, rfl, y, _, rfl, .inl hy, rfl, _, rfl, ?_⟩
    refine ifF (by simp) ?_
    refine ⟨_, rfl, y, _, rfl, .inl hy, _, rfl, by omega, by omega, for_range (fun i σ H' => ∃ v : Option V, σ = [some (.ref x), some (.ref y), v] ∧ H' = H) ⟨none, rfl, rfl⟩ ?_ ?_⟩
    · rintro i _ H hi ⟨v, rfl, rfl⟩
      obtain ⟨p, hp⟩ : ∃ p, L[i]? = some p := ⟨L[i]'(by omega), List.getElem?_eq_getElem _⟩
      have e0 : (0 : Int) + (i : Int) = (i : Int) := by omega
      refine ⟨_, rfl, _, rfl, x, _, _, _, rfl, rfl, SqL.of hx, at_of e0 (gt hp), _, rfl, _, rfl, ?_⟩
      refine iteF ?_
      refine ⟨_, rfl, _, rfl, x, _, _, _, rfl, rfl, SqL.of hx, at_of e0 (gt hp), _, rfl, _, rfl, y, _, _, _, rfl, rfl, hy, at_of e0 (gt hp), rfl, _, rfl, ?_⟩
      exact ifF (by simp) ⟨_, rfl, rfl⟩
    · rintro _ H ⟨v, rfl, rfl⟩
      exact q
theorem ok_l_wrong (T : Tx P K mg) (TB : TBs T base) : FnOk P w K mg base L2.CX0 1 T.a_l_wrong T.d_l_wrong ["_law_values", "_law_least", "_law_many"] (spWrong K) := by
  refine T.F_l_wrong.ok sc_l_wrong (fun vs H Q E h => ?_) (fun cdv A outer s H vs Q E hr h => ?_)
  · obtain ⟨l, ns, m, n, rfl, _⟩ := h
    rfl
  · obtain ⟨l, ns, m, n, rfl, hl, sm, bad, good⟩ := h
    have len : (ns.map V.int).length = ns.length := List.length_map ..
    refine ⟨_, (pss_cons (ps_for PassesOwn.never rfl (pi_range1 rfl T.z_range (pa_cons (pe_callB (id := "len") call_len_seq (by rfl) T.z_len (by decide +kernel) (pa_cons (pv 0) pa_nil)) pa_nil)) (pg_name (i := 3) sc_l_wrong.nd rfl (Or.inl rfl))
          (pss_one (ps_if (pt_cmpR op_lt (pe_ix ix_list (pv 0) (pv 3) (fun _ _ => rfl)) (pv 1) (nomark _))
          (pss_one (ps_ret (pv 3)))
          pss_nil)))
          (pss_cons (ps_if (pt_cmpR op_ne (pe_callB (id := "len") call_len_seq (by rfl) T.z_len (by decide +kernel) (pa_cons (pv 0) pa_nil)) (pv 2) (nomark _))
          (pss_one (ps_ret (pe_callB (id := "len") call_len_seq (by rfl) T.z_len (by decide +kernel) (pa_cons (pv 0) pa_nil))))
          pss_nil)
          (pss_one (ps_ret pe_non)))), ?_⟩
    refine ⟨_, rfl, l, _, rfl, .inl hl, _, rfl, by omega, by omega, for_range (fun i σ H' => ∃ v : Option V, σ = [some (.ref l), some (.int m), some (.int (n : Int)), v] ∧ H' = H ∧ ∀ j p, j < i → ns[j]? = some p → m ≤ p) ⟨none, rfl, rfl, fun j p hj => absurd hj (Nat.not_lt_zero _)⟩ ?_ ?_⟩
    · rintro i _ _ hi ⟨v, rfl, rfl, nw⟩
      rw [len] at hi
      obtain ⟨p, hp⟩ : ∃ p, ns[i]? = some p := ⟨ns[i]'(by omega), List.getElem?_eq_getElem _⟩
      have e0 : (0 : Int) + (i : Int) = (i : Int) := by omega
      rw [e0]
      refine ⟨_, rfl, _, rfl, l, _, _, _, rfl, rfl, hl, at_of (j := i) rfl (ints_get hp), _, rfl, _, _, rfl, rfl, _, rfl, ?_⟩
      refine boolIte (fun h1 => ⟨_, rfl, bad _ (.inl ⟨i, rfl, ⟨p, hp, of_decide_eq_true h1⟩, nw⟩)⟩) (fun h1 => ?_)
      refine ⟨_, rfl, rfl, fun j q hj hq => ?_⟩
      by_cases c : j < i
      · exact nw j q c hq
      · obtain rfl : j = i := by omega
        rw [hp] at hq
        cases hq
        have := of_decide_eq_false h1
        omega
    · rintro _ _ ⟨v, rfl, rfl, nw⟩
      have al : ∀ v, v ∈ ns → m ≤ v := fun v hv => by
        obtain ⟨j, hj⟩ := List.getElem?_of_mem hv
        exact nw j v (by have := (List.getElem?_eq_some_iff.mp hj).1; omega) hj
      refine ⟨_, rfl, l, _, rfl, .inl hl, _, rfl, rfl, _, rfl, ?_⟩
      refine notIte (fun h1 => ?_) (fun h1 => ?_)
      · have := V.int.inj (of_decide_eq_true h1)
        exact good ⟨al, by omega⟩
      · have := of_decide_eq_false h1
        refine ⟨_, rfl, l, _, rfl, .inl hl, bad _ (.inr ⟨al, by rw [len], fun e => this (by rw [len, e])⟩)⟩
theorem ok_l_closed (T : Tx P K mg) (TB : TBs T base) : FnOk P w K mg base L2.CX0 1 T.a_l_closed T.d_l_closed ["_law_parents_here", "_law_lengths", "_law_weights"] (spClosedN K) := by
  refine T.F_l_closed.ok sc_l_closed (fun vs H Q E h => ?_) (fun cdv A outer s H vs Q E hr h => ?_)
  · obtain ⟨p, l, w, ps, ls, ws, rfl, _⟩ := h
    rfl
  · obtain ⟨p, l, w, ps, ls, ws, rfl, hp, hl, hw, ok, ll, lw, n8, q⟩ := h
    refine ⟨_, (pss_cons (ps_set (i := 3) sc_l_closed.nd rfl (Or.inl rfl) (pe_lst (pa_cons (pe_tup (pa_cons pe_int (pa_cons pe_int (pa_cons (pe_lst pa_nil) pa_nil)))) pa_nil)))
          (pss_cons (ps_for PassesOwn.never rfl (pi_range2 rfl T.z_range (pa_cons pe_int (pa_cons (pe_op op_add (pe_callB (id := "len") call_len_seq (by rfl) T.z_len (by decide +kernel) (pa_cons (pv 0) pa_nil)) pe_int) pa_nil))) (pg_name (i := 4) sc_l_closed.nd rfl (Or.inl rfl))
          (pss_cons (ps_set (i := 5) sc_l_closed.nd rfl (Or.inl rfl) (pe_lst pa_nil))
          (pss_cons (ps_for PassesOwn.never rfl (pi_list (pv 3)) (pg_name (i := 6) sc_l_closed.nd rfl (Or.inl rfl))
          (pss_one (ps_if (PW.pt (pw_or (pt_cmpR op_eq (pe_ix ix_list (pv 0) (pe_op op_sub (pv 4) pe_int) (fun _ _ => rfl)) pe_int (nomark _)) (pw_or1 (pt_cmpR op_in_seq (pe_ix ix_list (pv 0) (pe_op op_sub (pv 4) pe_int) (fun _ _ => rfl)) (pe_ix ix_tup (pv 6) pe_int (fun _ _ => rfl)) (by rfl)))))
          (pss_one (ps_expr (pe_bm PySem.F.plainAttrs_list PySem.F.slot_list_append PySem.F.type_list_append mt_append (pv 5) (pa_cons (pe_tup (pa_cons (pe_op op_add (pe_ix ix_tup (pv 6) pe_int (fun _ _ => rfl)) (pe_ix ix_list (pv 1) (pe_op op_sub (pv 4) pe_int) (fun _ _ => rfl))) (pa_cons (pe_op op_add (pe_ix ix_tup (pv 6) pe_int (fun _ _ => rfl)) (pe_ix ix_list (pv 2) (pe_op op_sub (pv 4) pe_int) (fun _ _ => rfl))) (pa_cons (pe_op op_cat (pe_ix ix_tup (pv 6) pe_int (fun _ _ => rfl)) (pe_lst (pa_cons (pv 4) pa_nil))) pa_nil)))) pa_nil))))
          pss_nil)))
          (pss_one (ps_set (i := 3) sc_l_closed.nd rfl (Or.inl rfl) (pe_op op_cat (pv 3) (pv 5)))))))
          (pss_one (ps_ret (pv 3))))), ?_⟩
    refine ⟨Nat.zero_le _, fun e0 ne0 => ?_⟩
    refine ⟨(by show 3 ≤ sizeLine; exact size_le (by omega)), fun t0 nt0 => ?_⟩
    refine ⟨(by show 1 ≤ sizeLine; exact size_le (by omega)), fun a0 na0 => ?_⟩
    have s0 := ((same_new (o := .lst []) ne0).trans (same_new (o := .tup [V.int 0, V.int 0, V.ref e0]) nt0)).trans (same_new (o := .lst [V.ref t0]) na0)
    have S0 : SetsAt (upd (upd (upd H e0 (.lst [])) t0 (.tup [V.int 0, V.int 0, V.ref e0])) a0 (.lst [V.ref t0])) ls ws a0 (Tn.clS (Tr.par ps) 0) := ⟨[t0], upd_same, rfl, fun i r S hr hS => by
      match i, hr, hS with
      | 0, hr, hS =>
        obtain rfl : t0 = r := Option.some.inj hr
        obtain rfl : [] = S := Option.some.inj hS
        exact ⟨e0, (same_new na0) _ _ upd_same, ((same_new nt0).trans (same_new na0)) _ _ upd_same⟩
      | n + 1, hr, _ => simp at hr⟩
    have A0 : (upd (upd (upd H e0 (.lst [])) t0 (.tup [V.int 0, V.int 0, V.ref e0])) a0 (.lst [V.ref t0])) a0 = some (.lst [V.ref t0]) := upd_same
    have T0 : (upd (upd (upd H e0 (.lst [])) t0 (.tup [V.int 0, V.int 0, V.ref e0])) a0 (.lst [V.ref t0])) t0 = some (.tup [V.int 0, V.int 0, V.ref e0]) := (same_new na0) _ _ upd_same
    have fr0 : H a0 = none := ((same_new (o := .lst []) ne0).trans (same_new (o := .tup [V.int 0, V.int 0, V.ref e0]) nt0)).free na0
    generalize upd (upd (upd H e0 (.lst [])) t0 (.tup [V.int 0, V.int 0, V.ref e0])) a0 (.lst [V.ref t0]) = H0 at s0 S0 A0 T0
    have fe0 := ne0
    clear ne0 nt0 na0
    have lnv := nvs_len ps
    refine ⟨_, rfl, p, _, rfl, .inl (s0.seq hp), _, _, rfl, rfl, _, _, rfl, ⟨by decide, by decide, by omega, by omega⟩, for_range (lo := 1) (fun i σ H' => ∃ (a : Addr) (x y z : Option V), σ = [some (.ref p), some (.ref l), some (.ref w), some (.ref a), x, y, z] ∧ Same H H' ∧ H a = none ∧ SetsAt H' ls ws a (Tn.clS (Tr.par ps) i) ∧ Same H0 H' ∧ ∃ xh : List V, H' a = some (.lst (V.ref t0 :: xh))) ⟨a0, none, none, none, rfl, s0, fr0, S0, Same.refl _, [], A0⟩ ?_ ?_⟩
    · rintro i _ H1 hi ⟨a, x, y, z, rfl, s1, fa, S1, s1', xh, A1⟩
      have hi' : i < ps.length := by omega
      have e1 : (1 : Int) + (i : Int) = ((i + 1 : Nat) : Int) := by omega
      rw [e1]
      refine ⟨Nat.zero_le _, fun m nm => ?_⟩
      have S2 := S1.same (same_new (o := .lst []) nm)
      obtain ⟨rs, r1, r2, r3⟩ := S2
      have lc := Tn.clS_len (Tr.par ps) i
      have l8 : (Tn.clS (Tr.par ps) i).length ≤ 256 := Nat.le_trans lc (Nat.pow_le_pow_right (by decide) (show i ≤ 8 by omega))
      have keep : ∀ {H'}, Same (upd H1 m (.lst [])) H' ∨ Same H1 H' → SqL K H' a (rs.map V.ref) := fun h => by
        rcases h with h | h
        · exact SqL.of (h _ _ r1)
        · refine SqL.of (h _ _ ?_)
          have am : a ≠ m := fun e => by
            obtain ⟨rs', q1, _⟩ := S1
            rw [e, nm] at q1
            cases q1
          rw [upd_ne am] at r1
          exact r1
      have r3' : ∀ (j : Nat) (r : Addr) (S : List Nat), rs[j]? = some r → (Tn.clS (Tr.par ps) i)[j]? = some S → SetT H1 ls ws r S := fun j r S hr hS => by
        obtain ⟨rs', q1, q2, q3⟩ := S1
        have am : a ≠ m := fun e => by rw [e, nm] at q1; cases q1
        rw [upd_ne am, q1] at r1
        have e : rs'.map V.ref = rs.map V.ref := HO.lst.inj (Option.some.inj r1)
        have e2 : rs' = rs := by
          have inj : ∀ {x y : List Addr}, x.map V.ref = y.map V.ref → x = y := fun {x} => by
            induction x with
            | nil => intro y h; cases y with
              | nil => rfl
              | cons b y => cases h
            | cons b x ih => intro y h; cases y with
              | nil => cases h
              | cons c y =>
                injection h with h1 h2
                rw [V.ref.inj h1, ih h2]
          exact inj e
        rw [e2] at q3
        exact q3 j r S hr hS
      refine ⟨_, rfl, a, rfl, ⟨_, SqL.of r1⟩, for_list (K := K) (a := a) (xs := rs.map V.ref) (fun j σ H' => ∃ y : Option V, σ = [some (.ref p), some (.ref l), some (.ref w), some (.ref a), some (.int ((i + 1 : Nat) : Int)), some (.ref m), y] ∧ MoreAt H1 H' ls ws m ((((Tn.clS (Tr.par ps) i).take j).filter fun S => decide (Tr.par ps (i + 1) = 0) || decide (Tr.par ps (i + 1) ∈ S)).map (· ++ [i + 1]))) ⟨_, rfl, MoreAt.nil nm⟩ (fun j σ H' _ ⟨_, _, mo⟩ => keep (.inr (let ⟨_, _, _, s, _⟩ := mo; s))) ?_ ?_⟩
      · rintro j xx _ H2 hx ⟨y, rfl, mo⟩
        obtain ⟨r, hr, rfl⟩ : ∃ r, rs[j]? = some r ∧ xx = V.ref r := by
          rw [List.getElem?_map] at hx
          cases e : rs[j]? with
          | none => rw [e] at hx; cases hx
          | some p => rw [e] at hx; cases hx; exact ⟨p, rfl, rfl⟩
        have hj := (List.getElem?_eq_some_iff.mp hr).1
        have hjS : j < (Tn.clS (Tr.par ps) i).length := by omega
        have hS := List.getElem?_eq_getElem hjS
        obtain ⟨qq, t1, t2⟩ := r3' j r _ hr hS
        generalize hS0 : (Tn.clS (Tr.par ps) i)[j] = S0' at hS t1 t2
        have et : (Tn.clS (Tr.par ps) i).take (j + 1) = (Tn.clS (Tr.par ps) i).take j ++ [S0'] := by rw [List.take_succ_eq_append_getElem hjS, hS0]
        have s12 : Same H1 H2 := let ⟨_, _, _, s, _⟩ := mo; s
        have s02 := s1.trans s12
        have t1 := s12 _ _ t1
        have t2 := s12 _ _ t2
        have hm : ∃ xs, H2 m = some (.lst xs) := let ⟨_, h, _⟩ := mo; ⟨_, h⟩
        obtain ⟨xs0, hm⟩ := hm
        have lS : S0'.length ≤ 8 := by
          have h := (Tn.clS_ok (List.mem_of_getElem? hS)).1
          exact Nat.le_trans (Tn.nodup_len (n := i) (h.1.imp fun e => by omega) h.2) (by omega)
        have ll' : ((((Tn.clS (Tr.par ps) i).take j).filter fun S => decide (Tr.par ps (i + 1) = 0) || decide (Tr.par ps (i + 1) ∈ S)).map (· ++ [i + 1])).length ≤ 256 := by
          rw [List.length_map]
          exact Nat.le_trans (List.length_filter_le _ _) (by rw [List.length_take]; omega)
        have yes : (decide (Tr.par ps (i + 1) = 0) || decide (Tr.par ps (i + 1) ∈ S0')) = true → (((Tn.clS (Tr.par ps) i).take (j + 1)).filter fun S => decide (Tr.par ps (i + 1) = 0) || decide (Tr.par ps (i + 1) ∈ S)).map (· ++ [i + 1]) = (((Tn.clS (Tr.par ps) i).take j).filter fun S => decide (Tr.par ps (i + 1) = 0) || decide (Tr.par ps (i + 1) ∈ S)).map (· ++ [i + 1]) ++ [S0' ++ [i + 1]] := fun h => by
          rw [et, List.filter_append, List.map_append]
          simp only [List.filter_cons, h, if_true, List.filter_nil, List.map_cons, List.map_nil]
        have no : (decide (Tr.par ps (i + 1) = 0) || decide (Tr.par ps (i + 1) ∈ S0')) = false → (((Tn.clS (Tr.par ps) i).take (j + 1)).filter fun S => decide (Tr.par ps (i + 1) = 0) || decide (Tr.par ps (i + 1) ∈ S)).map (· ++ [i + 1]) = (((Tn.clS (Tr.par ps) i).take j).filter fun S => decide (Tr.par ps (i + 1) = 0) || decide (Tr.par ps (i + 1) ∈ S)).map (· ++ [i + 1]) := fun h => by
          rw [et, List.filter_append, List.map_append]
          simp [List.filter_cons, h]
        have SL := s02.seq hl
        have SW := s02.seq hw
        have SP := s02.seq hp
        have tp := SqT.of (K := K) t1
        have wl : ∀ (D : Prop → Prop), True := fun _ => trivial
        generalize hg : ((((Tn.clS (Tr.par ps) i).take j).filter fun S => decide (Tr.par ps (i + 1) = 0) || decide (Tr.par ps (i + 1) ∈ S)).map (· ++ [i + 1])) = LL at mo ll' yes no
        refine ⟨_, rfl, _, rfl, _, _, rfl, rfl, p, _, _, _, rfl, rfl, SP, par_at (k := i + 1) ok (by omega) (by omega) rfl, rfl, _, rfl, ?_⟩
        have add : (decide (Tr.par ps (i + 1) = 0) || decide (Tr.par ps (i + 1) ∈ S0')) = true → ∀ (o q2 t3 : Addr), H2 o = none → (upd H2 o (.lst [V.int ((i + 1 : Nat) : Int)])) q2 = none → (upd (upd H2 o (.lst [V.int ((i + 1 : Nat) : Int)])) q2 (.lst (nvs S0' ++ [V.int ((i + 1 : Nat) : Int)]))) t3 = none →
            ∃ acc, (upd (upd (upd H2 o (.lst [V.int ((i + 1 : Nat) : Int)])) q2 (.lst (nvs S0' ++ [V.int ((i + 1 : Nat) : Int)]))) t3 (.tup [.int (Tn.sumL (vf ls) S0' + vf ls (i + 1)), .int (Tn.sumL (vf ws) S0' + vf ws (i + 1)), .ref q2])) m = some (.lst acc) ∧ acc.length = LL.length ∧
              MoreAt H1 (upd (upd (upd (upd H2 o (.lst [V.int ((i + 1 : Nat) : Int)])) q2 (.lst (nvs S0' ++ [V.int ((i + 1 : Nat) : Int)]))) t3 (.tup [.int (Tn.sumL (vf ls) S0' + vf ls (i + 1)), .int (Tn.sumL (vf ws) S0' + vf ws (i + 1)), .ref q2])) m (.lst (acc ++ [V.ref t3]))) ls ws m (LL ++ [S0' ++ [i + 1]]) := fun _ o q2 t3 no nq nt => by
          have sA := (same_new (o := .lst [V.int ((i + 1 : Nat) : Int)]) no).trans (same_new (o := .lst (nvs S0' ++ [V.int ((i + 1 : Nat) : Int)])) nq)
          have sB := sA.trans (same_new (o := .tup [.int (Tn.sumL (vf ls) S0' + vf ls (i + 1)), .int (Tn.sumL (vf ws) S0' + vf ws (i + 1)), .ref q2]) nt)
          refine mo.snoc nm sB (sA.free nt) ((same_new no).free nq) ?_ ?_
          · rw [upd_same, Tn.sumL_snoc, Tn.sumL_snoc]
          · rw [← nvs_snoc]
            exact (same_new nt) _ _ upd_same
        refine boolIte (fun e => ?_) (fun e => ?_)
        · have cc : (decide (Tr.par ps (i + 1) = 0) || decide (Tr.par ps (i + 1) ∈ S0')) = true := by
            have := V.int.inj (of_decide_eq_true e)
            rw [decide_eq_true (show Tr.par ps (i + 1) = 0 by omega)]
            rfl
          refine ⟨_, rfl, .inl ⟨rfl, _, SqL.of hm⟩, _, rfl, r, _, _, _, rfl, rfl, tp, at_of (j := 0) rfl rfl, _, rfl, _, rfl, _, _, rfl, rfl, l, _, _, _, rfl, rfl, SL, vf_at (k := i + 1) (by omega) (by omega) rfl, _, _, rfl, rfl, _, rfl, r, _, _, _, rfl, rfl, tp, at_of (j := 1) rfl rfl, _, rfl, _, rfl, _, _, rfl, rfl, w, _, _, _, rfl, rfl, SW, vf_at (k := i + 1) (by omega) (by omega) rfl, _, _, rfl, rfl, _, rfl, r, _, _, _, rfl, rfl, tp, at_of (j := 2) rfl rfl, _, rfl, (by show 1 ≤ sizeLine; exact size_le (by omega)), fun o no' => ?_⟩
          refine ⟨qq, o, _, _, rfl, rfl, (same_new no') _ _ t2, upd_same, size_le (by rw [nvs_len]; show _ + 1 ≤ 2000; omega), fun q2 nq => ?_⟩
          refine ⟨(by show 3 ≤ sizeLine; exact size_le (by omega)), fun t3 nt => ?_⟩
          obtain ⟨acc, a1, a2, a3⟩ := add cc o q2 t3 no' nq nt
          exact ⟨m, acc, _, rfl, rfl, a1, size_lt (by omega), _, rfl, by rw [yes cc]; exact a3⟩
        have e := of_decide_eq_false e
        refine ⟨_, rfl, _, rfl, _, _, rfl, rfl, p, _, _, _, rfl, rfl, SP, par_at (k := i + 1) ok (by omega) (by omega) rfl, _, rfl, r, _, _, _, rfl, rfl, tp, at_of (j := 2) rfl rfl, qq, _, rfl, .inl (SqL.of t2), rfl, nvs_flat _, _, rfl, ?_⟩
        rw [nvs_in rfl]
        refine boolIte (fun e2 => ?_) (fun e2 => ?_)
        · have cc : (decide (Tr.par ps (i + 1) = 0) || decide (Tr.par ps (i + 1) ∈ S0')) = true := by
            rw [show decide (Tr.par ps (i + 1) ∈ S0') = true from e2, Bool.or_true]
          refine ⟨_, rfl, .inl ⟨rfl, _, SqL.of hm⟩, _, rfl, r, _, _, _, rfl, rfl, tp, at_of (j := 0) rfl rfl, _, rfl, _, rfl, _, _, rfl, rfl, l, _, _, _, rfl, rfl, SL, vf_at (k := i + 1) (by omega) (by omega) rfl, _, _, rfl, rfl, _, rfl, r, _, _, _, rfl, rfl, tp, at_of (j := 1) rfl rfl, _, rfl, _, rfl, _, _, rfl, rfl, w, _, _, _, rfl, rfl, SW, vf_at (k := i + 1) (by omega) (by omega) rfl, _, _, rfl, rfl, _, rfl, r, _, _, _, rfl, rfl, tp, at_of (j := 2) rfl rfl, _, rfl, (by show 1 ≤ sizeLine; exact size_le (by omega)), fun o no' => ?_⟩
          refine ⟨qq, o, _, _, rfl, rfl, (same_new no') _ _ t2, upd_same, size_le (by rw [nvs_len]; show _ + 1 ≤ 2000; omega), fun q2 nq => ?_⟩
          refine ⟨(by show 3 ≤ sizeLine; exact size_le (by omega)), fun t3 nt => ?_⟩
          obtain ⟨acc, a1, a2, a3⟩ := add cc o q2 t3 no' nq nt
          exact ⟨m, acc, _, rfl, rfl, a1, size_lt (by omega), _, rfl, by rw [yes cc]; exact a3⟩
        · have cc : (decide (Tr.par ps (i + 1) = 0) || decide (Tr.par ps (i + 1) ∈ S0')) = false := by
            rw [show decide (Tr.par ps (i + 1) ∈ S0') = false from e2, Bool.or_false]
            exact decide_eq_false fun z => e (congrArg V.int (by rw [z]; rfl))
          exact ⟨_, rfl, by rw [no cc]; exact mo⟩
      · rintro _ H2 ⟨y, rfl, mo⟩
        rw [List.length_map, List.take_of_length_le (by omega)] at mo
        have s12 : Same H1 H2 := let ⟨_, _, _, s, _⟩ := mo; s
        have l2 : (((Tn.clS (Tr.par ps) i).filter fun S => decide (Tr.par ps (i + 1) = 0) || decide (Tr.par ps (i + 1) ∈ S)).map (· ++ [i + 1])).length ≤ 256 := by
          rw [List.length_map]
          exact Nat.le_trans (List.length_filter_le _ _) l8
        refine ⟨_, rfl, _, rfl, ?_⟩
        obtain ⟨xs, ys, x1, x2, x3, x4, x5⟩ := (S1.same s12).app (z := 0) mo.sets (Same.refl H2)
        refine ⟨a, m, xs, ys, rfl, rfl, x1, x2, size_le (by omega), fun zz nz => ?_⟩
        obtain ⟨xs', ys', y1, y2, _, _, y5⟩ := (S1.same s12).app (z := zz) mo.sets (same_new (o := .lst (xs ++ ys)) nz)
        rw [x1] at y1
        rw [x2] at y2
        cases y1
        cases y2
        exact ⟨zz, _, _, _, rfl, s1.trans (s12.trans (same_new nz)), s1.free (s12.free nz), y5 upd_same, s1'.trans (s12.trans (same_new nz)), _, by
          have A2 := s12 _ _ A1
          rw [x1] at A2
          rw [upd_same, HO.lst.inj (Option.some.inj A2)]
          rfl⟩
    rintro _ H1 ⟨a, x, y, z, rfl, s1, fa, S1, s1', xh, A1⟩
    rw [lnv, show ((ps.length : Int) + 1 - 1).toNat = ps.length by omega] at S1
    exact ⟨_, rfl, q a t0 e0 xh H1 s1 fa fe0 S1 A1 (s1' _ _ T0)⟩
theorem ok_l_dug (T : Tx P K mg) (TB : TBs T base) : FnOk P w K mg base L2.CX0 3 T.a_l_dug T.d_l_dug ["_law_tape_here"] (spDug) := by
  have G_l_next := ok_l_next (P := P) (w := w) (base := base) T TB
  have G_l_parents := ok_l_parents (P := P) (w := w) (base := base) T TB
  refine T.F_l_dug.ok sc_l_dug (fun vs H Q E h => ?_) (fun cdv A outer s H vs Q E hr h => ?_)
  · obtain ⟨t, u, rfl, _⟩ := h
    rfl
  · obtain ⟨t, u, rfl, hT, q⟩ := h
    refine ⟨_, (pss_cons (ps_set (i := 1) sc_l_dug.nd rfl (Or.inl rfl) (pe_call G_l_parents hr rfl T.g_l_parents T.F_l_parents.kp T.B_l_parents .nil pass0 (pa_cons (pv 0) (pa_cons (pe_ix ix_list (pe_lst (pa_cons pe_int (pa_cons pe_int (pa_cons pe_int (pa_cons pe_int (pa_cons pe_int (pa_cons pe_int (pa_cons pe_int (pa_cons pe_int pa_nil))))))))) (pe_call G_l_next (hr.mono (by decide)) rfl T.g_l_next T.F_l_next.kp T.B_l_next .nil pass0 (pa_cons (pv 0) (pa_cons pe_int pa_nil))) (fun _ _ => rfl)) pa_nil))))
          (pss_cons (ps_set (i := 2) sc_l_dug.nd rfl (Or.inl rfl) (pe_call G_l_next (hr.mono (by decide)) rfl T.g_l_next T.F_l_next.kp T.B_l_next .nil pass0 (pa_cons (pv 0) (pa_cons pe_int pa_nil))))
          (pss_cons (ps_set (i := 3) sc_l_dug.nd rfl (Or.inr rfl) (pe_lst (pa_cons pe_int (pa_cons pe_int pa_nil))))
          (C8.pss_cut (ps_if (pt_cmpR op_eq (pe_call G_l_next (hr.mono (by decide)) rfl T.g_l_next T.F_l_next.kp T.B_l_next .nil pass0 (pa_cons (pv 0) (pa_cons pe_int pa_nil))) pe_int (nomark _))
          (pss_cons (ps_set (i := 3) sc_l_dug.nd rfl (Or.inr rfl) (pe_lst (pa_cons pe_int (pa_cons pe_int pa_nil))))
          (pss_one (ps_if (pt_cmpR op_lt (pv 2) pe_int (nomark _))
          (pss_one (ps_set (i := 3) sc_l_dug.nd rfl (Or.inr rfl) (pe_lst (pa_cons pe_int (pa_cons pe_int pa_nil)))))
          pss_nil)))
          pss_nil)
          (pss_cons (ps_setLc (i := 4) (own := [("_law_k", 5)]) (g := gName 5) (tt := tYes) rfl sc_l_dug.nd rfl rfl (sw_true rfl rfl rfl (by decide +kernel)) (pi_list (pv 1)) (blkOk_by (N := ["_law_tape_here", "_law_parents_here", "_law_kind", "_law_bounds", "_law_lengths", "_law_k", "_law_length"]) (sc := defScope s_l_dug) (by decide +kernel)) (fun _ _ _ _ _ => (pg_name (i := 5) sc_l_dug.nd rfl (Or.inl rfl))) (fun _ _ _ _ _ => pts_nil) (fun _ _ _ _ _ => (pe_op op_add pe_int (pe_call G_l_next (hr.mono (by decide)) rfl T.g_l_next T.F_l_next.kp T.B_l_next .nil pass0 (pa_cons (pv 0) (pa_cons (pe_ix (ix_listK (K := K)) (pv 3) pe_int (fun _ _ => rfl)) pa_nil))))))
          (pss_cons (ps_if (pt_cmpR op_eq (pv 2) pe_int (nomark _))
          (pss_one (ps_ret (pe_tup (pa_cons (pv 1) (pa_cons (pv 4) (pa_cons (pe_lc (own := [("_law_k", 5)]) (g := gName 5) (tt := tYes) rfl sc_l_dug.nd (pi_list (pv 1)) (blkOk_by (N := ["_law_tape_here", "_law_parents_here", "_law_kind", "_law_bounds", "_law_lengths", "_law_k", "_law_length"]) (sc := defScope s_l_dug) (by decide +kernel)) (fun _ _ _ _ _ => (pg_name (i := 5) sc_l_dug.nd rfl (Or.inl rfl))) (fun _ _ _ _ _ => pts_nil) (fun _ _ _ _ _ => pe_int)) pa_nil))))))
          pss_nil)
          (pss_cons (ps_if (pt_cmpR op_lt (pv 2) pe_int (nomark _))
          (pss_one (ps_ret (pe_tup (pa_cons (pv 1) (pa_cons (pv 4) (pa_cons (pe_lc (own := [("_law_length", 6)]) (g := gName 6) (tt := tYes) rfl sc_l_dug.nd (pi_list (pv 4)) (blkOk_by (N := ["_law_tape_here", "_law_parents_here", "_law_kind", "_law_bounds", "_law_lengths", "_law_k", "_law_length"]) (sc := defScope s_l_dug) (by decide +kernel)) (fun _ _ _ _ _ => (pg_name (i := 6) sc_l_dug.nd rfl (Or.inl rfl))) (fun _ _ _ _ _ => pts_nil) (fun _ _ _ _ _ => (pe_op op_mul (pv 6) (pe_call G_l_next (hr.mono (by decide)) rfl T.g_l_next T.F_l_next.kp T.B_l_next .nil pass0 (pa_cons (pv 0) (pa_cons pe_int pa_nil)))))) pa_nil))))))
          pss_nil)
          (pss_one (ps_ret (pe_tup (pa_cons (pv 1) (pa_cons (pv 4) (pa_cons (pe_lc (own := [("_law_k", 5)]) (g := gName 5) (tt := tYes) rfl sc_l_dug.nd (pi_list (pv 1)) (blkOk_by (N := ["_law_tape_here", "_law_parents_here", "_law_kind", "_law_bounds", "_law_lengths", "_law_k", "_law_length"]) (sc := defScope s_l_dug) (by decide +kernel)) (fun _ _ _ _ _ => (pg_name (i := 5) sc_l_dug.nd rfl (Or.inl rfl))) (fun _ _ _ _ _ => pts_nil) (fun _ _ _ _ _ => (pe_call G_l_next (hr.mono (by decide)) rfl T.g_l_next T.F_l_next.kp T.B_l_next .nil pass0 (pa_cons (pv 0) (pa_cons (pe_ix (ix_listK (K := K)) (pv 3) pe_int (fun _ _ => rfl)) pa_nil))))) pa_nil))))))))))))), ?_⟩
    refine ⟨_, rfl, (by show 8 ≤ sizeLine; exact size_le (by omega)), fun a0 n0 => ?_⟩
    have s0 := same_new (o := .lst [V.int 6, V.int 6, V.int 6, V.int 8, V.int 6, V.int 6, V.int 6, V.int 6]) n0
    have a0t := hT.ne_new n0
    have hT0 := hT.same s0
    refine ⟨_, rfl, t, u, 8, rfl, by decide, by decide, hT0, fun x H1 hx hT1 k1 _ => ?_⟩
    have hx' : x < 8 := by omega
    have ha0 := k1 a0 _ a0t upd_same
    obtain ⟨m, m1, m2, hm⟩ : ∃ m : Nat, 1 ≤ m ∧ m ≤ 8 ∧ ([V.int 6, V.int 6, V.int 6, V.int 8, V.int 6, V.int 6, V.int 6, V.int 6] : List V)[x]? = some (V.int ((m : Nat) : Int)) := by
      match x, hx' with
      | 0, _ => exact ⟨6, by decide, by decide, rfl⟩
      | 1, _ => exact ⟨6, by decide, by decide, rfl⟩
      | 2, _ => exact ⟨6, by decide, by decide, rfl⟩
      | 3, _ => exact ⟨8, by decide, by decide, rfl⟩
      | 4, _ => exact ⟨6, by decide, by decide, rfl⟩
      | 5, _ => exact ⟨6, by decide, by decide, rfl⟩
      | 6, _ => exact ⟨6, by decide, by decide, rfl⟩
      | 7, _ => exact ⟨6, by decide, by decide, rfl⟩
      | n + 8, h => exact absurd h (by omega)
    refine ⟨a0, _, _, _, rfl, rfl, SqL.of ha0, at_of (j := x) rfl hm, t, u, m, rfl, m1, by omega, hT1, fun p ps H2 ok p1 pm hT2 k2 np hp => ?_⟩
    have pt := hT2.ne hp
    have k02 := (But.of_same (s := t) s0).trans (k1.trans k2)
    refine ⟨_, rfl, t, u, 8, rfl, by decide, by decide, hT2, fun kd H3 hkd hT3 k3 _ => ?_⟩
    have hp3 := k3 p _ pt hp
    have k03 := k02.trans k3
    refine ⟨(by show 2 ≤ sizeLine; exact size_le (by omega)), fun b0 nb0 => ?_⟩
    have s4 := same_new (o := .lst [V.int 5, V.int 7]) nb0
    have b0t := hT3.ne_new nb0
    have hT4 := hT3.same s4
    have hp4 := s4 _ _ hp3
    refine ⟨fun σ H' => ∃ (b : Addr) (x y : Nat), σ = [some (.ref t), some (.ref p), some (.int (kd : Int)), some (.ref b), none, none, none] ∧ H' b = some (.lst [.int (x : Nat), .int (y : Nat)]) ∧ b ≠ t ∧ 1 ≤ x ∧ x ≤ 1000 ∧ 1 ≤ y ∧ y ≤ 1000 ∧ H' p = some (.lst (nvs ps)) ∧ Tape H' t u ∧ But t H H', ?_, ?_⟩
    · refine ⟨_, rfl, t, u, 8, rfl, by decide, by decide, hT4, fun r H5 hr hT5 k5 _ => ⟨rfl, _, rfl, ?_⟩⟩
      have hb5 := k5 b0 _ b0t upd_same
      have hp5 := k5 p _ pt hp4
      have k05 := k03.trans ((But.of_same (s := t) s4).trans k5)
      refine boolIte (fun _ => ?_) (fun _ => ⟨b0, 5, 7, rfl, hb5, b0t, by decide, by decide, by decide, by decide, hp5, hT5, k05⟩)
      refine ⟨(by show 2 ≤ sizeLine; exact size_le (by omega)), fun b1 nb1 => ?_⟩
      have s6 := same_new (o := .lst [V.int 999, V.int 1000]) nb1
      have b1t := hT5.ne_new nb1
      refine ⟨_, rfl, _, _, rfl, rfl, _, rfl, ?_⟩
      refine boolIte (fun _ => ?_) (fun _ => ⟨b1, 999, 1000, rfl, upd_same, b1t, by decide, by decide, by decide, by decide, s6 _ _ hp5, hT5.same s6, k05.trans (But.of_same s6)⟩)
      refine ⟨(by show 2 ≤ sizeLine; exact size_le (by omega)), fun b2 nb2 => ?_⟩
      have s7 := s6.trans (same_new (o := .lst [V.int 499, V.int 1000]) nb2)
      exact ⟨b2, 499, 1000, rfl, upd_same, hT5.ne_new (s6.free nb2), by decide, by decide, by decide, by decide, s7 _ _ hp5, hT5.same s7, k05.trans (But.of_same s7)⟩
    clear hp4 hT4 s4 nb0 b0t hp3 k03 hT3 k3 hp k02 hT2 k2 ha0 hT1 k1 hT0 s0 n0
    rintro _ H1 ⟨b, x, y, rfl, hb, bt, x1, x2, y1, y2, hp1, hT1, k1⟩
    have lps := nvs_len ps
    refine ⟨_, rfl, p, rfl, ⟨_, SqL.of hp1⟩, fun D hD => ?_⟩
    have Dt := hT1.ne_new hD
    have Du := hT1.ne_newu hD
    refine lc_list (K := K) (a := p) (xs := nvs ps) (fun i H' => ∃ ls : List Int, ls.length = i ∧ (∀ v, v ∈ ls → 1 ≤ v ∧ v ≤ 1000) ∧ H' D = some (.lst (ls.map V.int)) ∧ Tape H' t u ∧ But t H1 H') ⟨[], rfl, fun v hv => (by cases hv), upd_same, hT1.same (same_new hD), But.of_new hD⟩ (fun i H' _ ⟨_, _, _, _, _, e⟩ => SqL.of (e _ _ pt hp1)) ?_ ?_
    · rintro i v H2 hv ⟨ls, l1, l2, hD2, hT2, k2⟩
      have hi := (List.getElem?_eq_some_iff.mp hv).1
      refine ⟨rfl, ?_⟩
      refine ⟨_, rfl, _, rfl, b, _, _, _, rfl, rfl, SqL.of (k2 _ _ bt hb), at_of (j := 0) rfl rfl, t, u, _, rfl, by omega, by omega, hT2, fun r H3 hr hT3 k3 _ => ?_⟩
      refine ⟨_, _, rfl, rfl, _, k3 D _ Dt hD2, size_lt (by rw [List.length_map]; omega), ls ++ [1 + (r : Int)], by rw [List.length_append, l1]; rfl, fun v hv => ?_, by rw [upd_same, List.map_append]; rfl, hT3.upd Dt.symm Du.symm, (k2.trans k3).upd_at hD⟩
      rcases List.mem_append.mp hv with hv | hv
      · exact l2 v hv
      · rw [List.mem_singleton.mp hv]; omega
    rintro H2 ⟨ls, l1, l2, hD2, hT2, k2⟩
    rw [lps] at l1
    have hp2 := k2 p _ pt hp1
    have hb2 := k2 b _ bt hb
    have k02 := k1.trans k2
    have l2' : ∀ v, v ∈ ls → 1 ≤ v ∧ v < 2 ^ 40 := fun v hv => by have := l2 v hv; omega
    refine ⟨_, rfl, rfl, _, rfl, ?_⟩
    refine boolIte (fun _ => ?_) (fun _ => ?_)
    · refine ⟨_, rfl, _, rfl, _, rfl, p, rfl, ⟨_, SqL.of hp2⟩, fun E hE => ?_⟩
      refine lc_list (K := K) (a := p) (xs := nvs ps) (fun i H' => Same H2 H' ∧ H' E = some (.lst ((List.replicate i (0 : Int)).map V.int))) ⟨same_new hE, upd_same⟩ (fun i H' _ e => SqL.of (e.1 _ _ hp2)) ?_ ?_
      · rintro i v H3 hv ⟨s3, hE3⟩
        have hi := (List.getElem?_eq_some_iff.mp hv).1
        refine ⟨rfl, ?_⟩
        refine ⟨_, hE3, size_lt (by rw [List.length_map, List.length_replicate]; omega), same_mut s3 hE, ?_⟩
        rw [upd_same, List.replicate_succ', List.map_append]
        rfl
      rintro H3 ⟨s3, hE3⟩
      refine ⟨(by show 3 ≤ sizeLine; exact size_le (by omega)), fun z nz => ?_⟩
      have s4 := s3.trans (same_new (o := .tup [V.ref p, V.ref D, V.ref E]) nz)
      refine q z p D E ps ls (List.replicate ps.length 0) _ ok p1 (by omega) l1 (List.length_replicate ..) (fun v hv => by rw [(List.mem_replicate.mp hv).2]; exact ⟨Int.le_refl _, by decide⟩) l2' (hT2.same s4) (k02.trans (But.of_same s4)) upd_same (s4 _ _ hp2) (s4 _ _ hD2) ((same_new nz) _ _ (by rw [hE3, lps]))
    refine ⟨_, rfl, _, _, rfl, rfl, _, rfl, ?_⟩
    refine boolIte (fun _ => ?_) (fun _ => ?_)
    · refine ⟨_, rfl, _, rfl, _, rfl, D, rfl, ⟨_, SqL.of hD2⟩, fun E hE => ?_⟩
      have Et := hT2.ne_new hE
      have Eu := hT2.ne_newu hE
      refine lc_list (K := K) (a := D) (xs := ls.map V.int) (fun i H' => ∃ ws : List Int, ws.length = i ∧ Bd ws ∧ H' E = some (.lst (ws.map V.int)) ∧ Tape H' t u ∧ But t H2 H') ⟨[], rfl, fun v hv => (by cases hv), upd_same, hT2.same (same_new hE), But.of_new hE⟩ (fun i H' _ ⟨_, _, _, _, _, e⟩ => SqL.of (e _ _ Dt hD2)) ?_ ?_
      · rintro i v H3 hv ⟨ws, w1, w2, hE3, hT3, k3⟩
        have hi := (List.getElem?_eq_some_iff.mp hv).1
        rw [List.length_map] at hi
        obtain ⟨lv, hlv, rfl⟩ := ns_get hv
        have blv := l2 lv (List.mem_of_getElem? hlv)
        refine ⟨rfl, ?_⟩
        refine ⟨_, rfl, _, rfl, t, u, 3, rfl, by decide, by decide, hT3, fun r H4 hr hT4 k4 _ => ?_⟩
        refine ⟨_, _, rfl, rfl, .inl ⟨by omega, by omega⟩, _, k4 E _ Et hE3, size_lt (by rw [List.length_map]; omega), ws ++ [lv * (r : Int)], by rw [List.length_append, w1]; rfl, fun v hv => ?_, by rw [upd_same, List.map_append]; rfl, hT4.upd Et.symm Eu.symm, (k3.trans k4).upd_at hE⟩
        rcases List.mem_append.mp hv with hv | hv
        · exact w2 v hv
        · rw [List.mem_singleton.mp hv]
          have r3 : r = 0 ∨ r = 1 ∨ r = 2 := by omega
          rcases r3 with rfl | rfl | rfl <;> constructor <;> simp <;> omega
      rintro H3 ⟨ws, w1, w2, hE3, hT3, k3⟩
      rw [List.length_map] at w1
      refine ⟨(by show 3 ≤ sizeLine; exact size_le (by omega)), fun z nz => ?_⟩
      have s4 := same_new (o := .tup [V.ref p, V.ref D, V.ref E]) nz
      exact q z p D E ps ls ws _ ok p1 (by omega) l1 (by omega) w2 l2' (hT3.same s4) (k02.trans (k3.trans (But.of_same s4))) upd_same (s4 _ _ (k3 p _ pt hp2)) (s4 _ _ (k3 D _ Dt hD2)) (s4 _ _ hE3)
    · refine ⟨_, rfl, _, rfl, _, rfl, p, rfl, ⟨_, SqL.of hp2⟩, fun E hE => ?_⟩
      have Et := hT2.ne_new hE
      have Eu := hT2.ne_newu hE
      refine lc_list (K := K) (a := p) (xs := nvs ps) (fun i H' => ∃ ws : List Int, ws.length = i ∧ Bd ws ∧ H' E = some (.lst (ws.map V.int)) ∧ Tape H' t u ∧ But t H2 H') ⟨[], rfl, fun v hv => (by cases hv), upd_same, hT2.same (same_new hE), But.of_new hE⟩ (fun i H' _ ⟨_, _, _, _, _, e⟩ => SqL.of (e _ _ pt hp2)) ?_ ?_
      · rintro i v H3 hv ⟨ws, w1, w2, hE3, hT3, k3⟩
        have hi := (List.getElem?_eq_some_iff.mp hv).1
        refine ⟨rfl, ?_⟩
        refine ⟨_, rfl, _, rfl, b, _, _, _, rfl, rfl, SqL.of (k3 _ _ bt hb2), at_of (j := 1) rfl rfl, t, u, _, rfl, by omega, by omega, hT3, fun r H4 hr hT4 k4 _ => ?_⟩
        refine ⟨_, k4 E _ Et hE3, size_lt (by rw [List.length_map]; omega), ws ++ [(r : Int)], by rw [List.length_append, w1]; rfl, fun v hv => ?_, by rw [upd_same, List.map_append]; rfl, hT4.upd Et.symm Eu.symm, (k3.trans k4).upd_at hE⟩
        rcases List.mem_append.mp hv with hv | hv
        · exact w2 v hv
        · rw [List.mem_singleton.mp hv]; exact ⟨by omega, by omega⟩
      rintro H3 ⟨ws, w1, w2, hE3, hT3, k3⟩
      rw [lps] at w1
      refine ⟨(by show 3 ≤ sizeLine; exact size_le (by omega)), fun z nz => ?_⟩
      have s4 := same_new (o := .tup [V.ref p, V.ref D, V.ref E]) nz
      exact q z p D E ps ls ws _ ok p1 (by omega) l1 w1 w2 l2' (hT3.same s4) (k02.trans (k3.trans (But.of_same s4))) upd_same (s4 _ _ (k3 p _ pt hp2)) (s4 _ _ (k3 D _ Dt hD2)) (s4 _ _ hE3)
theorem ok_l_spoilt (T : Tx P K mg) (TB : TBs T base) : FnOk P w K mg base L2.CX0 2 T.a_l_spoilt T.d_l_spoilt ["_law_tape_here", "_law_values", "_law_least"] (spSpoiltT) := by
  have G_l_next := ok_l_next (P := P) (w := w) (base := base) T TB
  refine T.F_l_spoilt.ok sc_l_spoilt (fun vs H Q E h => ?_) (fun cdv A outer s H vs Q E hr h => ?_)
  · obtain ⟨t, u, w, ws, rfl, _⟩ := h
    rfl
  · obtain ⟨t, u, w, ws, rfl, hT, hw, lw, bw, q⟩ := h
    refine ⟨_, (pss_cons (ps_set (i := 3) sc_l_spoilt.nd rfl (Or.inl rfl) (pe_callTy (T := "list") call_list_of (by rfl) T.z_list (by decide +kernel) (pa_cons (pv 1) pa_nil)))
          (pss_cons (ps_set (i := 4) sc_l_spoilt.nd rfl (Or.inl rfl) (pe_call G_l_next hr rfl T.g_l_next T.F_l_next.kp T.B_l_next .nil pass0 (pa_cons (pv 0) (pa_cons pe_int pa_nil))))
          (C8.pss_cut (ps_if (pt_cmpR op_eq (pv 4) pe_int (nomark _))
          (pss_one (ps_set (i := 3) sc_l_spoilt.nd rfl (Or.inl rfl) (pe_slice sl_list (pv 3) (po_some pe_int) po_none)))
          pss_nil)
          (C8.pss_cut (ps_if (pt_cmpR op_eq (pv 4) pe_int (nomark _))
          (pss_one (ps_expr (pe_bm PySem.F.plainAttrs_list PySem.F.slot_list_append PySem.F.type_list_append mt_append (pv 3) (pa_cons (pe_op op_add (pv 2) (pe_call G_l_next hr rfl T.g_l_next T.F_l_next.kp T.B_l_next .nil pass0 (pa_cons (pv 0) (pa_cons pe_int pa_nil)))) pa_nil))))
          pss_nil)
          (pss_cons (ps_set (i := 5) sc_l_spoilt.nd rfl (Or.inl rfl) pe_int)
          (C8.pss_cut (ps_if (pt_cmpR op_eq (pe_call G_l_next hr rfl T.g_l_next T.F_l_next.kp T.B_l_next .nil pass0 (pa_cons (pv 0) (pa_cons pe_int pa_nil))) pe_int (nomark _))
          (pss_one (ps_set (i := 5) sc_l_spoilt.nd rfl (Or.inl rfl) (pe_call G_l_next hr rfl T.g_l_next T.F_l_next.kp T.B_l_next .nil pass0 (pa_cons (pv 0) (pa_cons pe_int pa_nil)))))
          pss_nil)
          (pss_cons (ps_if (PW.pt (pw_and (pt_truth (pv 3) (by intro _; rfl)) (pw_and1 (pt_cmpR op_eq (pe_call G_l_next hr rfl T.g_l_next T.F_l_next.kp T.B_l_next .nil pass0 (pa_cons (pv 0) (pa_cons pe_int pa_nil))) pe_int (nomark _)))))
          (pss_one (ps_for PassesOwn.never rfl (pi_range1 rfl T.z_range (pa_cons pe_int pa_nil)) (pg_name (i := 6) sc_l_spoilt.nd rfl (Or.inl rfl))
          (pss_one (ps_asg (pe_op op_sub (pe_op op_sub (pv 2) pe_int) (pv 5)) (pg_sub (pv 3) (pe_call G_l_next hr rfl T.g_l_next T.F_l_next.kp T.B_l_next .nil pass0 (pa_cons (pv 0) (pa_cons (pe_callB (id := "len") call_len_seq (by rfl) T.z_len (by decide +kernel) (pa_cons (pv 3) pa_nil)) pa_nil))) set_list)))))
          pss_nil)
          (pss_one (ps_ret (pv 3)))))))))), ?_⟩
    refine ⟨_, rfl, w, _, rfl, .inl (SqL.of hw), fun D hD => ?_⟩
    have Dt := hT.ne_new hD
    have Du := hT.ne_newu hD
    refine ⟨_, rfl, t, u, 4, rfl, by decide, by decide, hT.same (same_new hD), fun kd H1 hkd hT1 k1 _ => ?_⟩
    have k01 := (But.of_new (t := t) (o := .lst (ws.map V.int)) hD).trans k1
    have hD1 := k1 D _ Dt upd_same
    refine ⟨fun σ H' => ∃ (D : Addr) (ns : List Int), σ = [some (.ref t), some (.ref w), some (.int 0), some (.ref D), some (.int (kd : Int)), none, none] ∧ H' D = some (.lst (ns.map V.int)) ∧ ns.length ≤ 8 ∧ (∀ v, v ∈ ns → v < 2 ^ 40) ∧ D ≠ t ∧ D ≠ u ∧ H D = none ∧ Tape H' t u ∧ But t H H', ?_, ?_⟩
    · refine ⟨_, rfl, rfl, _, rfl, ?_⟩
      refine boolIte (fun _ => ?_) (fun _ => ⟨D, ws, rfl, hD1, lw, fun v hv => (bw v hv).2, Dt, Du, hD, hT1, k01⟩)
      obtain ⟨M, eM, lM, sM⟩ := cutI_any ws (some 1) none
      refine ⟨_, rfl, _, rfl, D, _, rfl, SqL.of hD1, fun z nz => ?_⟩
      rw [eM]
      have s2 := same_new (o := .lst (M.map V.int)) nz
      exact ⟨z, M, rfl, upd_same, by omega, fun v hv => (bw v (sM v hv)).2, hT1.ne_new nz, hT1.ne_newu nz, k01.free (hT1.ne_new nz) nz, hT1.same s2, k01.trans (But.of_same s2)⟩
    clear hD1 k01 k1 hT1 Dt Du hD
    rintro _ H1 ⟨D, ns, rfl, hD1, ln, bn, Dt, Du, fD, hT1, k1⟩
    refine ⟨fun σ H' => ∃ (ns : List Int), σ = [some (.ref t), some (.ref w), some (.int 0), some (.ref D), some (.int (kd : Int)), none, none] ∧ H' D = some (.lst (ns.map V.int)) ∧ ns.length ≤ 9 ∧ (∀ v, v ∈ ns → v < 2 ^ 40) ∧ Tape H' t u ∧ But t H H', ?_, ?_⟩
    · refine ⟨_, rfl, rfl, _, rfl, ?_⟩
      refine boolIte (fun _ => ?_) (fun _ => ⟨ns, rfl, hD1, by omega, bn, hT1, k1⟩)
      refine ⟨_, rfl, .inl ⟨rfl, _, SqL.of hD1⟩, _, rfl, _, rfl, t, u, 5, rfl, by decide, by decide, hT1, fun r H2 hr hT2 k2 _ => ?_⟩
      refine ⟨_, _, rfl, rfl, D, _, _, rfl, rfl, k2 D _ Dt hD1, size_lt (by rw [List.length_map]; omega), ?_⟩
      refine ⟨ns ++ [0 + (r : Int)], rfl, by rw [upd_same, List.map_append]; rfl, by rw [List.length_append]; show _ + 1 ≤ _; omega, fun v hv => ?_, hT2.upd Dt.symm Du.symm, (k1.trans k2).upd_at fD⟩
      rcases List.mem_append.mp hv with hv | hv
      · exact bn v hv
      · rw [List.mem_singleton.mp hv]; omega
    clear hD1 ln bn k1 hT1
    rintro _ H1 ⟨ns, rfl, hD1, ln, bn, hT1, k1⟩
    refine ⟨fun σ H' => ∃ f : Nat, σ = [some (.ref t), some (.ref w), some (.int 0), some (.ref D), some (.int (kd : Int)), some (.int (f : Int)), none] ∧ H' D = some (.lst (ns.map V.int)) ∧ Tape H' t u ∧ But t H H', ?_, ?_⟩
    · refine ⟨_, rfl, t, u, 2, rfl, by decide, by decide, hT1, fun r H2 hr hT2 k2 _ => ⟨rfl, _, rfl, ?_⟩⟩
      have hD2 := k2 D _ Dt hD1
      refine boolIte (fun _ => ?_) (fun _ => ⟨0, rfl, hD2, hT2, k1.trans k2⟩)
      exact ⟨_, rfl, t, u, 999000000, rfl, by decide, by decide, hT2, fun f H3 hf hT3 k3 _ => ⟨f, rfl, k3 D _ Dt hD2, hT3, k1.trans (k2.trans k3)⟩⟩
    clear hD1 k1 hT1
    rintro _ H1 ⟨f, rfl, hD1, hT1, k1⟩
    refine ⟨_, rfl, !(ns.map V.int).isEmpty, .inl ⟨_, SqL.of hD1, rfl⟩, ?_⟩
    refine boolIte (fun hb => ?_) (fun _ => ⟨_, rfl, q D ns H1 ln bn hT1 k1 hD1⟩)
    have hne : 1 ≤ ns.length := by
      cases hc : ns with
      | nil => rw [hc] at hb; cases hb
      | cons x r => rw [List.length_cons]; omega
    refine ⟨_, rfl, t, u, 2, rfl, by decide, by decide, hT1, fun r H2 hr hT2 k2 _ => ⟨rfl, _, rfl, ?_⟩⟩
    have hD2 := k2 D _ Dt hD1
    have k02 := k1.trans k2
    refine boolIte (fun _ => ?_) (fun _ => ⟨_, rfl, q D ns H2 ln bn hT2 k02 hD2⟩)
    refine ⟨_, rfl, by decide, by decide, for_range (fun i σ H' => ∃ (ms : List Int) (v : Option V), σ = [some (.ref t), some (.ref w), some (.int 0), some (.ref D), some (.int (kd : Int)), some (.int (f : Int)), v] ∧ H' D = some (.lst (ms.map V.int)) ∧ ms.length = ns.length ∧ (∀ v, v ∈ ms → v < 2 ^ 40) ∧ Tape H' t u ∧ But t H H') ⟨ns, none, rfl, hD2, rfl, bn, hT2, k02⟩ ?_ ?_⟩
    · rintro i _ H3 hi ⟨ms, v, rfl, hD3, lm, bm, hT3, k3⟩
      refine ⟨_, rfl, _, _, rfl, rfl, _, rfl, _, _, rfl, rfl, _, rfl, _, rfl, _, rfl, D, _, rfl, .inl (SqL.of hD3), t, u, _, rfl, by rw [List.length_map]; omega, by rw [List.length_map]; omega, hT3, fun k H4 hk hT4 k4 _ => ?_⟩
      rw [List.length_map] at hk
      refine ⟨D, _, _, k, rfl, rfl, k4 D _ Dt hD3, ixN_nat (by rw [List.length_map]; omega), ?_⟩
      refine ⟨ms.set k (0 - 1 - (f : Int)), _, rfl, by rw [upd_same, List.map_set], by rw [List.length_set]; exact lm, fun z hz => ?_, hT4.upd Dt.symm Du.symm, (k3.trans k4).upd_at fD⟩
      rcases List.mem_or_eq_of_mem_set hz with h | h
      · exact bm z h
      · rw [h]; omega
    · rintro _ H3 ⟨ms, v, rfl, hD3, lm, bm, hT3, k3⟩
      exact ⟨_, rfl, q D ms H3 (by omega) bm hT3 k3 hD3⟩
theorem ok_blocks (T : Tx P K mg) (TB : TBs T base) : FnOk P w K mg base (L2N.CX P w) 6 T.a_blocks T.d_blocks ["tunnels", "weights"] (spBlk K T.C_Tunnels T.C_Shape T.x_BadWeight.C RBlk) := by
  have G_best_addition := ok_best_addition (P := P) (w := w) (base := base) T TB
  have G_check_weights := ok_check_weights (P := P) (w := w) (base := base) T TB
  refine EP.Fun.okXN T.F_blocks sc_blocks (fun vs H Q E h => ?_) (fun cdv A outer s H vs Q E hr h => ?_)
  · obtain ⟨s, v, ps, ls, ws, rfl, _⟩ := h
    rfl
  · obtain ⟨s, v, ps, ls, ws, rfl, S, hv, lw, s60, bw, good, bad⟩ := h
    have S0 := S
    have ss := S.ok.2.2
    obtain ⟨dx, sh, t0, h1, h2, h3, h4, h5⟩ := S
    obtain ⟨dx', tp, dm, kvs, hs, ht, hd, hM⟩ := h2.at_
    refine ⟨_, (pss_cons (ps_expr (pe_call G_check_weights (hr.mono (by decide)) rfl T.g_check_weights T.F_check_weights.kp T.B_check_weights .nil pass_upN (pa_cons (pv 0) (pa_cons (pv 1) pa_nil))))
          (pss_cons (ps_set (i := 2) sc_blocks.nd rfl (Or.inl rfl) (pe_lst pa_nil))
          (pss_cons (ps_set (i := 3) sc_blocks.nd rfl (Or.inl rfl) (pe_lst pa_nil))
          (pss_cons (ps_while (passes_of rfl) (pt_cmpR op_lt (pe_callB (id := "len") call_len_seq (by rfl) T.z_len (by decide +kernel) (pa_cons (pv 3) pa_nil)) (pe_fld (pe_fld (pv 0) rfl) rfl) (nomark _))
          (pss_cons (ps_set (i := 4) sc_blocks.nd rfl (Or.inl rfl) (pe_call G_best_addition hr rfl T.g_best_addition T.F_best_addition.kp T.B_best_addition .nil pass_upN (pa_cons (pv 0) (pa_cons (pv 1) (pa_cons (pv 3) pa_nil)))))
          (pss_cons (ps_expr (pe_bm PySem.F.plainAttrs_list PySem.F.slot_list_append PySem.F.type_list_append mt_append (pv 2) (pa_cons (pv 4) pa_nil)))
          (pss_one (ps_set (i := 3) sc_blocks.nd rfl (Or.inl rfl) (pe_op op_cat (pv 3) (pe_ix ix_tup (pv 4) pe_int (fun _ _ => rfl))))))))
          (pss_one (ps_ret (pv 2))))))), ?_⟩
    refine ⟨_, rfl, _, rfl, s, v, ps, ls, ws, rfl, S0, hv, lw, fun hn H1 s1 => ?_, bad⟩
    have bd : Bd ws := fun x hx => ⟨hn.1 x hx, bw x hx⟩
    have good := good hn
    refine ⟨Nat.zero_le _, fun B nB => ?_⟩
    refine ⟨Nat.zero_le _, fun D nD => ?_⟩
    have DB : D ≠ B := (ne_of_none upd_same nD).symm
    have fB := s1.free nB
    refine ⟨fun m σ H' => ∃ (bs : List (List Nat)) (D : Addr) (e : Option V), σ = [some (.ref s), some (.ref v), some (.ref B), some (.ref D), e] ∧ MoreAt H1 H' ws ls B bs ∧ H' D = some (.lst (nvs bs.flatten)) ∧ D ≠ B ∧ Tn.Sts ps.length (Tr.par ps) (vf ws) (vf ls) bs ∧ GrowF H1 H' B ∧ m = ps.length - bs.flatten.length, ⟨_, [], D, none, rfl, (MoreAt.nil nB).same (same_new nD), upd_same, DB, .nil, ⟨[], (same_new nD) _ _ upd_same, fun t h => by cases h⟩, rfl⟩, ?_⟩
    clear DB nD
    rintro m _ H2 ⟨bs, D, e, rfl, mo, hD, DB, st, gf, rfl⟩
    obtain ⟨f1, f2, f3, f4⟩ := st.facts par_ok
    have fl := Tn.nodup_len f1 f2
    have s12 : Same H1 H2 := let ⟨_, _, _, s, _⟩ := mo; s
    have s02 := s1.trans s12
    refine ⟨_, rfl, D, _, rfl, .inl (SqL.of hD), _, rfl, _, _, _, _, _, rfl, s02 _ _ h1, T.cl_Tunnels, T.n_Tunnels_shape, (by first | rfl | kernel_rfl), _, _, _, _, _, rfl, s02 _ _ hs, T.cl_Shape, T.n_Shape_size, shf_size, _, _, rfl, rfl, _, rfl, ?_⟩
    rw [nvs_len]
    refine boolIte (fun hg => ?_) (fun hg => ?_)
    · have hg := of_decide_eq_true hg
      refine ⟨fun σ' H' => ∃ m', m' < ps.length - bs.flatten.length ∧ ∃ (bs : List (List Nat)) (D : Addr) (e : Option V), σ' = [some (.ref s), some (.ref v), some (.ref B), some (.ref D), e] ∧ MoreAt H1 H' ws ls B bs ∧ H' D = some (.lst (nvs bs.flatten)) ∧ D ≠ B ∧ Tn.Sts ps.length (Tr.par ps) (vf ws) (vf ls) bs ∧ GrowF H1 H' B ∧ m' = ps.length - bs.flatten.length, fun σ' H' h => h, ?_⟩
      refine ⟨_, rfl, _, rfl, _, rfl, s, v, D, ps, ls, ws, bs.flatten, rfl, S0.same s02, SqE_same s02 hv, hn.2, s60, bd, SqL.of hD, f3, Tn.Sts.more (by omega), fun r t W H3 bst s3 nr nt rt hr ht => ?_⟩
      have hB2 : ∃ xs, H2 B = some (.lst xs) := let ⟨_, h, _⟩ := mo; ⟨_, h⟩
      obtain ⟨xs0, hB2⟩ := hB2
      have ht' : H3 t = some (.tup [.int (Tn.sumL (vf ws) (Tn.lst ps.length W)), .int (Tn.sumL (vf ls) (Tn.lst ps.length W)), .ref r]) := by rw [Tn.sumL_lst, Tn.sumL_lst]; exact ht
      obtain ⟨acc, hB3, la, mo'⟩ := mo.snoc nB s3 nt nr ht' hr
      have gf' := gf.snoc s3 nt ht' (s12.free nr) hB3
      have tB : t ≠ B := (ne_of_none hB2 nt).symm
      have rB : r ≠ B := (ne_of_none hB2 nr).symm
      refine ⟨_, rfl, .inl ⟨rfl, _, SqL.of hB3⟩, _, rfl, B, _, _, rfl, rfl, hB3, size_lt (by omega), ?_⟩
      have hD3 : (upd H3 B (.lst (acc ++ [V.ref t]))) D = some (.lst (nvs bs.flatten)) := by rw [upd_ne DB]; exact s3 _ _ hD
      have ht3 : (upd H3 B (.lst (acc ++ [V.ref t]))) t = some (.tup [.int (Tn.fs ps.length (vf ws) W), .int (Tn.fs ps.length (vf ls) W), .ref r]) := by rw [upd_ne tB]; exact ht
      have hr3 : (upd H3 B (.lst (acc ++ [V.ref t]))) r = some (.lst (nvs (Tn.lst ps.length W))) := by rw [upd_ne rB]; exact hr
      have lW : (Tn.lst ps.length W).length ≤ ps.length := Tn.nodup_len (Tn.lst_nodup _ _) fun k hk => let ⟨a, b, _⟩ := Tn.mem_lst.mp hk; ⟨a, b⟩
      refine ⟨_, rfl, _, rfl, t, _, _, _, rfl, rfl, SqT.of ht3, at_of (j := 2) rfl rfl, D, r, _, _, rfl, rfl, hD3, hr3, size_le (by rw [nvs_len, nvs_len]; omega), fun z nz => ?_⟩
      have zB : z ≠ B := fun e => by rw [e, upd_same] at nz; cases nz
      have st' := Tn.Sts.snoc st bst
      obtain ⟨g1, g2, _, _⟩ := st'.facts par_ok
      have gl := Tn.nodup_len g1 g2
      obtain ⟨c, c1, c2, c3, _⟩ := bst.one
      have lp : 1 ≤ (Tn.lst ps.length W).length := List.length_pos_of_mem (Tn.mem_lst.mpr ⟨c1, c2, c3⟩)
      rw [Tn.flat_snoc, List.length_append] at gl
      refine ⟨_, ?_, bs ++ [Tn.lst ps.length W], z, _, rfl, mo'.same (same_new nz), by rw [upd_same, Tn.flat_snoc, ← nvs_app], zB, st', gf'.same (same_new nz), rfl⟩
      rw [Tn.flat_snoc, List.length_append]
      omega
    · have hg := of_decide_eq_false hg
      exact ⟨_, rfl, good B bs H2 s02 fB st (st.full par_ok (by omega)) ⟨mo.sets, gf.ok s1⟩⟩
theorem ok_corners (T : Tx P K mg) (TB : TBs T base) : FnOk P w K mg base (L2N.CX P w) 7 T.a_corners T.d_corners ["tunnels", "weights"] (spBlk K T.C_Tunnels T.C_Shape T.x_BadWeight.C RCrn) := by
  have G_blocks := ok_blocks (P := P) (w := w) (base := base) T TB
  refine EP.Fun.okXN T.F_corners sc_corners (fun vs H Q E h => ?_) (fun cdv A outer s H vs Q E hr h => ?_)
  · obtain ⟨s, v, ps, ls, ws, rfl, _⟩ := h
    rfl
  · obtain ⟨s, v, ps, ls, ws, rfl, S, hv, lw, s60, bw, good, bad⟩ := h
    refine ⟨_, (pss_cons (ps_set (i := 2) sc_corners.nd rfl (Or.inl rfl) (pe_lst (pa_cons (pe_tup (pa_cons pe_int (pa_cons pe_int pa_nil))) pa_nil)))
          (pss_cons (ps_for (passes_of rfl) rfl (pi_list (pe_call G_blocks hr rfl T.g_blocks T.F_blocks.kp T.B_blocks .nil pass_upN (pa_cons (pv 0) (pa_cons (pv 1) pa_nil)))) (pg_tup rfl (pgs_cons (pg_name (i := 3) sc_corners.nd rfl (Or.inl rfl)) (pgs_cons (pg_name (i := 4) sc_corners.nd rfl (Or.inl rfl)) (pgs_cons (pg_name (i := 5) sc_corners.nd rfl (Or.inl rfl)) pgs_nil))))
          (pss_one (ps_expr (pe_bm PySem.F.plainAttrs_list PySem.F.slot_list_append PySem.F.type_list_append mt_append (pv 2) (pa_cons (pe_tup (pa_cons (pe_op op_add (pe_ix ix_tup (pe_ix ix_list (pv 2) (pe_un un_neg pe_int) (fun _ _ => rfl)) pe_int (fun _ _ => rfl)) (pv 4)) (pa_cons (pe_op op_add (pe_ix ix_tup (pe_ix ix_list (pv 2) (pe_un un_neg pe_int) (fun _ _ => rfl)) pe_int (fun _ _ => rfl)) (pv 3)) pa_nil))) pa_nil)))))
          (pss_one (ps_ret (pv 2))))), ?_⟩
    refine ⟨(by show 2 ≤ sizeLine; exact size_le (by omega)), fun a na => ?_⟩
    have s1 := same_new (o := .tup [V.int 0, V.int 0]) na
    refine ⟨(by show 1 ≤ sizeLine; exact size_le (by omega)), fun F nF => ?_⟩
    have s2 := same_new (o := .lst [V.ref a]) nF
    have fF := s1.free nF
    have s12 := s1.trans s2
    have ha : (upd (upd H a (.tup [V.int 0, V.int 0])) F (.lst [V.ref a])) a = some (.tup [V.int 0, V.int 0]) := s2 _ _ upd_same
    have hF : (upd (upd H a (.tup [V.int 0, V.int 0])) F (.lst [V.ref a])) F = some (.lst (([] ++ [a]).map V.ref)) := upd_same
    generalize upd (upd H a (.tup [V.int 0, V.int 0])) F (.lst [V.ref a]) = H0 at s12 ha hF
    refine ⟨_, rfl, _, rfl, s, v, ps, ls, ws, rfl, S.same s12, SqE_same s12 hv, lw, s60, bw, fun hn r bs H1 s3 nr st fu SA => ?_, fun z hz d H' s3 nd hd => bad z hz d H' (s12.trans s3) (s12.free nd) hd⟩
    obtain ⟨rs, r1, r2, r3⟩ := id SA.1
    obtain ⟨f1, f2, f3, f4⟩ := st.facts par_ok
    have fl := Tn.nodup_len f1 f2
    have rF : r ≠ F := (ne_of_none hF nr).symm
    have hF1 := s3 _ _ hF
    have s13 := s12.trans s3
    refine ⟨r, rfl, ⟨_, SqL.of r1⟩, for_list (K := K) (a := r) (xs := rs.map V.ref) (fun i σ H' => ∃ (x y z : Option V) (qs : List Addr) (qa : Addr), σ = [some (.ref s), some (.ref v), some (.ref F), x, y, z] ∧ H' F = some (.lst ((qs ++ [qa]).map V.ref)) ∧ qs.length = i ∧ But F H1 H' ∧ ∀ (j : Nat) (q : Addr), (qs ++ [qa])[j]? = some q → q ≠ F ∧ H' q = some (.tup [V.int (crn (vf ls) bs j), V.int (crn (vf ws) bs j)])) ⟨none, none, none, [], a, rfl, hF1, rfl, fun _ _ _ h => h, fun j q h => by
        rcases get_snoc h with h | ⟨rfl, rfl⟩
        · simp at h
        · exact ⟨fun e => (by rw [e, hF] at ha; cases ha), s3 _ _ ha⟩⟩ (fun i σ H' _ ⟨_, _, _, _, _, _, _, _, k, _⟩ => SqL.of (k _ _ rF r1)) ?_ ?_⟩
    · rintro i xx _ H2 hx ⟨x, y, z, qs, qa, rfl, hF2, l2, k2, al⟩
      obtain ⟨t, ht, rfl⟩ := ref_get hx
      have hi := (List.getElem?_eq_some_iff.mp ht).1
      have hb := List.getElem?_eq_getElem (show i < bs.length by omega)
      generalize bs[i]'(show i < bs.length by omega) = b at hb
      obtain ⟨q, t1, t2⟩ := r3 i t _ ht hb
      have tF : t ≠ F := fun e => by rw [e, hF1] at t1; cases t1
      have t1 := k2 _ _ tF t1
      obtain ⟨qF, hq⟩ := al i qa (by rw [List.getElem?_append_right (by omega), l2, Nat.sub_self]; rfl)
      refine ⟨t, _, rfl, SqT.of t1, rfl, _, _, rfl, _, _, rfl, _, _, rfl, rfl, ?_⟩
      rw [List.map_append] at hF2
      refine ⟨_, rfl, .inl ⟨rfl, _, SqL.of hF2⟩, ?_⟩
      refine ⟨_, rfl, _, rfl, F, _, _, _, rfl, rfl, SqL.of hF2, atI_last _ _, qa, _, _, _, rfl, rfl, SqT.of hq, at_of (j := 0) rfl rfl, _, rfl, _, _, rfl, rfl, ?_⟩
      refine ⟨_, rfl, _, rfl, F, _, _, _, rfl, rfl, SqL.of hF2, atI_last _ _, qa, _, _, _, rfl, rfl, SqT.of hq, at_of (j := 1) rfl rfl, _, rfl, _, _, rfl, rfl, (by show 2 ≤ sizeLine; exact size_le (by omega)), fun c nc => ?_⟩
      have e1 := same_new (o := .tup [V.int (crn (vf ls) bs i + Tn.sumL (vf ls) b), V.int (crn (vf ws) bs i + Tn.sumL (vf ws) b)]) nc
      refine ⟨F, _, _, rfl, rfl, e1 _ _ hF2, size_lt (by rw [List.length_append, List.length_map]; show _ + 1 ≤ _; omega), ?_⟩
      have cF : c ≠ F := (ne_of_none hF2 nc).symm
      refine ⟨_, _, _, qs ++ [qa], c, rfl, by rw [upd_same, List.map_append, List.map_append]; rfl, by rw [List.length_append, l2]; rfl, k2.trans ((But.of_same e1).trans But.set), fun j q' h => ?_⟩
      rcases get_snoc h with h | ⟨rfl, rfl⟩
      · obtain ⟨w1, w2⟩ := al j q' h
        exact ⟨w1, by rw [upd_ne w1]; exact e1 _ _ w2⟩
      · refine ⟨cF, ?_⟩
        rw [upd_ne cF, List.length_append, l2, show [qa].length = 1 from rfl, crn_succ hb, crn_succ hb]
        exact upd_same
    rintro _ H2 ⟨x, y, z, qs, qa, rfl, hF2, l2, k2, al⟩
    rw [List.length_map] at l2
    exact ⟨_, rfl, good hn F bs H2 (fun b o hb => k2 _ _ (ne_of_none hb fF) (s13 _ _ hb)) fF st fu ⟨qs ++ [qa], hF2, by rw [List.length_append]; show _ + 1 = _; omega, fun i q h => (al i q h).2⟩⟩
theorem ok_check_terms (T : Tx P K mg) (TB : TBs T base) : FnOk P w K mg base (L2N.CX P w) 4 T.a_check_terms T.d_check_terms ["tunnels", "weights", "a", "b"] (spTerms K T.C_Tunnels T.C_Shape T.x_BadWeight.C T.x_BadCount.C) := by
  have G_check_weights := ok_check_weights (P := P) (w := w) (base := base) T TB
  refine EP.Fun.okXN T.F_check_terms sc_check_terms (fun vs H Q E h => ?_) (fun cdv A outer s H vs Q E hr h => ?_)
  · obtain ⟨s, v, ps, ls, ws, a, b, rfl, _⟩ := h
    rfl
  · obtain ⟨s, v, ps, ls, ws, a, b, rfl, S, hv, lw, sa, sb, good, bad1, bad2⟩ := h
    refine ⟨_, (pss_cons (ps_expr (pe_call G_check_weights hr rfl T.g_check_weights T.F_check_weights.kp T.B_check_weights .nil pass_upN (pa_cons (pv 0) (pa_cons (pv 1) pa_nil))))
          (pss_cons (ps_if (pt_cmpR op_lt (pv 2) pe_int (nomark _))
          (pss_one (L2N.ps_raise rfl (L2N.takes_of rfl rfl rfl rfl) (pmk_oexN T.x_BadCount.sup.oex T.x_BadCount.iC T.x_BadCount.tI (init_BadCount T) (hr.mono (by decide)) (bind_BadCount T) .nil pass0 rfl T.x_BadCount.mgX (pa_cons (pv 2) pa_nil))))
          pss_nil)
          (pss_one (ps_if (pt_cmpR op_lt (pv 3) pe_int (nomark _))
          (pss_one (L2N.ps_raise rfl (L2N.takes_of rfl rfl rfl rfl) (pmk_oexN T.x_BadCount.sup.oex T.x_BadCount.iC T.x_BadCount.tI (init_BadCount T) (hr.mono (by decide)) (bind_BadCount T) .nil pass0 rfl T.x_BadCount.mgX (pa_cons (pv 3) pa_nil))))
          pss_nil)))), ?_⟩
    refine ⟨_, rfl, _, rfl, s, v, ps, ls, ws, rfl, S, hv, lw, fun hn H1 s1 => ?_, bad1⟩
    refine ⟨_, rfl, _, _, rfl, rfl, _, rfl, ?_⟩
    refine boolIte (fun h1 => ?_) (fun h1 => ?_)
    · have h1 := of_decide_eq_true h1
      exact ⟨_, rfl, mkO_intro sa.ok fun d nd => bad2 hn a (.inl ⟨h1, rfl⟩) d _ (s1.trans (same_new nd)) (s1.free nd) upd_same⟩
    have h1 := of_decide_eq_false h1
    refine ⟨_, rfl, _, _, rfl, rfl, _, rfl, ?_⟩
    refine boolIte (fun h2 => ?_) (fun h2 => ?_)
    · have h2 := of_decide_eq_true h2
      exact ⟨_, rfl, mkO_intro sb.ok fun d nd => bad2 hn b (.inr ⟨by omega, h2, rfl⟩) d _ (s1.trans (same_new nd)) (s1.free nd) upd_same⟩
    have h2 := of_decide_eq_false h2
    exact good hn (by omega) (by omega) H1 s1
theorem ok_prices (T : Tx P K mg) (TB : TBs T base) : FnOk P w K mg base (L2N.CX P w) 5 T.a_prices T.d_prices ["tunnels", "weights", "a", "b"] (spPrices K T.C_Tunnels T.C_Shape T.x_BadWeight.C T.x_BadCount.C T.P_prices) := by
  have G_Tunnels_branching := ok_Tunnels_branching (P := P) (w := w) (base := base) T TB
  have G_check_terms := ok_check_terms (P := P) (w := w) (base := base) T TB
  have G_gains := ok_gains (P := P) (w := w) (base := base) T TB
  refine T.F_prices.okXN sc_prices (fun vs H Q E h => ?_) (fun A outer s H vs Q E hr h => ?_)
  · obtain ⟨s, v, ps, ls, ws, a, b, rfl, _⟩ := h
    rfl
  · obtain ⟨s, v, ps, ls, ws, a, b, rfl, S, hv, lw, s60, bw, ba, bb, tab, good, bad1, bad2⟩ := h
    have S0 := S
    have ss := S.ok.2.2
    obtain ⟨dx, sh, t, h1, h2, h3, h4, h5⟩ := S
    obtain ⟨dx', tp, dm, kvs, hs, ht, hd, hM⟩ := h2.at_
    refine ⟨_, (pss_cons (ps_expr (pe_call G_check_terms hr rfl T.g_check_terms T.F_check_terms.kp T.B_check_terms .nil pass_upN (pa_cons (pv 0) (pa_cons (pv 1) (pa_cons (pv 2) (pa_cons (pv 3) pa_nil))))))
          (pss_cons (ps_set (i := 4) sc_prices.nd rfl (Or.inr rfl) (pe_call G_gains (hr.mono (by decide)) rfl T.g_gains T.F_gains.kp T.B_gains .nil pass0 (pa_cons (pv 0) (pa_cons (pv 1) (pa_cons (pv 2) (pa_cons (pv 3) pa_nil))))))
          (pss_cons (ps_if (pt_val (EG.pe_any (own := [("wall", 5)]) (g := gName 5) (tt := tYes) hr rfl sc_prices.nd rfl T.z_any (by decide +kernel) TB.t_prices rfl (blkOk_by (N := ["tunnels", "weights", "a", "b", "gains", "wall"]) (sc := defScope s_prices) (by decide +kernel)) rfl (by decide +kernel) (by decide +kernel) (pi_list (pe_meth (pv 0) T.cl_Tunnels T.m_Tunnels_branching G_Tunnels_branching (hr.mono (by decide)) T.B_Tunnels_branching .nil pass0 (pa_cons pe_int pa_nil))) (fun _ _ _ _ _ _ _ _ _ hrG => (pg_name (i := 5) sc_prices.nd rfl (Or.inl rfl))) (fun _ _ _ _ _ _ _ _ _ hrG => pts_nil) (fun _ _ _ _ _ _ _ _ _ hrG => (pe_cmpR op_gt (pe_dget (hu_of hrG) (pv 4) (pv 5) (fun _ _ => rfl)) pe_int (nomark _)))))
          (pss_one (ps_ret pe_non))
          pss_nil)
          (pss_one (ps_ret (pe_lc (own := [("wall", 5)]) (g := gName 5) (tt := tYes) rfl sc_prices.nd (pi_range2 rfl T.z_range (pa_cons pe_int (pa_cons (pe_op op_add (pe_fld (pe_fld (pv 0) rfl) rfl) pe_int) pa_nil))) (blkOk_by (N := ["tunnels", "weights", "a", "b", "gains", "wall"]) (sc := defScope s_prices) (by decide +kernel)) (fun _ _ _ _ _ => (pg_name (i := 5) sc_prices.nd rfl (Or.inl rfl))) (fun _ _ _ _ _ => pts_nil) (fun _ _ _ _ _ => (pe_callB (id := "max") (call_max2 rfl) (by rfl) T.z_max (by decide +kernel) (pa_cons pe_int (pa_cons (pe_dget (hu_of hr) (pv 4) (pv 5) (fun _ _ => rfl)) pa_nil)))))))))), ?_⟩
    refine ⟨_, rfl, _, rfl, _, rfl, _, rfl, s, v, ps, ls, ws, a, b, rfl, S0, hv, lw, (by unfold Small; omega), (by unfold Small; omega), fun hn a0 b1 H1 s1 => ?_, bad1, bad2⟩
    have bdw : Bd ws := fun x hx => ⟨hn.1 x hx, bw x hx⟩
    refine ⟨_, rfl, _, rfl, _, rfl, _, rfl, s, v, ps, ls, ws, a, b, rfl, S0.same s1, SqE_same s1 hv, hn.2, s60, bdw, ⟨a0, by omega⟩, ⟨by omega, by omega⟩, fun gd g H2 GE s2 ngd hgd => ?_⟩
    obtain ⟨none_, some_⟩ := good hn a0 b1 g GE
    have s12 := s1.trans s2
    refine ⟨_, rfl, s, dx, _, rfl, s12 _ _ h1, (by first | rfl | decide +kernel), s, ps, ls, 0, rfl, S0.same s12, fun r H3 s3 nr hr => ?_⟩
    have k3 := Same.t (s12.trans s3)
    refine ⟨r, rfl, ⟨_, SqL.of hr⟩, k3.tab _ tab, fun H4 tb => ?_⟩
    have st := SameT.tabbed tb (k3.tab _ tab)
    have hg4 := (hgd.same s3).sameT st
    have hr4 := st.lst hr
    have kt := k3.trans st
    refine EG.gen_list (k := .any) (K := K) (xs := nvs (Tn.lst ps.length fun c => decide (Tr.par ps c = 0))) (fun j z H' => SameT H4 H' ∧ ∀ j' c, j' < j → (Tn.lst ps.length fun c => decide (Tr.par ps c = 0))[j']? = some c → ¬ 0 < g c) ⟨SameT.refl _, fun _ _ h => absurd h (Nat.not_lt_zero _)⟩ (fun j z H' _ e => SqL.of (e.1.lst hr4)) ?_ ?_
    · rintro j x z H5 hx ⟨s5, no⟩
      obtain ⟨c, hc, rfl⟩ := nvs_of hx
      obtain ⟨c1, c2, c3⟩ := Tn.mem_lst.mp (List.mem_of_getElem? hc)
      have c3 := of_decide_eq_true c3
      refine ⟨rfl, ?_⟩
      refine ⟨_, rfl, _, rfl, gd, .int (g c), rfl, (hg4.sameT s5).get c1 c2, _, _, rfl, rfl, _, rfl, ?_⟩
      refine boolIte (fun hh => ?_) (fun hh => ?_)
      · exact ⟨_, rfl, iteT (none_ (top_root.mpr ⟨c, c1, c2, c3, of_decide_eq_true hh⟩) _ (kt.trans s5))⟩
      · have hh := of_decide_eq_false hh
        refine ⟨s5, fun j' c' hj hc' => ?_⟩
        by_cases d : j' < j
        · exact no j' c' d hc'
        · obtain rfl : j' = j := by omega
          rw [hc] at hc'
          cases hc'
          exact hh
    rintro z H5 ⟨s5, no⟩
    have kt5 := kt.trans s5
    have le : Tn.top ps.length (Tr.par ps) (Tn.inL []) g ≤ 0 := by
      have : ¬ 0 < Tn.top ps.length (Tr.par ps) (Tn.inL []) g := fun y => by
        obtain ⟨c, c1, c2, c3, c4⟩ := top_root.mp y
        obtain ⟨j, hj⟩ := List.getElem?_of_mem (Tn.mem_lst (s := fun c => decide (Tr.par ps c = 0)) |>.mpr ⟨c1, c2, decide_eq_true c3⟩)
        exact no j c (by rw [nvs_len]; exact (List.getElem?_eq_some_iff.mp hj).1) hj c4
      omega
    refine ⟨_, rfl, iteF ?_⟩
    have hx5 : H5 s = some (.ins T.C_Tunnels dx [("shape", .ref sh), ("lengths", .ref t)]) := kt5.keep _ _ (fun _ z => by cases z) h1
    have hs5 := kt5.keep _ _ (fun _ z => by cases z) hs
    refine ⟨_, rfl, _, _, _, _, _, rfl, hx5, T.cl_Tunnels, T.n_Tunnels_shape, (by first | rfl | kernel_rfl), _, _, _, _, _, rfl, hs5, T.cl_Shape, T.n_Shape_size, shf_size, ?_⟩
    refine ⟨_, _, rfl, rfl, _, _, rfl, ⟨by decide, by decide, by omega, by omega⟩, fun D hD => ?_⟩
    rw [show ((ps.length : Int) + 1 - 1).toNat = ps.length by omega]
    have hg5 := hg4.sameT s5
    refine lc_range (lo := 1) (fun i H' => Same H5 H' ∧ H' D = some (.lst ((prs i g).map V.int))) ⟨same_new hD, upd_same⟩ ?_ ?_
    · rintro i H6 hi ⟨s6, hD6⟩
      refine ⟨rfl, ?_⟩
      rw [show (1 : Int) + (i : Int) = ((i + 1 : Nat) : Int) by omega]
      refine ⟨_, rfl, _, rfl, gd, .int (g (i + 1)), rfl, (hg5.same s6).get (by omega) (by omega), _, _, rfl, ?_⟩
      refine ⟨_, hD6, size_lt (by rw [List.length_map, prs_len]; omega), same_mut s6 hD, ?_⟩
      rw [upd_same]
      unfold prs
      rw [List.range_succ, List.map_append, List.map_append]
      rfl
    rintro H6 ⟨s6, hD6⟩
    exact some_ le D H6 (kt5.trans (Same.t s6)) (kt5.free hD) hD6
theorem ok_l_rule (T : Tx P K mg) (TB : TBs T base) : FnOk P w K mg base L2.CX0 1 T.a_l_rule T.d_l_rule ["_law_parents_here", "_law_lengths", "_law_weights", "_law_a", "_law_b", "_law_offered"] (spRuleL K) := by
  refine T.F_l_rule.ok sc_l_rule (fun vs H Q E h => ?_) (fun cdv A outer s H vs Q E hr h => ?_)
  · obtain ⟨p, l, w, o, ps, ls, ws, off, a, b, rfl, _⟩ := h
    rfl
  · obtain ⟨p, l, w, o, ps, ls, ws, off, a, b, rfl, hp, hl, hw, ho, ok, ll, lw, n60, lo, bl, bw, ba, bb, q⟩ := h
    have lnv := nvs_len ps
    have lof : (off.map V.int).length = off.length := List.length_map ..
    refine ⟨_, (pss_cons (ps_if (pt_cmpR op_ne (pe_callB (id := "len") call_len_seq (by rfl) T.z_len (by decide +kernel) (pa_cons (pv 5) pa_nil)) (pe_callB (id := "len") call_len_seq (by rfl) T.z_len (by decide +kernel) (pa_cons (pv 0) pa_nil)) (nomark _))
          (pss_one (ps_ret pe_bl))
          pss_nil)
          (pss_cons (ps_for PassesOwn.never rfl (pi_range2 rfl T.z_range (pa_cons pe_int (pa_cons (pe_op op_add (pe_callB (id := "len") call_len_seq (by rfl) T.z_len (by decide +kernel) (pa_cons (pv 0) pa_nil)) pe_int) pa_nil))) (pg_name (i := 6) sc_l_rule.nd rfl (Or.inr rfl))
          (pss_cons (ps_set (i := 7) sc_l_rule.nd rfl (Or.inl rfl) (pe_callB (id := "sum") (cr_sum rfl) (by rfl) T.z_sum (by decide +kernel) (pa_cons (pe_lc (own := [("_law_c", 8)]) (g := gName 8) rfl sc_l_rule.nd (pi_range2 rfl T.z_range (pa_cons pe_int (pa_cons (pe_op op_add (pe_callB (id := "len") call_len_seq (by rfl) T.z_len (by decide +kernel) (pa_cons (pv 0) pa_nil)) pe_int) pa_nil))) (blkOk_by (N := ["_law_parents_here", "_law_lengths", "_law_weights", "_law_a", "_law_b", "_law_offered", "_law_k", "_law_behind", "_law_c"]) (sc := defScope s_l_rule) (by decide +kernel)) (fun _ _ _ _ _ => (pg_name (i := 8) sc_l_rule.nd rfl (Or.inl rfl))) (fun _ _ _ _ _ => (pts_one (pt_cmpR op_eq (pe_ix (ix_listK (K := K)) (pv 0) (pe_op op_sub (pv 8) pe_int) (fun _ _ => rfl)) (pv 6) (nomark _)))) (fun _ _ _ _ _ => (pe_ix (ix_listK (K := K)) (pv 5) (pe_op op_sub (pv 8) pe_int) (fun _ _ => rfl)))) pa_nil)))
          (pss_cons (ps_if (PW.pt (pw_or (pt_cmpR op_lt (pe_ix ix_list (pv 5) (pe_op op_sub (pv 6) pe_int) (fun _ _ => rfl)) pe_int (nomark _)) (pw_or1 (pt_cmpR op_lt (pe_ix ix_list (pv 5) (pe_op op_sub (pv 6) pe_int) (fun _ _ => rfl)) (pe_op op_add (pe_op op_sub (pe_op op_mul (pv 4) (pe_ix ix_list (pv 2) (pe_op op_sub (pv 6) pe_int) (fun _ _ => rfl))) (pe_op op_mul (pv 3) (pe_ix ix_list (pv 1) (pe_op op_sub (pv 6) pe_int) (fun _ _ => rfl)))) (pv 7)) (nomark _)))))
          (pss_one (ps_ret pe_bl))
          pss_nil)
          (pss_one (ps_if (PW.pt (pw_and (pt_cmpR op_eq (pe_ix ix_list (pv 0) (pe_op op_sub (pv 6) pe_int) (fun _ _ => rfl)) pe_int (nomark _)) (pw_and1 (pt_cmpR op_ne (pe_ix ix_list (pv 5) (pe_op op_sub (pv 6) pe_int) (fun _ _ => rfl)) pe_int (nomark _)))))
          (pss_one (ps_ret pe_bl))
          pss_nil)))))
          (pss_one (ps_ret pe_bl)))), ?_⟩
    refine ⟨_, rfl, o, _, rfl, .inl ho, _, rfl, p, _, rfl, .inl hp, rfl, _, rfl, ?_⟩
    refine notIte (fun h0 => ?_) (fun h0 => ?_)
    rotate_left
    · have h0 := of_decide_eq_false h0
      exact q false ⟨fun y => (by cases y), fun r => absurd (show V.int _ = V.int _ by rw [lof, lnv, r.1.2]) h0⟩ _ (Same.refl _)
    have oL : off.length = ps.length := by
      have := V.int.inj (of_decide_eq_true h0)
      omega
    refine ⟨_, rfl, p, _, rfl, .inl hp, _, _, rfl, rfl, _, _, rfl, ⟨by decide, by decide, by omega, by omega⟩, for_range (lo := 1) (fun i σ H' => ∃ c e : Option V, σ = [some (.ref p), some (.ref l), some (.ref w), some (.int a), some (.int b), some (.ref o), c, e, none] ∧ Same H H' ∧ ∀ k, 1 ≤ k → k ≤ i → 0 ≤ vf off k ∧ (b * vf ws k - a * vf ls k) + Tn.sm ps.length (fun c => Tn.i0 (decide (Tr.par ps c = k)) (vf off c)) ≤ vf off k ∧ (Tr.par ps k = 0 → vf off k = 0)) ⟨none, none, rfl, Same.refl _, fun k a b => by omega⟩ ?_ ?_⟩
    · rintro i _ H3 hi ⟨c, e, rfl, s3, hR⟩
      have hi' : i < ps.length := by omega
      have e0 : (1 : Int) + (i : Int) = ((i + 1 : Nat) : Int) := by omega
      rw [e0]
      refine ⟨_, rfl, p, _, rfl, .inl (s3.seq hp), _, _, rfl, rfl, _, _, rfl, ⟨by decide, by decide, by omega, by omega⟩, fun B hB => ?_⟩
      rw [show (((nvs ps).length : Int) + 1 - 1).toNat = ps.length by omega]
      refine lc_range (lo := 1) (fun j H' => Same H3 H' ∧ H' B = some (.lst (((Tn.lst j fun c => decide (Tr.par ps c = i + 1)).map (vf off)).map V.int))) ⟨same_new hB, upd_same⟩ ?_ ?_
      · rintro j H5 hj ⟨s5, hB5⟩
        have li : (Tn.lst j fun c => decide (Tr.par ps c = i + 1)).length ≤ j := by
          unfold Tn.lst
          exact Nat.le_trans (List.length_filter_le _ _) (by rw [List.length_map, List.length_range]; exact Nat.le_refl _)
        have s05 := s3.trans s5
        refine ⟨rfl, ?_⟩
        refine ⟨_, rfl, _, rfl, _, _, rfl, rfl, p, _, _, _, rfl, rfl, s05.seq hp, par_at (k := j + 1) ok (by omega) (by omega) (by omega), _, rfl, rfl, _, rfl, ?_⟩
        have eb : decide (V.int (Tr.par ps (j + 1) : Nat) = V.int ((i + 1 : Nat) : Int)) = decide (Tr.par ps (j + 1) = i + 1) := decide_eq_decide.mpr ⟨fun e => by have := V.int.inj e; omega, fun e => by rw [e]⟩
        rw [Tn.lst_succ]
        refine boolIte (fun hb => ?_) (fun hb => ?_)
        · rw [eb] at hb
          refine ⟨_, rfl, _, rfl, _, _, rfl, rfl, o, _, _, _, rfl, rfl, s05.seq ho, vf_at (k := j + 1) (by omega) (by omega) (by omega), ?_⟩
          refine ⟨_, hB5, size_lt (by rw [List.length_map, List.length_map]; omega), same_mut s5 hB, ?_⟩
          rw [upd_same, if_pos hb, List.map_append, List.map_append]
          rfl
        · rw [eb] at hb
          refine ⟨s5, ?_⟩
          rw [hB5, if_neg (by rw [hb]; decide), List.append_nil]
      rintro H5 ⟨s5, hB5⟩
      have s05 := s3.trans s5
      refine ⟨B, _, rfl, SqL.of hB5, ?_⟩
      rw [Tn.sum_lst]
      have bw' := bw.vf (i + 1)
      have bl' := bl.vf (i + 1)
      have neg : ¬ (0 ≤ vf off (i + 1) ∧ (b * vf ws (i + 1) - a * vf ls (i + 1)) + Tn.sm ps.length (fun c => Tn.i0 (decide (Tr.par ps c = i + 1)) (vf off c)) ≤ vf off (i + 1) ∧ (Tr.par ps (i + 1) = 0 → vf off (i + 1) = 0)) → Q (.bl false) H5 := fun n => q false ⟨fun y => (by cases y), fun r => absurd ⟨r.1.1 _ (List.mem_of_getElem? (vf_get (by omega) (by omega))), r.2 (i + 1) (by omega) (by omega)⟩ n⟩ _ s05
      refine ⟨_, rfl, _, rfl, _, _, rfl, rfl, o, _, _, _, rfl, rfl, s05.seq ho, vf_at (k := i + 1) (by omega) (by omega) rfl, _, _, rfl, rfl, _, rfl, ?_⟩
      refine boolIte (fun h1 => ?_) (fun h1 => ?_)
      · refine iteT ?_
        exact neg fun z => absurd z.1 (Int.not_le.mpr (of_decide_eq_true h1))
      have h1 := Int.not_lt.mp (of_decide_eq_false h1)
      refine ⟨_, rfl, _, rfl, _, _, rfl, rfl, o, _, _, _, rfl, rfl, s05.seq ho, vf_at (k := i + 1) (by omega) (by omega) rfl, ?_⟩
      refine ⟨_, rfl, _, rfl, _, rfl, _, _, rfl, rfl, w, _, _, _, rfl, rfl, s05.seq hw, vf_at (k := i + 1) (by omega) (by omega) rfl, _, _, rfl, rfl, .inl ⟨by omega, by omega⟩, ?_⟩
      refine ⟨_, rfl, _, rfl, _, rfl, _, _, rfl, rfl, l, _, _, _, rfl, rfl, s05.seq hl, vf_at (k := i + 1) (by omega) (by omega) rfl, _, _, rfl, rfl, .inl ⟨by omega, by omega⟩, _, _, rfl, rfl, _, rfl, _, _, rfl, rfl, _, _, rfl, rfl, _, rfl, ?_⟩
      refine boolIte (fun hh => ?_) (fun hh => ?_)
      · exact neg fun z => absurd z.2.1 (Int.not_le.mpr (of_decide_eq_true hh))
      have hh := Int.not_lt.mp (of_decide_eq_false hh)
      have fin : (Tr.par ps (i + 1) = 0 → vf off (i + 1) = 0) → ∃ c e : Option V, (([some (.ref p), some (.ref l), some (.ref w), some (.int a), some (.int b), some (.ref o), c, e, none].set 6 (some (V.int ((i + 1 : Nat) : Int)))).set 7 (some (V.int (Tn.fs ps.length (vf off) fun c => decide (Tr.par ps c = i + 1)))) : List (Option V)) = [some (.ref p), some (.ref l), some (.ref w), some (.int a), some (.int b), some (.ref o), c, e, none] ∧ Same H H5 ∧ ∀ k, 1 ≤ k → k ≤ i + 1 → 0 ≤ vf off k ∧ (b * vf ws k - a * vf ls k) + Tn.sm ps.length (fun c => Tn.i0 (decide (Tr.par ps c = k)) (vf off c)) ≤ vf off k ∧ (Tr.par ps k = 0 → vf off k = 0) := fun z => ⟨_, _, rfl, s05, fun k k1 k2 => by
        by_cases d : k ≤ i
        · exact hR k k1 d
        · obtain rfl : k = i + 1 := by omega
          exact ⟨h1, hh, z⟩⟩
      refine ⟨_, rfl, _, rfl, _, _, rfl, rfl, p, _, _, _, rfl, rfl, s05.seq hp, par_at (k := i + 1) ok (by omega) (by omega) rfl, rfl, _, rfl, ?_⟩
      refine boolIte (fun h1' => ?_) (fun h1' => ?_)
      · have z0 : Tr.par ps (i + 1) = 0 := by have := V.int.inj (of_decide_eq_true h1'); omega
        refine ⟨_, rfl, _, rfl, _, _, rfl, rfl, o, _, _, _, rfl, rfl, s05.seq ho, vf_at (k := i + 1) (by omega) (by omega) rfl, rfl, _, rfl, ?_⟩
        refine notIte (fun h2' => ?_) (fun h2' => ?_)
        · exact fin fun _ => V.int.inj (of_decide_eq_true h2')
        · exact neg fun y => absurd (y.2.2 z0) fun w => of_decide_eq_false h2' (by rw [w])
      · exact fin fun z0 => absurd (of_decide_eq_false h1') fun y => y (by rw [z0]; rfl)
    rintro _ H3 ⟨c, e, rfl, s3, hR⟩
    rw [show (((nvs ps).length : Int) + 1 - 1).toNat = ps.length by omega] at hR
    refine q true ⟨fun _ => ⟨⟨fun v hv => ?_, oL⟩, fun k a b => (hR k a b).2⟩, fun _ => rfl⟩ _ s3
    obtain ⟨k, hk⟩ := List.getElem?_of_mem hv
    have hk1 := (List.getElem?_eq_some_iff.mp hk).1
    have e := vf_get (vs := off) (k := k + 1) (by omega) (by omega)
    rw [show k + 1 - 1 = k by omega, hk] at e
    rw [Option.some.inj e]
    exact (hR (k + 1) (by omega) (by omega)).1
theorem ok_height (T : Tx P K mg) (TB : TBs T base) : FnOk P w K mg base (L2N.CX P w) 8 T.a_height T.d_height ["tunnels", "weights", "length"] (spHeight K T.C_Tunnels T.C_Shape T.x_BadWeight.C T.x_BadCount.C) := by
  have G_corners := ok_corners (P := P) (w := w) (base := base) T TB
  refine EP.Fun.okXN T.F_height sc_height (fun vs H Q E h => ?_) (fun cdv A outer s H vs Q E hr h => ?_)
  · obtain ⟨s, v, ps, ls, ws, L, rfl, _⟩ := h
    rfl
  · obtain ⟨s, v, ps, ls, ws, L, rfl, S, hv, lw, s60, bw, sL, good, bad⟩ := h
    have bdl := S.bd
    refine ⟨_, (pss_cons (ps_set (i := 3) sc_height.nd rfl (Or.inl rfl) (pe_call G_corners hr rfl T.g_corners T.F_corners.kp T.B_corners .nil pass_upN (pa_cons (pv 0) (pa_cons (pv 1) pa_nil))))
          (pss_cons (ps_if (pt_not (pt_chain op_le op_le pe_int (pv 2) (pe_ix ix_tup (pe_ix ix_list (pv 3) (pe_un un_neg pe_int) (fun _ _ => rfl)) pe_int (fun _ _ => rfl))))
          (pss_one (L2N.ps_raise rfl (L2N.takes_of rfl rfl rfl rfl) (pmk_oexN T.x_BadCount.sup.oex T.x_BadCount.iC T.x_BadCount.tI (init_BadCount T) (hr.mono (by decide)) (bind_BadCount T) .nil pass0 rfl T.x_BadCount.mgX (pa_cons (pv 2) pa_nil))))
          pss_nil)
          (pss_cons (ps_set (i := 4) sc_height.nd rfl (Or.inl rfl) (pe_callB (id := "max") (cr_max rfl) (by rfl) T.z_max (by decide +kernel) (pa_cons (pe_lc (own := [("at", 11), ("corner", 12)]) (g := gTup K 2 (gCons (gName 11) (gCons (gName 12) (gNil)))) rfl sc_height.nd (pi_enumS rfl T.z_enumerate (pa_cons (pe_slice sl_list (pv 3) po_none (po_some (pe_un un_neg pe_int))) pa_nil)) (blkOk_by (N := ["tunnels", "weights", "length", "found", "place", "start", "low", "end", "high", "numerator", "shared", "at", "corner"]) (sc := defScope s_height) (by decide +kernel)) (fun _ _ _ _ _ => (pg_tup rfl (pgs_cons (pg_name (i := 11) sc_height.nd rfl (Or.inl rfl)) (pgs_cons (pg_name (i := 12) sc_height.nd rfl (Or.inl rfl)) pgs_nil)))) (fun _ _ _ _ _ => (pts_one (pt_cmpR op_le (pe_ix (ix_tupK (K := K)) (pv 12) pe_int (fun _ _ => rfl)) (pv 2) (nomark _)))) (fun _ _ _ _ _ => (pv 11))) pa_nil)))
          (pss_cons (ps_asg (pe_ix ix_list (pv 3) (pv 4) (fun _ _ => rfl)) (pg_tup rfl (pgs_cons (pg_name (i := 5) sc_height.nd rfl (Or.inl rfl)) (pgs_cons (pg_name (i := 6) sc_height.nd rfl (Or.inl rfl)) pgs_nil))))
          (pss_cons (ps_asg (pe_ix ix_list (pv 3) (pe_op op_add (pv 4) pe_int) (fun _ _ => rfl)) (pg_tup rfl (pgs_cons (pg_name (i := 7) sc_height.nd rfl (Or.inl rfl)) (pgs_cons (pg_name (i := 8) sc_height.nd rfl (Or.inl rfl)) pgs_nil))))
          (pss_cons (ps_set (i := 9) sc_height.nd rfl (Or.inl rfl) (pe_op op_add (pe_op op_mul (pv 6) (pe_op op_sub (pv 7) (pv 5))) (pe_op op_mul (pe_op op_sub (pv 2) (pv 5)) (pe_op op_sub (pv 8) (pv 6)))))
          (pss_cons (ps_set (i := 10) sc_height.nd rfl (Or.inl rfl) (pe_callBfun cr_gcd rfl T.im_gcd (pa_cons (pv 9) (pa_cons (pe_op op_sub (pv 7) (pv 5)) pa_nil))))
          (pss_one (ps_ret (pe_tup (pa_cons (pe_op op_fdivW (pv 9) (pv 10)) (pa_cons (pe_op op_fdivW (pe_op op_sub (pv 7) (pv 5)) (pv 10)) pa_nil)))))))))))), ?_⟩
    refine ⟨_, rfl, _, rfl, s, v, ps, ls, ws, rfl, S, hv, lw, s60, bw, fun hn r bs H1 s1 nr st fu CA => ?_, bad⟩
    obtain ⟨g1, g2⟩ := good hn bs st fu
    obtain ⟨k1, k2⟩ := blk_ok par_ok st
    obtain ⟨xs, x1, x2, x3⟩ := CrnAt.at CA
    have b0 : 0 < bs.length := by
      have := fu 1 (Nat.le_refl _) S.ok.2.1
      cases hc : bs with
      | nil => rw [hc] at this; cases this
      | cons x y => exact Nat.succ_pos _
    obtain ⟨ql, ql1, ql2⟩ := x3 bs.length (Nat.le_refl _)
    have bdw : Bd ws := fun x hx => ⟨hn.1 x hx, bw x hx⟩
    have cb : ∀ i, 0 ≤ crn (vf ls) bs i ∧ crn (vf ls) bs i ≤ ps.length * 2 ^ 40 := fun i => crn_bd st bdl.2.1 i
    have cw : ∀ i, 0 ≤ crn (vf ws) bs i ∧ crn (vf ws) bs i ≤ ps.length * 2 ^ 40 := fun i => crn_bd st bdw i
    have up : ∀ L', L' ≤ crn (vf ls) bs bs.length → L' ≤ 2 ^ 46 := fun L' h => by have := (cb bs.length).2; omega
    have lastAt : atI xs (-1) = some (V.ref ql) := by
      have e : xs = xs.take bs.length ++ [V.ref ql] := by
        have h := List.take_succ_eq_append_getElem (l := xs) (i := bs.length) (by omega)
        rw [List.take_of_length_le (by omega), (List.getElem?_eq_some_iff.mp ql1).2] at h
        exact h
      rw [e]
      exact atI_last _ _
    refine ⟨_, rfl, _, _, rfl, rfl, _, rfl, ?_⟩
    have rd : ∀ {A : Prop}, (0 ≤ L → A) → (0 ≤ L ∨ L < 0) := fun _ => by omega
    refine ite2 (fun h0 => ?_) (fun h0 => ?_)
    rotate_left
    · refine ⟨_, rfl, iteT ?_⟩
      exact ⟨_, rfl, mkO_intro sL.ok fun d nd => g2 (.inl (by have := of_decide_eq_false (Bool.eq_false_iff.mpr h0); omega)) d _ (s1.trans (same_new nd)) (s1.free nd) upd_same⟩
    have h0 : 0 ≤ L := of_decide_eq_true h0
    refine ⟨_, rfl, _, rfl, r, _, _, _, rfl, rfl, SqL.of x1, lastAt, ql, _, _, _, rfl, rfl, SqT.of ql2, at_of (j := 0) rfl rfl, ?_⟩
    refine ⟨_, _, rfl, rfl, _, rfl, ?_⟩
    refine notIte (fun h1 => ?_) (fun h1 => ?_)
    rotate_left
    · exact ⟨_, rfl, mkO_intro sL.ok fun d nd => g2 (.inr (Int.not_le.mp (of_decide_eq_false h1))) d _ (s1.trans (same_new nd)) (s1.free nd) upd_same⟩
    have h1 := of_decide_eq_true h1
    have lf := up L h1
    have ec : cutV xs none (some (-1)) = xs.take bs.length := by
      unfold cutV
      rw [HT.sIx_none, List.drop_zero]
      congr 1
      show (((-1 : Int) + (xs.length : Int)).toNat) - 0 = _
      omega
    refine ⟨_, rfl, _, rfl, _, rfl, r, _, rfl, SqL.of x1, fun p np => ?_⟩
    rw [ec]
    have s2 := same_new (o := .lst (xs.take bs.length)) np
    have hp2 : (upd H1 p (.lst (xs.take bs.length))) p = some (.lst (xs.take bs.length)) := upd_same
    generalize upd H1 p (.lst (xs.take bs.length)) = H2 at s2 hp2
    have lt : (xs.take bs.length).length = bs.length := by rw [List.length_take]; omega
    refine ⟨p, _, rfl, .inl ⟨SqL.of hp2, fun D nD => ?_⟩⟩
    refine lc_enum (K := K) (a := p) (xs := xs.take bs.length) (fun i H' => Same H2 H' ∧ H' D = some (.lst ((toI ((List.range i).filter fun j => decide (crn (vf ls) bs j ≤ L))).map V.int))) ⟨same_new nD, upd_same⟩ (fun i H' _ z => SqL.of (z.1 _ _ hp2)) ?_ ?_
    · rintro i x tt H3 hx ⟨s3, hD⟩ ntt
      have hi := (List.getElem?_eq_some_iff.mp hx).1
      rw [lt] at hi
      obtain ⟨qi, gi, ti⟩ := x3 i (by omega)
      rw [List.getElem?_take_of_lt hi, gi] at hx
      obtain rfl := Option.some.inj hx
      have s4 := same_new (o := .tup [.int (i : Nat), V.ref qi]) ntt
      have hqi := s4 _ _ (s3 _ _ (s2 _ _ ti))
      have hD4 := s4 _ _ hD
      refine ⟨tt, _, rfl, SqT.of upd_same, rfl, _, _, rfl, _, _, rfl, rfl, rfl, ?_⟩
      refine ⟨_, rfl, qi, _, _, _, rfl, rfl, SqT.of hqi, at_of (j := 0) rfl rfl, _, rfl, _, _, rfl, rfl, _, rfl, ?_⟩
      refine boolIte (fun hb => ?_) (fun hb => ?_)
      · refine ⟨_, rfl, _, hD4, size_lt (by rw [List.length_map, toI_len]; have := List.length_filter_le (fun j => decide (crn (vf ls) bs j ≤ L)) (List.range i); rw [List.length_range] at this; omega), same_mut (s3.trans s4) nD, ?_⟩
        rw [upd_same, List.range_succ, List.filter_append, List.filter_cons, if_pos hb]
        unfold toI
        rw [List.map_append, List.map_append]
        rfl
      · refine ⟨s3.trans s4, ?_⟩
        rw [hD4, List.range_succ, List.filter_append, List.filter_cons, if_neg (by rw [hb]; decide), List.filter_nil, List.append_nil]
    rintro H3 ⟨s3, hD⟩
    rw [lt] at hD
    have in0 : (0 : Int) ∈ toI ((List.range bs.length).filter fun j => decide (crn (vf ls) bs j ≤ L)) := by
      unfold toI
      exact List.mem_map.mpr ⟨0, List.mem_filter.mpr ⟨List.mem_range.mpr b0, decide_eq_true (by rw [crn_zero]; exact h0)⟩, rfl⟩
    refine ⟨D, _, rfl, SqL.of hD, List.length_pos_of_mem in0, fun mx hm hM => ?_⟩
    obtain ⟨i, hi, rfl⟩ := List.mem_map.mp hm
    obtain ⟨hi1, hi2⟩ := List.mem_filter.mp hi
    have hi1 := List.mem_range.mp hi1
    have hi2 := of_decide_eq_true hi2
    have hi3 : L ≤ crn (vf ls) bs (i + 1) := by
      by_cases z : i + 1 < bs.length
      · refine Int.le_of_lt (Int.not_le.mp fun y => ?_)
        have := hM ((i + 1 : Nat) : Int) (List.mem_map.mpr ⟨i + 1, List.mem_filter.mpr ⟨List.mem_range.mpr z, decide_eq_true y⟩, rfl⟩)
        omega
      · rw [show i + 1 = bs.length by omega]
        exact h1
    have lt1 := crn_lt st hi1
    have c1 := cb i
    have c2 := cb (i + 1)
    have c3 := cw i
    have c4 := cw (i + 1)
    have n60 : (ps.length : Int) ≤ 60 := by omega
    have c2' : crn (vf ls) bs (i + 1) ≤ 2 ^ 46 := by omega
    have c3' : crn (vf ws) bs i ≤ 2 ^ 46 := by omega
    obtain ⟨qa, qag, qah⟩ := x3 i (by omega)
    obtain ⟨qb, qbg, qbh⟩ := x3 (i + 1) (by omega)
    have s13 := s2.trans s3
    have x13 := s13 _ _ x1
    refine ⟨_, rfl, _, rfl, r, _, _, _, rfl, rfl, SqL.of x13, at_of (j := i) rfl qag, qa, _, rfl, SqT.of (s13 _ _ qah), rfl, _, _, rfl, _, _, rfl, rfl, ?_⟩
    refine ⟨_, rfl, _, rfl, _, _, rfl, rfl, r, _, _, _, rfl, rfl, SqL.of x13, at_of (j := i + 1) rfl qbg, qb, _, rfl, SqT.of (s13 _ _ qbh), rfl, _, _, rfl, _, _, rfl, rfl, ?_⟩
    refine ⟨_, rfl, _, rfl, _, rfl, _, _, rfl, rfl, _, _, rfl, rfl, .inl ⟨by omega, by omega⟩, ?_⟩
    refine ⟨_, rfl, _, rfl, _, _, rfl, rfl, _, rfl, _, rfl, _, _, rfl, rfl, _, _, rfl, rfl, .inl ⟨by omega, by omega⟩, _, _, rfl, rfl, ?_⟩
    refine ⟨_, rfl, _, rfl, _, rfl, _, _, rfl, rfl, _, _, rfl, ?_⟩
    have hol : OnLine ls ws bs L (crn (vf ws) bs i * (crn (vf ls) bs (i + 1) - crn (vf ls) bs i) + (L - crn (vf ls) bs i) * (crn (vf ws) bs (i + 1) - crn (vf ws) bs i)) (crn (vf ls) bs (i + 1) - crn (vf ls) bs i) := ⟨i, hi1, hi2, hi3, rfl, rfl⟩
    have wup : 0 ≤ crn (vf ws) bs (i + 1) - crn (vf ws) bs i := by
      have hb := List.getElem?_eq_getElem hi1
      rw [crn_succ hb]
      obtain ⟨W, e, _⟩ := st.at i _ hb
      rw [e, Tn.sumL_lst]
      have := (fs_bd bdw W ps.length).1
      omega
    have x0 : 0 ≤ crn (vf ws) bs i * (crn (vf ls) bs (i + 1) - crn (vf ls) bs i) + (L - crn (vf ls) bs i) * (crn (vf ws) bs (i + 1) - crn (vf ws) bs i) := Int.add_nonneg (Int.mul_nonneg c3.1 (by omega)) (Int.mul_nonneg (by omega) wup)
    have ht := gcd_ht hol (by omega) x0 (by omega)
    generalize hX : crn (vf ws) bs i * (crn (vf ls) bs (i + 1) - crn (vf ls) bs i) + (L - crn (vf ls) bs i) * (crn (vf ws) bs (i + 1) - crn (vf ws) bs i) = X at ht hol x0
    generalize hY : crn (vf ls) bs (i + 1) - crn (vf ls) bs i = Y at ht hol
    have Y0 : 0 < Y := by omega
    have Yb : Y ≤ 2 ^ 46 := by omega
    have gp : 0 < Nat.gcd X.natAbs Y.natAbs := Nat.gcd_pos_of_pos_right _ (by omega)
    have gb : Nat.gcd X.natAbs Y.natAbs ≤ Y.natAbs := Nat.gcd_le_right _ (by omega)
    have cd : ∀ z : Int, CDivW z ((Nat.gcd X.natAbs Y.natAbs : Nat) : Int) := fun z => wide_div (b := 50) (by omega) (by omega) (by decide) (by decide)
    refine ⟨_, rfl, _, rfl, _, _, rfl, rfl, cd _, _, rfl, _, rfl, _, _, rfl, rfl, _, rfl, _, _, rfl, rfl, cd _, (by show 2 ≤ sizeLine; exact size_le (by omega)), fun t nt => ?_⟩
    subst hX hY
    exact g1 h0 h1 _ _ t _ ht (s1.trans (s13.trans (same_new nt))) (s1.free (s13.free nt)) upd_same
theorem ok_l_steeper (T : Tx P K mg) (TB : TBs T base) : FnOk P w K mg base L2.CX0 1 T.a_l_steeper T.d_l_steeper ["_law_more", "_law_best"] (spSteeper K) := by
  refine T.F_l_steeper.ok sc_l_steeper (fun vs H Q E h => ?_) (fun cdv A outer s H vs Q E hr h => ?_)
  · obtain ⟨m, t, a, b, x, y, rfl, _⟩ := h
    rfl
  · obtain ⟨m, t, a, b, x, y, rfl, hm, ht, ba, bb, bx, by_, q⟩ := h
    have q1 : ∀ z : Bool, z = steeper a b x y → Q (.bl z) H := fun z e => e ▸ q
    refine ⟨_, (pss_cons (ps_if (pt_cmpR op_eq (pe_op op_mul (pe_ix ix_tup (pv 0) pe_int (fun _ _ => rfl)) (pe_ix ix_tup (pv 1) pe_int (fun _ _ => rfl))) (pe_op op_mul (pe_ix ix_tup (pv 1) pe_int (fun _ _ => rfl)) (pe_ix ix_tup (pv 0) pe_int (fun _ _ => rfl))) (nomark _))
          (pss_one (ps_ret (pe_cmpR op_gt (pe_ix ix_tup (pv 0) pe_int (fun _ _ => rfl)) (pe_ix ix_tup (pv 1) pe_int (fun _ _ => rfl)) (nomark _))))
          pss_nil)
          (pss_one (ps_ret (pe_cmpR op_gt (pe_op op_mul (pe_ix ix_tup (pv 0) pe_int (fun _ _ => rfl)) (pe_ix ix_tup (pv 1) pe_int (fun _ _ => rfl))) (pe_op op_mul (pe_ix ix_tup (pv 1) pe_int (fun _ _ => rfl)) (pe_ix ix_tup (pv 0) pe_int (fun _ _ => rfl))) (nomark _))))), ?_⟩
    refine ⟨_, rfl, m, _, _, _, rfl, rfl, hm, at_of (j := 1) rfl rfl, _, rfl, t, _, _, _, rfl, rfl, ht, at_of (j := 0) rfl rfl, _, _, rfl, rfl, .inl ⟨by omega, by omega⟩, ?_⟩
    refine ⟨_, rfl, t, _, _, _, rfl, rfl, ht, at_of (j := 1) rfl rfl, _, rfl, m, _, _, _, rfl, rfl, hm, at_of (j := 0) rfl rfl, _, _, rfl, rfl, .inl ⟨by omega, by omega⟩, rfl, _, rfl, ?_⟩
    refine boolIte (fun h1 => ?_) (fun h1 => ?_)
    · have h1 := V.int.inj (of_decide_eq_true h1)
      refine ⟨_, rfl, m, _, _, _, rfl, rfl, hm, at_of (j := 0) rfl rfl, _, rfl, t, _, _, _, rfl, rfl, ht, at_of (j := 0) rfl rfl, _, _, rfl, rfl, ?_⟩
      refine q1 _ ?_
      unfold steeper
      rw [if_pos h1]
    · have h1 : ¬ b * x = y * a := fun e => of_decide_eq_false h1 (by show V.int (b * x) = V.int (y * a); rw [e])
      refine ⟨_, rfl, m, _, _, _, rfl, rfl, hm, at_of (j := 1) rfl rfl, _, rfl, t, _, _, _, rfl, rfl, ht, at_of (j := 0) rfl rfl, _, _, rfl, rfl, .inl ⟨by omega, by omega⟩, ?_⟩
      refine ⟨_, rfl, t, _, _, _, rfl, rfl, ht, at_of (j := 1) rfl rfl, _, rfl, m, _, _, _, rfl, rfl, hm, at_of (j := 0) rfl rfl, _, _, rfl, rfl, .inl ⟨by omega, by omega⟩, _, _, rfl, rfl, ?_⟩
      refine q1 _ ?_
      unfold steeper
      rw [if_neg h1]
theorem ok_l_line (T : Tx P K mg) (TB : TBs T base) : FnOk P w K mg base L2.CX0 1 T.a_l_line T.d_l_line ["_law_ends_here", "_law_length"] (spLineE K) := by
  refine T.F_l_line.ok sc_l_line (fun vs H Q E h => ?_) (fun cdv A outer s H vs Q E hr h => ?_)
  · obtain ⟨e, n, par, ls, ws, bs, L, rfl, _⟩ := h
    rfl
  · obtain ⟨e, n, par, ls, ws, bs, L, rfl, CE, st, b8, b1, n8, bl, bw, L0, L1, q⟩ := h
    obtain ⟨xs, x1, x2, x3⟩ := CE.at
    have cb : ∀ i, 0 ≤ crn (vf ls) bs i ∧ crn (vf ls) bs i ≤ n * 2 ^ 40 := fun i => crn_bd st bl i
    have cw : ∀ i, 0 ≤ crn (vf ws) bs i ∧ crn (vf ws) bs i ≤ n * 2 ^ 40 := fun i => crn_bd st bw i
    refine ⟨_, (pss_cons (ps_for PassesOwn.never rfl (pi_range2 rfl T.z_range (pa_cons pe_int (pa_cons (pe_callB (id := "len") call_len_seq (by rfl) T.z_len (by decide +kernel) (pa_cons (pv 0) pa_nil)) pa_nil))) (pg_name (i := 2) sc_l_line.nd rfl (Or.inl rfl))
          (pss_cons (ps_set (i := 3) sc_l_line.nd rfl (Or.inl rfl) (pe_ix ix_list (pv 0) (pe_op op_sub (pv 2) pe_int) (fun _ _ => rfl)))
          (pss_cons (ps_set (i := 4) sc_l_line.nd rfl (Or.inl rfl) (pe_op op_sub (pe_ix ix_tup (pe_ix ix_list (pv 0) (pv 2) (fun _ _ => rfl)) pe_int (fun _ _ => rfl)) (pe_ix ix_tup (pv 3) pe_int (fun _ _ => rfl))))
          (pss_one (ps_if (pt_cmpR op_le (pv 1) (pe_ix ix_tup (pe_ix ix_list (pv 0) (pv 2) (fun _ _ => rfl)) pe_int (fun _ _ => rfl)) (nomark _))
          (pss_one (ps_ret (pe_tup (pa_cons (pe_op op_add (pe_op op_mul (pe_ix ix_tup (pv 3) pe_int (fun _ _ => rfl)) (pv 4)) (pe_op op_mul (pe_op op_sub (pe_ix ix_tup (pe_ix ix_list (pv 0) (pv 2) (fun _ _ => rfl)) pe_int (fun _ _ => rfl)) (pe_ix ix_tup (pv 3) pe_int (fun _ _ => rfl))) (pe_op op_sub (pv 1) (pe_ix ix_tup (pv 3) pe_int (fun _ _ => rfl))))) (pa_cons (pv 4) pa_nil)))))
          pss_nil)))))
          (pss_one (ps_ret (pe_tup (pa_cons pe_int (pa_cons pe_int pa_nil)))))), ?_⟩
    refine ⟨_, rfl, e, _, rfl, .inl (SqL.of x1), _, _, rfl, ⟨by decide, by decide, by omega, by omega⟩, for_range (lo := 1) (fun i σ H' => ∃ a b c : Option V, σ = [some (.ref e), some (.int L), a, b, c] ∧ Same H H' ∧ ∀ j, j < i → crn (vf ls) bs (j + 1) < L) ⟨none, none, none, rfl, Same.refl _, fun j h => absurd h (Nat.not_lt_zero _)⟩ ?_ ?_⟩
    · rintro i _ H1 hi ⟨a, b, c, rfl, s1, al⟩
      have hi' : i < bs.length := by omega
      have e0 : (1 : Int) + (i : Int) = ((i + 1 : Nat) : Int) := by omega
      rw [e0]
      obtain ⟨qa, qag, qah⟩ := x3 i (by omega)
      obtain ⟨qb, qbg, qbh⟩ := x3 (i + 1) (by omega)
      have hE := SqL.of (K := K) (s1 _ _ x1)
      have hqa := SqT.of (K := K) (s1 _ _ qah)
      have hqb := SqT.of (K := K) (s1 _ _ qbh)
      have c1 := cb i
      have c2 := cb (i + 1)
      have c3 := cw i
      have c4 := cw (i + 1)
      refine ⟨_, rfl, _, rfl, _, _, rfl, rfl, e, _, _, _, rfl, rfl, hE, at_of (j := i) (by omega) qag, ?_⟩
      refine ⟨_, rfl, _, rfl, e, _, _, _, rfl, rfl, hE, at_of (j := i + 1) rfl qbg, qb, _, _, _, rfl, rfl, hqb, at_of (j := 0) rfl rfl, _, rfl, qa, _, _, _, rfl, rfl, hqa, at_of (j := 0) rfl rfl, _, _, rfl, rfl, ?_⟩
      refine ⟨_, rfl, _, rfl, _, rfl, e, _, _, _, rfl, rfl, hE, at_of (j := i + 1) rfl qbg, qb, _, _, _, rfl, rfl, hqb, at_of (j := 0) rfl rfl, _, _, rfl, rfl, _, rfl, ?_⟩
      refine boolIte (fun h1 => ?_) (fun h1 => ?_)
      · have h1 := of_decide_eq_true h1
        refine ⟨_, rfl, qa, _, _, _, rfl, rfl, hqa, at_of (j := 1) rfl rfl, _, rfl, _, _, rfl, rfl, .inl ⟨by omega, by omega⟩, ?_⟩
        refine ⟨_, rfl, _, rfl, e, _, _, _, rfl, rfl, hE, at_of (j := i + 1) rfl qbg, qb, _, _, _, rfl, rfl, hqb, at_of (j := 1) rfl rfl, _, rfl, qa, _, _, _, rfl, rfl, hqa, at_of (j := 1) rfl rfl, _, _, rfl, rfl, ?_⟩
        refine ⟨_, rfl, _, rfl, qa, _, _, _, rfl, rfl, hqa, at_of (j := 0) rfl rfl, _, _, rfl, rfl, _, _, rfl, rfl, .inl ⟨by omega, by omega⟩, _, _, rfl, rfl, _, rfl, (by show 2 ≤ sizeLine; exact size_le (by omega)), fun t nt => ?_⟩
        refine q t _ _ _ ⟨i, hi', ?_, h1, rfl, ?_⟩ (by omega) (s1.trans (same_new nt)) (s1.free nt) upd_same
        · by_cases z : i = 0
          · subst z; exact L0
          · have := al (i - 1) (by omega)
            rw [show i - 1 + 1 = i by omega] at this
            omega
        · rw [Int.mul_comm (L - crn (vf ls) bs i)]
      · have h1 := of_decide_eq_false h1
        refine ⟨_, _, _, rfl, s1, fun j hj => ?_⟩
        by_cases z : j = i
        · subst z; omega
        · exact al j (by omega)
    rintro _ H1 ⟨a, b, c, rfl, s1, al⟩
    have := al (bs.length - 1) (by omega)
    rw [show bs.length - 1 + 1 = bs.length by omega] at this
    omega
theorem ok_l_fraction (T : Tx P K mg) (TB : TBs T base) : FnOk P w K mg base L2.CX0 2 T.a_l_fraction T.d_l_fraction ["_law_told", "_law_line_here"] (spFraction K) := by
  have G_l_is_number := ok_l_is_number (P := P) (w := w) (base := base) T TB
  refine T.F_l_fraction.ok sc_l_fraction (fun vs H Q E h => ?_) (fun cdv A outer s H vs Q E hr h => ?_)
  · obtain ⟨t, l, p, q, x, y, rfl, _⟩ := h
    rfl
  · obtain ⟨t, l, p, q, x, y, rfl, ht, hl, q1, q2, y2, e, g, k⟩ := h
    have hT := SqT.of (K := K) ht
    refine ⟨_, (pss_cons (ps_if (PW.pt (pw_or (pt_not (pt_val (pe_callB (id := "isinstance") call_isi (by rfl) T.z_isinstance (by decide +kernel) (pa_cons (pv 0) (pa_cons (pe_bltn (v := .ty "tuple") rfl T.z_tuple (by decide +kernel) rfl) pa_nil))))) (pw_or (pt_cmpR op_ne (pe_callB (id := "len") call_len_seq (by rfl) T.z_len (by decide +kernel) (pa_cons (pv 0) pa_nil)) pe_int (nomark _)) (pw_or (pt_not (pt_val (pe_callQ G_l_is_number ((roomH_of hr).mono (by decide)) rfl T.g_l_is_number T.F_l_is_number.kp T.B_l_is_number (pa_cons (pe_ix ix_tup (pv 0) pe_int (fun _ _ => rfl)) pa_nil)))) (pw_or1 (pt_not (pt_val (pe_callQ G_l_is_number ((roomH_of hr).mono (by decide)) rfl T.g_l_is_number T.F_l_is_number.kp T.B_l_is_number (pa_cons (pe_ix ix_tup (pv 0) pe_int (fun _ _ => rfl)) pa_nil)))))))))
          (pss_one (ps_ret pe_bl))
          pss_nil)
          (pss_cons (ps_if (PW.pt (pw_or (pt_cmpR op_lt (pe_ix ix_tup (pv 0) pe_int (fun _ _ => rfl)) pe_int (nomark _)) (pw_or (pt_cmpR op_gt (pe_ix ix_tup (pv 0) pe_int (fun _ _ => rfl)) (pe_ix ix_tup (pv 1) pe_int (fun _ _ => rfl)) (nomark _)) (pw_or1 (pt_cmpR op_ne (pe_op op_mul (pe_ix ix_tup (pv 0) pe_int (fun _ _ => rfl)) (pe_ix ix_tup (pv 1) pe_int (fun _ _ => rfl))) (pe_op op_mul (pe_ix ix_tup (pv 1) pe_int (fun _ _ => rfl)) (pe_ix ix_tup (pv 0) pe_int (fun _ _ => rfl))) (nomark _))))))
          (pss_one (ps_ret pe_bl))
          pss_nil)
          (pss_cons (ps_for PassesOwn.never rfl (pi_range2 rfl T.z_range (pa_cons pe_int (pa_cons (pe_op op_add (pe_ix ix_tup (pv 0) pe_int (fun _ _ => rfl)) pe_int) pa_nil))) (pg_name (i := 2) sc_l_fraction.nd rfl (Or.inl rfl))
          (pss_one (ps_if (PW.pt (pw_and (pt_cmpR op_eq (pe_op op_mod (pe_callTy (T := "int") call_int1 (by rfl) T.z_int (by decide +kernel) (pa_cons (pe_ix ix_tup (pv 0) pe_int (fun _ _ => rfl)) pa_nil)) (pv 2)) pe_int (nomark _)) (pw_and1 (pt_cmpR op_eq (pe_op op_mod (pe_callTy (T := "int") call_int1 (by rfl) T.z_int (by decide +kernel) (pa_cons (pe_ix ix_tup (pv 0) pe_int (fun _ _ => rfl)) pa_nil)) (pv 2)) pe_int (nomark _)))))
          (pss_one (ps_ret pe_bl))
          pss_nil)))
          (pss_one (ps_ret pe_bl))))), ?_⟩
    refine ⟨_, rfl, _, _, _, _, _, rfl, .ty "tuple", tyT hT, kit_ty (r := true) (by decide +kernel), _, rfl, ?_⟩
    refine iteF ?_
    refine ⟨_, rfl, t, _, rfl, .inr hT, rfl, _, rfl, ?_⟩
    refine ifF rfl ?_
    refine ⟨_, rfl, t, _, _, _, rfl, rfl, hT, at_of (j := 0) rfl rfl, p, rfl, _, rfl, ?_⟩
    refine iteF ?_
    refine ⟨_, rfl, t, _, _, _, rfl, rfl, hT, at_of (j := 1) rfl rfl, q, rfl, _, rfl, ?_⟩
    refine iteF ?_
    refine ⟨_, rfl, t, _, _, _, rfl, rfl, hT, at_of (j := 1) rfl rfl, _, _, rfl, rfl, _, rfl, ?_⟩
    refine ifF (decide_eq_false (by omega)) ?_
    refine ⟨_, rfl, t, _, _, _, rfl, rfl, hT, at_of (j := 1) rfl rfl, _, rfl, l, _, _, _, rfl, rfl, hl, at_of (j := 1) rfl rfl, _, _, rfl, rfl, _, rfl, ?_⟩
    refine ifF (decide_eq_false (by omega)) ?_
    refine ⟨_, rfl, t, _, _, _, rfl, rfl, hT, at_of (j := 0) rfl rfl, _, rfl, l, _, _, _, rfl, rfl, hl, at_of (j := 1) rfl rfl, _, _, rfl, rfl, .inr ⟨by omega, by omega⟩, _, rfl, l, _, _, _, rfl, rfl, hl, at_of (j := 0) rfl rfl, _, rfl, t, _, _, _, rfl, rfl, hT, at_of (j := 1) rfl rfl, _, _, rfl, rfl, .inr ⟨by omega, by omega⟩, rfl, _, rfl, ?_⟩
    refine ifF (by show (!decide (V.int (p * y) = V.int (x * q))) = false; rw [e, decide_eq_true rfl]; rfl) ?_
    refine ⟨_, rfl, t, _, _, _, rfl, rfl, hT, at_of (j := 1) rfl rfl, _, _, rfl, rfl, _, _, rfl, ⟨by decide, by decide, by omega, by omega⟩, for_range (lo := 2) (fun i σ H' => ∃ a : Option V, σ = [some (.ref t), some (.ref l), a] ∧ H' = H) ⟨none, rfl, rfl⟩ ?_ ?_⟩
    · rintro i _ _ hi ⟨a, rfl, rfl⟩
      have e0 : (2 : Int) + (i : Int) = ((i + 2 : Nat) : Int) := by omega
      rw [e0]
      refine ⟨_, rfl, t, _, _, _, rfl, rfl, hT, at_of (j := 0) rfl rfl, .inl ⟨_, rfl, _, rfl, _, _, rfl, rfl, (by omega), rfl, _, rfl, ?_⟩⟩
      refine boolIte (fun h1 => ?_) (fun h1 => ⟨_, rfl, rfl⟩)
      refine ⟨_, rfl, t, _, _, _, rfl, rfl, hT, at_of (j := 1) rfl rfl, .inl ⟨_, rfl, _, rfl, _, _, rfl, rfl, (by omega), rfl, _, rfl, ?_⟩⟩
      refine boolIte (fun h2 => ?_) (fun h2 => ⟨_, rfl, rfl⟩)
      exact (fr_no g (by omega) (V.int.inj (of_decide_eq_true h1)) (V.int.inj (of_decide_eq_true h2))).elim
    rintro _ _ ⟨a, rfl, rfl⟩
    exact k
theorem ok_l_ends (T : Tx P K mg) (TB : TBs T base) : FnOk P w K mg base L2.CX0 2 T.a_l_ends T.d_l_ends ["_law_parents_here", "_law_sets"] (spEnds K) := by
  have G_l_steeper := ok_l_steeper (P := P) (w := w) (base := base) T TB
  refine T.F_l_ends.ok sc_l_ends (fun vs H Q E h => ?_) (fun cdv A outer s H vs Q E hr h => ?_)
  · obtain ⟨p, a, ps, ls, ws, rfl, _⟩ := h
    rfl
  · obtain ⟨p, a, ps, ls, ws, rfl, hp, SA, n8, bl, bw, hl, q⟩ := h
    have lnv := nvs_len ps
    obtain ⟨bs, st, fu⟩ := Tn.exists_sts (w := vf ws) (l := vf ls) (par_ok (ps := ps)) hl
    obtain ⟨k1, k2⟩ := blk_ok par_ok st
    obtain ⟨xs, x1, x2, x3⟩ := SA.all
    have lc := Tn.clS_len (Tr.par ps) ps.length
    have l8 : (Tn.clS (Tr.par ps) ps.length).length ≤ 256 := Nat.le_trans lc (Nat.pow_le_pow_right (by decide) n8)
    have bd : ∀ S, S ∈ Tn.clS (Tr.par ps) ps.length → 0 ≤ Tn.sumL (vf ls) S ∧ Tn.sumL (vf ls) S ≤ 2 ^ 43 ∧ 0 ≤ Tn.sumL (vf ws) S ∧ Tn.sumL (vf ws) S ≤ 2 ^ 43 := fun S hS => by
      have i1 := (Tn.clS_ok hS).1
      have a1 := sum_bd bl i1
      have a2 := sum_bd bw i1
      omega
    have cb : ∀ i, 0 ≤ crn (vf ls) bs i ∧ crn (vf ls) bs i ≤ 2 ^ 43 ∧ 0 ≤ crn (vf ws) bs i ∧ crn (vf ws) bs i ≤ 2 ^ 43 := fun i => by
      have a1 := crn_bd st bl i
      have a2 := crn_bd st bw i
      omega
    refine ⟨_, (pss_cons (ps_set (i := 2) sc_l_ends.nd rfl (Or.inl rfl) (pe_lst (pa_cons (pe_tup (pa_cons pe_int (pa_cons pe_int pa_nil))) pa_nil)))
          (pss_cons (ps_for PassesOwn.never rfl (pi_range1 rfl T.z_range (pa_cons (pe_callB (id := "len") call_len_seq (by rfl) T.z_len (by decide +kernel) (pa_cons (pv 0) pa_nil)) pa_nil)) (pg_name (i := 3) sc_l_ends.nd rfl (Or.inl rfl))
          (pss_cons (ps_set (i := 4) sc_l_ends.nd rfl (Or.inl rfl) (pe_ix ix_list (pv 2) (pe_op op_sub (pe_callB (id := "len") call_len_seq (by rfl) T.z_len (by decide +kernel) (pa_cons (pv 2) pa_nil)) pe_int) (fun _ _ => rfl)))
          (pss_cons (ps_set (i := 5) sc_l_ends.nd rfl (Or.inl rfl) pe_non)
          (pss_cons (ps_for PassesOwn.never rfl (pi_list (pv 1)) (pg_name (i := 6) sc_l_ends.nd rfl (Or.inl rfl))
          (pss_cons (ps_set (i := 7) sc_l_ends.nd rfl (Or.inl rfl) (pe_tup (pa_cons (pe_op op_sub (pe_ix ix_tup (pv 6) pe_int (fun _ _ => rfl)) (pe_ix ix_tup (pv 4) pe_int (fun _ _ => rfl))) (pa_cons (pe_op op_sub (pe_ix ix_tup (pv 6) pe_int (fun _ _ => rfl)) (pe_ix ix_tup (pv 4) pe_int (fun _ _ => rfl))) pa_nil))))
          (pss_one (ps_if (PW.pt (pw_and (pt_cmpR op_gt (pe_ix ix_tup (pv 7) pe_int (fun _ _ => rfl)) pe_int (nomark _)) (pw_and1 (PW.pt (pw_or (pt_cmpR op_isN (pv 5) pe_non (nomark _)) (pw_or1 (pt_val (pe_call G_l_steeper hr rfl T.g_l_steeper T.F_l_steeper.kp T.B_l_steeper .nil pass0 (pa_cons (pv 7) (pa_cons (pv 5) pa_nil))))))))))
          (pss_one (ps_set (i := 5) sc_l_ends.nd rfl (Or.inl rfl) (pv 7)))
          pss_nil))))
          (pss_one (ps_if (pt_cmpR op_notN (pv 5) pe_non (nomark _))
          (pss_one (ps_expr (pe_bm PySem.F.plainAttrs_list PySem.F.slot_list_append PySem.F.type_list_append mt_append (pv 2) (pa_cons (pe_tup (pa_cons (pe_op op_add (pe_ix ix_tup (pv 4) pe_int (fun _ _ => rfl)) (pe_ix ix_tup (pv 5) pe_int (fun _ _ => rfl))) (pa_cons (pe_op op_add (pe_ix ix_tup (pv 4) pe_int (fun _ _ => rfl)) (pe_ix ix_tup (pv 5) pe_int (fun _ _ => rfl))) pa_nil))) pa_nil))))
          pss_nil))))))
          (pss_one (ps_ret (pv 2))))), ?_⟩
    refine ⟨(by show 2 ≤ sizeLine; exact size_le (by omega)), fun t0 nt0 => ?_⟩
    have s1 := same_new (o := .tup [V.int 0, V.int 0]) nt0
    refine ⟨(by show 1 ≤ sizeLine; exact size_le (by omega)), fun F nF => ?_⟩
    have s2 := same_new (o := .lst [V.ref t0]) nF
    have fF := s1.free nF
    have s12 := s1.trans s2
    have ht0 : (upd (upd H t0 (.tup [V.int 0, V.int 0])) F (.lst [V.ref t0])) t0 = some (.tup [V.int 0, V.int 0]) := s2 _ _ upd_same
    have hF : (upd (upd H t0 (.tup [V.int 0, V.int 0])) F (.lst [V.ref t0])) F = some (.lst ([t0].map V.ref)) := upd_same
    generalize upd (upd H t0 (.tup [V.int 0, V.int 0])) F (.lst [V.ref t0]) = H1 at s12 ht0 hF
    have t0F : t0 ≠ F := fun e => by rw [e, hF] at ht0; cases ht0
    have kH : ∀ {H' : Hp}, But F H1 H' → Same H H' := fun k b o hb => k b o (ne_of_none hb fF) (s12 _ _ hb)
    refine ⟨_, rfl, p, _, rfl, .inl (s12.seq hp), _, rfl, by omega, by omega, for_range (fun i σ H' => ∃ (y1 y2 y3 y4 y5 : Option V) (k : Nat) (rs : List Addr), σ = [some (.ref p), some (.ref a), some (.ref F), y1, y2, y3, y4, y5] ∧ H' F = some (.lst (rs.map V.ref)) ∧ rs.length = k + 1 ∧ k ≤ bs.length ∧ (k = i ∨ k = bs.length) ∧ But F H1 H' ∧ ∀ (j : Nat) (r : Addr), rs[j]? = some r → r ≠ F ∧ H' r = some (.tup [V.int (crn (vf ls) bs j), V.int (crn (vf ws) bs j)])) ⟨none, none, none, none, none, 0, [t0], rfl, hF, rfl, Nat.zero_le _, .inl rfl, fun _ _ _ h => h, fun j r h => ?_⟩ ?_ ?_⟩
    · match j, h with
      | 0, h => cases h; exact ⟨t0F, ht0⟩
      | n + 1, h => simp at h
    · rintro i _ H2 hi ⟨y1, y2, y3, y4, y5, k, rs, rfl, hF2, rl, kb, alt, k2, al⟩
      have hr := List.getElem?_eq_getElem (show k < rs.length by omega)
      generalize rs[k]'(show k < rs.length by omega) = ql at hr
      obtain ⟨qF, hq⟩ := al k ql hr
      have s02 := kH k2
      refine ⟨_, rfl, _, rfl, F, _, rfl, .inl (SqL.of hF2), _, _, rfl, rfl, F, _, _, _, rfl, rfl, SqL.of hF2, at_of (j := k) (by rw [List.length_map]; omega) (by rw [List.getElem?_map, hr]; rfl), ?_⟩
      have x12 := s02 _ _ x1
      refine ⟨_, rfl, a, rfl, ⟨_, SqL.of x12⟩, for_list (K := K) (a := a) (xs := xs) (fun j σ H' => ∃ (b : Option (Int × Int)) (v : V) (y4 y5 : Option V), σ = [some (.ref p), some (.ref a), some (.ref F), some (.int ((0 : Int) + (i : Int))), some (.ref ql), some v, y4, y5] ∧ Same H2 H' ∧ WayV H' v b ∧ FB (vf ws) (vf ls) (crn (vf ws) bs k) (crn (vf ls) bs k) ((Tn.clS (Tr.par ps) ps.length).take j) b) ⟨none, .non, y4, y5, rfl, Same.refl _, rfl, fun S hS => by simp at hS⟩ (fun j σ H' _ ⟨_, _, _, _, _, s, _⟩ => SqL.of (s _ _ x12)) ?_ ?_⟩
      · rintro j x _ H3 hx ⟨b, v, z4, z5, rfl, s3, WV, fb⟩
        obtain ⟨r, S, rfl, hS, tS⟩ := x3 j x hx
        have mS := List.mem_of_getElem? hS
        have bS := bd S mS
        have cS := cb k
        have et : (Tn.clS (Tr.par ps) ps.length).take (j + 1) = (Tn.clS (Tr.par ps) ps.length).take j ++ [S] := by rw [List.take_succ, hS]; rfl
        obtain ⟨qS, v1, v2⟩ := tS.same (s02.trans s3)
        have hq3 := s3 _ _ hq
        refine ⟨_, rfl, r, _, _, _, rfl, rfl, SqT.of v1, at_of (j := 0) rfl rfl, _, rfl, ql, _, _, _, rfl, rfl, SqT.of hq3, at_of (j := 0) rfl rfl, _, _, rfl, rfl, _, rfl, r, _, _, _, rfl, rfl, SqT.of v1, at_of (j := 1) rfl rfl, _, rfl, ql, _, _, _, rfl, rfl, SqT.of hq3, at_of (j := 1) rfl rfl, _, _, rfl, rfl, (by show 2 ≤ sizeLine; exact size_le (by omega)), fun tm ntm => ?_⟩
        have e4 := same_new (o := .tup [V.int (Tn.sumL (vf ls) S - crn (vf ls) bs k), V.int (Tn.sumL (vf ws) S - crn (vf ws) bs k)]) ntm
        have htm : (upd H3 tm (.tup [V.int (Tn.sumL (vf ls) S - crn (vf ls) bs k), V.int (Tn.sumL (vf ws) S - crn (vf ws) bs k)])) tm = some (.tup [V.int (Tn.sumL (vf ls) S - crn (vf ls) bs k), V.int (Tn.sumL (vf ws) S - crn (vf ws) bs k)]) := upd_same
        have WV := WV.same e4
        have s24 := s3.trans e4
        generalize upd H3 tm (.tup [V.int (Tn.sumL (vf ls) S - crn (vf ls) bs k), V.int (Tn.sumL (vf ws) S - crn (vf ws) bs k)]) = H4 at htm WV s24
        rw [et]
        refine ⟨_, rfl, tm, _, _, _, rfl, rfl, SqT.of htm, at_of (j := 0) rfl rfl, _, _, rfl, rfl, _, rfl, ?_⟩
        refine boolIte (fun h1 => ?_) (fun h1 => ⟨b, v, _, _, rfl, s24, WV, fb.skip (of_decide_eq_false h1)⟩)
        have h1 := of_decide_eq_true h1
        cases b with
        | none =>
          obtain rfl : v = .non := WV
          refine ⟨_, rfl, rfl, _, rfl, ?_⟩
          refine ifT rfl ?_
          exact ⟨_, rfl, some (_, _), _, _, _, rfl, s24, ⟨tm, rfl, htm⟩, fb.first h1⟩
        | some xy =>
          obtain ⟨x, y⟩ := xy
          obtain ⟨tb, rfl, htb⟩ := WV
          refine ⟨_, rfl, rfl, _, rfl, ?_⟩
          refine ifF rfl ?_
          obtain ⟨x0, ⟨S1, m1, ex, ey⟩, _⟩ := id fb
          have bS1 := bd S1 (List.mem_of_mem_take m1)
          refine ⟨_, rfl, _, rfl, tm, tb, _, _, _, _, rfl, SqT.of htm, SqT.of htb, by omega, by omega, by omega, by omega, ?_⟩
          refine ⟨_, rfl, ?_⟩
          refine boolIte (fun h2 => ?_) (fun h2 => ?_)
          · exact ⟨_, rfl, some (_, _), _, _, _, rfl, s24, ⟨tm, rfl, htm⟩, fb.put h1 h2⟩
          · exact ⟨some (x, y), _, _, _, rfl, s24, ⟨tb, rfl, htb⟩, fb.keep h1 h2⟩
      rintro _ H3 ⟨b, v, z4, z5, rfl, s3, WV, fb⟩
      rw [List.take_of_length_le (by omega)] at fb
      by_cases c : k < bs.length
      · obtain rfl := fb.step par_ok hl st c
        obtain ⟨tb, rfl, htb⟩ := WV
        refine ⟨_, rfl, rfl, _, rfl, ?_⟩
        refine ifT rfl ?_
        have hF3 := s3 _ _ hF2
        have hq3 := s3 _ _ hq
        refine ⟨_, rfl, .inl ⟨rfl, _, SqL.of hF3⟩, ?_⟩
        refine ⟨_, rfl, ql, _, _, _, rfl, rfl, SqT.of hq3, at_of (j := 0) rfl rfl, _, rfl, tb, _, _, _, rfl, rfl, SqT.of htb, at_of (j := 0) rfl rfl, _, _, rfl, rfl, _, rfl, ql, _, _, _, rfl, rfl, SqT.of hq3, at_of (j := 1) rfl rfl, _, rfl, tb, _, _, _, rfl, rfl, SqT.of htb, at_of (j := 1) rfl rfl, _, _, rfl, rfl, (by show 2 ≤ sizeLine; exact size_le (by omega)), fun tn ntn => ?_⟩
        have e1 : crn (vf ls) bs k + (crn (vf ls) bs (k + 1) - crn (vf ls) bs k) = crn (vf ls) bs (k + 1) := by omega
        have e2 : crn (vf ws) bs k + (crn (vf ws) bs (k + 1) - crn (vf ws) bs k) = crn (vf ws) bs (k + 1) := by omega
        have e5 := same_new (o := .tup [V.int (crn (vf ls) bs k + (crn (vf ls) bs (k + 1) - crn (vf ls) bs k)), V.int (crn (vf ws) bs k + (crn (vf ws) bs (k + 1) - crn (vf ws) bs k))]) ntn
        have tnF : tn ≠ F := (ne_of_none hF3 ntn).symm
        have s25 := s3.trans e5
        refine ⟨F, _, _, rfl, rfl, e5 _ _ hF3, size_lt (by rw [List.length_map]; omega), ?_⟩
        refine ⟨_, _, _, _, _, k + 1, rs ++ [tn], rfl, by rw [upd_same, List.map_append]; rfl, by rw [List.length_append, rl]; rfl, by omega, ?_, k2.trans ((But.of_same s25).trans But.set), fun j r h => ?_⟩
        · rcases alt with z | z
          · exact .inl (by omega)
          · omega
        rcases get_snoc h with h | ⟨rfl, rfl⟩
        · obtain ⟨w1, w2⟩ := al j r h
          exact ⟨w1, by rw [upd_ne w1]; exact s25 _ _ w2⟩
        · refine ⟨tnF, ?_⟩
          refine (upd_ne tnF).trans (upd_same.trans ?_)
          show some (HO.tup [V.int (crn (vf ls) bs k + (crn (vf ls) bs (k + 1) - crn (vf ls) bs k)), V.int (crn (vf ws) bs k + (crn (vf ws) bs (k + 1) - crn (vf ws) bs k))]) = _
          rw [e1, e2, rl]
      · have ek : k = bs.length := by omega
        rw [ek] at fb
        obtain rfl := fb.last hl st fu
        obtain rfl : v = .non := WV
        refine ⟨_, rfl, rfl, _, rfl, ?_⟩
        refine ifF rfl ?_
        exact ⟨_, _, _, _, _, k, rs, rfl, s3 _ _ hF2, rl, kb, .inr ek, k2.trans (But.of_same s3), fun j r h => let ⟨w1, w2⟩ := al j r h; ⟨w1, s3 _ _ w2⟩⟩
    rintro _ H2 ⟨y1, y2, y3, y4, y5, k, rs, rfl, hF2, rl, kb, alt, k2, al⟩
    have ek : k = bs.length := by omega
    exact ⟨_, rfl, q F bs H2 st fu (kH k2) fF ⟨rs, hF2, by omega, fun i r h => (al i r h).2⟩⟩
theorem ok_l_cornered (T : Tx P K mg) (TB : TBs T base) : FnOk P w K mg base L2.CX0 8 T.a_l_cornered T.d_l_cornered ["_law_made", "_law_weights", "_law_ends_here"] (spCornered K T.C_Tunnels T.C_Shape) := by
  have G_corners := ok_corners (P := P) (w := w) (base := base) T TB
  have G_l_same := ok_l_same (P := P) (w := w) (base := base) T TB
  refine T.F_l_cornered.ok sc_l_cornered (fun vs H Q E h => ?_) (fun cdv A outer s H vs Q E hr h => ?_)
  · obtain ⟨m, w, e, ps, ls, ws, bs, rfl, _⟩ := h
    rfl
  · obtain ⟨m, w, e, ps, ls, ws, bs, rfl, S, hw, lw, n8, bw, st, fu, CE, q⟩ := h
    obtain ⟨f1, f2, f3, f4⟩ := st.facts par_ok
    have fl := Tn.nodup_len f1 f2
    obtain ⟨xs, e1, e2, e3⟩ := CE.at
    refine ⟨_, (pss_cons (ps_set (i := 3) sc_l_cornered.nd rfl (Or.inl rfl) (pe_call G_corners hr rfl T.g_corners T.F_corners.kp T.B_corners .nil pass_noN (pa_cons (pv 0) (pa_cons (pe_callTy (T := "list") call_list_of (by rfl) T.z_list (by decide +kernel) (pa_cons (pv 1) pa_nil)) pa_nil))))
          (pss_cons (ps_if (PW.pt (pw_or (pt_not (pt_val (pe_callB (id := "isinstance") call_isi (by rfl) T.z_isinstance (by decide +kernel) (pa_cons (pv 3) (pa_cons (pe_bltn (v := .ty "list") rfl T.z_list (by decide +kernel) rfl) pa_nil))))) (pw_or1 (pt_cmpR op_ne (pe_callB (id := "len") call_len_seq (by rfl) T.z_len (by decide +kernel) (pa_cons (pv 3) pa_nil)) (pe_callB (id := "len") call_len_seq (by rfl) T.z_len (by decide +kernel) (pa_cons (pv 2) pa_nil)) (nomark _)))))
          (pss_one (ps_ret pe_bl))
          pss_nil)
          (pss_cons (ps_for PassesOwn.never rfl (pi_range1 rfl T.z_range (pa_cons (pe_callB (id := "len") call_len_seq (by rfl) T.z_len (by decide +kernel) (pa_cons (pv 2) pa_nil)) pa_nil)) (pg_name (i := 4) sc_l_cornered.nd rfl (Or.inl rfl))
          (pss_one (ps_if (PW.pt (pw_or (pt_not (pt_val (pe_callB (id := "isinstance") call_isi (by rfl) T.z_isinstance (by decide +kernel) (pa_cons (pe_ix ix_list (pv 3) (pv 4) (fun _ _ => rfl)) (pa_cons (pe_bltn (v := .ty "tuple") rfl T.z_tuple (by decide +kernel) rfl) pa_nil))))) (pw_or1 (pt_not (pt_val (pe_call G_l_same (hr.mono (by decide)) rfl T.g_l_same T.F_l_same.kp T.B_l_same .nil pass0 (pa_cons (pe_callTy (T := "list") call_list_of (by rfl) T.z_list (by decide +kernel) (pa_cons (pe_ix ix_list (pv 3) (pv 4) (fun _ _ => rfl)) pa_nil)) (pa_cons (pe_callTy (T := "list") call_list_of (by rfl) T.z_list (by decide +kernel) (pa_cons (pe_ix ix_list (pv 2) (pv 4) (fun _ _ => rfl)) pa_nil)) pa_nil))))))))
          (pss_one (ps_ret pe_bl))
          pss_nil)))
          (pss_cons (ps_expr (pe_bm PySem.F.plainAttrs_list PySem.F.slot_list_append PySem.F.type_list_append mt_append (pv 3) (pa_cons (pe_tup (pa_cons pe_int (pa_cons pe_int pa_nil))) pa_nil)))
          (pss_cons (ps_asg (pe_tup (pa_cons pe_int (pa_cons pe_int pa_nil))) (pg_sub (pv 3) pe_int set_list))
          (pss_one (ps_ret pe_bl))))))), ?_⟩
    refine ⟨_, rfl, _, rfl, w, _, rfl, .inl (SqL.of hw), fun pp npp => ?_⟩
    have s4 := same_new (o := .lst (ws.map V.int)) npp
    have hE : SqE K (upd H pp (.lst (ws.map V.int))) pp (ws.map V.int) := .inl (SqL.of upd_same)
    generalize upd H pp (.lst (ws.map V.int)) = H6 at s4 hE
    have nf : NoFault ws 0 ps.length := ⟨fun v hv => (bw v hv).1, lw⟩
    refine ⟨m, pp, ps, ls, ws, rfl, S.same s4, hE, by omega, by omega, fun v hv => (bw v hv).2, fun _ cr bs' H7 s7 ncr st' fu' RC => ?_, fun z f => (f.no nf).elim⟩
    obtain rfl := st.same_of fu st' fu'
    obtain ⟨cs, c1, c2, c3⟩ := CrnAt.at RC
    have s07 := s4.trans s7
    refine ⟨_, rfl, _, _, _, _, _, rfl, .ty "list", .base (.lst c1), kit_ty (r := true) (by decide +kernel), _, rfl, ?_⟩
    refine iteF ?_
    refine ⟨_, rfl, cr, _, rfl, .inl (SqL.of c1), _, rfl, e, _, rfl, .inl (SqL.of (s07 _ _ e1)), rfl, _, rfl, ?_⟩
    refine ifF (by simp [c2, e2]) ?_
    refine ⟨_, rfl, e, _, rfl, .inl (SqL.of (s07 _ _ e1)), _, rfl, by omega, by omega, for_range (fun i σ H' => ∃ z : Option V, σ = [some (.ref m), some (.ref w), some (.ref e), some (.ref cr), z] ∧ Same H7 H') ⟨_, rfl, Same.refl _⟩ ?_ ?_⟩
    · rintro j _ H4 hj ⟨z', rfl, s9⟩
      have e0 : (0 : Int) + (j : Int) = (j : Int) := by omega
      rw [e0]
      obtain ⟨cq, cg, ch⟩ := c3 j (by omega)
      obtain ⟨eq, eg, eh⟩ := e3 j (by omega)
      have ch := s9 _ _ ch
      have eh := (s07.trans s9) _ _ eh
      refine ⟨_, rfl, _, rfl, cr, _, _, _, rfl, rfl, SqL.of (s9 _ _ c1), at_of (j := j) rfl cg, _, _, _, _, _, rfl, .ty "tuple", tyT (SqT.of ch), kit_ty (r := true) (by decide +kernel), _, rfl, ?_⟩
      refine iteF ?_
      refine ⟨_, rfl, _, rfl, cr, _, _, _, rfl, rfl, SqL.of (s9 _ _ c1), at_of (j := j) rfl cg, cq, _, rfl, .inr (SqT.of ch), fun l1 nl1 => ?_⟩
      have t1 := same_new (o := .lst [V.int (crn (vf ls) bs j), V.int (crn (vf ws) bs j)]) nl1
      refine ⟨_, rfl, _, rfl, e, _, _, _, rfl, rfl, SqL.of (t1 _ _ ((s07.trans s9) _ _ e1)), at_of (j := j) rfl eg, eq, _, rfl, .inr (SqT.of (t1 _ _ eh)), fun l2 nl2 => ?_⟩
      have t2 := same_new (o := .lst [V.int (crn (vf ls) bs j), V.int (crn (vf ws) bs j)]) nl2
      refine ⟨l1, l2, [crn (vf ls) bs j, crn (vf ws) bs j], rfl, t2 _ _ upd_same, SqL.of upd_same, (by show 2 ≤ 5000; decide), _, rfl, ?_⟩
      refine iteF ?_
      exact ⟨_, rfl, s9.trans (t1.trans t2)⟩
    rintro _ H4 ⟨z', rfl, s9⟩
    have c14 := s9 _ _ c1
    have s04 := s7.trans s9
    have fcr : H cr = none := s4.free ncr
    refine ⟨_, rfl, .inl ⟨rfl, _, SqL.of c14⟩, (by show 2 ≤ sizeLine; exact size_le (by omega)), fun o2 no2 => ?_⟩
    have s05 := (s4.trans s04).trans (same_new (o := .tup [V.int 1, V.int 1]) no2)
    refine ⟨cr, _, _, rfl, rfl, (same_new no2) _ _ c14, size_lt (by omega), ?_⟩
    have s06 := same_mut (o := .lst (cs ++ [V.ref o2])) s05 fcr
    have c16 : (upd (upd H4 o2 (.tup [V.int 1, V.int 1])) cr (.lst (cs ++ [V.ref o2]))) cr = some (.lst (cs ++ [V.ref o2])) := upd_same
    generalize upd (upd H4 o2 (.tup [V.int 1, V.int 1])) cr (.lst (cs ++ [V.ref o2])) = H9 at s06 c16
    refine ⟨(by show 2 ≤ sizeLine; exact size_le (by omega)), fun o3 no3 => ?_⟩
    have s10 := s06.trans (same_new (o := .tup [V.int 1, V.int 0]) no3)
    refine ⟨_, rfl, cr, _, _, 0, rfl, rfl, (same_new no3) _ _ c16, ixN_nat (by rw [List.length_append]; exact Nat.succ_pos _), ?_⟩
    exact q _ (same_mut s10 fcr)
theorem ok_l_asked (T : Tx P K mg) (TB : TBs T base) : FnOk P w K mg base L2.CX0 2 T.a_l_asked T.d_l_asked ["_law_tape_here", "_law_ends_here"] (spAsked) := by
  have G_l_next := ok_l_next (P := P) (w := w) (base := base) T TB
  refine T.F_l_asked.ok sc_l_asked (fun vs H Q E h => ?_) (fun cdv A outer s H vs Q E hr h => ?_)
  · obtain ⟨t, u, e, n, par, ls, ws, bs, rfl, _⟩ := h
    rfl
  · obtain ⟨t, u, e, n, par, ls, ws, bs, rfl, hT, CE, st, b8, n8, bl, q⟩ := h
    obtain ⟨xs, e1, e2, e3⟩ := CE.at
    obtain ⟨rs, r1, r2, r3⟩ := id CE
    have cb : ∀ i, 0 ≤ crn (vf ls) bs i ∧ crn (vf ls) bs i ≤ n * 2 ^ 40 := fun i => crn_bd st bl i
    obtain ⟨ql, ql1, ql2⟩ := e3 bs.length (Nat.le_refl _)
    have cl := cb bs.length
    refine ⟨_, (pss_cons (ps_set (i := 2) sc_l_asked.nd rfl (Or.inr rfl) (pe_ix ix_tup (pe_ix ix_list (pv 1) (pe_op op_sub (pe_callB (id := "len") call_len_seq (by rfl) T.z_len (by decide +kernel) (pa_cons (pv 1) pa_nil)) pe_int) (fun _ _ => rfl)) pe_int (fun _ _ => rfl)))
          (pss_cons (ps_if (pt_cmpR op_le (pv 2) pe_int (nomark _))
          (pss_one (ps_ret (pe_listRg rfl rfl T.z_list (prg_1 rfl T.z_range (pe_op op_add (pv 2) pe_int)))))
          pss_nil)
          (pss_one (ps_ret (pe_op op_cat (pe_lc (own := [("_law_end", 3)]) (g := gName 3) (tt := tYes) rfl sc_l_asked.nd (pi_list (pv 1)) (blkOk_by (N := ["_law_tape_here", "_law_ends_here", "_law_whole", "_law_end", "_law_j"]) (sc := defScope s_l_asked) (by decide +kernel)) (fun _ _ _ _ _ => (pg_name (i := 3) sc_l_asked.nd rfl (Or.inl rfl))) (fun _ _ _ _ _ => pts_nil) (fun _ _ _ _ _ => (pe_ix (ix_tupK (K := K)) (pv 3) pe_int (fun _ _ => rfl)))) (pe_lc (own := [("_law_j", 4)]) (g := gName 4) (tt := tYes) rfl sc_l_asked.nd (pi_range1 rfl T.z_range (pa_cons pe_int pa_nil)) (blkOk_by (N := ["_law_tape_here", "_law_ends_here", "_law_whole", "_law_end", "_law_j"]) (sc := defScope s_l_asked) (by decide +kernel)) (fun _ _ _ _ _ => (pg_name (i := 4) sc_l_asked.nd rfl (Or.inl rfl))) (fun _ _ _ _ _ => pts_nil) (fun _ _ _ _ _ => (pe_call G_l_next hr rfl T.g_l_next T.F_l_next.kp T.B_l_next .nil pass0 (pa_cons (pv 0) (pa_cons (pe_op op_add (pv 2) pe_int) pa_nil)))))))))), ?_⟩
    refine ⟨_, rfl, _, rfl, e, _, rfl, .inl (SqL.of e1), _, _, rfl, rfl, e, _, _, _, rfl, rfl, SqL.of e1, at_of (j := bs.length) (by rw [e2]; omega) ql1, ql, _, _, _, rfl, rfl, SqT.of ql2, at_of (j := 0) rfl rfl, ?_⟩
    refine ⟨_, rfl, _, _, rfl, rfl, _, rfl, ?_⟩
    refine boolIte (fun h1 => ?_) (fun h1 => ?_)
    · have h1 := of_decide_eq_true h1
      refine ⟨_, rfl, _, _, rfl, rfl, _, rfl, RgOk.of_le (by decide) (by omega) (by decide) (by omega), fun z nz => ?_⟩
      have s1 := same_new (o := .lst (rgV 0 (crn (vf ls) bs bs.length + 1))) nz
      refine q z ((List.range (crn (vf ls) bs bs.length + 1).toNat).map fun i => ((i : Nat) : Int)) _ (fun L hL => ?_) (by rw [List.length_map, List.length_range]; omega) (hT.same s1) (But.of_same s1) nz ?_
      · obtain ⟨i, hi, rfl⟩ := List.mem_map.mp hL
        have := List.mem_range.mp hi
        omega
      · rw [upd_same]
        unfold rgV
        rw [List.map_map, Int.sub_zero]
        congr 2
        refine List.map_congr_left fun i _ => ?_
        show V.int (0 + (i : Int)) = V.int (i : Int)
        rw [Int.zero_add]
    · refine ⟨_, rfl, e, rfl, ⟨_, SqL.of e1⟩, fun D hD => ?_⟩
      refine lc_list (K := K) (a := e) (xs := xs) (fun j H' => Same H H' ∧ H' D = some (.lst (((List.range j).map fun i => crn (vf ls) bs i).map V.int))) ⟨same_new hD, upd_same⟩ (fun j H' _ z => SqL.of (z.1 _ _ e1)) ?_ ?_
      · rintro j x H2 hx ⟨s2, hD2⟩
        have hj := (List.getElem?_eq_some_iff.mp hx).1
        obtain ⟨qj, g1, g2⟩ := e3 j (by omega)
        rw [g1] at hx
        obtain rfl := Option.some.inj hx
        refine ⟨rfl, ?_⟩
        refine ⟨_, rfl, qj, _, _, _, rfl, rfl, SqT.of (s2 _ _ g2), at_of (j := 0) rfl rfl, ?_⟩
        refine ⟨_, hD2, size_lt (by rw [List.length_map, List.length_map, List.length_range]; omega), same_mut s2 hD, ?_⟩
        rw [upd_same, List.range_succ, List.map_append, List.map_append]
        rfl
      rintro H2 ⟨s2, hD2⟩
      rw [e2] at hD2
      have hT2 := hT.same s2
      have Dt : D ≠ t := hT.ne_new hD
      refine ⟨_, rfl, by decide, by decide, fun E hE => ?_⟩
      have Et : E ≠ t := hT2.ne_new hE
      have Eu : E ≠ u := hT2.ne_newu hE
      refine lc_range (fun k H' => ∃ L : List Int, L.length = k ∧ (∀ x, x ∈ L → 0 ≤ x ∧ x ≤ crn (vf ls) bs bs.length) ∧ H' E = some (.lst (L.map V.int)) ∧ Tape H' t u ∧ But t H2 H') ⟨[], rfl, fun x hx => (by cases hx), upd_same, hT2.same (same_new hE), But.of_new hE⟩ ?_ ?_
      · rintro i H3 hi ⟨L, lL, bL, hE3, hT3, k3⟩
        refine ⟨rfl, ?_⟩
        refine ⟨_, rfl, _, rfl, _, _, rfl, rfl, t, u, _, rfl, by omega, by omega, hT3, fun r H4 hr hT4 k4 _ => ?_⟩
        exact ⟨_, k4 E _ Et hE3, size_lt (by rw [List.length_map]; omega), L ++ [(r : Int)], by rw [List.length_append, lL]; rfl, fun x hx => by
          rcases List.mem_append.mp hx with hx | hx
          · exact bL x hx
          · rw [List.mem_singleton.mp hx]; omega, by rw [upd_same, List.map_append]; rfl, hT4.upd Et.symm Eu.symm, (k3.trans k4).upd_at hE⟩
      rintro H3 ⟨L, lL, bL, hE3, hT3, k3⟩
      have hD3 := k3 D _ Dt hD2
      refine ⟨D, E, _, _, rfl, rfl, hD3, hE3, size_le (by rw [List.length_map, List.length_map, List.length_map, List.length_range]; omega), fun z nz => ?_⟩
      have s4 := same_new (o := .lst (((List.range (bs.length + 1)).map fun i => crn (vf ls) bs i).map V.int ++ L.map V.int)) nz
      refine q z ((List.range (bs.length + 1)).map (fun i => crn (vf ls) bs i) ++ L) _ (fun x hx => ?_) (by rw [List.length_append, List.length_map, List.length_range]; omega) (hT3.same s4) (((But.of_same s2).trans k3).trans (But.of_same s4)) (((But.of_same (s := t) s2).trans k3).free (hT3.ne_new nz) nz) (by rw [upd_same, List.map_append])
      rcases List.mem_append.mp hx with hx | hx
      · obtain ⟨i, hi, rfl⟩ := List.mem_map.mp hx
        have := List.mem_range.mp hi
        exact ⟨(cb i).1, crn_mono st (by omega) (Nat.le_refl _)⟩
      · exact bL x hx
theorem ok_l_refused (T : Tx P K mg) (TB : TBs T base) : FnOk P w K mg base L2.CX0 9 T.a_l_refused T.d_l_refused ["_law_made", "_law_weights", "_law_length", "_law_lengths"] (spRefH K T.C_Tunnels T.C_Shape) := by
  have GH_l_same := okH_l_same (P := P) (w := w) (base := base) T TB
  have G_height := ok_height (P := P) (w := w) (base := base) T TB
  have G_l_wrong := ok_l_wrong (P := P) (w := w) (base := base) T TB
  refine T.F_l_refused.ok sc_l_refused (fun vs H Q E h => ?_) (fun cdv A outer s H vs Q E hr h => ?_)
  · obtain ⟨m, w, l, L, ps, ls, ws, rfl, _⟩ := h
    rfl
  · obtain ⟨m, w, l, L, ps, ls, ws, rfl, S, hw, lw, bw, hl, n8, sL, q⟩ := h
    obtain ⟨ll, bl, pl⟩ := S.bd
    have nv := S.ok.2.1
    obtain ⟨bs, st, fu⟩ := Tn.exists_sts (w := vf ws) (l := vf ls) (par_ok (ps := ps)) pl
    have ca := crn_all ll st fu
    refine ⟨_, (pss_cons (ps_set (i := 4) sc_l_refused.nd rfl (Or.inl rfl) (pe_call G_l_wrong (hr.mono (by decide)) rfl T.g_l_wrong T.F_l_wrong.kp T.B_l_wrong .nil pass0 (pa_cons (pv 1) (pa_cons pe_int (pa_cons (pe_callB (id := "len") call_len_seq (by rfl) T.z_len (by decide +kernel) (pa_cons (pv 3) pa_nil)) pa_nil)))))
          (pss_cons (ps_set (i := 5) sc_l_refused.nd rfl (Or.inl rfl) (pe_callTy (T := "list") call_list_of (by rfl) T.z_list (by decide +kernel) (pa_cons (pv 1) pa_nil)))
          (pss_cons (L2N.ps_try_as (i := 6) (Wout := fun _ _ _ _ => False) rfl rfl sc_l_refused.nd rfl rfl ⟨rfl, by decide, Or.inl T.mg_FindsError⟩ takes0N (fun W pn xe tk _ => (pss_one (ps_expr (pe_callS G_height hr rfl T.g_height T.F_height.kp T.B_height (fun σ => L2N.passAt tk σ) (by exact (pa_cons (pv 0) (pa_cons (pv 5) (pa_cons (pv 2) pa_nil)))))))) (fun a oe cls d pn hz hf => (pss_cons (ps_if (pt_cmpR (op_neDK (K := K) (hu64_mark hr)) (pv 5) (pv 1) (nomark _))
          (pss_one (ps_ret pe_bl))
          pss_nil)
          (pss_cons (ps_if (pt_cmpR op_notN (pv 4) pe_non (nomark _))
          (pss_one (ps_ret (pe_and (pe_callB (id := "isinstance") (call_isG hz.zc hf) (by rfl) T.z_isinstance (by decide +kernel) (pa_cons (pv 6) (pa_cons (pe_glob (v := .ref T.x_BadWeight.C) rfl T.x_BadWeight.mgX rfl) pa_nil))) (pe_and (pe_not (pe_callB (id := "isinstance") (call_isG hz.zc hf) (by rfl) T.z_isinstance (by decide +kernel) (pa_cons (pv 6) (pa_cons (pe_glob (v := .ref T.x_BadCount.C) rfl T.x_BadCount.mgX rfl) pa_nil)))) (pe_one (pe_callHQ GH_l_same (room_mark hr (by decide)) (hot_suite hz hf) rfl T.g_l_same T.F_l_same.kp T.B_l_same (pa_cons (pe_lst (pa_cons (pe_xf T.x_BadWeight.xf T.x_BadWeight.xn hz.zc hf (pv 6)) pa_nil)) (pa_cons (pe_lst (pa_cons (pv 4) pa_nil)) pa_nil))))))))
          pss_nil)
          (pss_cons (ps_if (PW.pt (pw_or (pt_not (pt_val (pe_callB (id := "isinstance") (call_isG hz.zc hf) (by rfl) T.z_isinstance (by decide +kernel) (pa_cons (pv 6) (pa_cons (pe_glob (v := .ref T.x_BadCount.C) rfl T.x_BadCount.mgX rfl) pa_nil))))) (pw_or (pt_val (pe_callB (id := "isinstance") (call_isG hz.zc hf) (by rfl) T.z_isinstance (by decide +kernel) (pa_cons (pv 6) (pa_cons (pe_glob (v := .ref T.x_BadWeight.C) rfl T.x_BadWeight.mgX rfl) pa_nil)))) (pw_or1 (pt_not (pt_val (pe_callHQ GH_l_same (room_mark hr (by decide)) (hot_suite hz hf) rfl T.g_l_same T.F_l_same.kp T.B_l_same (pa_cons (pe_lst (pa_cons (pe_xf T.x_BadCount.xf T.x_BadCount.xn hz.zc hf (pv 6)) pa_nil)) (pa_cons (pe_lst (pa_cons (pv 2) pa_nil)) pa_nil)))))))))
          (pss_one (ps_ret pe_bl))
          pss_nil)
          (pss_one (ps_ret (pe_or (pe_cmpR op_lt (pv 2) pe_int (nomark _)) (pe_one (pe_cmpR op_gt (pv 2) (pe_callB (id := "sum") (cr_sumH (K := K) (hot_suite hz hf)) (by rfl) T.z_sum (by decide +kernel) (pa_cons (pv 3) pa_nil)) (nomark _)))))))))))
          (pss_one (ps_ret (pe_and (pe_cmpR op_isN (pv 4) pe_non (nomark _)) (pe_and (pe_cmpR op_ge (pv 2) pe_int (nomark _)) (pe_one (pe_cmpR op_le (pv 2) (pe_callB (id := "sum") (cr_sum rfl) (by rfl) T.z_sum (by decide +kernel) (pa_cons (pv 3) pa_nil)) (nomark _)))))))))), ?_⟩
    refine ⟨_, rfl, _, rfl, l, _, rfl, .inl (SqL.of hl), w, ws, 0, ls.length, (by rw [List.length_map]; rfl), SqL.of hw, by omega, fun z hz => ?_, fun hn => ?_⟩
    · rw [ll] at hz
      refine ⟨_, rfl, w, _, rfl, .inl (SqL.of hw), fun pp np => ?_⟩
      have s1 := same_new (o := .lst (ws.map V.int)) np
      have hpp : (upd H pp (.lst (ws.map V.int))) pp = some (.lst (ws.map V.int)) := upd_same
      generalize upd H pp (.lst (ws.map V.int)) = H1 at s1 hpp
      refine ⟨_, rfl, _, rfl, _, rfl, m, pp, ps, ls, ws, L, rfl, S.same s1, .inl (SqL.of hpp), by omega, by omega, bw, sL, fun g => (hz.no g).elim, fun z' hz' d H2 s2 nd hd => ?_⟩
      obtain rfl := hz.uniq hz'
      refine ⟨true, PySem.W.exm_ref T.cb_FindsError.exC T.cb_FindsError.hdC T.cb_FindsError.tyC T.sb_BadWeight_FindsError, fun _ e ne => ?_, fun z => Bool.noConfusion z⟩
      refine ⟨_, rfl, _, rfl, _, _, dp_lst (ns := ws) (SqL.of (s2 _ _ hpp)), dp_lst (ns := ws) (SqL.of ((s1.trans s2) _ _ hw)), shaped_lst _, shaped_lst _, ?_⟩
      rw [eqv_lst, decide_eq_true rfl]
      refine ⟨_, rfl, ?_⟩
      refine ifF rfl ?_
      refine ⟨_, rfl, rfl, _, rfl, ?_⟩
      refine ifT rfl ?_
      refine ⟨_, rfl, _, d, _, _, _, _, rfl, rfl, hd, T.x_BadWeight.ec, rfl, relV_ref, T.k_BadWeight_BadWeight, _, rfl, ?_⟩
      refine iteT ?_
      refine ⟨_, rfl, _, d, _, _, _, _, rfl, rfl, hd, T.x_BadWeight.ec, rfl, relV_ref, T.k_BadWeight_BadCount, _, rfl, _, rfl, ?_⟩
      refine iteT ?_
      refine ⟨_, rfl, rfl, rfl, d, _, _, rfl, hd, xd_get, (by show 1 ≤ sizeLine; exact size_le (by omega)), fun o1 no1 => ?_⟩
      refine ⟨_, rfl, (by show 1 ≤ sizeLine; exact size_le (by omega)), fun o2 no2 => ?_⟩
      refine ⟨o1, o2, [z], rfl, (same_new no2) _ _ upd_same, SqL.of upd_same, (by show 1 ≤ 5000; decide), ?_⟩
      exact q _ (s1.trans (s2.trans ((same_new no1).trans (same_new no2))))
    · rw [ll] at hn
      refine ⟨_, rfl, w, _, rfl, .inl (SqL.of hw), fun pp np => ?_⟩
      have s1 := same_new (o := .lst (ws.map V.int)) np
      have hpp : (upd H pp (.lst (ws.map V.int))) pp = some (.lst (ws.map V.int)) := upd_same
      generalize upd H pp (.lst (ws.map V.int)) = H1 at s1 hpp
      refine ⟨_, rfl, _, rfl, _, rfl, m, pp, ps, ls, ws, L, rfl, S.same s1, .inl (SqL.of hpp), by omega, by omega, bw, sL, fun _ bs' st' fu' => ?_, fun z f => (f.no hn).elim⟩
      obtain rfl := st.same_of fu st' fu'
      constructor
      · intro L0 L1 p' q' t H2 ht s2 nt htt
        have s12 := s1.trans s2
        have q1 : ∀ z : Bool, z = true → Q (.bl z) H2 := fun z e => e ▸ q _ s12
        refine ⟨_, rfl, rfl, _, rfl, ?_⟩
        refine ifT rfl ?_
        refine ⟨_, rfl, _, _, rfl, rfl, _, rfl, ?_⟩
        refine ifT (decide_eq_true L0) ?_
        exact ⟨_, rfl, _, rfl, l, ls, rfl, SqL.of (s12 _ _ hl), _, _, rfl, rfl, q1 _ (decide_eq_true (by rw [← ca]; exact L1))⟩
      · intro out d H2 s2 nd hd
        refine ⟨true, PySem.W.exm_ref T.cb_FindsError.exC T.cb_FindsError.hdC T.cb_FindsError.tyC T.sb_BadCount_FindsError, fun _ e ne => ?_, fun z => Bool.noConfusion z⟩
        refine ⟨_, rfl, _, rfl, _, _, dp_lst (ns := ws) (SqL.of (s2 _ _ hpp)), dp_lst (ns := ws) (SqL.of ((s1.trans s2) _ _ hw)), shaped_lst _, shaped_lst _, ?_⟩
        rw [eqv_lst, decide_eq_true rfl]
        refine ⟨_, rfl, ?_⟩
        refine ifF rfl ?_
        refine ⟨_, rfl, rfl, _, rfl, ?_⟩
        refine ifF rfl ?_
        refine ⟨_, rfl, _, d, _, _, _, _, rfl, rfl, hd, T.x_BadCount.ec, rfl, relV_ref, T.k_BadCount_BadCount, _, rfl, ?_⟩
        refine iteF ?_
        refine ⟨_, rfl, _, d, _, _, _, _, rfl, rfl, hd, T.x_BadCount.ec, rfl, relV_ref, T.k_BadCount_BadWeight, _, rfl, ?_⟩
        refine iteF ?_
        refine ⟨_, rfl, rfl, rfl, d, _, _, rfl, hd, xd_get, (by show 1 ≤ sizeLine; exact size_le (by omega)), fun o1 no1 => ?_⟩
        refine ⟨_, rfl, (by show 1 ≤ sizeLine; exact size_le (by omega)), fun o2 no2 => ?_⟩
        refine ⟨o1, o2, [L], rfl, (same_new no2) _ _ upd_same, SqL.of upd_same, (by show 1 ≤ 5000; decide), ?_⟩
        refine ⟨_, rfl, ?_⟩
        refine iteF ?_
        have s3 := s1.trans (s2.trans ((same_new (o := .lst [V.int L]) no1).trans (same_new (o := .lst [V.int L]) no2)))
        have q1 : ∀ z : Bool, z = true → Q (.bl z) (upd (upd H2 o1 (.lst [V.int L])) o2 (.lst [V.int L])) := fun z e => e ▸ q _ s3
        refine ⟨_, rfl, _, _, rfl, rfl, _, rfl, ?_⟩
        refine boolIte (fun h1 => q1 _ rfl) (fun h1 => ?_)
        refine ⟨_, rfl, _, rfl, l, ls, rfl, SqL.of (s3 _ _ hl), _, _, rfl, rfl, q1 _ (decide_eq_true ?_)⟩
        have := of_decide_eq_false h1
        rw [← ca]
        omega
theorem ok_l_priced (T : Tx P K mg) (TB : TBs T base) : FnOk P w K mg base L2.CX0 6 T.a_l_priced T.d_l_priced ["_law_made", "_law_parents_here", "_law_lengths", "_law_weights", "_law_end", "_law_times", "_law_pair"] (spPriced K T.C_Tunnels T.C_Shape T.P_prices) := by
  have G_l_is_number := ok_l_is_number (P := P) (w := w) (base := base) T TB
  have G_l_rule := ok_l_rule (P := P) (w := w) (base := base) T TB
  have G_prices := ok_prices (P := P) (w := w) (base := base) T TB
  refine T.F_l_priced.ok sc_l_priced (fun vs H Q E h => ?_) (fun cdv A outer s H vs Q E hr h => ?_)
  · obtain ⟨m, p, l, w, e, r, ps, ls, ws, bs, n, a, b, rfl, _⟩ := h
    rfl
  · obtain ⟨m, p, l, w, e, r, ps, ls, ws, bs, n, a, b, rfl, S, hp, hl, hw, tb, lw, n8, bw, st, fu, he, hpr, n1, n60, a0, a20, b1, b6, q⟩ := h
    obtain ⟨ll, bl, pl⟩ := S.bd
    obtain ⟨ok, p1, _⟩ := S.ok
    have nf : NoFault ws 0 ps.length := ⟨fun v hv => (bw v hv).1, lw⟩
    have b0 : 0 < bs.length := by
      have := fu 1 (Nat.le_refl _) p1
      cases hc : bs with
      | nil => rw [hc] at this; cases this
      | cons x y => exact Nat.succ_pos _
    have lt := crn_lt st b0
    have cl := crn_bd st bl 1
    have cw := crn_bd st bw 1
    have hu := fun (S' : List Nat) (hS : S' ∈ Tn.clS (Tr.par ps) ps.length) => (crn_hull par_ok pl st b0 hS).1
    obtain ⟨m1, sm1⟩ := crn_set par_ok st 1
    rw [show 0 + 1 = 1 from rfl] at lt hu
    simp only [crn_zero, Int.sub_zero] at lt hu
    have cl' : crn (vf ls) bs 1 ≤ 2 ^ 43 := by omega
    have cw' : crn (vf ws) bs 1 ≤ 2 ^ 43 := by omega
    have sm1l := sm1 (vf ls)
    have sm1w := sm1 (vf ws)
    generalize crn (vf ls) bs 1 = x at *
    generalize crn (vf ws) bs 1 = y at *
    generalize Tn.lst ps.length (Tn.inL (bs.take 1).flatten) = S1 at *
    have x0 : 0 < x := lt
    have good : ∀ S' : List Nat, S' ∈ Tn.clS (Tr.par ps) ps.length → x * Tn.sumL (vf ws) S' ≤ y * Tn.sumL (vf ls) S' := fun S' hS => by
      have := hu S' hS
      rw [Int.mul_comm x]
      exact this
    refine ⟨_, (pss_cons (ps_set (i := 7) sc_l_priced.nd rfl (Or.inl rfl) (pe_call G_prices hr rfl T.g_prices T.F_prices.kp T.B_prices .nil pass_noN (pa_cons (pv 0) (pa_cons (pe_callTy (T := "list") call_list_of (by rfl) T.z_list (by decide +kernel) (pa_cons (pv 3) pa_nil)) (pa_cons (pe_ix ix_tup (pv 4) pe_int (fun _ _ => rfl)) (pa_cons (pe_ix ix_tup (pv 4) pe_int (fun _ _ => rfl)) pa_nil))))))
          (pss_cons (ps_if (PW.pt (pw_or (pt_not (pt_val (pe_callB (id := "isinstance") call_isi (by rfl) T.z_isinstance (by decide +kernel) (pa_cons (pv 7) (pa_cons (pe_bltn (v := .ty "list") rfl T.z_list (by decide +kernel) rfl) pa_nil))))) (pw_or1 (pt_not (pt_val (pe_callB (id := "all") (cr_all rfl) (by rfl) T.z_all (by decide +kernel) (pa_cons (pe_lc (own := [("_law_price", 8)]) (g := gName 8) (tt := tYes) rfl sc_l_priced.nd (pi_list (pv 7)) (blkOk_by (N := ["_law_made", "_law_parents_here", "_law_lengths", "_law_weights", "_law_end", "_law_times", "_law_pair", "_law_told", "_law_price"]) (sc := defScope s_l_priced) (by decide +kernel)) (fun _ _ _ _ _ => (pg_name (i := 8) sc_l_priced.nd rfl (Or.inl rfl))) (fun _ _ _ _ _ => pts_nil) (fun _ _ _ _ _ => (pe_callQ G_l_is_number ((roomH_of hr).mono (by decide)) rfl T.g_l_is_number T.F_l_is_number.kp T.B_l_is_number (pa_cons (pv 8) pa_nil)))) pa_nil)))))))
          (pss_one (ps_ret pe_bl))
          pss_nil)
          (pss_cons (ps_if (pt_not (pt_val (pe_call G_l_rule (hr.mono (by decide)) rfl T.g_l_rule T.F_l_rule.kp T.B_l_rule .nil pass0 (pa_cons (pv 1) (pa_cons (pv 2) (pa_cons (pv 3) (pa_cons (pe_ix ix_tup (pv 4) pe_int (fun _ _ => rfl)) (pa_cons (pe_ix ix_tup (pv 4) pe_int (fun _ _ => rfl)) (pa_cons (pv 7) pa_nil)))))))))
          (pss_one (ps_ret pe_bl))
          pss_nil)
          (pss_cons (ps_set (i := 7) sc_l_priced.nd rfl (Or.inl rfl) (pe_call G_prices hr rfl T.g_prices T.F_prices.kp T.B_prices .nil pass_noN (pa_cons (pv 0) (pa_cons (pe_callTy (T := "list") call_list_of (by rfl) T.z_list (by decide +kernel) (pa_cons (pv 3) pa_nil)) (pa_cons (pe_ix ix_tup (pv 6) pe_int (fun _ _ => rfl)) (pa_cons (pe_ix ix_tup (pv 6) pe_int (fun _ _ => rfl)) pa_nil))))))
          (pss_cons (ps_if (pt_cmpR op_ne (pe_cmpR op_isN (pv 7) pe_non (nomark _)) (pe_cmpR op_lt (pe_op op_mul (pe_ix ix_tup (pv 6) pe_int (fun _ _ => rfl)) (pe_ix ix_tup (pv 4) pe_int (fun _ _ => rfl))) (pe_op op_mul (pe_ix ix_tup (pv 6) pe_int (fun _ _ => rfl)) (pe_ix ix_tup (pv 4) pe_int (fun _ _ => rfl))) (nomark _)) (nomark _))
          (pss_one (ps_ret pe_bl))
          pss_nil)
          (pss_cons (ps_if (pt_cmpR op_eq (pe_ix ix_tup (pv 4) pe_int (fun _ _ => rfl)) pe_int (nomark _))
          (pss_one (ps_ret pe_bl))
          pss_nil)
          (pss_one (ps_ret (pe_cmpR op_isN (pe_call G_prices hr rfl T.g_prices T.F_prices.kp T.B_prices .nil pass_noN (pa_cons (pv 0) (pa_cons (pe_callTy (T := "list") call_list_of (by rfl) T.z_list (by decide +kernel) (pa_cons (pv 3) pa_nil)) (pa_cons (pe_op op_sub (pe_op op_mul (pe_ix ix_tup (pv 4) pe_int (fun _ _ => rfl)) (pv 5)) pe_int) (pa_cons (pe_op op_mul (pe_ix ix_tup (pv 4) pe_int (fun _ _ => rfl)) (pv 5)) pa_nil))))) pe_non (nomark _)))))))))), ?_⟩
    refine ⟨_, rfl, _, rfl, w, _, rfl, .inl (SqL.of hw), fun c1 nc1 => ?_⟩
    have s1 := Same.t (same_new (o := .lst (ws.map V.int)) nc1)
    have hE : SqE K (upd H c1 (.lst (ws.map V.int))) c1 (ws.map V.int) := .inl (SqL.of upd_same)
    generalize upd H c1 (.lst (ws.map V.int)) = H1 at s1 hE
    refine ⟨_, rfl, e, _, _, _, rfl, rfl, SqT.of (s1.keep _ _ (fun _ z => by cases z) he), at_of (j := 1) rfl rfl, _, rfl, e, _, _, _, rfl, rfl, SqT.of (s1.keep _ _ (fun _ z => by cases z) he), at_of (j := 0) rfl rfl, m, c1, ps, ls, ws, y, x, rfl, S.sameT s1, hE, by omega, by omega, fun v hv => (bw v hv).2, by omega, by omega, s1.tab _ tb, fun _ _ _ g G => ?_, fun z f => (f.no nf).elim, fun _ z f => by omega⟩
    have neg := (Tn.none_better par_ok G).mpr good
    refine ⟨fun pos => by omega, fun neg t H2 s2 nt ht => ?_⟩
    have s02 := s1.trans s2
    refine ⟨_, rfl, _, _, _, _, _, rfl, .ty "list", .base (.lst ht), kit_ty (r := true) (by decide +kernel), _, rfl, ?_⟩
    refine iteF ?_
    have lp := prs_len ps.length g
    refine ⟨_, rfl, t, rfl, ⟨_, SqL.of ht⟩, fun B hB => ?_⟩
    refine lc_list (K := K) (a := t) (xs := (prs ps.length g).map V.int) (fun j H' => Same H2 H' ∧ H' B = some (.lst ((List.replicate j true).map V.bl))) ⟨same_new hB, upd_same⟩ (fun j H' _ z => SqL.of (z.1 _ _ ht)) ?_ ?_
    · rintro j x' H4 hx ⟨s9, hB4⟩
      have hj := (List.getElem?_eq_some_iff.mp hx).1
      rw [List.length_map, lp] at hj
      obtain ⟨v, hv', rfl⟩ := ns_get hx
      refine ⟨rfl, ?_⟩
      refine ⟨_, rfl, _, rfl, ?_⟩
      refine ⟨_, hB4, size_lt (by rw [List.length_map, List.length_replicate]; omega), same_mut s9 hB, ?_⟩
      rw [upd_same, List.replicate_succ', List.map_append]
      rfl
    rintro H4 ⟨s9, hB4⟩
    refine ⟨B, _, rfl, SqL.of hB4, _, rfl, ?_⟩
    rw [show (List.replicate ((prs ps.length g).map V.int).length true).all id = true by simp]
    refine iteF ?_
    have s04 := s02.trans (Same.t s9)
    have ht4 := s9 _ _ ht
    have he4 := s04.keep _ _ (fun _ z => by cases z) he
    refine ⟨_, rfl, _, rfl, _, rfl, _, rfl, e, _, _, _, rfl, rfl, SqT.of he4, at_of (j := 1) rfl rfl, _, rfl, e, _, _, _, rfl, rfl, SqT.of he4, at_of (j := 0) rfl rfl, _, rfl, p, l, w, t, ps, ls, ws, prs ps.length g, y, x, rfl, SqL.of (s04.lst hp), SqL.of (s04.lst hl), SqL.of (s04.lst hw), SqL.of ht4, ok, ll, lw, by omega, by omega, bl, bw, by omega, by omega, fun z hz H5 s10 => ?_⟩
    obtain rfl : z = true := hz.mpr (prs_rule G neg)
    refine ⟨_, rfl, ?_⟩
    refine iteF ?_
    have s05 := s04.trans (Same.t s10)
    refine ⟨_, rfl, _, rfl, w, _, rfl, .inl (SqL.of (s05.lst hw)), fun c2 nc2 => ?_⟩
    have s06 := s05.trans (Same.t (same_new (o := .lst (ws.map V.int)) nc2))
    have hE2 : SqE K (upd H5 c2 (.lst (ws.map V.int))) c2 (ws.map V.int) := .inl (SqL.of upd_same)
    generalize upd H5 c2 (.lst (ws.map V.int)) = H6 at s06 hE2
    have he6 := s06.keep _ _ (fun _ z => by cases z) he
    have hr6 := s06.keep _ _ (fun _ z => by cases z) hpr
    refine ⟨_, rfl, r, _, _, _, rfl, rfl, SqT.of hr6, at_of (j := 0) rfl rfl, _, rfl, r, _, _, _, rfl, rfl, SqT.of hr6, at_of (j := 1) rfl rfl, m, c2, ps, ls, ws, a, b, rfl, S.sameT s06, hE2, by omega, by omega, fun v hv => (bw v hv).2, by omega, by omega, s06.tab _ tb, fun _ _ _ g2 G2 => ?_, fun z f => (f.no nf).elim, fun _ z f => by omega⟩
    have NB := Tn.none_better par_ok G2
    have cmp : a * x < b * y ↔ ¬ Tn.top ps.length (Tr.par ps) (Tn.inL []) g2 ≤ 0 := by
      rw [NB]
      constructor
      · intro h al
        have := al S1 m1
        rw [sm1l, sm1w] at this
        omega
      · intro h
        refine Classical.byContradiction fun no => h fun S' hS => ?_
        have h1 := good S' hS
        have lS : 0 ≤ Tn.sumL (vf ls) S' := (sum_bd bl (Tn.clS_ok hS).1).1
        have m1 : b * y * Tn.sumL (vf ls) S' ≤ a * x * Tn.sumL (vf ls) S' := Int.mul_le_mul_of_nonneg_right (by omega) lS
        have m2 : b * (x * Tn.sumL (vf ws) S') ≤ b * (y * Tn.sumL (vf ls) S') := Int.mul_le_mul_of_nonneg_left h1 (by omega)
        refine Int.le_of_mul_le_mul_left (a := x) ?_ x0
        calc x * (b * Tn.sumL (vf ws) S') = b * (x * Tn.sumL (vf ws) S') := by rw [← Int.mul_assoc, ← Int.mul_assoc, Int.mul_comm x]
          _ ≤ b * (y * Tn.sumL (vf ls) S') := m2
          _ = b * y * Tn.sumL (vf ls) S' := by rw [Int.mul_assoc]
          _ ≤ a * x * Tn.sumL (vf ls) S' := m1
          _ = x * (a * Tn.sumL (vf ls) S') := by rw [Int.mul_comm a, Int.mul_assoc]
    have fin : ∀ H7, SameT H H7 → True := fun _ _ => trivial
    have pb1 : 0 ≤ a * x ∧ a * x ≤ 20 * 2 ^ 43 := ⟨Int.mul_nonneg a0 (by omega), Int.mul_le_mul a20 cl' (by omega) (by decide)⟩
    have pb2 : 0 ≤ b * y ∧ b * y ≤ 6 * 2 ^ 43 := ⟨Int.mul_nonneg (by omega) cw.1, Int.mul_le_mul b6 cw' cw.1 (by decide)⟩
    constructor
    · intro pos H7 s7
      have s07 := s06.trans s7
      have he7 := s07.keep _ _ (fun _ z => by cases z) he
      have hr7 := s07.keep _ _ (fun _ z => by cases z) hpr
      refine ⟨_, rfl, rfl, _, rfl, r, _, _, _, rfl, rfl, SqT.of hr7, at_of (j := 0) rfl rfl, _, rfl, e, _, _, _, rfl, rfl, SqT.of he7, at_of (j := 0) rfl rfl, _, _, rfl, rfl, .inl ⟨by omega, by omega⟩, _, rfl, r, _, _, _, rfl, rfl, SqT.of hr7, at_of (j := 1) rfl rfl, _, rfl, e, _, _, _, rfl, rfl, SqT.of he7, at_of (j := 1) rfl rfl, _, _, rfl, rfl, .inl ⟨by omega, by omega⟩, _, _, rfl, rfl, rfl, _, rfl, ?_⟩
      refine ifF ?_ ?_
      · show (!decide (V.bl (decide (V.non = V.non)) = V.bl (decide (a * x < b * y)))) = false
        rw [decide_eq_true (show V.non = V.non from rfl), decide_eq_true (cmp.mpr (by omega))]
        rfl
      refine ⟨_, rfl, e, _, _, _, rfl, rfl, SqT.of he7, at_of (j := 1) rfl rfl, rfl, _, rfl, ?_⟩
      refine boolIte (fun _ => q _ s07) (fun h5 => ?_)
      have y1 : 1 ≤ y := by
        have := cw.1
        by_cases c : y = 0
        · exact absurd (by rw [c]) (of_decide_eq_false h5)
        · omega
      refine ⟨_, rfl, _, rfl, w, _, rfl, .inl (SqL.of (s07.lst hw)), fun c3 nc3 => ?_⟩
      have s08 := s07.trans (Same.t (same_new (o := .lst (ws.map V.int)) nc3))
      have hE3 : SqE K (upd H7 c3 (.lst (ws.map V.int))) c3 (ws.map V.int) := .inl (SqL.of upd_same)
      generalize upd H7 c3 (.lst (ws.map V.int)) = H8 at s08 hE3
      have he8 := s08.keep _ _ (fun _ z => by cases z) he
      have by1 : 0 ≤ y * n ∧ y * n ≤ 2 ^ 43 * 60 := ⟨Int.mul_nonneg (by omega) (by omega), Int.mul_le_mul cw' n60 (by omega) (by decide)⟩
      have by2 : 0 ≤ x * n ∧ x * n ≤ 2 ^ 43 * 60 := ⟨Int.mul_nonneg (by omega) (by omega), Int.mul_le_mul cl' n60 (by omega) (by decide)⟩
      have by3 : 1 * 1 ≤ y * n := Int.mul_le_mul y1 n1 (by decide) (by omega)
      have by4 : 1 * 1 ≤ x * n := Int.mul_le_mul x0 n1 (by decide) (by omega)
      refine ⟨_, rfl, e, _, _, _, rfl, rfl, SqT.of he8, at_of (j := 1) rfl rfl, _, rfl, _, _, rfl, rfl, .inr ⟨by omega, by omega⟩, _, _, rfl, rfl, _, rfl, e, _, _, _, rfl, rfl, SqT.of he8, at_of (j := 0) rfl rfl, _, rfl, _, _, rfl, rfl, .inr ⟨by omega, by omega⟩, m, c3, ps, ls, ws, y * n - 1, x * n, rfl, S.sameT s08, hE3, by omega, by omega, fun v hv => (bw v hv).2, by omega, by omega, s08.tab _ tb, fun _ _ _ g3 G3 => ?_, fun z f => (f.no nf).elim, fun _ z f => by omega⟩
      have NB3 := Tn.none_better par_ok G3
      have no3 : ¬ Tn.top ps.length (Tr.par ps) (Tn.inL []) g3 ≤ 0 := by
        rw [NB3]
        intro al
        have h6 := al S1 m1
        rw [sm1l, sm1w, Int.sub_mul, Int.one_mul] at h6
        have e6 : x * n * y = y * n * x := by rw [Int.mul_assoc, Int.mul_comm x, Int.mul_comm n]
        omega
      refine ⟨fun _ H9 s9 => ?_, fun neg3 => absurd neg3 no3⟩
      exact ⟨rfl, q _ (s08.trans s9)⟩
    · intro neg2 t2 H7 s7 nt2 ht2
      have s07 := s06.trans s7
      have he7 := s07.keep _ _ (fun _ z => by cases z) he
      have hr7 := s07.keep _ _ (fun _ z => by cases z) hpr
      refine ⟨_, rfl, rfl, _, rfl, r, _, _, _, rfl, rfl, SqT.of hr7, at_of (j := 0) rfl rfl, _, rfl, e, _, _, _, rfl, rfl, SqT.of he7, at_of (j := 0) rfl rfl, _, _, rfl, rfl, .inl ⟨by omega, by omega⟩, _, rfl, r, _, _, _, rfl, rfl, SqT.of hr7, at_of (j := 1) rfl rfl, _, rfl, e, _, _, _, rfl, rfl, SqT.of he7, at_of (j := 1) rfl rfl, _, _, rfl, rfl, .inl ⟨by omega, by omega⟩, _, _, rfl, rfl, rfl, _, rfl, ?_⟩
      refine ifF ?_ ?_
      · show (!decide (V.bl (decide (V.ref t2 = V.non)) = V.bl (decide (a * x < b * y)))) = false
        rw [decide_eq_false (show ¬ V.ref t2 = V.non by intro z; cases z), decide_eq_false (fun z => cmp.mp z neg2)]
        rfl
      refine ⟨_, rfl, e, _, _, _, rfl, rfl, SqT.of he7, at_of (j := 1) rfl rfl, rfl, _, rfl, ?_⟩
      refine boolIte (fun _ => q _ s07) (fun h5 => ?_)
      have y1 : 1 ≤ y := by
        have := cw.1
        by_cases c : y = 0
        · exact absurd (by rw [c]) (of_decide_eq_false h5)
        · omega
      refine ⟨_, rfl, _, rfl, w, _, rfl, .inl (SqL.of (s07.lst hw)), fun c3 nc3 => ?_⟩
      have s08 := s07.trans (Same.t (same_new (o := .lst (ws.map V.int)) nc3))
      have hE3 : SqE K (upd H7 c3 (.lst (ws.map V.int))) c3 (ws.map V.int) := .inl (SqL.of upd_same)
      generalize upd H7 c3 (.lst (ws.map V.int)) = H8 at s08 hE3
      have he8 := s08.keep _ _ (fun _ z => by cases z) he
      have by1 : 0 ≤ y * n ∧ y * n ≤ 2 ^ 43 * 60 := ⟨Int.mul_nonneg (by omega) (by omega), Int.mul_le_mul cw' n60 (by omega) (by decide)⟩
      have by2 : 0 ≤ x * n ∧ x * n ≤ 2 ^ 43 * 60 := ⟨Int.mul_nonneg (by omega) (by omega), Int.mul_le_mul cl' n60 (by omega) (by decide)⟩
      have by3 : 1 * 1 ≤ y * n := Int.mul_le_mul y1 n1 (by decide) (by omega)
      have by4 : 1 * 1 ≤ x * n := Int.mul_le_mul x0 n1 (by decide) (by omega)
      refine ⟨_, rfl, e, _, _, _, rfl, rfl, SqT.of he8, at_of (j := 1) rfl rfl, _, rfl, _, _, rfl, rfl, .inr ⟨by omega, by omega⟩, _, _, rfl, rfl, _, rfl, e, _, _, _, rfl, rfl, SqT.of he8, at_of (j := 0) rfl rfl, _, rfl, _, _, rfl, rfl, .inr ⟨by omega, by omega⟩, m, c3, ps, ls, ws, y * n - 1, x * n, rfl, S.sameT s08, hE3, by omega, by omega, fun v hv => (bw v hv).2, by omega, by omega, s08.tab _ tb, fun _ _ _ g3 G3 => ?_, fun z f => (f.no nf).elim, fun _ z f => by omega⟩
      have NB3 := Tn.none_better par_ok G3
      have no3 : ¬ Tn.top ps.length (Tr.par ps) (Tn.inL []) g3 ≤ 0 := by
        rw [NB3]
        intro al
        have h6 := al S1 m1
        rw [sm1l, sm1w, Int.sub_mul, Int.one_mul] at h6
        have e6 : x * n * y = y * n * x := by rw [Int.mul_assoc, Int.mul_comm x, Int.mul_comm n]
        omega
      refine ⟨fun _ H9 s9 => ?_, fun neg3 => absurd neg3 no3⟩
      exact ⟨rfl, q _ (s08.trans s9)⟩
theorem ok_l_heights (T : Tx P K mg) (TB : TBs T base) : FnOk P w K mg base L2.CX0 9 T.a_l_heights T.d_l_heights ["_law_made", "_law_weights", "_law_passed", "_law_sets", "_law_ends_here", "_law_asked_here"] (spHeightsL K T.C_Tunnels T.C_Shape) := by
  have G_height := ok_height (P := P) (w := w) (base := base) T TB
  have G_l_fraction := ok_l_fraction (P := P) (w := w) (base := base) T TB
  have G_l_line := ok_l_line (P := P) (w := w) (base := base) T TB
  refine T.F_l_heights.ok sc_l_heights (fun vs H Q E h => ?_) (fun cdv A outer s H vs Q E hr h => ?_)
  · obtain ⟨m, w, p, a, e, k, ps, ls, ws, As, bs, rfl, _⟩ := h
    rfl
  · obtain ⟨m, w, p, a, e, k, ps, ls, ws, As, bs, rfl, S, hw, hp, SA, lw, n8, bw, st, fu, CE, hk, la, bA, q⟩ := h
    obtain ⟨ll, bl, pl⟩ := S.bd
    obtain ⟨ok, p1, _⟩ := S.ok
    have nf : NoFault ws 0 ps.length := ⟨fun v hv => (bw v hv).1, lw⟩
    obtain ⟨b8, k2⟩ := blk_ok par_ok st
    have b0 : 0 < bs.length := by
      have := fu 1 (Nat.le_refl _) p1
      cases hc : bs with
      | nil => rw [hc] at this; cases this
      | cons x y => exact Nat.succ_pos _
    obtain ⟨xs, e1, e2, e3⟩ := CE.at
    obtain ⟨ss, z1, z2, z3⟩ := SA.all
    have lc := Tn.clS_len (Tr.par ps) ps.length
    have l8 : (Tn.clS (Tr.par ps) ps.length).length ≤ 256 := Nat.le_trans lc (Nat.pow_le_pow_right (by decide) n8)
    have cb : ∀ i, 0 ≤ crn (vf ls) bs i ∧ crn (vf ls) bs i ≤ ps.length * 2 ^ 40 := fun i => crn_bd st bl i
    have bd : ∀ S, S ∈ Tn.clS (Tr.par ps) ps.length → 0 ≤ Tn.sumL (vf ls) S ∧ Tn.sumL (vf ls) S ≤ 2 ^ 43 ∧ 0 ≤ Tn.sumL (vf ws) S ∧ Tn.sumL (vf ws) S ≤ 2 ^ 43 := fun S hS => by
      have i1 := (Tn.clS_ok hS).1
      have a1 := sum_bd bl i1
      have a2 := sum_bd bw i1
      omega
    refine ⟨_, (pss_cons (ps_setLc (i := 6) (own := [("_law_end", 10)]) (g := gName 10) (tt := tYes) rfl sc_l_heights.nd rfl rfl (sw_true rfl rfl rfl (by decide +kernel)) (pi_list (pv 4)) (blkOk_by (N := ["_law_made", "_law_weights", "_law_passed", "_law_sets", "_law_ends_here", "_law_asked_here", "_law_corner", "_law_length", "_law_told", "_law_here", "_law_end", "_law_one"]) (sc := defScope s_l_heights) (by decide +kernel)) (fun _ _ _ _ _ => (pg_name (i := 10) sc_l_heights.nd rfl (Or.inl rfl))) (fun _ _ _ _ _ => pts_nil) (fun _ _ _ _ _ => (pe_ix (ix_tupK (K := K)) (pv 10) pe_int (fun _ _ => rfl))))
          (pss_cons (ps_for PassesOwn.never rfl (pi_list (pv 5)) (pg_name (i := 7) sc_l_heights.nd rfl (Or.inr rfl))
          (pss_cons (ps_set (i := 8) sc_l_heights.nd rfl (Or.inr rfl) (pe_call G_height hr rfl T.g_height T.F_height.kp T.B_height .nil pass_noN (pa_cons (pv 0) (pa_cons (pv 2) (pa_cons (pv 7) pa_nil)))))
          (pss_cons (ps_if (PW.pt (pw_or (pt_cmpR (op_neD (hu64_of hr)) (pe_callTy (T := "list") call_list_of (by rfl) T.z_list (by decide +kernel) (pa_cons (pv 2) pa_nil)) (pv 1) (nomark _)) (pw_or1 (pt_not (pt_val (pe_call G_l_fraction (hr.mono (by decide)) rfl T.g_l_fraction T.F_l_fraction.kp T.B_l_fraction .nil pass0 (pa_cons (pv 8) (pa_cons (pe_call G_l_line (hr.mono (by decide)) rfl T.g_l_line T.F_l_line.kp T.B_l_line .nil pass0 (pa_cons (pv 4) (pa_cons (pv 7) pa_nil))) pa_nil))))))))
          (pss_one (ps_ret pe_bl))
          pss_nil)
          (pss_cons (ps_setLc (i := 9) (own := [("_law_one", 11)]) (g := gName 11) rfl sc_l_heights.nd rfl rfl (sw_true rfl rfl rfl (by decide +kernel)) (pi_list (pv 3)) (blkOk_by (N := ["_law_made", "_law_weights", "_law_passed", "_law_sets", "_law_ends_here", "_law_asked_here", "_law_corner", "_law_length", "_law_told", "_law_here", "_law_end", "_law_one"]) (sc := defScope s_l_heights) (by decide +kernel)) (fun _ _ _ _ _ => (pg_name (i := 11) sc_l_heights.nd rfl (Or.inl rfl))) (fun _ _ _ _ _ => (pts_one (pt_cmpR op_eq (pe_ix (ix_tupK (K := K)) (pv 11) pe_int (fun _ _ => rfl)) (pv 7) (nomark _)))) (fun _ _ _ _ _ => (pv 11)))
          (pss_cons (ps_if (pt_truth (pe_lc (own := [("_law_one", 11)]) (g := gName 11) rfl sc_l_heights.nd (pi_list (pv 9)) (blkOk_by (N := ["_law_made", "_law_weights", "_law_passed", "_law_sets", "_law_ends_here", "_law_asked_here", "_law_corner", "_law_length", "_law_told", "_law_here", "_law_end", "_law_one"]) (sc := defScope s_l_heights) (by decide +kernel)) (fun _ _ _ _ _ => (pg_name (i := 11) sc_l_heights.nd rfl (Or.inl rfl))) (fun _ _ _ _ _ => (pts_one (pt_cmpR op_gt (pe_op op_mul (pe_ix (ix_tupK (K := K)) (pv 11) pe_int (fun _ _ => rfl)) (pe_ix (ix_tupK (K := K)) (pv 8) pe_int (fun _ _ => rfl))) (pe_ix (ix_tupK (K := K)) (pv 8) pe_int (fun _ _ => rfl)) (nomark _)))) (fun _ _ _ _ _ => (pv 11))) (by intro _; rfl))
          (pss_one (ps_ret pe_bl))
          pss_nil)
          (pss_one (ps_if (PW.pt (pw_and (pt_cmpR op_in_seq (pv 7) (pv 6) (by rfl)) (pw_and1 (pt_not (pt_truth (pe_lc (own := [("_law_one", 11)]) (g := gName 11) rfl sc_l_heights.nd (pi_list (pv 9)) (blkOk_by (N := ["_law_made", "_law_weights", "_law_passed", "_law_sets", "_law_ends_here", "_law_asked_here", "_law_corner", "_law_length", "_law_told", "_law_here", "_law_end", "_law_one"]) (sc := defScope s_l_heights) (by decide +kernel)) (fun _ _ _ _ _ => (pg_name (i := 11) sc_l_heights.nd rfl (Or.inl rfl))) (fun _ _ _ _ _ => (pts_one (pt_cmpR op_eq (pe_op op_mul (pe_ix (ix_tupK (K := K)) (pv 11) pe_int (fun _ _ => rfl)) (pe_ix (ix_tupK (K := K)) (pv 8) pe_int (fun _ _ => rfl))) (pe_ix (ix_tupK (K := K)) (pv 8) pe_int (fun _ _ => rfl)) (nomark _)))) (fun _ _ _ _ _ => (pv 11))) (by intro _; rfl))))))
          (pss_one (ps_ret pe_bl))
          pss_nil)))))))
          (pss_one (ps_ret pe_bl)))), ?_⟩
    refine ⟨_, rfl, e, rfl, ⟨_, SqL.of e1⟩, fun D hD => ?_⟩
    refine lc_list (K := K) (a := e) (xs := xs) (fun j H' => Same H H' ∧ H' D = some (.lst (((List.range j).map fun i => crn (vf ls) bs i).map V.int))) ⟨same_new hD, upd_same⟩ (fun j H' _ z => SqL.of (z.1 _ _ e1)) ?_ ?_
    · rintro j x H2 hx ⟨s2, hD2⟩
      have hj := (List.getElem?_eq_some_iff.mp hx).1
      obtain ⟨qj, g1, g2⟩ := e3 j (by omega)
      rw [g1] at hx
      obtain rfl := Option.some.inj hx
      refine ⟨rfl, ?_⟩
      refine ⟨_, rfl, qj, _, _, _, rfl, rfl, SqT.of (s2 _ _ g2), at_of (j := 0) rfl rfl, ?_⟩
      refine ⟨_, hD2, size_lt (by rw [List.length_map, List.length_map, List.length_range]; omega), same_mut s2 hD, ?_⟩
      rw [upd_same, List.range_succ, List.map_append, List.map_append]
      rfl
    rintro H1 ⟨s1, hD1⟩
    rw [e2] at hD1
    have hkS := s1.seq hk
    refine ⟨_, rfl, k, rfl, ⟨_, hkS⟩, for_list (K := K) (a := k) (xs := As.map V.int) (fun i σ H' => ∃ y1 y2 y3 : Option V, σ = [some (.ref m), some (.ref w), some (.ref p), some (.ref a), some (.ref e), some (.ref k), some (.ref D), y1, y2, y3, none, none] ∧ Same H1 H') ⟨none, none, none, rfl, Same.refl _⟩ (fun i σ H' _ ⟨_, _, _, _, s⟩ => s.seq hkS) ?_ ?_⟩
    · rintro i x _ H2 hx ⟨y1, y2, y3, rfl, s2⟩
      obtain ⟨L, hL, rfl⟩ := ns_get hx
      obtain ⟨L0, L1⟩ := bA L (List.mem_of_getElem? hL)
      have cl := cb bs.length
      have s02 := s1.trans s2
      have sL : Small L := by unfold Small; omega
      refine ⟨_, rfl, _, rfl, _, rfl, m, p, ps, ls, ws, L, rfl, S.same s02, SqE_same s02 hp, by omega, by omega, fun v hv => (bw v hv).2, sL, fun _ bs' st' fu' => ?_, fun z f => (f.no nf).elim⟩
      obtain rfl := st.same_of fu st' fu'
      refine ⟨fun _ _ P' q' t H3 ht s3 nt htt => ?_, fun z => by omega⟩
      have s03 := s02.trans s3
      refine ⟨_, rfl, p, _, rfl, SqE_same s03 hp, fun c nc => ?_⟩
      have s4 := same_new (o := .lst (ws.map V.int)) nc
      refine ⟨_, rfl, _, _, dp_lst (ns := ws) (SqL.of upd_same), dp_lst (ns := ws) (SqL.of ((s03.trans s4) _ _ hw)), shaped_lst _, shaped_lst _, ?_⟩
      rw [eqv_lst, decide_eq_true rfl]
      refine ⟨_, rfl, ?_⟩
      refine ifF rfl ?_
      have s04 := s03.trans s4
      have s24 := s3.trans s4
      have htt := s4 _ _ htt
      generalize upd H3 c (.lst (ws.map V.int)) = H4 at s04 s24 htt
      refine ⟨_, rfl, _, rfl, _, rfl, e, ps.length, Tr.par ps, ls, ws, bs, L, rfl, CE.same s04, st, by omega, by omega, n8, bl, bw, L0, L1, fun tl x' y' H5 ol yb s5 ntl htl => ?_⟩
      obtain ⟨hl1, hl2⟩ := ht.line st ol
      obtain ⟨q1, q46, gc, _⟩ := id ht
      have htt5 := s5 _ _ htt
      refine ⟨t, tl, P', q', x', y', rfl, htt5, SqT.of htl, q1, hl2, yb, hl1, gc, ?_⟩
      refine ⟨_, rfl, ?_⟩
      refine iteF ?_
      have s05 := s04.trans s5
      have s25 := s24.trans s5
      have z15 := s05 _ _ z1
      refine ⟨_, rfl, a, rfl, ⟨_, SqL.of z15⟩, fun E hE => ?_⟩
      refine lc_list (K := K) (a := a) (xs := ss) (fun j H' => Same H5 H' ∧ ∃ qs : List Addr, H' E = some (.lst (qs.map V.ref)) ∧ qs.length ≤ j ∧ (∀ r, r ∈ qs → ∃ S', S' ∈ Tn.clS (Tr.par ps) ps.length ∧ Tn.sumL (vf ls) S' = L ∧ SetT H5 ls ws r S') ∧ ∀ i' S', i' < j → (Tn.clS (Tr.par ps) ps.length)[i']? = some S' → Tn.sumL (vf ls) S' = L → ∃ r, r ∈ qs ∧ SetT H5 ls ws r S') ⟨same_new hE, [], upd_same, Nat.le_refl _, fun r h => (by cases h), fun i' S' h => absurd h (Nat.not_lt_zero _)⟩ (fun j H' _ z => SqL.of (z.1 _ _ z15)) ?_ ?_
      · rintro j x H6 hx ⟨s6, qs, hE6, lq, al, ex⟩
        have hj := (List.getElem?_eq_some_iff.mp hx).1
        obtain ⟨r, S', rfl, hS, tS⟩ := z3 j x hx
        have tS5 := tS.same s05
        obtain ⟨qS, v1, v2⟩ := tS5.same s6
        refine ⟨rfl, ?_⟩
        refine ⟨_, rfl, r, _, _, _, rfl, rfl, SqT.of v1, at_of (j := 0) rfl rfl, _, rfl, rfl, _, rfl, ?_⟩
        refine boolIte (fun h1 => ?_) (fun h1 => ?_)
        · have h1 := V.int.inj (of_decide_eq_true h1)
          refine ⟨_, rfl, _, hE6, size_lt (by rw [List.length_map]; omega), same_mut s6 hE, qs ++ [r], by rw [upd_same, List.map_append]; rfl, by rw [List.length_append]; show _ + 1 ≤ _; omega, fun r' h => ?_, fun i' S2 hi hS2 e' => ?_⟩
          · rcases List.mem_append.mp h with h | h
            · exact al r' h
            · rw [List.mem_singleton.mp h]
              exact ⟨S', List.mem_of_getElem? hS, h1, tS5⟩
          · by_cases c : i' < j
            · obtain ⟨r', a', b'⟩ := ex i' S2 c hS2 e'
              exact ⟨r', List.mem_append_left _ a', b'⟩
            · obtain rfl : i' = j := by omega
              rw [hS] at hS2
              obtain rfl := Option.some.inj hS2
              exact ⟨r, List.mem_append_right _ (List.mem_singleton.mpr rfl), tS5⟩
        · have h1 : ¬ Tn.sumL (vf ls) S' = L := fun z => of_decide_eq_false h1 (by rw [z])
          refine ⟨s6, qs, hE6, by omega, al, fun i' S2 hi hS2 e' => ?_⟩
          by_cases c : i' < j
          · exact ex i' S2 c hS2 e'
          · obtain rfl : i' = j := by omega
            rw [hS] at hS2
            obtain rfl := Option.some.inj hS2
            exact absurd e' h1
      rintro H6 ⟨s6, qs, hE6, lq, al, ex⟩
      have htt6 := s6 _ _ htt5
      refine ⟨_, rfl, E, rfl, ⟨_, SqL.of hE6⟩, fun F hF => ?_⟩
      refine lc_list (K := K) (a := E) (xs := qs.map V.ref) (fun j H' => Same H6 H' ∧ H' F = some (.lst [])) ⟨same_new hF, upd_same⟩ (fun j H' _ z => SqL.of (z.1 _ _ hE6)) ?_ ?_
      · rintro j x H7 hx ⟨s7, hF7⟩
        obtain ⟨r, hr', rfl⟩ := ref_get hx
        obtain ⟨S', mS, lS, tS⟩ := al r (List.mem_of_getElem? hr')
        obtain ⟨qS, v1, v2⟩ := tS.same (s6.trans s7)
        have b4 := bd S' mS
        have ab := ht.above par_ok pl st mS lS
        refine ⟨rfl, ?_⟩
        refine ⟨_, rfl, r, _, _, _, rfl, rfl, SqT.of v1, at_of (j := 1) rfl rfl, _, rfl, t, _, _, _, rfl, rfl, SqT.of (s7 _ _ htt6), at_of (j := 1) rfl rfl, _, _, rfl, rfl, .inl ⟨by omega, by omega⟩, _, rfl, t, _, _, _, rfl, rfl, SqT.of (s7 _ _ htt6), at_of (j := 0) rfl rfl, _, _, rfl, rfl, _, rfl, ?_⟩
        refine ifF (decide_eq_false (by omega)) ⟨s7, hF7⟩
      rintro H7 ⟨s7, hF7⟩
      refine ⟨!([] : List V).isEmpty, .inl ⟨_, SqL.of hF7, rfl⟩, ?_⟩
      refine ifF rfl ?_
      have s57 := s6.trans s7
      have hD7 := (s2.trans (s25.trans s57)) _ _ hD1
      have htt7 := s7 _ _ htt6
      have hE7 := s7 _ _ hE6
      refine ⟨_, rfl, _, rfl, D, _, rfl, .inl (SqL.of hD7), rfl, ints_flat _, _, rfl, ?_⟩
      refine boolIte (fun hc => ?_) (fun hc => ⟨_, _, _, rfl, s2.trans (s25.trans s57)⟩)
      obtain ⟨kk, hkk, eL⟩ : ∃ kk, kk ≤ bs.length ∧ L = crn (vf ls) bs kk := by
        unfold inV at hc
        obtain ⟨v, hv, e'⟩ := List.any_eq_true.mp hc
        obtain ⟨z, hz, rfl⟩ := List.mem_map.mp hv
        obtain ⟨i', hi', rfl⟩ := List.mem_map.mp hz
        have := List.mem_range.mp hi'
        exact ⟨i', by omega, by have h : decide (crn (vf ls) bs i' = L) = true := e'; exact (of_decide_eq_true h).symm⟩
      subst eL
      obtain ⟨mk, sk⟩ := crn_set (par_ok (ps := ps)) st kk
      obtain ⟨ik, hik⟩ := List.getElem?_of_mem mk
      have lik := (List.getElem?_eq_some_iff.mp hik).1
      obtain ⟨rk, hrk, tk⟩ := ex ik _ (by omega) hik (sk _)
      have ck := ht.corner st hkk
      obtain ⟨jk, hjk⟩ := List.getElem?_of_mem hrk
      refine ⟨_, rfl, E, rfl, ⟨_, SqL.of hE7⟩, fun G hG => ?_⟩
      refine lc_list (K := K) (a := E) (xs := qs.map V.ref) (fun j H' => Same H7 H' ∧ ∃ acc : List V, H' G = some (.lst acc) ∧ acc.length ≤ j ∧ (jk < j → acc ≠ [])) ⟨same_new hG, [], upd_same, Nat.le_refl _, fun h => absurd h (Nat.not_lt_zero _)⟩ (fun j H' _ z => SqL.of (z.1 _ _ hE7)) ?_ ?_
      · rintro j x H8 hx ⟨s8, acc, hG8, la', ne⟩
        obtain ⟨r, hr', rfl⟩ := ref_get hx
        have hj := (List.getElem?_eq_some_iff.mp hr').1
        obtain ⟨S', mS, lS, tS⟩ := al r (List.mem_of_getElem? hr')
        obtain ⟨qS, v1, v2⟩ := tS.same (s57.trans s8)
        have b4 := bd S' mS
        refine ⟨rfl, ?_⟩
        refine ⟨_, rfl, r, _, _, _, rfl, rfl, SqT.of v1, at_of (j := 1) rfl rfl, _, rfl, t, _, _, _, rfl, rfl, SqT.of (s8 _ _ htt7), at_of (j := 1) rfl rfl, _, _, rfl, rfl, .inl ⟨by omega, by omega⟩, _, rfl, t, _, _, _, rfl, rfl, SqT.of (s8 _ _ htt7), at_of (j := 0) rfl rfl, rfl, _, rfl, ?_⟩
        refine boolIte (fun h1 => ?_) (fun h1 => ?_)
        · exact ⟨_, rfl, _, hG8, size_lt (by omega), same_mut s8 hG, acc ++ [V.ref r], upd_same, by rw [List.length_append]; show _ + 1 ≤ _; omega, fun _ z => by simp at z⟩
        · refine ⟨s8, acc, hG8, by omega, fun hj' => ?_⟩
          by_cases c : jk < j
          · exact ne c
          · obtain rfl : jk = j := by omega
            rw [hjk] at hr'
            obtain rfl := Option.some.inj hr'
            obtain ⟨qk, w1, w2⟩ := tk.same (s57.trans s8)
            rw [v1] at w1
            have e6 := HO.tup.inj (Option.some.inj w1)
            injection e6 with _ e7
            injection e7 with e7 _
            have e7 := V.int.inj e7
            rw [sk] at e7
            exact absurd (show V.int (Tn.sumL (vf ws) S' * q') = V.int P' by rw [e7, ck]) (of_decide_eq_false h1)
      rintro H8 ⟨s8, acc, hG8, la', ne⟩
      have ne := ne (by have := (List.getElem?_eq_some_iff.mp hjk).1; rw [List.length_map]; omega)
      refine ⟨!acc.isEmpty, .inl ⟨_, SqL.of hG8, rfl⟩, ?_⟩
      refine notIte (fun _ => ⟨_, _, _, rfl, s2.trans (s25.trans (s57.trans s8))⟩) (fun hh => ?_)
      cases acc with
      | nil => exact absurd rfl ne
      | cons x y => cases hh
    rintro _ H2 ⟨y1, y2, y3, rfl, s2⟩
    exact q _ (s1.trans s2)
theorem ok_law (T : Tx P K mg) (TB : TBs T base) : FnOk P w K mg base L2.CX0 10 T.a_law T.d_law ["_law_script"] (spLawT1 K T.P_prices) := by
  have G_Tunnels_init := ok_Tunnels_init (P := P) (w := w) (base := base) T TB
  have G_l_asked := ok_l_asked (P := P) (w := w) (base := base) T TB
  have G_l_closed := ok_l_closed (P := P) (w := w) (base := base) T TB
  have G_l_cornered := ok_l_cornered (P := P) (w := w) (base := base) T TB
  have G_l_dug := ok_l_dug (P := P) (w := w) (base := base) T TB
  have G_l_ends := ok_l_ends (P := P) (w := w) (base := base) T TB
  have G_l_heights := ok_l_heights (P := P) (w := w) (base := base) T TB
  have G_l_next := ok_l_next (P := P) (w := w) (base := base) T TB
  have G_l_priced := ok_l_priced (P := P) (w := w) (base := base) T TB
  have G_l_refused := ok_l_refused (P := P) (w := w) (base := base) T TB
  have G_l_spoilt := ok_l_spoilt (P := P) (w := w) (base := base) T TB
  have G_l_tape := ok_l_tape (P := P) (w := w) (base := base) T TB
  refine T.F_law.ok sc_law (fun vs H Q E h => ?_) (fun cdv A outer s H vs Q E hr h => ?_)
  · obtain ⟨a0, ns0, rfl, _⟩ := h
    rfl
  · obtain ⟨a0, ns0, rfl, hS, hlen, tb0, q⟩ := h
    refine ⟨_, (pss_cons (ps_set (i := 1) sc_law.nd rfl (Or.inl rfl) (pe_call G_l_tape (hr.mono (by decide)) rfl T.g_l_tape T.F_l_tape.kp T.B_l_tape .nil pass0 (pa_cons (pv 0) pa_nil)))
          (pss_cons (ps_asg (pe_call G_l_dug (hr.mono (by decide)) rfl T.g_l_dug T.F_l_dug.kp T.B_l_dug .nil pass0 (pa_cons (pv 1) pa_nil)) (pg_tup rfl (pgs_cons (pg_name (i := 2) sc_law.nd rfl (Or.inl rfl)) (pgs_cons (pg_name (i := 3) sc_law.nd rfl (Or.inl rfl)) (pgs_cons (pg_name (i := 4) sc_law.nd rfl (Or.inl rfl)) pgs_nil)))))
          (pss_cons (ps_set (i := 5) sc_law.nd rfl (Or.inl rfl) (pe_lst (pa_cons (pv 4) (pa_cons (pe_revL (pv 4)) pa_nil))))
          (pss_cons (ps_set (i := 6) sc_law.nd rfl (Or.inl rfl) (pe_call G_l_spoilt (hr.mono (by decide)) rfl T.g_l_spoilt T.F_l_spoilt.kp T.B_l_spoilt .nil pass0 (pa_cons (pv 1) (pa_cons (pv 4) (pa_cons pe_int pa_nil)))))
          (pss_cons (ps_set (i := 7) sc_law.nd rfl (Or.inl rfl) (pe_op op_mul (pe_call G_l_next (hr.mono (by decide)) rfl T.g_l_next T.F_l_next.kp T.B_l_next .nil pass0 (pa_cons (pv 1) (pa_cons pe_int pa_nil))) (pe_call G_l_next (hr.mono (by decide)) rfl T.g_l_next T.F_l_next.kp T.B_l_next .nil pass0 (pa_cons (pv 1) (pa_cons pe_int pa_nil)))))
          (pss_cons (ps_set (i := 8) sc_law.nd rfl (Or.inl rfl) (pe_op op_add pe_int (pe_call G_l_next (hr.mono (by decide)) rfl T.g_l_next T.F_l_next.kp T.B_l_next .nil pass0 (pa_cons (pv 1) (pa_cons pe_int pa_nil)))))
          (pss_cons (ps_set (i := 9) sc_law.nd rfl (Or.inl rfl) (pe_tup (pa_cons (pe_call G_l_next (hr.mono (by decide)) rfl T.g_l_next T.F_l_next.kp T.B_l_next .nil pass0 (pa_cons (pv 1) (pa_cons pe_int pa_nil))) (pa_cons (pe_op op_add pe_int (pe_call G_l_next (hr.mono (by decide)) rfl T.g_l_next T.F_l_next.kp T.B_l_next .nil pass0 (pa_cons (pv 1) (pa_cons pe_int pa_nil)))) pa_nil))))
          (pss_cons (ps_set (i := 10) sc_law.nd rfl (Or.inl rfl) (pe_callB (id := "sum") (cr_sum rfl) (by rfl) T.z_sum (by decide +kernel) (pa_cons (pv 3) pa_nil)))
          (pss_cons (ps_set (i := 11) sc_law.nd rfl (Or.inl rfl) (pe_make T.M_Tunnels G_Tunnels_init (hr.mono (by decide)) rfl T.mg_Tunnels T.B_Tunnels_init .nil pass_noN (pa_cons (pe_callTy (T := "list") call_list_of (by rfl) T.z_list (by decide +kernel) (pa_cons (pv 2) pa_nil)) (pa_cons (pe_callTy (T := "list") call_list_of (by rfl) T.z_list (by decide +kernel) (pa_cons (pv 3) pa_nil)) pa_nil))))
          (pss_cons (ps_set (i := 12) sc_law.nd rfl (Or.inl rfl) (pe_lst pa_nil))
          (pss_cons (ps_for PassesOwn.never rfl (pi_list (pv 5)) (pg_name (i := 13) sc_law.nd rfl (Or.inl rfl))
          (pss_cons (ps_set (i := 14) sc_law.nd rfl (Or.inl rfl) (pe_call G_l_closed (hr.mono (by decide)) rfl T.g_l_closed T.F_l_closed.kp T.B_l_closed .nil pass0 (pa_cons (pv 2) (pa_cons (pv 3) (pa_cons (pv 13) pa_nil)))))
          (pss_cons (ps_set (i := 15) sc_law.nd rfl (Or.inl rfl) (pe_call G_l_ends (hr.mono (by decide)) rfl T.g_l_ends T.F_l_ends.kp T.B_l_ends .nil pass0 (pa_cons (pv 2) (pa_cons (pv 14) pa_nil))))
          (pss_one (ps_expr (pe_bm PySem.F.plainAttrs_list PySem.F.slot_list_append PySem.F.type_list_append mt_append (pv 12) (pa_cons (pe_lst (pa_cons (pv 14) (pa_cons (pv 15) (pa_cons (pe_call G_l_asked (hr.mono (by decide)) rfl T.g_l_asked T.F_l_asked.kp T.B_l_asked .nil pass0 (pa_cons (pv 1) (pa_cons (pv 15) pa_nil))) pa_nil)))) pa_nil)))))))
          (pss_cons (ps_for PassesOwn.never rfl (pi_range1 rfl T.z_range (pa_cons pe_int pa_nil)) (pg_name (i := 16) sc_law.nd rfl (Or.inl rfl))
          (pss_cons (ps_for PassesOwn.never rfl (pi_range1 rfl T.z_range (pa_cons pe_int pa_nil)) (pg_name (i := 17) sc_law.nd rfl (Or.inl rfl))
          (pss_cons (ps_set (i := 18) sc_law.nd rfl (Or.inl rfl) (pe_ix ix_list (pe_lst (pa_cons (pe_callTy (T := "list") call_list_of (by rfl) T.z_list (by decide +kernel) (pa_cons (pe_ix ix_list (pv 5) (pv 17) (fun _ _ => rfl)) pa_nil)) (pa_cons (pe_callTy (T := "tuple") call_tuple_of (by rfl) T.z_tuple (by decide +kernel) (pa_cons (pe_ix ix_list (pv 5) (pv 17) (fun _ _ => rfl)) pa_nil)) pa_nil))) (pv 16) (fun _ _ => rfl)))
          (pss_cons (ps_set (i := 15) sc_law.nd rfl (Or.inl rfl) (pe_ix ix_list (pe_ix ix_list (pv 12) (pv 17) (fun _ _ => rfl)) pe_int (fun _ _ => rfl)))
          (pss_cons (ps_if (pt_not (pt_val (pe_call G_l_cornered (hr.mono (by decide)) rfl T.g_l_cornered T.F_l_cornered.kp T.B_l_cornered .nil pass0 (pa_cons (pv 11) (pa_cons (pe_ix ix_list (pv 5) (pv 17) (fun _ _ => rfl)) (pa_cons (pv 15) pa_nil))))))
          (pss_one (ps_ret pe_bl))
          pss_nil)
          (pss_cons (ps_if (pt_not (pt_val (pe_call G_l_heights hr rfl T.g_l_heights T.F_l_heights.kp T.B_l_heights .nil pass0 (pa_cons (pv 11) (pa_cons (pe_ix ix_list (pv 5) (pv 17) (fun _ _ => rfl)) (pa_cons (pv 18) (pa_cons (pe_ix ix_list (pe_ix ix_list (pv 12) (pv 17) (fun _ _ => rfl)) pe_int (fun _ _ => rfl)) (pa_cons (pv 15) (pa_cons (pe_stepL (pe_ix ix_list (pe_ix ix_list (pv 12) (pv 17) (fun _ _ => rfl)) pe_int (fun _ _ => rfl)) (pe_op op_add pe_int (pe_op op_mul pe_int (pv 16)))) pa_nil)))))))))
          (pss_one (ps_ret pe_bl))
          pss_nil)
          (pss_one (ps_if (pt_not (pt_val (pe_call G_l_priced (hr.mono (by decide)) rfl T.g_l_priced T.F_l_priced.kp T.B_l_priced .nil pass0 (pa_cons (pv 11) (pa_cons (pv 2) (pa_cons (pv 3) (pa_cons (pe_ix ix_list (pv 5) (pv 17) (fun _ _ => rfl)) (pa_cons (pe_ix ix_list (pv 15) pe_int (fun _ _ => rfl)) (pa_cons (pv 8) (pa_cons (pv 9) pa_nil))))))))))
          (pss_one (ps_ret pe_bl))
          pss_nil)))))))
          (pss_one (ps_for PassesOwn.never rfl (pi_list (pe_lst (pa_cons (pe_op op_sub (pe_op op_sub pe_int pe_int) (pv 7)) (pa_cons (pe_op op_add (pe_op op_add (pv 10) pe_int) (pv 7)) (pa_cons (pv 10) (pa_cons pe_int pa_nil)))))) (pg_name (i := 19) sc_law.nd rfl (Or.inl rfl))
          (pss_cons (ps_if (PW.pt (pw_and (pt_cmpR op_eq (pv 16) pe_int (nomark _)) (pw_and1 (pt_not (pt_val (pe_call G_l_refused hr rfl T.g_l_refused T.F_l_refused.kp T.B_l_refused .nil pass0 (pa_cons (pv 11) (pa_cons (pv 4) (pa_cons (pv 19) (pa_cons (pv 3) pa_nil))))))))))
          (pss_one (ps_ret pe_bl))
          pss_nil)
          (pss_one (ps_if (PW.pt (pw_and (pt_cmpR op_eq (pv 16) pe_int (nomark _)) (pw_and1 (pt_not (pt_val (pe_call G_l_refused hr rfl T.g_l_refused T.F_l_refused.kp T.B_l_refused .nil pass0 (pa_cons (pv 11) (pa_cons (pv 6) (pa_cons (pv 19) (pa_cons (pv 3) pa_nil))))))))))
          (pss_one (ps_ret pe_bl))
          pss_nil)))))))
          (pss_one (ps_ret pe_bl)))))))))))))), ?_⟩
    refine ⟨_, rfl, a0, ns0, rfl, hS, hlen, fun t u H1 s1 nt hT1 => ?_⟩
    refine ⟨_, rfl, t, u, rfl, hT1, fun r p l w ps ls ws H2 ok p1 n8 ll lw bw bl hT2 k2 hr hp hl hw => ?_⟩
    refine ⟨r, _, rfl, SqT.of hr, rfl, _, _, rfl, _, _, rfl, _, _, rfl, rfl, ?_⟩
    have tb2 := (But.t k2 fun P hP => hT1.noTab hP).tab _ ((Same.t s1).tab _ tb0)
    have bl' : Bd ls := fun v hv => by have := bl v hv; omega
    have lf : ∀ k, 1 ≤ k → k ≤ ps.length → 1 ≤ vf ls k := fun k a b => (bl _ (List.mem_of_getElem? (vf_get a (by omega)))).1
    refine ⟨_, rfl, _, rfl, w, _, rfl, SqL.of hw, fun w2 nw2 => ?_⟩
    rw [← List.map_reverse]
    have s3 := same_new (o := .lst (ws.reverse.map V.int)) nw2
    refine ⟨(by show 2 ≤ sizeLine; exact size_le (by omega)), fun hv nhv => ?_⟩
    have s4 := s3.trans (same_new (o := .lst [V.ref w, V.ref w2]) nhv)
    have hw2 := (same_new (o := .lst [V.ref w, V.ref w2]) nhv) _ _ (upd_same (H := H2) (a := w2) (o := .lst (ws.reverse.map V.int)))
    have hhv : (upd (upd H2 w2 (.lst (ws.reverse.map V.int))) hv (.lst [V.ref w, V.ref w2])) hv = some (.lst ([w, w2].map V.ref)) := upd_same
    generalize upd (upd H2 w2 (.lst (ws.reverse.map V.int))) hv (.lst [V.ref w, V.ref w2]) = H4 at s4 hw2 hhv
    have hp4 := s4 _ _ hp
    have hl4 := s4 _ _ hl
    have hw4 := s4 _ _ hw
    have hT4 := hT2.same s4
    have tb4 := (Same.t s4).tab _ tb2
    clear hp hl hw hT2 s4 s3 nw2 nhv hr k2 hT1 s1 nt tb2
    refine ⟨_, rfl, _, rfl, t, u, w, ws, rfl, hT4, hw4, by omega, bw, fun sp ns H5 lns bns hT5 k5 hsp => ?_⟩
    refine ⟨_, rfl, t, u, 2, rfl, by decide, by decide, hT5, fun f1 H6 hf1 hT6 k6 _ => ?_⟩
    refine ⟨_, rfl, t, u, 12000, rfl, by decide, by decide, hT6, fun f2 H7 hf2 hT7 k7 _ => ?_⟩
    refine ⟨_, _, rfl, rfl, .inl ⟨by omega, by omega⟩, ?_⟩
    have fb : (0 : Int) ≤ (f1 : Int) * (f2 : Int) ∧ (f1 : Int) * (f2 : Int) ≤ 1 * 12000 := ⟨Int.mul_nonneg (by omega) (by omega), Int.mul_le_mul (by omega) (by omega) (by omega) (by decide)⟩
    refine ⟨_, rfl, t, u, 60, rfl, by decide, by decide, hT7, fun tm H8 htm hT8 k8 _ => ?_⟩
    refine ⟨_, _, rfl, rfl, ?_⟩
    refine ⟨_, rfl, t, u, 21, rfl, by decide, by decide, hT8, fun ra H9 hra hT9 k9 _ => ?_⟩
    refine ⟨_, rfl, t, u, 6, rfl, by decide, by decide, hT9, fun rb HA hrb hTA kA _ => ?_⟩
    refine ⟨_, _, rfl, rfl, (by show 2 ≤ sizeLine; exact size_le (by omega)), fun q1 nq1 => ?_⟩
    have sq1 := same_new (o := .tup [V.int (ra : Int), V.int (1 + (rb : Int))]) nq1
    have hq1 : (upd HA q1 (.tup [V.int (ra : Int), V.int (1 + (rb : Int))])) q1 = some (.tup [V.int (ra : Int), V.int (1 + (rb : Int))]) := upd_same
    have hTB := hTA.same sq1
    have k5B := k6.trans (k7.trans (k8.trans (k9.trans (kA.trans (But.of_same (s := t) sq1)))))
    have k4B := k5.trans k5B
    generalize upd HA q1 (.tup [V.int (ra : Int), V.int (1 + (rb : Int))]) = HB at hq1 hTB k5B k4B sq1
    have hpB := k4B _ _ (hT4.ne hp4) hp4
    have hlB := k4B _ _ (hT4.neI hl4) hl4
    have hwB := k4B _ _ (hT4.neI hw4) hw4
    have hw2B := k4B _ _ (hT4.neI hw2) hw2
    have hhvB := k4B _ _ (hT4.neR hhv) hhv
    have hspB := k5B _ _ (hT5.neI hsp) hsp
    have tbB := (But.t k4B fun P hP => hT4.noTab hP).tab _ tb4
    clear k5B k4B k5 k6 k7 k8 k9 kA hTA hT9 hT8 hT7 hT6 hT5 hT4 hp4 hl4 hw4 hw2 hhv hsp tb4 sq1 nq1
    refine ⟨_, rfl, l, ls, rfl, SqL.of hlB, ?_⟩
    refine ⟨_, rfl, p, _, rfl, .inl (SqL.of hpB), fun c1 nc1 => ?_⟩
    have g1 := same_new (o := .lst (nvs ps)) nc1
    refine ⟨_, rfl, l, _, rfl, .inl (SqL.of (g1 _ _ hlB)), fun c2 nc2 => ?_⟩
    have g2 := same_new (o := .lst (ls.map V.int)) nc2
    have hc1 := g2 _ _ (upd_same (H := HB) (a := c1) (o := .lst (nvs ps)))
    have hc2 : (upd (upd HB c1 (.lst (nvs ps))) c2 (.lst (ls.map V.int))) c2 = some (.lst (ls.map V.int)) := upd_same
    intro x dx nx ndx nex
    refine ⟨x, dx, c1, c2, ps, ls, rfl, upd_same, .inl (SqL.of (made_at nx ndx hc1)), ok, p1, by omega, .inl (SqL.of (made_at nx ndx hc2)), ll, bl, fun HC bt TA => ⟨rfl, ?_⟩⟩
    have sBC := g1.trans (g2.trans (made nx ndx bt))
    have hTC := hTB.same sBC
    have hpC := sBC _ _ hpB
    have hlC := sBC _ _ hlB
    have hwC := sBC _ _ hwB
    have hw2C := sBC _ _ hw2B
    have hhvC := sBC _ _ hhvB
    have hspC := sBC _ _ hspB
    have hq1C := sBC _ _ hq1
    have tbC := (Same.t sBC).tab _ tbB
    clear sBC g1 g2 hc1 hc2 nx ndx bt nc1 nc2 hpB hlB hwB hw2B hhvB hspB hTB hq1 tbB
    have brw : Bd ws.reverse := fun v hv => bw v (List.mem_reverse.mp hv)
    obtain ⟨wsj, ew0, ew1, jw, jbw⟩ : ∃ wsj : Nat → List Int, wsj 0 = ws ∧ (∀ j, j ≠ 0 → wsj j = ws.reverse) ∧ (∀ j, (wsj j).length = ps.length) ∧ ∀ j, Bd (wsj j) := by
      refine ⟨fun j => if j = 0 then ws else ws.reverse, if_pos rfl, fun j h => if_neg h, fun j => ?_, fun j => ?_⟩
      · dsimp only; split
        · assumption
        · rw [List.length_reverse]; assumption
      · dsimp only; split <;> assumption
    have gW : ∀ j, j < 2 → ∃ wa, (([w, w2].map V.ref) : List V)[j]? = some (V.ref wa) ∧ HC wa = some (.lst ((wsj j).map V.int)) := fun j hj => by
      match j, hj with
      | 0, _ => exact ⟨_, rfl, by rw [ew0]; exact hwC⟩
      | 1, _ => exact ⟨_, rfl, by rw [ew1 1 (by decide)]; exact hw2C⟩
      | n + 2, h => exact absurd h (by omega)
    clear hw2C brw ew1
    refine ⟨Nat.zero_le _, fun F nF => ?_⟩
    have sF := same_new (o := .lst []) nF
    have Ft : F ≠ t := hTC.ne_new nF
    refine ⟨_, rfl, hv, rfl, ⟨_, SqL.of (sF _ _ hhvC)⟩, for_list (K := K) (a := hv) (xs := [w, w2].map V.ref) (fun i σ H' => ∃ (y1 y2 y3 : Option V) (fqs : List Addr), σ = [some (.ref a0), some (.ref t), some (.ref p), some (.ref l), some (.ref w), some (.ref hv), some (.ref sp), some (.int ((f1 : Int) * (f2 : Int))), some (.int (1 + (tm : Int))), some (.ref q1), some (.int ls.sum), some (.ref x), some (.ref F), y1, y2, y3, none, none, none, none] ∧ H' F = some (.lst (fqs.map V.ref)) ∧ fqs.length = i ∧ Tape H' t u ∧ But t HC H' ∧ ∀ (j : Nat) (fq : Addr), fqs[j]? = some fq → ∃ (As : List Int) (bs : List (List Nat)) (wa sa ea ka : Addr), (([w, w2].map V.ref) : List V)[j]? = some (V.ref wa) ∧ Vt ps ls (wsj j) As bs wa sa ea ka fq H' ∧ sa ≠ F ∧ ea ≠ F ∧ ka ≠ F ∧ fq ≠ F) ⟨none, none, none, [], rfl, upd_same, rfl, hTC.same sF, But.of_same sF, fun j fq h => by simp at h⟩ (fun i σ H' _ ⟨_, _, _, _, _, _, _, _, k, _⟩ => SqL.of (k _ _ (hTC.neR hhvC) hhvC)) ?_ ?_⟩
    · rintro i v _ H6 hvv ⟨y1, y2, y3, fqs, rfl, hF6, lfq, hT6, k6, al⟩
      have hi2 : i < 2 := (List.getElem?_eq_some_iff.mp hvv).1
      obtain ⟨wa, wa1, wa2⟩ := gW i hi2
      rw [wa1] at hvv
      obtain rfl := Option.some.inj hvv
      have hp6 := k6 _ _ (hTC.ne hpC) hpC
      have hl6 := k6 _ _ (hTC.neI hlC) hlC
      have hwa6 := k6 _ _ (hTC.neI wa2) wa2
      refine ⟨_, rfl, _, rfl, _, rfl, p, l, wa, ps, ls, wsj i, rfl, SqL.of hp6, SqL.of hl6, SqL.of hwa6, ok, ll, jw i, n8, fun sa t0 e0 xh H7 s7 nsa ne0 SA hsa ht0 => ?_⟩
      refine ⟨_, rfl, _, rfl, p, sa, ps, ls, wsj i, rfl, SqL.of (s7 _ _ hp6), SA, n8, bl', jbw i, lf, fun ea bs H8 st fu s8 nea CE => ?_⟩
      have s68 := s7.trans s8
      have hF8 := s68 _ _ hF6
      have hT8 := hT6.same s68
      have b8 := (blk_ok par_ok st).1
      refine ⟨_, rfl, .inl ⟨rfl, _, SqL.of hF8⟩, _, rfl, _, rfl, _, rfl, _, rfl, t, u, ea, ps.length, Tr.par ps, ls, wsj i, bs, rfl, hT8, CE, st, by omega, n8, bl', fun ka As H9 bA la hT9 k9 nka hka => ?_⟩
      refine ⟨(by show 3 ≤ sizeLine; exact size_le (by omega)), fun fq nfq => ?_⟩
      have sA := same_new (o := .lst [V.ref sa, V.ref ea, V.ref ka]) nfq
      have kA := k9.trans (But.of_same (s := t) sA)
      have hTA := hT9.same sA
      have hFA := kA _ _ Ft hF8
      have V1 : Vt ps ls (wsj i) As bs wa sa ea ka fq (upd H9 fq (.lst [V.ref sa, V.ref ea, V.ref ka])) := ⟨kA _ _ (hT8.neI (s68 _ _ hwa6)) (s68 _ _ hwa6), (SA.same s8).but hT8 kA, CE.but hT8 kA, sA _ _ hka, upd_same, st, fu, la, bA, jw i, jbw i⟩
      have al2 : ∀ (j : Nat) (fq' : Addr), fqs[j]? = some fq' → ∃ (As : List Int) (bs : List (List Nat)) (wa' sa' ea' ka' : Addr), (([w, w2].map V.ref) : List V)[j]? = some (V.ref wa') ∧ Vt ps ls (wsj j) As bs wa' sa' ea' ka' fq' (upd H9 fq (.lst [V.ref sa, V.ref ea, V.ref ka])) ∧ sa' ≠ F ∧ ea' ≠ F ∧ ka' ≠ F ∧ fq' ≠ F := fun j fq' h => by
        obtain ⟨As', bs', wa', sa', ea', ka', a1, a2, a3⟩ := al j fq' h
        exact ⟨As', bs', wa', sa', ea', ka', a1, (a2.sameT (Same.t s68)).but hT8 kA, a3⟩
      have n2 : sa ≠ F := (ne_of_none hF6 nsa).symm
      have n3 : ea ≠ F := (ne_of_none (s7 _ _ hF6) nea).symm
      have n4 : ka ≠ F := (ne_of_none hF8 nka).symm
      have n5 : fq ≠ F := (ne_of_none (k9 _ _ Ft hF8) nfq).symm
      have e0F : e0 ≠ F := (ne_of_none hF6 ne0).symm
      have saT : sa ≠ t := by
        obtain ⟨rs, h, _⟩ := SA.same s8
        exact hT8.neR h
      have hsaA := kA _ _ saT (s8 _ _ hsa)
      have ht0A := kA _ _ (fun z => by
        obtain ⟨xs, i', b, s', c, t1, _⟩ := id hT8
        have := s8 _ _ ht0
        rw [z, t1] at this
        cases this) (s8 _ _ ht0)
      have k6A : But t HC (upd H9 fq (.lst [V.ref sa, V.ref ea, V.ref ka])) := k6.trans ((But.of_same s68).trans kA)
      generalize upd H9 fq (.lst [V.ref sa, V.ref ea, V.ref ka]) = HD at hTA hFA V1 al2 hsaA ht0A k6A
      clear kA sA al
      refine ⟨F, _, _, rfl, rfl, hFA, size_lt (by rw [List.length_map]; omega), ?_⟩
      have fF : HC F = none := nF
      have content : ∀ {q : Addr} {vs : List Int}, HD q = some (.lst (vs.map V.int)) → (vs ≠ [] ∨ fqs ≠ []) → q ≠ F := fun {q vs} h n z => by
        rw [z, hFA] at h
        have h := HO.lst.inj (Option.some.inj h)
        cases vs with
        | nil =>
          cases fqs with
          | nil => exact n.elim (fun y => y rfl) fun y => y rfl
          | cons x y => cases h
        | cons x y =>
          cases fqs with
          | nil => cases h
          | cons x' y' => simp at h
      have wne : ∀ j, wsj j ≠ [] := fun j z => by have := jw j; rw [z] at this; simp at this; omega
      obtain ⟨TT, eT, ne⟩ := Tn.clS_hd (Tr.par ps) ps.length
      have upF : ∀ (b : Addr) (o : HO), b ≠ F → HD b = some o → (upd HD F (.lst (fqs.map V.ref ++ [V.ref fq]))) b = some o := fun b o n h => by rw [upd_ne n]; exact h
      refine ⟨_, _, _, fqs ++ [fq], rfl, by rw [upd_same, List.map_append]; rfl, by rw [List.length_append, lfq]; rfl, hTA.upd (Ne.symm Ft) (fun z => by
        obtain ⟨xs, i', b, s', c, t1, t2, _⟩ := id hTC
        rw [z, nF] at t2
        cases t2), k6A.upd_at nF, fun j fq' h => ?_⟩
      rcases get_snoc h with h | ⟨rfl, rfl⟩
      · obtain ⟨As', bs', wa', sa', ea', ka', a1, a2, a3, a4, a5, a6⟩ := al2 j fq' h
        have fne : fqs ≠ [] := fun z => by rw [z] at h; simp at h
        exact ⟨As', bs', wa', sa', ea', ka', a1, a2.mut hFA (content a2.hw (.inl (wne j))) a3 a4 a5 a6 fun _ _ q S _ _ _ _ hq _ => content (vs := toI S) (by rw [← nvs_toI]; exact hq) (.inr fne), a3, a4, a5, a6⟩
      · rw [lfq] at *
        refine ⟨As, bs, wa, sa, ea, ka, wa1, V1.mut hFA (content V1.hw (.inl (wne i))) n2 n3 n4 n5 fun i' r' q S v' w' hrs hr' hq hS' => ?_, n2, n3, n4, n5⟩
        by_cases c : S = []
        · rw [eT] at hS'
          cases i' with
          | zero =>
            obtain ⟨rs, r1, r2⟩ := hrs
            rw [hsaA] at r1
            have r1 := HO.lst.inj (Option.some.inj r1)
            cases rs with
            | nil => cases r1
            | cons y ys =>
              injection r1 with r1 _
              have ey := V.ref.inj r1
              have er : y = r' := Option.some.inj r2
              rw [← er, ← ey, ht0A] at hr'
              have hr' := HO.tup.inj (Option.some.inj hr')
              injection hr' with _ z1
              injection z1 with _ z1
              injection z1 with z1 _
              rw [← V.ref.inj z1]
              exact e0F
          | succ i' =>
            rw [List.getElem?_cons_succ] at hS'
            exact absurd c (ne S (List.mem_of_getElem? hS'))
        · exact content (vs := toI S) (by rw [← nvs_toI]; exact hq) (.inl fun z => c (by
            unfold toI at z
            exact List.map_eq_nil_iff.mp z))
    rintro _ HL ⟨y1, y2, y3, fqs, rfl, hFL, lfq, hTL, kL, al⟩
    have lfq : fqs.length = 2 := lfq
    have hpL := kL _ _ (hTC.ne hpC) hpC
    have hlL := kL _ _ (hTC.neI hlC) hlC
    have hwL := kL _ _ (hTC.neI hwC) hwC
    have hhvL := kL _ _ (hTC.neR hhvC) hhvC
    have hspL := kL _ _ (hTC.neI hspC) hspC
    have TL := TA.but hTC kL
    have hq1L := kL _ _ (fun z => by
      obtain ⟨xs, i', b, s', c, t1, _⟩ := id hTC
      rw [z, t1] at hq1C
      cases hq1C) hq1C
    have tbL := (But.t kL fun P hP => hTC.noTab hP).tab _ tbC
    have gB : ∀ j, j < 2 → ∃ (fq : Addr) (As : List Int) (bs : List (List Nat)) (wa sa ea ka : Addr), (fqs.map V.ref)[j]? = some (V.ref fq) ∧ (([w, w2].map V.ref) : List V)[j]? = some (V.ref wa) ∧ Vt ps ls (wsj j) As bs wa sa ea ka fq HL := fun j hj => by
      have hr := List.getElem?_eq_getElem (show j < fqs.length by omega)
      obtain ⟨As, bs, wa, sa, ea, ka, a1, a2, _⟩ := al j _ hr
      exact ⟨_, As, bs, wa, sa, ea, ka, by rw [List.getElem?_map, hr]; rfl, a1, a2⟩
    clear al kL hTC hpC hlC hwC hhvC hspC TA hq1C tbC gW
    refine ⟨_, rfl, by decide, by decide, for_range (fun i σ H' => ∃ e15 e16 e17 e18 e19 : Option V, σ = [some (.ref a0), some (.ref t), some (.ref p), some (.ref l), some (.ref w), some (.ref hv), some (.ref sp), some (.int ((f1 : Int) * (f2 : Int))), some (.int (1 + (tm : Int))), some (.ref q1), some (.int ls.sum), some (.ref x), some (.ref F), y1, y2, e15, e16, e17, e18, e19] ∧ SameT HL H') ⟨_, _, _, _, _, rfl, SameT.refl _⟩ ?_ ?_⟩
    · rintro i _ H7 hi ⟨e15, e16, e17, e18, e19, rfl, s7⟩
      have hi2 : i < 2 := hi
      refine ⟨_, rfl, by decide, by decide, for_range (fun j σ H' => ∃ e15 e17 e18 : Option V, σ = [some (.ref a0), some (.ref t), some (.ref p), some (.ref l), some (.ref w), some (.ref hv), some (.ref sp), some (.int ((f1 : Int) * (f2 : Int))), some (.int (1 + (tm : Int))), some (.ref q1), some (.int ls.sum), some (.ref x), some (.ref F), y1, y2, e15, some (.int ((0 : Int) + (i : Int))), e17, e18, e19] ∧ SameT HL H') ⟨_, _, _, rfl, s7⟩ ?_ ?_⟩
      · rintro j _ H8 hj ⟨e15, e17, e18, rfl, s8⟩
        have hj2 : j < 2 := hj
        obtain ⟨fq, As, bs, wa, sa, ea, ka, f1', w1', Vj⟩ := gB j hj2
        have e0 : (0 : Int) + (j : Int) = (j : Int) := by omega
        rw [e0]
        have b8 := (blk_ok par_ok Vj.st).1
        have b1 : 1 ≤ bs.length := by
          have := Vj.fu 1 (Nat.le_refl _) p1
          cases hc : bs with
          | nil => rw [hc] at this; cases this
          | cons x y => exact Nat.succ_pos _
        have V8 := Vj.sameT s8
        refine ⟨_, rfl, _, rfl, hv, _, _, _, rfl, rfl, SqL.of (s8.lst hhvL), at_of (j := j) rfl w1', wa, _, rfl, .inl (SqL.of V8.hw), fun c1 nc1 => ?_⟩
        have t1 := same_new (o := .lst ((wsj j).map V.int)) nc1
        refine ⟨_, rfl, _, rfl, hv, _, _, _, rfl, rfl, SqL.of (t1 _ _ (s8.lst hhvL)), at_of (j := j) rfl w1', wa, _, rfl, .inl ⟨SqL.of (t1 _ _ V8.hw), fun c2 nc2 => ?_⟩⟩
        have t2 := same_new (o := .tup ((wsj j).map V.int)) nc2
        refine ⟨(by show 2 ≤ sizeLine; exact size_le (by omega)), fun o no => ?_⟩
        have t3 := same_new (o := .lst [V.ref c1, V.ref c2]) no
        obtain ⟨pp, gp, hE⟩ : ∃ pp, [V.ref c1, V.ref c2][i]? = some (V.ref pp) ∧ SqE K (upd (upd (upd H8 c1 (.lst ((wsj j).map V.int))) c2 (.tup ((wsj j).map V.int))) o (.lst [V.ref c1, V.ref c2])) pp ((wsj j).map V.int) := by
          match i, hi2 with
          | 0, _ => exact ⟨c1, rfl, .inl (SqL.of (t3 _ _ (t2 _ _ upd_same)))⟩
          | 1, _ => exact ⟨c2, rfl, .inr (SqT.of (t3 _ _ upd_same))⟩
          | n + 2, h => exact absurd h (by omega)
        have s9 := s8.trans (Same.t (t1.trans (t2.trans t3)))
        have ho : (upd (upd (upd H8 c1 (.lst ((wsj j).map V.int))) c2 (.tup ((wsj j).map V.int))) o (.lst [V.ref c1, V.ref c2])) o = some (.lst [V.ref c1, V.ref c2]) := upd_same
        generalize upd (upd (upd H8 c1 (.lst ((wsj j).map V.int))) c2 (.tup ((wsj j).map V.int))) o (.lst [V.ref c1, V.ref c2]) = H9 at hE s9 ho
        have V9 := Vj.sameT s9
        refine ⟨_, rfl, o, _, _, _, rfl, rfl, SqL.of ho, at_of (j := i) (by omega) gp, ?_⟩
        clear t1 t2 t3 nc1 nc2 no ho V8 s8 gp
        refine ⟨_, rfl, _, rfl, F, _, _, _, rfl, rfl, SqL.of (s9.lst hFL), at_of (j := j) rfl f1', fq, _, _, _, rfl, rfl, SqL.of V9.hf, at_of (j := 1) rfl rfl, ?_⟩
        refine ⟨_, rfl, _, rfl, _, rfl, hv, _, _, _, rfl, rfl, SqL.of (s9.lst hhvL), at_of (j := j) rfl w1', _, rfl, x, wa, ea, ps, ls, wsj j, bs, rfl, TL.sameT s9, V9.hw, jw j, n8, jbw j, V9.st, V9.fu, V9.CE, fun HA sA => ?_⟩
        refine ⟨_, rfl, ?_⟩
        refine iteF ?_
        have s10 := s9.trans (Same.t sA)
        have V10 := Vj.sameT s10
        have hE10 := SqE_same sA hE
        refine ⟨_, rfl, _, rfl, _, rfl, hv, _, _, _, rfl, rfl, SqL.of (s10.lst hhvL), at_of (j := j) rfl w1', _, rfl, _, rfl, _, rfl, F, _, _, _, rfl, rfl, SqL.of (s10.lst hFL), at_of (j := j) rfl f1', fq, _, _, _, rfl, rfl, SqL.of V10.hf, at_of (j := 0) rfl rfl, _, rfl, _, rfl, _, rfl, F, _, _, _, rfl, rfl, SqL.of (s10.lst hFL), at_of (j := j) rfl f1', fq, _, _, _, rfl, rfl, SqL.of V10.hf, at_of (j := 2) rfl rfl, ka, _, rfl, _, rfl, _, _, rfl, rfl, .inl ⟨by omega, by omega⟩, _, _, rfl, rfl, _, rfl, (by show (0 : Int) < 1 + 2 * ((0 : Int) + (i : Int)); omega), SqL.of V10.hk, fun kp ys nkp lys mys => ?_⟩
        obtain ⟨Bs, rfl, mB⟩ := ints_pick mys
        have t4 := same_new (o := .lst (Bs.map V.int)) nkp
        have s11 := s10.trans (Same.t t4)
        have V11 := Vj.sameT s11
        rw [List.length_map, List.length_map] at lys
        have la := Vj.la
        refine ⟨x, wa, pp, sa, ea, kp, ps, ls, wsj j, Bs, bs, rfl, TL.sameT s11, V11.hw, SqE_same t4 hE10, V11.SA, jw j, n8, jbw j, V11.st, V11.fu, V11.CE, SqL.of upd_same, by omega, fun L hL => V11.bA L (mB L hL), fun HB' sB => ?_⟩
        refine ⟨_, rfl, ?_⟩
        refine iteF ?_
        have s12 := s11.trans (Same.t sB)
        have V12 := Vj.sameT s12
        obtain ⟨xs, e1, e2, e3⟩ := CrnAt.at V12.CE
        obtain ⟨q0, g1, g2⟩ := e3 1 b1
        refine ⟨_, rfl, _, rfl, _, rfl, _, rfl, _, rfl, hv, _, _, _, rfl, rfl, SqL.of (s12.lst hhvL), at_of (j := j) rfl w1', _, rfl, ea, _, _, _, rfl, rfl, SqL.of e1, at_of (j := 1) rfl g1, _, rfl, _, rfl, x, p, l, wa, q0, q1, ps, ls, wsj j, bs, 1 + (tm : Int), (ra : Int), 1 + (rb : Int), rfl, TL.sameT s12, s12.lst hpL, s12.lst hlL, V12.hw, s12.tab _ tbL, jw j, n8, jbw j, V12.st, V12.fu, g2, s12.keep _ _ (fun _ z => by cases z) hq1L, by omega, by omega, by omega, by omega, by omega, by omega, fun HE' sE => ?_⟩
        refine ⟨_, rfl, ?_⟩
        refine iteF ?_
        exact ⟨_, _, _, rfl, s12.trans sE⟩
      rintro _ H8 ⟨e15, e17, e18, rfl, s8⟩
      have whB : 0 ≤ ls.sum ∧ ls.sum ≤ 2 ^ 44 := by
        rw [sum_all]
        have := fs_bd bl' (fun _ => true) ls.length
        omega
      refine ⟨_, _, rfl, rfl, _, rfl, _, _, rfl, rfl, _, rfl, _, _, rfl, rfl, _, rfl, _, _, rfl, rfl, _, rfl, (by show 4 ≤ sizeLine; exact size_le (by omega)), fun o no => ?_⟩
      have hso : ∀ v, v ∈ [V.int (0 - 1 - (f1 : Int) * (f2 : Int)), V.int (ls.sum + 1 + (f1 : Int) * (f2 : Int)), V.int ls.sum, V.int 0] → ∃ L, v = V.int L ∧ Small L := fun v hv' => by
        simp only [List.mem_cons, List.not_mem_nil, or_false] at hv'
        unfold Small
        rcases hv' with rfl | rfl | rfl | rfl
        · exact ⟨_, rfl, by omega⟩
        · exact ⟨_, rfl, by omega⟩
        · exact ⟨_, rfl, by omega⟩
        · exact ⟨_, rfl, by omega⟩
      have s9 := s8.trans (Same.t (same_new (o := .lst [V.int (0 - 1 - (f1 : Int) * (f2 : Int)), V.int (ls.sum + 1 + (f1 : Int) * (f2 : Int)), V.int ls.sum, V.int 0]) no))
      have ho : (upd H8 o (.lst [V.int (0 - 1 - (f1 : Int) * (f2 : Int)), V.int (ls.sum + 1 + (f1 : Int) * (f2 : Int)), V.int ls.sum, V.int 0])) o = some (.lst [V.int (0 - 1 - (f1 : Int) * (f2 : Int)), V.int (ls.sum + 1 + (f1 : Int) * (f2 : Int)), V.int ls.sum, V.int 0]) := upd_same
      generalize [V.int (0 - 1 - (f1 : Int) * (f2 : Int)), V.int (ls.sum + 1 + (f1 : Int) * (f2 : Int)), V.int ls.sum, V.int 0] = zs at hso ho s9
      refine ⟨o, rfl, ⟨_, SqL.of ho⟩, for_list (K := K) (a := o) (xs := zs) (fun k σ H' => ∃ e19 : Option V, σ = [some (.ref a0), some (.ref t), some (.ref p), some (.ref l), some (.ref w), some (.ref hv), some (.ref sp), some (.int ((f1 : Int) * (f2 : Int))), some (.int (1 + (tm : Int))), some (.ref q1), some (.int ls.sum), some (.ref x), some (.ref F), y1, y2, e15, some (.int ((0 : Int) + (i : Int))), e17, e18, e19] ∧ SameT HL H' ∧ H' o = some (.lst zs)) ⟨_, rfl, s9, ho⟩ (fun k σ H' _ ⟨_, _, _, h⟩ => SqL.of h) ?_ ?_⟩
      · rintro k v _ HA hv' ⟨z19, rfl, sA, hoA⟩
        obtain ⟨L, rfl, sL⟩ := hso v (List.mem_of_getElem? hv')
        have bw' : ∀ v, v ∈ ws → v < 2 ^ 40 := fun v h => (bw v h).2
        have second : ∀ HB' : Hp, SameT HL HB' → HB' o = some (.lst zs) → True := fun _ _ _ => trivial
        refine ⟨_, rfl, rfl, _, rfl, ?_⟩
        refine boolIte (fun h1 => ?_) (fun h1 => ?_)
        · refine ⟨_, rfl, _, rfl, _, rfl, _, rfl, x, w, l, L, ps, ls, ws, rfl, TL.sameT sA, sA.lst hwL, by omega, bw', sA.lst hlL, n8, sL, fun HB' sB => ?_⟩
          refine ⟨_, rfl, ?_⟩
          refine iteF ?_
          have s2 := sA.trans (Same.t sB)
          refine ⟨_, rfl, rfl, _, rfl, ?_⟩
          refine ifT h1 ?_
          refine ⟨_, rfl, _, rfl, _, rfl, _, rfl, x, sp, l, L, ps, ls, ns, rfl, TL.sameT s2, s2.lst hspL, by omega, bns, s2.lst hlL, n8, sL, fun HC' sC => ?_⟩
          refine ⟨_, rfl, ?_⟩
          refine iteF ?_
          exact ⟨_, rfl, s2.trans (Same.t sC), sC _ _ (sB _ _ hoA)⟩
        · refine ⟨_, rfl, rfl, _, rfl, ?_⟩
          refine ifF h1 ?_
          exact ⟨_, rfl, sA, hoA⟩
      rintro _ HA ⟨z19, rfl, sA, hoA⟩
      exact ⟨_, _, _, _, _, rfl, sA⟩
    rintro _ H7 _
    exact q H7
end
theorem all_mk {P : Program} {K : PySem.W.Frag} {h : Heap} {mg : Str → Option Value} {fa : Addr} (X : K.In h) (G : h.Ns mainGlobals mg) (hfa : mg "law" = some (.ref fa))
    {C_FindsError : Addr}
    {C_BadShape f_BadShape cc_BadShape cda_BadShape N_BadShape : Addr} {nm_BadShape q_BadShape file_BadShape : Str} {bs_BadShape sub_BadShape : List Value} {sn_BadShape : List Str} {ab_BadShape : Bool} {col_BadShape : Option Bool} {dd_BadShape od_BadShape an_BadShape cld_BadShape cdd_BadShape : Option Addr} {m0_BadShape m1_BadShape m2_BadShape m3_BadShape m5_BadShape : Option Value} {oc_BadShape kV_BadShape dc_BadShape pm_BadShape ct_BadShape cl_BadShape ccl_BadShape : Value} {sl_BadShape csl_BadShape ccs_BadShape : Array (Option Value)} {vs_BadShape : Array Value} {tf_BadShape : Tok}
    {C_BadLength f_BadLength cc_BadLength cda_BadLength N_BadLength : Addr} {nm_BadLength q_BadLength file_BadLength : Str} {bs_BadLength sub_BadLength : List Value} {sn_BadLength : List Str} {ab_BadLength : Bool} {col_BadLength : Option Bool} {dd_BadLength od_BadLength an_BadLength cld_BadLength cdd_BadLength : Option Addr} {m0_BadLength m1_BadLength m2_BadLength m3_BadLength m5_BadLength : Option Value} {oc_BadLength kV_BadLength dc_BadLength pm_BadLength ct_BadLength cl_BadLength ccl_BadLength : Value} {sl_BadLength csl_BadLength ccs_BadLength : Array (Option Value)} {vs_BadLength : Array Value} {tf_BadLength : Tok}
    {C_BadWeight f_BadWeight cc_BadWeight cda_BadWeight N_BadWeight : Addr} {nm_BadWeight q_BadWeight file_BadWeight : Str} {bs_BadWeight sub_BadWeight : List Value} {sn_BadWeight : List Str} {ab_BadWeight : Bool} {col_BadWeight : Option Bool} {dd_BadWeight od_BadWeight an_BadWeight cld_BadWeight cdd_BadWeight : Option Addr} {m0_BadWeight m1_BadWeight m2_BadWeight m3_BadWeight m5_BadWeight : Option Value} {oc_BadWeight kV_BadWeight dc_BadWeight pm_BadWeight ct_BadWeight cl_BadWeight ccl_BadWeight : Value} {sl_BadWeight csl_BadWeight ccs_BadWeight : Array (Option Value)} {vs_BadWeight : Array Value} {tf_BadWeight : Tok}
    {C_BadCount f_BadCount cc_BadCount cda_BadCount N_BadCount : Addr} {nm_BadCount q_BadCount file_BadCount : Str} {bs_BadCount sub_BadCount : List Value} {sn_BadCount : List Str} {ab_BadCount : Bool} {col_BadCount : Option Bool} {dd_BadCount od_BadCount an_BadCount cld_BadCount cdd_BadCount : Option Addr} {m0_BadCount m1_BadCount m2_BadCount m3_BadCount m5_BadCount : Option Value} {oc_BadCount kV_BadCount dc_BadCount pm_BadCount ct_BadCount cl_BadCount ccl_BadCount : Value} {sl_BadCount csl_BadCount ccs_BadCount : Array (Option Value)} {vs_BadCount : Array Value} {tf_BadCount : Tok}
    {C_BadPosition f_BadPosition cc_BadPosition cda_BadPosition N_BadPosition : Addr} {nm_BadPosition q_BadPosition file_BadPosition : Str} {bs_BadPosition sub_BadPosition : List Value} {sn_BadPosition : List Str} {ab_BadPosition : Bool} {col_BadPosition : Option Bool} {dd_BadPosition od_BadPosition an_BadPosition cld_BadPosition cdd_BadPosition : Option Addr} {m0_BadPosition m1_BadPosition m2_BadPosition m3_BadPosition m5_BadPosition : Option Value} {oc_BadPosition kV_BadPosition dc_BadPosition pm_BadPosition ct_BadPosition cl_BadPosition ccl_BadPosition : Value} {sl_BadPosition csl_BadPosition ccs_BadPosition : Array (Option Value)} {vs_BadPosition : Array Value} {tf_BadPosition : Tok}
    {C_BadSide f_BadSide cc_BadSide cda_BadSide N_BadSide : Addr} {nm_BadSide q_BadSide file_BadSide : Str} {bs_BadSide sub_BadSide : List Value} {sn_BadSide : List Str} {ab_BadSide : Bool} {col_BadSide : Option Bool} {dd_BadSide od_BadSide an_BadSide cld_BadSide cdd_BadSide : Option Addr} {m0_BadSide m1_BadSide m2_BadSide m3_BadSide m5_BadSide : Option Value} {oc_BadSide kV_BadSide dc_BadSide pm_BadSide ct_BadSide cl_BadSide ccl_BadSide : Value} {sl_BadSide csl_BadSide ccs_BadSide : Array (Option Value)} {vs_BadSide : Array Value} {tf_BadSide : Tok}
    {C_Shape : Addr}
    {C_Tunnels : Addr}
    {f_side_masks : Addr} {od_side_masks an_side_masks : Option Addr} {sl_side_masks : Array (Option Value)} {oc_side_masks kV_side_masks dc_side_masks pm_side_masks cd_side_masks ct_side_masks : Value}
    {f_Shape_init : Addr} {od_Shape_init an_Shape_init : Option Addr} {sl_Shape_init : Array (Option Value)} {oc_Shape_init kV_Shape_init dc_Shape_init pm_Shape_init cd_Shape_init ct_Shape_init : Value}
    {f_Shape_has : Addr} {od_Shape_has an_Shape_has : Option Addr} {sl_Shape_has : Array (Option Value)} {oc_Shape_has kV_Shape_has dc_Shape_has pm_Shape_has cd_Shape_has ct_Shape_has : Value}
    {f_Shape_parting : Addr} {od_Shape_parting an_Shape_parting : Option Addr} {sl_Shape_parting : Array (Option Value)} {oc_Shape_parting kV_Shape_parting dc_Shape_parting pm_Shape_parting cd_Shape_parting ct_Shape_parting : Value}
    {f_check_position : Addr} {od_check_position an_check_position : Option Addr} {sl_check_position : Array (Option Value)} {oc_check_position kV_check_position dc_check_position pm_check_position cd_check_position ct_check_position : Value}
    {f_check_side : Addr} {od_check_side an_check_side : Option Addr} {sl_check_side : Array (Option Value)} {oc_check_side kV_check_side dc_check_side pm_check_side cd_check_side ct_check_side : Value}
    {f_is_number_of_side : Addr} {od_is_number_of_side an_is_number_of_side : Option Addr} {sl_is_number_of_side : Array (Option Value)} {oc_is_number_of_side kV_is_number_of_side dc_is_number_of_side pm_is_number_of_side cd_is_number_of_side ct_is_number_of_side : Value}
    {f_Tunnels_init : Addr} {od_Tunnels_init an_Tunnels_init : Option Addr} {sl_Tunnels_init : Array (Option Value)} {oc_Tunnels_init kV_Tunnels_init dc_Tunnels_init pm_Tunnels_init cd_Tunnels_init ct_Tunnels_init : Value}
    {f_Tunnels_between : Addr} {od_Tunnels_between an_Tunnels_between : Option Addr} {sl_Tunnels_between : Array (Option Value)} {oc_Tunnels_between kV_Tunnels_between dc_Tunnels_between pm_Tunnels_between cd_Tunnels_between ct_Tunnels_between : Value}
    {f_Tunnels_total : Addr} {od_Tunnels_total an_Tunnels_total : Option Addr} {sl_Tunnels_total : Array (Option Value)} {oc_Tunnels_total kV_Tunnels_total dc_Tunnels_total pm_Tunnels_total cd_Tunnels_total ct_Tunnels_total : Value}
    {f_Tunnels_parent : Addr} {od_Tunnels_parent an_Tunnels_parent : Option Addr} {sl_Tunnels_parent : Array (Option Value)} {oc_Tunnels_parent kV_Tunnels_parent dc_Tunnels_parent pm_Tunnels_parent cd_Tunnels_parent ct_Tunnels_parent : Value}
    {f_Tunnels_branching : Addr} {od_Tunnels_branching an_Tunnels_branching : Option Addr} {sl_Tunnels_branching : Array (Option Value)} {oc_Tunnels_branching kV_Tunnels_branching dc_Tunnels_branching pm_Tunnels_branching cd_Tunnels_branching ct_Tunnels_branching : Value}
    {f_Tunnels_check_tunnels : Addr} {od_Tunnels_check_tunnels an_Tunnels_check_tunnels : Option Addr} {sl_Tunnels_check_tunnels : Array (Option Value)} {oc_Tunnels_check_tunnels kV_Tunnels_check_tunnels dc_Tunnels_check_tunnels pm_Tunnels_check_tunnels cd_Tunnels_check_tunnels ct_Tunnels_check_tunnels : Value}
    {f_fault_in : Addr} {od_fault_in an_fault_in : Option Addr} {sl_fault_in : Array (Option Value)} {oc_fault_in kV_fault_in dc_fault_in pm_fault_in cd_fault_in ct_fault_in : Value}
    {f_check_weights : Addr} {od_check_weights an_check_weights : Option Addr} {sl_check_weights : Array (Option Value)} {oc_check_weights kV_check_weights dc_check_weights pm_check_weights cd_check_weights ct_check_weights : Value}
    {f_best_addition : Addr} {od_best_addition an_best_addition : Option Addr} {sl_best_addition : Array (Option Value)} {oc_best_addition kV_best_addition dc_best_addition pm_best_addition cd_best_addition ct_best_addition : Value}
    {f_gains : Addr} {od_gains an_gains : Option Addr} {sl_gains : Array (Option Value)} {oc_gains kV_gains dc_gains pm_gains cd_gains ct_gains : Value}
    {f_worthwhile : Addr} {od_worthwhile an_worthwhile : Option Addr} {sl_worthwhile : Array (Option Value)} {oc_worthwhile kV_worthwhile dc_worthwhile pm_worthwhile cd_worthwhile ct_worthwhile : Value}
    {f_is_border : Addr} {od_is_border an_is_border : Option Addr} {sl_is_border : Array (Option Value)} {oc_is_border kV_is_border dc_is_border pm_is_border cd_is_border ct_is_border : Value}
    {f_prices : Addr} {od_prices an_prices : Option Addr} {sl_prices : Array (Option Value)} {oc_prices kV_prices dc_prices pm_prices ct_prices : Value} {cd_prices P_prices : Addr} {te_prices : Value} {td_prices : Option Addr} {tv_prices : Array Value} {ts_prices : Array (Option Value)}
    {f_check_terms : Addr} {od_check_terms an_check_terms : Option Addr} {sl_check_terms : Array (Option Value)} {oc_check_terms kV_check_terms dc_check_terms pm_check_terms cd_check_terms ct_check_terms : Value}
    {f_blocks : Addr} {od_blocks an_blocks : Option Addr} {sl_blocks : Array (Option Value)} {oc_blocks kV_blocks dc_blocks pm_blocks cd_blocks ct_blocks : Value}
    {f_corners : Addr} {od_corners an_corners : Option Addr} {sl_corners : Array (Option Value)} {oc_corners kV_corners dc_corners pm_corners cd_corners ct_corners : Value}
    {f_height : Addr} {od_height an_height : Option Addr} {sl_height : Array (Option Value)} {oc_height kV_height dc_height pm_height cd_height ct_height : Value}
    {f_l_tape : Addr} {od_l_tape an_l_tape : Option Addr} {sl_l_tape : Array (Option Value)} {oc_l_tape kV_l_tape dc_l_tape pm_l_tape cd_l_tape ct_l_tape : Value}
    {f_l_next : Addr} {od_l_next an_l_next : Option Addr} {sl_l_next : Array (Option Value)} {oc_l_next kV_l_next dc_l_next pm_l_next cd_l_next ct_l_next : Value}
    {f_l_parents : Addr} {od_l_parents an_l_parents : Option Addr} {sl_l_parents : Array (Option Value)} {oc_l_parents kV_l_parents dc_l_parents pm_l_parents cd_l_parents ct_l_parents : Value}
    {f_l_is_number : Addr} {od_l_is_number an_l_is_number : Option Addr} {sl_l_is_number : Array (Option Value)} {oc_l_is_number kV_l_is_number dc_l_is_number pm_l_is_number cd_l_is_number ct_l_is_number : Value}
    {f_l_same : Addr} {od_l_same an_l_same : Option Addr} {sl_l_same : Array (Option Value)} {oc_l_same kV_l_same dc_l_same pm_l_same cd_l_same ct_l_same : Value}
    {f_l_wrong : Addr} {od_l_wrong an_l_wrong : Option Addr} {sl_l_wrong : Array (Option Value)} {oc_l_wrong kV_l_wrong dc_l_wrong pm_l_wrong cd_l_wrong ct_l_wrong : Value}
    {f_l_spoilt : Addr} {od_l_spoilt an_l_spoilt : Option Addr} {sl_l_spoilt : Array (Option Value)} {oc_l_spoilt kV_l_spoilt dc_l_spoilt pm_l_spoilt cd_l_spoilt ct_l_spoilt : Value}
    {f_l_dug : Addr} {od_l_dug an_l_dug : Option Addr} {sl_l_dug : Array (Option Value)} {oc_l_dug kV_l_dug dc_l_dug pm_l_dug cd_l_dug ct_l_dug : Value}
    {f_l_closed : Addr} {od_l_closed an_l_closed : Option Addr} {sl_l_closed : Array (Option Value)} {oc_l_closed kV_l_closed dc_l_closed pm_l_closed cd_l_closed ct_l_closed : Value}
    {f_l_rule : Addr} {od_l_rule an_l_rule : Option Addr} {sl_l_rule : Array (Option Value)} {oc_l_rule kV_l_rule dc_l_rule pm_l_rule cd_l_rule ct_l_rule : Value}
    {f_l_steeper : Addr} {od_l_steeper an_l_steeper : Option Addr} {sl_l_steeper : Array (Option Value)} {oc_l_steeper kV_l_steeper dc_l_steeper pm_l_steeper cd_l_steeper ct_l_steeper : Value}
    {f_l_ends : Addr} {od_l_ends an_l_ends : Option Addr} {sl_l_ends : Array (Option Value)} {oc_l_ends kV_l_ends dc_l_ends pm_l_ends cd_l_ends ct_l_ends : Value}
    {f_l_line : Addr} {od_l_line an_l_line : Option Addr} {sl_l_line : Array (Option Value)} {oc_l_line kV_l_line dc_l_line pm_l_line cd_l_line ct_l_line : Value}
    {f_l_fraction : Addr} {od_l_fraction an_l_fraction : Option Addr} {sl_l_fraction : Array (Option Value)} {oc_l_fraction kV_l_fraction dc_l_fraction pm_l_fraction cd_l_fraction ct_l_fraction : Value}
    {f_l_heights : Addr} {od_l_heights an_l_heights : Option Addr} {sl_l_heights : Array (Option Value)} {oc_l_heights kV_l_heights dc_l_heights pm_l_heights cd_l_heights ct_l_heights : Value}
    {f_l_cornered : Addr} {od_l_cornered an_l_cornered : Option Addr} {sl_l_cornered : Array (Option Value)} {oc_l_cornered kV_l_cornered dc_l_cornered pm_l_cornered cd_l_cornered ct_l_cornered : Value}
    {f_l_priced : Addr} {od_l_priced an_l_priced : Option Addr} {sl_l_priced : Array (Option Value)} {oc_l_priced kV_l_priced dc_l_priced pm_l_priced cd_l_priced ct_l_priced : Value}
    {f_l_asked : Addr} {od_l_asked an_l_asked : Option Addr} {sl_l_asked : Array (Option Value)} {oc_l_asked kV_l_asked dc_l_asked pm_l_asked cd_l_asked ct_l_asked : Value}
    {f_l_refused : Addr} {od_l_refused an_l_refused : Option Addr} {sl_l_refused : Array (Option Value)} {oc_l_refused kV_l_refused dc_l_refused pm_l_refused cd_l_refused ct_l_refused : Value}
    {f_law : Addr} {od_law an_law : Option Addr} {sl_law : Array (Option Value)} {oc_law kV_law dc_law pm_law cd_law ct_law : Value}
    (z_abs : PySem.W.nsIn K mainGlobals "abs" = some none)
    (z_all : PySem.W.nsIn K mainGlobals "all" = some none)
    (z_any : PySem.W.nsIn K mainGlobals "any" = some none)
    (z_bool : PySem.W.nsIn K mainGlobals "bool" = some none)
    (z_enumerate : PySem.W.nsIn K mainGlobals "enumerate" = some none)
    (z_int : PySem.W.nsIn K mainGlobals "int" = some none)
    (z_isinstance : PySem.W.nsIn K mainGlobals "isinstance" = some none)
    (z_len : PySem.W.nsIn K mainGlobals "len" = some none)
    (z_list : PySem.W.nsIn K mainGlobals "list" = some none)
    (z_max : PySem.W.nsIn K mainGlobals "max" = some none)
    (z_range : PySem.W.nsIn K mainGlobals "range" = some none)
    (z_set : PySem.W.nsIn K mainGlobals "set" = some none)
    (z_sorted : PySem.W.nsIn K mainGlobals "sorted" = some none)
    (z_sum : PySem.W.nsIn K mainGlobals "sum" = some none)
    (z_tuple : PySem.W.nsIn K mainGlobals "tuple" = some none)
    (im_gcd : PySem.W.nsIn K mainGlobals "gcd" = some (some (.builtin "math.gcd")))
    (z_super : PySem.W.nsIn K mainGlobals "super" = some none)
    (top_ : (P.main.scope.names.lookup ("super" : Str)).isSome = false)
    (thp : PySem.W.nsIn K cStatics "thirdparty.any" = some none)
    (hn_ : PySem.W.specialIn K (.builtin "object.__class__") "__get__" = some (some (.builtin "getset_descriptor.__get__")))
    (ht_ : PySem.W.takesIn K (.builtin "object.__class__") = some true)
    (a_FindsError : PySem.W.nsIn K mainGlobals "FindsError" = some (some (.ref C_FindsError)))
    (a_BadShape : PySem.W.nsIn K mainGlobals "BadShape" = some (some (.ref C_BadShape)))
    (x_BadShape : K.lookup C_BadShape = some (excClassObj nm_BadShape q_BadShape C_BadShape N_BadShape bs_BadShape [.ref C_FindsError, .type "ValueError", .type "Exception", .type "BaseException", .type "object"] true sn_BadShape sub_BadShape ab_BadShape col_BadShape dd_BadShape m0_BadShape m1_BadShape m2_BadShape m3_BadShape m5_BadShape "ValueError.__new__"))
    (sa_BadShape : PySem.W.findIn K (.ref C_BadShape) "__setattr__" = some (some (.builtin "object.__setattr__")))
    (eC_BadShape : PySem.W.subIn K (.ref C_BadShape) (.type "BaseException") = some true)
    (sV_BadShape : PySem.W.subIn K (.ref C_BadShape) (.type "ValueError") = some true)
    (tC_BadShape : PySem.W.typeIn K (.ref C_BadShape) = some (.type "type"))
    (kC_BadShape : PySem.W.keepIn K (.ref C_BadShape) = true)
    (i_BadShape : PySem.W.findIn K (.ref C_BadShape) "__init__" = some (some (.ref f_BadShape)))
    (tI_BadShape : PySem.W.typeIn K (.ref f_BadShape) = some (.type "function"))
    (l_BadShape : K.lookup f_BadShape = some ⟨oc_BadShape, od_BadShape, .func (PySem.W.ksFn "__init__" "BadShape.__init__" (defArgs s_BadShape_init) (defBody s_BadShape_init) (defScope s_BadShape_init) .none kV_BadShape dc_BadShape pm_BadShape an_BadShape (.ref cda_BadShape) ct_BadShape cc_BadShape), sl_BadShape⟩)
    (c_BadShape : PySem.W.codeIn K (.ref cda_BadShape) "BadShape.__init__" = true)
    (ce_BadShape : K.lookup cc_BadShape = some ⟨cl_BadShape, cld_BadShape, .cell (some (.ref C_BadShape)), csl_BadShape⟩)
    (co_BadShape : K.lookup cda_BadShape = some ⟨ccl_BadShape, cdd_BadShape, .fields vs_BadShape, ccs_BadShape⟩)
    (v2_BadShape : vs_BadShape[2]? = some (.str file_BadShape tf_BadShape))
    (fi_BadShape : ((P.main.file : Str) == file_BadShape) = true)
    (su_BadShape : PySem.W.mroIn K C_BadShape (.ref C_BadShape) = some true)
    (mo_BadShape : PySem.W.mroIn K C_BadShape (.type "object") = some true)
    (ks_BadShape : PySem.W.ks_superIn K C_BadShape C_BadShape "__init__" = some (some (.builtin "ValueError.__init__")))
    (ga_BadShape : PySem.W.findIn K (.ref C_BadShape) "__getattribute__" = some (some (.builtin "BaseException.__getattribute__")))
    (gg_BadShape : PySem.W.findIn K (.ref C_BadShape) "__getattr__" = some none)
    (hd_BadShape : PySem.W.hasDictIn K C_BadShape = true)
    (xn_BadShape : PySem.W.findIn K (.ref C_BadShape) "place" = some none)
    (hc_BadShape : PySem.W.findIn K (.ref C_BadShape) "__class__" = some (some (.builtin "object.__class__")))
    (a_BadLength : PySem.W.nsIn K mainGlobals "BadLength" = some (some (.ref C_BadLength)))
    (x_BadLength : K.lookup C_BadLength = some (excClassObj nm_BadLength q_BadLength C_BadLength N_BadLength bs_BadLength [.ref C_FindsError, .type "ValueError", .type "Exception", .type "BaseException", .type "object"] true sn_BadLength sub_BadLength ab_BadLength col_BadLength dd_BadLength m0_BadLength m1_BadLength m2_BadLength m3_BadLength m5_BadLength "ValueError.__new__"))
    (sa_BadLength : PySem.W.findIn K (.ref C_BadLength) "__setattr__" = some (some (.builtin "object.__setattr__")))
    (eC_BadLength : PySem.W.subIn K (.ref C_BadLength) (.type "BaseException") = some true)
    (sV_BadLength : PySem.W.subIn K (.ref C_BadLength) (.type "ValueError") = some true)
    (tC_BadLength : PySem.W.typeIn K (.ref C_BadLength) = some (.type "type"))
    (kC_BadLength : PySem.W.keepIn K (.ref C_BadLength) = true)
    (i_BadLength : PySem.W.findIn K (.ref C_BadLength) "__init__" = some (some (.ref f_BadLength)))
    (tI_BadLength : PySem.W.typeIn K (.ref f_BadLength) = some (.type "function"))
    (l_BadLength : K.lookup f_BadLength = some ⟨oc_BadLength, od_BadLength, .func (PySem.W.ksFn "__init__" "BadLength.__init__" (defArgs s_BadLength_init) (defBody s_BadLength_init) (defScope s_BadLength_init) .none kV_BadLength dc_BadLength pm_BadLength an_BadLength (.ref cda_BadLength) ct_BadLength cc_BadLength), sl_BadLength⟩)
    (c_BadLength : PySem.W.codeIn K (.ref cda_BadLength) "BadLength.__init__" = true)
    (ce_BadLength : K.lookup cc_BadLength = some ⟨cl_BadLength, cld_BadLength, .cell (some (.ref C_BadLength)), csl_BadLength⟩)
    (co_BadLength : K.lookup cda_BadLength = some ⟨ccl_BadLength, cdd_BadLength, .fields vs_BadLength, ccs_BadLength⟩)
    (v2_BadLength : vs_BadLength[2]? = some (.str file_BadLength tf_BadLength))
    (fi_BadLength : ((P.main.file : Str) == file_BadLength) = true)
    (su_BadLength : PySem.W.mroIn K C_BadLength (.ref C_BadLength) = some true)
    (mo_BadLength : PySem.W.mroIn K C_BadLength (.type "object") = some true)
    (ks_BadLength : PySem.W.ks_superIn K C_BadLength C_BadLength "__init__" = some (some (.builtin "ValueError.__init__")))
    (ga_BadLength : PySem.W.findIn K (.ref C_BadLength) "__getattribute__" = some (some (.builtin "BaseException.__getattribute__")))
    (gg_BadLength : PySem.W.findIn K (.ref C_BadLength) "__getattr__" = some none)
    (hd_BadLength : PySem.W.hasDictIn K C_BadLength = true)
    (xn_BadLength : PySem.W.findIn K (.ref C_BadLength) "place" = some none)
    (hc_BadLength : PySem.W.findIn K (.ref C_BadLength) "__class__" = some (some (.builtin "object.__class__")))
    (a_BadWeight : PySem.W.nsIn K mainGlobals "BadWeight" = some (some (.ref C_BadWeight)))
    (x_BadWeight : K.lookup C_BadWeight = some (excClassObj nm_BadWeight q_BadWeight C_BadWeight N_BadWeight bs_BadWeight [.ref C_FindsError, .type "ValueError", .type "Exception", .type "BaseException", .type "object"] true sn_BadWeight sub_BadWeight ab_BadWeight col_BadWeight dd_BadWeight m0_BadWeight m1_BadWeight m2_BadWeight m3_BadWeight m5_BadWeight "ValueError.__new__"))
    (sa_BadWeight : PySem.W.findIn K (.ref C_BadWeight) "__setattr__" = some (some (.builtin "object.__setattr__")))
    (eC_BadWeight : PySem.W.subIn K (.ref C_BadWeight) (.type "BaseException") = some true)
    (sV_BadWeight : PySem.W.subIn K (.ref C_BadWeight) (.type "ValueError") = some true)
    (tC_BadWeight : PySem.W.typeIn K (.ref C_BadWeight) = some (.type "type"))
    (kC_BadWeight : PySem.W.keepIn K (.ref C_BadWeight) = true)
    (i_BadWeight : PySem.W.findIn K (.ref C_BadWeight) "__init__" = some (some (.ref f_BadWeight)))
    (tI_BadWeight : PySem.W.typeIn K (.ref f_BadWeight) = some (.type "function"))
    (l_BadWeight : K.lookup f_BadWeight = some ⟨oc_BadWeight, od_BadWeight, .func (PySem.W.ksFn "__init__" "BadWeight.__init__" (defArgs s_BadWeight_init) (defBody s_BadWeight_init) (defScope s_BadWeight_init) .none kV_BadWeight dc_BadWeight pm_BadWeight an_BadWeight (.ref cda_BadWeight) ct_BadWeight cc_BadWeight), sl_BadWeight⟩)
    (c_BadWeight : PySem.W.codeIn K (.ref cda_BadWeight) "BadWeight.__init__" = true)
    (ce_BadWeight : K.lookup cc_BadWeight = some ⟨cl_BadWeight, cld_BadWeight, .cell (some (.ref C_BadWeight)), csl_BadWeight⟩)
    (co_BadWeight : K.lookup cda_BadWeight = some ⟨ccl_BadWeight, cdd_BadWeight, .fields vs_BadWeight, ccs_BadWeight⟩)
    (v2_BadWeight : vs_BadWeight[2]? = some (.str file_BadWeight tf_BadWeight))
    (fi_BadWeight : ((P.main.file : Str) == file_BadWeight) = true)
    (su_BadWeight : PySem.W.mroIn K C_BadWeight (.ref C_BadWeight) = some true)
    (mo_BadWeight : PySem.W.mroIn K C_BadWeight (.type "object") = some true)
    (ks_BadWeight : PySem.W.ks_superIn K C_BadWeight C_BadWeight "__init__" = some (some (.builtin "ValueError.__init__")))
    (ga_BadWeight : PySem.W.findIn K (.ref C_BadWeight) "__getattribute__" = some (some (.builtin "BaseException.__getattribute__")))
    (gg_BadWeight : PySem.W.findIn K (.ref C_BadWeight) "__getattr__" = some none)
    (hd_BadWeight : PySem.W.hasDictIn K C_BadWeight = true)
    (xn_BadWeight : PySem.W.findIn K (.ref C_BadWeight) "place" = some none)
    (hc_BadWeight : PySem.W.findIn K (.ref C_BadWeight) "__class__" = some (some (.builtin "object.__class__")))
    (a_BadCount : PySem.W.nsIn K mainGlobals "BadCount" = some (some (.ref C_BadCount)))
    (x_BadCount : K.lookup C_BadCount = some (excClassObj nm_BadCount q_BadCount C_BadCount N_BadCount bs_BadCount [.ref C_FindsError, .type "ValueError", .type "Exception", .type "BaseException", .type "object"] true sn_BadCount sub_BadCount ab_BadCount col_BadCount dd_BadCount m0_BadCount m1_BadCount m2_BadCount m3_BadCount m5_BadCount "ValueError.__new__"))
    (sa_BadCount : PySem.W.findIn K (.ref C_BadCount) "__setattr__" = some (some (.builtin "object.__setattr__")))
    (eC_BadCount : PySem.W.subIn K (.ref C_BadCount) (.type "BaseException") = some true)
    (sV_BadCount : PySem.W.subIn K (.ref C_BadCount) (.type "ValueError") = some true)
    (tC_BadCount : PySem.W.typeIn K (.ref C_BadCount) = some (.type "type"))
    (kC_BadCount : PySem.W.keepIn K (.ref C_BadCount) = true)
    (i_BadCount : PySem.W.findIn K (.ref C_BadCount) "__init__" = some (some (.ref f_BadCount)))
    (tI_BadCount : PySem.W.typeIn K (.ref f_BadCount) = some (.type "function"))
    (l_BadCount : K.lookup f_BadCount = some ⟨oc_BadCount, od_BadCount, .func (PySem.W.ksFn "__init__" "BadCount.__init__" (defArgs s_BadCount_init) (defBody s_BadCount_init) (defScope s_BadCount_init) .none kV_BadCount dc_BadCount pm_BadCount an_BadCount (.ref cda_BadCount) ct_BadCount cc_BadCount), sl_BadCount⟩)
    (c_BadCount : PySem.W.codeIn K (.ref cda_BadCount) "BadCount.__init__" = true)
    (ce_BadCount : K.lookup cc_BadCount = some ⟨cl_BadCount, cld_BadCount, .cell (some (.ref C_BadCount)), csl_BadCount⟩)
    (co_BadCount : K.lookup cda_BadCount = some ⟨ccl_BadCount, cdd_BadCount, .fields vs_BadCount, ccs_BadCount⟩)
    (v2_BadCount : vs_BadCount[2]? = some (.str file_BadCount tf_BadCount))
    (fi_BadCount : ((P.main.file : Str) == file_BadCount) = true)
    (su_BadCount : PySem.W.mroIn K C_BadCount (.ref C_BadCount) = some true)
    (mo_BadCount : PySem.W.mroIn K C_BadCount (.type "object") = some true)
    (ks_BadCount : PySem.W.ks_superIn K C_BadCount C_BadCount "__init__" = some (some (.builtin "ValueError.__init__")))
    (ga_BadCount : PySem.W.findIn K (.ref C_BadCount) "__getattribute__" = some (some (.builtin "BaseException.__getattribute__")))
    (gg_BadCount : PySem.W.findIn K (.ref C_BadCount) "__getattr__" = some none)
    (hd_BadCount : PySem.W.hasDictIn K C_BadCount = true)
    (xn_BadCount : PySem.W.findIn K (.ref C_BadCount) "number" = some none)
    (hc_BadCount : PySem.W.findIn K (.ref C_BadCount) "__class__" = some (some (.builtin "object.__class__")))
    (a_BadPosition : PySem.W.nsIn K mainGlobals "BadPosition" = some (some (.ref C_BadPosition)))
    (x_BadPosition : K.lookup C_BadPosition = some (excClassObj nm_BadPosition q_BadPosition C_BadPosition N_BadPosition bs_BadPosition [.ref C_FindsError, .type "ValueError", .type "Exception", .type "BaseException", .type "object"] true sn_BadPosition sub_BadPosition ab_BadPosition col_BadPosition dd_BadPosition m0_BadPosition m1_BadPosition m2_BadPosition m3_BadPosition m5_BadPosition "ValueError.__new__"))
    (sa_BadPosition : PySem.W.findIn K (.ref C_BadPosition) "__setattr__" = some (some (.builtin "object.__setattr__")))
    (eC_BadPosition : PySem.W.subIn K (.ref C_BadPosition) (.type "BaseException") = some true)
    (sV_BadPosition : PySem.W.subIn K (.ref C_BadPosition) (.type "ValueError") = some true)
    (tC_BadPosition : PySem.W.typeIn K (.ref C_BadPosition) = some (.type "type"))
    (kC_BadPosition : PySem.W.keepIn K (.ref C_BadPosition) = true)
    (i_BadPosition : PySem.W.findIn K (.ref C_BadPosition) "__init__" = some (some (.ref f_BadPosition)))
    (tI_BadPosition : PySem.W.typeIn K (.ref f_BadPosition) = some (.type "function"))
    (l_BadPosition : K.lookup f_BadPosition = some ⟨oc_BadPosition, od_BadPosition, .func (PySem.W.ksFn "__init__" "BadPosition.__init__" (defArgs s_BadPosition_init) (defBody s_BadPosition_init) (defScope s_BadPosition_init) .none kV_BadPosition dc_BadPosition pm_BadPosition an_BadPosition (.ref cda_BadPosition) ct_BadPosition cc_BadPosition), sl_BadPosition⟩)
    (c_BadPosition : PySem.W.codeIn K (.ref cda_BadPosition) "BadPosition.__init__" = true)
    (ce_BadPosition : K.lookup cc_BadPosition = some ⟨cl_BadPosition, cld_BadPosition, .cell (some (.ref C_BadPosition)), csl_BadPosition⟩)
    (co_BadPosition : K.lookup cda_BadPosition = some ⟨ccl_BadPosition, cdd_BadPosition, .fields vs_BadPosition, ccs_BadPosition⟩)
    (v2_BadPosition : vs_BadPosition[2]? = some (.str file_BadPosition tf_BadPosition))
    (fi_BadPosition : ((P.main.file : Str) == file_BadPosition) = true)
    (su_BadPosition : PySem.W.mroIn K C_BadPosition (.ref C_BadPosition) = some true)
    (mo_BadPosition : PySem.W.mroIn K C_BadPosition (.type "object") = some true)
    (ks_BadPosition : PySem.W.ks_superIn K C_BadPosition C_BadPosition "__init__" = some (some (.builtin "ValueError.__init__")))
    (ga_BadPosition : PySem.W.findIn K (.ref C_BadPosition) "__getattribute__" = some (some (.builtin "BaseException.__getattribute__")))
    (gg_BadPosition : PySem.W.findIn K (.ref C_BadPosition) "__getattr__" = some none)
    (hd_BadPosition : PySem.W.hasDictIn K C_BadPosition = true)
    (xn_BadPosition : PySem.W.findIn K (.ref C_BadPosition) "position" = some none)
    (hc_BadPosition : PySem.W.findIn K (.ref C_BadPosition) "__class__" = some (some (.builtin "object.__class__")))
    (a_BadSide : PySem.W.nsIn K mainGlobals "BadSide" = some (some (.ref C_BadSide)))
    (x_BadSide : K.lookup C_BadSide = some (excClassObj nm_BadSide q_BadSide C_BadSide N_BadSide bs_BadSide [.ref C_FindsError, .type "ValueError", .type "Exception", .type "BaseException", .type "object"] true sn_BadSide sub_BadSide ab_BadSide col_BadSide dd_BadSide m0_BadSide m1_BadSide m2_BadSide m3_BadSide m5_BadSide "ValueError.__new__"))
    (sa_BadSide : PySem.W.findIn K (.ref C_BadSide) "__setattr__" = some (some (.builtin "object.__setattr__")))
    (eC_BadSide : PySem.W.subIn K (.ref C_BadSide) (.type "BaseException") = some true)
    (sV_BadSide : PySem.W.subIn K (.ref C_BadSide) (.type "ValueError") = some true)
    (tC_BadSide : PySem.W.typeIn K (.ref C_BadSide) = some (.type "type"))
    (kC_BadSide : PySem.W.keepIn K (.ref C_BadSide) = true)
    (i_BadSide : PySem.W.findIn K (.ref C_BadSide) "__init__" = some (some (.ref f_BadSide)))
    (tI_BadSide : PySem.W.typeIn K (.ref f_BadSide) = some (.type "function"))
    (l_BadSide : K.lookup f_BadSide = some ⟨oc_BadSide, od_BadSide, .func (PySem.W.ksFn "__init__" "BadSide.__init__" (defArgs s_BadSide_init) (defBody s_BadSide_init) (defScope s_BadSide_init) .none kV_BadSide dc_BadSide pm_BadSide an_BadSide (.ref cda_BadSide) ct_BadSide cc_BadSide), sl_BadSide⟩)
    (c_BadSide : PySem.W.codeIn K (.ref cda_BadSide) "BadSide.__init__" = true)
    (ce_BadSide : K.lookup cc_BadSide = some ⟨cl_BadSide, cld_BadSide, .cell (some (.ref C_BadSide)), csl_BadSide⟩)
    (co_BadSide : K.lookup cda_BadSide = some ⟨ccl_BadSide, cdd_BadSide, .fields vs_BadSide, ccs_BadSide⟩)
    (v2_BadSide : vs_BadSide[2]? = some (.str file_BadSide tf_BadSide))
    (fi_BadSide : ((P.main.file : Str) == file_BadSide) = true)
    (su_BadSide : PySem.W.mroIn K C_BadSide (.ref C_BadSide) = some true)
    (mo_BadSide : PySem.W.mroIn K C_BadSide (.type "object") = some true)
    (ks_BadSide : PySem.W.ks_superIn K C_BadSide C_BadSide "__init__" = some (some (.builtin "ValueError.__init__")))
    (ga_BadSide : PySem.W.findIn K (.ref C_BadSide) "__getattribute__" = some (some (.builtin "BaseException.__getattribute__")))
    (gg_BadSide : PySem.W.findIn K (.ref C_BadSide) "__getattr__" = some none)
    (hd_BadSide : PySem.W.hasDictIn K C_BadSide = true)
    (xn_BadSide : PySem.W.findIn K (.ref C_BadSide) "side" = some none)
    (hc_BadSide : PySem.W.findIn K (.ref C_BadSide) "__class__" = some (some (.builtin "object.__class__")))
    (k_BadCount_BadCount : PySem.W.kitOne K (.ref C_BadCount) (.ref C_BadCount) = some true)
    (k_BadCount_BadWeight : PySem.W.kitOne K (.ref C_BadCount) (.ref C_BadWeight) = some false)
    (k_BadLength_BadCount : PySem.W.kitOne K (.ref C_BadLength) (.ref C_BadCount) = some false)
    (k_BadLength_BadWeight : PySem.W.kitOne K (.ref C_BadLength) (.ref C_BadWeight) = some false)
    (k_BadPosition_BadCount : PySem.W.kitOne K (.ref C_BadPosition) (.ref C_BadCount) = some false)
    (k_BadPosition_BadWeight : PySem.W.kitOne K (.ref C_BadPosition) (.ref C_BadWeight) = some false)
    (k_BadShape_BadCount : PySem.W.kitOne K (.ref C_BadShape) (.ref C_BadCount) = some false)
    (k_BadShape_BadWeight : PySem.W.kitOne K (.ref C_BadShape) (.ref C_BadWeight) = some false)
    (k_BadSide_BadCount : PySem.W.kitOne K (.ref C_BadSide) (.ref C_BadCount) = some false)
    (k_BadSide_BadWeight : PySem.W.kitOne K (.ref C_BadSide) (.ref C_BadWeight) = some false)
    (k_BadWeight_BadCount : PySem.W.kitOne K (.ref C_BadWeight) (.ref C_BadCount) = some false)
    (k_BadWeight_BadWeight : PySem.W.kitOne K (.ref C_BadWeight) (.ref C_BadWeight) = some true)
    (cbe_FindsError : PySem.W.subIn K (.ref C_FindsError) (.type "BaseException") = some true)
    (cbd_FindsError : PySem.W.hasDictIn K C_FindsError = true)
    (cbt_FindsError : PySem.W.typeIn K (.ref C_FindsError) = some (.type "type"))
    (sb_BadShape_FindsError : PySem.W.subIn K (.ref C_BadShape) (.ref C_FindsError) = some true)
    (sb_BadLength_FindsError : PySem.W.subIn K (.ref C_BadLength) (.ref C_FindsError) = some true)
    (sb_BadWeight_FindsError : PySem.W.subIn K (.ref C_BadWeight) (.ref C_FindsError) = some true)
    (sb_BadCount_FindsError : PySem.W.subIn K (.ref C_BadCount) (.ref C_FindsError) = some true)
    (sb_BadPosition_FindsError : PySem.W.subIn K (.ref C_BadPosition) (.ref C_FindsError) = some true)
    (sb_BadSide_FindsError : PySem.W.subIn K (.ref C_BadSide) (.ref C_FindsError) = some true)
    (a_Shape : PySem.W.nsIn K mainGlobals "Shape" = some (some (.ref C_Shape)))
    (a_Tunnels : PySem.W.nsIn K mainGlobals "Tunnels" = some (some (.ref C_Tunnels)))
    (a_side_masks : PySem.W.nsIn K mainGlobals "_side_masks" = some (some (.ref f_side_masks)))
    (l_side_masks : K.lookup f_side_masks = some ⟨oc_side_masks, od_side_masks, .func (PySem.W.fnOf "_side_masks" "_side_masks" (defArgs s_side_masks) (defBody s_side_masks) (defScope s_side_masks) .none kV_side_masks dc_side_masks pm_side_masks an_side_masks cd_side_masks ct_side_masks), sl_side_masks⟩)
    (c_side_masks : PySem.W.codeIn K cd_side_masks "_side_masks" = true)
    (k_side_masks : PySem.W.keepIn K (.ref f_side_masks) = true)
    (a_Shape_init : PySem.W.findIn K (.ref C_Shape) "__init__" = some (some (.ref f_Shape_init)))
    (i_Shape_init : PySem.W.isFn K (.ref f_Shape_init) = true)
    (l_Shape_init : K.lookup f_Shape_init = some ⟨oc_Shape_init, od_Shape_init, .func (PySem.W.fnOf "__init__" "Shape.__init__" (defArgs s_Shape_init) (defBody s_Shape_init) (defScope s_Shape_init) .none kV_Shape_init dc_Shape_init pm_Shape_init an_Shape_init cd_Shape_init ct_Shape_init), sl_Shape_init⟩)
    (c_Shape_init : PySem.W.codeIn K cd_Shape_init "Shape.__init__" = true)
    (k_Shape_init : PySem.W.keepIn K (.ref f_Shape_init) = true)
    (a_Shape_has : PySem.W.findIn K (.ref C_Shape) "has" = some (some (.ref f_Shape_has)))
    (i_Shape_has : PySem.W.isFn K (.ref f_Shape_has) = true)
    (l_Shape_has : K.lookup f_Shape_has = some ⟨oc_Shape_has, od_Shape_has, .func (PySem.W.fnOf "has" "Shape.has" (defArgs s_Shape_has) (defBody s_Shape_has) (defScope s_Shape_has) .none kV_Shape_has dc_Shape_has pm_Shape_has an_Shape_has cd_Shape_has ct_Shape_has), sl_Shape_has⟩)
    (c_Shape_has : PySem.W.codeIn K cd_Shape_has "Shape.has" = true)
    (k_Shape_has : PySem.W.keepIn K (.ref f_Shape_has) = true)
    (a_Shape_parting : PySem.W.findIn K (.ref C_Shape) "parting" = some (some (.ref f_Shape_parting)))
    (i_Shape_parting : PySem.W.isFn K (.ref f_Shape_parting) = true)
    (l_Shape_parting : K.lookup f_Shape_parting = some ⟨oc_Shape_parting, od_Shape_parting, .func (PySem.W.fnOf "parting" "Shape.parting" (defArgs s_Shape_parting) (defBody s_Shape_parting) (defScope s_Shape_parting) .none kV_Shape_parting dc_Shape_parting pm_Shape_parting an_Shape_parting cd_Shape_parting ct_Shape_parting), sl_Shape_parting⟩)
    (c_Shape_parting : PySem.W.codeIn K cd_Shape_parting "Shape.parting" = true)
    (k_Shape_parting : PySem.W.keepIn K (.ref f_Shape_parting) = true)
    (a_check_position : PySem.W.nsIn K mainGlobals "check_position" = some (some (.ref f_check_position)))
    (l_check_position : K.lookup f_check_position = some ⟨oc_check_position, od_check_position, .func (PySem.W.fnOf "check_position" "check_position" (defArgs s_check_position) (defBody s_check_position) (defScope s_check_position) .none kV_check_position dc_check_position pm_check_position an_check_position cd_check_position ct_check_position), sl_check_position⟩)
    (c_check_position : PySem.W.codeIn K cd_check_position "check_position" = true)
    (k_check_position : PySem.W.keepIn K (.ref f_check_position) = true)
    (a_check_side : PySem.W.nsIn K mainGlobals "check_side" = some (some (.ref f_check_side)))
    (l_check_side : K.lookup f_check_side = some ⟨oc_check_side, od_check_side, .func (PySem.W.fnOf "check_side" "check_side" (defArgs s_check_side) (defBody s_check_side) (defScope s_check_side) .none kV_check_side dc_check_side pm_check_side an_check_side cd_check_side ct_check_side), sl_check_side⟩)
    (c_check_side : PySem.W.codeIn K cd_check_side "check_side" = true)
    (k_check_side : PySem.W.keepIn K (.ref f_check_side) = true)
    (a_is_number_of_side : PySem.W.nsIn K mainGlobals "is_number_of_side" = some (some (.ref f_is_number_of_side)))
    (l_is_number_of_side : K.lookup f_is_number_of_side = some ⟨oc_is_number_of_side, od_is_number_of_side, .func (PySem.W.fnOf "is_number_of_side" "is_number_of_side" (defArgs s_is_number_of_side) (defBody s_is_number_of_side) (defScope s_is_number_of_side) .none kV_is_number_of_side dc_is_number_of_side pm_is_number_of_side an_is_number_of_side cd_is_number_of_side ct_is_number_of_side), sl_is_number_of_side⟩)
    (c_is_number_of_side : PySem.W.codeIn K cd_is_number_of_side "is_number_of_side" = true)
    (k_is_number_of_side : PySem.W.keepIn K (.ref f_is_number_of_side) = true)
    (a_Tunnels_init : PySem.W.findIn K (.ref C_Tunnels) "__init__" = some (some (.ref f_Tunnels_init)))
    (i_Tunnels_init : PySem.W.isFn K (.ref f_Tunnels_init) = true)
    (l_Tunnels_init : K.lookup f_Tunnels_init = some ⟨oc_Tunnels_init, od_Tunnels_init, .func (PySem.W.fnOf "__init__" "Tunnels.__init__" (defArgs s_Tunnels_init) (defBody s_Tunnels_init) (defScope s_Tunnels_init) .none kV_Tunnels_init dc_Tunnels_init pm_Tunnels_init an_Tunnels_init cd_Tunnels_init ct_Tunnels_init), sl_Tunnels_init⟩)
    (c_Tunnels_init : PySem.W.codeIn K cd_Tunnels_init "Tunnels.__init__" = true)
    (k_Tunnels_init : PySem.W.keepIn K (.ref f_Tunnels_init) = true)
    (a_Tunnels_between : PySem.W.findIn K (.ref C_Tunnels) "between" = some (some (.ref f_Tunnels_between)))
    (i_Tunnels_between : PySem.W.isFn K (.ref f_Tunnels_between) = true)
    (l_Tunnels_between : K.lookup f_Tunnels_between = some ⟨oc_Tunnels_between, od_Tunnels_between, .func (PySem.W.fnOf "between" "Tunnels.between" (defArgs s_Tunnels_between) (defBody s_Tunnels_between) (defScope s_Tunnels_between) .none kV_Tunnels_between dc_Tunnels_between pm_Tunnels_between an_Tunnels_between cd_Tunnels_between ct_Tunnels_between), sl_Tunnels_between⟩)
    (c_Tunnels_between : PySem.W.codeIn K cd_Tunnels_between "Tunnels.between" = true)
    (k_Tunnels_between : PySem.W.keepIn K (.ref f_Tunnels_between) = true)
    (a_Tunnels_total : PySem.W.findIn K (.ref C_Tunnels) "total" = some (some (.ref f_Tunnels_total)))
    (i_Tunnels_total : PySem.W.isFn K (.ref f_Tunnels_total) = true)
    (l_Tunnels_total : K.lookup f_Tunnels_total = some ⟨oc_Tunnels_total, od_Tunnels_total, .func (PySem.W.fnOf "total" "Tunnels.total" (defArgs s_Tunnels_total) (defBody s_Tunnels_total) (defScope s_Tunnels_total) .none kV_Tunnels_total dc_Tunnels_total pm_Tunnels_total an_Tunnels_total cd_Tunnels_total ct_Tunnels_total), sl_Tunnels_total⟩)
    (c_Tunnels_total : PySem.W.codeIn K cd_Tunnels_total "Tunnels.total" = true)
    (k_Tunnels_total : PySem.W.keepIn K (.ref f_Tunnels_total) = true)
    (a_Tunnels_parent : PySem.W.findIn K (.ref C_Tunnels) "parent" = some (some (.ref f_Tunnels_parent)))
    (i_Tunnels_parent : PySem.W.isFn K (.ref f_Tunnels_parent) = true)
    (l_Tunnels_parent : K.lookup f_Tunnels_parent = some ⟨oc_Tunnels_parent, od_Tunnels_parent, .func (PySem.W.fnOf "parent" "Tunnels.parent" (defArgs s_Tunnels_parent) (defBody s_Tunnels_parent) (defScope s_Tunnels_parent) .none kV_Tunnels_parent dc_Tunnels_parent pm_Tunnels_parent an_Tunnels_parent cd_Tunnels_parent ct_Tunnels_parent), sl_Tunnels_parent⟩)
    (c_Tunnels_parent : PySem.W.codeIn K cd_Tunnels_parent "Tunnels.parent" = true)
    (k_Tunnels_parent : PySem.W.keepIn K (.ref f_Tunnels_parent) = true)
    (a_Tunnels_branching : PySem.W.findIn K (.ref C_Tunnels) "branching" = some (some (.ref f_Tunnels_branching)))
    (i_Tunnels_branching : PySem.W.isFn K (.ref f_Tunnels_branching) = true)
    (l_Tunnels_branching : K.lookup f_Tunnels_branching = some ⟨oc_Tunnels_branching, od_Tunnels_branching, .func (PySem.W.fnOf "branching" "Tunnels.branching" (defArgs s_Tunnels_branching) (defBody s_Tunnels_branching) (defScope s_Tunnels_branching) .none kV_Tunnels_branching dc_Tunnels_branching pm_Tunnels_branching an_Tunnels_branching cd_Tunnels_branching ct_Tunnels_branching), sl_Tunnels_branching⟩)
    (c_Tunnels_branching : PySem.W.codeIn K cd_Tunnels_branching "Tunnels.branching" = true)
    (k_Tunnels_branching : PySem.W.keepIn K (.ref f_Tunnels_branching) = true)
    (a_Tunnels_check_tunnels : PySem.W.findIn K (.ref C_Tunnels) "_check_tunnels" = some (some (.ref f_Tunnels_check_tunnels)))
    (i_Tunnels_check_tunnels : PySem.W.isFn K (.ref f_Tunnels_check_tunnels) = true)
    (l_Tunnels_check_tunnels : K.lookup f_Tunnels_check_tunnels = some ⟨oc_Tunnels_check_tunnels, od_Tunnels_check_tunnels, .func (PySem.W.fnOf "_check_tunnels" "Tunnels._check_tunnels" (defArgs s_Tunnels_check_tunnels) (defBody s_Tunnels_check_tunnels) (defScope s_Tunnels_check_tunnels) .none kV_Tunnels_check_tunnels dc_Tunnels_check_tunnels pm_Tunnels_check_tunnels an_Tunnels_check_tunnels cd_Tunnels_check_tunnels ct_Tunnels_check_tunnels), sl_Tunnels_check_tunnels⟩)
    (c_Tunnels_check_tunnels : PySem.W.codeIn K cd_Tunnels_check_tunnels "Tunnels._check_tunnels" = true)
    (k_Tunnels_check_tunnels : PySem.W.keepIn K (.ref f_Tunnels_check_tunnels) = true)
    (a_fault_in : PySem.W.nsIn K mainGlobals "fault_in" = some (some (.ref f_fault_in)))
    (l_fault_in : K.lookup f_fault_in = some ⟨oc_fault_in, od_fault_in, .func (PySem.W.fnOf "fault_in" "fault_in" (defArgs s_fault_in) (defBody s_fault_in) (defScope s_fault_in) .none kV_fault_in dc_fault_in pm_fault_in an_fault_in cd_fault_in ct_fault_in), sl_fault_in⟩)
    (c_fault_in : PySem.W.codeIn K cd_fault_in "fault_in" = true)
    (k_fault_in : PySem.W.keepIn K (.ref f_fault_in) = true)
    (a_check_weights : PySem.W.nsIn K mainGlobals "check_weights" = some (some (.ref f_check_weights)))
    (l_check_weights : K.lookup f_check_weights = some ⟨oc_check_weights, od_check_weights, .func (PySem.W.fnOf "check_weights" "check_weights" (defArgs s_check_weights) (defBody s_check_weights) (defScope s_check_weights) .none kV_check_weights dc_check_weights pm_check_weights an_check_weights cd_check_weights ct_check_weights), sl_check_weights⟩)
    (c_check_weights : PySem.W.codeIn K cd_check_weights "check_weights" = true)
    (k_check_weights : PySem.W.keepIn K (.ref f_check_weights) = true)
    (a_best_addition : PySem.W.nsIn K mainGlobals "best_addition" = some (some (.ref f_best_addition)))
    (l_best_addition : K.lookup f_best_addition = some ⟨oc_best_addition, od_best_addition, .func (PySem.W.fnOf "best_addition" "best_addition" (defArgs s_best_addition) (defBody s_best_addition) (defScope s_best_addition) .none kV_best_addition dc_best_addition pm_best_addition an_best_addition cd_best_addition ct_best_addition), sl_best_addition⟩)
    (c_best_addition : PySem.W.codeIn K cd_best_addition "best_addition" = true)
    (k_best_addition : PySem.W.keepIn K (.ref f_best_addition) = true)
    (a_gains : PySem.W.nsIn K mainGlobals "_gains" = some (some (.ref f_gains)))
    (l_gains : K.lookup f_gains = some ⟨oc_gains, od_gains, .func (PySem.W.fnOf "_gains" "_gains" (defArgs s_gains) (defBody s_gains) (defScope s_gains) .none kV_gains dc_gains pm_gains an_gains cd_gains ct_gains), sl_gains⟩)
    (c_gains : PySem.W.codeIn K cd_gains "_gains" = true)
    (k_gains : PySem.W.keepIn K (.ref f_gains) = true)
    (a_worthwhile : PySem.W.nsIn K mainGlobals "_worthwhile" = some (some (.ref f_worthwhile)))
    (l_worthwhile : K.lookup f_worthwhile = some ⟨oc_worthwhile, od_worthwhile, .func (PySem.W.fnOf "_worthwhile" "_worthwhile" (defArgs s_worthwhile) (defBody s_worthwhile) (defScope s_worthwhile) .none kV_worthwhile dc_worthwhile pm_worthwhile an_worthwhile cd_worthwhile ct_worthwhile), sl_worthwhile⟩)
    (c_worthwhile : PySem.W.codeIn K cd_worthwhile "_worthwhile" = true)
    (k_worthwhile : PySem.W.keepIn K (.ref f_worthwhile) = true)
    (a_is_border : PySem.W.nsIn K mainGlobals "_is_border" = some (some (.ref f_is_border)))
    (l_is_border : K.lookup f_is_border = some ⟨oc_is_border, od_is_border, .func (PySem.W.fnOf "_is_border" "_is_border" (defArgs s_is_border) (defBody s_is_border) (defScope s_is_border) .none kV_is_border dc_is_border pm_is_border an_is_border cd_is_border ct_is_border), sl_is_border⟩)
    (c_is_border : PySem.W.codeIn K cd_is_border "_is_border" = true)
    (k_is_border : PySem.W.keepIn K (.ref f_is_border) = true)
    (a_prices : PySem.W.nsIn K mainGlobals "prices" = some (some (.ref f_prices)))
    (l_prices : K.lookup f_prices = some ⟨oc_prices, od_prices, .func (PySem.W.fnOf "prices" "prices" (defArgs s_prices) (defBody s_prices) (defScope s_prices) .none kV_prices dc_prices pm_prices an_prices (.ref cd_prices) ct_prices), sl_prices⟩)
    (tl_prices : K.lookup cd_prices = some ⟨te_prices, td_prices, .fields tv_prices, ts_prices⟩)
    (tp_prices : tv_prices[11]? = some (.ref P_prices))
    (tn_prices : K.lookup P_prices = none)
    (c_prices : PySem.W.codeIn K (.ref cd_prices) "prices" = true)
    (k_prices : PySem.W.keepIn K (.ref f_prices) = true)
    (a_check_terms : PySem.W.nsIn K mainGlobals "_check_terms" = some (some (.ref f_check_terms)))
    (l_check_terms : K.lookup f_check_terms = some ⟨oc_check_terms, od_check_terms, .func (PySem.W.fnOf "_check_terms" "_check_terms" (defArgs s_check_terms) (defBody s_check_terms) (defScope s_check_terms) .none kV_check_terms dc_check_terms pm_check_terms an_check_terms cd_check_terms ct_check_terms), sl_check_terms⟩)
    (c_check_terms : PySem.W.codeIn K cd_check_terms "_check_terms" = true)
    (k_check_terms : PySem.W.keepIn K (.ref f_check_terms) = true)
    (a_blocks : PySem.W.nsIn K mainGlobals "_blocks" = some (some (.ref f_blocks)))
    (l_blocks : K.lookup f_blocks = some ⟨oc_blocks, od_blocks, .func (PySem.W.fnOf "_blocks" "_blocks" (defArgs s_blocks) (defBody s_blocks) (defScope s_blocks) .none kV_blocks dc_blocks pm_blocks an_blocks cd_blocks ct_blocks), sl_blocks⟩)
    (c_blocks : PySem.W.codeIn K cd_blocks "_blocks" = true)
    (k_blocks : PySem.W.keepIn K (.ref f_blocks) = true)
    (a_corners : PySem.W.nsIn K mainGlobals "corners" = some (some (.ref f_corners)))
    (l_corners : K.lookup f_corners = some ⟨oc_corners, od_corners, .func (PySem.W.fnOf "corners" "corners" (defArgs s_corners) (defBody s_corners) (defScope s_corners) .none kV_corners dc_corners pm_corners an_corners cd_corners ct_corners), sl_corners⟩)
    (c_corners : PySem.W.codeIn K cd_corners "corners" = true)
    (k_corners : PySem.W.keepIn K (.ref f_corners) = true)
    (a_height : PySem.W.nsIn K mainGlobals "height" = some (some (.ref f_height)))
    (l_height : K.lookup f_height = some ⟨oc_height, od_height, .func (PySem.W.fnOf "height" "height" (defArgs s_height) (defBody s_height) (defScope s_height) .none kV_height dc_height pm_height an_height cd_height ct_height), sl_height⟩)
    (c_height : PySem.W.codeIn K cd_height "height" = true)
    (k_height : PySem.W.keepIn K (.ref f_height) = true)
    (a_l_tape : PySem.W.nsIn K mainGlobals "_law_tape" = some (some (.ref f_l_tape)))
    (l_l_tape : K.lookup f_l_tape = some ⟨oc_l_tape, od_l_tape, .func (PySem.W.fnOf "_law_tape" "_law_tape" (defArgs s_l_tape) (defBody s_l_tape) (defScope s_l_tape) .none kV_l_tape dc_l_tape pm_l_tape an_l_tape cd_l_tape ct_l_tape), sl_l_tape⟩)
    (c_l_tape : PySem.W.codeIn K cd_l_tape "_law_tape" = true)
    (k_l_tape : PySem.W.keepIn K (.ref f_l_tape) = true)
    (a_l_next : PySem.W.nsIn K mainGlobals "_law_next" = some (some (.ref f_l_next)))
    (l_l_next : K.lookup f_l_next = some ⟨oc_l_next, od_l_next, .func (PySem.W.fnOf "_law_next" "_law_next" (defArgs s_l_next) (defBody s_l_next) (defScope s_l_next) .none kV_l_next dc_l_next pm_l_next an_l_next cd_l_next ct_l_next), sl_l_next⟩)
    (c_l_next : PySem.W.codeIn K cd_l_next "_law_next" = true)
    (k_l_next : PySem.W.keepIn K (.ref f_l_next) = true)
    (a_l_parents : PySem.W.nsIn K mainGlobals "_law_parents" = some (some (.ref f_l_parents)))
    (l_l_parents : K.lookup f_l_parents = some ⟨oc_l_parents, od_l_parents, .func (PySem.W.fnOf "_law_parents" "_law_parents" (defArgs s_l_parents) (defBody s_l_parents) (defScope s_l_parents) .none kV_l_parents dc_l_parents pm_l_parents an_l_parents cd_l_parents ct_l_parents), sl_l_parents⟩)
    (c_l_parents : PySem.W.codeIn K cd_l_parents "_law_parents" = true)
    (k_l_parents : PySem.W.keepIn K (.ref f_l_parents) = true)
    (a_l_is_number : PySem.W.nsIn K mainGlobals "_law_is_number" = some (some (.ref f_l_is_number)))
    (l_l_is_number : K.lookup f_l_is_number = some ⟨oc_l_is_number, od_l_is_number, .func (PySem.W.fnOf "_law_is_number" "_law_is_number" (defArgs s_l_is_number) (defBody s_l_is_number) (defScope s_l_is_number) .none kV_l_is_number dc_l_is_number pm_l_is_number an_l_is_number cd_l_is_number ct_l_is_number), sl_l_is_number⟩)
    (c_l_is_number : PySem.W.codeIn K cd_l_is_number "_law_is_number" = true)
    (k_l_is_number : PySem.W.keepIn K (.ref f_l_is_number) = true)
    (a_l_same : PySem.W.nsIn K mainGlobals "_law_same" = some (some (.ref f_l_same)))
    (l_l_same : K.lookup f_l_same = some ⟨oc_l_same, od_l_same, .func (PySem.W.fnOf "_law_same" "_law_same" (defArgs s_l_same) (defBody s_l_same) (defScope s_l_same) .none kV_l_same dc_l_same pm_l_same an_l_same cd_l_same ct_l_same), sl_l_same⟩)
    (c_l_same : PySem.W.codeIn K cd_l_same "_law_same" = true)
    (k_l_same : PySem.W.keepIn K (.ref f_l_same) = true)
    (a_l_wrong : PySem.W.nsIn K mainGlobals "_law_wrong" = some (some (.ref f_l_wrong)))
    (l_l_wrong : K.lookup f_l_wrong = some ⟨oc_l_wrong, od_l_wrong, .func (PySem.W.fnOf "_law_wrong" "_law_wrong" (defArgs s_l_wrong) (defBody s_l_wrong) (defScope s_l_wrong) .none kV_l_wrong dc_l_wrong pm_l_wrong an_l_wrong cd_l_wrong ct_l_wrong), sl_l_wrong⟩)
    (c_l_wrong : PySem.W.codeIn K cd_l_wrong "_law_wrong" = true)
    (k_l_wrong : PySem.W.keepIn K (.ref f_l_wrong) = true)
    (a_l_spoilt : PySem.W.nsIn K mainGlobals "_law_spoilt" = some (some (.ref f_l_spoilt)))
    (l_l_spoilt : K.lookup f_l_spoilt = some ⟨oc_l_spoilt, od_l_spoilt, .func (PySem.W.fnOf "_law_spoilt" "_law_spoilt" (defArgs s_l_spoilt) (defBody s_l_spoilt) (defScope s_l_spoilt) .none kV_l_spoilt dc_l_spoilt pm_l_spoilt an_l_spoilt cd_l_spoilt ct_l_spoilt), sl_l_spoilt⟩)
    (c_l_spoilt : PySem.W.codeIn K cd_l_spoilt "_law_spoilt" = true)
    (k_l_spoilt : PySem.W.keepIn K (.ref f_l_spoilt) = true)
    (a_l_dug : PySem.W.nsIn K mainGlobals "_law_dug" = some (some (.ref f_l_dug)))
    (l_l_dug : K.lookup f_l_dug = some ⟨oc_l_dug, od_l_dug, .func (PySem.W.fnOf "_law_dug" "_law_dug" (defArgs s_l_dug) (defBody s_l_dug) (defScope s_l_dug) .none kV_l_dug dc_l_dug pm_l_dug an_l_dug cd_l_dug ct_l_dug), sl_l_dug⟩)
    (c_l_dug : PySem.W.codeIn K cd_l_dug "_law_dug" = true)
    (k_l_dug : PySem.W.keepIn K (.ref f_l_dug) = true)
    (a_l_closed : PySem.W.nsIn K mainGlobals "_law_closed" = some (some (.ref f_l_closed)))
    (l_l_closed : K.lookup f_l_closed = some ⟨oc_l_closed, od_l_closed, .func (PySem.W.fnOf "_law_closed" "_law_closed" (defArgs s_l_closed) (defBody s_l_closed) (defScope s_l_closed) .none kV_l_closed dc_l_closed pm_l_closed an_l_closed cd_l_closed ct_l_closed), sl_l_closed⟩)
    (c_l_closed : PySem.W.codeIn K cd_l_closed "_law_closed" = true)
    (k_l_closed : PySem.W.keepIn K (.ref f_l_closed) = true)
    (a_l_rule : PySem.W.nsIn K mainGlobals "_law_rule" = some (some (.ref f_l_rule)))
    (l_l_rule : K.lookup f_l_rule = some ⟨oc_l_rule, od_l_rule, .func (PySem.W.fnOf "_law_rule" "_law_rule" (defArgs s_l_rule) (defBody s_l_rule) (defScope s_l_rule) .none kV_l_rule dc_l_rule pm_l_rule an_l_rule cd_l_rule ct_l_rule), sl_l_rule⟩)
    (c_l_rule : PySem.W.codeIn K cd_l_rule "_law_rule" = true)
    (k_l_rule : PySem.W.keepIn K (.ref f_l_rule) = true)
    (a_l_steeper : PySem.W.nsIn K mainGlobals "_law_steeper" = some (some (.ref f_l_steeper)))
    (l_l_steeper : K.lookup f_l_steeper = some ⟨oc_l_steeper, od_l_steeper, .func (PySem.W.fnOf "_law_steeper" "_law_steeper" (defArgs s_l_steeper) (defBody s_l_steeper) (defScope s_l_steeper) .none kV_l_steeper dc_l_steeper pm_l_steeper an_l_steeper cd_l_steeper ct_l_steeper), sl_l_steeper⟩)
    (c_l_steeper : PySem.W.codeIn K cd_l_steeper "_law_steeper" = true)
    (k_l_steeper : PySem.W.keepIn K (.ref f_l_steeper) = true)
    (a_l_ends : PySem.W.nsIn K mainGlobals "_law_ends" = some (some (.ref f_l_ends)))
    (l_l_ends : K.lookup f_l_ends = some ⟨oc_l_ends, od_l_ends, .func (PySem.W.fnOf "_law_ends" "_law_ends" (defArgs s_l_ends) (defBody s_l_ends) (defScope s_l_ends) .none kV_l_ends dc_l_ends pm_l_ends an_l_ends cd_l_ends ct_l_ends), sl_l_ends⟩)
    (c_l_ends : PySem.W.codeIn K cd_l_ends "_law_ends" = true)
    (k_l_ends : PySem.W.keepIn K (.ref f_l_ends) = true)
    (a_l_line : PySem.W.nsIn K mainGlobals "_law_line" = some (some (.ref f_l_line)))
    (l_l_line : K.lookup f_l_line = some ⟨oc_l_line, od_l_line, .func (PySem.W.fnOf "_law_line" "_law_line" (defArgs s_l_line) (defBody s_l_line) (defScope s_l_line) .none kV_l_line dc_l_line pm_l_line an_l_line cd_l_line ct_l_line), sl_l_line⟩)
    (c_l_line : PySem.W.codeIn K cd_l_line "_law_line" = true)
    (k_l_line : PySem.W.keepIn K (.ref f_l_line) = true)
    (a_l_fraction : PySem.W.nsIn K mainGlobals "_law_fraction" = some (some (.ref f_l_fraction)))
    (l_l_fraction : K.lookup f_l_fraction = some ⟨oc_l_fraction, od_l_fraction, .func (PySem.W.fnOf "_law_fraction" "_law_fraction" (defArgs s_l_fraction) (defBody s_l_fraction) (defScope s_l_fraction) .none kV_l_fraction dc_l_fraction pm_l_fraction an_l_fraction cd_l_fraction ct_l_fraction), sl_l_fraction⟩)
    (c_l_fraction : PySem.W.codeIn K cd_l_fraction "_law_fraction" = true)
    (k_l_fraction : PySem.W.keepIn K (.ref f_l_fraction) = true)
    (a_l_heights : PySem.W.nsIn K mainGlobals "_law_heights" = some (some (.ref f_l_heights)))
    (l_l_heights : K.lookup f_l_heights = some ⟨oc_l_heights, od_l_heights, .func (PySem.W.fnOf "_law_heights" "_law_heights" (defArgs s_l_heights) (defBody s_l_heights) (defScope s_l_heights) .none kV_l_heights dc_l_heights pm_l_heights an_l_heights cd_l_heights ct_l_heights), sl_l_heights⟩)
    (c_l_heights : PySem.W.codeIn K cd_l_heights "_law_heights" = true)
    (k_l_heights : PySem.W.keepIn K (.ref f_l_heights) = true)
    (a_l_cornered : PySem.W.nsIn K mainGlobals "_law_cornered" = some (some (.ref f_l_cornered)))
    (l_l_cornered : K.lookup f_l_cornered = some ⟨oc_l_cornered, od_l_cornered, .func (PySem.W.fnOf "_law_cornered" "_law_cornered" (defArgs s_l_cornered) (defBody s_l_cornered) (defScope s_l_cornered) .none kV_l_cornered dc_l_cornered pm_l_cornered an_l_cornered cd_l_cornered ct_l_cornered), sl_l_cornered⟩)
    (c_l_cornered : PySem.W.codeIn K cd_l_cornered "_law_cornered" = true)
    (k_l_cornered : PySem.W.keepIn K (.ref f_l_cornered) = true)
    (a_l_priced : PySem.W.nsIn K mainGlobals "_law_priced" = some (some (.ref f_l_priced)))
    (l_l_priced : K.lookup f_l_priced = some ⟨oc_l_priced, od_l_priced, .func (PySem.W.fnOf "_law_priced" "_law_priced" (defArgs s_l_priced) (defBody s_l_priced) (defScope s_l_priced) .none kV_l_priced dc_l_priced pm_l_priced an_l_priced cd_l_priced ct_l_priced), sl_l_priced⟩)
    (c_l_priced : PySem.W.codeIn K cd_l_priced "_law_priced" = true)
    (k_l_priced : PySem.W.keepIn K (.ref f_l_priced) = true)
    (a_l_asked : PySem.W.nsIn K mainGlobals "_law_asked" = some (some (.ref f_l_asked)))
    (l_l_asked : K.lookup f_l_asked = some ⟨oc_l_asked, od_l_asked, .func (PySem.W.fnOf "_law_asked" "_law_asked" (defArgs s_l_asked) (defBody s_l_asked) (defScope s_l_asked) .none kV_l_asked dc_l_asked pm_l_asked an_l_asked cd_l_asked ct_l_asked), sl_l_asked⟩)
    (c_l_asked : PySem.W.codeIn K cd_l_asked "_law_asked" = true)
    (k_l_asked : PySem.W.keepIn K (.ref f_l_asked) = true)
    (a_l_refused : PySem.W.nsIn K mainGlobals "_law_refused" = some (some (.ref f_l_refused)))
    (l_l_refused : K.lookup f_l_refused = some ⟨oc_l_refused, od_l_refused, .func (PySem.W.fnOf "_law_refused" "_law_refused" (defArgs s_l_refused) (defBody s_l_refused) (defScope s_l_refused) .none kV_l_refused dc_l_refused pm_l_refused an_l_refused cd_l_refused ct_l_refused), sl_l_refused⟩)
    (c_l_refused : PySem.W.codeIn K cd_l_refused "_law_refused" = true)
    (k_l_refused : PySem.W.keepIn K (.ref f_l_refused) = true)
    (a_law : PySem.W.nsIn K mainGlobals "law" = some (some (.ref f_law)))
    (l_law : K.lookup f_law = some ⟨oc_law, od_law, .func (PySem.W.fnOf "law" "law" (defArgs s_law) (defBody s_law) (defScope s_law) .none kV_law dc_law pm_law an_law cd_law ct_law), sl_law⟩)
    (c_law : PySem.W.codeIn K cd_law "law" = true)
    (k_law : PySem.W.keepIn K (.ref f_law) = true)
    (pg_Shape : PySem.W.plainGet K C_Shape Str.empty = true)
    (hd_Shape : PySem.W.hasDictIn K C_Shape = true)
    (po_Shape : PySem.W.plainOver K C_Shape = true)
    (sa_Shape : PySem.W.findIn K (.ref C_Shape) "__setattr__" = some (some (.builtin "object.__setattr__")))
    (mk_Shape : PySem.W.makesIn K C_Shape = true)
    (kc_Shape : PySem.W.keepIn K (.ref C_Shape) = true)
    (n_Shape_masks : PySem.W.findIn K (.ref C_Shape) "_masks" = some none)
    (n_Shape_parents : PySem.W.findIn K (.ref C_Shape) "parents" = some none)
    (n_Shape_size : PySem.W.findIn K (.ref C_Shape) "size" = some none)
    (pg_Tunnels : PySem.W.plainGet K C_Tunnels Str.empty = true)
    (hd_Tunnels : PySem.W.hasDictIn K C_Tunnels = true)
    (po_Tunnels : PySem.W.plainOver K C_Tunnels = true)
    (sa_Tunnels : PySem.W.findIn K (.ref C_Tunnels) "__setattr__" = some (some (.builtin "object.__setattr__")))
    (mk_Tunnels : PySem.W.makesIn K C_Tunnels = true)
    (kc_Tunnels : PySem.W.keepIn K (.ref C_Tunnels) = true)
    (n_Tunnels_lengths : PySem.W.findIn K (.ref C_Tunnels) "lengths" = some none)
    (n_Tunnels_shape : PySem.W.findIn K (.ref C_Tunnels) "shape" = some none) : ∃ T : Tx P K mg, T.a_law = fa := by
  have e := hfa.symm.trans (PySem.W.mg_of X G a_law)
  exact ⟨{
    z_abs := PySem.W.mg_none_of X G z_abs,
    z_all := PySem.W.mg_none_of X G z_all,
    z_any := PySem.W.mg_none_of X G z_any,
    z_bool := PySem.W.mg_none_of X G z_bool,
    z_enumerate := PySem.W.mg_none_of X G z_enumerate,
    z_int := PySem.W.mg_none_of X G z_int,
    z_isinstance := PySem.W.mg_none_of X G z_isinstance,
    z_len := PySem.W.mg_none_of X G z_len,
    z_list := PySem.W.mg_none_of X G z_list,
    z_max := PySem.W.mg_none_of X G z_max,
    z_range := PySem.W.mg_none_of X G z_range,
    z_set := PySem.W.mg_none_of X G z_set,
    z_sorted := PySem.W.mg_none_of X G z_sorted,
    z_sum := PySem.W.mg_none_of X G z_sum,
    z_tuple := PySem.W.mg_none_of X G z_tuple,
    im_gcd := PySem.W.mg_of X G im_gcd,
    C_FindsError := C_FindsError,
    mg_FindsError := PySem.W.mg_of X G a_FindsError,
    x_BadShape := { C := C_BadShape, fa := f_BadShape, cc := cc_BadShape, cda := cda_BadShape, fd := _, mgX := PySem.W.mg_of X G a_BadShape, sup := { oex := ⟨⟨_, _, _, _, _, _, _, _, _, _, _, _, _, _, _, x_BadShape, rfl⟩, sa_BadShape, eC_BadShape, tC_BadShape, kC_BadShape⟩, cel := ⟨_, _, _, ce_BadShape⟩, cod := ⟨_, _, _, _, _, _, co_BadShape, v2_BadShape, fi_BadShape⟩, sub := su_BadShape, subV := sV_BadShape, op := thp, sup := ks_BadShape, mgS := PySem.W.mg_none_of X G z_super, top := top_ }, lk := ⟨_, _, _, _, _, _, _, _, rfl, l_BadShape⟩, cod := c_BadShape, iC := i_BadShape, tI := tI_BadShape, xf := ⟨ga_BadShape, gg_BadShape, eC_BadShape, hd_BadShape⟩, xn := xn_BadShape, ec := ⟨ga_BadShape, gg_BadShape, eC_BadShape, hd_BadShape, hc_BadShape, hn_, ht_, mo_BadShape⟩ },
    x_BadLength := { C := C_BadLength, fa := f_BadLength, cc := cc_BadLength, cda := cda_BadLength, fd := _, mgX := PySem.W.mg_of X G a_BadLength, sup := { oex := ⟨⟨_, _, _, _, _, _, _, _, _, _, _, _, _, _, _, x_BadLength, rfl⟩, sa_BadLength, eC_BadLength, tC_BadLength, kC_BadLength⟩, cel := ⟨_, _, _, ce_BadLength⟩, cod := ⟨_, _, _, _, _, _, co_BadLength, v2_BadLength, fi_BadLength⟩, sub := su_BadLength, subV := sV_BadLength, op := thp, sup := ks_BadLength, mgS := PySem.W.mg_none_of X G z_super, top := top_ }, lk := ⟨_, _, _, _, _, _, _, _, rfl, l_BadLength⟩, cod := c_BadLength, iC := i_BadLength, tI := tI_BadLength, xf := ⟨ga_BadLength, gg_BadLength, eC_BadLength, hd_BadLength⟩, xn := xn_BadLength, ec := ⟨ga_BadLength, gg_BadLength, eC_BadLength, hd_BadLength, hc_BadLength, hn_, ht_, mo_BadLength⟩ },
    x_BadWeight := { C := C_BadWeight, fa := f_BadWeight, cc := cc_BadWeight, cda := cda_BadWeight, fd := _, mgX := PySem.W.mg_of X G a_BadWeight, sup := { oex := ⟨⟨_, _, _, _, _, _, _, _, _, _, _, _, _, _, _, x_BadWeight, rfl⟩, sa_BadWeight, eC_BadWeight, tC_BadWeight, kC_BadWeight⟩, cel := ⟨_, _, _, ce_BadWeight⟩, cod := ⟨_, _, _, _, _, _, co_BadWeight, v2_BadWeight, fi_BadWeight⟩, sub := su_BadWeight, subV := sV_BadWeight, op := thp, sup := ks_BadWeight, mgS := PySem.W.mg_none_of X G z_super, top := top_ }, lk := ⟨_, _, _, _, _, _, _, _, rfl, l_BadWeight⟩, cod := c_BadWeight, iC := i_BadWeight, tI := tI_BadWeight, xf := ⟨ga_BadWeight, gg_BadWeight, eC_BadWeight, hd_BadWeight⟩, xn := xn_BadWeight, ec := ⟨ga_BadWeight, gg_BadWeight, eC_BadWeight, hd_BadWeight, hc_BadWeight, hn_, ht_, mo_BadWeight⟩ },
    x_BadCount := { C := C_BadCount, fa := f_BadCount, cc := cc_BadCount, cda := cda_BadCount, fd := _, mgX := PySem.W.mg_of X G a_BadCount, sup := { oex := ⟨⟨_, _, _, _, _, _, _, _, _, _, _, _, _, _, _, x_BadCount, rfl⟩, sa_BadCount, eC_BadCount, tC_BadCount, kC_BadCount⟩, cel := ⟨_, _, _, ce_BadCount⟩, cod := ⟨_, _, _, _, _, _, co_BadCount, v2_BadCount, fi_BadCount⟩, sub := su_BadCount, subV := sV_BadCount, op := thp, sup := ks_BadCount, mgS := PySem.W.mg_none_of X G z_super, top := top_ }, lk := ⟨_, _, _, _, _, _, _, _, rfl, l_BadCount⟩, cod := c_BadCount, iC := i_BadCount, tI := tI_BadCount, xf := ⟨ga_BadCount, gg_BadCount, eC_BadCount, hd_BadCount⟩, xn := xn_BadCount, ec := ⟨ga_BadCount, gg_BadCount, eC_BadCount, hd_BadCount, hc_BadCount, hn_, ht_, mo_BadCount⟩ },
    x_BadPosition := { C := C_BadPosition, fa := f_BadPosition, cc := cc_BadPosition, cda := cda_BadPosition, fd := _, mgX := PySem.W.mg_of X G a_BadPosition, sup := { oex := ⟨⟨_, _, _, _, _, _, _, _, _, _, _, _, _, _, _, x_BadPosition, rfl⟩, sa_BadPosition, eC_BadPosition, tC_BadPosition, kC_BadPosition⟩, cel := ⟨_, _, _, ce_BadPosition⟩, cod := ⟨_, _, _, _, _, _, co_BadPosition, v2_BadPosition, fi_BadPosition⟩, sub := su_BadPosition, subV := sV_BadPosition, op := thp, sup := ks_BadPosition, mgS := PySem.W.mg_none_of X G z_super, top := top_ }, lk := ⟨_, _, _, _, _, _, _, _, rfl, l_BadPosition⟩, cod := c_BadPosition, iC := i_BadPosition, tI := tI_BadPosition, xf := ⟨ga_BadPosition, gg_BadPosition, eC_BadPosition, hd_BadPosition⟩, xn := xn_BadPosition, ec := ⟨ga_BadPosition, gg_BadPosition, eC_BadPosition, hd_BadPosition, hc_BadPosition, hn_, ht_, mo_BadPosition⟩ },
    x_BadSide := { C := C_BadSide, fa := f_BadSide, cc := cc_BadSide, cda := cda_BadSide, fd := _, mgX := PySem.W.mg_of X G a_BadSide, sup := { oex := ⟨⟨_, _, _, _, _, _, _, _, _, _, _, _, _, _, _, x_BadSide, rfl⟩, sa_BadSide, eC_BadSide, tC_BadSide, kC_BadSide⟩, cel := ⟨_, _, _, ce_BadSide⟩, cod := ⟨_, _, _, _, _, _, co_BadSide, v2_BadSide, fi_BadSide⟩, sub := su_BadSide, subV := sV_BadSide, op := thp, sup := ks_BadSide, mgS := PySem.W.mg_none_of X G z_super, top := top_ }, lk := ⟨_, _, _, _, _, _, _, _, rfl, l_BadSide⟩, cod := c_BadSide, iC := i_BadSide, tI := tI_BadSide, xf := ⟨ga_BadSide, gg_BadSide, eC_BadSide, hd_BadSide⟩, xn := xn_BadSide, ec := ⟨ga_BadSide, gg_BadSide, eC_BadSide, hd_BadSide, hc_BadSide, hn_, ht_, mo_BadSide⟩ },
    k_BadCount_BadCount := k_BadCount_BadCount,
    k_BadCount_BadWeight := k_BadCount_BadWeight,
    k_BadLength_BadCount := k_BadLength_BadCount,
    k_BadLength_BadWeight := k_BadLength_BadWeight,
    k_BadPosition_BadCount := k_BadPosition_BadCount,
    k_BadPosition_BadWeight := k_BadPosition_BadWeight,
    k_BadShape_BadCount := k_BadShape_BadCount,
    k_BadShape_BadWeight := k_BadShape_BadWeight,
    k_BadSide_BadCount := k_BadSide_BadCount,
    k_BadSide_BadWeight := k_BadSide_BadWeight,
    k_BadWeight_BadCount := k_BadWeight_BadCount,
    k_BadWeight_BadWeight := k_BadWeight_BadWeight,
    cb_FindsError := ⟨cbe_FindsError, cbd_FindsError, cbt_FindsError⟩,
    sb_BadShape_FindsError := sb_BadShape_FindsError,
    sb_BadLength_FindsError := sb_BadLength_FindsError,
    sb_BadWeight_FindsError := sb_BadWeight_FindsError,
    sb_BadCount_FindsError := sb_BadCount_FindsError,
    sb_BadPosition_FindsError := sb_BadPosition_FindsError,
    sb_BadSide_FindsError := sb_BadSide_FindsError,
    a_side_masks := f_side_masks,
    d_side_masks := _,
    F_side_masks := fun_mk (st := s_side_masks) l_side_masks c_side_masks k_side_masks,
    B_side_masks := (fun_mk (st := s_side_masks) l_side_masks c_side_masks k_side_masks).binds (ps := ["parents"]) (fun _ _ _ _ _ _ us hl => match us, hl with | [_], _ => rfl),
    g_side_masks := PySem.W.mg_of X G a_side_masks,
    a_Shape_init := f_Shape_init,
    d_Shape_init := _,
    F_Shape_init := fun_mk (st := s_Shape_init) l_Shape_init c_Shape_init k_Shape_init,
    B_Shape_init := (fun_mk (st := s_Shape_init) l_Shape_init c_Shape_init k_Shape_init).binds (ps := ["self", "parents"]) (fun _ _ _ _ _ _ us hl => match us, hl with | [_, _], _ => rfl),
    a_Shape_has := f_Shape_has,
    d_Shape_has := _,
    F_Shape_has := fun_mk (st := s_Shape_has) l_Shape_has c_Shape_has k_Shape_has,
    B_Shape_has := (fun_mk (st := s_Shape_has) l_Shape_has c_Shape_has k_Shape_has).binds (ps := ["self", "position", "side"]) (fun _ _ _ _ _ _ us hl => match us, hl with | [_, _, _], _ => rfl),
    a_Shape_parting := f_Shape_parting,
    d_Shape_parting := _,
    F_Shape_parting := fun_mk (st := s_Shape_parting) l_Shape_parting c_Shape_parting k_Shape_parting,
    B_Shape_parting := (fun_mk (st := s_Shape_parting) l_Shape_parting c_Shape_parting k_Shape_parting).binds (ps := ["self", "first", "second"]) (fun _ _ _ _ _ _ us hl => match us, hl with | [_, _, _], _ => rfl),
    a_check_position := f_check_position,
    d_check_position := _,
    F_check_position := fun_mk (st := s_check_position) l_check_position c_check_position k_check_position,
    B_check_position := (fun_mk (st := s_check_position) l_check_position c_check_position k_check_position).binds (ps := ["shape", "position"]) (fun _ _ _ _ _ _ us hl => match us, hl with | [_, _], _ => rfl),
    g_check_position := PySem.W.mg_of X G a_check_position,
    a_check_side := f_check_side,
    d_check_side := _,
    F_check_side := fun_mk (st := s_check_side) l_check_side c_check_side k_check_side,
    B_check_side := (fun_mk (st := s_check_side) l_check_side c_check_side k_check_side).binds (ps := ["shape", "side"]) (fun _ _ _ _ _ _ us hl => match us, hl with | [_, _], _ => rfl),
    g_check_side := PySem.W.mg_of X G a_check_side,
    a_is_number_of_side := f_is_number_of_side,
    d_is_number_of_side := _,
    F_is_number_of_side := fun_mk (st := s_is_number_of_side) l_is_number_of_side c_is_number_of_side k_is_number_of_side,
    B_is_number_of_side := (fun_mk (st := s_is_number_of_side) l_is_number_of_side c_is_number_of_side k_is_number_of_side).binds (ps := ["shape", "number"]) (fun _ _ _ _ _ _ us hl => match us, hl with | [_, _], _ => rfl),
    g_is_number_of_side := PySem.W.mg_of X G a_is_number_of_side,
    a_Tunnels_init := f_Tunnels_init,
    d_Tunnels_init := _,
    F_Tunnels_init := fun_mk (st := s_Tunnels_init) l_Tunnels_init c_Tunnels_init k_Tunnels_init,
    B_Tunnels_init := (fun_mk (st := s_Tunnels_init) l_Tunnels_init c_Tunnels_init k_Tunnels_init).binds (ps := ["self", "parents", "lengths"]) (fun _ _ _ _ _ _ us hl => match us, hl with | [_, _, _], _ => rfl),
    a_Tunnels_between := f_Tunnels_between,
    d_Tunnels_between := _,
    F_Tunnels_between := fun_mk (st := s_Tunnels_between) l_Tunnels_between c_Tunnels_between k_Tunnels_between,
    B_Tunnels_between := (fun_mk (st := s_Tunnels_between) l_Tunnels_between c_Tunnels_between k_Tunnels_between).binds (ps := ["self", "first", "second"]) (fun _ _ _ _ _ _ us hl => match us, hl with | [_, _, _], _ => rfl),
    a_Tunnels_total := f_Tunnels_total,
    d_Tunnels_total := _,
    F_Tunnels_total := fun_mk (st := s_Tunnels_total) l_Tunnels_total c_Tunnels_total k_Tunnels_total,
    B_Tunnels_total := (fun_mk (st := s_Tunnels_total) l_Tunnels_total c_Tunnels_total k_Tunnels_total).binds (ps := ["self", "values", "walls"]) (fun _ _ _ _ _ _ us hl => match us, hl with | [_, _, _], _ => rfl),
    a_Tunnels_parent := f_Tunnels_parent,
    d_Tunnels_parent := _,
    F_Tunnels_parent := fun_mk (st := s_Tunnels_parent) l_Tunnels_parent c_Tunnels_parent k_Tunnels_parent,
    B_Tunnels_parent := (fun_mk (st := s_Tunnels_parent) l_Tunnels_parent c_Tunnels_parent k_Tunnels_parent).binds (ps := ["self", "wall"]) (fun _ _ _ _ _ _ us hl => match us, hl with | [_, _], _ => rfl),
    a_Tunnels_branching := f_Tunnels_branching,
    d_Tunnels_branching := _,
    F_Tunnels_branching := fun_mk (st := s_Tunnels_branching) l_Tunnels_branching c_Tunnels_branching k_Tunnels_branching,
    B_Tunnels_branching := (fun_mk (st := s_Tunnels_branching) l_Tunnels_branching c_Tunnels_branching k_Tunnels_branching).binds (ps := ["self", "position"]) (fun _ _ _ _ _ _ us hl => match us, hl with | [_, _], _ => rfl),
    a_Tunnels_check_tunnels := f_Tunnels_check_tunnels,
    d_Tunnels_check_tunnels := _,
    F_Tunnels_check_tunnels := fun_mk (st := s_Tunnels_check_tunnels) l_Tunnels_check_tunnels c_Tunnels_check_tunnels k_Tunnels_check_tunnels,
    B_Tunnels_check_tunnels := (fun_mk (st := s_Tunnels_check_tunnels) l_Tunnels_check_tunnels c_Tunnels_check_tunnels k_Tunnels_check_tunnels).binds (ps := ["self", "walls"]) (fun _ _ _ _ _ _ us hl => match us, hl with | [_, _], _ => rfl),
    a_fault_in := f_fault_in,
    d_fault_in := _,
    F_fault_in := fun_mk (st := s_fault_in) l_fault_in c_fault_in k_fault_in,
    KB_fault_in := ⟨fun s us ws _ h1 h2 => match us, ws, h1, h2 with | [_], [_, _], _, _ => .of_eq rfl, fun r1 r2 => r1.append r2⟩,
    g_fault_in := PySem.W.mg_of X G a_fault_in,
    a_check_weights := f_check_weights,
    d_check_weights := _,
    F_check_weights := fun_mk (st := s_check_weights) l_check_weights c_check_weights k_check_weights,
    B_check_weights := (fun_mk (st := s_check_weights) l_check_weights c_check_weights k_check_weights).binds (ps := ["tunnels", "weights"]) (fun _ _ _ _ _ _ us hl => match us, hl with | [_, _], _ => rfl),
    g_check_weights := PySem.W.mg_of X G a_check_weights,
    a_best_addition := f_best_addition,
    d_best_addition := _,
    F_best_addition := fun_mk (st := s_best_addition) l_best_addition c_best_addition k_best_addition,
    B_best_addition := (fun_mk (st := s_best_addition) l_best_addition c_best_addition k_best_addition).binds (ps := ["tunnels", "weights", "dug"]) (fun _ _ _ _ _ _ us hl => match us, hl with | [_, _, _], _ => rfl),
    g_best_addition := PySem.W.mg_of X G a_best_addition,
    a_gains := f_gains,
    d_gains := _,
    F_gains := fun_mk (st := s_gains) l_gains c_gains k_gains,
    B_gains := (fun_mk (st := s_gains) l_gains c_gains k_gains).binds (ps := ["tunnels", "weights", "a", "b"]) (fun _ _ _ _ _ _ us hl => match us, hl with | [_, _, _, _], _ => rfl),
    g_gains := PySem.W.mg_of X G a_gains,
    a_worthwhile := f_worthwhile,
    d_worthwhile := _,
    F_worthwhile := fun_mk (st := s_worthwhile) l_worthwhile c_worthwhile k_worthwhile,
    B_worthwhile := (fun_mk (st := s_worthwhile) l_worthwhile c_worthwhile k_worthwhile).binds (ps := ["tunnels", "gains", "dug"]) (fun _ _ _ _ _ _ us hl => match us, hl with | [_, _, _], _ => rfl),
    g_worthwhile := PySem.W.mg_of X G a_worthwhile,
    a_is_border := f_is_border,
    d_is_border := _,
    F_is_border := fun_mk (st := s_is_border) l_is_border c_is_border k_is_border,
    B_is_border := (fun_mk (st := s_is_border) l_is_border c_is_border k_is_border).binds (ps := ["tunnels", "dug", "wall"]) (fun _ _ _ _ _ _ us hl => match us, hl with | [_, _, _], _ => rfl),
    g_is_border := PySem.W.mg_of X G a_is_border,
    c_prices := cd_prices,
    P_prices := P_prices,
    t_prices := ⟨⟨_, _, _, _, tl_prices, tp_prices⟩, tn_prices⟩,
    a_prices := f_prices,
    d_prices := _,
    F_prices := funG_mk (st := s_prices) l_prices c_prices k_prices,
    B_prices := (funG_mk (st := s_prices) l_prices c_prices k_prices).fn.binds (ps := ["tunnels", "weights", "a", "b"]) (fun _ _ _ _ _ _ us hl => match us, hl with | [_, _, _, _], _ => rfl),
    g_prices := PySem.W.mg_of X G a_prices,
    a_check_terms := f_check_terms,
    d_check_terms := _,
    F_check_terms := fun_mk (st := s_check_terms) l_check_terms c_check_terms k_check_terms,
    B_check_terms := (fun_mk (st := s_check_terms) l_check_terms c_check_terms k_check_terms).binds (ps := ["tunnels", "weights", "a", "b"]) (fun _ _ _ _ _ _ us hl => match us, hl with | [_, _, _, _], _ => rfl),
    g_check_terms := PySem.W.mg_of X G a_check_terms,
    a_blocks := f_blocks,
    d_blocks := _,
    F_blocks := fun_mk (st := s_blocks) l_blocks c_blocks k_blocks,
    B_blocks := (fun_mk (st := s_blocks) l_blocks c_blocks k_blocks).binds (ps := ["tunnels", "weights"]) (fun _ _ _ _ _ _ us hl => match us, hl with | [_, _], _ => rfl),
    g_blocks := PySem.W.mg_of X G a_blocks,
    a_corners := f_corners,
    d_corners := _,
    F_corners := fun_mk (st := s_corners) l_corners c_corners k_corners,
    B_corners := (fun_mk (st := s_corners) l_corners c_corners k_corners).binds (ps := ["tunnels", "weights"]) (fun _ _ _ _ _ _ us hl => match us, hl with | [_, _], _ => rfl),
    g_corners := PySem.W.mg_of X G a_corners,
    a_height := f_height,
    d_height := _,
    F_height := fun_mk (st := s_height) l_height c_height k_height,
    B_height := (fun_mk (st := s_height) l_height c_height k_height).binds (ps := ["tunnels", "weights", "length"]) (fun _ _ _ _ _ _ us hl => match us, hl with | [_, _, _], _ => rfl),
    g_height := PySem.W.mg_of X G a_height,
    a_l_tape := f_l_tape,
    d_l_tape := _,
    F_l_tape := fun_mk (st := s_l_tape) l_l_tape c_l_tape k_l_tape,
    B_l_tape := (fun_mk (st := s_l_tape) l_l_tape c_l_tape k_l_tape).binds (ps := ["_law_script"]) (fun _ _ _ _ _ _ us hl => match us, hl with | [_], _ => rfl),
    g_l_tape := PySem.W.mg_of X G a_l_tape,
    a_l_next := f_l_next,
    d_l_next := _,
    F_l_next := fun_mk (st := s_l_next) l_l_next c_l_next k_l_next,
    B_l_next := (fun_mk (st := s_l_next) l_l_next c_l_next k_l_next).binds (ps := ["_law_tape_here", "_law_size"]) (fun _ _ _ _ _ _ us hl => match us, hl with | [_, _], _ => rfl),
    g_l_next := PySem.W.mg_of X G a_l_next,
    a_l_parents := f_l_parents,
    d_l_parents := _,
    F_l_parents := fun_mk (st := s_l_parents) l_l_parents c_l_parents k_l_parents,
    B_l_parents := (fun_mk (st := s_l_parents) l_l_parents c_l_parents k_l_parents).binds (ps := ["_law_tape_here", "_law_most"]) (fun _ _ _ _ _ _ us hl => match us, hl with | [_, _], _ => rfl),
    g_l_parents := PySem.W.mg_of X G a_l_parents,
    a_l_is_number := f_l_is_number,
    d_l_is_number := _,
    F_l_is_number := fun_mk (st := s_l_is_number) l_l_is_number c_l_is_number k_l_is_number,
    B_l_is_number := (fun_mk (st := s_l_is_number) l_l_is_number c_l_is_number k_l_is_number).binds (ps := ["_law_thing"]) (fun _ _ _ _ _ _ us hl => match us, hl with | [_], _ => rfl),
    g_l_is_number := PySem.W.mg_of X G a_l_is_number,
    a_l_same := f_l_same,
    d_l_same := _,
    F_l_same := fun_mk (st := s_l_same) l_l_same c_l_same k_l_same,
    B_l_same := (fun_mk (st := s_l_same) l_l_same c_l_same k_l_same).binds (ps := ["_law_told", "_law_due"]) (fun _ _ _ _ _ _ us hl => match us, hl with | [_, _], _ => rfl),
    g_l_same := PySem.W.mg_of X G a_l_same,
    a_l_wrong := f_l_wrong,
    d_l_wrong := _,
    F_l_wrong := fun_mk (st := s_l_wrong) l_l_wrong c_l_wrong k_l_wrong,
    B_l_wrong := (fun_mk (st := s_l_wrong) l_l_wrong c_l_wrong k_l_wrong).binds (ps := ["_law_values", "_law_least", "_law_many"]) (fun _ _ _ _ _ _ us hl => match us, hl with | [_, _, _], _ => rfl),
    g_l_wrong := PySem.W.mg_of X G a_l_wrong,
    a_l_spoilt := f_l_spoilt,
    d_l_spoilt := _,
    F_l_spoilt := fun_mk (st := s_l_spoilt) l_l_spoilt c_l_spoilt k_l_spoilt,
    B_l_spoilt := (fun_mk (st := s_l_spoilt) l_l_spoilt c_l_spoilt k_l_spoilt).binds (ps := ["_law_tape_here", "_law_values", "_law_least"]) (fun _ _ _ _ _ _ us hl => match us, hl with | [_, _, _], _ => rfl),
    g_l_spoilt := PySem.W.mg_of X G a_l_spoilt,
    a_l_dug := f_l_dug,
    d_l_dug := _,
    F_l_dug := fun_mk (st := s_l_dug) l_l_dug c_l_dug k_l_dug,
    B_l_dug := (fun_mk (st := s_l_dug) l_l_dug c_l_dug k_l_dug).binds (ps := ["_law_tape_here"]) (fun _ _ _ _ _ _ us hl => match us, hl with | [_], _ => rfl),
    g_l_dug := PySem.W.mg_of X G a_l_dug,
    a_l_closed := f_l_closed,
    d_l_closed := _,
    F_l_closed := fun_mk (st := s_l_closed) l_l_closed c_l_closed k_l_closed,
    B_l_closed := (fun_mk (st := s_l_closed) l_l_closed c_l_closed k_l_closed).binds (ps := ["_law_parents_here", "_law_lengths", "_law_weights"]) (fun _ _ _ _ _ _ us hl => match us, hl with | [_, _, _], _ => rfl),
    g_l_closed := PySem.W.mg_of X G a_l_closed,
    a_l_rule := f_l_rule,
    d_l_rule := _,
    F_l_rule := fun_mk (st := s_l_rule) l_l_rule c_l_rule k_l_rule,
    B_l_rule := (fun_mk (st := s_l_rule) l_l_rule c_l_rule k_l_rule).binds (ps := ["_law_parents_here", "_law_lengths", "_law_weights", "_law_a", "_law_b", "_law_offered"]) (fun _ _ _ _ _ _ us hl => match us, hl with | [_, _, _, _, _, _], _ => rfl),
    g_l_rule := PySem.W.mg_of X G a_l_rule,
    a_l_steeper := f_l_steeper,
    d_l_steeper := _,
    F_l_steeper := fun_mk (st := s_l_steeper) l_l_steeper c_l_steeper k_l_steeper,
    B_l_steeper := (fun_mk (st := s_l_steeper) l_l_steeper c_l_steeper k_l_steeper).binds (ps := ["_law_more", "_law_best"]) (fun _ _ _ _ _ _ us hl => match us, hl with | [_, _], _ => rfl),
    g_l_steeper := PySem.W.mg_of X G a_l_steeper,
    a_l_ends := f_l_ends,
    d_l_ends := _,
    F_l_ends := fun_mk (st := s_l_ends) l_l_ends c_l_ends k_l_ends,
    B_l_ends := (fun_mk (st := s_l_ends) l_l_ends c_l_ends k_l_ends).binds (ps := ["_law_parents_here", "_law_sets"]) (fun _ _ _ _ _ _ us hl => match us, hl with | [_, _], _ => rfl),
    g_l_ends := PySem.W.mg_of X G a_l_ends,
    a_l_line := f_l_line,
    d_l_line := _,
    F_l_line := fun_mk (st := s_l_line) l_l_line c_l_line k_l_line,
    B_l_line := (fun_mk (st := s_l_line) l_l_line c_l_line k_l_line).binds (ps := ["_law_ends_here", "_law_length"]) (fun _ _ _ _ _ _ us hl => match us, hl with | [_, _], _ => rfl),
    g_l_line := PySem.W.mg_of X G a_l_line,
    a_l_fraction := f_l_fraction,
    d_l_fraction := _,
    F_l_fraction := fun_mk (st := s_l_fraction) l_l_fraction c_l_fraction k_l_fraction,
    B_l_fraction := (fun_mk (st := s_l_fraction) l_l_fraction c_l_fraction k_l_fraction).binds (ps := ["_law_told", "_law_line_here"]) (fun _ _ _ _ _ _ us hl => match us, hl with | [_, _], _ => rfl),
    g_l_fraction := PySem.W.mg_of X G a_l_fraction,
    a_l_heights := f_l_heights,
    d_l_heights := _,
    F_l_heights := fun_mk (st := s_l_heights) l_l_heights c_l_heights k_l_heights,
    B_l_heights := (fun_mk (st := s_l_heights) l_l_heights c_l_heights k_l_heights).binds (ps := ["_law_made", "_law_weights", "_law_passed", "_law_sets", "_law_ends_here", "_law_asked_here"]) (fun _ _ _ _ _ _ us hl => match us, hl with | [_, _, _, _, _, _], _ => rfl),
    g_l_heights := PySem.W.mg_of X G a_l_heights,
    a_l_cornered := f_l_cornered,
    d_l_cornered := _,
    F_l_cornered := fun_mk (st := s_l_cornered) l_l_cornered c_l_cornered k_l_cornered,
    B_l_cornered := (fun_mk (st := s_l_cornered) l_l_cornered c_l_cornered k_l_cornered).binds (ps := ["_law_made", "_law_weights", "_law_ends_here"]) (fun _ _ _ _ _ _ us hl => match us, hl with | [_, _, _], _ => rfl),
    g_l_cornered := PySem.W.mg_of X G a_l_cornered,
    a_l_priced := f_l_priced,
    d_l_priced := _,
    F_l_priced := fun_mk (st := s_l_priced) l_l_priced c_l_priced k_l_priced,
    B_l_priced := (fun_mk (st := s_l_priced) l_l_priced c_l_priced k_l_priced).binds (ps := ["_law_made", "_law_parents_here", "_law_lengths", "_law_weights", "_law_end", "_law_times", "_law_pair"]) (fun _ _ _ _ _ _ us hl => match us, hl with | [_, _, _, _, _, _, _], _ => rfl),
    g_l_priced := PySem.W.mg_of X G a_l_priced,
    a_l_asked := f_l_asked,
    d_l_asked := _,
    F_l_asked := fun_mk (st := s_l_asked) l_l_asked c_l_asked k_l_asked,
    B_l_asked := (fun_mk (st := s_l_asked) l_l_asked c_l_asked k_l_asked).binds (ps := ["_law_tape_here", "_law_ends_here"]) (fun _ _ _ _ _ _ us hl => match us, hl with | [_, _], _ => rfl),
    g_l_asked := PySem.W.mg_of X G a_l_asked,
    a_l_refused := f_l_refused,
    d_l_refused := _,
    F_l_refused := fun_mk (st := s_l_refused) l_l_refused c_l_refused k_l_refused,
    B_l_refused := (fun_mk (st := s_l_refused) l_l_refused c_l_refused k_l_refused).binds (ps := ["_law_made", "_law_weights", "_law_length", "_law_lengths"]) (fun _ _ _ _ _ _ us hl => match us, hl with | [_, _, _, _], _ => rfl),
    g_l_refused := PySem.W.mg_of X G a_l_refused,
    a_law := f_law,
    d_law := _,
    F_law := fun_mk (st := s_law) l_law c_law k_law,
    B_law := (fun_mk (st := s_law) l_law c_law k_law).binds (ps := ["_law_script"]) (fun _ _ _ _ _ _ us hl => match us, hl with | [_], _ => rfl),
    g_law := PySem.W.mg_of X G a_law,
    C_Shape := C_Shape,
    mg_Shape := PySem.W.mg_of X G a_Shape,
    cl_Shape := ⟨pg_Shape, hd_Shape, po_Shape, sa_Shape⟩,
    M_Shape := ⟨mk_Shape, a_Shape_init, i_Shape_init, kc_Shape⟩,
    n_Shape_masks := n_Shape_masks,
    n_Shape_parents := n_Shape_parents,
    n_Shape_size := n_Shape_size,
    m_Shape_has := ⟨a_Shape_has, i_Shape_has, k_Shape_has⟩,
    m_Shape_parting := ⟨a_Shape_parting, i_Shape_parting, k_Shape_parting⟩,
    C_Tunnels := C_Tunnels,
    mg_Tunnels := PySem.W.mg_of X G a_Tunnels,
    cl_Tunnels := ⟨pg_Tunnels, hd_Tunnels, po_Tunnels, sa_Tunnels⟩,
    M_Tunnels := ⟨mk_Tunnels, a_Tunnels_init, i_Tunnels_init, kc_Tunnels⟩,
    n_Tunnels_lengths := n_Tunnels_lengths,
    n_Tunnels_shape := n_Tunnels_shape,
    m_Tunnels_between := ⟨a_Tunnels_between, i_Tunnels_between, k_Tunnels_between⟩,
    m_Tunnels_total := ⟨a_Tunnels_total, i_Tunnels_total, k_Tunnels_total⟩,
    m_Tunnels_parent := ⟨a_Tunnels_parent, i_Tunnels_parent, k_Tunnels_parent⟩,
    m_Tunnels_branching := ⟨a_Tunnels_branching, i_Tunnels_branching, k_Tunnels_branching⟩,
    m_Tunnels_check_tunnels := ⟨a_Tunnels_check_tunnels, i_Tunnels_check_tunnels, k_Tunnels_check_tunnels⟩ }, by cases e; rfl⟩
theorem walk {l : PySem.W.OpenLaw} {q : Program} {loose : List Str} {XP : (Str → Option Value) → Heap → Prop} {YP : World → Heap → Prop} {d : DefRec} {K : Params → PySem.W.Frag} (hn : l.most = some 63) (hdf : d.params.defaults = []) (hrec : ((["prices"] : List Str).all fun y => (PyProof.Rows.recsOf q).any fun e => e.name == y) = true)
    (hY : ∀ (w : World) (h : Heap), YP w h → (K w.params).In h)
    (F : ∀ (w : World) (mg : Str → Option Value) (fa : Addr) (h : Heap), (K w.params).In h → h.Ns mainGlobals mg → mg d.name = some (.ref fa) → ∃ T : Tx l.prog (K w.params) mg, T.a_law = fa) (hname : d.name = "law") :
    PySem.W.WalkO q loose XP YP l.row.toRowW d [] (fun f vs => PySem.call f vs) :=
  EP.walk_ofN (n := 63) (k := 10) (x := "_law_script") (CX := fun _ => L2.CX0) ["prices"] hn (by decide) hdf ⟨rfl, by decide, by decide⟩ hrec hY
    (fun w mg fa h Y X G hm hN => by
      obtain ⟨T, rfl⟩ := F w mg fa h X G hm
      have hd_prices := T.t_prices.head T.F_prices T.g_prices (hN "prices" List.mem_cons_self)
      refine ⟨T.d_law, [(T.c_prices, T.P_prices)], spLawT1 (K w.params) T.P_prices, fun p hp => by
          obtain rfl := List.mem_singleton.mp hp
          exact hd_prices.2, fun p hp => by
          obtain rfl := List.mem_singleton.mp hp
          exact T.t_prices.no, fun p hp => by
          obtain rfl := List.mem_singleton.mp hp
          exact hd_prices.1, fun s u => ?_, fun H a ns hl _ hT hS => ⟨a, ns, rfl, hS, hl, TabG.empty (hT _ List.mem_cons_self), fun _ => rfl⟩, fun base _ _ tb => ok_law T ⟨tabB_of (tb _ List.mem_cons_self)⟩⟩
      have b := T.B_law
      obtain ⟨oc, od, kV, doc, pm, an, cdv, ct, osl, e, lk, hcd⟩ := T.F_law.ex
      rw [e]
      exact .of_eq rfl) fun _ _ _ _ _ z => z
end K61
open PySem PySem.W PyProof.Rows in
set_option maxRecDepth 100000 in
set_option maxHeartbeats 0 in
theorem PySem.Challenge.cw_everypast_k61_whole_stairs_holds : PySem.Challenge.rw_everypast_k61_whole_stairs.Holds := by
  w_on; o_law; k_head; (case hw => w_witness2)
  k_fill
  refine K61.walk (l := PySem.Challenge.rw_everypast_k61_whole_stairs) rfl rfl (by first | rfl | kernel_rfl | decide +kernel) (fun w h Y => PySem.W.kIn_of Y) ?F rfl
  case F =>
    intro w mg fa h KX G hmg
    refine' K61.all_mk KX G hmg ?z_abs ?z_all ?z_any ?z_bool ?z_enumerate ?z_int ?z_isinstance ?z_len ?z_list ?z_max ?z_range ?z_set ?z_sorted ?z_sum ?z_tuple ?im_gcd ?z_super ?top_ ?thp ?hn_ ?ht_ ?a_FindsError ?a_BadShape ?x_BadShape ?sa_BadShape ?eC_BadShape ?sV_BadShape ?tC_BadShape ?kC_BadShape ?i_BadShape ?tI_BadShape ?l_BadShape ?c_BadShape ?ce_BadShape ?co_BadShape ?v2_BadShape ?fi_BadShape ?su_BadShape ?mo_BadShape ?ks_BadShape ?ga_BadShape ?gg_BadShape ?hd_BadShape ?xn_BadShape ?hc_BadShape ?a_BadLength ?x_BadLength ?sa_BadLength ?eC_BadLength ?sV_BadLength ?tC_BadLength ?kC_BadLength ?i_BadLength ?tI_BadLength ?l_BadLength ?c_BadLength ?ce_BadLength ?co_BadLength ?v2_BadLength ?fi_BadLength ?su_BadLength ?mo_BadLength ?ks_BadLength ?ga_BadLength ?gg_BadLength ?hd_BadLength ?xn_BadLength ?hc_BadLength ?a_BadWeight ?x_BadWeight ?sa_BadWeight ?eC_BadWeight ?sV_BadWeight ?tC_BadWeight ?kC_BadWeight ?i_BadWeight ?tI_BadWeight ?l_BadWeight ?c_BadWeight ?ce_BadWeight ?co_BadWeight ?v2_BadWeight ?fi_BadWeight ?su_BadWeight ?mo_BadWeight ?ks_BadWeight ?ga_BadWeight ?gg_BadWeight ?hd_BadWeight ?xn_BadWeight ?hc_BadWeight ?a_BadCount ?x_BadCount ?sa_BadCount ?eC_BadCount ?sV_BadCount ?tC_BadCount ?kC_BadCount ?i_BadCount ?tI_BadCount ?l_BadCount ?c_BadCount ?ce_BadCount ?co_BadCount ?v2_BadCount ?fi_BadCount ?su_BadCount ?mo_BadCount ?ks_BadCount ?ga_BadCount ?gg_BadCount ?hd_BadCount ?xn_BadCount ?hc_BadCount ?a_BadPosition ?x_BadPosition ?sa_BadPosition ?eC_BadPosition ?sV_BadPosition ?tC_BadPosition ?kC_BadPosition ?i_BadPosition ?tI_BadPosition ?l_BadPosition ?c_BadPosition ?ce_BadPosition ?co_BadPosition ?v2_BadPosition ?fi_BadPosition ?su_BadPosition ?mo_BadPosition ?ks_BadPosition ?ga_BadPosition ?gg_BadPosition ?hd_BadPosition ?xn_BadPosition ?hc_BadPosition ?a_BadSide ?x_BadSide ?sa_BadSide ?eC_BadSide ?sV_BadSide ?tC_BadSide ?kC_BadSide ?i_BadSide ?tI_BadSide ?l_BadSide ?c_BadSide ?ce_BadSide ?co_BadSide ?v2_BadSide ?fi_BadSide ?su_BadSide ?mo_BadSide ?ks_BadSide ?ga_BadSide ?gg_BadSide ?hd_BadSide ?xn_BadSide ?hc_BadSide ?k_BadCount_BadCount ?k_BadCount_BadWeight ?k_BadLength_BadCount ?k_BadLength_BadWeight ?k_BadPosition_BadCount ?k_BadPosition_BadWeight ?k_BadShape_BadCount ?k_BadShape_BadWeight ?k_BadSide_BadCount ?k_BadSide_BadWeight ?k_BadWeight_BadCount ?k_BadWeight_BadWeight ?cbe_FindsError ?cbd_FindsError ?cbt_FindsError ?sb_BadShape_FindsError ?sb_BadLength_FindsError ?sb_BadWeight_FindsError ?sb_BadCount_FindsError ?sb_BadPosition_FindsError ?sb_BadSide_FindsError ?a_Shape ?a_Tunnels ?a_side_masks ?l_side_masks ?c_side_masks ?k_side_masks ?a_Shape_init ?i_Shape_init ?l_Shape_init ?c_Shape_init ?k_Shape_init ?a_Shape_has ?i_Shape_has ?l_Shape_has ?c_Shape_has ?k_Shape_has ?a_Shape_parting ?i_Shape_parting ?l_Shape_parting ?c_Shape_parting ?k_Shape_parting ?a_check_position ?l_check_position ?c_check_position ?k_check_position ?a_check_side ?l_check_side ?c_check_side ?k_check_side ?a_is_number_of_side ?l_is_number_of_side ?c_is_number_of_side ?k_is_number_of_side ?a_Tunnels_init ?i_Tunnels_init ?l_Tunnels_init ?c_Tunnels_init ?k_Tunnels_init ?a_Tunnels_between ?i_Tunnels_between ?l_Tunnels_between ?c_Tunnels_between ?k_Tunnels_between ?a_Tunnels_total ?i_Tunnels_total ?l_Tunnels_total ?c_Tunnels_total ?k_Tunnels_total ?a_Tunnels_parent ?i_Tunnels_parent ?l_Tunnels_parent ?c_Tunnels_parent ?k_Tunnels_parent ?a_Tunnels_branching ?i_Tunnels_branching ?l_Tunnels_branching ?c_Tunnels_branching ?k_Tunnels_branching ?a_Tunnels_check_tunnels ?i_Tunnels_check_tunnels ?l_Tunnels_check_tunnels ?c_Tunnels_check_tunnels ?k_Tunnels_check_tunnels ?a_fault_in ?l_fault_in ?c_fault_in ?k_fault_in ?a_check_weights ?l_check_weights ?c_check_weights ?k_check_weights ?a_best_addition ?l_best_addition ?c_best_addition ?k_best_addition ?a_gains ?l_gains ?c_gains ?k_gains ?a_worthwhile ?l_worthwhile ?c_worthwhile ?k_worthwhile ?a_is_border ?l_is_border ?c_is_border ?k_is_border ?a_prices ?l_prices ?tl_prices ?tp_prices ?tn_prices ?c_prices ?k_prices ?a_check_terms ?l_check_terms ?c_check_terms ?k_check_terms ?a_blocks ?l_blocks ?c_blocks ?k_blocks ?a_corners ?l_corners ?c_corners ?k_corners ?a_height ?l_height ?c_height ?k_height ?a_l_tape ?l_l_tape ?c_l_tape ?k_l_tape ?a_l_next ?l_l_next ?c_l_next ?k_l_next ?a_l_parents ?l_l_parents ?c_l_parents ?k_l_parents ?a_l_is_number ?l_l_is_number ?c_l_is_number ?k_l_is_number ?a_l_same ?l_l_same ?c_l_same ?k_l_same ?a_l_wrong ?l_l_wrong ?c_l_wrong ?k_l_wrong ?a_l_spoilt ?l_l_spoilt ?c_l_spoilt ?k_l_spoilt ?a_l_dug ?l_l_dug ?c_l_dug ?k_l_dug ?a_l_closed ?l_l_closed ?c_l_closed ?k_l_closed ?a_l_rule ?l_l_rule ?c_l_rule ?k_l_rule ?a_l_steeper ?l_l_steeper ?c_l_steeper ?k_l_steeper ?a_l_ends ?l_l_ends ?c_l_ends ?k_l_ends ?a_l_line ?l_l_line ?c_l_line ?k_l_line ?a_l_fraction ?l_l_fraction ?c_l_fraction ?k_l_fraction ?a_l_heights ?l_l_heights ?c_l_heights ?k_l_heights ?a_l_cornered ?l_l_cornered ?c_l_cornered ?k_l_cornered ?a_l_priced ?l_l_priced ?c_l_priced ?k_l_priced ?a_l_asked ?l_l_asked ?c_l_asked ?k_l_asked ?a_l_refused ?l_l_refused ?c_l_refused ?k_l_refused ?a_law ?l_law ?c_law ?k_law ?pg_Shape ?hd_Shape ?po_Shape ?sa_Shape ?mk_Shape ?kc_Shape ?n_Shape_masks ?n_Shape_parents ?n_Shape_size ?pg_Tunnels ?hd_Tunnels ?po_Tunnels ?sa_Tunnels ?mk_Tunnels ?kc_Tunnels ?n_Tunnels_lengths ?n_Tunnels_shape
    (case z_abs => first | k_is | ks_is | rfl | kernel_rfl | decide +kernel)
    (case z_all => first | k_is | ks_is | rfl | kernel_rfl | decide +kernel)
    (case z_any => first | k_is | ks_is | rfl | kernel_rfl | decide +kernel)
    (case z_bool => first | k_is | ks_is | rfl | kernel_rfl | decide +kernel)
    (case z_enumerate => first | k_is | ks_is | rfl | kernel_rfl | decide +kernel)
    (case z_int => first | k_is | ks_is | rfl | kernel_rfl | decide +kernel)
    (case z_isinstance => first | k_is | ks_is | rfl | kernel_rfl | decide +kernel)
    (case z_len => first | k_is | ks_is | rfl | kernel_rfl | decide +kernel)
    (case z_list => first | k_is | ks_is | rfl | kernel_rfl | decide +kernel)
    (case z_max => first | k_is | ks_is | rfl | kernel_rfl | decide +kernel)
    (case z_range => first | k_is | ks_is | rfl | kernel_rfl | decide +kernel)
    (case z_set => first | k_is | ks_is | rfl | kernel_rfl | decide +kernel)
    (case z_sorted => first | k_is | ks_is | rfl | kernel_rfl | decide +kernel)
    (case z_sum => first | k_is | ks_is | rfl | kernel_rfl | decide +kernel)
    (case z_tuple => first | k_is | ks_is | rfl | kernel_rfl | decide +kernel)
    (case im_gcd => first | k_is | ks_is | rfl | kernel_rfl | decide +kernel)
    (case z_super => first | k_is | ks_is | rfl | kernel_rfl | decide +kernel)
    (case top_ => first | k_is | ks_is | rfl | kernel_rfl | decide +kernel)
    (case thp => first | k_is | ks_is | rfl | kernel_rfl | decide +kernel)
    (case hn_ => first | k_is | ks_is | rfl | kernel_rfl | decide +kernel)
    (case ht_ => first | k_is | ks_is | rfl | kernel_rfl | decide +kernel)
    (case a_FindsError => first | k_is | ks_is | rfl | kernel_rfl | decide +kernel)
    (case a_BadShape => first | k_is | ks_is | rfl | kernel_rfl | decide +kernel)
    (case x_BadShape => first | k_is | ks_is | rfl | kernel_rfl | decide +kernel)
    (case sa_BadShape => first | k_is | ks_is | rfl | kernel_rfl | decide +kernel)
    (case eC_BadShape => first | k_is | ks_is | rfl | kernel_rfl | decide +kernel)
    (case sV_BadShape => first | k_is | ks_is | rfl | kernel_rfl | decide +kernel)
    (case tC_BadShape => first | k_is | ks_is | rfl | kernel_rfl | decide +kernel)
    (case kC_BadShape => first | k_is | ks_is | rfl | kernel_rfl | decide +kernel)
    (case i_BadShape => first | k_is | ks_is | rfl | kernel_rfl | decide +kernel)
    (case tI_BadShape => first | k_is | ks_is | rfl | kernel_rfl | decide +kernel)
    (case l_BadShape => first | k_is | ks_is | rfl | kernel_rfl | decide +kernel)
    (case c_BadShape => first | k_is | ks_is | rfl | kernel_rfl | decide +kernel)
    (case ce_BadShape => first | k_is | ks_is | rfl | kernel_rfl | decide +kernel)
    (case co_BadShape => first | k_is | ks_is | rfl | kernel_rfl | decide +kernel)
    (case v2_BadShape => first | k_is | ks_is | rfl | kernel_rfl | decide +kernel)
    (case fi_BadShape => first | k_is | ks_is | rfl | kernel_rfl | decide +kernel)
    (case su_BadShape => first | k_is | ks_is | rfl | kernel_rfl | decide +kernel)
    (case mo_BadShape => first | k_is | ks_is | rfl | kernel_rfl | decide +kernel)
    (case ks_BadShape => first | k_is | ks_is | rfl | kernel_rfl | decide +kernel)
    (case ga_BadShape => first | k_is | ks_is | rfl | kernel_rfl | decide +kernel)
    (case gg_BadShape => first | k_is | ks_is | rfl | kernel_rfl | decide +kernel)
    (case hd_BadShape => first | k_is | ks_is | rfl | kernel_rfl | decide +kernel)
    (case xn_BadShape => first | k_is | ks_is | rfl | kernel_rfl | decide +kernel)
    (case hc_BadShape => first | k_is | ks_is | rfl | kernel_rfl | decide +kernel)
    (case a_BadLength => first | k_is | ks_is | rfl | kernel_rfl | decide +kernel)
    (case x_BadLength => first | k_is | ks_is | rfl | kernel_rfl | decide +kernel)
    (case sa_BadLength => first | k_is | ks_is | rfl | kernel_rfl | decide +kernel)
    (case eC_BadLength => first | k_is | ks_is | rfl | kernel_rfl | decide +kernel)
    (case sV_BadLength => first | k_is | ks_is | rfl | kernel_rfl | decide +kernel)
    (case tC_BadLength => first | k_is | ks_is | rfl | kernel_rfl | decide +kernel)
    (case kC_BadLength => first | k_is | ks_is | rfl | kernel_rfl | decide +kernel)
    (case i_BadLength => first | k_is | ks_is | rfl | kernel_rfl | decide +kernel)
    (case tI_BadLength => first | k_is | ks_is | rfl | kernel_rfl | decide +kernel)
    (case l_BadLength => first | k_is | ks_is | rfl | kernel_rfl | decide +kernel)
    (case c_BadLength => first | k_is | ks_is | rfl | kernel_rfl | decide +kernel)
    (case ce_BadLength => first | k_is | ks_is | rfl | kernel_rfl | decide +kernel)
    (case co_BadLength => first | k_is | ks_is | rfl | kernel_rfl | decide +kernel)
    (case v2_BadLength => first | k_is | ks_is | rfl | kernel_rfl | decide +kernel)
    (case fi_BadLength => first | k_is | ks_is | rfl | kernel_rfl | decide +kernel)
    (case su_BadLength => first | k_is | ks_is | rfl | kernel_rfl | decide +kernel)
    (case mo_BadLength => first | k_is | ks_is | rfl | kernel_rfl | decide +kernel)
    (case ks_BadLength => first | k_is | ks_is | rfl | kernel_rfl | decide +kernel)
    (case ga_BadLength => first | k_is | ks_is | rfl | kernel_rfl | decide +kernel)
    (case gg_BadLength => first | k_is | ks_is | rfl | kernel_rfl | decide +kernel)
    (case hd_BadLength => first | k_is | ks_is | rfl | kernel_rfl | decide +kernel)
    (case xn_BadLength => first | k_is | ks_is | rfl | kernel_rfl | decide +kernel)
    (case hc_BadLength => first | k_is | ks_is | rfl | kernel_rfl | decide +kernel)
    (case a_BadWeight => first | k_is | ks_is | rfl | kernel_rfl | decide +kernel)
    (case x_BadWeight => first | k_is | ks_is | rfl | kernel_rfl | decide +kernel)
    (case sa_BadWeight => first | k_is | ks_is | rfl | kernel_rfl | decide +kernel)
    (case eC_BadWeight => first | k_is | ks_is | rfl | kernel_rfl | decide +kernel)
    (case sV_BadWeight => first | k_is | ks_is | rfl | kernel_rfl | decide +kernel)
    (case tC_BadWeight => first | k_is | ks_is | rfl | kernel_rfl | decide +kernel)
    (case kC_BadWeight => first | k_is | ks_is | rfl | kernel_rfl | decide +kernel)
    (case i_BadWeight => first | k_is | ks_is | rfl | kernel_rfl | decide +kernel)
    (case tI_BadWeight => first | k_is | ks_is | rfl | kernel_rfl | decide +kernel)
    (case l_BadWeight => first | k_is | ks_is | rfl | kernel_rfl | decide +kernel)
    (case c_BadWeight => first | k_is | ks_is | rfl | kernel_rfl | decide +kernel)
    (case ce_BadWeight => first | k_is | ks_is | rfl | kernel_rfl | decide +kernel)
    (case co_BadWeight => first | k_is | ks_is | rfl | kernel_rfl | decide +kernel)
    (case v2_BadWeight => first | k_is | ks_is | rfl | kernel_rfl | decide +kernel)
    (case fi_BadWeight => first | k_is | ks_is | rfl | kernel_rfl | decide +kernel)
    (case su_BadWeight => first | k_is | ks_is | rfl | kernel_rfl | decide +kernel)
    (case mo_BadWeight => first | k_is | ks_is | rfl | kernel_rfl | decide +kernel)
    (case ks_BadWeight => first | k_is | ks_is | rfl | kernel_rfl | decide +kernel)
    (case ga_BadWeight => first | k_is | ks_is | rfl | kernel_rfl | decide +kernel)
    (case gg_BadWeight => first | k_is | ks_is | rfl | kernel_rfl | decide +kernel)
    (case hd_BadWeight => first | k_is | ks_is | rfl | kernel_rfl | decide +kernel)
    (case xn_BadWeight => first | k_is | ks_is | rfl | kernel_rfl | decide +kernel)
    (case hc_BadWeight => first | k_is | ks_is | rfl | kernel_rfl | decide +kernel)
    (case a_BadCount => first | k_is | ks_is | rfl | kernel_rfl | decide +kernel)
    (case x_BadCount => first | k_is | ks_is | rfl | kernel_rfl | decide +kernel)
    (case sa_BadCount => first | k_is | ks_is | rfl | kernel_rfl | decide +kernel)
    (case eC_BadCount => first | k_is | ks_is | rfl | kernel_rfl | decide +kernel)
    (case sV_BadCount => first | k_is | ks_is | rfl | kernel_rfl | decide +kernel)
    (case tC_BadCount => first | k_is | ks_is | rfl | kernel_rfl | decide +kernel)
    (case kC_BadCount => first | k_is | ks_is | rfl | kernel_rfl | decide +kernel)
    (case i_BadCount => first | k_is | ks_is | rfl | kernel_rfl | decide +kernel)
    (case tI_BadCount => first | k_is | ks_is | rfl | kernel_rfl | decide +kernel)
    (case l_BadCount => first | k_is | ks_is | rfl | kernel_rfl | decide +kernel)
    (case c_BadCount => first | k_is | ks_is | rfl | kernel_rfl | decide +kernel)
    (case ce_BadCount => first | k_is | ks_is | rfl | kernel_rfl | decide +kernel)
    (case co_BadCount => first | k_is | ks_is | rfl | kernel_rfl | decide +kernel)
    (case v2_BadCount => first | k_is | ks_is | rfl | kernel_rfl | decide +kernel)
    (case fi_BadCount => first | k_is | ks_is | rfl | kernel_rfl | decide +kernel)
    (case su_BadCount => first | k_is | ks_is | rfl | kernel_rfl | decide +kernel)
    (case mo_BadCount => first | k_is | ks_is | rfl | kernel_rfl | decide +kernel)
    (case ks_BadCount => first | k_is | ks_is | rfl | kernel_rfl | decide +kernel)
    (case ga_BadCount => first | k_is | ks_is | rfl | kernel_rfl | decide +kernel)
    (case gg_BadCount => first | k_is | ks_is | rfl | kernel_rfl | decide +kernel)
    (case hd_BadCount => first | k_is | ks_is | rfl | kernel_rfl | decide +kernel)
    (case xn_BadCount => first | k_is | ks_is | rfl | kernel_rfl | decide +kernel)
    (case hc_BadCount => first | k_is | ks_is | rfl | kernel_rfl | decide +kernel)
    (case a_BadPosition => first | k_is | ks_is | rfl | kernel_rfl | decide +kernel)
    (case x_BadPosition => first | k_is | ks_is | rfl | kernel_rfl | decide +kernel)
    (case sa_BadPosition => first | k_is | ks_is | rfl | kernel_rfl | decide +kernel)
    (case eC_BadPosition => first | k_is | ks_is | rfl | kernel_rfl | decide +kernel)
    (case sV_BadPosition => first | k_is | ks_is | rfl | kernel_rfl | decide +kernel)
    (case tC_BadPosition => first | k_is | ks_is | rfl | kernel_rfl | decide +kernel)
    (case kC_BadPosition => first | k_is | ks_is | rfl | kernel_rfl | decide +kernel)
    (case i_BadPosition => first | k_is | ks_is | rfl | kernel_rfl | decide +kernel)
    (case tI_BadPosition => first | k_is | ks_is | rfl | kernel_rfl | decide +kernel)
    (case l_BadPosition => first | k_is | ks_is | rfl | kernel_rfl | decide +kernel)
    (case c_BadPosition => first | k_is | ks_is | rfl | kernel_rfl | decide +kernel)
    (case ce_BadPosition => first | k_is | ks_is | rfl | kernel_rfl | decide +kernel)
    (case co_BadPosition => first | k_is | ks_is | rfl | kernel_rfl | decide +kernel)
    (case v2_BadPosition => first | k_is | ks_is | rfl | kernel_rfl | decide +kernel)
    (case fi_BadPosition => first | k_is | ks_is | rfl | kernel_rfl | decide +kernel)
    (case su_BadPosition => first | k_is | ks_is | rfl | kernel_rfl | decide +kernel)
    (case mo_BadPosition => first | k_is | ks_is | rfl | kernel_rfl | decide +kernel)
    (case ks_BadPosition => first | k_is | ks_is | rfl | kernel_rfl | decide +kernel)
    (case ga_BadPosition => first | k_is | ks_is | rfl | kernel_rfl | decide +kernel)
    (case gg_BadPosition => first | k_is | ks_is | rfl | kernel_rfl | decide +kernel)
    (case hd_BadPosition => first | k_is | ks_is | rfl | kernel_rfl | decide +kernel)
    (case xn_BadPosition => first | k_is | ks_is | rfl | kernel_rfl | decide +kernel)
    (case hc_BadPosition => first | k_is | ks_is | rfl | kernel_rfl | decide +kernel)
    (case a_BadSide => first | k_is | ks_is | rfl | kernel_rfl | decide +kernel)
    (case x_BadSide => first | k_is | ks_is | rfl | kernel_rfl | decide +kernel)
    (case sa_BadSide => first | k_is | ks_is | rfl | kernel_rfl | decide +kernel)
    (case eC_BadSide => first | k_is | ks_is | rfl | kernel_rfl | decide +kernel)
    (case sV_BadSide => first | k_is | ks_is | rfl | kernel_rfl | decide +kernel)
    (case tC_BadSide => first | k_is | ks_is | rfl | kernel_rfl | decide +kernel)
    (case kC_BadSide => first | k_is | ks_is | rfl | kernel_rfl | decide +kernel)
    (case i_BadSide => first | k_is | ks_is | rfl | kernel_rfl | decide +kernel)
    (case tI_BadSide => first | k_is | ks_is | rfl | kernel_rfl | decide +kernel)
    (case l_BadSide => first | k_is | ks_is | rfl | kernel_rfl | decide +kernel)
    (case c_BadSide => first | k_is | ks_is | rfl | kernel_rfl | decide +kernel)
    (case ce_BadSide => first | k_is | ks_is | rfl | kernel_rfl | decide +kernel)
    (case co_BadSide => first | k_is | ks_is | rfl | kernel_rfl | decide +kernel)
    (case v2_BadSide => first | k_is | ks_is | rfl | kernel_rfl | decide +kernel)
    (case fi_BadSide => first | k_is | ks_is | rfl | kernel_rfl | decide +kernel)
    (case su_BadSide => first | k_is | ks_is | rfl | kernel_rfl | decide +kernel)
    (case mo_BadSide => first | k_is | ks_is | rfl | kernel_rfl | decide +kernel)
    (case ks_BadSide => first | k_is | ks_is | rfl | kernel_rfl | decide +kernel)
    (case ga_BadSide => first | k_is | ks_is | rfl | kernel_rfl | decide +kernel)
    (case gg_BadSide => first | k_is | ks_is | rfl | kernel_rfl | decide +kernel)
    (case hd_BadSide => first | k_is | ks_is | rfl | kernel_rfl | decide +kernel)
    (case xn_BadSide => first | k_is | ks_is | rfl | kernel_rfl | decide +kernel)
    (case hc_BadSide => first | k_is | ks_is | rfl | kernel_rfl | decide +kernel)
    (case k_BadCount_BadCount => first | k_is | ks_is | rfl | kernel_rfl | decide +kernel)
    (case k_BadCount_BadWeight => first | k_is | ks_is | rfl | kernel_rfl | decide +kernel)
    (case k_BadLength_BadCount => first | k_is | ks_is | rfl | kernel_rfl | decide +kernel)
    (case k_BadLength_BadWeight => first | k_is | ks_is | rfl | kernel_rfl | decide +kernel)
    (case k_BadPosition_BadCount => first | k_is | ks_is | rfl | kernel_rfl | decide +kernel)
    (case k_BadPosition_BadWeight => first | k_is | ks_is | rfl | kernel_rfl | decide +kernel)
    (case k_BadShape_BadCount => first | k_is | ks_is | rfl | kernel_rfl | decide +kernel)
    (case k_BadShape_BadWeight => first | k_is | ks_is | rfl | kernel_rfl | decide +kernel)
    (case k_BadSide_BadCount => first | k_is | ks_is | rfl | kernel_rfl | decide +kernel)
    (case k_BadSide_BadWeight => first | k_is | ks_is | rfl | kernel_rfl | decide +kernel)
    (case k_BadWeight_BadCount => first | k_is | ks_is | rfl | kernel_rfl | decide +kernel)
    (case k_BadWeight_BadWeight => first | k_is | ks_is | rfl | kernel_rfl | decide +kernel)
    (case cbe_FindsError => first | k_is | ks_is | rfl | kernel_rfl | decide +kernel)
    (case cbd_FindsError => first | k_is | ks_is | rfl | kernel_rfl | decide +kernel)
    (case cbt_FindsError => first | k_is | ks_is | rfl | kernel_rfl | decide +kernel)
    (case sb_BadShape_FindsError => first | k_is | ks_is | rfl | kernel_rfl | decide +kernel)
    (case sb_BadLength_FindsError => first | k_is | ks_is | rfl | kernel_rfl | decide +kernel)
    (case sb_BadWeight_FindsError => first | k_is | ks_is | rfl | kernel_rfl | decide +kernel)
    (case sb_BadCount_FindsError => first | k_is | ks_is | rfl | kernel_rfl | decide +kernel)
    (case sb_BadPosition_FindsError => first | k_is | ks_is | rfl | kernel_rfl | decide +kernel)
    (case sb_BadSide_FindsError => first | k_is | ks_is | rfl | kernel_rfl | decide +kernel)
    (case a_Shape => first | k_is | ks_is | rfl | kernel_rfl | decide +kernel)
    (case a_Tunnels => first | k_is | ks_is | rfl | kernel_rfl | decide +kernel)
    (case a_side_masks => first | k_is | ks_is | rfl | kernel_rfl | decide +kernel)
    (case l_side_masks => first | k_is | ks_is | rfl | kernel_rfl | decide +kernel)
    (case c_side_masks => first | k_is | ks_is | rfl | kernel_rfl | decide +kernel)
    (case k_side_masks => first | k_is | ks_is | rfl | kernel_rfl | decide +kernel)
    (case a_Shape_init => first | k_is | ks_is | rfl | kernel_rfl | decide +kernel)
    (case i_Shape_init => first | k_is | ks_is | rfl | kernel_rfl | decide +kernel)
    (case l_Shape_init => first | k_is | ks_is | rfl | kernel_rfl | decide +kernel)
    (case c_Shape_init => first | k_is | ks_is | rfl | kernel_rfl | decide +kernel)
    (case k_Shape_init => first | k_is | ks_is | rfl | kernel_rfl | decide +kernel)
    (case a_Shape_has => first | k_is | ks_is | rfl | kernel_rfl | decide +kernel)
    (case i_Shape_has => first | k_is | ks_is | rfl | kernel_rfl | decide +kernel)
    (case l_Shape_has => first | k_is | ks_is | rfl | kernel_rfl | decide +kernel)
    (case c_Shape_has => first | k_is | ks_is | rfl | kernel_rfl | decide +kernel)
    (case k_Shape_has => first | k_is | ks_is | rfl | kernel_rfl | decide +kernel)
    (case a_Shape_parting => first | k_is | ks_is | rfl | kernel_rfl | decide +kernel)
    (case i_Shape_parting => first | k_is | ks_is | rfl | kernel_rfl | decide +kernel)
    (case l_Shape_parting => first | k_is | ks_is | rfl | kernel_rfl | decide +kernel)
    (case c_Shape_parting => first | k_is | ks_is | rfl | kernel_rfl | decide +kernel)
    (case k_Shape_parting => first | k_is | ks_is | rfl | kernel_rfl | decide +kernel)
    (case a_check_position => first | k_is | ks_is | rfl | kernel_rfl | decide +kernel)
    (case l_check_position => first | k_is | ks_is | rfl | kernel_rfl | decide +kernel)
    (case c_check_position => first | k_is | ks_is | rfl | kernel_rfl | decide +kernel)
    (case k_check_position => first | k_is | ks_is | rfl | kernel_rfl | decide +kernel)
    (case a_check_side => first | k_is | ks_is | rfl | kernel_rfl | decide +kernel)
    (case l_check_side => first | k_is | ks_is | rfl | kernel_rfl | decide +kernel)
    (case c_check_side => first | k_is | ks_is | rfl | kernel_rfl | decide +kernel)
    (case k_check_side => first | k_is | ks_is | rfl | kernel_rfl | decide +kernel)
    (case a_is_number_of_side => first | k_is | ks_is | rfl | kernel_rfl | decide +kernel)
    (case l_is_number_of_side => first | k_is | ks_is | rfl | kernel_rfl | decide +kernel)
    (case c_is_number_of_side => first | k_is | ks_is | rfl | kernel_rfl | decide +kernel)
    (case k_is_number_of_side => first | k_is | ks_is | rfl | kernel_rfl | decide +kernel)
    (case a_Tunnels_init => first | k_is | ks_is | rfl | kernel_rfl | decide +kernel)
    (case i_Tunnels_init => first | k_is | ks_is | rfl | kernel_rfl | decide +kernel)
    (case l_Tunnels_init => first | k_is | ks_is | rfl | kernel_rfl | decide +kernel)
    (case c_Tunnels_init => first | k_is | ks_is | rfl | kernel_rfl | decide +kernel)
    (case k_Tunnels_init => first | k_is | ks_is | rfl | kernel_rfl | decide +kernel)
    (case a_Tunnels_between => first | k_is | ks_is | rfl | kernel_rfl | decide +kernel)
    (case i_Tunnels_between => first | k_is | ks_is | rfl | kernel_rfl | decide +kernel)
    (case l_Tunnels_between => first | k_is | ks_is | rfl | kernel_rfl | decide +kernel)
    (case c_Tunnels_between => first | k_is | ks_is | rfl | kernel_rfl | decide +kernel)
    (case k_Tunnels_between => first | k_is | ks_is | rfl | kernel_rfl | decide +kernel)
    (case a_Tunnels_total => first | k_is | ks_is | rfl | kernel_rfl | decide +kernel)
    (case i_Tunnels_total => first | k_is | ks_is | rfl | kernel_rfl | decide +kernel)
    (case l_Tunnels_total => first | k_is | ks_is | rfl | kernel_rfl | decide +kernel)
    (case c_Tunnels_total => first | k_is | ks_is | rfl | kernel_rfl | decide +kernel)
    (case k_Tunnels_total => first | k_is | ks_is | rfl | kernel_rfl | decide +kernel)
    (case a_Tunnels_parent => first | k_is | ks_is | rfl | kernel_rfl | decide +kernel)
    (case i_Tunnels_parent => first | k_is | ks_is | rfl | kernel_rfl | decide +kernel)
    (case l_Tunnels_parent => first | k_is | ks_is | rfl | kernel_rfl | decide +kernel)
    (case c_Tunnels_parent => first | k_is | ks_is | rfl | kernel_rfl | decide +kernel)
    (case k_Tunnels_parent => first | k_is | ks_is | rfl | kernel_rfl | decide +kernel)
    (case a_Tunnels_branching => first | k_is | ks_is | rfl | kernel_rfl | decide +kernel)
    (case i_Tunnels_branching => first | k_is | ks_is | rfl | kernel_rfl | decide +kernel)
    (case l_Tunnels_branching => first | k_is | ks_is | rfl | kernel_rfl | decide +kernel)
    (case c_Tunnels_branching => first | k_is | ks_is | rfl | kernel_rfl | decide +kernel)
    (case k_Tunnels_branching => first | k_is | ks_is | rfl | kernel_rfl | decide +kernel)
    (case a_Tunnels_check_tunnels => first | k_is | ks_is | rfl | kernel_rfl | decide +kernel)
    (case i_Tunnels_check_tunnels => first | k_is | ks_is | rfl | kernel_rfl | decide +kernel)
    (case l_Tunnels_check_tunnels => first | k_is | ks_is | rfl | kernel_rfl | decide +kernel)
    (case c_Tunnels_check_tunnels => first | k_is | ks_is | rfl | kernel_rfl | decide +kernel)
    (case k_Tunnels_check_tunnels => first | k_is | ks_is | rfl | kernel_rfl | decide +kernel)
    (case a_fault_in => first | k_is | ks_is | rfl | kernel_rfl | decide +kernel)
    (case l_fault_in => first | k_is | ks_is | rfl | kernel_rfl | decide +kernel)
    (case c_fault_in => first | k_is | ks_is | rfl | kernel_rfl | decide +kernel)
    (case k_fault_in => first | k_is | ks_is | rfl | kernel_rfl | decide +kernel)
    (case a_check_weights => first | k_is | ks_is | rfl | kernel_rfl | decide +kernel)
    (case l_check_weights => first | k_is | ks_is | rfl | kernel_rfl | decide +kernel)
    (case c_check_weights => first | k_is | ks_is | rfl | kernel_rfl | decide +kernel)
    (case k_check_weights => first | k_is | ks_is | rfl | kernel_rfl | decide +kernel)
    (case a_best_addition => first | k_is | ks_is | rfl | kernel_rfl | decide +kernel)
    (case l_best_addition => first | k_is | ks_is | rfl | kernel_rfl | decide +kernel)
    (case c_best_addition => first | k_is | ks_is | rfl | kernel_rfl | decide +kernel)
    (case k_best_addition => first | k_is | ks_is | rfl | kernel_rfl | decide +kernel)
    (case a_gains => first | k_is | ks_is | rfl | kernel_rfl | decide +kernel)
    (case l_gains => first | k_is | ks_is | rfl | kernel_rfl | decide +kernel)
    (case c_gains => first | k_is | ks_is | rfl | kernel_rfl | decide +kernel)
    (case k_gains => first | k_is | ks_is | rfl | kernel_rfl | decide +kernel)
    (case a_worthwhile => first | k_is | ks_is | rfl | kernel_rfl | decide +kernel)
    (case l_worthwhile => first | k_is | ks_is | rfl | kernel_rfl | decide +kernel)
    (case c_worthwhile => first | k_is | ks_is | rfl | kernel_rfl | decide +kernel)
    (case k_worthwhile => first | k_is | ks_is | rfl | kernel_rfl | decide +kernel)
    (case a_is_border => first | k_is | ks_is | rfl | kernel_rfl | decide +kernel)
    (case l_is_border => first | k_is | ks_is | rfl | kernel_rfl | decide +kernel)
    (case c_is_border => first | k_is | ks_is | rfl | kernel_rfl | decide +kernel)
    (case k_is_border => first | k_is | ks_is | rfl | kernel_rfl | decide +kernel)
    (case a_prices => first | k_is | ks_is | rfl | kernel_rfl | decide +kernel)
    (case l_prices => first | k_is | ks_is | rfl | kernel_rfl | decide +kernel)
    (case tl_prices => first | k_is | ks_is | rfl | kernel_rfl | decide +kernel)
    (case tp_prices => first | k_is | ks_is | rfl | kernel_rfl | decide +kernel)
    (case tn_prices => first | k_is | ks_is | rfl | kernel_rfl | decide +kernel)
    (case c_prices => first | k_is | ks_is | rfl | kernel_rfl | decide +kernel)
    (case k_prices => first | k_is | ks_is | rfl | kernel_rfl | decide +kernel)
    (case a_check_terms => first | k_is | ks_is | rfl | kernel_rfl | decide +kernel)
    (case l_check_terms => first | k_is | ks_is | rfl | kernel_rfl | decide +kernel)
    (case c_check_terms => first | k_is | ks_is | rfl | kernel_rfl | decide +kernel)
    (case k_check_terms => first | k_is | ks_is | rfl | kernel_rfl | decide +kernel)
    (case a_blocks => first | k_is | ks_is | rfl | kernel_rfl | decide +kernel)
    (case l_blocks => first | k_is | ks_is | rfl | kernel_rfl | decide +kernel)
    (case c_blocks => first | k_is | ks_is | rfl | kernel_rfl | decide +kernel)
    (case k_blocks => first | k_is | ks_is | rfl | kernel_rfl | decide +kernel)
    (case a_corners => first | k_is | ks_is | rfl | kernel_rfl | decide +kernel)
    (case l_corners => first | k_is | ks_is | rfl | kernel_rfl | decide +kernel)
    (case c_corners => first | k_is | ks_is | rfl | kernel_rfl | decide +kernel)
    (case k_corners => first | k_is | ks_is | rfl | kernel_rfl | decide +kernel)
    (case a_height => first | k_is | ks_is | rfl | kernel_rfl | decide +kernel)
    (case l_height => first | k_is | ks_is | rfl | kernel_rfl | decide +kernel)
    (case c_height => first | k_is | ks_is | rfl | kernel_rfl | decide +kernel)
    (case k_height => first | k_is | ks_is | rfl | kernel_rfl | decide +kernel)
    (case a_l_tape => first | k_is | ks_is | rfl | kernel_rfl | decide +kernel)
    (case l_l_tape => first | k_is | ks_is | rfl | kernel_rfl | decide +kernel)
    (case c_l_tape => first | k_is | ks_is | rfl | kernel_rfl | decide +kernel)
    (case k_l_tape => first | k_is | ks_is | rfl | kernel_rfl | decide +kernel)
    (case a_l_next => first | k_is | ks_is | rfl | kernel_rfl | decide +kernel)
    (case l_l_next => first | k_is | ks_is | rfl | kernel_rfl | decide +kernel)
    (case c_l_next => first | k_is | ks_is | rfl | kernel_rfl | decide +kernel)
    (case k_l_next => first | k_is | ks_is | rfl | kernel_rfl | decide +kernel)
    (case a_l_parents => first | k_is | ks_is | rfl | kernel_rfl | decide +kernel)
    (case l_l_parents => first | k_is | ks_is | rfl | kernel_rfl | decide +kernel)
    (case c_l_parents => first | k_is | ks_is | rfl | kernel_rfl | decide +kernel)
    (case k_l_parents => first | k_is | ks_is | rfl | kernel_rfl | decide +kernel)
    (case a_l_is_number => first | k_is | ks_is | rfl | kernel_rfl | decide +kernel)
    (case l_l_is_number => first | k_is | ks_is | rfl | kernel_rfl | decide +kernel)
    (case c_l_is_number => first | k_is | ks_is | rfl | kernel_rfl | decide +kernel)
    (case k_l_is_number => first | k_is | ks_is | rfl | kernel_rfl | decide +kernel)
    (case a_l_same => first | k_is | ks_is | rfl | kernel_rfl | decide +kernel)
    (case l_l_same => first | k_is | ks_is | rfl | kernel_rfl | decide +kernel)
    (case c_l_same => first | k_is | ks_is | rfl | kernel_rfl | decide +kernel)
    (case k_l_same => first | k_is | ks_is | rfl | kernel_rfl | decide +kernel)
    (case a_l_wrong => first | k_is | ks_is | rfl | kernel_rfl | decide +kernel)
    (case l_l_wrong => first | k_is | ks_is | rfl | kernel_rfl | decide +kernel)
    (case c_l_wrong => first | k_is | ks_is | rfl | kernel_rfl | decide +kernel)
    (case k_l_wrong => first | k_is | ks_is | rfl | kernel_rfl | decide +kernel)
    (case a_l_spoilt => first | k_is | ks_is | rfl | kernel_rfl | decide +kernel)
    (case l_l_spoilt => first | k_is | ks_is | rfl | kernel_rfl | decide +kernel)
    (case c_l_spoilt => first | k_is | ks_is | rfl | kernel_rfl | decide +kernel)
    (case k_l_spoilt => first | k_is | ks_is | rfl | kernel_rfl | decide +kernel)
    (case a_l_dug => first | k_is | ks_is | rfl | kernel_rfl | decide +kernel)
    (case l_l_dug => first | k_is | ks_is | rfl | kernel_rfl | decide +kernel)
    (case c_l_dug => first | k_is | ks_is | rfl | kernel_rfl | decide +kernel)
    (case k_l_dug => first | k_is | ks_is | rfl | kernel_rfl | decide +kernel)
    (case a_l_closed => first | k_is | ks_is | rfl | kernel_rfl | decide +kernel)
    (case l_l_closed => first | k_is | ks_is | rfl | kernel_rfl | decide +kernel)
    (case c_l_closed => first | k_is | ks_is | rfl | kernel_rfl | decide +kernel)
    (case k_l_closed => first | k_is | ks_is | rfl | kernel_rfl | decide +kernel)
    (case a_l_rule => first | k_is | ks_is | rfl | kernel_rfl | decide +kernel)
    (case l_l_rule => first | k_is | ks_is | rfl | kernel_rfl | decide +kernel)
    (case c_l_rule => first | k_is | ks_is | rfl | kernel_rfl | decide +kernel)
    (case k_l_rule => first | k_is | ks_is | rfl | kernel_rfl | decide +kernel)
    (case a_l_steeper => first | k_is | ks_is | rfl | kernel_rfl | decide +kernel)
    (case l_l_steeper => first | k_is | ks_is | rfl | kernel_rfl | decide +kernel)
    (case c_l_steeper => first | k_is | ks_is | rfl | kernel_rfl | decide +kernel)
    (case k_l_steeper => first | k_is | ks_is | rfl | kernel_rfl | decide +kernel)
    (case a_l_ends => first | k_is | ks_is | rfl | kernel_rfl | decide +kernel)
    (case l_l_ends => first | k_is | ks_is | rfl | kernel_rfl | decide +kernel)
    (case c_l_ends => first | k_is | ks_is | rfl | kernel_rfl | decide +kernel)
    (case k_l_ends => first | k_is | ks_is | rfl | kernel_rfl | decide +kernel)
    (case a_l_line => first | k_is | ks_is | rfl | kernel_rfl | decide +kernel)
    (case l_l_line => first | k_is | ks_is | rfl | kernel_rfl | decide +kernel)
    (case c_l_line => first | k_is | ks_is | rfl | kernel_rfl | decide +kernel)
    (case k_l_line => first | k_is | ks_is | rfl | kernel_rfl | decide +kernel)
    (case a_l_fraction => first | k_is | ks_is | rfl | kernel_rfl | decide +kernel)
    (case l_l_fraction => first | k_is | ks_is | rfl | kernel_rfl | decide +kernel)
    (case c_l_fraction => first | k_is | ks_is | rfl | kernel_rfl | decide +kernel)
    (case k_l_fraction => first | k_is | ks_is | rfl | kernel_rfl | decide +kernel)
    (case a_l_heights => first | k_is | ks_is | rfl | kernel_rfl | decide +kernel)
    (case l_l_heights => first | k_is | ks_is | rfl | kernel_rfl | decide +kernel)
    (case c_l_heights => first | k_is | ks_is | rfl | kernel_rfl | decide +kernel)
    (case k_l_heights => first | k_is | ks_is | rfl | kernel_rfl | decide +kernel)
    (case a_l_cornered => first | k_is | ks_is | rfl | kernel_rfl | decide +kernel)
    (case l_l_cornered => first | k_is | ks_is | rfl | kernel_rfl | decide +kernel)
    (case c_l_cornered => first | k_is | ks_is | rfl | kernel_rfl | decide +kernel)
    (case k_l_cornered => first | k_is | ks_is | rfl | kernel_rfl | decide +kernel)
    (case a_l_priced => first | k_is | ks_is | rfl | kernel_rfl | decide +kernel)
    (case l_l_priced => first | k_is | ks_is | rfl | kernel_rfl | decide +kernel)
    (case c_l_priced => first | k_is | ks_is | rfl | kernel_rfl | decide +kernel)
    (case k_l_priced => first | k_is | ks_is | rfl | kernel_rfl | decide +kernel)
    (case a_l_asked => first | k_is | ks_is | rfl | kernel_rfl | decide +kernel)
    (case l_l_asked => first | k_is | ks_is | rfl | kernel_rfl | decide +kernel)
    (case c_l_asked => first | k_is | ks_is | rfl | kernel_rfl | decide +kernel)
    (case k_l_asked => first | k_is | ks_is | rfl | kernel_rfl | decide +kernel)
    (case a_l_refused => first | k_is | ks_is | rfl | kernel_rfl | decide +kernel)
    (case l_l_refused => first | k_is | ks_is | rfl | kernel_rfl | decide +kernel)
    (case c_l_refused => first | k_is | ks_is | rfl | kernel_rfl | decide +kernel)
    (case k_l_refused => first | k_is | ks_is | rfl | kernel_rfl | decide +kernel)
    (case a_law => first | k_is | ks_is | rfl | kernel_rfl | decide +kernel)
    (case l_law => first | k_is | ks_is | rfl | kernel_rfl | decide +kernel)
    (case c_law => first | k_is | ks_is | rfl | kernel_rfl | decide +kernel)
    (case k_law => first | k_is | ks_is | rfl | kernel_rfl | decide +kernel)
    (case pg_Shape => first | k_is | ks_is | rfl | kernel_rfl | decide +kernel)
    (case hd_Shape => first | k_is | ks_is | rfl | kernel_rfl | decide +kernel)
    (case po_Shape => first | k_is | ks_is | rfl | kernel_rfl | decide +kernel)
    (case sa_Shape => first | k_is | ks_is | rfl | kernel_rfl | decide +kernel)
    (case mk_Shape => first | k_is | ks_is | rfl | kernel_rfl | decide +kernel)
    (case kc_Shape => first | k_is | ks_is | rfl | kernel_rfl | decide +kernel)
    (case n_Shape_masks => first | k_is | ks_is | rfl | kernel_rfl | decide +kernel)
    (case n_Shape_parents => first | k_is | ks_is | rfl | kernel_rfl | decide +kernel)
    (case n_Shape_size => first | k_is | ks_is | rfl | kernel_rfl | decide +kernel)
    (case pg_Tunnels => first | k_is | ks_is | rfl | kernel_rfl | decide +kernel)
    (case hd_Tunnels => first | k_is | ks_is | rfl | kernel_rfl | decide +kernel)
    (case po_Tunnels => first | k_is | ks_is | rfl | kernel_rfl | decide +kernel)
    (case sa_Tunnels => first | k_is | ks_is | rfl | kernel_rfl | decide +kernel)
    (case mk_Tunnels => first | k_is | ks_is | rfl | kernel_rfl | decide +kernel)
    (case kc_Tunnels => first | k_is | ks_is | rfl | kernel_rfl | decide +kernel)
    (case n_Tunnels_lengths => first | k_is | ks_is | rfl | kernel_rfl | decide +kernel)
    (case n_Tunnels_shape => first | k_is | ks_is | rfl | kernel_rfl | decide +kernel)
