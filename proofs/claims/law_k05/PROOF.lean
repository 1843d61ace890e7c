import PyProof.Rows.All
import Wide.All
import OpenK.AllK
import Wide.FinOn
import HandS.ForMost
import HandS.Exc
import HandS.TryOnly
import HandS.ExcOwn
import HandS.WordsExc
import HandS.ExcInit
import HandS.ExcIs
import HandS.ExcField
import KE.KExcSuper
import HandS.FStr
import HandS.HotCalls
import KE.KExcIs
import HandS.IsInst
import HandS.Wide
import HandS.Style
import HandS.ExcCtx
import HandS.List
import KE.GoesMore
import KE.BitLaws
import HandS.WideBits
import HandS.Codes
import KE.KEqDeep
import KE.KEqSeq
import HandS.Conv
import HandS.AnyAll
import HandS.GenOver
import PyProof.GenQ
import PyProof.ConsumeS
import PyProof.SumAny
import HandS.TupAny
import HandS.EndTab
import HandS.EndOwn
import HandS.Flow
import PySem.Challenge.RW_everypast_k05_sides_that_meet_in_twos
set_option Elab.async false
set_option linter.all false
set_option maxRecDepth 100000
set_option maxHeartbeats 4000000
/-! An own exception class whose __init__ begins with super().__init__(..): its __init__ as a def of the layer. -/
namespace EP
open PySem L2 PySem.Spec PyProof.Rows
open PySem.W (ksFn ksEnv)

theorem lookup_rev_zip : ∀ {ps : List Str} {us : List Value} {i : Nat} {x : Str} {u : Value}, ps.Nodup → ps[i]? = some x → us[i]? = some u → (ps.zip us).reverse.lookup x = some u
  | [], _, _, _, _, _, h, _ => by simp at h
  | _ :: _, [], _, _, _, _, _, h => by simp at h
  | p :: ps, w :: us, 0, x, u, nd, h1, h2 => by
    simp at h1 h2; subst h1; subst h2
    rw [List.zip_cons_cons, List.reverse_cons, List.lookup_append]
    have hn : (ps.zip us).reverse.lookup p = none := by
      cases e : (ps.zip us).reverse.lookup p with
      | none => rfl
      | some v =>
        have q := PySem.mem_of_lookup e
        exact absurd (List.of_mem_zip (List.mem_reverse.mp q)).1 (List.nodup_cons.mp nd).1
    rw [hn]
    simp [List.lookup]
  | p :: ps, w :: us, i + 1, x, u, nd, h1, h2 => by
    rw [List.zip_cons_cons, List.reverse_cons, List.lookup_append]
    rw [lookup_rev_zip (i := i) (List.nodup_cons.mp nd).2 (by simpa using h1) (by simpa using h2)]
    rfl

/-- the scope of such an __init__ -/
structure ScE (N P : List Str) (sc : Scope) : Prop where
  kind : sc.kind = .function
  co : sc.isCoroutine = false
  gen : sc.isGenerator = false
  nd : N.Nodup
  pre : N.take P.length = P
  par : ∀ x ∈ P, sc.names.lookup x = some .local
  nocell : ∀ y ∈ sc.names, y.2 ≠ .cell
  free : ∀ y ∈ sc.names, y.2 = .free → y.1 = "__class__"
  sup : sc.names.lookup ("super" : Str) = some .globalImplicit
  cls : sc.names.lookup ("__class__" : Str) = some .free

/-- the context of its body -/
def cxE (CX : CXT) (P : Program) (w : World) (K : PySem.W.Frag) (mg : Str → Option Value) (base : Heap) (N : List Str) (qual : Str) (scope : Scope) (f : Addr) (cd : Value) (cc : Addr) (A : Around) (outer : List Env) (s : Shared) (H : Hp) (E : XK) : Cx where
  prog := P
  w := w
  K := K
  mg := mg
  base := base
  A := A.deeper (ksEnv qual scope s.heap.objs.size f cd cc)
  N := N
  s_0 := s
  H_0 := H
  env := ksEnv qual scope s.heap.objs.size f cd cc
  outer := outer
  stack := ksEnv qual scope s.heap.objs.size f cd cc :: outer
  ex := []
  calm := true
  fn := fun y => decide (y ≠ "__class__")
  pn := []
  xe := fun e s' => wpAny (model P w) (A.deeper (ksEnv qual scope s.heap.objs.size f cd cc)) (leaving (ksEnv qual scope s.heap.objs.size f cd cc) e) (fun _ s'' => CX outer H s E e s'') (fun e' s'' => CX outer H s E e' s'') s'

theorem cells1 {cc : Addr} {y : Str} {c : Addr} (h : List.lookup y [(("__class__" : Str), cc)] = some c) : y = "__class__" ∧ c = cc := by
  by_cases e : y = "__class__"
  · subst e
    have q : List.lookup ("__class__" : Str) [(("__class__" : Str), cc)] = some cc := by simp [List.lookup]
    rw [q] at h
    exact ⟨rfl, (Option.some.inj h).symm⟩
  · have q : (y == ("__class__" : Str)) = false := by simpa using e
    simp [List.lookup, q] at h

theorem inv_startE {CX : CXT} {P : Program} {w : World} {K : PySem.W.Frag} {mg : Str → Option Value} {base : Heap} {N ps : List Str} {qual : Str} {scope : Scope} {f cc : Addr} {cd : Value} {A : Around} {outer : List Env} {s : Shared} {h1 : Heap} {tk : Nat} {H : Hp} {E : XK} {us : List Value} {vs : List V}
    {D : Addr} {cl : Value} {cld : Option Addr} {csl : Array (Option Value)}
    (S : ScE N ps scope) (hd : A.handled = none) (e0 : Env0 P w K mg base A outer s H) (hl : vs.length = ps.length) (r : Vals vs us)
    (hcell : K.lookup cc = some ⟨cl, cld, .cell (some (.ref D)), csl⟩)
    (hns : h1.Ns s.heap.objs.size (fun x => (ps.zip us).reverse.lookup x)) (hk : ∀ b o, s.heap.get? b = some o → h1.get? b = some o) :
    Inv (cxE CX P w K mg base N qual scope f cd cc A outer s H E) [] (L2.start N vs) H { s with heap := h1, toks := tk } := by
  have hpl : ps.length ≤ N.length := by have := congrArg List.length S.pre; rw [List.length_take] at this; omega
  have noA : ∀ b : Addr, b ∉ (cxE CX P w K mg base N qual scope f cd cc A outer s H E).ex := fun b z => absurd (show b ∈ ([] : List Addr) from z) (by simp)
  have hb : base.get? cc = some ⟨cl, cld, .cell (some (.ref D)), csl⟩ := e0.mod.kin _ _ hcell
  refine ⟨⟨e0.mod, S.kind, rfl, rfl, Nat.le_refl _, fun y z c h1 h2 => ?_, fun y hy => ?_, fun y c hf h => ?_, fun _ => hd, Around.frames_deeper e0.frames, .inr ⟨rfl, rfl⟩, fun b z => absurd z (noA b), e0.bs, e0.bsz, fun b _ _ => noA b, fun b z => absurd z (noA b), e0.funs, e0.frf⟩,
    rfl, e0.bare, Un.kept hk, ⟨_, hns, fun i y v h1 h2 h3 => ?_⟩, fun y c h => ?_, e0.hok.fresh (Nat.le_refl _), fun y c h => ?_, fun p hp => absurd (show p ∈ ([] : List (Addr × Obj)) from hp) (by simp), e0.hok.kept hk, ?_⟩
  · rw [(cells1 h1).1, (cells1 h2).1]
  · have hy : scope.names.lookup y = some .cell ∨ scope.names.lookup y = some .free := hy
    rcases hy with hy | hy
    · exact absurd rfl (S.nocell _ (PySem.mem_of_lookup hy))
    · have e := S.free _ (PySem.mem_of_lookup hy) rfl
      refine ⟨cc, ?_⟩
      have e' : y = "__class__" := e
      rw [e']
      show List.lookup ("__class__" : Str) [(("__class__" : Str), cc)] = some cc
      simp [List.lookup]
  · have e := (cells1 h).1
    subst e
    have hf' : decide (("__class__" : Str) ≠ "__class__") = true := hf
    simp at hf'
  · have hi : i < vs.length := by
      unfold L2.start at h2
      by_cases hi : i < vs.length
      · exact hi
      · rw [List.getElem?_append_right (by simpa using hi)] at h2
        rw [List.getElem?_replicate] at h2
        split at h2 <;> cases h2
    have ha : vs[i]? = some v := by
      unfold L2.start at h2
      rw [List.getElem?_append_left (by simpa using hi), List.getElem?_map] at h2
      cases e : vs[i]? with
      | none => rw [e] at h2; cases h2
      | some a => rw [e] at h2; cases h2; rfl
    obtain ⟨u, hu, rv⟩ := r.get ha
    have hp : ps[i]? = some y := by
      rw [← S.pre, List.getElem?_take_of_lt (by omega)]; exact h1
    have ndP : ps.Nodup := by rw [← S.pre]; exact S.nd.sublist (List.take_sublist _ _)
    refine ⟨u, rv, .inl ⟨S.par y (List.mem_of_getElem? hp), lookup_rev_zip ndP hp hu⟩⟩
  · have e := (cells1 h).2
    subst e
    exact ⟨_, _, hk _ _ (e0.bs _ _ hb).1, rfl⟩
  · have e := (cells1 h).2
    subst e
    exact (e0.bs _ _ hb).2
  · unfold L2.start
    show _ = N.length
    rw [List.length_append, List.length_map, List.length_replicate]
    omega

/-- what the text and the written part say of an own exception class at C, its __init__ at f, its class cell at cc -/
structure SupC (P : Program) (K : PySem.W.Frag) (mg : Str → Option Value) (C cc cda : Addr) : Prop where
  oex : OexC K C
  cel : ∃ cl cld csl, K.lookup cc = some ⟨cl, cld, .cell (some (.ref C)), csl⟩
  cod : ∃ ccl cdd vs ccs file tf, K.lookup cda = some ⟨ccl, cdd, .fields vs, ccs⟩ ∧ vs[2]? = some (.str file tf) ∧ ((P.main.file : Str) == file) = true
  sub : PySem.W.mroIn K C (.ref C) = some true
  subV : PySem.W.subIn K (.ref C) (.type "ValueError") = some true
  op : PySem.W.nsIn K cStatics "thirdparty.any" = some none
  sup : PySem.W.ks_superIn K C C "__init__" = some (some (.builtin "ValueError.__init__"))
  mgS : mg "super" = none
  top : (P.main.scope.names.lookup ("super" : Str)).isSome = false

section
variable {P : Program} {w : World} {M : Model} {A : Around} {E : Value → Shared → Prop} {s : Shared}
theorem callWith_mw {pos : Pos} {u x : Addr} {env : Env} {e : Expr} {rest : List Expr} {Q : Value → Shared → Prop}
    (h : wpAny M A (spliced (backTo pos (starEach (e :: rest) env))) (fun vs s₁ => PySem.W.KxsAt "ValueError.__init__" u x s₁.heap ∧ wpAny M A (call (.ref u) vs) Q E s₁) E s)
    (he : starEach (e :: rest) env = (false, eval e env) :: starEach rest env := by rfl) (hplain : (backTo pos (starEach rest env)).any (·.1) = false := by rfl) :
    wpAny M A (callWith pos (.ref u) [] (backTo pos (starEach (e :: rest) env)) []) Q E s := by
  rw [he] at h ⊢
  refine PySem.W.kxs_callWith (i := "ValueError.__init__") (x := x) (by show (false || (backTo pos (starEach rest env)).any (·.1)) = false; rw [hplain]; rfl) ?_
  exact Calls.evalArgs_plain h
end
section
variable {P : Program} {w : World} {A : Around} {E : Value → Shared → Prop} {h : Heap} {g : Array GenState} {d : Drawn} {t : Nat} {os : OsState}
variable {nm q : Str} {C N : Addr} {bs bm : List Value} {hdct : Bool} {sn : List Str} {sub : List Value} {ab : Bool} {col : Option Bool} {dd : Option Addr} {k0 k1 k2 k3 k5 : Option Value}
theorem call_mw {u e t0 : Addr} {rest : List Value} {Q : Value → Shared → Prop}
    (hC : h.get? C = some (excClassObj nm q C N bs bm hdct sn sub ab col dd k0 k1 k2 k3 k5 "ValueError.__new__")) (he : h.get? e = some (PySem.HandSPX.excO C t0)) (hu : h.get? u = some (PySem.W.kxs_mw "ValueError.__init__" e)) (hrest : rest.length ≤ sizeLine)
    (hq : ∀ h' t1, (∀ b o, b ≠ e → h.get? b = some o → h'.get? b = some o) → h'.get? e = some (PySem.HandSPX.excO C t1) → Q .none ⟨h', g, d, t, os⟩) :
    wpAny (model P w) A (call (.ref u) rest) Q E ⟨h, g, d, t, os⟩ := by
  refine wpAny_call (codeAny_of_tree ?_)
  show wpAny _ A.in1 (callAny (.ref u) ⟨rest, []⟩) _ _ _
  simp only [callAny]
  refine wpAny_bind (wpAny_load hu ?_)
  simp only [PySem.W.kxs_mw, show (Value.type "method-wrapper" == Value.type "method" || Value.type "method-wrapper" == Value.type "builtin_function_or_method" || Value.type "method-wrapper" == Value.type "method-wrapper") = true by decide, if_true]
  refine PySem.W.KFB.if_so (by decide) ?_
  refine wpAny_bind (PySem.W.check_bound_init F.excBase_ValueError.toExcCallFacts hC he rfl ?_)
  refine wpAny_bind (wpAny_pure (wpAny_pure ?_))
  refine ⟨Code.quiet_builtin _ (by decide +kernel), codeAny_builtin F.excBase_ValueError.initEntry ?_⟩
  rw [Around.under_plainId F.excBase_ValueError.init.plain _]
  wp_walk
  refine hq _ h.objs.size (fun b o hb ho => ?_) ?_
  · rw [Heap.get?_update_other _ _ (Ne.symm hb)]
    exact Heap.get?_push_of_some _ ho
  · rw [Heap.get?_update_self _ (Heap.get?_push_of_some _ he) rfl]
    rfl
end

theorem fn_exc {CX : CXT} {P : Program} {w : World} {K : PySem.W.Frag} {mg : Str → Option Value} {base : Heap} {k : Nat} {f cc cda C : Addr} {name qual : Str} {params : Arguments} {e : Expr} {es : List Expr} {rest : List Stmt} {scope : Scope} {dV kV doc pm ct oc : Value} {an od : Option Addr}
    {osl : Array (Option Value)} {N ps : List Str} {sp : Sp} {p0 p1 p2 p3 p4 : Pos} {ar : Arg} {ps' : List Str} {pl : Addr → Sem Bool}
    (lk : K.lookup f = some ⟨oc, od, .func (ksFn name qual params (.Expr (.Call (.Attribute (.Call (.Name "super" p0) [] [] p1) "__init__" p2) (e :: es) [] p3) p4 :: rest) scope dV kV doc pm an (.ref cda) ct cc), osl⟩)
    (hcd : PySem.W.codeIn K (.ref cda) qual = true) (S : ScE N ps scope) (T : SupC P K mg C cc cda)
    (hp : (params.posonlyargs ++ params.args).head? = some ar) (hps : ps = ar.arg :: ps')
    (len : ∀ vs H Q E, sp vs H Q E → vs.length = ps.length)
    (hbody : ∀ (A : Around) (outer : List Env) (s : Shared) (H : Hp) (vs : List V) (Q : VK) (E : XK), Room k (A.deeper (ksEnv qual scope s.heap.objs.size f (.ref cda) cc)) → sp vs H Q E →
      ∃ (a : Addr) (vs' : List V) (ta : TA) (t : TS), vs = .ref a :: vs' ∧ H a = some (exo a C none) ∧ PA (cxE CX P w K mg base N qual scope f (.ref cda) cc A outer s H E) (e :: es) ta ∧ PSs (cxE CX P w K mg base N qual scope f (.ref cda) cc A outer s H E) rest t ∧
        ta (L2.start N vs) H fun ws H1 => ws.length ≤ 1000 ∧ H1 a = some (exo a C none) ∧ t { nx := fun _ H' => Q .non H', rt := Q } (L2.start N vs) H1)
    (hc : ∀ (L : Addr), eval (.Call (.Attribute (.Call (.Name "super" p0) [] [] p1) "__init__" p2) (e :: es) [] p3) (ksEnv qual scope L f (.ref cda) cc) = (do
      let ov ← attributeBase (.Call (.Name "super" p0) [] [] p1) "__init__" (ksEnv qual scope L f (.ref cda) cc) (eval (.Call (.Name "super" p0) [] [] p1) (ksEnv qual scope L f (.ref cda) cc))
      standAt p2.atName
      let (g, first) ← holding [ov] (getMethod ov "__init__" (pl L))
      callWith p3 g first (backTo p3 (starEach (e :: es) (ksEnv qual scope L f (.ref cda) cc))) []) := by intro L; rfl)
    (hs : ∀ (L : Addr), swapsWith (.Call (.Attribute (.Call (.Name "super" p0) [] [] p1) "__init__" p2) (e :: es) [] p3) none p4.line (ksEnv qual scope L f (.ref cda) cc) = pure false := by intro L; rfl)
    (he : ∀ (L : Addr), starEach (e :: es) (ksEnv qual scope L f (.ref cda) cc) = (false, eval e (ksEnv qual scope L f (.ref cda) cc)) :: starEach es (ksEnv qual scope L f (.ref cda) cc) := by intro L; rfl)
    (hpl : ∀ (L : Addr), (backTo p3 (starEach es (ksEnv qual scope L f (.ref cda) cc))).any (·.1) = false := by intro L; rfl) :
    FnOk P w K mg base CX (k + 1) f (ksFn name qual params (.Expr (.Call (.Attribute (.Call (.Name "super" p0) [] [] p1) "__init__" p2) (e :: es) [] p3) p4 :: rest) scope dV kV doc pm an (.ref cda) ct cc) ps sp := by
  refine ⟨len, fun A outer s H args us vs Q E hr e0 hb r hsp => ?_⟩
  have hl := len _ _ _ _ hsp
  have KX : K.In s.heap := e0.mod.kin.keeps fun b o e => (e0.bs b o e).1
  have lim : s.heap.NoLimit := e0.mod.nolimit.keeps fun b o e => (e0.bs b o e).1
  obtain ⟨cl, cld, csl, hcell⟩ := T.cel
  obtain ⟨ccl, cdd, cvs, ccs, file, tf, hcode, hvs, hfile⟩ := T.cod
  have hloc : ∀ y ∈ ps.zip us, scope.names.lookup y.1 = some .local := fun ⟨n, v⟩ hy => S.par n (List.of_mem_zip hy).1
  refine PySem.ks_codeAny_call_defAt (fd := ksFn name qual params (.Expr (.Call (.Attribute (.Call (.Name "super" p0) [] [] p1) "__init__" p2) (e :: es) [] p3) p4 :: rest) scope dV kV doc pm an (.ref cda) ct cc) hr.depth (KX _ _ lk) rfl lim (PySem.W.codeRec_of KX hcd) rfl hb S.nocell hloc (fun h₁ hns hk₁ => ?_) S.co S.gen S.kind
  obtain ⟨a, vs', ta, t, rfl, ha, hA, ht, hq⟩ := hbody A outer s H vs Q E (hr.deeper _) hsp
  have I : Inv (cxE CX P w K mg base N qual scope f (.ref cda) cc A outer s H E) [] (L2.start N (.ref a :: vs')) H { s with heap := h₁, toks := s.toks + (ps.zip us).length } := inv_startE S hr.hd e0 hl r hcell hns hk₁
  cases r with
  | @cons _ u0 _ us' ra r' =>
  obtain rfl : u0 = Value.ref a := ra
  subst hps
  obtain ⟨t1, hoe⟩ := exo_at I.hok ha
  obtain ⟨nm, q, Nn, bs, bm, sn, sub, ab, col, dd, k0, k1, k2, k3, k5, hC, hbm⟩ := T.oex.cls
  have hclC : PySem.W.clsIn K C = some { name := nm, bases := bs, mro := .ref C :: bm, ns := Nn, qualname := q, hasDict := true, slotNames := sn, subclasses := sub, abstract := ab, collection := col, hasDel := false } := by unfold PySem.W.clsIn; rw [hC] <;> rfl
  have XI : K.In h₁ := I.kIn
  have J0 : PySem.W.InstAt h₁ a (PySem.HandSPX.excO C t1) C none := ⟨hoe, rfl, rfl, trivial⟩
  have hne := PySem.W.ks_ne XI J0 hclC
  have hclH : ∃ cdC, K.lookup C = some ⟨_, _, .cls cdC, _⟩ := ⟨_, hC⟩
  refine PySem.ks_wpAt_execs_cons (PySem.ks_wpAt_Expr_any (PySem.ks_wpAt_MethodCall (pl := pl _) ?_ (hc _)) I.quiet (hs _))
  refine PySem.ks_wpAt_super_base (f := f) (cc := cda) (fd := ksFn name qual params (.Expr (.Call (.Attribute (.Call (.Name "super" p0) [] [] p1) "__init__" p2) (e :: es) [] p3) p4 :: rest) scope dV kV doc pm an (.ref cda) ct cc) (ar := ar) S.sup S.cls (by decide) rfl (XI _ _ lk) rfl hp rfl (XI _ _ hcode) rfl hvs hfile T.top ?_
  obtain ⟨mb, hb1, hb2⟩ := I.mod.blt
  refine PySem.W.ks_loadName_global S.kind S.sup (Calls.loadGlobal_builtin (I.mod.glob.keeps I.bk) T.mgS (hb1.keeps I.bk) ((hb2 _ (by decide)).trans (by first | rfl | decide +kernel)) ⟨rfl, ?_⟩)
  refine wpAny_loadName_free S.kind S.cls rfl ⟨_, XI _ _ hcell, rfl⟩ ?_
  refine wpAny_loadName_local S.kind (S.par _ List.mem_cons_self) hns (v := .ref a) (lookup_rev_zip (i := 0) (by rw [← S.pre]; exact S.nd.sublist (List.take_sublist _ _)) rfl rfl) ?_
  have hDC := XI _ _ hC
  refine PySem.ks_wpAny_isType_cls hDC rfl ⟨rfl, ?_⟩
  refine PySem.ks_wpAny_call_super hDC rfl hoe rfl (fun c z => nomatch z) (PySem.W.looks_mroIn XI T.sub) (fun h₂ hso k₂ => ?_)
  have I2 := I.kept (t' := s.toks + (((ar.arg :: ps').zip (Value.ref a :: us')).length)) k₂
  have XI2 : K.In h₂ := I2.kIn
  have hsup := T.sup
  unfold PySem.W.ks_superIn at hsup
  rw [hclC] at hsup
  have J2 : PySem.W.InstAt h₂ a (PySem.HandSPX.excO C t1) C none := ⟨k₂ _ _ hoe, rfl, rfl, trivial⟩
  refine PySem.W.kxs_getMethod PySem.W.kxs_ValueError hso (PySem.W.looks_opaque XI2 T.op) (l₀ := .ref C :: bm) ?_ rfl XI2 hsup (J2.type.andThen (PySem.W.looks_subIn XI2 T.subV)) hne (by decide) ?_
  · exact fun A Q E s k q => wpAny_bind ((PySem.W.looks_clsIn XI2 hclC) A _ E s k (wpAny_pure q))
  have k₃ : ∀ b o, h₂.get? b = some o → (h₂.push (PySem.W.kxs_mw "ValueError.__init__" a)).get? b = some o := fun b o z => Heap.get?_push_of_some _ z
  have hu : (h₂.push (PySem.W.kxs_mw "ValueError.__init__" a)).get? h₂.objs.size = some (PySem.W.kxs_mw "ValueError.__init__" a) := Heap.get?_push_at rfl rfl
  have hfr : H h₂.objs.size = none := I2.hok.fresh (Nat.le_refl _)
  have I3 := (I2.kept (t' := s.toks + (((ar.arg :: ps').zip (Value.ref a :: us')).length) + 1) k₃)
  have I4 := I3.pins_of (pins' := [(h₂.objs.size, PySem.W.kxs_mw "ValueError.__init__" a)]) (fun p hp => by
    rw [List.mem_singleton] at hp
    subst hp
    refine ⟨hu, hfr, fun z => ?_, ?_, fun v z => nomatch z⟩
    · have := I2.lt
      rw [← z] at this
      exact absurd this (Nat.lt_irrefl _)
    · exact I2.nofs (Nat.le_refl _))
  refine callWith_mw (x := a) (thn (hA.run p3 _ _ (L2.start N (.ref a :: vs')) H _ I4 hq) fun wsv s1 ⟨ws, H1, I5, r5, hwl, ha1, q5⟩ => ⟨(I5.pin _ (List.mem_append_right _ List.mem_cons_self)).1, ?_⟩) (he _) (hpl _)
  obtain ⟨t5, ho5⟩ := exo_at I5.hok ha1
  have hu5 := (I5.pin _ (List.mem_append_right _ List.mem_cons_self)).1
  have XI5 := I5.kIn
  have hlen : wsv.length ≤ sizeLine := by
    rw [← Paired.length r5, sizeLine_eq]
    omega
  obtain ⟨hp5, g5, d5, tk5, os5⟩ := s1
  refine call_mw (XI5 _ _ hC) ho5 hu5 hlen fun h6 t6 k6 hx6 => ?_
  have I5' := I5.unpinned (pins := []) (pl := [(h₂.objs.size, PySem.W.kxs_mw "ValueError.__init__" a)])
  have J := I5'.write (t' := tk5) (x := a) (e := a) (o := exo a C none) (by rw [ha1]; exact True.intro) (.inl rfl) k6 ⟨_, hx6⟩ (exo_ok hx6)
  have eu : upd H1 a (exo a C none) = H1 := by
    funext b
    by_cases hb : b = a
    · rw [hb, upd_same, ha1]
    · rw [upd_ne hb]
  rw [eu] at J
  show _root_.PySem.wpAt _ _ _ (execs rest _) _ _ _
  refine wpAt_of_wpAny (wpAny_mono (ht.run [] _ (L2.start N (.ref a :: vs')) H1 _ J q5) (fun fl s' hs => ?_) fun e s' hs => hs)
  have fin : ∀ {σ' : L2.St} {H' : Hp} {v : V} {u : Value}, Inv (cxE CX P w K mg base N qual scope f (.ref cda) cc A outer s H E) [] σ' H' s' → RelV v u → Q v H' → CE outer P w H s Q u s' :=
    fun {σ' H' v u} J rv q => ⟨v, H', J.os, J.bare, J.base, J.hok, rv, q⟩
  cases fl with
  | ret u =>
    obtain ⟨v, σ', H', J, rv, q⟩ := hs
    exact fin J rv q
  | next =>
    obtain ⟨σ', H', J, q⟩ := hs
    exact fin (v := V.non) (u := Value.none) J rfl q
  | brk =>
    obtain ⟨_, _, _, q⟩ := hs
    exact False.elim q
  | cont =>
    obtain ⟨_, _, _, q⟩ := hs
    exact False.elim q
end EP
namespace EP
open PySem L2 PySem.Spec PyProof.Rows
open PySem.W (ksFn ksEnv)
open L2H (RoomH roomH_of)

/-! ### a def that may raise, called where it does not -/
theorem pass_no {X : Cx} : Passes (L2.CX X.prog X.w) X E0 := fun _ _ _ _ _ _ _ h => by
  obtain ⟨_, _, _, _, _, _, _, _, _, _, _, _, z⟩ := h
  exact z.elim

/-! ### making an exception -/
theorem pmk_imp {X : Cx} {e : Expr} {t t' : L2.St → Hp → XK → Prop} (h : PMk X e t) (i : ∀ σ H Q, t' σ H Q → t σ H Q) : PMk X e t' := fun pins s σ H Q I q => h pins s σ H Q I (i _ _ _ q)
/-- C(e): the made exception has one attribute, the value -/
def tMkS (C : Addr) (f : Str) (ok : V → Hp → Prop) (ta : TA) : L2.St → Hp → XK → Prop := fun σ H Q => ta σ H fun vs H1 => ∃ v, vs = [v] ∧ ok v H1 ∧ ∀ d, H1 d = none → Q (.ref C) (some d) (upd H1 d (.xd [(f, v)]))
/-- what such an __init__ promises -/
def spExc (C : Addr) (f : Str) (ok : V → Hp → Prop) : Sp := fun vs H Q _ => ∃ (a : Addr) (v : V) (H0 : Hp), vs = [.ref a, v] ∧ H0 a = none ∧ H = upd H0 a (exo a C none) ∧ ok v H0 ∧ ∀ d, H0 d = none → d ≠ a → Q .non (upd (upd H d (exd d [(f, v)])) a (exo a C (some d)))
theorem mkS_of {C : Addr} {f : Str} {ok : V → Hp → Prop} {ta : TA} (mono : ∀ σ H (Q Q' : List V → Hp → Prop), (∀ vs H1, Q vs H1 → Q' vs H1) → ta σ H Q → ta σ H Q') {σ : L2.St} {H : Hp} {Q : XK} (h : tMkS C f ok ta σ H Q) : tMkO C (spExc C f ok) [] ta σ H Q := by
  refine mono σ H _ _ (fun vs H1 q => ?_) h
  obtain ⟨v, rfl, hv, q⟩ := q
  refine ⟨(by show 1 ≤ 1000; decide), fun a ha => ?_⟩
  refine ⟨a, v, H1, rfl, ha, rfl, hv, fun d hd hda => ⟨rfl, d, [(f, v)], upd_same, ?_, hd, ?_⟩⟩
  · rw [upd_ne hda, upd_same]
  · have e : upd (L2.del (upd (upd (upd H1 a (exo a C none)) d (exd d [(f, v)])) a (exo a C (some d))) a) d (.xd [(f, v)]) = upd H1 d (.xd [(f, v)]) := by
      funext b
      by_cases hb : b = d
      · rw [hb, upd_same, upd_same]
      · rw [upd_ne hb, upd_ne hb]
        by_cases hba : b = a
        · rw [hba, del_same, ha]
        · rw [del_ne hba, upd_ne hba, upd_ne hb, upd_ne hba]
    rw [e]
    exact q d hd

/-! ### isinstance of a caught exception with attributes -/
theorem call_isD {X : Cx} {a D : Addr} {oe : Obj} {d : Addr} {pn : List (Addr × Obj)} (C : ExcC X.K D) (hz : Zc (.ref D) (some d) oe) (hf : ∃ vs, oe.data = .fields vs) :
    CallR (X.suite a ((a, oe) :: pn)) (.builtin "isinstance") (fun xs H Q => (∃ fs, H d = some (.xd fs)) ∧ rIsE X.K D a xs H Q) := by
  intro pins s σ H xs us Q I r h
  obtain ⟨⟨fs, hd⟩, c, cv, b, rfl, hcv, e, q⟩ := h
  cases r with
  | cons rx rr =>
    cases rr with
    | cons rt rr =>
      cases rr
      cases rx
      have ec := hcv _ rt
      subst ec
      obtain ⟨hget, _⟩ := I.pin (a, oe) (List.mem_append.mpr (.inl List.mem_cons_self))
      obtain ⟨vs, hv⟩ := hf
      have hx : ObjOk X.prog X.w H s.heap d (.xd fs) := I.hok d _ hd
      obtain ⟨mA, hns, hr⟩ := hx
      obtain ⟨od, ho, hl⟩ := lookIn_ns hns
      have J : PySem.W.InstAt s.heap a oe D (some od) := ⟨hget, hz.1, by unfold PySem.W.notCls; rw [hv] <;> rfl, by rw [hz.2]; exact ho⟩
      have hcl : (PySem.W.clsIn X.K D).isSome = true := by
        obtain ⟨cd, hc, _⟩ := PySem.W.any_some C.hd
        rw [hc]; rfl
      exact PySem.W.kia_one (PySem.W.kitx_exc hcl C.hg C.hk C.hs C.ha C.hn C.ht C.hm) I.kIn J e (fun z => nomatch z) fun tk => ⟨.bl b, H, I.kept (t' := tk) fun _ _ z => z, rfl, q⟩

theorem room_mark {A : Around} {k j : Nat} {x : Option Value} (hr : Room k A) (h : j ≤ k) : RoomH j (A.mark x) := L2H.RoomH.mono (k := k) ⟨hr.dp, hr.un⟩ h
/-! ### a def that is called within an except suite and raises nothing -/
structure FnQ (P : Program) (w : World) (K : PySem.W.Frag) (mg : Str → Option Value) (base : Heap) (k : Nat) (f : Addr) (fd : FuncData) (ps : List Str) (sp : Sp) : Prop where
  len : ∀ vs H Q E, sp vs H Q E → vs.length = ps.length
  run : ∀ (A : Around) (outer : List Env) (s : Shared) (H : Hp) (args : Args) (us : List Value) (vs : List V) (Q : VK), RoomH k A → Env0 P w K mg base A outer s H → BindsTo s fd args (ps.zip us) → Vals vs us → sp vs H Q E0 →
    codeAny (model P w) A (.call (.ref f) args) (CR L2.CX0 outer P w H s Q E0) s
theorem FnQ.ok {P : Program} {w : World} {K : PySem.W.Frag} {mg : Str → Option Value} {base : Heap} {k : Nat} {f : Addr} {fd : FuncData} {ps : List Str} {sp sp' : Sp} (F : FnQ P w K mg base k f fd ps sp) (h : ∀ vs H Q E, sp' vs H Q E → sp vs H Q E0) : FnOk P w K mg base L2.CX0 k f fd ps sp' :=
  ⟨fun vs H Q E q => F.len vs H Q E0 (h _ _ _ _ q), fun A outer s H args us vs Q E hr e0 hb r q => codeAny_mono (F.run A outer s H args us vs Q (roomH_of hr) e0 hb r (h _ _ _ _ q)) fun r s' z => by
    cases r with
    | error e => exact (show False from z).elim
    | ok fl => cases fl <;> exact z⟩
def cxQ (P : Program) (w : World) (K : PySem.W.Frag) (mg : Str → Option Value) (base : Heap) (N : List Str) (qual : Str) (scope : Scope) (f : Addr) (cd : Value) (A : Around) (outer : List Env) (s : Shared) (H : Hp) : Cx :=
  { cxOf L2.CX0 P w K mg base N qual scope f cd A outer s H E0 with calm := false }
theorem fn_ofQ {P : Program} {w : World} {K : PySem.W.Frag} {mg : Str → Option Value} {base : Heap} {k : Nat} {f : Addr} {name qual : Str} {params : Arguments} {body : List Stmt} {scope : Scope} {dV kV doc pm cdv ct oc : Value} {an od : Option Addr}
    {osl : Array (Option Value)} {N ps : List Str} {sp : Sp} (lk : K.lookup f = some ⟨oc, od, .func (PySem.W.fnOf name qual params body scope dV kV doc pm an cdv ct), osl⟩) (hcd : PySem.W.codeIn K cdv qual = true) (S : FnScope N ps scope)
    (len : ∀ vs H Q E, sp vs H Q E → vs.length = ps.length)
    (hbody : ∀ (A : Around) (outer : List Env) (s : Shared) (H : Hp) (vs : List V) (Q : VK), RoomH k (A.deeper (envOfC qual scope s.heap.objs.size f cdv)) → sp vs H Q E0 →
      ∃ t, PSs (cxQ P w K mg base N qual scope f cdv A outer s H) body t ∧ t { nx := fun _ H' => Q .non H', rt := Q } (L2.start N vs) H) :
    FnQ P w K mg base (k + 1) f (PySem.W.fnOf name qual params body scope dV kV doc pm an cdv ct) ps sp := by
  refine ⟨len, fun A outer s H args us vs Q hr e0 hb r hsp => ?_⟩
  have hl := len _ _ _ _ hsp
  have KX : K.In s.heap := e0.mod.kin.keeps fun b o e => (e0.bs b o e).1
  have lim : s.heap.NoLimit := e0.mod.nolimit.keeps fun b o e => (e0.bs b o e).1
  have hkind : ∀ y ∈ ps.zip us, scope.names.lookup y.1 = some .local ∨ (scope.names.lookup y.1 = some .cell ∧ ((cellsFrom (s.heap.objs.size + 1) scope.names []).lookup y.1).isSome = true) := fun ⟨n, v⟩ hy =>
    (S.par n (List.of_mem_zip hy).1).imp id fun q => ⟨q, PySem.W.cellsFrom_some _ _ _ (.inl q)⟩
  refine codeAny_call_function hr.depth (KX _ _ lk) rfl S.co S.gen rfl (PySem.W.codeRec_of KX hcd) (hb _ _ _ _ ?_)
  refine wpAny_newFunctionEnv_cells S.kind hkind fun env he s1 x => ?_
  subst he
  refine ⟨lim.keeps x.toInCall.keep, codeAny_func ?_⟩
  obtain ⟨t, ht, hq⟩ := hbody A outer s H vs Q (hr.deeper _) hsp
  have I : Inv (cxQ P w K mg base N qual scope f cdv A outer s H) [] (L2.start N vs) H s1 := by
    have A' : Around := { A with handled := none }
    have I0 : Inv (cxOf L2.CX0 P w K mg base N qual scope f cdv { A with handled := none } outer s H E0) [] (L2.start N vs) H s1 :=
      inv_start (A := { A with handled := none }) S rfl ⟨e0.frames, e0.mod, e0.bs, e0.bsz, e0.funs, e0.frf, e0.hok, e0.bare⟩ hl r x
    have o := I0.ok
    exact ⟨⟨o.mod, o.kind, o.glob, o.blt, o.above, o.inj, o.has, o.cab, fun z => Bool.noConfusion z, Around.frames_deeper e0.frames, o.stk, o.exf, o.bs, o.bsz, o.noex, o.exfs, o.funs, o.frf⟩, I0.os, I0.bare, I0.base, I0.loc, I0.cell, I0.free, I0.freeC, I0.pin, I0.hok, I0.len⟩
  refine wpAny_mono (ht.run [] s1 (L2.start N vs) H _ I hq) (fun fl s' hs => ?_) fun e s' hs => hs
  have fin : ∀ {σ' : L2.St} {H' : Hp} {v : V} {u : Value}, Inv (cxQ P w K mg base N qual scope f cdv A outer s H) [] σ' H' s' → RelV v u → Q v H' → CE outer P w H s Q u s' :=
    fun {σ' H' v u} J rv q => ⟨v, H', J.os, J.bare, J.base, J.hok, rv, q⟩
  cases fl with
  | ret u =>
    obtain ⟨v, σ', H', J, rv, q⟩ := hs
    exact fin J rv q
  | next =>
    obtain ⟨σ', H', J, q⟩ := hs
    exact fin (v := V.non) (u := Value.none) J rfl q
  | brk => exact hs.elim fun _ z => z.elim fun _ z => z.2.elim
  | cont => exact hs.elim fun _ z => z.elim fun _ z => z.2.elim
theorem Fun.okQ {P : Program} {w : World} {K : PySem.W.Frag} {mg : Str → Option Value} {base : Heap} {x qual : Str} {st : Stmt} {f : Addr} {fd : FuncData} {N ps : List Str} {k : Nat} {sp : Sp} (F : L2.Fun K x qual st f fd) (S : FnScope N ps (defScope st)) (len : ∀ vs H Q E, sp vs H Q E → vs.length = ps.length)
    (hbody : ∀ (cdv : Value) (A : Around) (outer : List Env) (s : Shared) (H : Hp) (vs : List V) (Q : VK), RoomH k (A.deeper (envOfC qual (defScope st) s.heap.objs.size f cdv)) → sp vs H Q E0 →
      ∃ t, PSs (cxQ P w K mg base N qual (defScope st) f cdv A outer s H) (defBody st) t ∧ t { nx := fun _ H' => Q .non H', rt := Q } (L2.start N vs) H) : FnQ P w K mg base (k + 1) f fd ps sp := by
  obtain ⟨oc, od, kV, doc, pm, an, cdv, ct, osl, rfl, lk, hcd⟩ := F.ex
  exact fn_ofQ lk hcd S len fun A outer s H vs Q hr hsp => hbody cdv A outer s H vs Q hr hsp
section
variable {X : Cx} {k : Nat} {f : Addr} {fd : FuncData} {ps : List Str} {sp : Sp} {x : Str} {p pos : Pos} {e : Expr} {es : List Expr} {t : TA}
def tCallQ (sp : Sp) (t : TA) : TE := fun σ H Q => t σ H fun vs H1 => sp vs H1 Q E0
theorem pe_callQ (F : FnQ X.prog X.w X.K X.mg X.base k f fd ps sp) (hr : RoomH k X.A) (hg : Gl X x) (hm : X.mg x = some (.ref f)) (hk : PySem.W.keepIn X.K (.ref f) = true) (hb : Binds X.K fd ps [])
    (ha : PA X (e :: es) t) (hdb : (x == ("__debug__" : Str)) = false := by decide) (he : starEach (e :: es) X.env = (false, eval e X.env) :: starEach es X.env := by rfl) (hpl : (backTo pos (starEach es X.env)).any (·.1) = false := by rfl) :
    PE X (.Call (.Name x p) (e :: es) [] pos) (tCallQ sp t) := by
  refine ⟨fun pins s σ H Q I h => ?_⟩
  refine wpAny_Call_Name_kw (ld_glob I hg hm ?_ hdb)
  refine PySem.W.callWith_K (h₀ := X.base) I.ok.mod.kin hk (thn (ha.run pos pins s σ H _ I h) fun us s1 ⟨vs, H1, I1, r, q⟩ => ⟨I1.kIn, ?_⟩) he hpl
  have hl : us.length = ps.length := by rw [← r.length]; exact F.len _ _ _ _ q
  have b := hb s1 us I1.kIn (by rw [List.append_nil]; exact hl)
  rw [List.append_nil] at b
  refine wpAny_call (codeAny_mono (F.run X.A X.stack s1 H1 ⟨us, []⟩ us vs Q hr I1.env0 b r q) fun r s' hq => ?_)
  cases r with
  | error e => exact (show False from hq).elim
  | ok fl =>
    cases fl with
    | ret u => exact I1.after hq
    | next => exact False.elim hq
    | brk => exact False.elim hq
    | cont => exact False.elim hq
end
end EP
namespace EP
open PySem L2 PySem.Spec PyProof.Rows
open PySem.W (ksFn ksEnv)
open L2H (RoomH roomH_of)
/-- an own exception class as the top has made it: its name, its __init__'s long name, its attribute, its text -/
structure ExT (P : Program) (K : PySem.W.Frag) (mg : Str → Option Value) (x qual fld : Str) (st : Stmt) where
  C : Addr
  fa : Addr
  cc : Addr
  cda : Addr
  fd : FuncData
  mgX : mg x = some (.ref C)
  sup : SupC P K mg C cc cda
  lk : ∃ oc od kV doc pm an ct osl, fd = ksFn "__init__" qual (defArgs st) (defBody st) (defScope st) .none kV doc pm an (.ref cda) ct cc ∧ K.lookup fa = some ⟨oc, od, .func fd, osl⟩
  cod : PySem.W.codeIn K (.ref cda) qual = true
  iC : PySem.W.findIn K (.ref C) "__init__" = some (some (.ref fa))
  tI : PySem.W.typeIn K (.ref fa) = some (.type "function")
  xf : XfC K C
  xn : PySem.W.findIn K (.ref C) fld = some none
  ec : ExcC K C
/-- a raise's exception, once its argument is there -/
theorem mkO_intro {C : Addr} {f : Str} {ok : V → Hp → Prop} {v : V} {H1 : Hp} {Q : XK} (hv : ok v H1) (q : ∀ d, H1 d = none → Q (.ref C) (some d) (upd H1 d (.xd [(f, v)]))) :
    [v].length ≤ 1000 ∧ ∀ a, H1 a = none → spExc C f ok (.ref a :: ([v] ++ [])) (upd H1 a (exo a C none)) (fun v H2 => v = .non ∧ ∃ (d : Addr) (fs : List (Str × V)), H2 a = some (exo a C (some d)) ∧ H2 d = some (exd d fs) ∧ H1 d = none ∧ Q (.ref C) (some d) (upd (L2.del H2 a) d (.xd fs))) (fun _ _ _ => False) := by
  have h : tMkS C f ok (fun _ H Q => Q [v] H) [] H1 Q := ⟨v, rfl, hv, q⟩
  have z := mkS_of (σ := []) (H := H1) (ta := fun _ H Q => Q [v] H) (fun _ _ _ _ i z => i _ _ z) h
  exact z
/-- isinstance(e, ..) in the suite, e's class and dict told by the reading -/
def rIsG (K : PySem.W.Frag) (a : Addr) (cls : Value) (d : Option Addr) : List V → Hp → VK → Prop := fun xs H Q => ∃ (D dd : Addr) (fs : List (Str × V)) (c : V) (cv : Value) (b : Bool),
  cls = .ref D ∧ d = some dd ∧ H dd = some (.xd fs) ∧ ExcC K D ∧ xs = [.ref a, c] ∧ (∀ u, RelV c u → u = cv) ∧ PySem.W.kitOne K (.ref D) cv = some b ∧ Q (.bl b) H
theorem call_isG {X : Cx} {a : Addr} {oe : Obj} {cls : Value} {d : Option Addr} {pn : List (Addr × Obj)} (hz : Zc cls d oe) (hf : ∃ vs, oe.data = .fields vs) : CallR (X.suite a ((a, oe) :: pn)) (.builtin "isinstance") (rIsG X.K a cls d) := by
  intro pins s σ H xs us Q I r h
  obtain ⟨D, dd, fs, c, cv, b, rfl, rfl, hd, ec, rfl, hcv, e, q⟩ := h
  exact call_isD ec hz hf pins s σ H _ us Q I r ⟨⟨fs, hd⟩, c, cv, b, rfl, hcv, e, q⟩
theorem relV_ref {C : Addr} (u : Value) (h : RelV (.ref C) u) : u = .ref C := h
/-- an attribute's text in an f-string, and the bound that it wants -/
def IntS (v : V) (_ : Hp) : Prop := ∃ i : Int, v = .int i ∧ i.natAbs.log2 < 1900
theorem intS_len {i : Int} (h : i.natAbs.log2 < 1900) : (Str.ofString (toString i)).length ≤ 1901 := by
  have e := int_text_length_le (k := 1900) (by decide) h
  rw [PySem.ofString_length]
  exact e
theorem int_small {i : Int} (h : i.natAbs < 2 ^ 200) : i.natAbs.log2 < 1900 := Nat.lt_of_lt_of_le (PySem.Flt.log2_lt_of (by decide) h) (by decide)
/-- what a callee may let out is let out -/
theorem pass_up {X : Cx} {E : XK} {E₁ : Value → Shared → Prop} (hs : X.stack = X.env :: X.outer := by rfl) (hf : X.env.frame = some X.env.locals := by rfl) (hex : X.ex = [] := by rfl)
    (hx : X.xe = fun e s' => wpAny (model X.prog X.w) X.A (leaving X.env e) (fun _ s'' => L2.CX X.prog X.w X.outer X.H_0 X.s_0 E e s'') E₁ s' := by rfl) : Passes (L2.CX X.prog X.w) X E :=
  passes_call (takes_of (E := E) hs hf hex hx) fun _ _ _ _ h => h
end EP
/-! exceptions whose context is None, through defs that raise; loops in defs that an except suite calls -/
namespace EP
open PySem L2 PySem.Spec PyProof.Rows
open L2H (RoomH roomH_of HotC Hot1)
theorem mk_endN {X : Cx} {pins : List (Addr × Obj)} {σ : L2.St} {H1 H2 : Hp} {Q : XK} {hp hp2 h2 : Heap} {g1 g2 : Array GenState} {d1 d2 : Drawn} {t1 t2 : Nat} {os1 os2 : OsState} {a C d : Addr} {fs : List (Str × V)} (T : Raises X (.ref C)) (I1 : Inv X pins σ H1 ⟨hp, g1, d1, t1, os1⟩)
    (ha : hp.objs.size ≤ a) (k : ∀ b o, hp.get? b = some o → hp2.get? b = some o) (un : Un (frs X.stack) [] (upd H1 a (exo a C none)) H2 hp2 h2) (hok : HOk X.prog X.w H2 h2) (ho : os2 = os1) (hb : AllBare g2)
    (ea : H2 a = some (exo a C (some d))) (ed : H2 d = some (exd d fs)) (hd1 : H1 d = none) (q : Q (.ref C) (some d) (upd (L2.del H2 a) d (.xd fs))) : L2N.MkP X pins σ Q (.ref a) ⟨h2, g2, d2, t2, os2⟩ := by
  obtain ⟨t0, G, J, kG, ge, hoe, na⟩ := mk_end0 (d2 := d2) (t2 := t2) I1 ha k un hok ho hb ea ed hd1
  exact ⟨a, _, _, ⟨G, g2, d2, t2, os2⟩, _, .ref C, some d, rfl, J, kG, ge, hoe, ⟨rfl, rfl, fun vs e => by cases e; rfl⟩, rfl, rfl, na, rfl, hb, T, q⟩
theorem pmk_oexN {X : Cx} {CX : CXT} {x : Str} {e : Expr} {es : List Expr} {ta : TA} {p pos : Pos} {C fI : Addr} {k : Nat} {fd : FuncData} {ps : List Str} {sp : Sp} {ds : List Value} {dvs : List V} (T : OexC X.K C) (iC : PySem.W.findIn X.K (.ref C) "__init__" = some (some (.ref fI))) (tI : PySem.W.typeIn X.K (.ref fI) = some (.type "function"))
    (F1 : FnOk X.prog X.w X.K X.mg X.base CX k fI fd ps sp) (hr : Room (k + 1) X.A) (hb : Binds X.K fd ps ds) (hd : Vals dvs ds) (hx : Passes CX X (fun _ _ _ => False)) (hg : Gl X x) (hm : X.mg x = some (.ref C)) (ha : PA X (e :: es) ta)
    (hdb : (x == ("__debug__" : Str)) = false := by decide) (he : starEach (e :: es) X.env = (false, eval e X.env) :: starEach es X.env := by rfl) (hpl : (backTo pos (starEach es X.env)).any (·.1) = false := by rfl) :
    L2N.PMk X (.Call (.Name x p) (e :: es) [] pos) (tMkO C sp dvs ta) := by
  intro pins s σ H Q I h
  obtain ⟨nm, q, N, bs, bm, sn, sub, ab, col, dd, k0, k1, k2, k3, k5, hC, hbm⟩ := T.cls
  refine wpAny_Call_Name_kw (ld_glob I hg hm ?_ hdb)
  refine PySem.W.callWith_K (h₀ := X.base) I.ok.mod.kin T.kC (thn (ha.run pos pins s σ H _ I h) fun us s1 ⟨vs, H1, I1, r1, hz, q1⟩ => ⟨I1.kIn, ?_⟩) he hpl
  show wpAny _ _ (call (.ref C) us) _ _ _
  obtain ⟨hp, g, dr, tk, os⟩ := s1
  have hsz : hp.objs.size ≤ hp.objs.size + 1 := Nat.le_succ _
  have hn : H1 (hp.objs.size + 1) = none := I1.hok.fresh hsz
  have hq := q1 (hp.objs.size + 1) hn
  have kk : ∀ b o, hp.get? b = some o → ((hp.push (PySem.W.kdv_tup us)).push (PySem.HandSPX.excO C hp.objs.size)).get? b = some o := fun b o e => Heap.get?_push_of_some _ (Heap.get?_push_of_some _ e)
  have hget : ((hp.push (PySem.W.kdv_tup us)).push (PySem.HandSPX.excO C hp.objs.size)).get? (hp.objs.size + 1) = some (PySem.HandSPX.excO C hp.objs.size) := by heap_get
  have I2 : Inv X pins σ (upd H1 (hp.objs.size + 1) (exo (hp.objs.size + 1) C none)) ⟨(hp.push (PySem.W.kdv_tup us)).push (PySem.HandSPX.excO C hp.objs.size), g, dr, tk, os⟩ :=
    I1.laid (t' := tk) (a := hp.objs.size + 1) (o := exo (hp.objs.size + 1) C none) (h' := (hp.push (PySem.W.kdv_tup us)).push (PySem.HandSPX.excO C hp.objs.size)) kk hsz (exo_ok hget)
  have r2 : Vals (V.ref (hp.objs.size + 1) :: (vs ++ dvs)) (Value.ref (hp.objs.size + 1) :: (us ++ ds)) := .cons rfl (r1.append hd)
  have hl : (Value.ref (hp.objs.size + 1) :: us ++ ds).length = ps.length := by
    have e := r2.length
    rw [F1.len _ _ _ _ hq] at e
    exact e.symm
  have hus : us.length ≤ sizeLine := by
    rw [← Paired.length r1, sizeLine_eq]
    omega
  refine wpAny_call (PySem.HandSPX.call_own F.excBase_ValueError (fun Y => PySem.HandSPX.refsVE_contains Y bm hbm) (I1.kIn _ _ hC) (PySem.W.looks_findIn I1.kIn iC) (fun self => PySem.W.bind_fn I1.kIn self tI) hus
    (codeAny_mono (F1.run _ X.stack _ _ ⟨Value.ref (hp.objs.size + 1) :: us, []⟩ (Value.ref (hp.objs.size + 1) :: (us ++ ds)) _ _ (fun _ _ _ => False) (hr.make C us []) (I2.env0.make C us []) (hb _ (Value.ref (hp.objs.size + 1) :: us) I2.kIn hl) r2 hq) fun r s' hq' => ?_))
  cases r with
  | error er => exact hx pins σ _ _ er s' I2 hq'
  | ok fl =>
    cases fl with
    | ret u =>
      obtain ⟨v, H2, os2, bare2, un2, hok2, rv, ev, d, fs, ea, ed, hd1, q2⟩ := hq'
      subst ev
      obtain ⟨h2, g2, d2, t2, os'⟩ := s'
      exact ⟨rv, mk_endN (raises_own T.exC T.tyC) I1 hsz kk un2 hok2 os2 bare2 ea ed hd1 q2⟩
    | next => exact False.elim hq'
    | brk => exact False.elim hq'
    | cont => exact False.elim hq'
theorem takes0N {X : Cx} : L2N.Takes X (fun _ _ _ _ => False) := fun _ _ x => by
  obtain ⟨_, _, _, _, _, _, _, _, _, _, _, _, _, _, _, _, z⟩ := x
  exact z.elim
theorem pass_upN {X : Cx} {E : XK} {E₁ : Value → Shared → Prop} (hs : X.stack = X.env :: X.outer := by rfl) (hf : X.env.frame = some X.env.locals := by rfl) (hex : X.ex = [] := by rfl)
    (hx : X.xe = fun e s' => wpAny (model X.prog X.w) X.A (leaving X.env e) (fun _ s'' => L2N.CX X.prog X.w X.outer X.H_0 X.s_0 E e s'') E₁ s' := by rfl) : Passes (L2N.CX X.prog X.w) X E :=
  L2N.passes_call (L2N.takes_of (E := E) hs hf hex hx) fun _ _ _ _ h => h
theorem pass_noN {X : Cx} : Passes (L2N.CX X.prog X.w) X E0 := fun _ _ _ _ _ _ _ h => by
  obtain ⟨_, _, _, _, _, _, _, _, _, _, _, _, z⟩ := h
  exact z.elim
section
variable {P : Program} {w : World} {K : PySem.W.Frag} {mg : Str → Option Value} {base : Heap}
theorem Fun.okXN {x qual : Str} {st : Stmt} {f : Addr} {fd : FuncData} {N ps : List Str} {k : Nat} {sp : Sp} (F : L2.Fun K x qual st f fd) (S : FnScope N ps (defScope st)) (len : ∀ vs H Q E, sp vs H Q E → vs.length = ps.length)
    (hbody : ∀ (cdv : Value) (A : Around) (outer : List Env) (s : Shared) (H : Hp) (vs : List V) (Q : VK) (E : XK), Room k (A.deeper (envOfC qual (defScope st) s.heap.objs.size f cdv)) → sp vs H Q E →
      ∃ t, PSs (cxOf (L2N.CX P w) P w K mg base N qual (defScope st) f cdv A outer s H E) (defBody st) t ∧ t { nx := fun _ H' => Q .non H', rt := Q } (L2.start N vs) H) : FnOk P w K mg base (L2N.CX P w) (k + 1) f fd ps sp := by
  obtain ⟨oc, od, kV, doc, pm, an, cdv, ct, osl, rfl, lk, hcd⟩ := F.ex
  exact fn_of lk hcd S len fun A outer s H vs Q E hr hsp => hbody cdv A outer s H vs Q E hr hsp
/-- a def that an except suite calls, with a loop -/
theorem Fun.okH {x qual : Str} {st : Stmt} {f : Addr} {fd : FuncData} {N ps : List Str} {k : Nat} {sp : Sp} (F : L2.Fun K x qual st f fd) (S : FnScope N ps (defScope st)) (len : ∀ vs H Q E, sp vs H Q E → vs.length = ps.length)
    (hbody : ∀ (cdv : Value) (A : Around) (outer : List Env) (s : Shared) (H : Hp) (vs : List V) (Q : VK) (E : XK) (p : Addr × Obj), Hot1 A p → RoomH k (A.deeper (envOfC qual (defScope st) s.heap.objs.size f cdv)) → sp vs H Q E →
      ∃ t, PSs (L2H.cxH L2.CX0 P w K mg base N qual (defScope st) f cdv A outer s H E p) (defBody st) t ∧ t { nx := fun _ H' => Q .non H', rt := Q } (L2.start N vs) H) : L2H.FnH P w K mg base L2.CX0 (k + 1) f fd ps sp := by
  obtain ⟨oc, od, kV, doc, pm, an, cdv, ct, osl, rfl, lk, hcd⟩ := F.ex
  exact L2H.fn_ofH lk hcd S len fun A outer s H vs Q E p hot hr hsp => hbody cdv A outer s H vs Q E p hot hr hsp
end
section
variable {X : Cx} {k : Nat} {f : Addr} {fd : FuncData} {ps : List Str} {sp : Sp} {x : Str} {p pos : Pos} {e : Expr} {es : List Expr} {t : TA}
theorem pe_callHQ (F : L2H.FnH X.prog X.w X.K X.mg X.base L2.CX0 k f fd ps sp) (hr : RoomH k X.A) (hc : HotC X) (hg : Gl X x) (hm : X.mg x = some (.ref f)) (hk : PySem.W.keepIn X.K (.ref f) = true) (hb : Binds X.K fd ps [])
    (ha : PA X (e :: es) t) (hdb : (x == ("__debug__" : Str)) = false := by decide) (he : starEach (e :: es) X.env = (false, eval e X.env) :: starEach es X.env := by rfl) (hpl : (backTo pos (starEach es X.env)).any (·.1) = false := by rfl) :
    PE X (.Call (.Name x p) (e :: es) [] pos) (tCallS sp (fun _ => E0) t) :=
  L2H.pe_callH F hr hc hg hm hk hb (fun σ _ _ _ _ _ _ h => (show False from h).elim) ha hdb he hpl
end
theorem hot_suite {X : Cx} {a : Addr} {oe : Obj} {cls : Value} {d : Option Addr} {pn : List (Addr × Obj)} (hz : L2N.Zn cls d oe) (hf : ∃ vs, oe.data = .fields vs) : HotC (X.suite a ((a, oe) :: pn)) := by
  obtain ⟨vs, hv⟩ := hf
  exact ⟨(a, oe), ⟨rfl, vs, hv, hz.2.2 vs hv⟩, List.mem_cons_self⟩
theorem hot_def {CX : CXT} {P : Program} {w : World} {K : PySem.W.Frag} {mg : Str → Option Value} {base : Heap} {N : List Str} {qual : Str} {scope : Scope} {f : Addr} {cd : Value} {A : Around} {outer : List Env} {s : Shared} {H : Hp} {E : XK} {p : Addr × Obj} (h : Hot1 A p) :
    HotC (L2H.cxH CX P w K mg base N qual scope f cd A outer s H E p) := ⟨p, ⟨h.1, h.2⟩, List.mem_cons_self⟩
end EP
namespace EP
open PySem L2
/-- an own base class of exceptions, caught -/
structure CatchB (K : PySem.W.Frag) (C : Addr) : Prop where
  exC : PySem.W.subIn K (.ref C) (.type "BaseException") = some true
  hdC : PySem.W.hasDictIn K C = true
  tyC : PySem.W.typeIn K (.ref C) = some (.type "type")
/-- isinstance of an object of an own class -/
structure InsC (K : PySem.W.Frag) (C : Addr) : Prop where
  cl : Cls K C
  ha : PySem.W.findIn K (.ref C) "__class__" = some (some (.builtin "object.__class__"))
  hn : PySem.W.specialIn K (.builtin "object.__class__") "__get__" = some (some (.builtin "getset_descriptor.__get__"))
  ht : PySem.W.takesIn K (.builtin "object.__class__") = some true
  hm : PySem.W.mroIn K C (.type "object") = some true
  hk : PySem.W.kitOne K (.ref C) (.ref C) = some true
theorem InsC.ty {K : PySem.W.Frag} {C a dx : Addr} {H : Hp} {fs : List (Str × V)} (I : InsC K C) (e : H a = some (.ins C dx fs)) : TyX K H (.ref a) (.ref C) := .base (.ins e I.cl I.ha I.hn I.ht I.hm)
end EP
namespace EP
open PySem L2
section
variable {X : Cx} {K : PySem.W.Frag}
theorem op_eqDK (hu : X.A.units + 64 < cLine) (h : X.K = K := by rfl) : OpR X (compareOp .Eq) (rEqD K) := h ▸ op_eqD hu
theorem op_neDK (hu : X.A.units + 64 < cLine) (h : X.K = K := by rfl) : OpR X (compareOp .NotEq) (rNeD K) := h ▸ op_neD hu
end
theorem hu64_mark {A : Around} {k : Nat} {x : Option Value} (hr : Room k A) : (A.mark x).units + 64 < cLine := by have := hr.un; show A.units + 64 < _; omega
end EP
namespace EP
open PySem L2
def rTupOf (K : PySem.W.Frag) : List V → Hp → VK → Prop := fun xs H Q => ∃ p ys, xs = [.ref p] ∧ ((SqL K H p ys ∧ ∀ l, H l = none → Q (.ref l) (upd H l (.tup ys))) ∨ (SqT K H p ys ∧ Q (.ref p) H))
theorem call_tuple_ofK {X : Cx} {K : PySem.W.Frag} (h : X.K = K := by rfl) : CallR X (.type "tuple") (rTupOf K) := h ▸ call_tuple_of
def rLstOf (K : PySem.W.Frag) : List V → Hp → VK → Prop := fun xs H Q => ∃ p ys, xs = [.ref p] ∧ (SqL K H p ys ∨ SqT K H p ys) ∧ ∀ l, H l = none → Q (.ref l) (upd H l (.lst ys))
theorem call_list_ofK {X : Cx} {K : PySem.W.Frag} (h : X.K = K := by rfl) : CallR X (.type "list") (rLstOf K) := h ▸ call_list_of
end EP
namespace PySem
open Sem (wp)
theorem ep_enumerate_newT (l : Addr) (items : Array Value) :
    Meets (Builtin.«enumerate.__new__» ⟨[.type "enumerate", .ref l], []⟩) (fun _ R s => s.heap.IsTuple l items ∧
      R (.ok (.ret (.ref (s.heap.push { cls := .type "tuple_iterator", data := .fields #[.ref l, .int 0 0] }).objs.size)))
        { s with heap := (s.heap.push { cls := .type "tuple_iterator", data := .fields #[.ref l, .int 0 0] }).push { cls := .type "enumerate", data := .fields #[.none, .bool false, .ref s.heap.objs.size, rawInt 0, .none, .none] } }) :=
  .of_wp fun prog w A R s h => by
    obtain ⟨hp, g, d, tk, os⟩ := s; obtain ⟨hL, h⟩ := h
    have hsub := sub_enumerate
    wp_walk using wpAny_pyIter_tuple hL
    refine wpAny_stack_any fun st => wpAny_pure ?_
    split
    · rename_i c _ _ _ _ _
      cases (c == Value.type "enumerate")
      · wp_walk using wpAny_pyIter_tuple hL
        exact ⟨_, rfl, h⟩
      · wp_walk using wpAny_pyIter_tuple hL
        exact ⟨_, rfl, h⟩
    · wp_walk using wpAny_pyIter_tuple hL
      exact ⟨_, rfl, h⟩
theorem ep_call_enumT {prog : Program} {w : World} {A : Around} {E : Value → Shared → Prop} {s : Shared} {l : Addr} {items : Array Value} {Q : Value → Shared → Prop} (hL : s.heap.IsTuple l items)
    (h : ∀ h', IsEnum h' (s.heap.objs.size + 1) s.heap.objs.size 0 .none → h'.IsTupleIter s.heap.objs.size l 0 → h'.objs.size = s.heap.objs.size + 2 →
      (∀ b o, s.heap.get? b = some o → h'.get? b = some o) → Q (.ref (s.heap.objs.size + 1)) { s with heap := h' }) :
    wpAny (model prog w) A (call (.type "enumerate") [.ref l]) Q E s := by
  refine callType_new F.called_enumerate (by decide) (F.typeCall_enumerate_1 _) (F.newCall_enumerate_1 _) (fun obj => F.args_object_init_2 obj _) F.entry_enumerate_new
    (ep_enumerate_newT l items) ⟨hL, ?_⟩
  have hz : (s.heap.push { cls := .type "tuple_iterator", data := .fields #[.ref l, .int 0 0] }).objs.size = s.heap.objs.size + 1 := Heap.size_push ..
  show _ ∧ _
  rw [hz]
  have he : IsEnum ((s.heap.push { cls := .type "tuple_iterator", data := .fields #[.ref l, .int 0 0] }).push
      { cls := .type "enumerate", data := .fields #[.none, .bool false, .ref s.heap.objs.size, rawInt 0, .none, .none] }) (s.heap.objs.size + 1) s.heap.objs.size 0 .none := by
    have := Heap.get?_push_size (s.heap.push { cls := .type "tuple_iterator", data := .fields #[.ref l, .int 0 0] })
      (o := { cls := .type "enumerate", data := .fields #[.none, .bool false, .ref s.heap.objs.size, rawInt 0, .none, .none] }) rfl
    rw [hz] at this; exact this
  refine ⟨⟨_, he, rfl⟩, h _ he ⟨_, Heap.get?_push_of_some _ (Heap.get?_push_size _ rfl), rfl, rfl⟩ (by rw [Heap.size_push, hz]) fun b o x => Heap.get?_push_of_some _ (Heap.get?_push_of_some _ x)⟩
end PySem

namespace EP
open PySem L2 PySem.Spec PyProof.Rows
/-! ### enumerate of a tuple -/
def IteT (K : PySem.W.Frag) (a : Addr) : It :=
  ⟨fun i H => ∃ (xs : List V) (x : V), SqT K H a xs ∧ xs[i]? = some x, fun i H v H' => ∃ T x, v = .ref T ∧ H T = none ∧ H' = upd H T (.tup [.int (i : Nat), x]) ∧ ∀ xs, SqT K H a xs → xs[i]? = some x, fun i H => ∃ xs : List V, SqT K H a xs ∧ xs.length = i⟩
theorem turn_enumT {P : Program} {w : World} {K : PySem.W.Frag} {elts : List Expr} {kk : Nat} {tpos : Pos} (a e it : Addr) (hae : a ≠ e) (hai : a ≠ it) :
    Turn P w K (.Tuple elts kk tpos) (IteT K a) [e, it] e (fun i h => (∃ old, IsEnum h e it ((i : Nat) : Int) old) ∧ h.IsTupleIter it a i ∧ e ≠ it) where
  mem := by simp
  obj := fun i h st b hb => by
    obtain ⟨⟨old, he⟩, ⟨o, ho, hc, hd⟩, _⟩ := st
    have e' : b = e ∨ b = it := by simpa using hb
    rcases e' with z | z
    · rw [z]; exact ⟨_, he, fun v q => nomatch q⟩
    · rw [z]; exact ⟨o, ho, fun v q => by rw [hd] at q; cases q⟩
  keep := fun i h h' st k => let ⟨⟨old, he⟩, hi, hne⟩ := st; ⟨⟨old, k e (by simp) _ he⟩, hi.at fun o q => k it (by simp) o q, hne⟩
  item := by
    intro X hP hw hK hc i pins s σ H E I hf st hg
    subst hP hw hK
    obtain ⟨⟨old, he⟩, hit, hne⟩ := st
    obtain ⟨xs, x, hq, hx⟩ := hg
    obtain ⟨its, rv, p, hz⟩ := I.tuple hq
    obtain ⟨u, hu, ru⟩ := rv.get hx
    have hel : e < s.heap.objs.size := Heap.lt_size he
    have hil : it < s.heap.objs.size := by obtain ⟨_, q, _⟩ := hit; exact Heap.lt_size q
    have D := Draws.tuple (prog := X.prog) (w := X.w) (A := X.A.in1) (show X.A.in1.handled = none from I.ok.hd hc) it a hai its.toArray
    have hil2 : i < its.toArray.size := by
      have := (List.getElem?_eq_some_iff.mp hu).1
      simpa using this
    have hei : e ∉ [it, a] := by
      intro z
      rcases List.mem_cons.mp z with z | z
      · exact hne z
      · exact hae (List.mem_singleton.mp z).symm
    refine wpAny_pyNext_enum_itemD D he ⟨hit, p⟩ hil2 hne hei fun u' h' tk hu' ho hst' hT hsz hk => ?_
    obtain ⟨hit', _⟩ := hst'
    obtain rfl : u' = u := by
      have : its[i]? = some u' := by simpa using hu'
      rw [hu] at this
      exact (Option.some.inj this).symm
    refine ⟨_, rfl, wpAny_letOwnedTupleGo_enum (s := { s with heap := h', toks := tk + 1 }) ho fun h'' he' sb => ?_⟩
    have hT2 : h''.get? s.heap.objs.size = some { cls := .type "tuple", data := .seq #[.int i tk, u'] } := (sb.2 _ (Nat.ne_of_gt hel)).trans hT
    have new : ObjOk X.prog X.w (upd H s.heap.objs.size (.tup [.int (i : Nat), x])) h'' s.heap.objs.size (.tup [.int (i : Nat), x]) :=
      ⟨by show 2 ≤ sizeLine; decide, [.int i tk, u'], .cons ⟨_, rfl⟩ (.cons ru .nil), ⟨_, hT2, rfl, _, rfl⟩⟩
    have I1 : Inv X pins σ (upd H s.heap.objs.size (.tup [.int (i : Nat), x])) { s with heap := h'', toks := tk + 1 } :=
      I.turnedNew (ch := [e, it]) (fun b ob hb q => (sb.2 b (fun z => hb (by simp [z]))).trans (hk b ob (fun z => hb (by simp [z])) (fun z => hb (by simp [z])) q)) hf (Nat.le_refl _) new
    refine ⟨.ref s.heap.objs.size, _, I1, rfl, ⟨_, x, rfl, I.hok.fresh (Nat.le_refl _), rfl, fun ys hy => by rw [I.tuple_inj hy hq]; exact hx⟩, ⟨⟨u', ?_⟩, hit'.at fun o q => (sb.2 it (Ne.symm hne)).trans q, hne⟩, fun b hb => ?_⟩
    · have e1 : ((i + 1 : Nat) : Int) = (i : Int) + 1 := by omega
      rw [e1]; exact he'
    · have hb' : b < s.heap.objs.size := by
        have e' : b = e ∨ b = it := by simpa using hb
        rcases e' with z | z
        · rw [z]; exact hel
        · rw [z]; exact hil
      rw [upd_ne (Nat.ne_of_lt hb')]
      exact (hf b hb).1
  done := by
    intro X hP hw hK hc i pins s σ H E I hf st hg
    subst hP hw hK
    obtain ⟨⟨old, he⟩, hit, hne⟩ := st
    obtain ⟨xs, hq, hx⟩ := hg
    obtain ⟨its, rv, p, hz⟩ := I.tuple hq
    obtain ⟨f0, f1, f2, f3, f4, f5⟩ := hf it (by simp)
    have hl := rv.length
    have D := Draws.tuple (prog := X.prog) (w := X.w) (A := X.A.in1) (show X.A.in1.handled = none from I.ok.hd hc) it a hai its.toArray
    have en : i = its.toArray.size := by simp; omega
    rw [en] at hit
    exact wpAny_pyNext_enum_endD D he ⟨hit, p⟩ fun h' eb => ⟨rfl, I.turned (t' := s.toks) (fun b o hb q => eb b o hb q) f0 f1 f3 f4 f5⟩
  self := fun A i s Q E st h => let ⟨⟨_, he⟩, _⟩ := st; wpAny_pyIter_enum he h
def iEnumS (K : PySem.W.Frag) (ta : TA) : TI := fun σ H R => ta σ H fun vs H1 => ∃ a xs, vs = [.ref a] ∧ ((SqL K H1 a xs ∧ R (Ite K a) H1) ∨ (SqT K H1 a xs ∧ R (IteT K a) H1))
theorem pi_enumS {X : Cx} {e : Expr} {ta : TA} {p pos tpos : Pos} {elts : List Expr} {kk : Nat} (hg : Gl X "enumerate") (hm : X.mg "enumerate" = none) (ha : PA X [e] ta) (hs : starEach [e] X.env = [(false, eval e X.env)] := by rfl) :
    PI X (.Tuple elts kk tpos) (.Call (.Name "enumerate" p) [e] [] pos) (iEnumS X.K ta) := by
  refine ⟨fun pins s σ H R I h => ?_⟩
  refine Call_ (ld_blt I hg hm boot_enumerate (PyProof.Rows.callWith_type1 (thn (ha.run pos pins s σ H _ I h) fun us s1 ⟨vs, H1, I1, r1, q1⟩ => ?_) hs rfl))
  obtain ⟨a, xs, ex, q⟩ := q1
  subst ex
  cases r1 with
  | cons r rr =>
    cases rr
    cases r
    have fin : ∀ b ∈ [s1.heap.objs.size + 1, s1.heap.objs.size], s1.heap.objs.size ≤ b := fun b hb => by
      have e' : b = s1.heap.objs.size + 1 ∨ b = s1.heap.objs.size := by simpa using hb
      rcases e' with z | z
      · rw [z]; exact Nat.le_add_right _ _
      · rw [z]; exact Nat.le_refl _
    rcases q with ⟨hq, q⟩ | ⟨hq, q⟩
    · obtain ⟨its, rv, p', hz⟩ := I1.list hq
      refine call_enumerate_list p'.isList fun h' he hit hsz hk => wpAny_pyIter_enum he ?_
      have I2 : Inv X pins σ H1 { s1 with heap := h' } := I1.kept (t' := s1.toks) hk
      refine ⟨s1.heap.objs.size + 1, [s1.heap.objs.size + 1, s1.heap.objs.size], _, _, H1, rfl, I2, turn_enum a (s1.heap.objs.size + 1) s1.heap.objs.size, ⟨⟨.none, he⟩, hit, Nat.succ_ne_self _⟩, fun b hb => ?_, q⟩
      exact I1.fpOk (fin b hb) (I1.hok.fresh (fin b hb))
    · obtain ⟨its, rv, p', hz⟩ := I1.tuple hq
      have hal : a < s1.heap.objs.size := by obtain ⟨_, z, _⟩ := p'; exact Heap.lt_size z
      refine ep_call_enumT (show s1.heap.IsTuple a its.toArray from p') fun h' he hit hsz hk => wpAny_pyIter_enum he ?_
      have I2 : Inv X pins σ H1 { s1 with heap := h' } := I1.kept (t' := s1.toks) hk
      refine ⟨s1.heap.objs.size + 1, [s1.heap.objs.size + 1, s1.heap.objs.size], _, _, H1, rfl, I2, turn_enumT a (s1.heap.objs.size + 1) s1.heap.objs.size (Nat.ne_of_lt (Nat.lt_succ_of_lt hal)) (Nat.ne_of_lt hal), ⟨⟨.none, he⟩, hit, Nat.succ_ne_self _⟩, fun b hb => ?_, q⟩
      exact I1.fpOk (fin b hb) (I1.hok.fresh (fin b hb))
end EP

namespace EP
open PySem L2 PySem.Spec PyProof.Rows
section
variable {X : Cx} {CX : CXT} {k : Nat} {f C : Addr} {fd : FuncData} {ps : List Str} {sp : Sp} {E : L2.St → XK} {x : Str} {p pos : Pos} {e : Expr} {es : List Expr} {t : TA}
/-- C(e, ..), what it raises wished for at the slots -/
def tMakeT (C : Addr) (sp : Sp) (E : L2.St → XK) (t : TA) : TE := fun σ H Q => t σ H fun vs H1 => ∀ x dx, H1 x = none → H1 dx = none → dx ≠ x →
  sp (.ref x :: vs) (upd (upd H1 dx (.own x)) x (.ins C dx [])) (fun v H2 => v = .non ∧ Q (.ref x) H2) (E σ)
theorem run_makeT {pins : List (Addr × Obj)} {σ : L2.St} {H : Hp} {s : Shared} {Q : VK} {us : List Value} {vs : List V} (M : Mk X.K C f) (F : FnOk X.prog X.w X.K X.mg X.base CX k f fd ps sp) (hr : Room (k + 1) X.A) (hb : Binds X.K fd ps [])
    (hx : PassesAt CX X σ (E σ)) (I : Inv X pins σ H s) (r : Vals vs us)
    (h : ∀ x dx, H x = none → H dx = none → dx ≠ x → sp (.ref x :: vs) (upd (upd H dx (.own x)) x (.ins C dx [])) (fun v H2 => v = .non ∧ Q (.ref x) H2) (E σ)) :
    wpAny (model X.prog X.w) X.A (call (.ref C) us) (EP X pins σ Q) X.xe s := by
  have hq := h (s.heap.objs.size + 1) s.heap.objs.size (I.hok.fresh (Nat.le_succ _)) (I.hok.fresh (Nat.le_refl _)) (Nat.ne_of_lt (Nat.lt_succ_self _))
  have I2 := Inv.made (C := C) I
  have r2 : Vals (V.ref (s.heap.objs.size + 1) :: vs) (Value.ref (s.heap.objs.size + 1) :: us) := .cons rfl r
  have hl : (Value.ref (s.heap.objs.size + 1) :: us ++ []).length = ps.length := by
    have e := r2.length
    rw [F.len _ _ _ _ hq] at e
    rw [List.append_nil]
    exact e.symm
  have b := hb _ (Value.ref (s.heap.objs.size + 1) :: us) I2.kIn hl
  rw [List.append_nil] at b
  refine wpAny_call (make_map (f := f) I.kIn M.makes M.init (beq_iff_eq.mp M.fn) (codeAny_mono (F.run _ X.stack _ _ ⟨Value.ref (s.heap.objs.size + 1) :: us, []⟩ (Value.ref (s.heap.objs.size + 1) :: us) _ _ (E σ) (hr.make C us [])
    (I2.env0.make C us []) b r2 hq) fun r s' hq' => ?_))
  cases r with
  | error e => exact hx pins _ _ e s' I2 hq'
  | ok fl =>
    cases fl with
    | ret u =>
      obtain ⟨v, H', I3, rv, ev, q3⟩ := I2.after hq'
      subst ev
      exact ⟨rv, ⟨V.ref (s.heap.objs.size + 1), H', I3, rfl, q3⟩⟩
    | next => exact False.elim hq'
    | brk => exact False.elim hq'
    | cont => exact False.elim hq'
theorem pe_makeT (M : Mk X.K C f) (F : FnOk X.prog X.w X.K X.mg X.base CX k f fd ps sp) (hr : Room (k + 1) X.A) (hg : Gl X x) (hm : X.mg x = some (.ref C)) (hb : Binds X.K fd ps []) (hx : ∀ σ, PassesAt CX X σ (E σ))
    (ha : PA X (e :: es) t) (hdb : (x == ("__debug__" : Str)) = false := by decide) (he : starEach (e :: es) X.env = (false, eval e X.env) :: starEach es X.env := by rfl) (hpl : (backTo pos (starEach es X.env)).any (·.1) = false := by rfl) :
    PE X (.Call (.Name x p) (e :: es) [] pos) (tMakeT C sp E t) := by
  refine ⟨fun pins s σ H Q I h => ?_⟩
  refine wpAny_Call_Name_kw (ld_glob I hg hm ?_ hdb)
  refine PySem.W.callWith_K (h₀ := X.base) I.ok.mod.kin M.kp (thn (ha.run pos pins s σ H _ I h) fun us s1 ⟨vs, H1, I1, r, q⟩ => ⟨I1.kIn, ?_⟩) he hpl
  exact run_makeT M F hr hb (hx σ) I1 r q
end
end EP
/-! Small trees by their lists of parents: chains, branches, middles. Plain mathematics. -/
namespace Tr
def Ok (ps : List Nat) : Prop := ∀ (i p : Nat), ps[i]? = some p → p ≤ i
def par (ps : List Nat) (p : Nat) : Nat := min (ps.getD (p - 1) 0) (p - 1)
theorem par_lt (ps : List Nat) {p : Nat} (h : 1 ≤ p) : par ps p < p := by unfold par; omega
theorem par_eq {ps : List Nat} (o : Ok ps) {p : Nat} (h : 1 ≤ p) (hp : p ≤ ps.length) : ps[p - 1]? = some (par ps p) := by
  have hl : p - 1 < ps.length := by omega
  have e := List.getElem?_eq_getElem hl
  have q := o _ _ e
  unfold par
  rw [e, List.getD_eq_getElem?_getD, e]
  simp only [Option.getD_some]
  congr 1
  omega
/-- the positions from p up to the root, without it -/
def up (ps : List Nat) : Nat → List Nat
  | 0 => []
  | p + 1 => (p + 1) :: up ps (par ps (p + 1))
termination_by p => p
decreasing_by exact par_lt ps (by omega)
theorem up_zero (ps : List Nat) : up ps 0 = [] := by rw [up]
theorem up_pos (ps : List Nat) {p : Nat} (h : 1 ≤ p) : up ps p = p :: up ps (par ps p) := by
  obtain ⟨q, rfl⟩ : ∃ q, p = q + 1 := ⟨p - 1, by omega⟩
  rw [up]
theorem up_le (ps : List Nat) : ∀ (p : Nat) {w : Nat}, w ∈ up ps p → 1 ≤ w ∧ w ≤ p := by
  intro p
  induction p using Nat.strongRecOn with
  | _ p ih =>
    intro w h
    by_cases hp : 1 ≤ p
    · rw [up_pos ps hp, List.mem_cons] at h
      rcases h with rfl | h
      · omega
      · have l := par_lt ps hp
        have q := ih _ l h
        omega
    · obtain rfl : p = 0 := by omega
      rw [up_zero] at h
      cases h
theorem up_self (ps : List Nat) {p : Nat} (h : 1 ≤ p) : p ∈ up ps p := by rw [up_pos ps h]; exact List.mem_cons_self
theorem up_trans (ps : List Nat) : ∀ (p : Nat) {v w : Nat}, v ∈ up ps p → w ∈ up ps v → w ∈ up ps p := by
  intro p
  induction p using Nat.strongRecOn with
  | _ p ih =>
    intro v w h1 h2
    by_cases hp : 1 ≤ p
    · rw [up_pos ps hp, List.mem_cons] at h1
      rcases h1 with rfl | h1
      · exact h2
      · rw [up_pos ps hp]
        exact List.mem_cons_of_mem _ (ih _ (par_lt ps hp) h1 h2)
    · obtain rfl : p = 0 := by omega
      rw [up_zero] at h1
      cases h1
theorem up_cmp (ps : List Nat) : ∀ (p : Nat) {v w : Nat}, v ∈ up ps p → w ∈ up ps p → w ≤ v → w ∈ up ps v := by
  intro p
  induction p using Nat.strongRecOn with
  | _ p ih =>
    intro v w h1 h2 hl
    by_cases hp : 1 ≤ p
    · have h1' := h1
      rw [up_pos ps hp, List.mem_cons] at h1
      rcases h1 with rfl | h1
      · exact h2
      · have lt := par_lt ps hp
        have lv := up_le ps _ h1
        rw [up_pos ps hp, List.mem_cons] at h2
        rcases h2 with rfl | h2
        · omega
        · exact ih _ lt h1 h2 hl
    · obtain rfl : p = 0 := by omega
      rw [up_zero] at h1
      cases h1
/-- position p has side w -/
def has (ps : List Nat) (p w : Nat) : Bool := decide (w ∈ up ps p)
theorem has_iff {ps : List Nat} {p w : Nat} : has ps p w = true ↔ w ∈ up ps p := by unfold has; exact decide_eq_true_iff
theorem same_of {ps : List Nat} {n p q : Nat} (hp : p ≤ n) (hq : q ≤ n) (h : ∀ k, 1 ≤ k → k ≤ n → has ps p k = has ps q k) : p = q := by
  have one : ∀ {a b : Nat}, a ≤ n → (∀ k, 1 ≤ k → k ≤ n → has ps a k = has ps b k) → a ≤ b := by
    intro a b ha h
    by_cases h1 : 1 ≤ a
    · have e := h a h1 ha
      rw [has_iff.mpr (up_self ps h1)] at e
      exact (up_le ps _ (has_iff.mp e.symm)).2
    · omega
  have a := one hp h
  have b := one hq (fun k h1 h2 => (h k h1 h2).symm)
  omega
/-! ### branches as bits -/
/-- q stands in the branch of b, as far as the walls above j are taken over -/
def inB (ps : List Nat) (j b q : Nat) : Prop := q = b ∨ ∃ c, c ∈ up ps q ∧ par ps c = b ∧ j < c
theorem inB_far {ps : List Nat} {n b q : Nat} (hq : q ≤ n) : inB ps n b q ↔ q = b := by
  constructor
  · rintro (h | ⟨c, h1, _, h3⟩)
    · exact h
    · have := up_le ps _ h1; omega
  · exact Or.inl
/-- a child on the way -/
theorem child (ps : List Nat) : ∀ (q : Nat) {w : Nat}, w ∈ up ps q → q ≠ w → ∃ c, c ∈ up ps q ∧ par ps c = w := by
  intro q
  induction q using Nat.strongRecOn with
  | _ q ih =>
    intro w h hne
    by_cases hq : 1 ≤ q
    · rw [up_pos ps hq, List.mem_cons] at h
      rcases h with h | h
      · exact absurd h.symm hne
      · by_cases e : par ps q = w
        · exact ⟨q, up_self ps hq, e⟩
        · obtain ⟨c, h1, h2⟩ := ih _ (par_lt ps hq) h e
          exact ⟨c, by rw [up_pos ps hq]; exact List.mem_cons_of_mem _ h1, h2⟩
    · obtain rfl : q = 0 := by omega
      rw [up_zero] at h
      cases h
theorem par_mem (ps : List Nat) : ∀ (q : Nat) {c : Nat}, c ∈ up ps q → 1 ≤ par ps c → par ps c ∈ up ps q := by
  intro q c h h1
  have hc := (up_le ps _ h).1
  refine up_trans ps q h ?_
  rw [up_pos ps hc]
  exact List.mem_cons_of_mem _ (up_self ps h1)
theorem inB_self {ps : List Nat} {w q : Nat} (hw : 1 ≤ w) : inB ps w w q ↔ w ∈ up ps q := by
  constructor
  · rintro (rfl | ⟨c, h1, h2, _⟩)
    · exact up_self ps hw
    · rw [← h2]; exact par_mem ps q h1 (by omega)
  · intro h
    by_cases e : q = w
    · exact Or.inl e
    · obtain ⟨c, h1, h2⟩ := child ps q h e
      have hc := (up_le ps _ h1).1
      have := par_lt ps hc
      exact Or.inr ⟨c, h1, h2, by omega⟩
theorem inB_all {ps : List Nat} {w q : Nat} (hw : 1 ≤ w) : inB ps 0 w q ↔ w ∈ up ps q := by
  constructor
  · rintro (rfl | ⟨c, h1, h2, _⟩)
    · exact up_self ps hw
    · rw [← h2]; exact par_mem ps q h1 (by omega)
  · intro h
    rcases (inB_self hw).mpr h with e | ⟨c, h1, h2, h3⟩
    · exact Or.inl e
    · exact Or.inr ⟨c, h1, h2, by omega⟩
theorem inB_root (ps : List Nat) : ∀ q : Nat, inB ps 0 0 q := by
  intro q
  induction q using Nat.strongRecOn with
  | _ q ih =>
    by_cases hq : 1 ≤ q
    · by_cases e : par ps q = 0
      · exact Or.inr ⟨q, up_self ps hq, e, hq⟩
      · rcases ih _ (par_lt ps hq) with h | ⟨c, h1, h2, h3⟩
        · exact absurd h e
        · exact Or.inr ⟨c, by rw [up_pos ps hq]; exact List.mem_cons_of_mem _ h1, h2, h3⟩
    · exact Or.inl (by omega)
theorem inB_step {ps : List Nat} {j b q : Nat} : inB ps j b q ↔ inB ps (j + 1) b q ∨ (par ps (j + 1) = b ∧ (j + 1) ∈ up ps q) := by
  constructor
  · rintro (h | ⟨c, h1, h2, h3⟩)
    · exact Or.inl (Or.inl h)
    · by_cases e : c = j + 1
      · subst e; exact Or.inr ⟨h2, h1⟩
      · exact Or.inl (Or.inr ⟨c, h1, h2, by omega⟩)
  · rintro ((h | ⟨c, h1, h2, h3⟩) | ⟨h1, h2⟩)
    · exact Or.inl h
    · exact Or.inr ⟨c, h1, h2, by omega⟩
    · exact Or.inr ⟨j + 1, h2, h1, by omega⟩
/-- m holds the branch of b among the positions up to n -/
def Bits (ps : List Nat) (n j b m : Nat) : Prop := ∀ q, m.testBit q = true ↔ q ≤ n ∧ inB ps j b q
theorem bits_start {ps : List Nat} {n b : Nat} (hb : b ≤ n) : Bits ps n n b (2 ^ b) := by
  intro q
  rw [Nat.testBit_two_pow]
  simp only [decide_eq_true_eq]
  constructor
  · rintro rfl; exact ⟨hb, Or.inl rfl⟩
  · rintro ⟨h1, h2⟩; exact ((inB_far h1).mp h2).symm
theorem bits_or {ps : List Nat} {n j mb mw : Nat} (hb : Bits ps n (j + 1) (par ps (j + 1)) mb) (hw : Bits ps n (j + 1) (j + 1) mw) : Bits ps n j (par ps (j + 1)) (mb ||| mw) := by
  intro q
  rw [Nat.testBit_or, Bool.or_eq_true, hb q, hw q, inB_step (j := j) (b := par ps (j + 1)), inB_self (by omega)]
  constructor
  · rintro (⟨h1, h2⟩ | ⟨h1, h2⟩)
    · exact ⟨h1, Or.inl h2⟩
    · exact ⟨h1, Or.inr ⟨rfl, h2⟩⟩
  · rintro ⟨h1, h2 | ⟨_, h2⟩⟩
    · exact Or.inl ⟨h1, h2⟩
    · exact Or.inr ⟨h1, h2⟩
theorem bits_keep {ps : List Nat} {n j b m : Nat} (h : Bits ps n (j + 1) b m) (hb : par ps (j + 1) ≠ b) : Bits ps n j b m := by
  intro q
  rw [h q, inB_step (j := j) (b := b)]
  constructor
  · rintro ⟨h1, h2⟩; exact ⟨h1, Or.inl h2⟩
  · rintro ⟨h1, h2 | ⟨h2, _⟩⟩
    · exact ⟨h1, h2⟩
    · exact absurd h2 hb
theorem bits_root {ps : List Nat} {n m : Nat} (h : Bits ps n 0 0 m) : m = 2 ^ (n + 1) - 1 := by
  apply Nat.eq_of_testBit_eq
  intro q
  rw [Nat.testBit_two_pow_sub_one]
  by_cases e : q ≤ n
  · rw [(h q).mpr ⟨e, inB_root ps q⟩]
    exact (decide_eq_true (by omega)).symm
  · have z : m.testBit q = false := by
      cases hz : m.testBit q with
      | false => rfl
      | true => exact absurd ((h q).mp hz).1 e
    rw [z]
    exact (decide_eq_false (by omega)).symm
theorem bits_lt {ps : List Nat} {n j b m : Nat} (h : Bits ps n j b m) : m < 2 ^ (n + 1) := by
  apply Nat.lt_pow_two_of_testBit
  intro q hq
  cases hz : m.testBit q with
  | false => rfl
  | true => exact absurd ((h q).mp hz).1 (by omega)
/-- the mask of side w, of side -w -/
theorem mask_pos {ps : List Nat} {n w m p : Nat} (hw : 1 ≤ w) (hp : p ≤ n) (h : Bits ps n 0 w m) : m.testBit p = has ps p w := by
  have e := h p
  rw [inB_all hw] at e
  cases hz : has ps p w with
  | true => exact e.mpr ⟨hp, has_iff.mp hz⟩
  | false =>
    cases hm : m.testBit p with
    | false => rfl
    | true =>
      have := has_iff.mpr (e.mp hm).2
      rw [hz] at this
      cases this
theorem mask_neg {ps : List Nat} {n w m m0 p : Nat} (hw : 1 ≤ w) (hp : p ≤ n) (h : Bits ps n 0 w m) (h0 : Bits ps n 0 0 m0) : (m0 - m).testBit p = !has ps p w := by
  rw [bits_root h0]
  have l := bits_lt h
  have e : 2 ^ (n + 1) - 1 - m = 2 ^ (n + 1) - (m + 1) := by omega
  rw [e, Nat.testBit_two_pow_sub_succ l, mask_pos hw hp h, decide_eq_true (show p < n + 1 by omega)]
  rfl
theorem mask_le {ps : List Nat} {n w m m0 : Nat} (h : Bits ps n 0 w m) (h0 : Bits ps n 0 0 m0) : m ≤ m0 := by
  have l := bits_lt h
  rw [bits_root h0]
  omega
/-! ### the middle of an odd number of positions -/
def maj (ps : List Nat) (l : List Nat) (w : Nat) : Bool := decide (l.length < 2 * l.countP fun p => has ps p w)
/-- the greatest wall up to w whose branch holds more than half of them, or 0 -/
def mid (ps : List Nat) (l : List Nat) : Nat → Nat
  | 0 => 0
  | w + 1 => if maj ps l (w + 1) = true then w + 1 else mid ps l w
theorem mid_le (ps : List Nat) (l : List Nat) : ∀ n, mid ps l n ≤ n
  | 0 => Nat.le_refl 0
  | w + 1 => by
    unfold mid
    split
    · exact Nat.le_refl _
    · have := mid_le ps l w; omega
theorem mid_ge (ps : List Nat) (l : List Nat) : ∀ n {w : Nat}, 1 ≤ w → w ≤ n → maj ps l w = true → w ≤ mid ps l n
  | 0, w, h1, h2, _ => by omega
  | n + 1, w, h1, h2, h => by
    unfold mid
    split
    · exact h2
    · rename_i hn
      by_cases e : w = n + 1
      · subst e; exact absurd h hn
      · exact mid_ge ps l n h1 (by omega) h
theorem mid_maj (ps : List Nat) (l : List Nat) : ∀ n, 1 ≤ mid ps l n → maj ps l (mid ps l n) = true
  | 0, h => by unfold mid at h; omega
  | n + 1, h => by
    unfold mid at h ⊢
    split
    · assumption
    · rename_i hn
      rw [if_neg hn] at h
      exact mid_maj ps l n h
theorem two_maj {α : Type} (f g : α → Bool) : ∀ l : List α, l.length < l.countP f + l.countP g → ∃ x, x ∈ l ∧ f x = true ∧ g x = true
  | [], h => by simp at h
  | x :: l, h => by
    by_cases hx : f x = true ∧ g x = true
    · exact ⟨x, List.mem_cons_self, hx.1, hx.2⟩
    · have h2 : l.length < l.countP f + l.countP g := by
        rw [List.countP_cons, List.countP_cons, List.length_cons] at h
        cases hf : f x <;> cases hg : g x <;> simp [hf, hg] at h hx <;> omega
      obtain ⟨y, hy, h3⟩ := two_maj f g l h2
      exact ⟨y, List.mem_cons_of_mem _ hy, h3⟩
theorem mid_has {ps : List Nat} {l : List Nat} {n k : Nat} (h1 : 1 ≤ k) (hk : k ≤ n) : has ps (mid ps l n) k = maj ps l k := by
  cases hm : maj ps l k with
  | true =>
    have hge := mid_ge ps l n h1 hk hm
    have hmm := mid_maj ps l n (by omega)
    unfold maj at hm hmm
    have a := of_decide_eq_true hm
    have b := of_decide_eq_true hmm
    obtain ⟨x, _, hx1, hx2⟩ := two_maj (fun p => has ps p k) (fun p => has ps p (mid ps l n)) l (by omega)
    exact has_iff.mpr (up_cmp ps x (has_iff.mp hx2) (has_iff.mp hx1) hge)
  | false =>
    cases hh : has ps (mid ps l n) k with
    | false => rfl
    | true =>
      have hu := has_iff.mp hh
      have h2 := up_le ps _ hu
      have hmm := mid_maj ps l n (by omega)
      unfold maj at hm hmm
      have b := of_decide_eq_true hmm
      have a := of_decide_eq_false hm
      have c : l.countP (fun p => has ps p (mid ps l n)) ≤ l.countP fun p => has ps p k := List.countP_mono_left fun x _ hx => has_iff.mpr (up_trans ps x (has_iff.mp hx) hu)
      omega
/-- the sides' numbers that a position has -/
def side (ps : List Nat) (p k : Nat) : Int := if has ps p k = true then (k : Int) else 0 - (k : Int)
theorem side_eq {ps : List Nat} {p q k : Nat} (h : 1 ≤ k) : side ps p k = side ps q k ↔ has ps p k = has ps q k := by
  unfold side
  cases has ps p k <;> cases has ps q k <;> simp <;> omega
/-- between in the law's words -/
def betw (ps : List Nat) (n p a b : Nat) : Prop := ∀ k, 1 ≤ k → k ≤ n → side ps a k = side ps b k → side ps p k = side ps a k
theorem middle3 {ps : List Nat} {n p a b c : Nat} (hp : p ≤ n) : (betw ps n p a b ∧ betw ps n p b c ∧ betw ps n p c a) ↔ p = mid ps [a, b, c] n := by
  have m3 : ∀ k, maj ps [a, b, c] k = ((has ps a k && has ps b k) || (has ps b k && has ps c k) || (has ps c k && has ps a k)) := by
    intro k
    unfold maj
    simp only [List.countP_cons, List.countP_nil, List.length_cons, List.length_nil]
    cases has ps a k <;> cases has ps b k <;> cases has ps c k <;> decide
  constructor
  · rintro ⟨h1, h2, h3⟩
    refine same_of (ps := ps) hp (mid_le ps _ n) fun k k1 k2 => ?_
    rw [mid_has k1 k2, m3]
    have a1 := h1 k k1 k2
    have a2 := h2 k k1 k2
    have a3 := h3 k k1 k2
    rw [side_eq k1, side_eq k1] at a1 a2 a3
    revert a1 a2 a3
    cases has ps a k <;> cases has ps b k <;> cases has ps c k <;> cases has ps p k <;> simp
  · rintro rfl
    refine ⟨?_, ?_, ?_⟩ <;> (intro k k1 k2; rw [side_eq k1, side_eq k1, mid_has k1 k2, m3]; cases has ps a k <;> cases has ps b k <;> cases has ps c k <;> simp)
/-- which order the three stand in makes no difference -/
theorem mid_perm {ps : List Nat} {l l' : List Nat} (h : l.Perm l') : ∀ n, mid ps l n = mid ps l' n
  | 0 => rfl
  | n + 1 => by
    have e : maj ps l (n + 1) = maj ps l' (n + 1) := by
      unfold maj
      rw [h.length_eq, h.countP_eq]
    unfold mid
    rw [e, mid_perm h n]
end Tr
/-! Ways in a small tree. -/
namespace Tr
/-- the positions from p up to the root -/
def ch (ps : List Nat) (p : Nat) : List Nat := up ps p ++ [0]
theorem ch_zero (ps : List Nat) : ch ps 0 = [0] := by unfold ch; rw [up_zero]; rfl
theorem ch_pos (ps : List Nat) {p : Nat} (h : 1 ≤ p) : ch ps p = p :: ch ps (par ps p) := by unfold ch; rw [up_pos ps h]; rfl
theorem ch_le {ps : List Nat} {p x : Nat} (h : x ∈ ch ps p) : x ≤ p := by
  unfold ch at h
  rcases List.mem_append.mp h with h | h
  · exact (up_le ps _ h).2
  · rw [List.mem_singleton.mp h]; omega
theorem ch_head (ps : List Nat) (p : Nat) : ∃ r, ch ps p = p :: r := by
  by_cases h : 1 ≤ p
  · exact ⟨_, ch_pos ps h⟩
  · obtain rfl : p = 0 := by omega
    exact ⟨[], ch_zero ps⟩
theorem mem_ch {ps : List Nat} {p x : Nat} (hx : 1 ≤ x) : x ∈ ch ps p ↔ x ∈ up ps p := by
  unfold ch
  rw [List.mem_append, List.mem_singleton]
  constructor
  · rintro (h | h)
    · exact h
    · omega
  · exact Or.inl
theorem ch_nodup (ps : List Nat) : ∀ p : Nat, (ch ps p).Nodup := by
  intro p
  induction p using Nat.strongRecOn with
  | _ p ih =>
    by_cases h : 1 ≤ p
    · rw [ch_pos ps h]
      refine List.nodup_cons.mpr ⟨fun m => ?_, ih _ (par_lt ps h)⟩
      have := ch_le m
      have := par_lt ps h
      omega
    · obtain rfl : p = 0 := by omega
      rw [ch_zero]
      exact List.nodup_cons.mpr ⟨List.not_mem_nil, List.nodup_nil⟩
/-- where two climbs meet -/
theorem meet (ps : List Nat) : ∀ (s a b : Nat), a + b ≤ s → ∃ A B m, ch ps a = A ++ ch ps m ∧ ch ps b = B ++ ch ps m ∧ (∀ x, x ∈ A → x ∉ ch ps b) ∧ ∀ x, x ∈ B → x ∉ ch ps a := by
  intro s
  induction s with
  | zero =>
    intro a b h
    obtain rfl : a = 0 := by omega
    obtain rfl : b = 0 := by omega
    exact ⟨[], [], 0, rfl, rfl, fun x h => absurd h List.not_mem_nil, fun x h => absurd h List.not_mem_nil⟩
  | succ s ih =>
    intro a b h
    by_cases e : a = b
    · subst e
      exact ⟨[], [], a, rfl, rfl, fun x h => absurd h List.not_mem_nil, fun x h => absurd h List.not_mem_nil⟩
    · by_cases l : b < a
      · have a1 : 1 ≤ a := by omega
        have pl := par_lt ps a1
        obtain ⟨A, B, m, h1, h2, h3, h4⟩ := ih (par ps a) b (by omega)
        refine ⟨a :: A, B, m, by rw [ch_pos ps a1, h1]; rfl, h2, fun x hx => ?_, fun x hx hm => ?_⟩
        · rcases List.mem_cons.mp hx with rfl | hx
          · intro hm
            have := ch_le hm
            omega
          · exact h3 x hx
        · rw [ch_pos ps a1] at hm
          rcases List.mem_cons.mp hm with rfl | hm
          · have : x ∈ ch ps b := by rw [h2]; exact List.mem_append_left _ hx
            have := ch_le this
            omega
          · exact h4 x hx hm
      · have b1 : 1 ≤ b := by omega
        have pl := par_lt ps b1
        obtain ⟨A, B, m, h1, h2, h3, h4⟩ := ih a (par ps b) (by omega)
        refine ⟨A, b :: B, m, h1, by rw [ch_pos ps b1, h2]; rfl, fun x hx hm => ?_, fun x hx => ?_⟩
        · rw [ch_pos ps b1] at hm
          rcases List.mem_cons.mp hm with rfl | hm
          · have : x ∈ ch ps a := by rw [h1]; exact List.mem_append_left _ hx
            have := ch_le this
            omega
          · exact h3 x hx hm
        · rcases List.mem_cons.mp hx with rfl | hx
          · intro hm
            have := ch_le hm
            omega
          · exact h4 x hx
theorem filter_out {α : Type} {f : α → Bool} {A C : List α} (h1 : ∀ x, x ∈ A → f x = true) (h2 : ∀ x, x ∈ C → f x = false) : (A ++ C).filter f = A := by
  rw [List.filter_append, List.filter_eq_self.mpr h1]
  have : C.filter f = [] := List.filter_eq_nil_iff.mpr fun x hx => by rw [h2 x hx]; exact Bool.false_ne_true
  rw [this, List.append_nil]
/-- the way in the program's words -/
def before (ps : List Nat) (a b : Nat) : List Nat := (ch ps a).filter fun x => decide (x ∉ ch ps b)
def way (ps : List Nat) (a b : Nat) : List Nat := before ps a b ++ [(ch ps a).getD (before ps a b).length 0] ++ (before ps b a).reverse
theorem way_is {ps : List Nat} (a b : Nat) : ∃ A B m, ch ps a = A ++ ch ps m ∧ ch ps b = B ++ ch ps m ∧ (∀ x, x ∈ A → x ∉ ch ps b) ∧ (∀ x, x ∈ B → x ∉ ch ps a) ∧ before ps a b = A ∧ before ps b a = B ∧ (ch ps a)[A.length]? = some m ∧ way ps a b = A ++ [m] ++ B.reverse := by
  obtain ⟨A, B, m, h1, h2, h3, h4⟩ := meet ps (a + b) a b (Nat.le_refl _)
  have e1 : before ps a b = A := by
    unfold before
    conv => lhs; rw [h1]
    refine filter_out (fun x hx => decide_eq_true (h3 x hx)) fun x hx => decide_eq_false fun z => z ?_
    rw [h2]
    exact List.mem_append_right _ hx
  have e2 : before ps b a = B := by
    unfold before
    conv => lhs; rw [h2]
    refine filter_out (fun x hx => decide_eq_true (h4 x hx)) fun x hx => decide_eq_false fun z => z ?_
    rw [h1]
    exact List.mem_append_right _ hx
  obtain ⟨r, hr⟩ := ch_head ps m
  have e3 : (ch ps a)[A.length]? = some m := by rw [h1, hr, List.getElem?_append_right (Nat.le_refl _)]; simp
  refine ⟨A, B, m, h1, h2, h3, h4, e1, e2, e3, ?_⟩
  unfold way
  rw [e1, e2, List.getD_eq_getElem?_getD, e3]
  rfl
theorem way_back {ps : List Nat} (a b : Nat) : way ps b a = (way ps a b).reverse := by
  obtain ⟨A, B, m, h1, h2, h3, h4, e1, e2, e3, e⟩ := way_is (ps := ps) a b
  obtain ⟨r, hr⟩ := ch_head ps m
  have e4 : (ch ps b)[B.length]? = some m := by rw [h2, hr, List.getElem?_append_right (Nat.le_refl _)]; simp
  rw [e]
  unfold way
  rw [e1, e2, List.getD_eq_getElem?_getD, e4]
  simp
/-! ### neighbours -/
def Nb (ps : List Nat) (x y : Nat) : Prop := (1 ≤ x ∧ y = par ps x) ∨ (1 ≤ y ∧ x = par ps y)
def Adj (R : Nat → Nat → Prop) : List Nat → Prop
  | [] => True
  | [_] => True
  | x :: y :: l => R x y ∧ Adj R (y :: l)
theorem adj_at {R : Nat → Nat → Prop} : ∀ {l : List Nat} {i x y : Nat}, Adj R l → l[i]? = some x → l[i + 1]? = some y → R x y
  | [], _, _, _, _, h, _ => by simp at h
  | [_], i, _, _, _, _, h => by simp at h
  | a :: b :: l, 0, x, y, h, h1, h2 => by
    simp at h1 h2
    subst h1 h2
    exact h.1
  | a :: b :: l, i + 1, x, y, h, h1, h2 => adj_at (i := i) h.2 (by simpa using h1) (by simpa using h2)
theorem adj_left {R : Nat → Nat → Prop} : ∀ {l r : List Nat}, Adj R (l ++ r) → Adj R l
  | [], _, _ => trivial
  | [_], _, _ => trivial
  | a :: b :: l, r, h => ⟨h.1, adj_left (l := b :: l) (r := r) h.2⟩
theorem adj_join {R : Nat → Nat → Prop} {m : Nat} : ∀ {l r : List Nat}, Adj R (l ++ [m]) → Adj R (m :: r) → Adj R (l ++ m :: r)
  | [], _, _, h => h
  | [a], r, h1, h2 => ⟨h1.1, h2⟩
  | a :: b :: l, r, h1, h2 => ⟨h1.1, adj_join (l := b :: l) h1.2 h2⟩
theorem adj_snoc {R : Nat → Nat → Prop} {x : Nat} : ∀ {l : List Nat} {y : Nat}, Adj R (l ++ [y]) → R y x → Adj R (l ++ [y] ++ [x])
  | [], y, _, h => ⟨h, trivial⟩
  | [a], y, h1, h => ⟨h1.1, h, trivial⟩
  | a :: b :: l, y, h1, h => ⟨h1.1, adj_snoc (l := b :: l) h1.2 h⟩
theorem adj_rev {R : Nat → Nat → Prop} (sy : ∀ x y, R x y → R y x) : ∀ {l : List Nat}, Adj R l → Adj R l.reverse
  | [], _ => trivial
  | [_], _ => trivial
  | a :: b :: l, h => by
    have ih := adj_rev sy (l := b :: l) h.2
    rw [List.reverse_cons, List.reverse_cons] at *
    exact adj_snoc ih (sy _ _ h.1)
theorem adj_ch (ps : List Nat) : ∀ p : Nat, Adj (Nb ps) (ch ps p) := by
  intro p
  induction p using Nat.strongRecOn with
  | _ p ih =>
    by_cases h : 1 ≤ p
    · obtain ⟨r, hr⟩ := ch_head ps (par ps p)
      have i := ih _ (par_lt ps h)
      rw [ch_pos ps h, hr] at *
      exact ⟨Or.inl ⟨h, rfl⟩, i⟩
    · obtain rfl : p = 0 := by omega
      rw [ch_zero]
      trivial
theorem nb_sym {ps : List Nat} (x y : Nat) (h : Nb ps x y) : Nb ps y x := h.elim Or.inr Or.inl
theorem way_adj (ps : List Nat) (a b : Nat) : Adj (Nb ps) (way ps a b) := by
  obtain ⟨A, B, m, h1, h2, h3, h4, e1, e2, e3, e⟩ := way_is (ps := ps) a b
  obtain ⟨r, hr⟩ := ch_head ps m
  rw [e, List.append_assoc]
  have a1 : Adj (Nb ps) (A ++ [m]) := by
    have := adj_ch ps a
    rw [h1, hr, show A ++ m :: r = (A ++ [m]) ++ r by simp] at this
    exact adj_left this
  have b1 : Adj (Nb ps) (B ++ [m]) := by
    have := adj_ch ps b
    rw [h2, hr, show B ++ m :: r = (B ++ [m]) ++ r by simp] at this
    exact adj_left this
  have b2 := adj_rev nb_sym b1
  rw [List.reverse_append] at b2
  exact adj_join a1 b2
theorem way_nodup (ps : List Nat) (a b : Nat) : (way ps a b).Nodup := by
  obtain ⟨A, B, m, h1, h2, h3, h4, e1, e2, e3, e⟩ := way_is (ps := ps) a b
  obtain ⟨r, hr⟩ := ch_head ps m
  have na := ch_nodup ps a
  have nb := ch_nodup ps b
  rw [h1, hr] at na
  rw [h2, hr] at nb
  rw [e, List.append_assoc]
  have mb : m ∈ ch ps b := by rw [h2, hr]; simp
  have ma : m ∈ ch ps a := by rw [h1, hr]; simp
  refine List.nodup_append.mpr ⟨(List.nodup_append.mp na).1, ?_, ?_⟩
  · refine List.nodup_cons.mpr ⟨fun hm => h4 m (List.mem_reverse.mp hm) ma, (List.reverse_perm B).nodup_iff.mpr (List.nodup_append.mp nb).1⟩
  · rintro x hx y hy rfl
    rcases List.mem_cons.mp hy with rfl | hy
    · exact h3 x hx mb
    · refine h3 x hx ?_
      rw [h2]
      exact List.mem_append_left _ (List.mem_reverse.mp hy)
theorem way_le {ps : List Nat} {a b n x : Nat} (ha : a ≤ n) (hb : b ≤ n) (h : x ∈ way ps a b) : x ≤ n := by
  obtain ⟨A, B, m, h1, h2, h3, h4, e1, e2, e3, e⟩ := way_is (ps := ps) a b
  rw [e] at h
  obtain ⟨r, hr⟩ := ch_head ps m
  have ia : ∀ y, y ∈ A ∨ y = m → y ≤ a := fun y hy => ch_le (ps := ps) (by rw [h1, hr]; rcases hy with hy | rfl <;> simp [*])
  have ib : ∀ y, y ∈ B → y ≤ b := fun y hy => ch_le (ps := ps) (by rw [h2]; simp [hy])
  simp only [List.mem_append, List.mem_singleton, List.mem_reverse] at h
  rcases h with (h | h) | h
  · have := ia x (Or.inl h); omega
  · have := ia x (Or.inr h); omega
  · have := ib x h; omega
theorem way_first (ps : List Nat) (a b : Nat) : (way ps a b)[0]? = some a := by
  obtain ⟨A, B, m, h1, h2, h3, h4, e1, e2, e3, e⟩ := way_is (ps := ps) a b
  obtain ⟨r, hr⟩ := ch_head ps m
  obtain ⟨q, hq⟩ := ch_head ps a
  rw [e]
  rw [h1, hr] at hq
  cases A with
  | nil => simp at hq ⊢; exact hq.1
  | cons x A => simp at hq ⊢; exact hq.1
theorem way_last (ps : List Nat) (a b : Nat) : (way ps a b)[(way ps a b).length - 1]? = some b := by
  have e := way_first ps b a
  rw [way_back] at e
  have hl : 0 < (way ps a b).length := by
    cases z : way ps a b with
    | nil => rw [z] at e; simp at e
    | cons x l => simp
  rw [List.getElem?_reverse (by omega)] at e
  exact e
/-- the walls that part a and b -/
def partw (ps : List Nat) (a b k : Nat) : Bool := has ps a k != has ps b k
def parting (ps : List Nat) (a b : Nat) : List Nat := ((List.range ps.length).map (· + 1)).filter fun k => partw ps a b k
theorem parting_nodup (ps : List Nat) (a b : Nat) : (parting ps a b).Nodup := by
  unfold parting
  refine List.Nodup.sublist List.filter_sublist ?_
  exact List.pairwise_map.mpr (List.Pairwise.imp (fun {x y} (h : x ≠ y) => by omega) List.nodup_range)
theorem way_len {ps : List Nat} {a b : Nat} (ha : a ≤ ps.length) (hb : b ≤ ps.length) : (way ps a b).length = (parting ps a b).length + 1 := by
  obtain ⟨A, B, m, h1, h2, h3, h4, e1, e2, e3, e⟩ := way_is (ps := ps) a b
  obtain ⟨r, hr⟩ := ch_head ps m
  have na := ch_nodup ps a
  have nb := ch_nodup ps b
  rw [h1] at na
  rw [h2] at nb
  have nab : (A ++ B).Nodup := by
    refine List.nodup_append.mpr ⟨(List.nodup_append.mp na).1, (List.nodup_append.mp nb).1, ?_⟩
    rintro x hx y hy rfl
    refine h3 x hx ?_
    rw [h2]
    exact List.mem_append_left _ hy
  have za : (0 : Nat) ∈ ch ps a := by unfold ch; simp
  have zb : (0 : Nat) ∈ ch ps b := by unfold ch; simp
  have mem : ∀ k, k ∈ parting ps a b ↔ k ∈ A ++ B := by
    intro k
    unfold parting
    rw [List.mem_filter, List.mem_map, List.mem_append]
    constructor
    · rintro ⟨⟨j, hj, rfl⟩, hp⟩
      unfold partw at hp
      by_cases c : has ps a (j + 1) = true
      · have d : ¬ has ps b (j + 1) = true := by
          intro d
          rw [c, d] at hp
          exact absurd hp (by decide)
        have ma := (mem_ch (ps := ps) (p := a) (x := j + 1) (by omega)).mpr (has_iff.mp c)
        have mb : ¬ (j + 1) ∈ ch ps b := fun z => d (has_iff.mpr ((mem_ch (by omega)).mp z))
        rw [h1] at ma
        rcases List.mem_append.mp ma with h | h
        · exact Or.inl h
        · exact absurd (by rw [h2]; exact List.mem_append_right _ h) mb
      · have d : has ps b (j + 1) = true := by
          cases hb' : has ps b (j + 1) with
          | true => rfl
          | false =>
            have c' : has ps a (j + 1) = false := by simpa using c
            rw [c', hb'] at hp
            exact absurd hp (by decide)
        have mb := (mem_ch (ps := ps) (p := b) (x := j + 1) (by omega)).mpr (has_iff.mp d)
        have ma : ¬ (j + 1) ∈ ch ps a := fun z => c (has_iff.mpr ((mem_ch (by omega)).mp z))
        rw [h2] at mb
        rcases List.mem_append.mp mb with h | h
        · exact Or.inr h
        · exact absurd (by rw [h1]; exact List.mem_append_right _ h) ma
    · intro h
      have one : ∀ x, (x = 0 → False) → 1 ≤ x := fun x hx => by
        by_cases z : x = 0
        · exact (hx z).elim
        · omega
      rcases h with h | h
      · have k1 := one k fun z => h3 k h (by rw [z]; exact zb)
        have ka : k ∈ ch ps a := by rw [h1]; exact List.mem_append_left _ h
        have kl := ch_le ka
        refine ⟨⟨k - 1, List.mem_range.mpr (by omega), by omega⟩, ?_⟩
        have x1 : has ps a k = true := has_iff.mpr ((mem_ch k1).mp ka)
        have x2 : has ps b k = false := by
          cases z : has ps b k with
          | false => rfl
          | true => exact absurd ((mem_ch k1).mpr (has_iff.mp z)) (h3 k h)
        unfold partw
        rw [x1, x2]
        rfl
      · have k1 := one k fun z => h4 k h (by rw [z]; exact za)
        have kb : k ∈ ch ps b := by rw [h2]; exact List.mem_append_left _ h
        have kl := ch_le kb
        refine ⟨⟨k - 1, List.mem_range.mpr (by omega), by omega⟩, ?_⟩
        have x1 : has ps b k = true := has_iff.mpr ((mem_ch k1).mp kb)
        have x2 : has ps a k = false := by
          cases z : has ps a k with
          | false => rfl
          | true => exact absurd ((mem_ch k1).mpr (has_iff.mp z)) (h4 k h)
        unfold partw
        rw [x1, x2]
        rfl
  have pm := (List.perm_ext_iff_of_nodup (parting_nodup ps a b) nab).mpr mem
  rw [pm.length_eq, e]
  simp
  omega
theorem mem_bool (ps : List Nat) (a k : Nat) : decide (k ∈ up ps a) = has ps a k := rfl
end Tr
namespace EP
open PySem L2 PySem.Spec PyProof.Rows
theorem hu64_of {A : Around} {k : Nat} (hr : Room k A) : A.units + 64 < cLine := by have := hr.un; omega
/-! ### a shape's attributes -/
def shf (t d : Addr) (n : Nat) : List (Str × V) := [("parents", .ref t), ("size", .int n), ("_masks", .ref d)]
theorem shf_parents {t d : Addr} {n : Nat} : (shf t d n).lookup ("parents" : Str) = some (.ref t) := by first | rfl | kernel_rfl
theorem shf_size {t d : Addr} {n : Nat} : (shf t d n).lookup ("size" : Str) = some (.int n) := by first | rfl | kernel_rfl
theorem shf_masks {t d : Addr} {n : Nat} : (shf t d n).lookup ("_masks" : Str) = some (.ref d) := by first | rfl | kernel_rfl
def nvs (ps : List Nat) : List V := ps.map (fun (p : Nat) => V.int (p : Int))
/-- side k of a shape of size n -/
def IsSide (n : Nat) (k : Int) : Prop := k ≠ 0 ∧ -(n : Int) ≤ k ∧ k ≤ n
def IsPos (n : Nat) (p : Int) : Prop := 0 ≤ p ∧ p ≤ n
instance (n : Nat) (k : Int) : Decidable (IsSide n k) := by unfold IsSide; exact inferInstance
instance (n : Nat) (p : Int) : Decidable (IsPos n p) := by unfold IsPos; exact inferInstance
/-- position p has side k -/
def hasS (ps : List Nat) (p k : Int) : Bool := if 0 < k then Tr.has ps p.toNat k.toNat else !Tr.has ps p.toNat (-k).toNat
def MasksOk (ps : List Nat) (kvs : List (Key × V)) : Prop := ∀ w, 1 ≤ w → w ≤ ps.length → ∃ m m' : Nat, valV kvs (.inl (w : Int)) = some (.int m) ∧ valV kvs (.inl (-(w : Int))) = some (.int m') ∧
  (∀ p, p ≤ ps.length → m.testBit p = Tr.has ps p w ∧ m'.testBit p = !Tr.has ps p w) ∧ m < 2 ^ (ps.length + 1) ∧ m' < 2 ^ (ps.length + 1)
theorem bit_is (m p : Nat) : Builtin.bitAnd ((m : Int) / 2 ^ ((p : Int)).toNat) 1 = if m.testBit p = true then 1 else 0 := by
  rw [PyProof.Rows.bitAnd_m1]
  have e : ((m : Int) / 2 ^ ((p : Int)).toNat) = ((m / 2 ^ p : Nat) : Int) := by
    rw [Int.toNat_natCast]
    norm_cast
  rw [e]
  have : m.testBit p = decide (m / 2 ^ p % 2 = 1) := by
    rw [Nat.testBit_eq_decide_div_mod_eq]
  rw [this]
  by_cases h : m / 2 ^ p % 2 = 1
  · rw [if_pos (decide_eq_true h)]; omega
  · rw [if_neg (by simpa using h)]; omega
theorem mask_of {ps : List Nat} {kvs : List (Key × V)} (M : MasksOk ps kvs) {p k : Int} (hp : IsPos ps.length p) (hk : IsSide ps.length k) : ∃ m : Nat, valV kvs (.inl k) = some (.int m) ∧ m.testBit p.toNat = hasS ps p k := by
  obtain ⟨h1, h2, h3⟩ := hk
  obtain ⟨h4, h5⟩ := hp
  unfold hasS
  by_cases h0 : 0 < k
  · obtain ⟨m, m', e1, e2, e3, _⟩ := M k.toNat (by omega) (by omega)
    rw [show ((k.toNat : Nat) : Int) = k by omega] at e1
    exact ⟨m, e1, by rw [if_pos h0]; exact (e3 p.toNat (by omega)).1⟩
  · obtain ⟨m, m', e1, e2, e3, _⟩ := M (-k).toNat (by omega) (by omega)
    rw [show -(((-k).toNat : Nat) : Int) = k by omega] at e2
    exact ⟨m', e2, by rw [if_neg h0]; exact (e3 p.toNat (by omega)).2⟩
/-- .. for all positions, and its size -/
theorem mask_all {ps : List Nat} {kvs : List (Key × V)} (M : MasksOk ps kvs) {k : Int} (hk : IsSide ps.length k) : ∃ m : Nat, valV kvs (.inl k) = some (.int m) ∧ (∀ p : Nat, p ≤ ps.length → m.testBit p = hasS ps (p : Int) k) ∧ m < 2 ^ (ps.length + 1) := by
  obtain ⟨h1, h2, h3⟩ := hk
  by_cases h0 : 0 < k
  · obtain ⟨m, m', e1, e2, e3, l1, l2⟩ := M k.toNat (by omega) (by omega)
    rw [show ((k.toNat : Nat) : Int) = k by omega] at e1
    exact ⟨m, e1, fun p hp => by unfold hasS; rw [if_pos h0, Int.toNat_natCast]; exact (e3 p hp).1, l1⟩
  · obtain ⟨m, m', e1, e2, e3, l1, l2⟩ := M (-k).toNat (by omega) (by omega)
    rw [show -(((-k).toNat : Nat) : Int) = k by omega] at e2
    exact ⟨m', e2, fun p hp => by unfold hasS; rw [if_neg h0, Int.toNat_natCast]; exact (e3 p hp).2, l2⟩
/-- a Shape of these parents stands at s -/
structure ShapeAt (K : PySem.W.Frag) (C : Addr) (H : Hp) (s : Addr) (ps : List Nat) : Prop where
  ok : Tr.Ok ps
  pos : 1 ≤ ps.length
  small : ps.length ≤ 1000
  at_ : ∃ dx t d kvs, H s = some (.ins C dx (shf t d ps.length)) ∧ SqT K H t (nvs ps) ∧ H d = some (.dK kvs) ∧ MasksOk ps kvs
theorem SqT_same {K : PySem.W.Frag} {H H' : Hp} {a : Addr} {xs : List V} (e : Same H H') (h : SqT K H a xs) : SqT K H' a xs := by
  rcases h with h | h
  · refine Or.inl ?_
    rcases h with h | ⟨o, h⟩
    · exact Or.inl (e a _ h)
    · exact Or.inr ⟨o, e a _ h⟩
  · exact Or.inr h
theorem ShapeAt.same {K : PySem.W.Frag} {C : Addr} {H H' : Hp} {s : Addr} {ps : List Nat} (S : ShapeAt K C H s ps) (e : Same H H') : ShapeAt K C H' s ps := by
  obtain ⟨o, p, sm, dx, t, d, kvs, h1, h2, h3, h4⟩ := S
  exact ⟨o, p, sm, dx, t, d, kvs, e _ _ h1, SqT_same e h2, e _ _ h3, h4⟩
def Small (i : Int) : Prop := i.natAbs < 2 ^ 100
theorem Small.ok {i : Int} (h : Small i) {H : Hp} : IntS (.int i) H := ⟨i, rfl, int_small (Nat.lt_trans h (by decide))⟩
theorem same_new {H : Hp} {d : Addr} {o : HO} (h : H d = none) : Same H (upd H d o) := fun b u e => by
  rw [upd_ne (ne_of_none e h)]
  exact e
end EP
namespace EP
open PySem L2
theorem notIte {A B : Prop} {b : Bool} (ht : b = true → B) (hf : b = false → A) : if (!b) = true then A else B := by
  cases b with
  | true => exact iteF (ht rfl)
  | false => exact iteT (hf rfl)
theorem boolIte {A B : Prop} {b : Bool} (ht : b = true → A) (hf : b = false → B) : if b = true then A else B := by
  cases b with
  | true => exact iteT (ht rfl)
  | false => exact iteF (hf rfl)
theorem ifT {A B : Prop} {b : Bool} (e : b = true) (h : A) : if b = true then A else B := by rw [e]; exact iteT h
theorem ifF {A B : Prop} {b : Bool} (e : b = false) (h : B) : if b = true then A else B := by rw [e]; exact iteF h
theorem shr_ok (m : Nat) (p : Int) : Builtin.bitAnd ((m : Int) / 2 ^ p.toNat) 1 = if m.testBit p.toNat = true then 1 else 0 := by
  have := bit_is m p.toNat
  rw [Int.toNat_natCast] at this
  exact this
end EP
namespace EP
open PySem L2
theorem nvs_len (ps : List Nat) : (nvs ps).length = ps.length := by unfold nvs; rw [List.length_map]
theorem nvs_get {ps : List Nat} {i p : Nat} (h : ps[i]? = some p) : (nvs ps)[i]? = some (V.int (p : Int)) := by unfold nvs; rw [List.getElem?_map, h]; rfl
theorem nvs_set (ps : List Nat) (i m : Nat) : (nvs ps).set i (V.int (m : Int)) = nvs (ps.set i m) := by unfold nvs; rw [List.map_set]
theorem nvs_snoc (ps : List Nat) (m : Nat) : nvs ps ++ [V.int (m : Int)] = nvs (ps ++ [m]) := by unfold nvs; rw [List.map_append]; rfl
theorem nvs_of {ps : List Nat} {i : Nat} {x : V} (h : (nvs ps)[i]? = some x) : ∃ p, ps[i]? = some p ∧ x = V.int (p : Int) := by
  unfold nvs at h
  rw [List.getElem?_map] at h
  cases e : ps[i]? with
  | none => rw [e] at h; cases h
  | some p => rw [e] at h; exact ⟨p, rfl, (Option.some.inj h).symm⟩
theorem ixN_nat {n j : Nat} (h : j < n) : ixN n (j : Int) = some j := by
  unfold ixN
  rw [if_pos (by omega), if_pos (by omega)]
  rfl
theorem size_lt {n : Nat} (h : n ≤ 2000) : n < sizeLine := by rw [sizeLine_eq]; omega
theorem size_le {n : Nat} (h : n ≤ 2000) : n ≤ sizeLine := by rw [sizeLine_eq]; omega
end EP
namespace EP
open PySem L2
theorem putK_len {κ : Type} [DecidableEq κ] (kvs : List (κ × V)) (k : κ) (v : V) : (putK kvs k v).length ≤ kvs.length + 1 := by
  unfold putK
  split
  · rw [List.length_map]; omega
  · rw [List.length_append]; exact Nat.le_refl _
theorem kv_ne {i j : Int} (h : i ≠ j) : ¬ (Sum.inl i : Key) = Sum.inl j := fun e => h (by cases e; rfl)
end EP
namespace EP
open PySem L2
theorem for_enum {K : PySem.W.Frag} {a : Addr} {xs : List V} {g : TG} {tb : TS} {D : Ends} {σ : L2.St} {H : Hp} (Pv : Nat → L2.St → Hp → Prop) (h0 : Pv 0 σ H) (hl : ∀ i σ H, i ≤ xs.length → Pv i σ H → SqL K H a xs)
    (hs : ∀ i x T σ H, xs[i]? = some x → Pv i σ H → H T = none → g (.ref T) σ (upd H T (.tup [.int (i : Nat), x])) fun σ2 H2 => tb { D with nx := Pv (i + 1), ct := Pv (i + 1), bk := D.nx } σ2 H2) (hd : ∀ σ H, Pv xs.length σ H → D.nx σ H) :
    ∃ W : Nat → Nat → L2.St → Hp → Prop, (∃ m, W 0 m σ H) ∧ ∀ i m σ H, W i m σ H →
      ((Ite K a).stop i H ∧ D.nx σ H) ∨ ((Ite K a).go i H ∧ ∃ N : L2.St → Hp → Prop, (∀ σ' H', N σ' H' → ∃ m', m' < m ∧ W (i + 1) m' σ' H') ∧ ∀ x H', (Ite K a).yld i H x H' → g x σ H' fun σ2 H2 => tb { D with nx := N, ct := N, bk := D.nx } σ2 H2) := by
  refine ⟨fun i m σ H => m = xs.length - i ∧ i ≤ xs.length ∧ Pv i σ H, ⟨xs.length, by simp, Nat.zero_le _, h0⟩, fun i m σ H h => ?_⟩
  obtain ⟨rfl, hi, p⟩ := h
  have q := hl i σ H hi p
  by_cases hlt : i < xs.length
  · refine .inr ⟨⟨xs, xs[i], q, List.getElem?_eq_getElem hlt⟩, Pv (i + 1), fun σ' H' p' => ⟨xs.length - (i + 1), by omega, rfl, hlt, p'⟩, fun x H' y => ?_⟩
    obtain ⟨T, x', rfl, hT, rfl, ex⟩ := y
    exact hs i x' T σ H (ex xs q) p hT
  · obtain rfl : i = xs.length := by omega
    exact .inl ⟨⟨xs, q, Nat.le_refl _⟩, hd σ H p⟩
theorem for_enumS {K : PySem.W.Frag} {a : Addr} {xs : List V} {g : TG} {tb : TS} {D : Ends} {σ : L2.St} {H : Hp} (hq : SqL K H a xs ∨ SqT K H a xs) (Pv : Nat → L2.St → Hp → Prop) (h0 : Pv 0 σ H) (hl : ∀ i σ H', i ≤ xs.length → Pv i σ H' → Same H H')
    (hs : ∀ i x T σ H, xs[i]? = some x → Pv i σ H → H T = none → g (.ref T) σ (upd H T (.tup [.int (i : Nat), x])) fun σ2 H2 => tb { D with nx := Pv (i + 1), ct := Pv (i + 1), bk := D.nx } σ2 H2) (hd : ∀ σ H, Pv xs.length σ H → D.nx σ H) :
    (SqL K H a xs ∧ ∃ W : Nat → Nat → L2.St → Hp → Prop, (∃ m, W 0 m σ H) ∧ ∀ i m σ H, W i m σ H →
      ((Ite K a).stop i H ∧ D.nx σ H) ∨ ((Ite K a).go i H ∧ ∃ N : L2.St → Hp → Prop, (∀ σ' H', N σ' H' → ∃ m', m' < m ∧ W (i + 1) m' σ' H') ∧ ∀ x H', (Ite K a).yld i H x H' → g x σ H' fun σ2 H2 => tb { D with nx := N, ct := N, bk := D.nx } σ2 H2)) ∨
    (SqT K H a xs ∧ ∃ W : Nat → Nat → L2.St → Hp → Prop, (∃ m, W 0 m σ H) ∧ ∀ i m σ H, W i m σ H →
      ((IteT K a).stop i H ∧ D.nx σ H) ∨ ((IteT K a).go i H ∧ ∃ N : L2.St → Hp → Prop, (∀ σ' H', N σ' H' → ∃ m', m' < m ∧ W (i + 1) m' σ' H') ∧ ∀ x H', (IteT K a).yld i H x H' → g x σ H' fun σ2 H2 => tb { D with nx := N, ct := N, bk := D.nx } σ2 H2)) := by
  rcases hq with hq | hq
  · exact .inl ⟨hq, for_enum Pv h0 (fun i σ H' hi p => (hl i σ H' hi p).seq hq) hs hd⟩
  refine .inr ⟨hq, fun i m σ H => m = xs.length - i ∧ i ≤ xs.length ∧ Pv i σ H, ⟨xs.length, by simp, Nat.zero_le _, h0⟩, fun i m σ H' h => ?_⟩
  obtain ⟨rfl, hi, p⟩ := h
  have q := SqT_same (hl i σ H' hi p) hq
  by_cases hlt : i < xs.length
  · refine .inr ⟨⟨xs, xs[i], q, List.getElem?_eq_getElem hlt⟩, Pv (i + 1), fun σ' H' p' => ⟨xs.length - (i + 1), by omega, rfl, hlt, p'⟩, fun x H' y => ?_⟩
    obtain ⟨T, x', rfl, hT, rfl, ex⟩ := y
    exact hs i x' T σ _ (ex xs q) p hT
  · obtain rfl : i = xs.length := by omega
    exact .inl ⟨⟨xs, q, rfl⟩, hd σ H' p⟩
theorem SqT_ins {K : PySem.W.Frag} {H : Hp} {a s C dx : Addr} {fs : List (Str × V)} {o : HO} {xs : List V} (hs : H s = some (.ins C dx fs)) (h : SqT K H a xs) : SqT K (upd H s o) a xs := by
  rcases h with h | h
  · refine Or.inl ?_
    rcases h with h | ⟨o', h⟩
    · refine Or.inl ?_
      rw [upd_ne (fun e => by rw [e, hs] at h; cases h)]
      exact h
    · refine Or.inr ⟨o', ?_⟩
      rw [upd_ne (fun e => by rw [e, hs] at h; cases h)]
      exact h
  · exact Or.inr h
theorem tup_of {K : PySem.W.Frag} {H : Hp} {l : Addr} {xs : List V} {G : V → Hp → Prop} (h : SqL K H l xs ∨ SqT K H l xs) (fin : ∀ t H2, Same H H2 → SqT K H2 t xs → G (.ref t) H2) :
    (SqL K H l xs ∧ ∀ p, H p = none → G (.ref p) (upd H p (.tup xs))) ∨ (SqT K H l xs ∧ G (.ref l) H) :=
  h.elim (fun h => .inl ⟨h, fun p hp => fin p _ (same_new hp) (SqT.of upd_same)⟩) (fun h => .inr ⟨h, fin l H (Same.refl _) h⟩)
theorem put_parents {t : Addr} : (putF "parents" (V.ref t) []).lookup ("parents" : Str) = some (.ref t) := by first | rfl | kernel_rfl
theorem put_parents2 {t : Addr} {n : V} : (putF "size" n (putF "parents" (V.ref t) [])).lookup ("parents" : Str) = some (.ref t) := by first | rfl | kernel_rfl
theorem put_shf {t d : Addr} {n : Nat} : putF "_masks" (.ref d) (putF "size" (.int n) (putF "parents" (V.ref t) [])) = shf t d n := by first | rfl | kernel_rfl
/-- the wrong items of a list of parents -/
def Wrong (ns : List Int) (j : Nat) : Prop := ∃ p, ns[j]? = some p ∧ ¬ (0 ≤ p ∧ p ≤ j)
/-- all but s stays -/
def But (s : Addr) (H H' : Hp) : Prop := ∀ b o, b ≠ s → H b = some o → H' b = some o
theorem But.of_same {s : Addr} {H H' : Hp} (e : Same H H') : But s H H' := fun b o _ h => e b o h
theorem But.trans {s : Addr} {H H1 H2 : Hp} (a : But s H H1) (b : But s H1 H2) : But s H H2 := fun c o n h => b c o n (a c o n h)
theorem But.set {s : Addr} {H : Hp} {o : HO} : But s H (upd H s o) := fun b u n h => by rw [upd_ne n]; exact h
theorem ns_nat : ∀ {ns : List Int}, (∀ j, ¬ Wrong ns j) → ∃ ps : List Nat, ns.map V.int = nvs ps ∧ ps.length = ns.length ∧ Tr.Ok ps := by
  intro ns h
  refine ⟨ns.map Int.toNat, ?_, List.length_map .., ?_⟩
  · unfold nvs
    rw [List.map_map]
    refine List.map_congr_left fun p hp => ?_
    obtain ⟨j, hj⟩ := List.getElem?_of_mem hp
    have q : 0 ≤ p := by
      by_cases c : 0 ≤ p
      · exact c
      · exact absurd ⟨p, hj, fun z => c z.1⟩ (h j)
    show V.int p = V.int (p.toNat : Int)
    rw [Int.toNat_of_nonneg q]
  · intro i p hp
    rw [List.getElem?_map] at hp
    cases e : ns[i]? with
    | none => rw [e] at hp; cases hp
    | some q =>
      rw [e] at hp
      obtain rfl : q.toNat = p := Option.some.inj hp
      by_cases c : 0 ≤ q ∧ q ≤ i
      · omega
      · exact absurd ⟨q, e, c⟩ (h i)
end EP
namespace EP
open PySem L2
theorem putF_len (f : Str) (v : V) : ∀ fs : List (Str × V), (putF f v fs).length ≤ fs.length + 1
  | [] => Nat.le_refl 1
  | (g, x) :: r => by
    unfold putF
    split
    · exact Nat.le_succ _
    · have := putF_len f v r
      simp only [List.length_cons]
      omega
theorem put_l1 {f : Str} {v : V} : (putF f v []).length < 1000 := Nat.lt_of_le_of_lt (putF_len f v []) (by decide)
theorem put_l2 {f g : Str} {u v : V} : (putF g u (putF f v [])).length < 1000 := by
  have a := putF_len g u (putF f v [])
  have b := putF_len f v []
  simp only [List.length_nil] at b
  omega
end EP
namespace EP
open PySem L2
theorem shf_no {t d : Addr} {n : Nat} {m : Str} (h1 : ¬ m = "parents") (h2 : ¬ m = "size") (h3 : ¬ m = "_masks") : (shf t d n).lookup m = none := by
  unfold shf
  have e1 : (m == ("parents" : Str)) = false := by simpa using h1
  have e2 : (m == ("size" : Str)) = false := by simpa using h2
  have e3 : (m == ("_masks" : Str)) = false := by simpa using h3
  simp only [List.lookup, e1, e2, e3]
theorem hasS_nat {ps : List Nat} {p w : Nat} (h : 1 ≤ w) : hasS ps (p : Int) (w : Int) = Tr.has ps p w := by
  unfold hasS
  rw [if_pos (by omega), Int.toNat_natCast, Int.toNat_natCast]
theorem hasS_neg {ps : List Nat} {p w : Nat} (h : 1 ≤ w) : hasS ps (p : Int) (-(w : Int)) = !Tr.has ps p w := by
  unfold hasS
  rw [if_neg (by omega), Int.toNat_natCast, show (- -(w : Int)).toNat = w by omega]
/-- the first item that is no position -/
def BadAt (n : Nat) (ns : List Int) (j : Nat) : Prop := (∃ p, ns[j]? = some p ∧ ¬ IsPos n p) ∧ ∀ i p, i < j → ns[i]? = some p → IsPos n p
theorem pos_nat {n : Nat} : ∀ {ns : List Int}, (∀ p, p ∈ ns → IsPos n p) → ∃ L : List Nat, ns.map V.int = nvs L ∧ L.length = ns.length ∧ (∀ p, p ∈ L → p ≤ n) ∧ ns = L.map fun (p : Nat) => (p : Int) := by
  intro ns h
  have e : ns = (ns.map Int.toNat).map fun (p : Nat) => (p : Int) := by
    rw [List.map_map]
    have : ns.map (fun p => p) = ns.map ((fun (p : Nat) => (p : Int)) ∘ Int.toNat) := List.map_congr_left fun p hp => by
      have := (h p hp).1
      show p = (p.toNat : Int)
      omega
    rw [List.map_id'] at this
    exact this
  refine ⟨ns.map Int.toNat, ?_, List.length_map .., fun p hp => ?_, e⟩
  · unfold nvs
    conv => lhs; rw [e]
    rw [List.map_map]
    rfl
  · obtain ⟨q, hq, rfl⟩ := List.mem_map.mp hp
    have := h q hq
    unfold IsPos at this
    omega
theorem ns_get {ns : List Int} {i : Nat} {x : V} (hx : (ns.map V.int)[i]? = some x) : ∃ p, ns[i]? = some p ∧ x = V.int p := by
  rw [List.getElem?_map] at hx
  cases e : ns[i]? with
  | none => rw [e] at hx; cases hx
  | some p => rw [e] at hx; exact ⟨p, rfl, (Option.some.inj hx).symm⟩
end EP

namespace EP
open PySem L2 PySem.Spec PyProof.Rows
/-! ### the rules with the written part named (within a comprehension) -/
section
variable {X : Cx} {K : PySem.W.Frag}
def rLenK (K : PySem.W.Frag) : List V → Hp → VK → Prop := fun xs H Q => ∃ p ys, xs = [.ref p] ∧ (SqL K H p ys ∨ SqT K H p ys) ∧ Q (.int ys.length) H
theorem call_lenK (h : X.K = K := by rfl) : CallR X (.builtin "len") (rLenK K) := h ▸ call_len_seq
theorem ix_listK (h : X.K = K := by rfl) : IxR X (rIxL K) := h ▸ ix_list
theorem ix_tupK (h : X.K = K := by rfl) : IxR X (rIxT K) := h ▸ ix_tup
theorem op_in_seqK (h : X.K = K := by rfl) : OpR X (compareOp .In) (rIn K false) := h ▸ op_in_seq
theorem op_notIn_seqK (h : X.K = K := by rfl) : OpR X (compareOp .NotIn) (rIn K true) := h ▸ op_notIn_seq
theorem pe_fldK {e : Expr} {ta : TE} {f : Str} {pos : Pos} (h : X.K = K) (he : PE X e ta) (hb : attributeBase e f X.env (eval e X.env) = eval e X.env) : PE X (.Attribute e f pos) (tFld K ta f) := by
  subst h
  exact pe_fld he hb
end
end EP

namespace EP
open PySem L2 PySem.Spec PyProof.Rows
section
variable {X : Cx} {CX : CXT} {k : Nat} {f C : Addr} {fd : FuncData} {ps : List Str} {sp : Sp} {E : L2.St → XK} {x m : Str} {p pos apos : Pos} {e o : Expr} {es : List Expr} {ta : TE} {t : TA}
/-- o.m(e, ..), what it raises wished for at the slots -/
def tMethT (C : Addr) (m : Str) (sp : Sp) (E : L2.St → XK) (ta : TE) (t : TA) : TE := fun σ H Q => ta σ H fun x H1 => ∃ a dx fs, x = .ref a ∧ H1 a = some (.ins C dx fs) ∧ fs.lookup m = none ∧ t σ H1 fun vs H2 => sp (x :: vs) H2 Q (E σ)
theorem pe_methT {pl : Sem Bool} (he : PE X o ta) (c : Cls X.K C) (hm : Meth X.K C m f) (F : FnOk X.prog X.w X.K X.mg X.base CX k f fd ps sp) (hr : Room k X.A) (hb : Binds X.K fd ps []) (hx : ∀ σ, PassesAt CX X σ (E σ)) (ha : PA X (e :: es) t)
    (hst : starEach (e :: es) X.env = (false, eval e X.env) :: starEach es X.env := by rfl) (hpl : (backTo pos (starEach es X.env)).any (·.1) = false := by rfl)
    (ht : eval (.Call (.Attribute o m apos) (e :: es) [] pos) X.env = (do
      let ov ← eval o X.env
      standAt apos.atName
      let (g, first) ← holding [ov] (getMethod ov m pl)
      callWith pos g first (backTo pos (starEach (e :: es) X.env)) (backToKw pos (keywordEach [] X.env))) := by rfl) :
    PE X (.Call (.Attribute o m apos) (e :: es) [] pos) (tMethT C m sp E ta t) := by
  refine ⟨fun pins s σ H Q I h => PySem.W.methodCall_KW (pl := pl) (thn (he.run pins s σ H _ I h) fun u s1 z => ?_) ht⟩
  obtain ⟨x, H1, I1, rx, a, dx, fs, rfl, ea, l, q⟩ := z
  obtain rfl : u = Value.ref a := rx
  refine getmeth_ok I1 ea c hm l (PySem.W.callWith_K (first := [.ref a]) (h₀ := X.base) I.ok.mod.kin hm.kp (thn (ha.run pos pins s1 σ H1 _ I1 q) fun us s2 z => ?_) hst hpl)
  obtain ⟨vs, H2, I2, r, q2⟩ := z
  exact ⟨I2.kIn, run_fnS (us := .ref a :: us) (vs := .ref a :: vs) F hr hb (hx σ) I2 (.cons rfl r) q2⟩
end
end EP
namespace EP
open PySem L2
def spIsNum (K : PySem.W.Frag) (C : Addr) : Sp := fun vs H Q _ => ∃ (s : Addr) (ps : List Nat) (k : Int), vs = [.ref s, .int k] ∧ ShapeAt K C H s ps ∧ Q (.bl (decide (IsSide ps.length k))) H
def spChkPos (K : PySem.W.Frag) (C D : Addr) : Sp := fun vs H Q E => ∃ (s : Addr) (ps : List Nat) (p : Int), vs = [.ref s, .int p] ∧ ShapeAt K C H s ps ∧ (IsPos ps.length p → Q .non H) ∧ (¬ IsPos ps.length p → Small p ∧ ∀ d, H d = none → E (.ref D) (some d) (upd H d (.xd [("position", .int p)])))
theorem is_num {Q : VK} {H : Hp} {b : Bool} {n : Nat} {k : Int} (q : Q (.bl (decide (IsSide n k))) H) (h : b = decide (IsSide n k)) : Q (.bl b) H := h ▸ q
end EP
namespace EP
open PySem L2
def spChkSide (K : PySem.W.Frag) (C D : Addr) : Sp := fun vs H Q E => ∃ (s : Addr) (ps : List Nat) (k : Int), vs = [.ref s, .int k] ∧ ShapeAt K C H s ps ∧ (IsSide ps.length k → Q .non H) ∧ (¬ IsSide ps.length k → Small k ∧ ∀ d, H d = none → E (.ref D) (some d) (upd H d (.xd [("side", .int k)])))
def spHas (K : PySem.W.Frag) (C D D2 : Addr) : Sp := fun vs H Q E => ∃ (s : Addr) (ps : List Nat) (p k : Int), vs = [.ref s, .int p, .int k] ∧ ShapeAt K C H s ps ∧ (IsPos ps.length p → IsSide ps.length k → Q (.bl (hasS ps p k)) H) ∧
  (¬ IsPos ps.length p → Small p ∧ ∀ d, H d = none → E (.ref D) (some d) (upd H d (.xd [("position", .int p)]))) ∧ (IsPos ps.length p → ¬ IsSide ps.length k → Small k ∧ ∀ d, H d = none → E (.ref D2) (some d) (upd H d (.xd [("side", .int k)])))
end EP
namespace EP
open PySem L2
def spMasks (K : PySem.W.Frag) : Sp := fun vs H Q _ => ∃ (t : Addr) (ps : List Nat), vs = [.ref t] ∧ SqT K H t (nvs ps) ∧ Tr.Ok ps ∧ ps.length ≤ 1000 ∧ ∀ d kvs H', Same H H' → H d = none → H' d = some (.dK kvs) → MasksOk ps kvs → Q (.ref d) H'
end EP
namespace EP
open PySem L2
def spShape (K : PySem.W.Frag) (C D : Addr) : Sp := fun vs H Q E => ∃ (s dx l : Addr) (ns : List Int), vs = [.ref s, .ref l] ∧ H s = some (.ins C dx []) ∧ (SqL K H l (ns.map V.int) ∨ SqT K H l (ns.map V.int)) ∧ ns.length ≤ 1000 ∧
  (∀ ps H', ns.map V.int = nvs ps → Tr.Ok ps → 1 ≤ ps.length → But s H H' → ShapeAt K C H' s ps → Q .non H') ∧
  (∀ j, Wrong ns j → (∀ i, i < j → ¬ Wrong ns i) → ∀ d H', Same H H' → H d = none → H' d = some (.xd [("place", .int (j : Nat))]) → E (.ref D) (some d) H') ∧
  (ns = [] → ∀ d H', Same H H' → H d = none → H' d = some (.xd [("place", .int 0)]) → E (.ref D) (some d) H')
end EP
namespace EP
open PySem L2
def spOddMid (K : PySem.W.Frag) (C D D2 : Addr) : Sp := fun vs H Q E => ∃ (s l : Addr) (ps : List Nat) (ns : List Int), vs = [.ref s, .ref l] ∧ ShapeAt K C H s ps ∧ SqL K H l (ns.map V.int) ∧ ns.length ≤ 100 ∧
  (∀ L H', ns = L.map (fun (p : Nat) => (p : Int)) → (∀ p, p ∈ L → p ≤ ps.length) → L.length % 2 = 1 → Same H H' → Q (.int (Tr.mid ps L ps.length : Nat)) H') ∧
  (∀ j p, BadAt ps.length ns j → ns[j]? = some p → Small p ∧ ∀ d, H d = none → E (.ref D) (some d) (upd H d (.xd [("position", .int p)]))) ∧
  ((∀ p, p ∈ ns → IsPos ps.length p) → ns.length % 2 = 0 → ∀ d, H d = none → E (.ref D2) (some d) (upd H d (.xd [("number", .int (ns.length : Nat))])))
end EP
namespace EP
open PySem L2
def spMid (K : PySem.W.Frag) (C D : Addr) : Sp := fun vs H Q E => ∃ (s : Addr) (ps : List Nat) (a b c : Int), vs = [.ref s, .int a, .int b, .int c] ∧ ShapeAt K C H s ps ∧
  (∀ (a' b' c' : Nat) H', a = a' → b = b' → c = c' → a' ≤ ps.length → b' ≤ ps.length → c' ≤ ps.length → Same H H' → Q (.int (Tr.mid ps [a', b', c'] ps.length : Nat)) H') ∧
  (∀ p, (∃ j, BadAt ps.length [a, b, c] j ∧ [a, b, c][j]? = some p) → Small p ∧ ∀ d H', Same H H' → H d = none → H' d = some (.xd [("position", .int p)]) → E (.ref D) (some d) H')
end EP

namespace EP
open PySem L2
/-! ### the law's own tape -/
def tp (u : Addr) (i b s c : Int) : List V := [.ref u, .int i, .int b, .int s, .int c]
def Tape (H : Hp) (t u : Addr) : Prop := ∃ (xs : List Int) (i b s c : Int), H t = some (.lst (tp u i b s c)) ∧ H u = some (.lst (xs.map V.int)) ∧ 0 ≤ i
theorem nvs_tp {ps : List Nat} {u : Addr} {i b s c : Int} : nvs ps ≠ tp u i b s c := fun e => by
  cases ps with
  | nil => cases e
  | cons p ps => unfold nvs tp at e; simp at e
theorem ints_tp {ns : List Int} {u : Addr} {i b s c : Int} : ns.map V.int ≠ tp u i b s c := fun e => by
  cases ns with
  | nil => cases e
  | cons p ps => unfold tp at e; simp at e
theorem Tape.ne {H : Hp} {t u l : Addr} {ps : List Nat} (h : Tape H t u) (hl : H l = some (.lst (nvs ps))) : l ≠ t := fun e => by
  obtain ⟨xs, i, b, s, c, h1, _⟩ := h
  rw [← e, hl] at h1
  exact nvs_tp (HO.lst.inj (Option.some.inj h1))
theorem Tape.neI {H : Hp} {t u l : Addr} {ns : List Int} (h : Tape H t u) (hl : H l = some (.lst (ns.map V.int))) : l ≠ t := fun e => by
  obtain ⟨xs, i, b, s, c, h1, _⟩ := h
  rw [← e, hl] at h1
  exact ints_tp (HO.lst.inj (Option.some.inj h1))
theorem Tape.same {H H' : Hp} {t u : Addr} (h : Tape H t u) (e : Same H H') : Tape H' t u := by
  obtain ⟨xs, i, b, s, c, h1, h2, h3⟩ := h
  exact ⟨xs, i, b, s, c, e _ _ h1, e _ _ h2, h3⟩
theorem Tape.new {H : Hp} {t u : Addr} (h : Tape H t u) : H t ≠ none := fun e => by
  obtain ⟨xs, i, b, s, c, h1, _⟩ := h
  rw [h1] at e
  cases e
theorem Tape.newu {H : Hp} {t u : Addr} (h : Tape H t u) : H u ≠ none := fun e => by
  obtain ⟨xs, i, b, s, c, h1, h2, _⟩ := h
  rw [h2] at e
  cases e
theorem But.of_new {t d : Addr} {H : Hp} {o : HO} (h : H d = none) : But t H (upd H d o) := But.of_same (same_new h)
theorem But.free {t l : Addr} {H H' : Hp} (e : But t H H') (hn : l ≠ t) (h : H' l = Option.none) : H l = Option.none := by
  cases z : H l with
  | none => rfl
  | some o => rw [e l o hn z] at h; cases h
theorem But.upd_at {t l : Addr} {H H0 : Hp} {o : HO} (e : But t H0 H) (h0 : H0 l = none) : But t H0 (upd H l o) := fun b v n hb => by
  rw [upd_ne (ne_of_none hb h0)]
  exact e b v n hb
def absI (i : Int) : Int := if i < 0 then -i else i
def spTape (K : PySem.W.Frag) : Sp := fun vs H Q _ => ∃ (a : Addr) (ns : List Int), vs = [.ref a] ∧ SqL K H a (ns.map V.int) ∧ ns.length ≤ 63 ∧ ∀ t u H', Same H H' → H t = none → Tape H' t u → Q (.ref t) H'
def spNext : Sp := fun vs H Q _ => ∃ (t u : Addr) (n : Int), vs = [.ref t, .int n] ∧ 0 < n ∧ n < 2 ^ 60 ∧ Tape H t u ∧ ∀ (r : Nat) H', (r : Int) < n → Tape H' t u → But t H H' → (∀ b, b ≠ t → H' b = H b) → Q (.int r) H'
def spLParents : Sp := fun vs H Q _ => ∃ (t u : Addr) (m : Nat), vs = [.ref t, .int m] ∧ 1 ≤ m ∧ m ≤ 100 ∧ Tape H t u ∧ ∀ l ps H', Tr.Ok ps → 1 ≤ ps.length → ps.length ≤ m → Tape H' t u → But t H H' → H l = none → H' l = some (.lst (nvs ps)) → Q (.ref l) H'
def spAbove (K : PySem.W.Frag) : Sp := fun vs H Q _ => ∃ (l : Addr) (ps : List Nat) (p : Nat), vs = [.ref l, .int p] ∧ SqL K H l (nvs ps) ∧ Tr.Ok ps ∧ ps.length ≤ 1000 ∧ p ≤ ps.length ∧ ∀ r H', Same H H' → H r = none → H' r = some (.lst (nvs (Tr.up ps p))) → Q (.ref r) H'
def spIsNumber : Sp := fun vs H Q _ => ∃ i : Int, vs = [.int i] ∧ Q (.bl true) H
def spFar : Sp := fun vs H Q _ => ∃ t u : Addr, vs = [.ref t] ∧ Tape H t u ∧ ∀ (r : Nat) H', r < 1000000000 → Tape H' t u → But t H H' → (∀ b, b ≠ t → H' b = H b) → Q (.int r) H'
def spBadPos : Sp := fun vs H Q _ => ∃ (t u l : Addr) (ps : List Nat), vs = [.ref t, .ref l] ∧ Tape H t u ∧ H l = some (.lst (nvs ps)) ∧ ps.length ≤ 1000 ∧ ∀ (p : Int) H', ¬ IsPos ps.length p → Small p → Tape H' t u → But t H H' → (∀ b, b ≠ t → H' b = H b) → Q (.int p) H'
def hadL (ps : List Nat) (p : Nat) : List V := (List.range ps.length).map fun k => V.int (Tr.side ps p (k + 1))
def spSidesHad (K : PySem.W.Frag) : Sp := fun vs H Q _ => ∃ (l : Addr) (ps : List Nat) (p : Nat), vs = [.ref l, .int p] ∧ SqL K H l (nvs ps) ∧ Tr.Ok ps ∧ ps.length ≤ 1000 ∧ p ≤ ps.length ∧ ∀ r H', Same H H' → H r = none → H' r = some (.lst (hadL ps p)) → Q (.ref r) H'
/-- at h the list of the lists of the sides of all positions -/
def Had (H : Hp) (h : Addr) (ps : List Nat) : Prop := ∃ rs : List Addr, H h = some (.lst (rs.map V.ref)) ∧ rs.length = ps.length + 1 ∧ ∀ (p : Nat) (r : Addr), rs[p]? = some r → H r = some (.lst (hadL ps p))
theorem Had.same {H H' : Hp} {h : Addr} {ps : List Nat} (a : Had H h ps) (e : Same H H') : Had H' h ps := by
  obtain ⟨rs, h1, h2, h3⟩ := a
  exact ⟨rs, e _ _ h1, h2, fun p r hr => e _ _ (h3 p r hr)⟩
theorem hadL_len (ps : List Nat) (p : Nat) : (hadL ps p).length = ps.length := by unfold hadL; rw [List.length_map, List.length_range]
theorem hadL_get {ps : List Nat} {p k : Nat} (h : k < ps.length) : (hadL ps p)[k]? = some (V.int (Tr.side ps p (k + 1))) := by
  unfold hadL
  rw [List.getElem?_map, List.getElem?_range h]
  rfl
theorem Had.row {H : Hp} {h : Addr} {ps : List Nat} (a : Had H h ps) {p : Nat} (hp : p ≤ ps.length) : ∃ (vs : List V) (r : Addr), H h = some (.lst vs) ∧ vs.length = ps.length + 1 ∧ vs[p]? = some (V.ref r) ∧ H r = some (.lst (hadL ps p)) := by
  obtain ⟨rs, h1, h2, h3⟩ := a
  have e := List.getElem?_eq_getElem (l := rs) (i := p) (by omega)
  exact ⟨_, rs[p], h1, by rw [List.length_map]; exact h2, by rw [List.getElem?_map, e]; rfl, h3 p _ e⟩
def spBetween : Sp := fun vs H Q _ => ∃ (h : Addr) (ps : List Nat) (p a b : Nat), vs = [.ref h, .int p, .int a, .int b] ∧ Had H h ps ∧ ps.length ≤ 1000 ∧ p ≤ ps.length ∧ a ≤ ps.length ∧ b ≤ ps.length ∧ ∀ z : Bool, (z = true ↔ Tr.betw ps ps.length p a b) → Q (.bl z) H
def spOnAll : Sp := fun vs H Q _ => ∃ (h : Addr) (ps : List Nat) (a b c : Nat), vs = [.ref h, .int a, .int b, .int c] ∧ Had H h ps ∧ ps.length ≤ 1000 ∧ a ≤ ps.length ∧ b ≤ ps.length ∧ c ≤ ps.length ∧ ∀ r H', Same H H' → H r = none → H' r = some (.lst (nvs [Tr.mid ps [a, b, c] ps.length])) → Q (.ref r) H'
def spSix (K : PySem.W.Frag) (C : Addr) : Sp := fun vs H Q _ => ∃ (s l th : Addr) (ps : List Nat) (a b c : Nat), vs = [.ref s, .ref l, .ref th] ∧ ShapeAt K C H s ps ∧ H l = some (.lst (nvs ps)) ∧ H th = some (.lst (nvs [a, b, c])) ∧ a ≤ ps.length ∧ b ≤ ps.length ∧ c ≤ ps.length ∧ ∀ H', Same H H' → Q (.bl true) H'
def spMidRef (K : PySem.W.Frag) (C : Addr) : Sp := fun vs H Q _ => ∃ (s : Addr) (ps : List Nat) (a b c p : Int), vs = [.ref s, .int a, .int b, .int c, .int p] ∧ ShapeAt K C H s ps ∧ (∃ j, BadAt ps.length [a, b, c] j ∧ [a, b, c][j]? = some p) ∧ Small p ∧ ∀ H', Same H H' → Q (.bl true) H'
def spLaw (K : PySem.W.Frag) : Sp := fun vs H Q _ => ∃ (a : Addr) (ns : List Int), vs = [.ref a] ∧ SqL K H a (ns.map V.int) ∧ ns.length ≤ 63 ∧ ∀ H', Q (.bl true) H'
end EP

namespace EP
open PySem L2
theorem emod_in {x m : Int} (h : 0 < m) : 0 ≤ x % m ∧ x % m < m := ⟨Int.emod_nonneg _ (by omega), Int.emod_lt_of_pos _ h⟩
end EP

namespace EP
open PySem L2
theorem nvs_flat (ps : List Nat) : (nvs ps).all flatV = true := by
  unfold nvs
  rw [List.all_map, List.all_eq_true]
  intro x _
  rfl
theorem nvs_in {ps : List Nat} {x : Int} {k : Nat} (h : x = (k : Int)) : inV (V.int x) (nvs ps) = decide (k ∈ ps) := by
  subst h
  unfold inV nvs
  rw [List.any_map]
  induction ps with
  | nil => rfl
  | cons p ps ih =>
    rw [List.any_cons, ih]
    show (decide ((p : Int) = (k : Int)) || _) = _
    by_cases e : k = p
    · subst e; simp
    · have : ¬ ((p : Int) = (k : Int)) := by omega
      simp [e, this]
end EP

namespace EP
open PySem L2
theorem same_mut {H H' : Hp} {D : Addr} {o : HO} (e : Same H H') (h : H D = none) : Same H (upd H' D o) := fun b u hb => by
  rw [upd_ne (ne_of_none hb h)]
  exact e b u hb
def toI (L : List Nat) : List Int := L.map fun (p : Nat) => (p : Int)
theorem nvs_toI (L : List Nat) : nvs L = (toI L).map V.int := by unfold nvs toI; rw [List.map_map]; rfl
theorem toI_len (L : List Nat) : (toI L).length = L.length := List.length_map ..
theorem nvs_inj {a b : List Nat} (h : nvs a = nvs b) : a = b := by
  induction a generalizing b with
  | nil => cases b with
    | nil => rfl
    | cons y b => cases h
  | cons x a ih => cases b with
    | nil => cases h
    | cons y b =>
      have h' : V.int (x : Int) :: nvs a = V.int (y : Int) :: nvs b := h
      injection h' with h1 h2
      have := V.int.inj h1
      rw [ih h2, show x = y by omega]
theorem toI_get {L : List Nat} {j : Nat} {x : Int} (h : (toI L)[j]? = some x) : ∃ p, L[j]? = some p ∧ x = (p : Int) := by
  unfold toI at h
  rw [List.getElem?_map] at h
  cases e : L[j]? with
  | none => rw [e] at h; cases h
  | some p => rw [e] at h; exact ⟨p, rfl, (Option.some.inj h).symm⟩
theorem noWrong {ps : List Nat} (ok : Tr.Ok ps) {j : Nat} : ¬ Wrong (toI ps) j := fun ⟨p, hp, c⟩ => by
  obtain ⟨q, hq, rfl⟩ := toI_get hp
  have := ok j q hq
  omega
theorem dp_ints {K : PySem.W.Frag} {H : Hp} : ∀ ns : List Int, DpAll K H (ns.map V.int) (ns.map PyData.int)
  | [] => .nil
  | n :: ns => .cons (.int n) (dp_ints ns)
theorem dp_list {K : PySem.W.Frag} {H : Hp} {a : Addr} {L : List Nat} (h : SqL K H a (nvs L)) : Dp K H (.ref a) (.list ((toI L).map PyData.int)) := .lst h (by rw [nvs_toI]; exact dp_ints _)
theorem eqv_self (ns : List Int) : PyData.eqv (.list (ns.map PyData.int)) (.list (ns.map PyData.int)) = true := by
  show PyData.eqvAll _ _ = true
  rw [PySem.W.ked_eqvAll]
  exact decide_eq_true rfl
theorem BadAt.uniq {n : Nat} {ns : List Int} {i j : Nat} (a : BadAt n ns i) (b : BadAt n ns j) : i = j := by
  obtain ⟨⟨p, hp, cp⟩, fp⟩ := a
  obtain ⟨⟨q, hq, cq⟩, fq⟩ := b
  by_cases h : i < j
  · exact absurd (fq i p h hp) cp
  · by_cases h2 : j < i
    · exact absurd (fp j q h2 hq) cq
    · omega
theorem three_of {a b c : Nat} {i j k : Nat} (h : (i, j, k) ∈ [(0, 1, 2), (0, 2, 1), (1, 0, 2), (1, 2, 0), (2, 0, 1), (2, 1, 0)]) : ∃ x y z : Nat, [a, b, c][i]? = some x ∧ [a, b, c][j]? = some y ∧ [a, b, c][k]? = some z ∧ [x, y, z].Perm [a, b, c] := by
  simp only [List.mem_cons, Prod.mk.injEq, List.not_mem_nil, or_false] at h
  rcases h with ⟨rfl, rfl, rfl⟩ | ⟨rfl, rfl, rfl⟩ | ⟨rfl, rfl, rfl⟩ | ⟨rfl, rfl, rfl⟩ | ⟨rfl, rfl, rfl⟩ | ⟨rfl, rfl, rfl⟩
  · exact ⟨a, b, c, rfl, rfl, rfl, .refl _⟩
  · exact ⟨a, c, b, rfl, rfl, rfl, .cons _ (.swap ..)⟩
  · exact ⟨b, a, c, rfl, rfl, rfl, .swap ..⟩
  · exact ⟨b, c, a, rfl, rfl, rfl, (List.Perm.cons b (.swap a c [])).trans (.swap a b [c])⟩
  · exact ⟨c, a, b, rfl, rfl, rfl, (List.Perm.swap a c [b]).trans (.cons _ (.swap ..))⟩
  · exact ⟨c, b, a, rfl, rfl, rfl, ((List.Perm.swap b c [a]).trans (.cons b (.swap a c []))).trans (.swap a b [c])⟩
end EP

namespace EP
open PySem L2
theorem xd_get {f : Str} {v : V} : List.lookup f [(f, v)] = some v := by simp [List.lookup]
end EP

namespace EP
open PySem L2
theorem ok_snoc {ps : List Nat} {p : Nat} (ok : Tr.Ok ps) (h : p ≤ ps.length) : Tr.Ok (ps ++ [p]) := fun j x hx => by
  rw [List.getElem?_append] at hx
  split at hx
  · exact ok j x hx
  · rename_i hj
    obtain rfl : p = x := by
      cases e : j - ps.length with
      | zero => rw [e] at hx; exact Option.some.inj hx
      | succ z => rw [e] at hx; cases hx
    omega
theorem Tape.upd {H : Hp} {t u l : Addr} {o : HO} (h : Tape H t u) (h1 : t ≠ l) (h2 : u ≠ l) : Tape (L2.upd H l o) t u := by
  obtain ⟨xs, i, b, s, c, a1, a2, a3⟩ := h
  exact ⟨xs, i, b, s, c, by rw [upd_ne h1]; exact a1, by rw [upd_ne h2]; exact a2, a3⟩
/-- a made shape: what stood before stands -/
theorem made {H H' : Hp} {x dx C : Addr} (nx : H x = none) (nd : H dx = none) (k : But x (upd (upd H dx (.own x)) x (.ins C dx [])) H') : Same H H' := fun b o hb =>
  k b o (ne_of_none hb nx) (by rw [upd_ne (ne_of_none hb nx), upd_ne (ne_of_none hb nd)]; exact hb)
theorem made_at {H : Hp} {x dx C l : Addr} {o : HO} (nx : H x = none) (nd : H dx = none) (hl : H l = some o) : (upd (upd H dx (.own x)) x (.ins C dx [])) l = some o := by
  rw [upd_ne (ne_of_none hl nx), upd_ne (ne_of_none hl nd)]
  exact hl
end EP

namespace EP
open PySem L2
/-! ### ways, parting walls, distances -/
theorem cut_to {L : List Nat} {k : Nat} (h : k ≤ L.length) : cutV (nvs L) none (some (k : Int)) = nvs (L.take k) := by
  unfold cutV
  rw [HT.sIx_none, HT.sIx_nat, nvs_len, Nat.min_eq_left h, List.drop_zero, Nat.sub_zero]
  unfold nvs
  rw [List.map_take]
theorem nvs_app (a b : List Nat) : nvs a ++ nvs b = nvs (a ++ b) := by unfold nvs; rw [List.map_append]
theorem nvs_rev (a : List Nat) : (nvs a).reverse = nvs a.reverse := by unfold nvs; rw [List.map_reverse]
theorem last_at (L : List Nat) (x : Nat) : atI (nvs (L ++ [x])) (-1) = some (V.int (x : Int)) := by rw [← nvs_snoc]; exact atI_last _ _
def spClimb (K : PySem.W.Frag) (C : Addr) : Sp := fun vs H Q _ => ∃ (s : Addr) (ps : List Nat) (p : Nat), vs = [.ref s, .int p] ∧ ShapeAt K C H s ps ∧ p ≤ ps.length ∧ ∀ r H', Same H H' → H r = none → H' r = some (.lst (nvs (Tr.ch ps p))) → Q (.ref r) H'
/-- two positions asked of a shape -/
def Two (K : PySem.W.Frag) (C D : Addr) (good : List Nat → Nat → Nat → Hp → Hp → VK → Prop) : Sp := fun vs H Q E => ∃ (s : Addr) (ps : List Nat) (a b : Int), vs = [.ref s, .int a, .int b] ∧ ShapeAt K C H s ps ∧
  (∀ (a' b' : Nat), a = a' → b = b' → a' ≤ ps.length → b' ≤ ps.length → ∀ H', Same H H' → good ps a' b' H H' Q) ∧
  (∀ p, (∃ j, BadAt ps.length [a, b] j ∧ [a, b][j]? = some p) → Small p ∧ ∀ d H', Same H H' → H d = none → H' d = some (.xd [("position", .int p)]) → E (.ref D) (some d) H')
def spWay (K : PySem.W.Frag) (C D : Addr) : Sp := Two K C D fun ps a b H H' Q => ∀ r, H r = none → H' r = some (.lst (nvs (Tr.way ps a b))) → Q (.ref r) H'
def spParting (K : PySem.W.Frag) (C D : Addr) : Sp := Two K C D fun ps a b H H' Q => ∀ r, H r = none → H' r = some (.lst (nvs (Tr.parting ps a b))) → Q (.ref r) H'
def spDistance (K : PySem.W.Frag) (C D : Addr) : Sp := Two K C D fun ps a b H H' Q => Q (.int ((Tr.parting ps a b).length : Nat)) H'
theorem bad2_0 {n : Nat} {a b : Int} (h : ¬ IsPos n a) : ∃ j, BadAt n [a, b] j ∧ [a, b][j]? = some a := ⟨0, ⟨⟨a, rfl, h⟩, fun i p h => absurd h (Nat.not_lt_zero _)⟩, rfl⟩
theorem bad2_1 {n : Nat} {a b : Int} (h0 : IsPos n a) (h : ¬ IsPos n b) : ∃ j, BadAt n [a, b] j ∧ [a, b][j]? = some b := ⟨1, ⟨⟨b, rfl, h⟩, fun i p hi hp => by
  obtain rfl : i = 0 := by omega
  cases hp
  exact h0⟩, rfl⟩
theorem bad2_no {n : Nat} {a b : Int} (ha : IsPos n a) (hb : IsPos n b) {j : Nat} (h : BadAt n [a, b] j) : False := by
  obtain ⟨⟨p, hp, cp⟩, _⟩ := h
  match j, hp with
  | 0, hp => cases hp; exact cp ha
  | 1, hp => cases hp; exact cp hb
  | n + 2, hp => simp at hp
theorem posOf {n : Nat} {a : Int} (h : IsPos n a) : ∃ a' : Nat, a = a' ∧ a' ≤ n := ⟨a.toNat, by unfold IsPos at h; omega, by unfold IsPos at h; omega⟩
def spLParting (K : PySem.W.Frag) : Sp := fun vs H Q _ => ∃ (l : Addr) (ps : List Nat) (a b : Nat), vs = [.ref l, .int a, .int b] ∧ SqL K H l (nvs ps) ∧ Tr.Ok ps ∧ ps.length ≤ 1000 ∧ a ≤ ps.length ∧ b ≤ ps.length ∧ ∀ r H', Same H H' → H r = none → H' r = some (.lst (nvs (Tr.parting ps a b))) → Q (.ref r) H'
def spInts (K : PySem.W.Frag) : Sp := fun vs H Q _ => ∃ (x y : Addr) (L : List Nat), vs = [.ref x, .ref y] ∧ H x = some (.lst (nvs L)) ∧ SqL K H y (nvs L) ∧ L.length ≤ 5000 ∧ Q (.bl true) H
def spIsWay (K : PySem.W.Frag) : Sp := fun vs H Q _ => ∃ (l w : Addr) (ps : List Nat) (a b : Nat), vs = [.ref l, .ref w, .int a, .int b] ∧ SqL K H l (nvs ps) ∧ H w = some (.lst (nvs (Tr.way ps a b))) ∧ Tr.Ok ps ∧ ps.length ≤ 1000 ∧ a ≤ ps.length ∧ b ≤ ps.length ∧ ∀ H', Same H H' → Q (.bl true) H'
def spPair (K : PySem.W.Frag) (C : Addr) : Sp := fun vs H Q _ => ∃ (s l : Addr) (ps : List Nat) (a b : Nat), vs = [.ref s, .ref l, .int a, .int b] ∧ ShapeAt K C H s ps ∧ H l = some (.lst (nvs ps)) ∧ a ≤ ps.length ∧ b ≤ ps.length ∧ ∀ H', Same H H' → Q (.bl true) H'
def spRef2 (K : PySem.W.Frag) (C : Addr) : Sp := fun vs H Q _ => ∃ (s : Addr) (ps : List Nat) (a b p : Int), vs = [.ref s, .int a, .int b, .int p] ∧ ShapeAt K C H s ps ∧ (∃ j, BadAt ps.length [a, b] j ∧ [a, b][j]? = some p) ∧ Small p ∧ ∀ H', Same H H' → Q (.bl true) H'
end EP

namespace EP
open PySem L2
theorem take_one {L : List Nat} {k p : Nat} (h : L[k]? = some p) : L.take (k + 1) = L.take k ++ [p] := by
  have hk := (List.getElem?_eq_some_iff.mp h).1
  rw [List.take_succ_eq_append_getElem hk, (List.getElem?_eq_some_iff.mp h).2]
theorem filt_len (L : List Nat) (k : Nat) (f : Nat → Bool) (h : L.length ≤ 2000) : ((L.take k).filter f).length ≤ 2000 := by
  have a := List.length_filter_le f (L.take k)
  have b : (L.take k).length ≤ L.length := by rw [List.length_take]; omega
  omega
theorem ch_len {ps : List Nat} : ∀ {p n : Nat}, p ≤ ps.length → p ≤ n → (Tr.ch ps p).length ≤ n + 1 := by
  intro p
  induction p using Nat.strongRecOn with
  | _ p ih =>
    intro n hp hn
    by_cases h : 1 ≤ p
    · have l := Tr.par_lt ps h
      have := ih _ l (n := n - 1) (by omega) (by omega)
      rw [Tr.ch_pos ps h, List.length_cons]
      omega
    · obtain rfl : p = 0 := by omega
      rw [Tr.ch_zero]
      show 1 ≤ n + 1
      omega
end EP
namespace EP
open PySem L2
/-! ### == of lists and tuples of ints -/
theorem dpAll_ints {K : PySem.W.Frag} {H : Hp} : ∀ ns : List Int, DpAll K H (ns.map V.int) (ns.map PyData.int)
  | [] => .nil
  | n :: ns => .cons (.int n) (dpAll_ints ns)
theorem dp_lst {K : PySem.W.Frag} {H : Hp} {a : Addr} {ns : List Int} (h : SqL K H a (ns.map V.int)) : Dp K H (.ref a) (.list (ns.map PyData.int)) := .lst h (dpAll_ints ns)
theorem dp_tup {K : PySem.W.Frag} {H : Hp} {a : Addr} {ns : List Int} (h : SqT K H a (ns.map V.int)) : Dp K H (.ref a) (.tuple (ns.map PyData.int)) := .tup h (dpAll_ints ns)
theorem shaped_lst (ns : List Int) : SeqAt.shaped (.list (ns.map PyData.int)) = true := PySem.W.ke_shaped_ints ns
theorem shaped_tup (ns : List Int) : SeqAt.shaped (.tuple (ns.map PyData.int)) = true := by
  simp [SeqAt.shaped, PyData.canLay0, PyData.depth, PySem.W.ke_canLayAll0, PySem.W.ke_depthAll]
theorem eqvAll_ints : ∀ ns ms : List Int, PyData.eqvAll (ns.map PyData.int) (ms.map PyData.int) = decide (ns = ms)
  | [], [] => by simp [PyData.eqvAll]
  | [], _ :: _ => by simp [PyData.eqvAll]
  | _ :: _, [] => by simp [PyData.eqvAll]
  | a :: r, b :: t => by
    simp only [List.map_cons, PyData.eqvAll, PyData.eqv, eqvAll_ints r t]
    by_cases h : a = b <;> by_cases h' : r = t <;> simp [h, h']
theorem eqv_lst (ns ms : List Int) : PyData.eqv (.list (ns.map PyData.int)) (.list (ms.map PyData.int)) = decide (ns = ms) := by simp only [PyData.eqv]; exact eqvAll_ints ns ms
theorem eqv_tup (ns ms : List Int) : PyData.eqv (.tuple (ns.map PyData.int)) (.tuple (ms.map PyData.int)) = decide (ns = ms) := by simp only [PyData.eqv]; exact eqvAll_ints ns ms
theorem toI_inj {a b : List Nat} : toI a = toI b ↔ a = b := ⟨fun h => nvs_inj (by rw [nvs_toI, nvs_toI, h]), fun h => by rw [h]⟩
theorem rgV_nvs (n : Nat) : rgV 0 (n : Int) = nvs (List.range n) := by
  unfold rgV nvs
  rw [show ((n : Int) - 0).toNat = n by omega]
  refine List.map_congr_left fun i _ => ?_
  rw [show (0 : Int) + (i : Int) = (i : Int) by omega]
theorem rgV_neg {n : Int} (h : n < 1) : rgV 0 n = [] := by
  unfold rgV
  rw [show (n - 0).toNat = 0 by omega]
  rfl
theorem ok_range (n : Nat) : Tr.Ok (List.range n) := fun i p h => by
  have hi := (List.getElem?_eq_some_iff.mp h).1
  rw [List.getElem?_range (by simpa using hi)] at h
  cases h
  exact Nat.le_refl _
theorem ok_zeros (n : Nat) : Tr.Ok (List.replicate n 0) := fun i p h => by
  have := List.mem_of_getElem? h
  rw [List.mem_replicate] at this
  omega
/-! ### promises of the shapes' stage -/
def posL (ps : List Nat) (k : Int) : List Nat := (List.range (ps.length + 1)).filter fun p => hasS ps (p : Int) k
def spPosOf (K : PySem.W.Frag) (C D : Addr) : Sp := fun vs H Q E => ∃ (s : Addr) (ps : List Nat) (k : Int), vs = [.ref s, .int k] ∧ ShapeAt K C H s ps ∧
  (IsSide ps.length k → ∀ r H', Same H H' → H r = none → H' r = some (.lst (nvs (posL ps k))) → Q (.ref r) H') ∧
  (¬ IsSide ps.length k → Small k ∧ ∀ d H', Same H H' → H d = none → H' d = some (.xd [("side", .int k)]) → E (.ref D) (some d) H')
def spSidesAt (K : PySem.W.Frag) (C D : Addr) : Sp := fun vs H Q E => ∃ (s : Addr) (ps : List Nat) (p : Int), vs = [.ref s, .int p] ∧ ShapeAt K C H s ps ∧
  (∀ p' : Nat, p = p' → p' ≤ ps.length → ∀ r H', Same H H' → H r = none → H' r = some (.lst (hadL ps p')) → Q (.ref r) H') ∧
  (¬ IsPos ps.length p → Small p ∧ ∀ d H', Same H H' → H d = none → H' d = some (.xd [("position", .int p)]) → E (.ref D) (some d) H')
def spIsLine (K : PySem.W.Frag) (C : Addr) : Sp := fun vs H Q _ => ∃ (s : Addr) (ps : List Nat), vs = [.ref s] ∧ ShapeAt K C H s ps ∧ ∀ H', Same H H' → Q (.bl (decide (ps = List.range ps.length))) H'
/-- a shape of n walls made: of the parents f n -/
def spMade (K : PySem.W.Frag) (C D : Addr) (f : Nat → List Nat) : Sp := fun vs H Q E => ∃ n : Int, vs = [.int n] ∧ -(2 ^ 62) ≤ n ∧ n ≤ 1000 ∧
  (1 ≤ n → ∀ s H', Same H H' → H s = none → ShapeAt K C H' s (f n.toNat) → Q (.ref s) H') ∧
  (n < 1 → ∀ d H', Same H H' → H d = none → H' d = some (.xd [("place", .int 0)]) → E (.ref D) (some d) H')
def spLine (K : PySem.W.Frag) (C D : Addr) : Sp := spMade K C D List.range
def spStar (K : PySem.W.Frag) (C D : Addr) : Sp := spMade K C D fun n => List.replicate n 0
def spEqual (K : PySem.W.Frag) (C : Addr) : Sp := fun vs H Q _ => ∃ (s t : Addr) (ps qs : List Nat), vs = [.ref s, .ref t] ∧ ShapeAt K C H s ps ∧ ShapeAt K C H t qs ∧ Q (.bl (decide (ps = qs))) H
def spYes : Sp := fun vs H Q _ => ∃ a : Bool, vs = [.bl a, .bl a] ∧ Q (.bl true) H
end EP
namespace EP
open PySem L2
theorem rep_one (n : Nat) : (List.replicate n [V.int 0]).flatten = nvs (List.replicate n 0) := by
  unfold nvs
  rw [List.map_replicate]
  induction n with
  | zero => rfl
  | succ n ih => rw [List.replicate_succ, List.flatten_cons, ih, List.replicate_succ]; rfl
end EP
namespace EP
open PySem L2
def spPosOfRef (K : PySem.W.Frag) (C : Addr) : Sp := fun vs H Q _ => ∃ (s : Addr) (ps : List Nat) (k : Int), vs = [.ref s, .int k] ∧ ShapeAt K C H s ps ∧ ¬ IsSide ps.length k ∧ Small k ∧ ∀ H', Same H H' → Q (.bl true) H'
def spSideRef (K : PySem.W.Frag) (C : Addr) : Sp := fun vs H Q _ => ∃ (s : Addr) (ps : List Nat) (p k : Int), vs = [.ref s, .int p, .int k] ∧ ShapeAt K C H s ps ∧ IsPos ps.length p ∧ ¬ IsSide ps.length k ∧ Small k ∧ ∀ H', Same H H' → Q (.bl true) H'
def spPosRef (K : PySem.W.Frag) (C : Addr) : Sp := fun vs H Q _ => ∃ (s : Addr) (ps : List Nat) (p k : Int), vs = [.ref s, .int p, .int k] ∧ ShapeAt K C H s ps ∧ ¬ IsPos ps.length p ∧ Small p ∧ ∀ H', Same H H' → Q (.bl true) H'
def spSidesAtRef (K : PySem.W.Frag) (C : Addr) : Sp := fun vs H Q _ => ∃ (s : Addr) (ps : List Nat) (p : Int), vs = [.ref s, .int p] ∧ ShapeAt K C H s ps ∧ ¬ IsPos ps.length p ∧ Small p ∧ ∀ H', Same H H' → Q (.bl true) H'
def spMadeRef : Sp := fun vs H Q _ => ∃ n : Int, vs = [.int n] ∧ -(2 ^ 62) ≤ n ∧ n < 1 ∧ ∀ H', Same H H' → Q (.bl true) H'
/-- the first wrong item, or 0 if none is wrong -/
def FirstW (ns : List Int) (w : Int) : Prop := (∃ j : Nat, w = (j : Int) ∧ Wrong ns j ∧ ∀ i, i < j → ¬ Wrong ns i) ∨ (w = 0 ∧ ∀ i, ¬ Wrong ns i)
def spFirstWrong (K : PySem.W.Frag) : Sp := fun vs H Q _ => ∃ (l : Addr) (ns : List Int), vs = [.ref l] ∧ SqL K H l (ns.map V.int) ∧ ns.length ≤ 1000 ∧ ∀ w, FirstW ns w → Q (.int w) H
end EP
namespace EP
open PySem L2
theorem ShapeAt.but {K : PySem.W.Frag} {C : Addr} {H H' : Hp} {s t u : Addr} {ps : List Nat} (S : ShapeAt K C H s ps) (hT : Tape H t u) (e : But t H H') : ShapeAt K C H' s ps := by
  obtain ⟨o, p, sm, dx, a, d, kvs, h1, h2, h3, h4⟩ := S
  obtain ⟨xs, i, b, s', c, ht, _⟩ := hT
  refine ⟨o, p, sm, dx, a, d, kvs, e s _ (fun z => by rw [z, ht] at h1; cases h1) h1, ?_, e d _ (fun z => by rw [z, ht] at h3; cases h3) h3, h4⟩
  rcases h2 with h2 | h2
  · rcases h2 with h2 | ⟨o', h2⟩
    · exact .inl (.inl (e a _ (fun z => by rw [z, ht] at h2; cases h2) h2))
    · exact .inl (.inr ⟨o', e a _ (fun z => by rw [z, ht] at h2; cases h2) h2⟩)
  · exact .inr h2
theorem cut_from {L : List Nat} {k : Nat} (h : k ≤ L.length) : cutV (nvs L) (some (k : Int)) none = nvs (L.drop k) := by
  unfold cutV
  rw [HT.sIx_none, HT.sIx_nat, nvs_len, Nat.min_eq_left h]
  unfold nvs
  rw [List.take_of_length_le (by simp), List.map_drop]
theorem ok_set {ps : List Nat} {k r : Nat} (ok : Tr.Ok ps) (hr : r ≤ k) : Tr.Ok (ps.set k r) := fun i p h => by
  rw [List.getElem?_set] at h
  split at h
  · rename_i e
    split at h
    · cases h; omega
    · cases h
  · exact ok i p h
theorem set_split {ps : List Nat} {k r : Nat} (h : k < ps.length) : ps.take k ++ [r] ++ ps.drop (k + 1) = ps.set k r := by
  rw [List.set_eq_take_append_cons_drop, if_pos h, List.append_assoc]
  rfl
theorem ok_take {ps : List Nat} {k : Nat} (ok : Tr.Ok ps) : Tr.Ok (ps.take k) := fun i p h => by
  rw [List.getElem?_take] at h
  split at h
  · exact ok i p h
  · cases h
def spNear : Sp := fun vs H Q _ => ∃ (t u l : Addr) (ps : List Nat), vs = [.ref t, .ref l] ∧ Tape H t u ∧ H l = some (.lst (nvs ps)) ∧ Tr.Ok ps ∧ 1 ≤ ps.length ∧ ps.length ≤ 8 ∧
  ∀ r qs H', Tr.Ok qs → 1 ≤ qs.length → qs.length ≤ 8 → Tape H' t u → But t H H' → H r = none → H' r = some (.lst (nvs qs)) → Q (.ref r) H'
def spSpoilt : Sp := fun vs H Q _ => ∃ (t u l : Addr) (ps : List Nat), vs = [.ref t, .ref l] ∧ Tape H t u ∧ H l = some (.lst (nvs ps)) ∧ 1 ≤ ps.length ∧ ps.length ≤ 8 ∧
  ∀ r ns H', ns.length = ps.length → (∃ j, Wrong ns j) → Tape H' t u → But t H H' → H r = none → H' r = some (.lst (ns.map V.int)) → Q (.ref r) H'
def spRefTold (K : PySem.W.Frag) (C : Addr) : Sp := fun vs H Q _ => ∃ (t u s : Addr) (ps : List Nat), vs = [.ref t, .ref s, .int ps.length] ∧ Tape H t u ∧ ShapeAt K C H s ps ∧ ∀ H', Tape H' t u → But t H H' → Q (.bl true) H'
def spTold (K : PySem.W.Frag) (C : Addr) : Sp := fun vs H Q _ => ∃ (s l : Addr) (ps : List Nat), vs = [.ref s, .ref l] ∧ ShapeAt K C H s ps ∧ SqL K H l (nvs ps) ∧ ∀ H', Same H H' → Q (.bl true) H'
def spEqTold (K : PySem.W.Frag) (C : Addr) : Sp := fun vs H Q _ => ∃ (s t : Addr) (ps qs : List Nat), vs = [.ref s, .ref t, .bl (decide (ps = qs))] ∧ ShapeAt K C H s ps ∧ ShapeAt K C H t qs ∧ Q (.bl true) H
def spLinesStars : Sp := fun vs H Q _ => ∃ n : Nat, vs = [.int n] ∧ n < 1000000000 ∧ ∀ H', Same H H' → Q (.bl true) H'
end EP
namespace EP
open PySem L2
/-- a list of parents that is none -/
def BadL (ns : List Int) : Prop := (∃ j, Wrong ns j) ∨ ns = []
def spCreRef : Sp := fun vs H Q _ => ∃ (l : Addr) (ns : List Int), vs = [.ref l] ∧ H l = some (.lst (ns.map V.int)) ∧ ns.length ≤ 1000 ∧ BadL ns ∧ ∀ H', Same H H' → Q (.bl true) H'
theorem least {p : Nat → Prop} (h : ∃ j, p j) : ∃ j, p j ∧ ∀ i, i < j → ¬ p i := by
  obtain ⟨j, hj⟩ := h
  induction j using Nat.strongRecOn with
  | _ j ih =>
    by_cases c : ∃ i, i < j ∧ p i
    · obtain ⟨i, hi, hp⟩ := c
      exact ih i hi hp
    · exact ⟨j, hj, fun i hi hp => c ⟨i, hi, hp⟩⟩
theorem FirstW.eq {ns : List Int} {w : Int} (h : FirstW ns w) {j : Nat} (hj : Wrong ns j) (hl : ∀ i, i < j → ¬ Wrong ns i) : w = (j : Int) := by
  rcases h with ⟨k, rfl, hk, hm⟩ | ⟨_, no⟩
  · by_cases c : j < k
    · exact absurd hj (hm j c)
    · by_cases c2 : k < j
      · exact absurd hk (hl k c2)
      · have : k = j := by omega
        rw [this]
  · exact absurd hj (no j)
theorem FirstW.nil {w : Int} (h : FirstW [] w) : w = 0 := by
  rcases h with ⟨k, rfl, ⟨p, hp, _⟩, _⟩ | ⟨e, _⟩
  · simp at hp
  · exact e
end EP
namespace EP
open PySem L2
theorem ints_inj {a b : List Int} (h : a.map V.int = b.map V.int) : a = b := by
  induction a generalizing b with
  | nil => cases b with
    | nil => rfl
    | cons y b => simp at h
  | cons x a ih => cases b with
    | nil => simp at h
    | cons y b =>
      rw [List.map_cons, List.map_cons] at h
      obtain ⟨h1, h2⟩ := List.cons.inj h
      rw [V.int.inj h1, ih h2]
theorem BadL.no {ns : List Int} {ps : List Nat} (b : BadL ns) (e : ns.map V.int = nvs ps) (ok : Tr.Ok ps) (pos : 1 ≤ ps.length) : False := by
  have e2 : ns = toI ps := ints_inj (by rw [e, nvs_toI])
  subst e2
  rcases b with ⟨j, hj⟩ | h
  · exact noWrong ok hj
  · have := congrArg List.length h
    rw [toI_len] at this
    simp at this
    rw [this] at pos
    simp at pos
end EP
namespace EP
open PySem L2
theorem tyT {K : PySem.W.Frag} {H : Hp} {a : Addr} {xs : List V} (h : SqT K H a xs) : TyX K H (.ref a) (.type "tuple") := by
  rcases h with (h | ⟨o, h⟩) | ⟨o, its, n, h, hc, _⟩
  · exact .base (.tup h)
  · exact .fTuple h
  · exact .kTuple h hc
theorem Tape.ne_new {H : Hp} {t u a : Addr} (h : Tape H t u) (n : H a = none) : a ≠ t := fun e => h.new (by rw [← e]; exact n)
theorem Tape.ne_newu {H : Hp} {t u a : Addr} (h : Tape H t u) (n : H a = none) : a ≠ u := fun e => h.newu (by rw [← e]; exact n)
end EP
namespace EP
open PySem L2
def spIntsZ (K : PySem.W.Frag) : Sp := fun vs H Q _ => ∃ (x y : Addr) (L : List Int), vs = [.ref x, .ref y] ∧ H x = some (.lst (L.map V.int)) ∧ SqL K H y (L.map V.int) ∧ L.length ≤ 5000 ∧ Q (.bl true) H
def hadI (ps : List Nat) (p : Nat) : List Int := (List.range ps.length).map fun k => Tr.side ps p (k + 1)
theorem hadI_eq (ps : List Nat) (p : Nat) : hadL ps p = (hadI ps p).map V.int := by unfold hadL hadI; rw [List.map_map]; rfl
theorem hadI_len (ps : List Nat) (p : Nat) : (hadI ps p).length = ps.length := by unfold hadI; rw [List.length_map, List.length_range]
theorem hadL_of {ps : List Nat} {p i : Nat} {x : V} (h : (hadL ps p)[i]? = some x) : i < ps.length ∧ x = V.int (Tr.side ps p (i + 1)) := by
  have hi := (List.getElem?_eq_some_iff.mp h).1
  rw [hadL_len] at hi
  rw [hadL_get hi] at h
  exact ⟨hi, (Option.some.inj h).symm⟩
/-- a side that p has, and its opposite -/
theorem side_has {ps : List Nat} {p k : Nat} (h : 1 ≤ k) (hk : k ≤ ps.length) : IsSide ps.length (Tr.side ps p k) ∧ hasS ps (p : Int) (Tr.side ps p k) = true ∧ IsSide ps.length (0 - Tr.side ps p k) ∧ hasS ps (p : Int) (0 - Tr.side ps p k) = false := by
  unfold Tr.side
  by_cases c : Tr.has ps p k = true
  · rw [if_pos c]
    have e := hasS_neg (ps := ps) (p := p) h
    rw [show (0 - (k : Int)) = -(k : Int) by omega, e, hasS_nat h, c]
    exact ⟨⟨by omega, by omega, by omega⟩, rfl, ⟨by omega, by omega, by omega⟩, rfl⟩
  · rw [if_neg c]
    have e := hasS_neg (ps := ps) (p := p) h
    have c' : Tr.has ps p k = false := by simpa using c
    rw [show (0 - (0 - (k : Int))) = (k : Int) by omega, show (0 - (k : Int)) = -(k : Int) by omega, e, hasS_nat h, c']
    exact ⟨⟨by omega, by omega, by omega⟩, rfl, ⟨by omega, by omega, by omega⟩, rfl⟩
/-- the sides that a position has, searched -/
theorem had_in {ps : List Nat} {p : Nat} {s : Int} (hs : IsSide ps.length s) : inV (V.int s) (hadL ps p) = hasS ps (p : Int) s := by
  obtain ⟨h0, h1, h2⟩ := hs
  have key : inV (V.int s) (hadL ps p) = true ↔ hasS ps (p : Int) s = true := by
    unfold inV
    rw [List.any_eq_true]
    constructor
    · rintro ⟨x, hx, e⟩
      obtain ⟨i, hi⟩ := List.getElem?_of_mem hx
      obtain ⟨hi', rfl⟩ := hadL_of hi
      have e' : s = Tr.side ps p (i + 1) := (of_decide_eq_true (p := Tr.side ps p (i + 1) = s) (by simpa [eqV] using e)).symm
      rw [e']
      exact (side_has (by omega) (by omega)).2.1
    · intro h
      by_cases c : 0 < s
      · refine ⟨V.int (Tr.side ps p (s.toNat - 1 + 1)), List.mem_of_getElem? (hadL_get (k := s.toNat - 1) (by omega)), ?_⟩
        have e : s.toNat - 1 + 1 = s.toNat := by omega
        rw [e]
        have h' : Tr.has ps p s.toNat = true := by unfold hasS at h; rw [if_pos c] at h; simpa using h
        unfold Tr.side
        rw [if_pos h']
        show decide (((s.toNat : Nat) : Int) = s) = true
        exact decide_eq_true (by omega)
      · refine ⟨V.int (Tr.side ps p ((-s).toNat - 1 + 1)), List.mem_of_getElem? (hadL_get (k := (-s).toNat - 1) (by omega)), ?_⟩
        have e : (-s).toNat - 1 + 1 = (-s).toNat := by omega
        rw [e]
        have h' : Tr.has ps p (-s).toNat = false := by unfold hasS at h; rw [if_neg c] at h; simpa using h
        unfold Tr.side
        rw [if_neg (by rw [h']; decide)]
        show decide (0 - (((-s).toNat : Nat) : Int) = s) = true
        exact decide_eq_true (by omega)
  cases a : inV (V.int s) (hadL ps p) <;> cases b : hasS ps (p : Int) s
  · rfl
  · rw [a, b] at key; simp at key
  · rw [a, b] at key; simp at key
  · rfl
theorem hadL_flat (ps : List Nat) (p : Nat) : (hadL ps p).all flatV = true := by
  rw [List.all_eq_true]
  intro x hx
  obtain ⟨i, hi⟩ := List.getElem?_of_mem hx
  obtain ⟨_, rfl⟩ := hadL_of hi
  rfl
end EP
namespace EP
open PySem L2
theorem posL_len (ps : List Nat) (k : Int) : (posL ps k).length ≤ ps.length + 1 := by
  unfold posL
  exact Nat.le_trans (List.length_filter_le _ _) (by rw [List.length_range]; exact Nat.le_refl _)
end EP
namespace EP
open PySem L2
theorem ShapeAt.mut {K : PySem.W.Frag} {C : Addr} {H : Hp} {s a : Addr} {o : HO} {xs : List V} {ps : List Nat} (S : ShapeAt K C H s ps) (ha : H a = some (.lst xs)) : ShapeAt K C (upd H a o) s ps := by
  obtain ⟨ok, p, sm, dx, b, d, kvs, h1, h2, h3, h4⟩ := S
  refine ⟨ok, p, sm, dx, b, d, kvs, by rw [upd_ne (fun z => by rw [z, ha] at h1; cases h1)]; exact h1, ?_, by rw [upd_ne (fun z => by rw [z, ha] at h3; cases h3)]; exact h3, h4⟩
  rcases h2 with h2 | h2
  · rcases h2 with h2 | ⟨o', h2⟩
    · exact .inl (.inl (by rw [upd_ne (fun z => by rw [z, ha] at h2; cases h2)]; exact h2))
    · exact .inl (.inr ⟨o', by rw [upd_ne (fun z => by rw [z, ha] at h2; cases h2)]; exact h2⟩)
  · exact .inr h2
def wideN : List Nat := [0, 1, 2, 0, 4, 5, 6, 7, 8, 0]
theorem ok_wide : Tr.Ok wideN := fun i p h => by
  match i, h with
  | 0, h => cases h; decide
  | 1, h => cases h; decide
  | 2, h => cases h; decide
  | 3, h => cases h; decide
  | 4, h => cases h; decide
  | 5, h => cases h; decide
  | 6, h => cases h; decide
  | 7, h => cases h; decide
  | 8, h => cases h; decide
  | 9, h => cases h; decide
  | n + 10, h => simp [wideN] at h
theorem wide_eq : [V.int 0, V.int 1, V.int 2, V.int 0, V.int 4, V.int 5, V.int 6, V.int 7, V.int 8, V.int 0] = (toI wideN).map V.int := rfl
end EP
namespace EG
open PySem PySem.Spec PyProof.Rows L2 GenW GxR

theorem over_genL {A : Around} {elt : Expr} {gs : List Comprehension} {scope : Scope} {pos : Pos} {it acc : Value} {env : Env} : A.over (.compLoop (.GeneratorExp elt gs scope pos) 0 it acc env) [] = A.deeper env := by
  first
    | rfl
    | (obtain ⟨hd, d, fr, gs, u⟩ := A; simp [Around.over, Around.deeper, marksOver, frameCount, unitsOf, envsOf, guardsOf, pushEnvs, pushGuards, Code.envs, Code.env?, Code.isFrame, Code.guards, Code.isGuard, Code.weight, Code.frames, Code.isCreation, Code.isCaller, Code.cUnits])

/-- the context of a generator expression's frame -/
abbrev cxGen (X : Cx) (s : Shared) (H : Hp) (cenv : Env) (A : Around) (fp : List Addr) (pn : List (Addr × Obj)) : Cx :=
  { X with A := A, s_0 := s, H_0 := H, env := cenv, outer := X.stack, stack := cenv :: X.stack, ex := fp, fn := fun _ => false, pn := pn, xe := fun _ _ => False }

theorem gen_start {X : Cx} {pins pn : List (Addr × Obj)} {σ : L2.St} {H : Hp} {s s5 : Shared} {scope : Scope} {own : List (Str × Nat)} {fp : List Addr} {cenv : Env} {A : Around}
    (I : Inv X pins σ H s) (ok : BlkOk X.N X.env.scope scope own) (hN : X.N.Nodup) (hnc : ∀ y ∈ scope.names, y.2 ≠ .cell) (hfp : ∀ b ∈ fp, FpOk X pins H b ∧ b < s.heap.objs.size)
    (eL : cenv.locals = s.heap.objs.size) (ecl : cenv.cells = cloFrom X.env.cells scope.names []) (esc : cenv.scope = scope) (egl : cenv.globals = mainGlobals) (ebl : cenv.builtins = builtinsNs) (efr : cenv.frame = some cenv.locals)
    (hA : A.frames = some (cenv :: X.stack)) (hd : A.handled = none) (hos : s5.os = s.os) (hb : AllBare s5.gens) (kp : ∀ b o, s.heap.get? b = some o → s5.heap.get? b = some o) (hn : ∃ m, s5.heap.Ns s.heap.objs.size m)
    (hpn : ∀ p ∈ pn, s5.heap.get? p.1 = some p.2 ∧ s.heap.objs.size < p.1 ∧ ∀ v, p.2.data ≠ .cell v) :
    Inv (cxGen X s H cenv A fp pn) [] (wipe σ (own.map (·.2))) H s5 := by
  have hfree : ∀ y ∈ scope.names, y.2 = .free → ∃ c, X.env.cells.lookup y.1 = some c := fun y hy e => by
    rcases ok.free y hy e with k | k
    · exact I.ok.has _ (.inl k)
    · exact I.ok.has _ (.inr k)
  have cm : ∀ {y c}, (y, c) ∈ cloFrom X.env.cells scope.names [] → X.env.cells.lookup y = some c ∧ c < s.heap.objs.size := fun {y c} hm => by
    rcases cloFrom_mem hm with hm | ⟨h1, rfl⟩
    · cases hm
    · obtain ⟨c, hc⟩ := hfree _ h1 rfl
      rw [hc]
      obtain ⟨w, z⟩ := I.cell _ _ hc
      exact ⟨rfl, z.lt⟩
  have mem : ∀ {y c}, cenv.cells.lookup y = some c → X.env.cells.lookup y = some c ∧ c < s.heap.objs.size := fun {y c} e => by
    rw [ecl] at e
    exact cm (PySem.mem_of_lookup e)
  have look : ∀ {y}, scope.names.lookup y = some .free → ∃ c, cenv.cells.lookup y = some c ∧ X.env.cells.lookup y = some c := fun {y} hl => by
    obtain ⟨c', e'⟩ := mem_lookup (cloFrom_has (cells := X.env.cells) (acc := []) (PySem.mem_of_lookup hl))
    rw [← ecl] at e'
    exact ⟨c', e', (mem e').1⟩
  have nocell : ∀ {y}, scope.names.lookup y ≠ some .cell := fun {y} e => hnc _ (PySem.mem_of_lookup e) rfl
  have okB : (cxGen X s H cenv A fp pn).Ok := by
    refine ⟨I.ok.mod, by show cenv.scope.kind = _; rw [esc]; exact ok.kind, egl, ebl, by show s.heap.objs.size ≤ cenv.locals; rw [eL]; exact Nat.le_refl _,
      fun y z c e1 e2 => I.ok.inj y z c (mem e1).1 (mem e2).1, fun y hy => ?_, fun y c z e => ?_, fun _ => hd, hA, .inr ⟨rfl, efr⟩, fun b hb => ⟨?_, fun y c e z => ?_⟩, I.bs, Nat.le_trans I.ok.bsz I.sz, fun b o e hb => ?_, fun b hb z => ?_, I.stack, I.stkFree⟩
    · show ∃ c, cenv.cells.lookup y = some c
      rcases hy with hy | hy
      · have hy : cenv.scope.names.lookup y = some .cell := hy
        rw [esc] at hy
        exact absurd hy nocell
      · have hy : cenv.scope.names.lookup y = some .free := hy
        rw [esc] at hy
        obtain ⟨c, h, _⟩ := look hy
        exact ⟨c, h⟩
    · exact absurd (show false = true from z) Bool.false_ne_true
    · show b ≠ cenv.locals
      rw [eL]; exact Nat.ne_of_lt (hfp b hb).2
    · exact (hfp b hb).1.2.2.2.2.1 y c (mem e).1 z
    · rcases (hfp b hb).1.2.2.2.1 with z | z
      · exact I.ok.noex b o e z
      · exact absurd (Nat.lt_of_lt_of_le (Heap.lt_size e) (Nat.le_trans I.ok.bsz z)) (Nat.lt_irrefl _)
    · rcases List.mem_cons.mp (I.stkSub b z) with z | z
      · exact (hfp b hb).1.2.1 z
      · exact (hfp b hb).1.2.2.1 z
  obtain ⟨m0, hn⟩ := hn
  refine ⟨okB, hos, hb, Un.kept kp, ⟨m0, ?_, fun i y av e1 e2 e3 => ?_⟩, fun y c e => ?_, ?_, fun y c e => ?_, fun p hp => ?_, I.hok.kept kp, by rw [wipe_length]; exact I.len⟩
  · show Heap.Ns _ cenv.locals _
    rw [eL]
    exact hn
  · obtain ⟨e2, hne⟩ := wipe_some e2
    have e3 : Vis cenv.scope y := e3
    rw [esc] at e3
    have no : ∀ k, scope.names.lookup y = some k → ¬ (k = .local ∨ k = .cell) := fun k e hh => by
      rcases ok.own _ (PySem.mem_of_lookup e) hh with e' | e'
      · obtain ⟨p, hp, hpy⟩ := List.mem_map.mp e'
        have e3 := ok.ix p hp
        have : p.1 = y := hpy
        rw [this] at e3
        exact hne (List.mem_map.mpr ⟨p, hp, nodup_ix hN e3 e1⟩)
      · exact e' (List.mem_of_getElem? e1)
    have hfr : scope.names.lookup y = some .free := by
      rcases e3 with e3 | e3 | e3
      · exact absurd (.inl rfl) (no _ e3)
      · exact absurd (.inr rfl) (no _ e3)
      · exact e3
    obtain ⟨m, hn', hl⟩ := I.loc
    have hvis : Vis X.env.scope y := (ok.free _ (PySem.mem_of_lookup hfr) rfl).elim (fun k => .inr (.inl k)) (fun k => .inr (.inr k))
    obtain ⟨w, r, q⟩ := hl i y av e1 e2 hvis
    refine ⟨w, r, .inr ⟨.inr (by show cenv.scope.names.lookup y = _; rw [esc]; exact hfr), ?_⟩⟩
    obtain ⟨c, h1, h2⟩ := look hfr
    rcases q with ⟨k, _⟩ | ⟨_, c', e', z⟩
    · have k : X.env.scope.names.lookup y = some .local := k
      rcases ok.free _ (PySem.mem_of_lookup hfr) rfl with k' | k' <;> rw [show X.env.scope.names.lookup y = _ from k'] at k <;> cases k
    · rw [h2] at e'; cases e'
      exact ⟨c, h1, z.keeps kp⟩
  · obtain ⟨w, z⟩ := I.cell y c (mem e).1
    exact ⟨w, z.keeps kp⟩
  · show H cenv.locals = none
    rw [eL]; exact I.hok.fresh (Nat.le_refl _)
  · exact I.freeC y c (mem e).1
  · have hp : p ∈ pn := by simpa using hp
    obtain ⟨h1, h2, h3⟩ := hpn p hp
    refine ⟨h1, I.hok.fresh (Nat.le_of_lt h2), by show p.1 ≠ cenv.locals; rw [eL]; exact Nat.ne_of_gt h2, fun z => ?_, h3⟩
    rcases List.mem_cons.mp (I.stkSub p.1 z) with z | z
    · have := I.lt
      rw [← z] at this
      exact absurd (Nat.lt_trans this h2) (Nat.lt_irrefl _)
    · exact I.nofs (Nat.le_of_lt h2) z

theorem allBare_set {s : Shared} {g : Nat} {x : GenState} (h : AllBare s.gens) (hx : x.bare = true) : AllBare (s.setGen g x).gens := fun y hy => by
  obtain ⟨j, hj, rfl⟩ := Array.mem_iff_getElem.mp hy
  have e : (s.setGen g x).gens[j]? = some ((s.setGen g x).gens[j]) := Array.getElem?_eq_getElem hj
  by_cases hg : g = j
  · subst hg
    have hj2 : g < s.gens.size := by rw [← GenW.setGen_size s g x]; exact hj
    have e2 : (s.setGen g x).gens[g]? = some x := by simp [Shared.setGen, hj2]
    rw [e] at e2
    rw [Option.some.inj e2]
    exact hx
  · have hj2 : j < s.gens.size := by rw [← GenW.setGen_size s g x]; exact hj
    have e2 : (s.setGen g x).gens[j]? = s.gens[j]? := by simp [Shared.setGen, hg]
    rw [e, Array.getElem?_eq_getElem hj2] at e2
    rw [Option.some.inj e2]
    exact h _ (Array.getElem_mem hj2)
/-! ### the consumer -/
inductive CK where
  | all | any | sum
abbrev sumObj (a : Int) (t : Tok) (c : Nat) : Obj := { cls := .type "list", dict := none, data := .seq #[.int a t] c, slots := #[] }
/-- what the consumer keeps while it waits: sum its list of one int -/
def cpOf : CK → Addr → Int → Tok → Nat → List (Addr × Obj)
  | .sum, S, a, t, c => [(S, sumObj a t c)]
  | _, _, _, _, _ => []
/-- what becomes of an element -/
def tEl (k : CK) (a : Int) (y : V) (Nx : Int → Hp → Prop) (Q : VK) (H : Hp) : Prop :=
  match k with
  | .all => ∃ c, y = .bl c ∧ if c = true then Nx a H else Q (.bl false) H
  | .any => ∃ c, y = .bl c ∧ if c = true then Q (.bl true) H else Nx a H
  | .sum => ∃ n, y = .int n ∧ Nx (a + n) H
def tFin (k : CK) (a : Int) : V :=
  match k with
  | .all => .bl true
  | .any => .bl false
  | .sum => .int a
/-- while the generator sleeps -/
structure Nap (k : CK) (S : Addr) (s s' : Shared) : Prop where
  os : s'.os = s.os
  bare : AllBare s'.gens
  keep : ∀ b o, (k = .sum → b ≠ S) → s.heap.get? b = some o → s'.heap.get? b = some o

/-- a generator expression that has been made -/
structure GG where
  X : Cx
  pins : List (Addr × Obj)
  σ : L2.St
  s4 : Shared
  H4 : Hp
  cenv : Env
  AG : Around
  fp : List Addr
  it : Addr
  tn : Nat → Heap → Prop
  J : It
  ga : Addr
  go : Obj
  g : Nat
  S : Addr
  elt : Expr
  tg : Expr
  iter : Expr
  ifs : List Expr
  scope : Scope
  gpos : Pos
  vs : List Nat
  gt : TG
  tt : TT
  te : TE
  k : CK
  W : Nat → Nat → Int → Hp → Prop
  Q : VK
namespace GG
variable (G : GG)
def code : Code := .compLoop (.GeneratorExp G.elt [⟨G.tg, G.iter, G.ifs, 0⟩] G.scope G.gpos) 0 (.ref G.it) .none G.cenv
abbrev XG : Cx := cxGen G.X G.s4 G.H4 G.cenv (G.AG.deeper G.cenv) G.fp [(G.ga, G.go)]
abbrev cp (a : Int) (t : Tok) (c : Nat) : List (Addr × Obj) := cpOf G.k G.S a t c
/-- it stands ahead of item i -/
def SI (cp : List (Addr × Obj)) (i : Nat) (H : Hp) (s : Shared) : Prop := Inv G.XG cp (wipe G.σ G.vs) H s ∧ G.tn i s.heap ∧ ∀ b ∈ G.fp, H b = none
def Y : Protocol := fun n s₀ v s kap => ∃ (i m : Nat) (a : Int) (t : Tok) (c : Nat) (y : V) (H : Hp) (Nx : Int → Hp → Prop), RelV y v ∧ m ≤ n ∧ (∀ p ∈ G.cp a t c, s₀.heap.get? p.1 = some p.2) ∧ G.SI (G.cp a t c) (i + 1) H s ∧
  (∀ a' H', Nx a' H' → ∃ m', m' < m ∧ G.W (i + 1) m' a' H') ∧ tEl G.k a y Nx G.Q H ∧
  ∀ s' m' a' t' c', m' < m → G.W (i + 1) m' a' H → Nap G.k G.S s s' → (∀ p ∈ G.cp a' t' c', s'.heap.get? p.1 = some p.2) → kap (.send .none) s'
def PD (n : Nat) (s₀ s : Shared) : Prop := ∃ (i : Nat) (a : Int) (t : Tok) (c : Nat) (H : Hp), (∀ p ∈ G.cp a t c, s₀.heap.get? p.1 = some p.2) ∧ Inv G.XG (G.cp a t c) (wipe G.σ G.vs) H s ∧ G.Q (tFin G.k a) H
def R : GenEnd := fun n s₀ r s => r = .ok .next ∧ G.PD n s₀ s
structure Ok : Prop where
  inv : Inv G.X G.pins G.σ G.H4 G.s4
  calm : G.X.calm = true
  turn : Turn G.X.prog G.X.w G.X.K G.tg G.J G.fp G.it G.tn
  fpok : ∀ b ∈ G.fp, FpOk G.X G.pins G.H4 b ∧ b < G.s4.heap.objs.size
  pg : PG G.XG G.tg G.gt
  pt : PTs G.XG G.ifs G.tt
  pe : PE G.XG G.elt G.te
  co : G.cenv.scope.isCoroutine = false
  eL : G.cenv.locals = G.s4.heap.objs.size
  ecl : ∀ y c, G.cenv.cells.lookup y = some c → c < G.s4.heap.objs.size
  gaL : G.s4.heap.objs.size < G.ga
  gaS : G.ga < G.S
  goc : G.go.cls = .type "generator"
  god : ∃ nm qn, G.go.data = .fields #[.int G.g 0, nm, qn]
  gos : G.go.slots = #[]
  hd : G.AG.handled = none
  room : G.AG.depth < recursionLimit
  turns : ∀ i m a H, G.W i m a H → (G.J.stop i H ∧ G.Q (tFin G.k a) H) ∨ (G.J.go i H ∧ ∃ Nx : Int → Hp → Prop, (∀ a' H', Nx a' H' → ∃ m', m' < m ∧ G.W (i + 1) m' a' H') ∧ ∀ x H', G.J.yld i H x H' →
    G.gt x (wipe G.σ G.vs) H' fun σ2 H2 => wipe σ2 G.vs = wipe G.σ G.vs ∧ G.tt σ2 H2 fun b H3 => if b = true then G.te σ2 H3 fun y H4 => tEl G.k a y Nx G.Q H4 else Nx a H3)
variable {G}
theorem cp_at {a : Int} {t : Tok} {c : Nat} {p : Addr × Obj} (h : p ∈ G.cp a t c) : G.k = .sum ∧ p.1 = G.S ∧ ∀ v, p.2.data ≠ .cell v := by
  unfold cp cpOf at h
  cases hk : G.k with
  | all => rw [hk] at h; cases h
  | any => rw [hk] at h; cases h
  | sum =>
    rw [hk] at h
    rw [List.mem_singleton.mp h]
    exact ⟨rfl, rfl, fun v e => by cases e⟩
theorem stat (O : G.Ok) {cp : List (Addr × Obj)} {σ' : L2.St} {H' : Hp} {s' : Shared} (hc : ∀ p ∈ cp, p.1 = G.S) (I : Inv G.XG cp σ' H' s') (hn : ∀ b ∈ G.fp, H' b = none) : ∀ b ∈ G.fp, FpOk G.XG cp H' b := fun b hb =>
  ⟨hn b hb, (I.ok.exf b hb).1, I.ok.exfs b hb, .inl hb, fun x c e => (I.ok.exf b hb).2 x c e, fun p hp => by
    have hlt := (O.fpok b hb).2
    rcases List.mem_append.mp hp with z | z
    · rw [List.mem_singleton.mp z]
      exact Nat.ne_of_gt (Nat.lt_trans hlt O.gaL)
    · rw [hc p z]
      exact Nat.ne_of_gt (Nat.lt_trans hlt (Nat.lt_trans O.gaL O.gaS))⟩
theorem nap_ok (O : G.Ok) {a a' : Int} {t t' : Tok} {c c' i : Nat} {H : Hp} {s s' : Shared} (h : G.SI (G.cp a t c) i H s) (z : Nap G.k G.S s s') (hp : ∀ p ∈ G.cp a' t' c', s'.heap.get? p.1 = some p.2) (hS : G.k = .sum → H G.S = none) : G.SI (G.cp a' t' c') i H s' := by
  obtain ⟨I, st, hn⟩ := h
  have hlt : ∀ b ∈ G.fp, b ≠ G.S := fun b hb => Nat.ne_of_lt (Nat.lt_trans (O.fpok b hb).2 (Nat.lt_trans O.gaL O.gaS))
  have nS : ∀ b u, H b = some u → G.k = .sum → b ≠ G.S := fun b u e hk z => by rw [z, hS hk] at e; cases e
  have I0 : Inv G.XG [] (wipe G.σ G.vs) H s := I.pins_of fun p hp => absurd hp (by simp)
  have SL : G.S ≠ G.cenv.locals := by rw [O.eL]; exact Nat.ne_of_gt (Nat.lt_trans O.gaL O.gaS)
  have young : G.s4.heap.objs.size ≤ G.S := Nat.le_of_lt (Nat.lt_trans O.gaL O.gaS)
  have SC : ∀ x c, G.cenv.cells.lookup x = some c → c ≠ G.S := fun x c e z => by
    have := O.ecl x c e
    rw [z] at this
    exact absurd (Nat.lt_of_lt_of_le this young) (Nat.lt_irrefl _)
  obtain ⟨z1, z2, z3⟩ := z
  obtain ⟨hh, g, d, tk, o⟩ := s'
  have ho : o = s.os := z1
  subst ho
  have nc : ∀ b, b ∉ [G.S] → G.k = .sum → b ≠ G.S := fun b hb _ e => hb (by rw [e]; exact List.mem_singleton.mpr rfl)
  have J : Inv G.XG [] (wipe G.σ G.vs) H { s with heap := hh, gens := g, drawn := d, toks := tk } := by
    by_cases hk : G.k = .sum
    · refine I0.step (g' := g) (t' := tk) (d' := d) (ch := [G.S]) (fun b hb => ?_)
        (fun b ob _ _ hc q _ => z3 b ob (nc b hc) q) (fun b ob _ _ hc q _ => ⟨ob.slots, z3 b ob (nc b hc) q⟩) (fun _ _ _ _ n => n) (fun b ob hc q => ⟨ob, z3 b ob (nc b hc) q⟩)
        (fun _ _ q => q) (fun _ _ _ q => q) (fun b ps q => ⟨#[], by rw [q]; simp⟩) (fun m hm => ?_) (fun b u q => ?_) z2
      · rw [List.mem_singleton.mp hb]
        refine ⟨.inr young, SL, SC, fun p hp => ?_⟩
        rcases List.mem_append.mp hp with hp | hp
        · rw [List.mem_singleton.mp hp]
          exact Nat.ne_of_lt O.gaS
        · cases hp
      · obtain ⟨ob, es, ep, ho, r⟩ := hm
        exact ⟨ob, es, ep, z3 _ ob (fun _ => Ne.symm SL) ho, r⟩
      · refine (I0.hok b u q).stay (fun c v hc y => z3 c v ?_ y) (fun _ y => y) fun _ _ y => y
        rcases hc with y | y
        · rw [y]; exact nS b u q
        · exact nS c _ y
    · have kp : ∀ b u, s.heap.get? b = some u → hh.get? b = some u := fun b u e => z3 b u (fun q => absurd q hk) e
      exact I0.call' (s' := ⟨hh, g, d, tk, s.os⟩) (ch := []) rfl (Un.kept kp) (I0.hok.kept kp) z2 fun b hb => absurd hb (by simp)
  refine ⟨J.pins_of fun p hp' => ?_, O.turn.keep _ _ _ st fun b hb ob e => z3 b ob (fun _ => hlt b hb) e, hn⟩
  obtain ⟨k1, k2, k3⟩ := cp_at hp'
  refine ⟨hp p hp', by rw [k2]; exact hS k1, by rw [k2]; exact SL, fun q => ?_, k3⟩
  rw [k2] at q
  rcases List.mem_cons.mp (O.inv.stkSub _ q) with y | y
  · have := O.inv.lt
    rw [← y] at this
    exact absurd (Nat.lt_of_lt_of_le this young) (Nat.lt_irrefl _)
  · exact O.inv.nofs young y
/-- S is not tracked while it is pinned -/
theorem SI.noS {a : Int} {t : Tok} {c i : Nat} {H : Hp} {s : Shared} (h : G.SI (G.cp a t c) i H s) (hk : G.k = .sum) : H G.S = none := by
  have : (G.S, sumObj a t c) ∈ G.cp a t c := by unfold cp cpOf; rw [hk]; exact List.mem_singleton.mpr rfl
  exact (h.1.pin _ (List.mem_append_right _ this)).2.1
theorem compTurn_genT (elt target iter : Expr) (ifs : List Expr) (scope : Scope) (pos : Pos) (it acc : Value) (env : Env) :
    compTurn (.GeneratorExp elt [⟨target, iter, ifs, 0⟩] scope pos) 0 it acc env = (do
      standAt iter.pos
      match ← pyNext it with
      | none => pure (.done .next)
      | some v =>
        letOwnedTupleGo target it v
        assign target env v
        let mut ok := true
        for c in ifs do
          if ok then ok ← isTrue c env (eval c env)
        if ok then
          (do let v ← eval elt env; standAt elt.pos; let _ ← yieldOut env v)
        again (.compLoop (.GeneratorExp elt [⟨target, iter, ifs, 0⟩] scope pos) 0 it acc env)) := by rfl

theorem seg_loop (O : G.Ok) : ∀ (m n i : Nat) (a : Int) (t : Tok) (c : Nat) (H : Hp) (s₀ s : Shared), m < n → G.W i m a H → G.SI (G.cp a t c) i H s → (∀ p ∈ G.cp a t c, s₀.heap.get? p.1 = some p.2) →
    Seg (model G.X.prog G.X.w) G.AG G.R G.Y n s₀ G.code ((model G.X.prog G.X.w).den G.code) [] s := by
  intro m
  induction m using Nat.strongRecOn with
  | ind m ih =>
    intro n i a t c H s₀ s hmn w hSI hs0
    obtain ⟨I, st, hn⟩ := id hSI
    have T := O.turn
    have hcS : ∀ p ∈ G.cp a t c, p.1 = G.S := fun p hp => (cp_at hp).2.1
    show Seg _ G.AG _ _ _ s₀ _ ((compTurn (.GeneratorExp G.elt [⟨G.tg, G.iter, G.ifs, 0⟩] G.scope G.gpos) 0 (.ref G.it) .none G.cenv).onRaise (leaving G.cenv)) [] s
    rw [compTurn_genT, Sem.onRaise_eq_wrap]
    refine seg_bind_wrap (wpAny_standAt ?_)
    have ov : G.AG.over G.code [] = G.XG.A := over_genL
    rcases O.turns i m a H w with ⟨stop, qq⟩ | ⟨go, Nx, hNx, step⟩
    · refine seg_bind_wrap ?_
      rw [ov]
      refine thnF (T.done G.XG rfl rfl rfl O.calm i _ s _ H (fun _ _ => False) I (stat O hcS I hn) st stop) fun r s1 ⟨hr, I1⟩ => ?_
      subst hr
      exact seg_end (.ok .next) ⟨rfl, i, a, t, c, H, hs0, I1, qq⟩
    · refine seg_bind_wrap ?_
      rw [ov]
      refine thnF (T.item G.XG rfl rfl rfl O.calm i _ s _ H (fun _ _ => False) I (stat O hcS I hn) st go) fun r s6 ⟨u, hr, h6⟩ => ?_
      subst hr
      refine seg_bind_wrap ?_
      rw [ov]
      refine thnF h6 fun _ s7 ⟨x, H7, I7, r7, y7, st7, n7⟩ => ?_
      have I7' := I7.pinned (stat O hcS I7 n7) (T.obj _ _ st7)
      refine seg_bind_wrap ?_
      rw [ov]
      refine thnF (O.pg.run _ s7 _ H7 x u _ I7' r7 (step x H7 y7)) fun _ s8 ⟨σ8, H8, I8, hw8, q8⟩ => ?_
      refine seg_bind_wrap ?_
      rw [ov]
      refine thnF (O.pt.run _ s8 σ8 H8 _ I8 q8) fun b s9 ⟨H9, I9, q9⟩ => ?_
      have fin : ∀ {s' : Shared} {H' : Hp}, Inv G.XG (G.cp a t c ++ pinsAt G.fp s7.heap) σ8 H' s' → G.SI (G.cp a t c) (i + 1) H' s' := fun {s' H'} I' => by
        have pin' : ∀ b ∈ G.fp, ∀ o, s7.heap.get? b = some o → s'.heap.get? b = some o ∧ H' b = none := fun b hb o e =>
          let z := I'.pin (b, o) (List.mem_append_right _ (List.mem_append_right _ (mem_pinsAt hb e)))
          ⟨z.1, z.2.1⟩
        have hl : (wipe G.σ G.vs).length = σ8.length := by rw [← hw8, wipe_length]
        refine ⟨(I'.unpinned (pins := G.cp a t c)).weak hl (fun j v e => ?_), T.keep _ _ _ st7 fun b hb o e => (pin' b hb o e).1, fun b hb => ?_⟩
        · rw [← hw8] at e
          exact (wipe_some e).1
        · obtain ⟨o, e, _⟩ := T.obj _ _ st7 b hb
          exact (pin' b hb o e).2
      cases b with
      | false =>
        simp only [Bool.false_eq_true, if_false] at q9 ⊢
        obtain ⟨m', hm, w'⟩ := hNx a H9 q9
        exact seg_again rfl (ih m' hm n (i + 1) a t c H9 s₀ s9 (by omega) w' (fin I9) hs0)
      | true =>
        simp only [if_true] at q9 ⊢
        have hy : ∀ v, yieldOut G.cenv v = yieldValue v := fun v => by simp only [yieldOut, O.co, Bool.false_eq_true, if_false]
        simp only [hy]
        rw [Sem.bind_eq_wrap', Sem.bind_eq_wrap', Sem.wrap_wrap, Sem.wrap_wrap]
        refine seg_wrap ?_
        rw [ov]
        refine thnF (O.pe.run _ s9 σ8 H9 _ I9 q9) fun z s10 ⟨yv, H10, I10, r10, q10⟩ => ?_
        obtain ⟨n', rfl⟩ : ∃ n', n = n' + 1 := ⟨n - 1, by omega⟩
        refine seg_at (seg_yield rfl rfl rfl ⟨i, m, a, t, c, yv, H10, Nx, r10, by omega, hs0, fin I10, fun a' H' nx => hNx a' H' nx, q10, fun s' m' a' t' c' hm w' nap hp => ?_⟩)
        exact seg_again rfl (ih m' hm n' (i + 1) a' t' c' H10 s' s' (by omega) w' (nap_ok O (fin I10) nap hp (fun hk => (fin I10).noS hk)) hp)
theorem seg_start (O : G.Ok) {m n i : Nat} {a : Int} {t : Tok} {c : Nat} {H : Hp} {s₀ s : Shared} (hmn : m < n) (w : G.W i m a H) (hSI : G.SI (G.cp a t c) i H s) (hs0 : ∀ p ∈ G.cp a t c, s₀.heap.get? p.1 = some p.2) :
    Seg (model G.X.prog G.X.w) G.AG G.R G.Y n s₀ (.compStart (.GeneratorExp G.elt [⟨G.tg, G.iter, G.ifs, 0⟩] G.scope G.gpos) 0 (.ref G.it) .none G.cenv)
      ((model G.X.prog G.X.w).den (.compStart (.GeneratorExp G.elt [⟨G.tg, G.iter, G.ifs, 0⟩] G.scope G.gpos) 0 (.ref G.it) .none G.cenv)) [] s := by
  have loop := seg_loop O m n i a t c H s₀ s hmn w hSI hs0
  obtain ⟨I, st, hn⟩ := hSI
  show Seg _ G.AG _ _ _ s₀ _ ((compStart (.GeneratorExp G.elt [⟨G.tg, G.iter, G.ifs, 0⟩] G.scope G.gpos) 0 (.ref G.it) .none G.cenv).onRaise (leaving G.cenv)) [] s
  unfold compStart
  rw [Sem.onRaise_eq_wrap]
  show Seg _ G.AG _ _ _ s₀ _ ((ask >>= _).wrap _ _ _ _) [] s
  refine seg_bind_wrap (wpAny_askSetting ?_)
  split
  · exact seg_again rfl loop
  · first
      | exact seg_bind_wrap (wpAny_rule (seg_bind_wrap (wpAny_standAt (seg_bind_wrap (O.turn.self _ i s _ _ st (seg_again rfl loop))))))
      | (refine seg_bind_wrap (wpAny_rule ?_); show Seg _ G.AG _ _ _ s₀ _ ((standAt G.iter.pos >>= _).wrap _ _ _ _) [] s; exact seg_bind_wrap (wpAny_standAt (seg_bind_wrap (O.turn.self _ i s _ _ st (seg_again rfl loop)))))
/-- it sleeps at s, n turns at most are left -/
def Zz (G : GG) (n : Nat) (s : Shared) : Prop := ∃ gs, s.gens[G.g]? = some gs ∧ gs.Goes (model G.X.prog G.X.w) G.AG G.R G.Y n (.send .none) (s.setGen G.g .running)
theorem SI.nap_set (O : G.Ok) {a : Int} {t : Tok} {c i : Nat} {H : Hp} {s : Shared} {g : Nat} {gs : GenState} (h : G.SI (G.cp a t c) i H s) (hb : gs.bare = true) : G.SI (G.cp a t c) i H (s.setGen g gs) :=
  nap_ok O h ⟨rfl, allBare_set h.1.bare hb, fun b o _ e => e⟩ (fun p hp => (h.1.pin p (List.mem_append_right _ hp)).1) (fun hk => h.noS hk)
theorem SI.isGen (O : G.Ok) {cp : List (Addr × Obj)} {i : Nat} {H : Hp} {s : Shared} (h : G.SI cp i H s) : s.heap.IsGen G.ga G.g := by
  obtain ⟨nm, qn, e⟩ := O.god
  exact ⟨G.go, nm, qn, (h.1.pin (G.ga, G.go) (List.mem_append_left _ List.mem_cons_self)).1, O.goc, e, O.gos⟩
theorem next (O : G.Ok) {A : Around} (hA : A.in1 = G.AG) (hh : A.handled = none) (hroom : A.depth < recursionLimit) {n i : Nat} {a : Int} {t : Tok} {c : Nat} {H : Hp} {s : Shared} {Qn : Option Value → Shared → Prop} {E : Value → Shared → Prop}
    (hSI : G.SI (G.cp a t c) i H s) (hz : G.Zz n s)
    (hNone : ∀ (a : Int) (t : Tok) (c : Nat) (H' : Hp) (s' : Shared), (∀ p ∈ G.cp a t c, s.heap.get? p.1 = some p.2) → Inv G.XG (G.cp a t c) (wipe G.σ G.vs) H' s' → G.Q (tFin G.k a) H' → Qn none s')
    (hSome : ∀ (i m : Nat) (a : Int) (t : Tok) (c : Nat) (y : V) (H' : Hp) (Nx : Int → Hp → Prop) (v : Value) (s' : Shared), RelV y v → (∀ p ∈ G.cp a t c, s.heap.get? p.1 = some p.2) → G.SI (G.cp a t c) i H' s' →
      (∀ a' H', Nx a' H' → ∃ m', m' < m ∧ G.W i m' a' H') → tEl G.k a y Nx G.Q H' →
      (∀ s'' m' a' t' c', m' < m → G.W i m' a' H' → Nap G.k G.S s' s'' → s''.gens = s'.gens → (∀ p ∈ G.cp a' t' c', s''.heap.get? p.1 = some p.2) → ∃ n', n' < n ∧ G.Zz n' s'') → Qn (some v) s') :
    wpAny (model G.X.prog G.X.w) A (pyNext (.ref G.ga)) Qn E s := by
  obtain ⟨gs, hgs, hgo⟩ := hz
  have hg := hSI.isGen O
  have hlt : G.g < s.gens.size := (Array.getElem?_eq_some_iff.mp hgs).1
  refine wpAny_gsz (Nat.le_refl s.gens.size) ?_
  refine wpAny_pyNext_genexpQ (P := fun n s₀ s₁ => G.PD n s₀ s₁) (n := n) (Y := G.Y) hh hSI.1.nolimit hroom hg hgs (by rw [hA]; exact hgo) (fun v s₁ gs' hb hv => ?_) (fun s₁ hp h' hk => ?_)
  · intro hsz
    obtain ⟨i', m', a', t', c', y, H', Nx, ry, hm, hs0, hS1, hNx, hel, kap⟩ := hv
    have hlt1 : G.g < s₁.gens.size := by
      have e : (s₁.setGen G.g gs').gens.size = s₁.gens.size := GenW.setGen_size s₁ G.g gs'
      omega
    have set1 : (s₁.setGen G.g gs').gens[G.g]? = some gs' := by simp [Shared.setGen, hlt1]
    refine hSome (i' + 1) m' a' t' c' y H' Nx v _ ry hs0 (hS1.nap_set O hb) hNx hel fun s'' m'' a'' t'' c'' hm'' w'' nap hg'' hp'' => ?_
    have k := kap (s''.setGen G.g .running) m'' a'' t'' c'' hm'' w'' ⟨nap.os, allBare_set nap.bare rfl, nap.keep⟩ hp''
    cases n with
    | zero => exact False.elim k
    | succ n' =>
      refine ⟨n', Nat.lt_succ_self _, gs', by rw [hg'']; exact set1, ?_⟩
      have k' : gs'.Goes (model G.X.prog G.X.w) A.in1 (fun n s₀ r s₁ => r = .ok .next ∧ G.PD n s₀ s₁) G.Y n' (.send .none) (s''.setGen G.g .running) := k
      rw [hA] at k'
      exact k'
  · intro _
    obtain ⟨i', a', t', c', H', hs0, I', qq⟩ := hp
    have I2 : Inv G.XG (G.cp a' t' c') (wipe G.σ G.vs) H' (s₁.setGen G.g .finished) := I'.call' (ch := []) rfl (Un.kept fun b o e => e) I'.hok (allBare_set I'.bare rfl) fun b hb => absurd hb (by simp)
    exact hNone a' t' c' H' _ hs0 (I2.call' (s' := { s₁.setGen G.g .finished with heap := h' }) (ch := []) rfl (Un.kept hk) (I'.hok.kept hk) I2.bare fun b hb => absurd hb (by simp)) qq
/-- back in the def's context -/
theorem back (O : G.Ok) {cp : List (Addr × Obj)} {σ' : L2.St} {H : Hp} {s : Shared} (I : Inv G.XG cp σ' H s) : Inv G.X G.pins G.σ H s :=
  O.inv.call' (ch := G.fp) I.os I.base I.hok I.bare fun b hb => ⟨(O.fpok b hb).1.2.2.2.1, (O.fpok b hb).1.2.1, (O.fpok b hb).1.2.2.2.2.1, (O.fpok b hb).1.2.2.2.2.2⟩
/-- the consumer's end -/
def Rc (G : GG) : Result → Shared → Prop := fun r s => ∃ u, r = .ok (.ret u) ∧ EP G.X G.pins G.σ G.Q u s
theorem all_loop (O : G.Ok) (hk : G.k = .all) {A : Around} (hA : A.in1.in1 = G.AG) (hh : A.in1.handled = none) (hroom : A.in1.depth < recursionLimit) : ∀ (n i : Nat) (a : Int) (t : Tok) (c : Nat) (H : Hp) (s : Shared), G.SI (G.cp a t c) i H s → G.Zz n s →
    codeAny (model G.X.prog G.X.w) A (.builtin "all.loop" ⟨[.ref G.ga], []⟩) G.Rc s := by
  intro n
  induction n using Nat.strongRecOn with
  | ind n ih =>
    intro i a t c H s hSI hz
    refine codeAny_builtin F.entry_all_loop ?_
    rw [Around.under_plainId F.plain_all_loop _]
    show wpAny _ A.in1 (pyNext (.ref G.ga) >>= _) _ _ s
    refine wpAny_bind (next O hA hh hroom hSI hz (fun a' t' c' H' s' _ I' qq => ?_) (fun i' m' a' t' c' y H' Nx v s' ry _ hS' hNx hel res => ?_))
    · refine wpAny_bind (wpAny_rule (wpAny_pure ?_))
      rw [hk] at qq
      exact ⟨_, rfl, .bl true, H', back O I', rfl, qq⟩
    · rw [hk] at hel
      obtain ⟨b, rfl, hel⟩ := hel
      obtain rfl : v = Value.bool b := ry
      refine wpAny_bind (wpAny_holding (wpAny_truthy_bool ?_))
      refine wpAny_bind (wpAny_letGo ?_)
      cases b with
      | true =>
        simp only [if_true] at hel ⊢
        obtain ⟨m'', hm, w⟩ := hNx _ _ hel
        have hp0 : ∀ p ∈ G.cp a' t' c', s'.heap.get? p.1 = some p.2 := fun p hp => (hS'.1.pin p (List.mem_append_right _ hp)).1
        obtain ⟨n', hn', z'⟩ := res s' m'' a' t' c' hm w ⟨rfl, hS'.1.bare, fun b o _ e => e⟩ rfl hp0
        exact wpAny_pure ⟨plainId_quiet F.plain_all_loop _, ih n' hn' i' a' t' c' H' s' hS' z'⟩
      | false =>
        simp only [Bool.false_eq_true, if_false] at hel ⊢
        refine wpAny_bind (wpAny_rule (wpAny_pure ?_))
        exact ⟨_, rfl, .bl false, H', back O hS'.1, rfl, hel⟩
theorem any_loop (O : G.Ok) (hk : G.k = .any) {A : Around} (hA : A.in1.in1 = G.AG) (hh : A.in1.handled = none) (hroom : A.in1.depth < recursionLimit) : ∀ (n i : Nat) (a : Int) (t : Tok) (c : Nat) (H : Hp) (s : Shared), G.SI (G.cp a t c) i H s → G.Zz n s →
    codeAny (model G.X.prog G.X.w) A (.builtin "any.loop" ⟨[.ref G.ga], []⟩) G.Rc s := by
  intro n
  induction n using Nat.strongRecOn with
  | ind n ih =>
    intro i a t c H s hSI hz
    refine codeAny_builtin F.entry_any_loop ?_
    rw [Around.under_plainId F.plain_any_loop _]
    show wpAny _ A.in1 (pyNext (.ref G.ga) >>= _) _ _ s
    refine wpAny_bind (next O hA hh hroom hSI hz (fun a' t' c' H' s' _ I' qq => ?_) (fun i' m' a' t' c' y H' Nx v s' ry _ hS' hNx hel res => ?_))
    · refine wpAny_bind (wpAny_rule (wpAny_pure ?_))
      rw [hk] at qq
      exact ⟨_, rfl, .bl false, H', back O I', rfl, qq⟩
    · rw [hk] at hel
      obtain ⟨b, rfl, hel⟩ := hel
      obtain rfl : v = Value.bool b := ry
      refine wpAny_bind (wpAny_holding (wpAny_truthy_bool ?_))
      refine wpAny_bind (wpAny_letGo ?_)
      cases b with
      | false =>
        simp only [Bool.false_eq_true, if_false] at hel ⊢
        obtain ⟨m'', hm, w⟩ := hNx _ _ hel
        have hp0 : ∀ p ∈ G.cp a' t' c', s'.heap.get? p.1 = some p.2 := fun p hp => (hS'.1.pin p (List.mem_append_right _ hp)).1
        obtain ⟨n', hn', z'⟩ := res s' m'' a' t' c' hm w ⟨rfl, hS'.1.bare, fun b o _ e => e⟩ rfl hp0
        exact wpAny_pure ⟨plainId_quiet F.plain_any_loop _, ih n' hn' i' a' t' c' H' s' hS' z'⟩
      | true =>
        simp only [if_true] at hel ⊢
        refine wpAny_bind (wpAny_rule (wpAny_pure ?_))
        exact ⟨_, rfl, .bl true, H', back O hS'.1, rfl, hel⟩
theorem sum_loop (O : G.Ok) (hk : G.k = .sum) {A : Around} (hA : A.in1.in1 = G.AG) (hh : A.in1.handled = none) (hroom : A.in1.depth < recursionLimit) : ∀ (n i : Nat) (a : Int) (t : Tok) (c : Nat) (H : Hp) (s : Shared) (st : Int), (st = 0 ∨ st = 2) → G.SI (G.cp a t c) i H s → G.Zz n s →
    codeAny (model G.X.prog G.X.w) A (.builtin "sum.loop" ⟨[.ref G.ga, .ref G.S, rawInt st, rawInt 0], []⟩) G.Rc s := by
  intro n
  induction n using Nat.strongRecOn with
  | ind n ih =>
    intro i a t c H s st hst hSI hz
    have inS : ∀ (a : Int) (t : Tok) (c : Nat), (G.S, sumObj a t c) ∈ G.cp a t c := fun a t c => by unfold cp cpOf; rw [hk]; exact List.mem_singleton.mpr rfl
    have cpS : ∀ {a : Int} {t : Tok} {c : Nat} {p : Addr × Obj}, p ∈ G.cp a t c → p = (G.S, sumObj a t c) := fun {a t c p} h => by unfold cp cpOf at h; rw [hk] at h; exact List.mem_singleton.mp h
    have hS : s.heap.get? G.S = some (sumObj a t c) := (hSI.1.pin _ (List.mem_append_right _ (inS a t c))).1
    refine codeAny_builtin F.entry_sum_loop ?_
    rw [Around.under_plainId F.plain_sum_loop _]
    show wpAny _ A.in1 (seqItems? (.ref G.S) >>= _) _ _ s
    refine wpAny_bind (wpAny_seqItems hS rfl ?_)
    show wpAny _ A.in1 (tryCatch (pyNext (.ref G.ga)) _ >>= _) _ _ s
    refine wpAny_bind (wpAny_tryCatch (next O hA hh hroom hSI hz (fun a' t' c' H' s' hp I' qq => ?_) (fun i' m' a' t' c' y H' Nx v s' ry hp hS' hNx hel res => ?_)))
    · have e := hp _ (inS a' t' c')
      rw [hS] at e
      obtain ⟨rfl, rfl, rfl⟩ : a = a' ∧ t = t' ∧ c = c' := by
        have e2 := congrArg Obj.data (Option.some.inj e)
        simp only [Data.seq.injEq] at e2
        obtain ⟨e3, e4⟩ := e2
        simp at e3
        exact ⟨e3.1, e3.2, e4⟩
      rw [hk] at qq
      exact wpAny_pure ⟨_, rfl, .int a, H', back O I', ⟨_, rfl⟩, qq⟩
    · have e := hp _ (inS a' t' c')
      rw [hS] at e
      obtain ⟨rfl, rfl, rfl⟩ : a = a' ∧ t = t' ∧ c = c' := by
        have e2 := congrArg Obj.data (Option.some.inj e)
        simp only [Data.seq.injEq] at e2
        obtain ⟨e3, e4⟩ := e2
        simp at e3
        exact ⟨e3.1, e3.2, e4⟩
      rw [hk] at hel
      obtain ⟨x, rfl, hel⟩ := hel
      obtain ⟨tx, rfl⟩ := ry
      obtain ⟨m'', hm, w⟩ := hNx _ _ hel
      have hS1 : s'.heap.get? G.S = some (sumObj a t c) := (hS'.1.pin _ (List.mem_append_right _ (inS a t c))).1
      have noS := hS'.noS hk
      have go : ∀ (s'' : Shared) (t2 : Tok) (c2 : Nat) (st : Int), (st = 0 ∨ st = 2) → s''.os = s'.os → s''.gens = s'.gens → (∀ b o, b ≠ G.S → s'.heap.get? b = some o → s''.heap.get? b = some o) → s''.heap.get? G.S = some (sumObj (a + x) t2 c2) →
          codeAny (model G.X.prog G.X.w) A (.builtin "sum.loop" ⟨[.ref G.ga, .ref G.S, rawInt st, rawInt 0], []⟩) G.Rc s'' := fun s'' t2 c2 st hst ho hg kp hS2 => by
        have nap : Nap G.k G.S s' s'' := ⟨ho, by rw [hg]; exact hS'.1.bare, fun b o hb e => kp b o (hb hk) e⟩
        have hp2 : ∀ p ∈ G.cp (a + x) t2 c2, s''.heap.get? p.1 = some p.2 := fun p hp => by rw [cpS hp]; exact hS2
        obtain ⟨n', hn', z'⟩ := res s'' m'' (a + x) t2 c2 hm w nap hg hp2
        exact ih n' hn' i' (a + x) t2 c2 H' s'' st hst (nap_ok O hS' nap hp2 fun _ => noS) z'
      rcases hst with rfl | rfl
      · show wpAny _ A.in1 (if (_ : Bool) = true then (mkInt (a + x) >>= _) else _) _ _ _
        split
        · refine wpAny_bind (wpAny_mkInt ?_)
          show wpAny _ A.in1 (updateSeq G.S (fun _ => #[.int (a + x) s'.toks]) >>= _) _ _ _
          refine wpAny_bind ?_
          refine wpAny_updateSeq hS1 rfl (wpAny_pure ⟨plainId_quiet F.plain_sum_loop _, go _ s'.toks _ 0 (.inl rfl) rfl rfl (fun b o hb e => ?_) (Heap.get?_update_self _ hS1 rfl)⟩)
          exact (Heap.get?_update_other _ _ (fun h : G.S = b => hb h.symm)).trans e
        · refine wpAny_bind (wpAny_rule ?_)
          refine wpAny_bind (wpAny_attempt (wpAny_holding (wpAny_add_int ?_)))
          show wpAny _ A.in1 (updateSeq G.S (fun _ => #[.int (a + x) s'.toks]) >>= _) _ _ _
          refine wpAny_bind (wpAny_updateSeq hS1 rfl ?_)
          have hS₂ := Heap.get?_update_self (Obj.mapSeq fun _ => #[Value.int (a + x) s'.toks]) hS1 rfl
          refine wpAny_bind (wpAny_letGo ?_)
          refine wpAny_bind (wpAny_updateSeq hS₂ rfl (wpAny_pure ⟨plainId_quiet F.plain_sum_loop _, go _ s'.toks _ 2 (.inr rfl) rfl rfl (fun b o hb e => ?_) (Heap.get?_update_self _ hS₂ rfl)⟩))
          exact (Heap.get?_update_other _ _ (fun h : G.S = b => hb h.symm)).trans ((Heap.get?_update_other _ _ (fun h : G.S = b => hb h.symm)).trans e)
      · show wpAny _ A.in1 ((holding [Value.int x tx] (binaryOp .Add (.int a t) (.int x tx))).attempt >>= _) _ _ _
        refine wpAny_bind (wpAny_attempt (wpAny_holding (wpAny_add_int ?_)))
        show wpAny _ A.in1 (updateSeq G.S (fun _ => #[.int (a + x) s'.toks]) >>= _) _ _ _
        refine wpAny_bind (wpAny_updateSeq hS1 rfl ?_)
        have hS₂ := Heap.get?_update_self (Obj.mapSeq fun _ => #[Value.int (a + x) s'.toks]) hS1 rfl
        refine wpAny_bind (wpAny_letGo ?_)
        refine wpAny_bind (wpAny_updateSeq hS₂ rfl (wpAny_pure ⟨plainId_quiet F.plain_sum_loop _, go _ s'.toks _ 2 (.inr rfl) rfl rfl (fun b o hb e => ?_) (Heap.get?_update_self _ hS₂ rfl)⟩))
        exact (Heap.get?_update_other _ _ (fun h : G.S = b => hb h.symm)).trans ((Heap.get?_update_other _ _ (fun h : G.S = b => hb h.symm)).trans e)
/-- it has been made and not begun -/
def Fresh (G : GG) (s : Shared) : Prop := s.gens[G.g]? = some (.fresh (.compStart (.GeneratorExp G.elt [⟨G.tg, G.iter, G.ifs, 0⟩] G.scope G.gpos) 0 (.ref G.it) .none G.cenv))
theorem zz_fresh (O : G.Ok) {m i : Nat} {a : Int} {t : Tok} {c : Nat} {H : Hp} {s : Shared} (hg : G.Fresh s) (hSI : G.SI (G.cp a t c) i H s) (w : G.W i m a H) : G.Zz (m + 1) s :=
  ⟨_, hg, rfl, seg_start O (Nat.lt_succ_self m) w (hSI.nap_set O rfl) fun p hp => (hSI.1.pin p (List.mem_append_right _ hp)).1⟩
theorem call_all (O : G.Ok) (hk : G.k = .all) {A : Around} (hA : A.in1.in1 = G.AG) (hh : A.handled = none) (hroom : A.depth < recursionLimit) {m : Nat} {H : Hp} {s : Shared} {E : Value → Shared → Prop} (hg : G.Fresh s) (hSI : G.SI [] 0 H s) (w : G.W 0 m 0 H) :
    wpAny (model G.X.prog G.X.w) A (PySem.call (.builtin "all") [.ref G.ga]) (EP G.X G.pins G.σ G.Q) E s := by
  have ec : G.cp 0 0 0 = [] := by unfold cp cpOf; rw [hk]
  have hSI' : G.SI (G.cp 0 0 0) 0 H s := by rw [ec]; exact hSI
  refine call_function_tree F.kind_all F.plain_all F.entry_all (F.args_all1 _) ?_
  unfold Builtin.«all»
  refine wpAny_bind (m := oneArg "all" _) (wpAny_pure ?_)
  refine wpAny_bind (wpAny_pyIter_gen (hSI.isGen O) ?_)
  refine wpAny_pure ⟨plainId_quiet F.plain_all_loop _, codeAny_mono (all_loop O hk hA hh hroom (m + 1) 0 0 0 0 H s hSI' (zz_fresh O hg hSI' w)) fun r s' h => ?_⟩
  obtain ⟨u, rfl, q⟩ := h
  exact q
theorem call_any (O : G.Ok) (hk : G.k = .any) {A : Around} (hA : A.in1.in1 = G.AG) (hh : A.handled = none) (hroom : A.depth < recursionLimit) {m : Nat} {H : Hp} {s : Shared} {E : Value → Shared → Prop} (hg : G.Fresh s) (hSI : G.SI [] 0 H s) (w : G.W 0 m 0 H) :
    wpAny (model G.X.prog G.X.w) A (PySem.call (.builtin "any") [.ref G.ga]) (EP G.X G.pins G.σ G.Q) E s := by
  have ec : G.cp 0 0 0 = [] := by unfold cp cpOf; rw [hk]
  have hSI' : G.SI (G.cp 0 0 0) 0 H s := by rw [ec]; exact hSI
  refine call_function_tree F.kind_any F.plain_any F.entry_any (F.args_any1 _) ?_
  unfold Builtin.«any»
  refine wpAny_bind (m := oneArg "any" _) (wpAny_pure ?_)
  refine wpAny_bind (wpAny_pyIter_gen (hSI.isGen O) ?_)
  refine wpAny_pure ⟨plainId_quiet F.plain_any_loop _, codeAny_mono (any_loop O hk hA hh hroom (m + 1) 0 0 0 0 H s hSI' (zz_fresh O hg hSI' w)) fun r s' h => ?_⟩
  obtain ⟨u, rfl, q⟩ := h
  exact q
theorem call_sum (O : G.Ok) (hk : G.k = .sum) {A : Around} (hA : A.in1.in1 = G.AG) (hh : A.handled = none) (hroom : A.depth < recursionLimit) {m : Nat} {H : Hp} {s : Shared} {E : Value → Shared → Prop} (hg : G.Fresh s) (hSI : G.SI [] 0 H s) (w : G.W 0 m 0 H) (hS : G.S = s.heap.objs.size) :
    wpAny (model G.X.prog G.X.w) A (PySem.call (.builtin "sum") [.ref G.ga]) (EP G.X G.pins G.σ G.Q) E s := by
  refine call_function_tree F.kind_sum F.plain_sum F.entry_sum (F.args_sum1 _) ?_
  unfold Builtin.«sum»
  simp only [List.length_cons, List.length_nil]
  rw [if_neg (by decide)]
  refine wpAny_bind (wpAny_of_eq (show Builtin.Builtins.bindParams "sum" ["start"] 0 { } = pure [none] from rfl) ?_)
  refine wpAny_bind (wpAny_pyIter_gen (hSI.isGen O) ?_)
  refine wpAny_bind (wpAny_mkInt ?_)
  refine wpAny_bind (wpAny_pure ?_)
  simp only [List.forIn_cons, List.forIn_nil]
  refine wpAny_bind (wpAny_bind (wpAny_bind (wpAny_isInstance (T := "int") (b := false) (typeIs_int _ _ _) PySem.sub_int_str ?_)))
  simp only [Bool.false_eq_true, if_false]
  refine wpAny_pure (wpAny_bind (wpAny_bind (wpAny_isInstance (T := "int") (b := false) (typeIs_int _ _ _) PySem.sub_int_bytes ?_)))
  simp only [Bool.false_eq_true, if_false]
  refine wpAny_pure (wpAny_bind (wpAny_bind (wpAny_isInstance (T := "int") (b := false) (typeIs_int _ _ _) PySem.sub_int_bytearray ?_)))
  simp only [Bool.false_eq_true, if_false]
  refine wpAny_pure (wpAny_pure ?_)
  refine wpAny_bind (wpAny_newObj_type ?_)
  have key : ∀ s' : Shared, s'.os = s.os → s'.gens = s.gens → (∀ b o, s.heap.get? b = some o → s'.heap.get? b = some o) → s'.heap.get? s.heap.objs.size = some (sumObj 0 s.toks 0) →
      codeAny (model G.X.prog G.X.w) A (.builtin "sum.loop" ⟨[.ref G.ga, .ref s.heap.objs.size, rawInt 0, rawInt 0], []⟩) G.Rc s' := fun s' ho hg' kp hS2 => by
    obtain ⟨I, st, hn⟩ := hSI
    have I2 : Inv G.XG [] (wipe G.σ G.vs) H s' := I.call' (ch := []) ho (Un.kept kp) (I.hok.kept kp) (by rw [hg']; exact I.bare) fun b hb => absurd hb (by simp)
    have hSI' : G.SI (G.cp 0 s.toks 0) 0 H s' := by
      refine ⟨I2.pins_of fun p hp => ?_, O.turn.keep _ _ _ st fun b hb o e => kp b o e, hn⟩
      have e : p = (G.S, sumObj 0 s.toks 0) := by unfold cp cpOf at hp; rw [hk] at hp; exact List.mem_singleton.mp hp
      subst e
      refine ⟨by rw [hS]; exact hS2, I.hok.fresh (by rw [hS]; exact Nat.le_refl _), ?_, fun z => ?_, fun v e => by cases e⟩
      · show G.S ≠ G.cenv.locals
        rw [O.eL]; exact Nat.ne_of_gt (Nat.lt_trans O.gaL O.gaS)
      · have young : G.s4.heap.objs.size ≤ G.S := Nat.le_of_lt (Nat.lt_trans O.gaL O.gaS)
        rcases List.mem_cons.mp (O.inv.stkSub _ z) with y | y
        · have := O.inv.lt
          rw [← y] at this
          exact absurd (Nat.lt_of_lt_of_le this young) (Nat.lt_irrefl _)
        · exact O.inv.nofs young y
    have := sum_loop O hk hA hh hroom (m + 1) 0 0 s.toks 0 H s' 0 (.inl rfl) hSI' (zz_fresh O (by unfold Fresh; rw [hg']; exact hg) hSI' w)
    rw [hS] at this
    exact this
  refine wpAny_pure ⟨plainId_quiet F.plain_sum_loop _, codeAny_mono (key _ rfl rfl (fun b o e => Heap.get?_push_of_some _ e) (Heap.get?_push_size _ rfl)) fun r s' h => ?_⟩
  obtain ⟨u, rfl, q⟩ := h
  exact q
end GG

/-! ### the making -/
/-- a wish at a value (so that it can be read off) -/
def ap2 (Q : VK) (v : V) (H : Hp) : Prop := Q v H
/-- the reading: the table may grow, then a walk; W: the turn, a measure, sum's sum so far -/
def tGen (k : CK) (P : Addr) (wi : TI) (g : TG) (tt : TT) (te : TE) (vs : List Nat) : TE := fun σ H Q => wi σ H fun J H1 => TabG H1 P ∧ ∀ H2, Tabbed P H1 H2 → ∃ W : Nat → Nat → Int → Hp → Prop, (∃ m, W 0 m 0 H2) ∧ ∀ i m a H, W i m a H →
  (J.stop i H ∧ ap2 Q (tFin k a) H) ∨ (J.go i H ∧ ∃ Nx : Int → Hp → Prop, (∀ a' H', Nx a' H' → ∃ m', m' < m ∧ W (i + 1) m' a' H') ∧ ∀ x H', J.yld i H x H' →
    g x (wipe σ vs) H' fun σ2 H2 => wipe σ2 vs = wipe σ vs ∧ tt σ2 H2 fun b H3 => if b = true then te σ2 H3 fun y H4 => tEl k a y Nx Q H4 else Nx a H3)
theorem roomG {j : Nat} {A : Around} {env : Env} (h : Room (j + 1) A) : Room j (A.in1.in1.deeper env) :=
  ⟨h.hd, by have := h.dp; show A.depth + 1 + 3 * j + 5 < _; omega, by have := h.un; show A.units + 1 + 1 + 3 + 16 * j + 200 < _; omega⟩
section
variable {X : Cx} {pins : List (Addr × Obj)} {σ : L2.St} {H : Hp} {s : Shared}
theorem gen_made {j : Nat} {c P : Addr} {elt tg iter : Expr} {ifs : List Expr} {scope : Scope} {own : List (Str × Nat)} {gpos : Pos} {wi : TI} {g : TG} {tt : TT} {te : TE} {k : CK} {Q : VK} {Q' : Value → Shared → Prop}
    (hr : Room (j + 1) X.A) (hc : X.calm = true) (hN : X.N.Nodup) (TB : TabB X.base X.mg c P) (hcode : X.env.code = .ref c) (ok : BlkOk X.N X.env.scope scope own) (hco : scope.isCoroutine = false) (hdot : scope.names.lookup (".0" : Str) = some NameKind.local) (hnc : ∀ y ∈ scope.names, y.2 ≠ .cell)
    (hi : PI X tg iter wi)
    (hg : ∀ (s : Shared) (H : Hp) (C : Addr) (cl : List (Str × Addr)) (cv : Value) (bi : Addr) (A : Around) (fp : List Addr) (pn : List (Addr × Obj)), Room j A → PG (cxGen X s H (genEnv scope cl C cv bi X.env) A fp pn) tg g)
    (ht : ∀ (s : Shared) (H : Hp) (C : Addr) (cl : List (Str × Addr)) (cv : Value) (bi : Addr) (A : Around) (fp : List Addr) (pn : List (Addr × Obj)), Room j A → PTs (cxGen X s H (genEnv scope cl C cv bi X.env) A fp pn) ifs tt)
    (he : ∀ (s : Shared) (H : Hp) (C : Addr) (cl : List (Str × Addr)) (cv : Value) (bi : Addr) (A : Around) (fp : List Addr) (pn : List (Addr × Obj)), Room j A → PE (cxGen X s H (genEnv scope cl C cv bi X.env) A fp pn) elt te)
    (hs : ∀ v, genFold iter X.env v = pure v) (I : Inv X pins σ H s) (h : tGen k P wi g tt te (own.map (·.2)) σ H Q)
    (hQ : ∀ (G : GG) (s5 : Shared) (m : Nat) (H5 : Hp), G.X = X → G.pins = pins → G.σ = σ → G.Q = Q → G.k = k → G.AG = X.A.in1.in1 → G.Ok → G.SI [] 0 H5 s5 → G.Fresh s5 → G.W 0 m 0 H5 → G.S = s5.heap.objs.size → Q' (.ref G.ga) s5) :
    wpAny (model X.prog X.w) X.A (eval (.GeneratorExp elt [⟨tg, iter, ifs, 0⟩] scope gpos) X.env) Q' X.xe s := by
  have hfree : ∀ y ∈ scope.names, y.2 = .free → ∃ c, X.env.cells.lookup y.1 = some c := fun y hy e => by
    rcases ok.free y hy e with k | k
    · exact I.ok.has _ (.inl k)
    · exact I.ok.has _ (.inr k)
  refine wpAny_GeneratorExp_make hco (closure_ok hfree) hnc hdot ok.kind hr.depth
    (thn (hi.run pins s σ H _ I h) fun xv s1 hx => thn hx fun itv s2 h2 => ?_) hs
  obtain ⟨it, fp, tn, J, H2, rfl, I2, T, st2, f2, ⟨ps, hP, htr⟩, turns⟩ := h2
  refine ⟨I2.nolimit, ?_⟩
  have hPs : s2.heap.get? P = some { cls := .none, data := .fields ps } := I2.hok P _ hP
  have cd : PySem.W.CodeHd s2.heap c P := TB.code.keeps fun b u e => I2.bk b u e
  have fP : ∀ b ∈ fp, b ≠ P := fun b hb z => by
    have := (f2 b hb).1
    rw [z, hP] at this
    cases this
  have sz : ∀ b ∈ fp, b < s2.heap.objs.size := fun b hb => by
    obtain ⟨o, e, _⟩ := T.obj _ _ st2 b hb
    exact Heap.lt_size e
  have cont : ∀ (cv : Value) (h3 : Heap) (tk : Nat) (more : Array Value), Heap.ExtBut P s2.heap h3 → s2.heap.objs.size ≤ h3.objs.size → h3.get? P = some { cls := .none, data := .fields (ps ++ more) } → TriplesOk (ps ++ more).toList →
      wpAny (model X.prog X.w) X.A (builtinsFor X.env.globals X.env.builtins) (fun bi s₄ =>
        ∀ h', h'.Ns s₄.heap.objs.size (fun y => if y = ".0" then some (Value.ref it) else none) → Heap.SameBut s₄.heap.objs.size (s₄.heap.push { cls := .type "frame", data := .dict #[] }) h' →
          Q' (.ref h'.objs.size) { s₄ with
            gens := s₄.gens.push (.fresh (.compStart (.GeneratorExp elt [⟨tg, iter, ifs, 0⟩] scope gpos) 0 (.ref it) .none (genEnv scope (cloFrom X.env.cells scope.names []) s₄.heap.objs.size cv bi X.env))),
            toks := s₄.toks + 1 + 1 + 1,
            heap := h'.push { cls := .type "generator", data := .fields #[.int s₄.gens.size 0, .str "<genexpr>" (s₄.toks + 1), .str (X.env.qual ++ "<genexpr>") (s₄.toks + 1 + 1)] } }) X.xe { s2 with heap := h3, toks := tk } := by
    intro cv h3 tk more hx hsz hP3 ht3
    obtain ⟨bm, ob, e1, e2, e3, e4, e5, e6, e7, e8⟩ := TB.bm
    have J3 := inv_tab (more := more) (h' := h3) (g' := s2.gens) (d' := s2.drawn) (t' := tk) I2 hP hx hP3 I2.bare
    have T3 : Tabbed P H2 (upd H2 P (.tbl (ps ++ more))) := ⟨⟨_, upd_same, ht3⟩, fun b hb => upd_ne hb⟩
    obtain ⟨W, ⟨m0, w0⟩, turn⟩ := turns _ T3
    generalize upd H2 P (.tbl (ps ++ more)) = H4 at J3 T3 w0
    have J4 : Inv X pins σ H4 ({ s2 with heap := h3, toks := tk } : Shared) := J3
    have f4 : ∀ b ∈ fp, FpOk X pins H4 b ∧ b < h3.objs.size := fun b hb => ⟨⟨by rw [T3.2 b (fP b hb)]; exact (f2 b hb).1, (f2 b hb).2⟩, Nat.lt_of_lt_of_le (sz b hb) hsz⟩
    have st4 : tn 0 h3 := T.keep _ _ _ st2 fun b hb o e => hx b o (fP b hb) e
    clear J3
    generalize hs4 : ({ s2 with heap := h3, toks := tk } : Shared) = s4 at J4 ⊢
    have h4 : s4.heap = h3 := by rw [← hs4]
    rw [← h4] at f4 st4
    refine wpAny_builtinsFor (m := X.mg) (by rw [J4.ok.glob]; exact J4.mod.glob.keeps J4.bk) e1 e2 (J4.bk _ _ e5) e6 e7 e8 ?_
    intro h' hn' hs'
    have hsz' : h'.objs.size = s4.heap.objs.size + 1 := by rw [hs'.1, Heap.size_push]
    have keep' : ∀ b o, s4.heap.get? b = some o → h'.get? b = some o := fun b o e => hs'.extBut b o (Nat.ne_of_lt (Heap.lt_size e)) (Heap.get?_push_of_some _ e)
    have cm : ∀ {y c}, (y, c) ∈ cloFrom X.env.cells scope.names [] → c < s4.heap.objs.size := fun {y c} hm => by
      rcases cloFrom_mem hm with hm | ⟨h1, rfl⟩
      · cases hm
      · obtain ⟨c, hc⟩ := hfree _ h1 rfl
        rw [hc]
        obtain ⟨w, z⟩ := J4.cell _ _ hc
        exact z.lt
    have hroom : Room j (X.A.in1.in1.deeper (genEnv scope (cloFrom X.env.cells scope.names []) s4.heap.objs.size cv builtinsNs X.env)) := roomG hr
    have O : GG.Ok { X := X, pins := pins, σ := σ, s4 := s4, H4 := H4, cenv := genEnv scope (cloFrom X.env.cells scope.names []) s4.heap.objs.size cv builtinsNs X.env, AG := X.A.in1.in1, fp := fp, it := it, tn := tn, J := J, ga := h'.objs.size, go := { cls := .type "generator", data := .fields #[.int s4.gens.size 0, .str "<genexpr>" (s4.toks + 1), .str (X.env.qual ++ "<genexpr>") (s4.toks + 1 + 1)] }, g := s4.gens.size, S := h'.objs.size + 1, elt := elt, tg := tg, iter := iter, ifs := ifs, scope := scope, gpos := gpos, vs := own.map (·.2), gt := g, tt := tt, te := te, k := k, W := W, Q := Q } :=
      { inv := J4, calm := hc, turn := T, fpok := f4, pg := hg _ _ _ _ _ _ _ _ _ hroom, pt := ht _ _ _ _ _ _ _ _ _ hroom, pe := he _ _ _ _ _ _ _ _ _ hroom, co := hco, eL := rfl, ecl := fun y c e => cm (PySem.mem_of_lookup e), gaL := by show s4.heap.objs.size < h'.objs.size; rw [hsz']; exact Nat.lt_succ_self _, gaS := Nat.lt_succ_self _, goc := rfl, god := ⟨_, _, rfl⟩, gos := rfl, hd := hr.hd, room := by show X.A.depth < _; exact hr.depth, turns := turn }
    refine hQ _ _ m0 H4 rfl rfl rfl rfl rfl rfl O ⟨?_, ?_, fun b hb => (f4 b hb).1.1⟩ (Array.getElem?_push_size ..) w0 (by show h'.objs.size + 1 = (h'.push _).objs.size; rw [Heap.size_push])
    · refine gen_start J4 ok hN hnc f4 rfl rfl rfl J4.ok.glob rfl rfl (Around.frames_deeper J4.ok.frames) hr.hd rfl (AllBare.push J4.bare rfl) (fun b o e => Heap.get?_push_of_some _ (keep' b o e)) ⟨_, hn'.push _⟩ fun p hp => ?_
      rw [List.mem_singleton.mp hp]
      exact ⟨Heap.get?_push_size _ rfl, by show s4.heap.objs.size < h'.objs.size; rw [hsz']; exact Nat.lt_succ_self _, fun v e => by cases e⟩
    · exact T.keep _ _ _ st4 fun b _ o e => Heap.get?_push_of_some _ (keep' b o e)
  cases hf : codeAmong gpos ps.toList with
  | none =>
    refine wpAny_genexprCodeX hcode (cd.code hPs htr) (cd.tab hPs) hf fun c' h' tk hx hge hlt hco' _ htab' _ => ?_
    obtain ⟨o1, vs, f1, tf, fl, tg, inF, tx, tt, op, _, _, _, _, _, _, _, _, _, htr', _⟩ := hco'
    exact cont _ h' tk _ hx (Nat.le_trans hge (Nat.le_of_lt hlt)) htab'.2 htr'
  | some cv =>
    refine wpAny_genexprCode_hit hcode (cd.code hPs htr) hf ?_
    have e0 : ps ++ #[] = ps := by simp
    exact cont cv s2.heap s2.toks #[] (Heap.ExtBut.refl _ _) (Nat.le_refl _) (by rw [e0]; exact hPs) (by rw [e0]; exact htr)
theorem pe_all {j : Nat} {c P : Addr} {elt tg iter : Expr} {ifs : List Expr} {scope : Scope} {own : List (Str × Nat)} {gpos p pos : Pos} {wi : TI} {g : TG} {tt : TT} {te : TE}
    (hr : Room (j + 1) X.A) (hc : X.calm = true) (hN : X.N.Nodup) (hgl : Gl X "all") (hm : X.mg "all" = none) (hb : bootBuiltins "all" = some (.builtin "all")) (TB : TabB X.base X.mg c P) (hcode : X.env.code = .ref c) (ok : BlkOk X.N X.env.scope scope own)
    (hco : scope.isCoroutine = false) (hdot : scope.names.lookup (".0" : Str) = some NameKind.local) (hnc : ∀ y ∈ scope.names, y.2 ≠ .cell) (hi : PI X tg iter wi)
    (hg : ∀ (s : Shared) (H : Hp) (C : Addr) (cl : List (Str × Addr)) (cv : Value) (bi : Addr) (A : Around) (fp : List Addr) (pn : List (Addr × Obj)), Room j A → PG (cxGen X s H (genEnv scope cl C cv bi X.env) A fp pn) tg g)
    (ht : ∀ (s : Shared) (H : Hp) (C : Addr) (cl : List (Str × Addr)) (cv : Value) (bi : Addr) (A : Around) (fp : List Addr) (pn : List (Addr × Obj)), Room j A → PTs (cxGen X s H (genEnv scope cl C cv bi X.env) A fp pn) ifs tt)
    (he : ∀ (s : Shared) (H : Hp) (C : Addr) (cl : List (Str × Addr)) (cv : Value) (bi : Addr) (A : Around) (fp : List Addr) (pn : List (Addr × Obj)), Room j A → PE (cxGen X s H (genEnv scope cl C cv bi X.env) A fp pn) elt te)
    (hs : ∀ v, genFold iter X.env v = pure v := by intro _; rfl)
    (hst : starEach [.GeneratorExp elt [⟨tg, iter, ifs, 0⟩] scope gpos] X.env = (false, eval (.GeneratorExp elt [⟨tg, iter, ifs, 0⟩] scope gpos) X.env) :: starEach [] X.env := by rfl) :
    PE X (.Call (.Name "all" p) [.GeneratorExp elt [⟨tg, iter, ifs, 0⟩] scope gpos] [] pos) (tGen .all P wi g tt te (own.map (·.2))) := by
  refine ⟨fun pins s σ H Q I h => ?_⟩
  refine wpAny_Call_Name_kw (ld_blt I hgl hm hb ?_)
  refine PyProof.Rows.callWith_builtin1 ?_ hst (by rfl)
  rw [hst]
  show wpAny _ _ (spliced ((false, eval (.GeneratorExp elt [⟨tg, iter, ifs, 0⟩] scope gpos) X.env) :: backTo pos (starEach [] X.env))) _ _ s
  refine Calls.spliced_cons (gen_made hr hc hN TB hcode ok hco hdot hnc hi hg ht he hs I h fun G s5 m H5 e1 e2 e3 e4 e5 e6 O hSI hF w hS => ?_)
  refine Calls.spliced_nil ?_
  subst e1 e2 e3 e4
  exact GG.call_all O e5 e6.symm hr.hd hr.depth hF hSI w
theorem pe_any {j : Nat} {c P : Addr} {elt tg iter : Expr} {ifs : List Expr} {scope : Scope} {own : List (Str × Nat)} {gpos p pos : Pos} {wi : TI} {g : TG} {tt : TT} {te : TE}
    (hr : Room (j + 1) X.A) (hc : X.calm = true) (hN : X.N.Nodup) (hgl : Gl X "any") (hm : X.mg "any" = none) (hb : bootBuiltins "any" = some (.builtin "any")) (TB : TabB X.base X.mg c P) (hcode : X.env.code = .ref c) (ok : BlkOk X.N X.env.scope scope own)
    (hco : scope.isCoroutine = false) (hdot : scope.names.lookup (".0" : Str) = some NameKind.local) (hnc : ∀ y ∈ scope.names, y.2 ≠ .cell) (hi : PI X tg iter wi)
    (hg : ∀ (s : Shared) (H : Hp) (C : Addr) (cl : List (Str × Addr)) (cv : Value) (bi : Addr) (A : Around) (fp : List Addr) (pn : List (Addr × Obj)), Room j A → PG (cxGen X s H (genEnv scope cl C cv bi X.env) A fp pn) tg g)
    (ht : ∀ (s : Shared) (H : Hp) (C : Addr) (cl : List (Str × Addr)) (cv : Value) (bi : Addr) (A : Around) (fp : List Addr) (pn : List (Addr × Obj)), Room j A → PTs (cxGen X s H (genEnv scope cl C cv bi X.env) A fp pn) ifs tt)
    (he : ∀ (s : Shared) (H : Hp) (C : Addr) (cl : List (Str × Addr)) (cv : Value) (bi : Addr) (A : Around) (fp : List Addr) (pn : List (Addr × Obj)), Room j A → PE (cxGen X s H (genEnv scope cl C cv bi X.env) A fp pn) elt te)
    (hs : ∀ v, genFold iter X.env v = pure v := by intro _; rfl)
    (hst : starEach [.GeneratorExp elt [⟨tg, iter, ifs, 0⟩] scope gpos] X.env = (false, eval (.GeneratorExp elt [⟨tg, iter, ifs, 0⟩] scope gpos) X.env) :: starEach [] X.env := by rfl) :
    PE X (.Call (.Name "any" p) [.GeneratorExp elt [⟨tg, iter, ifs, 0⟩] scope gpos] [] pos) (tGen .any P wi g tt te (own.map (·.2))) := by
  refine ⟨fun pins s σ H Q I h => ?_⟩
  refine wpAny_Call_Name_kw (ld_blt I hgl hm hb ?_)
  refine PyProof.Rows.callWith_builtin1 ?_ hst (by rfl)
  rw [hst]
  show wpAny _ _ (spliced ((false, eval (.GeneratorExp elt [⟨tg, iter, ifs, 0⟩] scope gpos) X.env) :: backTo pos (starEach [] X.env))) _ _ s
  refine Calls.spliced_cons (gen_made hr hc hN TB hcode ok hco hdot hnc hi hg ht he hs I h fun G s5 m H5 e1 e2 e3 e4 e5 e6 O hSI hF w hS => ?_)
  refine Calls.spliced_nil ?_
  subst e1 e2 e3 e4
  exact GG.call_any O e5 e6.symm hr.hd hr.depth hF hSI w
theorem pe_sum {j : Nat} {c P : Addr} {elt tg iter : Expr} {ifs : List Expr} {scope : Scope} {own : List (Str × Nat)} {gpos p pos : Pos} {wi : TI} {g : TG} {tt : TT} {te : TE}
    (hr : Room (j + 1) X.A) (hc : X.calm = true) (hN : X.N.Nodup) (hgl : Gl X "sum") (hm : X.mg "sum" = none) (hb : bootBuiltins "sum" = some (.builtin "sum")) (TB : TabB X.base X.mg c P) (hcode : X.env.code = .ref c) (ok : BlkOk X.N X.env.scope scope own)
    (hco : scope.isCoroutine = false) (hdot : scope.names.lookup (".0" : Str) = some NameKind.local) (hnc : ∀ y ∈ scope.names, y.2 ≠ .cell) (hi : PI X tg iter wi)
    (hg : ∀ (s : Shared) (H : Hp) (C : Addr) (cl : List (Str × Addr)) (cv : Value) (bi : Addr) (A : Around) (fp : List Addr) (pn : List (Addr × Obj)), Room j A → PG (cxGen X s H (genEnv scope cl C cv bi X.env) A fp pn) tg g)
    (ht : ∀ (s : Shared) (H : Hp) (C : Addr) (cl : List (Str × Addr)) (cv : Value) (bi : Addr) (A : Around) (fp : List Addr) (pn : List (Addr × Obj)), Room j A → PTs (cxGen X s H (genEnv scope cl C cv bi X.env) A fp pn) ifs tt)
    (he : ∀ (s : Shared) (H : Hp) (C : Addr) (cl : List (Str × Addr)) (cv : Value) (bi : Addr) (A : Around) (fp : List Addr) (pn : List (Addr × Obj)), Room j A → PE (cxGen X s H (genEnv scope cl C cv bi X.env) A fp pn) elt te)
    (hs : ∀ v, genFold iter X.env v = pure v := by intro _; rfl)
    (hst : starEach [.GeneratorExp elt [⟨tg, iter, ifs, 0⟩] scope gpos] X.env = (false, eval (.GeneratorExp elt [⟨tg, iter, ifs, 0⟩] scope gpos) X.env) :: starEach [] X.env := by rfl) :
    PE X (.Call (.Name "sum" p) [.GeneratorExp elt [⟨tg, iter, ifs, 0⟩] scope gpos] [] pos) (tGen .sum P wi g tt te (own.map (·.2))) := by
  refine ⟨fun pins s σ H Q I h => ?_⟩
  refine wpAny_Call_Name_kw (ld_blt I hgl hm hb ?_)
  refine PyProof.Rows.callWith_builtin1 ?_ hst (by rfl)
  rw [hst]
  show wpAny _ _ (spliced ((false, eval (.GeneratorExp elt [⟨tg, iter, ifs, 0⟩] scope gpos) X.env) :: backTo pos (starEach [] X.env))) _ _ s
  refine Calls.spliced_cons (gen_made hr hc hN TB hcode ok hco hdot hnc hi hg ht he hs I h fun G s5 m H5 e1 e2 e3 e4 e5 e6 O hSI hF w hS => ?_)
  refine Calls.spliced_nil ?_
  subst e1 e2 e3 e4
  exact GG.call_sum O e5 e6.symm hr.hd hr.depth hF hSI w hS
end
/-! ### the forms one uses -/
theorem gen_range {k : CK} {lo : Int} {n : Nat} {g : TG} {tt : TT} {te : TE} {vs : List Nat} {σ : L2.St} {H1 : Hp} {Q : VK} (Pv : Nat → Int → Hp → Prop) (h0 : Pv 0 0 H1)
    (hs : ∀ i a H, i < n → Pv i a H → g (.int (lo + i)) (wipe σ vs) H fun σ2 H2 => wipe σ2 vs = wipe σ vs ∧ tt σ2 H2 fun b H3 => if b = true then te σ2 H3 fun y H4 => tEl k a y (Pv (i + 1)) Q H4 else Pv (i + 1) a H3)
    (hd : ∀ a H, Pv n a H → Q (tFin k a) H) :
    ∃ W : Nat → Nat → Int → Hp → Prop, (∃ m, W 0 m 0 H1) ∧ ∀ i m a H, W i m a H →
      ((Itr lo n).stop i H ∧ ap2 Q (tFin k a) H) ∨ ((Itr lo n).go i H ∧ ∃ Nx : Int → Hp → Prop, (∀ a' H', Nx a' H' → ∃ m', m' < m ∧ W (i + 1) m' a' H') ∧ ∀ x H', (Itr lo n).yld i H x H' →
        g x (wipe σ vs) H' fun σ2 H2 => wipe σ2 vs = wipe σ vs ∧ tt σ2 H2 fun b H3 => if b = true then te σ2 H3 fun y H4 => tEl k a y Nx Q H4 else Nx a H3) := by
  refine ⟨fun i m a H => m = n - i ∧ i ≤ n ∧ Pv i a H, ⟨n, by simp, Nat.zero_le _, h0⟩, ?_⟩
  rintro i m a H ⟨rfl, hi, p⟩
  by_cases hlt : i < n
  · refine .inr ⟨hlt, Pv (i + 1), fun a' H' p' => ⟨n - (i + 1), by omega, rfl, hlt, p'⟩, fun x H' y => ?_⟩
    obtain ⟨e, y⟩ := y
    subst e y
    exact hs i a _ hlt p
  · have e : i = n := by omega
    subst e
    exact .inl ⟨Nat.le_refl _, hd a H p⟩
theorem gen_list {k : CK} {K : PySem.W.Frag} {b : Addr} {xs : List V} {g : TG} {tt : TT} {te : TE} {vs : List Nat} {σ : L2.St} {H1 : Hp} {Q : VK} (Pv : Nat → Int → Hp → Prop) (h0 : Pv 0 0 H1) (hl : ∀ i a H, i ≤ xs.length → Pv i a H → SqL K H b xs)
    (hs : ∀ i x a H, xs[i]? = some x → Pv i a H → g x (wipe σ vs) H fun σ2 H2 => wipe σ2 vs = wipe σ vs ∧ tt σ2 H2 fun b H3 => if b = true then te σ2 H3 fun y H4 => tEl k a y (Pv (i + 1)) Q H4 else Pv (i + 1) a H3)
    (hd : ∀ a H, Pv xs.length a H → Q (tFin k a) H) :
    ∃ W : Nat → Nat → Int → Hp → Prop, (∃ m, W 0 m 0 H1) ∧ ∀ i m a H, W i m a H →
      ((Itl K b).stop i H ∧ ap2 Q (tFin k a) H) ∨ ((Itl K b).go i H ∧ ∃ Nx : Int → Hp → Prop, (∀ a' H', Nx a' H' → ∃ m', m' < m ∧ W (i + 1) m' a' H') ∧ ∀ x H', (Itl K b).yld i H x H' →
        g x (wipe σ vs) H' fun σ2 H2 => wipe σ2 vs = wipe σ vs ∧ tt σ2 H2 fun b H3 => if b = true then te σ2 H3 fun y H4 => tEl k a y Nx Q H4 else Nx a H3) := by
  refine ⟨fun i m a H => m = xs.length - i ∧ i ≤ xs.length ∧ Pv i a H, ⟨xs.length, by simp, Nat.zero_le _, h0⟩, ?_⟩
  rintro i m a H ⟨rfl, hi, p⟩
  have q := hl i a H hi p
  by_cases hlt : i < xs.length
  · refine .inr ⟨⟨xs, xs[i], q, by simp [hlt]⟩, Pv (i + 1), fun a' H' p' => ⟨xs.length - (i + 1), by omega, rfl, hlt, p'⟩, fun x H' y => ?_⟩
    obtain ⟨e, y⟩ := y
    subst e
    exact hs i x a _ (y xs q) p
  · have e : i = xs.length := by omega
    subst e
    exact .inl ⟨⟨xs, q, Nat.le_refl _⟩, hd a H p⟩
theorem gen_tup {k : CK} {K : PySem.W.Frag} {b : Addr} {xs : List V} {g : TG} {tt : TT} {te : TE} {vs : List Nat} {σ : L2.St} {H1 : Hp} {Q : VK} (Pv : Nat → Int → Hp → Prop) (h0 : Pv 0 0 H1) (hl : ∀ i a H, i ≤ xs.length → Pv i a H → SqT K H b xs)
    (hs : ∀ i x a H, xs[i]? = some x → Pv i a H → g x (wipe σ vs) H fun σ2 H2 => wipe σ2 vs = wipe σ vs ∧ tt σ2 H2 fun b H3 => if b = true then te σ2 H3 fun y H4 => tEl k a y (Pv (i + 1)) Q H4 else Pv (i + 1) a H3)
    (hd : ∀ a H, Pv xs.length a H → Q (tFin k a) H) :
    ∃ W : Nat → Nat → Int → Hp → Prop, (∃ m, W 0 m 0 H1) ∧ ∀ i m a H, W i m a H →
      ((Itt K b).stop i H ∧ ap2 Q (tFin k a) H) ∨ ((Itt K b).go i H ∧ ∃ Nx : Int → Hp → Prop, (∀ a' H', Nx a' H' → ∃ m', m' < m ∧ W (i + 1) m' a' H') ∧ ∀ x H', (Itt K b).yld i H x H' →
        g x (wipe σ vs) H' fun σ2 H2 => wipe σ2 vs = wipe σ vs ∧ tt σ2 H2 fun b H3 => if b = true then te σ2 H3 fun y H4 => tEl k a y Nx Q H4 else Nx a H3) := by
  refine ⟨fun i m a H => m = xs.length - i ∧ i ≤ xs.length ∧ Pv i a H, ⟨xs.length, by simp, Nat.zero_le _, h0⟩, ?_⟩
  rintro i m a H ⟨rfl, hi, p⟩
  have q := hl i a H hi p
  by_cases hlt : i < xs.length
  · refine .inr ⟨⟨xs, xs[i], q, by simp [hlt]⟩, Pv (i + 1), fun a' H' p' => ⟨xs.length - (i + 1), by omega, rfl, hlt, p'⟩, fun x H' y => ?_⟩
    obtain ⟨e, y⟩ := y
    subst e
    exact hs i x a _ (y xs q) p
  · have e : i = xs.length := by omega
    subst e
    exact .inl ⟨⟨xs, q, Nat.le_refl _⟩, hd a H p⟩
end EG
namespace EP
open PySem PySem.Spec PyProof.Rows L2
/-! ### a list or a tuple, walked -/
abbrev SqE (K : PySem.W.Frag) (H : Hp) (a : Addr) (xs : List V) : Prop := SqL K H a xs ∨ SqT K H a xs
theorem SqE_same {K : PySem.W.Frag} {H H' : Hp} {a : Addr} {xs : List V} (e : Same H H') (h : SqE K H a xs) : SqE K H' a xs := h.imp e.seq (SqT_same e)
/-- .. which of the two -/
def Sqb (K : PySem.W.Frag) : Bool → Hp → Addr → List V → Prop
  | true => SqL K
  | false => SqT K
def Itb (K : PySem.W.Frag) : Bool → Addr → It
  | true => Itl K
  | false => Itt K
theorem Sqb.e {K : PySem.W.Frag} {b : Bool} {H : Hp} {a : Addr} {xs : List V} (h : Sqb K b H a xs) : SqE K H a xs := by
  cases b with
  | true => exact .inl h
  | false => exact .inr h
theorem sqb_of {K : PySem.W.Frag} {H : Hp} {a : Addr} {xs : List V} (h : SqE K H a xs) : ∃ b, Sqb K b H a xs := h.elim (fun h => ⟨true, h⟩) (fun h => ⟨false, h⟩)
theorem Sqb.same {K : PySem.W.Frag} {b : Bool} {H H' : Hp} {a : Addr} {xs : List V} (h : Sqb K b H a xs) (e : Same H H') : Sqb K b H' a xs := by
  cases b with
  | true => exact e.seq h
  | false => exact SqT_same e h
def iSeq (K : PySem.W.Frag) (tl : TE) : TI := fun σ H R => tl σ H fun x H1 => ∃ (a : Addr) (xs : List V) (b : Bool), x = .ref a ∧ Sqb K b H1 a xs ∧ R (Itb K b a) H1
theorem pi_seq {X : Cx} {tg l : Expr} {tl : TE} (hl : PE X l tl) : PI X tg l (iSeq X.K tl) := by
  refine ⟨fun pins s σ H R I h => ?_⟩
  refine thn (hl.run pins s σ H _ I h) fun v s1 ⟨x, H1, I1, r1, q1⟩ => ?_
  obtain ⟨a, xs, b, e, hq, q⟩ := q1
  subst e
  cases r1
  cases b with
  | true =>
    obtain ⟨its, rv, p, hz⟩ := I1.list hq
    refine wpAny_pyIter_list p.isList ?_
    refine ⟨s1.heap.objs.size, [s1.heap.objs.size], _, _, H1, rfl, I1.kept (t' := s1.toks) fun b o e => Heap.get?_push_of_some _ e, turn_list a _, ⟨_, Heap.get?_push_size _ rfl, rfl, rfl⟩, fun b hb => ?_, q⟩
    have e : b = s1.heap.objs.size := by simpa using hb
    subst e
    exact I1.fpOk (Nat.le_refl _) (I1.hok.fresh (Nat.le_refl _))
  | false =>
    obtain ⟨its, rv, p, hz⟩ := I1.tuple hq
    refine wpAny_pyIter_tuple (show s1.heap.IsTuple a its.toArray from p) ?_
    refine ⟨s1.heap.objs.size, [s1.heap.objs.size], _, _, H1, rfl, I1.kept (t' := s1.toks) fun b o e => Heap.get?_push_of_some _ e, turn_tuple a _, ⟨_, Heap.get?_push_size _ rfl, rfl, rfl⟩, fun b hb => ?_, q⟩
    have e : b = s1.heap.objs.size := by simpa using hb
    subst e
    exact I1.fpOk (Nat.le_refl _) (I1.hok.fresh (Nat.le_refl _))
theorem for_b {K : PySem.W.Frag} {a : Addr} {xs : List V} {b : Bool} {g : TG} {tb : TS} {D : Ends} {σ : L2.St} {H : Hp} (Pv : Nat → L2.St → Hp → Prop) (h0 : Pv 0 σ H) (hl : ∀ i σ H', i ≤ xs.length → Pv i σ H' → Sqb K b H' a xs)
    (hs : ∀ i x σ H, xs[i]? = some x → Pv i σ H → g x σ H fun σ2 H2 => tb { D with nx := Pv (i + 1), ct := Pv (i + 1), bk := D.nx } σ2 H2) (hd : ∀ σ H, Pv xs.length σ H → D.nx σ H) :
    ∃ W : Nat → Nat → L2.St → Hp → Prop, (∃ m, W 0 m σ H) ∧ ∀ i m σ H, W i m σ H →
      ((Itb K b a).stop i H ∧ D.nx σ H) ∨ ((Itb K b a).go i H ∧ ∃ N : L2.St → Hp → Prop, (∀ σ' H', N σ' H' → ∃ m', m' < m ∧ W (i + 1) m' σ' H') ∧ ∀ x H', (Itb K b a).yld i H x H' → g x σ H' fun σ2 H2 => tb { D with nx := N, ct := N, bk := D.nx } σ2 H2) := by
  cases b with
  | true => exact for_list Pv h0 hl hs hd
  | false => exact for_tup Pv h0 hl hs hd
theorem lc_b {K : PySem.W.Frag} {a : Addr} {xs : List V} {b : Bool} {g : TG} {tt : TT} {te : TE} {vs : List Nat} {σ : L2.St} {H1 : Hp} {D : Addr} {Qd : Hp → Prop} (Pv : Nat → Hp → Prop) (h0 : Pv 0 (upd H1 D (.lst []))) (hl : ∀ i H', i ≤ xs.length → Pv i H' → Sqb K b H' a xs)
    (hs : ∀ i x H, xs[i]? = some x → Pv i H → g x (wipe σ vs) H fun σ2 H2 => wipe σ2 vs = wipe σ vs ∧ tt σ2 H2 fun b H3 =>
      if b = true then te σ2 H3 fun y H4 => ∃ acc, H4 D = some (.lst acc) ∧ acc.length < sizeLine ∧ Pv (i + 1) (upd H4 D (.lst (acc ++ [y]))) else Pv (i + 1) H3) (hd : ∀ H, Pv xs.length H → Qd H) :
    ∃ W : Nat → Nat → Hp → Prop, (∃ m, W 0 m (upd H1 D (.lst []))) ∧ ∀ i m H, W i m H →
      ((Itb K b a).stop i H ∧ Qd H) ∨ ((Itb K b a).go i H ∧ ∃ Nx : Hp → Prop, (∀ H', Nx H' → ∃ m', m' < m ∧ W (i + 1) m' H') ∧ ∀ x H', (Itb K b a).yld i H x H' → g x (wipe σ vs) H' fun σ2 H2 => wipe σ2 vs = wipe σ vs ∧ tt σ2 H2 fun b H3 =>
        if b = true then te σ2 H3 fun y H4 => ∃ acc, H4 D = some (.lst acc) ∧ acc.length < sizeLine ∧ Nx (upd H4 D (.lst (acc ++ [y]))) else Nx H3) := by
  cases b with
  | true => exact lc_list Pv h0 hl hs hd
  | false => exact lc_tup Pv h0 hl hs hd
theorem gen_b {k : EG.CK} {K : PySem.W.Frag} {a : Addr} {xs : List V} {b : Bool} {g : TG} {tt : TT} {te : TE} {vs : List Nat} {σ : L2.St} {H1 : Hp} {Q : VK} (Pv : Nat → Int → Hp → Prop) (h0 : Pv 0 0 H1) (hl : ∀ i z H', i ≤ xs.length → Pv i z H' → Sqb K b H' a xs)
    (hs : ∀ i x z H, xs[i]? = some x → Pv i z H → g x (wipe σ vs) H fun σ2 H2 => wipe σ2 vs = wipe σ vs ∧ tt σ2 H2 fun b H3 => if b = true then te σ2 H3 fun y H4 => EG.tEl k z y (Pv (i + 1)) Q H4 else Pv (i + 1) z H3)
    (hd : ∀ z H, Pv xs.length z H → Q (EG.tFin k z) H) :
    ∃ W : Nat → Nat → Int → Hp → Prop, (∃ m, W 0 m 0 H1) ∧ ∀ i m z H, W i m z H →
      ((Itb K b a).stop i H ∧ EG.ap2 Q (EG.tFin k z) H) ∨ ((Itb K b a).go i H ∧ ∃ Nx : Int → Hp → Prop, (∀ a' H', Nx a' H' → ∃ m', m' < m ∧ W (i + 1) m' a' H') ∧ ∀ x H', (Itb K b a).yld i H x H' →
        g x (wipe σ vs) H' fun σ2 H2 => wipe σ2 vs = wipe σ vs ∧ tt σ2 H2 fun b H3 => if b = true then te σ2 H3 fun y H4 => EG.tEl k z y Nx Q H4 else Nx z H3) := by
  cases b with
  | true => exact EG.gen_list Pv h0 hl hs hd
  | false => exact EG.gen_tup Pv h0 hl hs hd
theorem cut_whole {xs : List V} {lo hi : Option Int} (h : HT.sIx xs.length 0 lo = 0 ∧ HT.sIx xs.length xs.length hi = xs.length) : cutV xs lo hi = xs := by
  unfold cutV
  rw [h.1, h.2]
  simp
/-- a slice of a list or a tuple -/
def rSlS (K : PySem.W.Frag) : V → Option Int → Option Int → Hp → VK → Prop := fun x lo hi H Q => ∃ (a : Addr) (xs : List V) (b : Bool), x = .ref a ∧ Sqb K b H a xs ∧ ∀ r H', Same H H' → Sqb K b H' r (cutV xs lo hi) → Q (.ref r) H'
theorem sl_seq {X : Cx} : SlR X (rSlS X.K) := by
  intro pins s σ H x v vl vu lo hi sl Q I rx hs pl pu h
  obtain ⟨a, xs, b, rfl, hx, q⟩ := h
  cases b with
  | true => exact sl_list pins s σ H _ v vl vu lo hi sl Q I rx hs pl pu ⟨a, xs, rfl, hx, fun p np => q p _ (same_new np) (SqL.of upd_same)⟩
  | false => exact sl_tupA pins s σ H _ v vl vu lo hi sl Q I rx hs pl pu ⟨a, xs, rfl, hx, fun hw => q a H (Same.refl _) (by rw [cut_whole hw]; exact hx), fun _ p np => q p _ (same_new np) (SqT.of upd_same)⟩
theorem pi_seqK {X : Cx} {K : PySem.W.Frag} {tg l : Expr} {tl : TE} (hl : PE X l tl) (h : X.K = K := by rfl) : PI X tg l (iSeq K tl) := h ▸ pi_seq hl
theorem pi_listK {X : Cx} {K : PySem.W.Frag} {tg l : Expr} {tl : TE} (hl : PE X l tl) (h : X.K = K := by rfl) : PI X tg l (iList K tl) := h ▸ pi_list hl
theorem pi_tupK {X : Cx} {K : PySem.W.Frag} {tg l : Expr} {tl : TE} (hl : PE X l tl) (h : X.K = K := by rfl) : PI X tg l (iTup K tl) := h ▸ pi_tup hl
end EP
namespace EP
open PySem PySem.Spec PyProof.Rows L2
/-! ### a def whose code object is known -/
structure FunG (K : PySem.W.Frag) (x qual : Str) (st : Stmt) (f : Addr) (fd : FuncData) (c : Addr) : Prop where
  ex : ∃ (oc : Value) (od : Option Addr) (kV doc pm : Value) (an : Option Addr) (ct : Value) (osl : Array (Option Value)),
    fd = PySem.W.fnOf x qual (defArgs st) (defBody st) (defScope st) .none kV doc pm an (.ref c) ct ∧ K.lookup f = some ⟨oc, od, .func fd, osl⟩ ∧ PySem.W.codeIn K (.ref c) qual = true
  kp : PySem.W.keepIn K (.ref f) = true
theorem FunG.fn {K : PySem.W.Frag} {x qual : Str} {st : Stmt} {f : Addr} {fd : FuncData} {c : Addr} (F : FunG K x qual st f fd c) : L2.Fun K x qual st f fd := by
  obtain ⟨oc, od, kV, doc, pm, an, ct, osl, e, lk, hcd⟩ := F.ex
  exact ⟨⟨oc, od, kV, doc, pm, an, _, ct, osl, e, lk, hcd⟩, F.kp⟩
theorem funG_mk {K : PySem.W.Frag} {x qual : Str} {st : Stmt} {f c : Addr} {oc : Value} {od an : Option Addr} {osl : Array (Option Value)} {kV doc pm ct : Value} (l : K.lookup f = some ⟨oc, od, .func (PySem.W.fnOf x qual (defArgs st) (defBody st) (defScope st) .none kV doc pm an (.ref c) ct), osl⟩)
    (cd : PySem.W.codeIn K (.ref c) qual = true) (k : PySem.W.keepIn K (.ref f) = true) : FunG K x qual st f (PySem.W.fnOf x qual (defArgs st) (defBody st) (defScope st) .none kV doc pm an (.ref c) ct) c := ⟨⟨oc, od, kV, doc, pm, an, ct, osl, rfl, l, cd⟩, k⟩
section
variable {P : Program} {w : World} {K : PySem.W.Frag} {mg : Str → Option Value} {base : Heap}
theorem FunG.ok {x qual : Str} {st : Stmt} {f c : Addr} {fd : FuncData} {N ps : List Str} {k : Nat} {sp : Sp} (F : FunG K x qual st f fd c) (S : FnScope N ps (defScope st)) (len : ∀ vs H Q E, sp vs H Q E → vs.length = ps.length)
    (hbody : ∀ (A : Around) (outer : List Env) (s : Shared) (H : Hp) (vs : List V) (Q : VK) (E : XK), Room k (A.deeper (envOfC qual (defScope st) s.heap.objs.size f (.ref c))) → sp vs H Q E →
      ∃ t, PSs (cxOf CX0 P w K mg base N qual (defScope st) f (.ref c) A outer s H E).nox (defBody st) t ∧ t { nx := fun _ H' => Q .non H', rt := Q } (L2.start N vs) H) : FnOk P w K mg base CX0 (k + 1) f fd ps sp := by
  obtain ⟨oc, od, kV, doc, pm, an, ct, osl, rfl, lk, hcd⟩ := F.ex
  refine fn_of lk hcd S len fun A outer s H vs Q E hr hsp => ?_
  obtain ⟨t, h, q⟩ := hbody A outer s H vs Q E hr hsp
  exact ⟨t, h.nox, q⟩
theorem FunG.okX {x qual : Str} {st : Stmt} {f c : Addr} {fd : FuncData} {N ps : List Str} {k : Nat} {sp : Sp} (F : FunG K x qual st f fd c) (S : FnScope N ps (defScope st)) (len : ∀ vs H Q E, sp vs H Q E → vs.length = ps.length)
    (hbody : ∀ (A : Around) (outer : List Env) (s : Shared) (H : Hp) (vs : List V) (Q : VK) (E : XK), Room k (A.deeper (envOfC qual (defScope st) s.heap.objs.size f (.ref c))) → sp vs H Q E →
      ∃ t, PSs (cxOf (L2.CX P w) P w K mg base N qual (defScope st) f (.ref c) A outer s H E) (defBody st) t ∧ t { nx := fun _ H' => Q .non H', rt := Q } (L2.start N vs) H) : FnOk P w K mg base (L2.CX P w) (k + 1) f fd ps sp := by
  obtain ⟨oc, od, kV, doc, pm, an, ct, osl, rfl, lk, hcd⟩ := F.ex
  exact fn_of lk hcd S len fun A outer s H vs Q E hr hsp => hbody A outer s H vs Q E hr hsp
theorem FunG.okXN {x qual : Str} {st : Stmt} {f c : Addr} {fd : FuncData} {N ps : List Str} {k : Nat} {sp : Sp} (F : FunG K x qual st f fd c) (S : FnScope N ps (defScope st)) (len : ∀ vs H Q E, sp vs H Q E → vs.length = ps.length)
    (hbody : ∀ (A : Around) (outer : List Env) (s : Shared) (H : Hp) (vs : List V) (Q : VK) (E : XK), Room k (A.deeper (envOfC qual (defScope st) s.heap.objs.size f (.ref c))) → sp vs H Q E →
      ∃ t, PSs (cxOf (L2N.CX P w) P w K mg base N qual (defScope st) f (.ref c) A outer s H E) (defBody st) t ∧ t { nx := fun _ H' => Q .non H', rt := Q } (L2.start N vs) H) : FnOk P w K mg base (L2N.CX P w) (k + 1) f fd ps sp := by
  obtain ⟨oc, od, kV, doc, pm, an, ct, osl, rfl, lk, hcd⟩ := F.ex
  exact fn_of lk hcd S len fun A outer s H vs Q E hr hsp => hbody A outer s H vs Q E hr hsp
end
/-! ### the tables -/
/-- the code object at c has its table at P -/
structure TabK (K : PySem.W.Frag) (c P : Addr) : Prop where
  ex : ∃ (e : Value) (dd : Option Addr) (vs : Array Value) (sl : Array (Option Value)), K.lookup c = some ⟨e, dd, .fields vs, sl⟩ ∧ vs[11]? = some (.ref P)
  no : K.lookup P = none
abbrev TabG (H : Hp) (P : Addr) : Prop := GxR.TabG H P
theorem TabG.empty {H : Hp} {P : Addr} (h : H P = some (.tbl #[])) : TabG H P := ⟨#[], h, trivial⟩
/-- the same but for tables, which may have grown -/
structure SameT (H H' : Hp) : Prop where
  keep : ∀ b o, (∀ ps, o ≠ .tbl ps) → H b = some o → H' b = some o
  tab : ∀ P, TabG H P → TabG H' P
  free : ∀ {b}, H' b = none → H b = none
theorem SameT.refl (H : Hp) : SameT H H := ⟨fun _ _ _ h => h, fun _ h => h, fun h => h⟩
theorem SameT.trans {H H1 H2 : Hp} (a : SameT H H1) (b : SameT H1 H2) : SameT H H2 := ⟨fun c o n h => b.keep c o n (a.keep c o n h), fun P h => b.tab P (a.tab P h), fun h => a.free (b.free h)⟩
theorem Same.t {H H' : Hp} (e : Same H H') : SameT H H' := ⟨fun b o _ h => e b o h, fun P ⟨ps, h, t⟩ => ⟨ps, e _ _ h, t⟩, fun h => e.free h⟩
theorem SameT.tabbed {P : Addr} {H H' : Hp} (e : GxR.Tabbed P H H') (h : TabG H P) : SameT H H' := ⟨fun b o n hb => by
    by_cases c : b = P
    · obtain ⟨ps, hp, _⟩ := h
      rw [c, hp] at hb
      exact absurd (Option.some.inj hb).symm (n ps)
    · rw [e.2 b c]; exact hb, fun Q hq => by
    by_cases c : Q = P
    · rw [c]; exact e.1
    · obtain ⟨ps, hp, t⟩ := hq
      exact ⟨ps, by rw [e.2 Q c]; exact hp, t⟩, fun {b} hb => by
    by_cases c : b = P
    · obtain ⟨ps, hp, _⟩ := e.1
      rw [c, hp] at hb
      cases hb
    · rw [← e.2 b c]; exact hb⟩
theorem SameT.lst {H H' : Hp} {a : Addr} {xs : List V} (e : SameT H H') (h : H a = some (.lst xs)) : H' a = some (.lst xs) := e.keep _ _ (fun _ z => by cases z) h
theorem SameT.seq {K : PySem.W.Frag} {H H' : Hp} {a : Addr} {xs : List V} (e : SameT H H') (h : SqL K H a xs) : SqL K H' a xs := by
  rcases h with (h | ⟨o, h⟩) | h
  · exact .inl (.inl (e.keep _ _ (fun _ z => by cases z) h))
  · exact .inl (.inr ⟨o, e.keep _ _ (fun _ z => by cases z) h⟩)
  · exact .inr h
theorem SameT.tup {K : PySem.W.Frag} {H H' : Hp} {a : Addr} {xs : List V} (e : SameT H H') (h : SqT K H a xs) : SqT K H' a xs := by
  rcases h with (h | ⟨o, h⟩) | h
  · exact .inl (.inl (e.keep _ _ (fun _ z => by cases z) h))
  · exact .inl (.inr ⟨o, e.keep _ _ (fun _ z => by cases z) h⟩)
  · exact .inr h
theorem Sqb.sameT {K : PySem.W.Frag} {b : Bool} {H H' : Hp} {a : Addr} {xs : List V} (h : Sqb K b H a xs) (e : SameT H H') : Sqb K b H' a xs := by
  cases b with
  | true => exact e.seq h
  | false => exact e.tup h
theorem SqE.sameT {K : PySem.W.Frag} {H H' : Hp} {a : Addr} {xs : List V} (h : SqE K H a xs) (e : SameT H H') : SqE K H' a xs := h.imp e.seq e.tup
theorem ShapeAt.sameT {K : PySem.W.Frag} {C : Addr} {H H' : Hp} {s : Addr} {ps : List Nat} (S : ShapeAt K C H s ps) (e : SameT H H') : ShapeAt K C H' s ps := by
  obtain ⟨o, p, sm, dx, t, d, kvs, h1, h2, h3, h4⟩ := S
  exact ⟨o, p, sm, dx, t, d, kvs, e.keep _ _ (fun _ z => by cases z) h1, e.tup h2, e.keep _ _ (fun _ z => by cases z) h3, h4⟩
theorem Had.sameT {H H' : Hp} {h : Addr} {ps : List Nat} (a : Had H h ps) (e : SameT H H') : Had H' h ps := by
  obtain ⟨rs, h1, h2, h3⟩ := a
  exact ⟨rs, e.lst h1, h2, fun p r hr => e.lst (h3 p r hr)⟩
theorem Tape.sameT {H H' : Hp} {t u : Addr} (h : Tape H t u) (e : SameT H H') : Tape H' t u := by
  obtain ⟨xs, i, b, s, c, h1, h2, h3⟩ := h
  exact ⟨xs, i, b, s, c, e.lst h1, e.lst h2, h3⟩
theorem sameT_new {H : Hp} {d : Addr} {o : HO} (h : H d = none) : SameT H (upd H d o) := Same.t (same_new h)
theorem sameT_mut {H H' : Hp} {D : Addr} {o : HO} (e : SameT H H') (h : H D = none) : SameT H (upd H' D o) := ⟨fun b v n hb => by
    rw [upd_ne (ne_of_none hb h)]
    exact e.keep b v n hb, fun P hP => by
    obtain ⟨ps, hp, _⟩ := id hP
    obtain ⟨ps', hp', t⟩ := e.tab P hP
    exact ⟨ps', by rw [upd_ne (ne_of_none hp h)]; exact hp', t⟩, fun {b} hb => by
    by_cases c : b = D
    · rw [c]; exact h
    · rw [upd_ne c] at hb
      exact e.free hb⟩
/-- all but t stays, and tables may have grown -/
structure ButT (t : Addr) (H H' : Hp) : Prop where
  keep : ∀ b o, b ≠ t → (∀ ps, o ≠ .tbl ps) → H b = some o → H' b = some o
  tab : ∀ P, TabG H P → TabG H' P
  free : ∀ {b}, b ≠ t → H' b = none → H b = none
theorem ButT.of {t : Addr} {H H' : Hp} (e : SameT H H') : ButT t H H' := ⟨fun b o _ n h => e.keep b o n h, e.tab, fun _ h => e.free h⟩
theorem ButT.trans {t : Addr} {H H1 H2 : Hp} (a : ButT t H H1) (b : ButT t H1 H2) : ButT t H H2 := ⟨fun c o n m h => b.keep c o n m (a.keep c o n m h), fun P h => b.tab P (a.tab P h), fun n h => a.free n (b.free n h)⟩
theorem But.t {t : Addr} {H H' : Hp} (e : But t H H') (hn : ∀ P, TabG H P → P ≠ t) : ButT t H H' := ⟨fun b o n _ h => e b o n h, fun P h => by
    have := hn P h
    obtain ⟨ps, hp, z⟩ := h
    exact ⟨ps, e P _ this hp, z⟩, fun n h => e.free n h⟩
theorem ButT.lst {t : Addr} {H H' : Hp} {a : Addr} {xs : List V} (e : ButT t H H') (hn : a ≠ t) (h : H a = some (.lst xs)) : H' a = some (.lst xs) := e.keep _ _ hn (fun _ z => by cases z) h
theorem Tape.noTab {H : Hp} {t u P : Addr} (h : Tape H t u) (hP : TabG H P) : P ≠ t := fun e => by
  obtain ⟨xs, i, b, s, c, h1, _⟩ := h
  obtain ⟨ps, hp, _⟩ := hP
  rw [e, h1] at hp
  cases hp

/-- what the head knows of a def's table -/
def TabsOf (K : PySem.W.Frag) (mg : Str → Option Value) (h : Heap) (y : Str) : Prop := ∀ (a c P : Addr) (o : Obj) (fd : FuncData) (e : Value) (dd : Option Addr) (vs : Array Value) (sl : Array (Option Value)), mg y = some (.ref a) → K.lookup a = some o → o.data = .func fd → fd.code = .ref c →
  K.lookup c = some ⟨e, dd, .fields vs, sl⟩ → vs[11]? = some (.ref P) → PySem.W.CodeHd h c P ∧ h.get? P = some { cls := .none, data := .fields #[] }
theorem walk_ofN {l : PySem.W.OpenLaw} {n k : Nat} {q : Program} {loose : List Str} {XP : (Str → Option Value) → Heap → Prop} {YP : World → Heap → Prop} {d : DefRec} {K : Params → PySem.W.Frag} {CX : World → CXT} {x : Str} (names : List Str)
    (hn : l.most = some n) (hn2 : n ≤ sizeLine) (hdf : d.params.defaults = []) (hr : Room k callerA) (hrec : (names.all fun y => (recsOf q).any fun e => e.name == y) = true) (hY : ∀ (w : World) (h : Heap), YP w h → (K w.params).In h)
    (F : ∀ (w : World) (mg : Str → Option Value) (fa : Addr) (h : Heap), YP w h → (K w.params).In h → h.Ns mainGlobals mg → mg d.name = some (.ref fa) → (∀ y ∈ names, TabsOf (K w.params) mg h y) → LamX.LawAtS l w (K w.params) (CX w) k n x mg fa h)
    (hCX : ∀ (w : World) (H : Hp) (s : Shared) (e : Value) (s' : Shared), CX w [] H s (fun _ _ _ => False) e s' → False) :
    PySem.W.WalkO q loose XP YP l.row.toRowW d [] (fun f vs => PySem.call f vs) := by
  refine Att.attach_callB hn hdf fun w s₀ s₁ mg mb fa o pm cd doc a vs ns G Y ho hd hcd hmg hobj hints hlen hbits hg => ?_
  have KX := hY w _ Y
  have tabs : ∀ y ∈ names, TabsOf (K w.params) mg s₁.heap y := fun y hy a c P o1 fd1 e dd vs1 sl k0 k1 k2 k3 k4 k5 => by
    obtain ⟨dL, hm, hn1⟩ := List.any_eq_true.mp (List.all_eq_true.mp hrec y hy)
    have hn2 : dL.name = y := beq_iff_eq.mp hn1
    obtain ⟨a', o', fd', c', P', h1, h2, h3, h4, h5, h6⟩ := G.T.tab dL hm
    rw [hn2, k0] at h1
    cases h1
    have g1 := KX _ _ k1
    rw [g1] at h2
    cases h2
    rw [k2] at h3
    cases h3
    rw [k3] at h4
    cases h4
    have hC := PySem.W.CodeHd.of h5 h6
    obtain ⟨⟨oc, vc, e1, _, e3, e4⟩, hP⟩ := h6
    have g2 := KX _ _ k4
    rw [g2] at e1
    cases e1
    cases e3
    rw [k5] at e4
    cases e4
    exact ⟨hC, hP⟩
  obtain ⟨fd, cs, sp, hT, nT, C, hb, hsp, hF⟩ := F w mg fa _ Y KX G.T.g hmg tabs
  exact LamX.law_callTs KX G.T.g G.T.b G.T.builtins G.T.nolimit hg hT nT C G.T.bmain hobj hints (Nat.le_trans hlen hn2) hr hF hb (fun H hH hS => hsp H a ns hlen hbits hH hS) fun H e s' => hCX w H s₁ e s'
/-- a def's table as it stands at the head -/
theorem TabK.head {K : PySem.W.Frag} {mg : Str → Option Value} {h : Heap} {y x qual : Str} {st : Stmt} {f c P : Addr} {fd : FuncData} (t : TabK K c P) (F : FunG K x qual st f fd c) (g : mg y = some (.ref f)) (T : TabsOf K mg h y) :
    PySem.W.CodeHd h c P ∧ h.get? P = some { cls := .none, data := .fields #[] } := by
  obtain ⟨oc, od, kV, doc, pm, an, ct, osl, e, lk, hcd⟩ := F.ex
  obtain ⟨e2, dd, vs, sl, k1, k2⟩ := t.ex
  subst e
  exact T f c P _ _ e2 dd vs sl g lk rfl rfl k1 k2
theorem tabB_of {base : Heap} {mg : Str → Option Value} {c P : Addr} (t : LamX.TabB base mg c P) : GxR.TabB base mg c P := ⟨t.code, t.bm, t.gP⟩
end EP
namespace Tr
/-! ### sums of distances -/
def dist (ps : List Nat) (a b : Nat) : Nat := (parting ps a b).length
def tot (ps : List Nat) (L : List Nat) (p : Nat) : Nat := (L.map fun x => dist ps x p).sum
theorem tot_snoc (ps L : List Nat) (x p : Nat) : tot ps (L ++ [x]) p = tot ps L p + dist ps x p := by
  unfold tot
  rw [List.map_append, List.sum_append]
  simp
theorem sum_add {α : Type} (g h : α → Nat) : ∀ W : List α, (W.map fun k => g k + h k).sum = (W.map g).sum + (W.map h).sum
  | [] => rfl
  | a :: W => by
    simp only [List.map_cons, List.sum_cons, sum_add g h W]
    omega
theorem sum_ones {α : Type} (f : α → Bool) : ∀ W : List α, (W.map fun k => if f k = true then 1 else 0).sum = W.countP f
  | [] => rfl
  | a :: W => by
    simp only [List.map_cons, List.sum_cons, List.countP_cons, sum_ones f W]
    omega
theorem sum_swap {α β : Type} (f : α → β → Bool) (W : List β) : ∀ L : List α, (L.map fun x => W.countP (f x)).sum = (W.map fun k => L.countP fun x => f x k).sum
  | [] => by
    show 0 = (W.map fun k => 0).sum
    induction W with
    | nil => rfl
    | cons a W ih => rw [List.map_cons, List.sum_cons, ← ih]; rfl
  | x :: L => by
    have e : (W.map fun k => (x :: L).countP fun x => f x k) = W.map fun k => (L.countP fun x => f x k) + (if f x k = true then 1 else 0) := List.map_congr_left fun k _ => by rw [List.countP_cons]
    rw [List.map_cons, List.sum_cons, sum_swap f W L, e, sum_add, sum_ones]
    omega
theorem sum_le {α : Type} (g h : α → Nat) : ∀ W : List α, (∀ k, k ∈ W → g k ≤ h k) → (W.map g).sum ≤ (W.map h).sum
  | [], _ => Nat.le_refl _
  | a :: W, q => by
    simp only [List.map_cons, List.sum_cons]
    have := sum_le g h W fun k hk => q k (List.mem_cons_of_mem _ hk)
    have := q a List.mem_cons_self
    omega
theorem sum_lt {α : Type} (g h : α → Nat) : ∀ W : List α, (∀ k, k ∈ W → g k ≤ h k) → (∃ k, k ∈ W ∧ g k < h k) → (W.map g).sum < (W.map h).sum
  | [], _, ⟨k, hk, _⟩ => by cases hk
  | a :: W, q, ⟨k, hk, lt⟩ => by
    simp only [List.map_cons, List.sum_cons]
    have le := sum_le g h W fun k hk => q k (List.mem_cons_of_mem _ hk)
    have qa := q a List.mem_cons_self
    rcases List.mem_cons.mp hk with rfl | hk
    · omega
    · have := sum_lt g h W (fun k hk => q k (List.mem_cons_of_mem _ hk)) ⟨k, hk, lt⟩
      omega
theorem cnt_eq {α : Type} (f : α → Bool) (b : Bool) : ∀ L : List α, (L.countP fun x => f x != b) = if b = true then L.length - L.countP f else L.countP f
  | [] => by cases b <;> rfl
  | x :: L => by
    have := List.countP_le_length (p := f) (l := L)
    have ih := cnt_eq f b L
    rw [List.countP_cons, List.countP_cons, ih]
    cases b <;> cases f x <;> simp <;> omega
def walls (n : Nat) : List Nat := (List.range n).map (· + 1)
theorem mem_walls {n k : Nat} : k ∈ walls n ↔ 1 ≤ k ∧ k ≤ n := by
  unfold walls
  rw [List.mem_map]
  constructor
  · rintro ⟨i, hi, rfl⟩
    have := List.mem_range.mp hi
    omega
  · rintro ⟨h1, h2⟩
    exact ⟨k - 1, List.mem_range.mpr (by omega), by omega⟩
theorem tot_eq (ps L : List Nat) (p : Nat) : tot ps L p = ((walls ps.length).map fun k => L.countP fun x => has ps x k != has ps p k).sum := by
  rw [← sum_swap (fun x k => has ps x k != has ps p k) (walls ps.length) L]
  unfold tot dist parting
  refine congrArg List.sum (List.map_congr_left fun x _ => ?_)
  rw [List.countP_eq_length_filter]
  rfl
theorem tot_lt {ps L : List Nat} {p : Nat} (odd : L.length % 2 = 1) (hp : p ≤ ps.length) (hne : p ≠ mid ps L ps.length) : tot ps L (mid ps L ps.length) < tot ps L p := by
  rw [tot_eq, tot_eq]
  have key : ∀ k, k ∈ walls ps.length → (has ps p k = has ps (mid ps L ps.length) k → (L.countP fun x => has ps x k != has ps (mid ps L ps.length) k) ≤ L.countP fun x => has ps x k != has ps p k) ∧
      (has ps p k ≠ has ps (mid ps L ps.length) k → (L.countP fun x => has ps x k != has ps (mid ps L ps.length) k) < L.countP fun x => has ps x k != has ps p k) := fun k hk => by
    obtain ⟨k1, k2⟩ := mem_walls.mp hk
    refine ⟨fun e => by rw [e]; exact Nat.le_refl _, fun ne => ?_⟩
    have hm := mid_has (ps := ps) (l := L) (n := ps.length) k1 k2
    rw [cnt_eq (fun x => has ps x k), cnt_eq (fun x => has ps x k)]
    rw [hm] at ne ⊢
    have le := List.countP_le_length (p := fun x => has ps x k) (l := L)
    unfold maj at ne ⊢
    generalize (L.countP fun x => has ps x k) = T at ne le ⊢
    by_cases c : L.length < 2 * T
    · rw [decide_eq_true c] at ne ⊢
      have : has ps p k = false := by cases z : has ps p k <;> simp [z] at ne ⊢
      rw [this]
      simp
      omega
    · rw [decide_eq_false c] at ne ⊢
      have : has ps p k = true := by cases z : has ps p k <;> simp [z] at ne ⊢
      rw [this]
      simp
      omega
  refine sum_lt _ _ _ (fun k hk => ?_) ?_
  · by_cases e : has ps p k = has ps (mid ps L ps.length) k
    · exact (key k hk).1 e
    · exact Nat.le_of_lt ((key k hk).2 e)
  · by_cases c : ∃ k, k ∈ walls ps.length ∧ has ps p k ≠ has ps (mid ps L ps.length) k
    · obtain ⟨k, hk, ne⟩ := c
      exact ⟨k, hk, (key k hk).2 ne⟩
    · refine absurd (same_of (ps := ps) hp (mid_le ps L ps.length) fun k h1 h2 => ?_) hne
      by_cases e : has ps p k = has ps (mid ps L ps.length) k
      · exact e
      · exact absurd ⟨k, mem_walls.mpr ⟨h1, h2⟩, e⟩ c
end Tr
namespace EP
open PySem L2
/-! ### lists of lists of counts -/
def LN (H : Hp) (h : Addr) (xss : List (List Nat)) : Prop := ∃ rs : List Addr, H h = some (.lst (rs.map V.ref)) ∧ rs.length = xss.length ∧ ∀ (i : Nat) (r : Addr) (xs : List Nat), rs[i]? = some r → xss[i]? = some xs → H r = some (.lst (nvs xs))
theorem LN.same {H H' : Hp} {h : Addr} {xss : List (List Nat)} (a : LN H h xss) (e : Same H H') : LN H' h xss := by
  obtain ⟨rs, h1, h2, h3⟩ := a
  exact ⟨rs, e _ _ h1, h2, fun i r xs hr hx => e _ _ (h3 i r xs hr hx)⟩
theorem LN.sameT {H H' : Hp} {h : Addr} {xss : List (List Nat)} (a : LN H h xss) (e : SameT H H') : LN H' h xss := by
  obtain ⟨rs, h1, h2, h3⟩ := a
  exact ⟨rs, e.lst h1, h2, fun i r xs hr hx => e.lst (h3 i r xs hr hx)⟩
theorem LN.row {H : Hp} {h : Addr} {xss : List (List Nat)} (a : LN H h xss) {i : Nat} {xs : List Nat} (hi : xss[i]? = some xs) : ∃ (vs : List V) (r : Addr), H h = some (.lst vs) ∧ vs.length = xss.length ∧ vs[i]? = some (V.ref r) ∧ H r = some (.lst (nvs xs)) := by
  obtain ⟨rs, h1, h2, h3⟩ := a
  have hlt := (List.getElem?_eq_some_iff.mp hi).1
  have e := List.getElem?_eq_getElem (l := rs) (i := i) (by omega)
  exact ⟨_, rs[i], h1, by rw [List.length_map]; exact h2, by rw [List.getElem?_map, e]; rfl, h3 i _ _ e hi⟩
def distL (ps : List Nat) (p : Nat) : List Nat := (List.range (ps.length + 1)).map fun o => Tr.dist ps o p
def tabN (ps : List Nat) : List (List Nat) := (List.range (ps.length + 1)).map (distL ps)
theorem distL_len (ps : List Nat) (p : Nat) : (distL ps p).length = ps.length + 1 := by unfold distL; rw [List.length_map, List.length_range]
theorem tabN_len (ps : List Nat) : (tabN ps).length = ps.length + 1 := by unfold tabN; rw [List.length_map, List.length_range]
theorem distL_get {ps : List Nat} {p o : Nat} (h : o ≤ ps.length) : (distL ps p)[o]? = some (Tr.dist ps o p) := by
  unfold distL
  rw [List.getElem?_map, List.getElem?_range (by omega)]
  rfl
theorem tabN_get {ps : List Nat} {p : Nat} (h : p ≤ ps.length) : (tabN ps)[p]? = some (distL ps p) := by
  unfold tabN
  rw [List.getElem?_map, List.getElem?_range (by omega)]
  rfl
theorem toI_sum : ∀ L : List Nat, (toI L).sum = ((L.sum : Nat) : Int)
  | [] => rfl
  | x :: L => by
    have := toI_sum L
    unfold toI at this ⊢
    rw [List.map_cons, List.sum_cons, List.sum_cons, this]
    omega
/-- a list of new objects, built at D -/
def Bld (H : Hp) (D : Addr) (f : Nat → HO) (k : Nat) (H' : Hp) : Prop := ∃ rs : List Addr, rs.length = k ∧ H' D = some (.lst (rs.map V.ref)) ∧ Same H H' ∧ ∀ (p : Nat) (r : Addr), rs[p]? = some r → r ≠ D ∧ H' r = some (f p)
theorem Bld.nil {H : Hp} {D : Addr} {f : Nat → HO} (hD : H D = none) : Bld H D f 0 (upd H D (.lst [])) := ⟨[], rfl, upd_same, same_new hD, fun p r hr => by simp at hr⟩
theorem Bld.snoc {H H1 H2 : Hp} {D r : Addr} {f : Nat → HO} {k : Nat} (b : Bld H D f k H1) (hD : H D = none) (sb : Same H1 H2) (nr : H1 r = none) (hr : H2 r = some (f k)) :
    ∃ acc, H2 D = some (.lst acc) ∧ acc.length = k ∧ Bld H D f (k + 1) (upd H2 D (.lst (acc ++ [V.ref r]))) := by
  obtain ⟨rs, r1, r2, sa, r3⟩ := b
  have hrD : r ≠ D := (ne_of_none r2 nr).symm
  refine ⟨_, sb _ _ r2, by rw [List.length_map]; exact r1, rs ++ [r], by rw [List.length_append, r1]; rfl, by rw [upd_same, List.map_append]; rfl, same_mut (sa.trans sb) hD, fun p r' hr' => ?_⟩
  rw [List.getElem?_append] at hr'
  split at hr'
  · obtain ⟨x1, x2⟩ := r3 p r' hr'
    exact ⟨x1, by rw [upd_ne x1]; exact sb _ _ x2⟩
  · rename_i hp
    cases e : p - rs.length with
    | zero =>
      rw [e] at hr'
      obtain rfl : r = r' := Option.some.inj hr'
      obtain rfl : p = k := by omega
      exact ⟨hrD, by rw [upd_ne hrD]; exact hr⟩
    | succ z => rw [e] at hr'; cases hr'
theorem Bld.had {H H' : Hp} {D : Addr} {ps : List Nat} (b : Bld H D (fun p => .lst (hadL ps p)) (ps.length + 1) H') : Had H' D ps := by
  obtain ⟨rs, r1, r2, _, r3⟩ := b
  exact ⟨rs, r2, r1, fun p r hr => (r3 p r hr).2⟩
theorem Bld.ln {H H' : Hp} {D : Addr} {xss : List (List Nat)} {f : Nat → List Nat} {k : Nat} (b : Bld H D (fun p => .lst (nvs (f p))) k H') (hk : xss.length = k) (hf : ∀ i xs, xss[i]? = some xs → xs = f i) : LN H' D xss := by
  obtain ⟨rs, r1, r2, _, r3⟩ := b
  exact ⟨rs, r2, by omega, fun i r xs hr hx => by rw [hf i xs hx]; exact (r3 i r hr).2⟩
theorem Bld.same {H H' : Hp} {D : Addr} {f : Nat → HO} {k : Nat} (b : Bld H D f k H') : Same H H' := let ⟨_, _, _, s, _⟩ := b; s
/-- one item of positions made a bad one -/
def spoil (L : List Nat) (k : Nat) (b : Int) : List Int := toI (L.take k) ++ [b] ++ toI (L.drop (k + 1))
theorem spoil_len {L : List Nat} {k : Nat} {b : Int} : (spoil L k b).length ≤ L.length + 1 := by
  unfold spoil
  rw [List.length_append, List.length_append, toI_len, toI_len, List.length_take, List.length_drop]
  show _ + 1 + _ ≤ _
  omega
theorem spoil_nvs (L : List Nat) (k : Nat) (b : Int) : nvs (L.take k) ++ [V.int b] ++ nvs (L.drop (k + 1)) = (spoil L k b).map V.int := by
  unfold spoil
  rw [List.map_append, List.map_append, ← nvs_toI, ← nvs_toI]
  rfl
theorem spoil_bad {L : List Nat} {k n : Nat} {b : Int} (hk : k ≤ L.length) (bd : ∀ x, x ∈ L → x ≤ n) (hb : ¬ IsPos n b) : BadAt n (spoil L k b) k ∧ (spoil L k b)[k]? = some b := by
  have e : (spoil L k b)[k]? = some b := by
    unfold spoil
    rw [List.append_assoc, List.getElem?_append_right (by rw [toI_len, List.length_take]; omega), toI_len, List.length_take, show k - min k L.length = 0 by omega]
    rfl
  refine ⟨⟨⟨b, e, hb⟩, fun i p hi hp => ?_⟩, e⟩
  unfold spoil at hp
  rw [List.append_assoc, List.getElem?_append_left (by rw [toI_len, List.length_take]; omega)] at hp
  obtain ⟨x, hx, rfl⟩ := toI_get hp
  have hm := List.mem_of_getElem? hx
  have := bd x (List.mem_of_mem_take hm)
  exact ⟨by omega, by omega⟩
theorem bad_first {n : Nat} {b : Int} {r : List Int} (h : ¬ IsPos n b) : BadAt n (b :: r) 0 := ⟨⟨b, rfl, h⟩, fun i p hi _ => absurd hi (Nat.not_lt_zero _)⟩
theorem bad_second {n : Nat} {a b : Int} {r : List Int} (ha : IsPos n a) (h : ¬ IsPos n b) : BadAt n (a :: b :: r) 1 := ⟨⟨b, rfl, h⟩, fun i p hi hp => by
  obtain rfl : i = 0 := by omega
  cases hp
  exact ha⟩
/-! ### a list made later is changed -/
theorem ShapeAt.butN {K : PySem.W.Frag} {C d : Addr} {H H' : Hp} {s : Addr} {ps : List Nat} (S : ShapeAt K C H s ps) (n : H d = none) (e : ButT d H H') : ShapeAt K C H' s ps := by
  obtain ⟨o, p, sm, dx, a, d, kvs, h1, h2, h3, h4⟩ := S
  refine ⟨o, p, sm, dx, a, d, kvs, e.keep _ _ (ne_of_none h1 n) (fun _ z => by cases z) h1, ?_, e.keep _ _ (ne_of_none h3 n) (fun _ z => by cases z) h3, h4⟩
  rcases h2 with h2 | h2
  · rcases h2 with h2 | ⟨o', h2⟩
    · exact .inl (.inl (e.keep _ _ (ne_of_none h2 n) (fun _ z => by cases z) h2))
    · exact .inl (.inr ⟨o', e.keep _ _ (ne_of_none h2 n) (fun _ z => by cases z) h2⟩)
  · exact .inr h2
theorem ButT.at {d a : Addr} {H H' : Hp} {xs : List V} (e : ButT d H H') (n : H d = none) (h : H a = some (.lst xs)) : H' a = some (.lst xs) := e.lst (ne_of_none h n) h
theorem LN.butN {d : Addr} {H H' : Hp} {h : Addr} {xss : List (List Nat)} (a : LN H h xss) (n : H d = none) (e : ButT d H H') : LN H' h xss := by
  obtain ⟨rs, h1, h2, h3⟩ := a
  exact ⟨rs, e.at n h1, h2, fun i r xs hr hx => e.at n (h3 i r xs hr hx)⟩
theorem Tape.butN {d : Addr} {H H' : Hp} {t u : Addr} (h : Tape H t u) (n : H d = none) (e : ButT d H H') : Tape H' t u := by
  obtain ⟨xs, i, b, s, c, h1, h2, h3⟩ := h
  exact ⟨xs, i, b, s, c, e.at n h1, e.at n h2, h3⟩
theorem ButT.upd {d : Addr} {H H' : Hp} {o : HO} (e : ButT d H H') (n : H d = none) (hd : ∃ xs, H' d = some (.lst xs)) : ButT d H (upd H' d o) := ⟨fun b v nb nt h => by rw [upd_ne nb]; exact e.keep b v nb nt h, fun P h => by
    obtain ⟨ps, hp, t⟩ := e.tab P h
    obtain ⟨xs, hd⟩ := hd
    exact ⟨ps, by rw [upd_ne (fun z => by rw [z, hd] at hp; cases hp)]; exact hp, t⟩, fun {b} nb h => by rw [upd_ne nb] at h; exact e.free nb h⟩
theorem cut_toA {L : List Nat} {k : Nat} : cutV (nvs L) none (some (k : Int)) = nvs (L.take k) := by
  by_cases h : k ≤ L.length
  · exact cut_to h
  · unfold cutV
    rw [HT.sIx_none, HT.sIx_nat, nvs_len, Nat.min_eq_right (by omega), List.drop_zero, Nat.sub_zero, List.take_of_length_le (by rw [nvs_len]; exact Nat.le_refl _), List.take_of_length_le (by omega)]
theorem Tape.neR {H : Hp} {t u l : Addr} {rs : List Addr} (h : Tape H t u) (hl : H l = some (.lst (rs.map V.ref))) : l ≠ t := fun e => by
  obtain ⟨xs, i, b, s, c, h1, _⟩ := h
  rw [← e, hl] at h1
  have h2 := HO.lst.inj (Option.some.inj h1)
  unfold tp at h2
  match rs, h2 with
  | [], h2 => cases h2
  | [_], h2 => simp at h2
  | _ :: _ :: _, h2 => simp at h2
theorem LN.but {t u : Addr} {H H' : Hp} {h : Addr} {xss : List (List Nat)} (a : LN H h xss) (hT : Tape H t u) (e : But t H H') : LN H' h xss := by
  obtain ⟨rs, h1, h2, h3⟩ := a
  exact ⟨rs, e _ _ (hT.neR h1) h1, h2, fun i r xs hr hx => e _ _ (hT.ne (h3 i r xs hr hx)) (h3 i r xs hr hx)⟩
/-! ### promises -/
def spOddMidE (K : PySem.W.Frag) (C D D2 : Addr) : Sp := fun vs H Q E => ∃ (s l : Addr) (ps : List Nat) (ns : List Int), vs = [.ref s, .ref l] ∧ ShapeAt K C H s ps ∧ SqE K H l (ns.map V.int) ∧ ns.length ≤ 100 ∧
  (∀ L H', ns = toI L → (∀ p, p ∈ L → p ≤ ps.length) → L.length % 2 = 1 → Same H H' → Q (.int (Tr.mid ps L ps.length : Nat)) H') ∧
  (∀ j p, BadAt ps.length ns j → ns[j]? = some p → Small p ∧ ∀ d, H d = none → E (.ref D) (some d) (upd H d (.xd [("position", .int p)]))) ∧
  ((∀ p, p ∈ ns → IsPos ps.length p) → ns.length % 2 = 0 → ∀ d, H d = none → E (.ref D2) (some d) (upd H d (.xd [("number", .int (ns.length : Nat))])))
def spTotal (K : PySem.W.Frag) (C D P : Addr) : Sp := fun vs H Q E => ∃ (s l : Addr) (ps : List Nat) (ns : List Int) (p : Int), vs = [.ref s, .ref l, .int p] ∧ ShapeAt K C H s ps ∧ SqE K H l (ns.map V.int) ∧ ns.length ≤ 100 ∧ TabG H P ∧
  (∀ L p' H', ns = toI L → (∀ p, p ∈ L → p ≤ ps.length) → p = ((p' : Nat) : Int) → p' ≤ ps.length → SameT H H' → Q (.int (Tr.tot ps L p' : Nat)) H') ∧
  (∀ j q, BadAt ps.length ns j → ns[j]? = some q → Small q ∧ ∀ d, H d = none → E (.ref D) (some d) (upd H d (.xd [("position", .int q)]))) ∧
  ((∀ q, q ∈ ns → IsPos ps.length q) → ¬ IsPos ps.length p → Small p ∧ ∀ d, H d = none → E (.ref D) (some d) (upd H d (.xd [("position", .int p)])))
def spDistances : Sp := fun vs H Q _ => ∃ (h : Addr) (ps : List Nat) (p : Nat), vs = [.ref h, .int p] ∧ Had H h ps ∧ ps.length ≤ 1000 ∧ p ≤ ps.length ∧ ∀ r H', Same H H' → H r = none → H' r = some (.lst (nvs (distL ps p))) → Q (.ref r) H'
def spTable (K : PySem.W.Frag) : Sp := fun vs H Q _ => ∃ (l : Addr) (ps : List Nat), vs = [.ref l] ∧ SqL K H l (nvs ps) ∧ Tr.Ok ps ∧ ps.length ≤ 1000 ∧ ∀ r H', Same H H' → H r = none → LN H' r (tabN ps) → Q (.ref r) H'
def spSum (K : PySem.W.Frag) : Sp := fun vs H Q _ => ∃ (d l : Addr) (ps L : List Nat) (p : Nat), vs = [.ref d, .ref l] ∧ H d = some (.lst (nvs (distL ps p))) ∧ SqL K H l (nvs L) ∧ L.length ≤ 100 ∧ (∀ x, x ∈ L → x ≤ ps.length) ∧ ∀ H', Same H H' → Q (.int (Tr.tot ps L p : Nat)) H'
def spPositions : Sp := fun vs H Q _ => ∃ (t u : Addr) (n m : Nat), vs = [.ref t, .int n, .int m] ∧ Tape H t u ∧ n ≤ 1000 ∧ m ≤ 100 ∧ ∀ l L H', L.length = m → (∀ x, x ∈ L → x ≤ n) → Tape H' t u → But t H H' → H l = none → H' l = some (.lst (nvs L)) → Q (.ref l) H'
def spMidTold (K : PySem.W.Frag) (C : Addr) : Sp := fun vs H Q _ => ∃ (s b l : Addr) (ps L : List Nat), vs = [.ref s, .ref b, .ref l] ∧ ShapeAt K C H s ps ∧ LN H b (tabN ps) ∧ SqE K H l (nvs L) ∧ L.length ≤ 100 ∧ L.length % 2 = 1 ∧ (∀ x, x ∈ L → x ≤ ps.length) ∧ ∀ H', Same H H' → Q (.bl true) H'
def spTotTold (K : PySem.W.Frag) (C P : Addr) : Sp := fun vs H Q _ => ∃ (s b l : Addr) (ps L : List Nat), vs = [.ref s, .ref b, .ref l] ∧ ShapeAt K C H s ps ∧ LN H b (tabN ps) ∧ SqE K H l (nvs L) ∧ L.length ≤ 100 ∧ (∀ x, x ∈ L → x ≤ ps.length) ∧ TabG H P ∧ ∀ H', SameT H H' → Q (.bl true) H'
def spBadRef (K : PySem.W.Frag) (C : Addr) : Sp := fun vs H Q _ => ∃ (s l : Addr) (ps : List Nat) (ns : List Int) (b : Int) (j : Nat), vs = [.ref s, .ref l, .int b] ∧ ShapeAt K C H s ps ∧ H l = some (.lst (ns.map V.int)) ∧ ns.length ≤ 100 ∧ BadAt ps.length ns j ∧ ns[j]? = some b ∧ Small b ∧ ∀ H', Same H H' → Q (.bl true) H'
def spEvenRef (K : PySem.W.Frag) (C : Addr) : Sp := fun vs H Q _ => ∃ (s l : Addr) (ps L : List Nat), vs = [.ref s, .ref l] ∧ ShapeAt K C H s ps ∧ H l = some (.lst (nvs L)) ∧ L.length ≤ 100 ∧ (∀ x, x ∈ L → x ≤ ps.length) ∧ L.length % 2 = 0 ∧ ∀ H', Same H H' → Q (.bl true) H'
def spTotRef (K : PySem.W.Frag) (C P : Addr) : Sp := fun vs H Q _ => ∃ (s l : Addr) (ps : List Nat) (ns : List Int) (p b : Int), vs = [.ref s, .ref l, .int p, .int b] ∧ ShapeAt K C H s ps ∧ H l = some (.lst (ns.map V.int)) ∧ ns.length ≤ 100 ∧ TabG H P ∧ Small b ∧
  ((∃ j, BadAt ps.length ns j ∧ ns[j]? = some b) ∨ ((∀ q, q ∈ ns → IsPos ps.length q) ∧ p = b ∧ ¬ IsPos ps.length b)) ∧ ∀ H', Same H H' → Q (.bl true) H'
def spRefAll (K : PySem.W.Frag) (C P : Addr) : Sp := fun vs H Q _ => ∃ (t u s l a : Addr) (ps L : List Nat), vs = [.ref t, .ref s, .ref l, .ref a] ∧ Tape H t u ∧ ShapeAt K C H s ps ∧ H l = some (.lst (nvs ps)) ∧ H a = some (.lst (nvs L)) ∧ L.length ≤ 90 ∧ L.length % 2 = 1 ∧ (∀ x, x ∈ L → x ≤ ps.length) ∧ TabG H P ∧ ∀ H', Tape H' t u → But t H H' → Q (.bl true) H'
def spLawT1 (K : PySem.W.Frag) (P : Addr) : Sp := fun vs H Q _ => ∃ (a : Addr) (ns : List Int), vs = [.ref a] ∧ SqL K H a (ns.map V.int) ∧ ns.length ≤ 63 ∧ TabG H P ∧ ∀ H', Q (.bl true) H'
end EP
namespace EP
open PySem L2
/-! ### sides that meet -/
theorem side_neg {n : Nat} {k : Int} (h : IsSide n k) : IsSide n (-k) := by unfold IsSide at h ⊢; omega
theorem hasS_opp {ps : List Nat} {n : Nat} {p k : Int} (h : IsSide n k) : hasS ps p (-k) = !hasS ps p k := by
  unfold IsSide at h
  unfold hasS
  by_cases c : 0 < k
  · rw [if_neg (by omega), if_pos c, show - -k = k by omega]
  · rw [if_pos (by omega), if_neg c]
    simp
theorem hasS_mid {ps : List Nat} {A B C : Nat} {k : Int} (hk : IsSide ps.length k) (h : (hasS ps (A : Int) k = true ∧ hasS ps (B : Int) k = true) ∨ (hasS ps (A : Int) k = true ∧ hasS ps (C : Int) k = true) ∨ (hasS ps (B : Int) k = true ∧ hasS ps (C : Int) k = true)) :
    hasS ps ((Tr.mid ps [A, B, C] ps.length : Nat) : Int) k = true := by
  unfold IsSide at hk
  have key : ∀ w, 1 ≤ w → w ≤ ps.length → Tr.has ps (Tr.mid ps [A, B, C] ps.length) w = decide (3 < 2 * ((if Tr.has ps A w = true then 1 else 0) + (if Tr.has ps B w = true then 1 else 0) + (if Tr.has ps C w = true then 1 else 0))) := fun w h1 h2 => by
    rw [Tr.mid_has h1 h2]
    unfold Tr.maj
    simp only [List.countP_cons, List.countP_nil, List.length_cons, List.length_nil]
    refine decide_eq_decide.mpr ?_
    omega
  unfold hasS at h ⊢
  simp only [Int.toNat_natCast] at h ⊢
  by_cases c : 0 < k
  · simp only [if_pos c] at h ⊢
    rw [key k.toNat (by omega) (by omega)]
    rcases h with ⟨a, b⟩ | ⟨a, b⟩ | ⟨a, b⟩ <;> simp [a, b] <;> split <;> omega
  · simp only [if_neg c] at h ⊢
    rw [key (-k).toNat (by omega) (by omega)]
    rcases h with ⟨a, b⟩ | ⟨a, b⟩ | ⟨a, b⟩ <;> simp only [Bool.not_eq_true'] at a b <;> simp [a, b] <;> split <;> omega
theorem helly {ps : List Nat} : ∀ (N : Nat) (ns : List Int), ns.length ≤ N → (∀ k, k ∈ ns → IsSide ps.length k) → (∀ a, a ∈ ns → ∀ b, b ∈ ns → ∃ p : Nat, p ≤ ps.length ∧ hasS ps (p : Int) a = true ∧ hasS ps (p : Int) b = true) →
    ∃ p : Nat, p ≤ ps.length ∧ ∀ k, k ∈ ns → hasS ps (p : Int) k = true
  | _, [], _, _, _ => ⟨0, Nat.zero_le _, fun k h => by cases h⟩
  | _, [a], _, _, h => by
    obtain ⟨p, hp, h1, _⟩ := h a List.mem_cons_self a List.mem_cons_self
    exact ⟨p, hp, fun k hk => by rw [List.mem_singleton.mp hk]; exact h1⟩
  | _, [a, b], _, _, h => by
    obtain ⟨p, hp, h1, h2⟩ := h a List.mem_cons_self b (List.mem_cons_of_mem _ List.mem_cons_self)
    refine ⟨p, hp, fun k hk => ?_⟩
    simp only [List.mem_cons, List.not_mem_nil, or_false] at hk
    rcases hk with rfl | rfl
    · exact h1
    · exact h2
  | 0, a :: b :: c :: r, hl, _, _ => absurd hl (by simp)
  | N + 1, a :: b :: c :: r, hl, hs, h => by
    have ih := fun (L : List Int) (hL : L.length = r.length + 2) (sub : ∀ k, k ∈ L → k ∈ a :: b :: c :: r) => helly N L (by simp only [List.length_cons] at hl; omega) (fun k hk => hs k (sub k hk)) (fun x hx y hy => h x (sub x hx) y (sub y hy))
    obtain ⟨A, hA, a1⟩ := ih (b :: c :: r) rfl (fun k hk => List.mem_cons_of_mem _ hk)
    obtain ⟨B, hB, b1⟩ := ih (a :: c :: r) rfl (fun k hk => by simp only [List.mem_cons] at hk ⊢; rcases hk with h | h | h <;> simp [h])
    obtain ⟨C, hC, c1⟩ := ih (a :: b :: r) rfl (fun k hk => by simp only [List.mem_cons] at hk ⊢; rcases hk with h | h | h <;> simp [h])
    refine ⟨Tr.mid ps [A, B, C] ps.length, Tr.mid_le _ _ _, fun k hk => hasS_mid (hs k hk) ?_⟩
    simp only [List.mem_cons] at hk
    rcases hk with rfl | rfl | rfl | hk
    · exact .inr (.inr ⟨b1 _ (by simp), c1 _ (by simp)⟩)
    · exact .inr (.inl ⟨a1 _ (by simp), c1 _ (by simp)⟩)
    · exact .inl ⟨a1 _ (by simp), b1 _ (by simp)⟩
    · exact .inl ⟨a1 _ (by simp [hk]), b1 _ (by simp [hk])⟩
/-- side a leads inside to side b -/
def insS (ps : List Nat) (a b : Int) : Bool := (List.range (ps.length + 1)).all fun p => !hasS ps (p : Int) a || hasS ps (p : Int) b
theorem insS_iff {ps : List Nat} {a b : Int} : insS ps a b = true ↔ ∀ p : Nat, p ≤ ps.length → hasS ps (p : Int) a = true → hasS ps (p : Int) b = true := by
  unfold insS
  rw [List.all_eq_true]
  constructor
  · intro h p hp ha
    have := h p (List.mem_range.mpr (by omega))
    rw [ha] at this
    simpa using this
  · intro h p hp
    have := h p (by have := List.mem_range.mp hp; omega)
    cases e : hasS ps (p : Int) a
    · rfl
    · rw [this e]; rfl
theorem bitAnd_nat (x y : Nat) : Builtin.bitAnd (x : Int) (y : Int) = ((x &&& y : Nat) : Int) := by
  have hx : (0 : Int) ≤ (x : Int) := by omega
  have hy : (0 : Int) ≤ (y : Int) := by omega
  simp [Builtin.bitAnd]
theorem and_ins {ps : List Nat} {a b : Int} {m m' : Nat} (h1 : ∀ p : Nat, p ≤ ps.length → m.testBit p = hasS ps (p : Int) a) (l1 : m < 2 ^ (ps.length + 1)) (h2 : ∀ p : Nat, p ≤ ps.length → m'.testBit p = hasS ps (p : Int) b) :
    decide (V.int (Builtin.bitAnd (m : Int) (m' : Int)) = V.int (m : Int)) = insS ps a b := by
  rw [bitAnd_nat, Bool.eq_iff_iff, decide_eq_true_iff, insS_iff]
  constructor
  · intro e p hp ha
    have e' : m &&& m' = m := by have := V.int.inj e; omega
    have : (m &&& m').testBit p = m.testBit p := by rw [e']
    rw [Nat.testBit_and, h1 p hp, h2 p hp, ha] at this
    simpa using this
  · intro h
    have : m &&& m' = m := by
      refine Nat.eq_of_testBit_eq fun i => ?_
      rw [Nat.testBit_and]
      by_cases hi : i ≤ ps.length
      · rw [h1 i hi, h2 i hi]
        cases e : hasS ps (i : Int) a
        · rfl
        · rw [h i hi e]; rfl
      · rw [Nat.testBit_lt_two_pow (Nat.lt_of_lt_of_le l1 (Nat.pow_le_pow_right (by decide) (by omega)))]
        rfl
    rw [this]
theorem side_some {ps : List Nat} {k : Int} (h : IsSide ps.length k) : ∃ p : Nat, p ≤ ps.length ∧ hasS ps (p : Int) k = true := by
  unfold IsSide at h
  unfold hasS
  by_cases c : 0 < k
  · refine ⟨k.toNat, by omega, ?_⟩
    rw [if_pos c, Int.toNat_natCast]
    unfold Tr.has
    rw [decide_eq_true_iff]
    exact Tr.up_self ps (by omega)
  · refine ⟨0, Nat.zero_le _, ?_⟩
    rw [if_neg c, Int.toNat_natCast]
    unfold Tr.has
    rw [Tr.up_zero]
    rfl
/-- the positions that have all the sides -/
def comL (ps : List Nat) (ns : List Int) : List Nat := (List.range (ps.length + 1)).filter fun p => ns.all fun k => hasS ps (p : Int) k
theorem mem_comL {ps : List Nat} {ns : List Int} {p : Nat} : p ∈ comL ps ns ↔ p ≤ ps.length ∧ ∀ k, k ∈ ns → hasS ps (p : Int) k = true := by
  unfold comL
  rw [List.mem_filter, List.all_eq_true, List.mem_range]
  exact ⟨fun h => ⟨by omega, h.2⟩, fun h => ⟨by omega, h.2⟩⟩
/-- the first item that is no side -/
def BadSd (n : Nat) (ns : List Int) (j : Nat) : Prop := (∃ p, ns[j]? = some p ∧ ¬ IsSide n p) ∧ ∀ i p, i < j → ns[i]? = some p → IsSide n p
theorem BadSd.uniq {n : Nat} {ns : List Int} {i j : Nat} (a : BadSd n ns i) (b : BadSd n ns j) : i = j := by
  obtain ⟨⟨p, hp, cp⟩, fp⟩ := a
  obtain ⟨⟨q, hq, cq⟩, fq⟩ := b
  by_cases h : i < j
  · exact absurd (fq i p h hp) cp
  · by_cases h2 : j < i
    · exact absurd (fp j q h2 hq) cq
    · omega
/-- no position has both -/
def ApartS (ps : List Nat) (a b : Int) : Prop := ∀ p : Nat, p ≤ ps.length → ¬ (hasS ps (p : Int) a = true ∧ hasS ps (p : Int) b = true)
/-! ### promises -/
def spInside (K : PySem.W.Frag) (C D : Addr) : Sp := fun vs H Q E => ∃ (s : Addr) (ps : List Nat) (a b : Int), vs = [.ref s, .int a, .int b] ∧ ShapeAt K C H s ps ∧ (IsSide ps.length a → IsSide ps.length b → Q (.bl (insS ps a b)) H) ∧
  (¬ IsSide ps.length a → Small a ∧ ∀ d, H d = none → E (.ref D) (some d) (upd H d (.xd [("side", .int a)]))) ∧ (IsSide ps.length a → ¬ IsSide ps.length b → Small b ∧ ∀ d, H d = none → E (.ref D) (some d) (upd H d (.xd [("side", .int b)])))
def spPosWith (K : PySem.W.Frag) (C P : Addr) : Sp := fun vs H Q _ => ∃ (s l : Addr) (ps : List Nat) (ns : List Int), vs = [.ref s, .ref l] ∧ ShapeAt K C H s ps ∧ SqE K H l (ns.map V.int) ∧ ns.length ≤ 100 ∧ (∀ k, k ∈ ns → IsSide ps.length k) ∧ TabG H P ∧
  ∀ r H', SameT H H' → H r = none → H' r = some (.lst (nvs (comL ps ns))) → Q (.ref r) H'
def spFirstApart (K : PySem.W.Frag) (C : Addr) : Sp := fun vs H Q _ => ∃ (s l : Addr) (ps : List Nat) (ns : List Int), vs = [.ref s, .ref l] ∧ ShapeAt K C H s ps ∧ SqE K H l (ns.map V.int) ∧ ns.length ≤ 100 ∧ (∀ k, k ∈ ns → IsSide ps.length k) ∧ comL ps ns = [] ∧
  ∀ r a b H', Same H H' → H' r = some (.tup [.int a, .int b]) → a ∈ ns → b ∈ ns → ApartS ps a b → Q (.ref r) H'
def spCommon (K : PySem.W.Frag) (C D P : Addr) : Sp := fun vs H Q E => ∃ (s l : Addr) (ps : List Nat) (ns : List Int), vs = [.ref s, .ref l] ∧ ShapeAt K C H s ps ∧ SqE K H l (ns.map V.int) ∧ ns.length ≤ 100 ∧ TabG H P ∧
  ((∀ k, k ∈ ns → IsSide ps.length k) → comL ps ns ≠ [] → ∀ r w H', SameT H H' → H w = none → H' r = some (.tup [.str "common", .ref w]) → H' w = some (.lst (nvs (comL ps ns))) → Q (.ref r) H') ∧
  ((∀ k, k ∈ ns → IsSide ps.length k) → comL ps ns = [] → ∀ r a b H', SameT H H' → H' r = some (.tup [.str "apart", .int a, .int b]) → a ∈ ns → b ∈ ns → ApartS ps a b → Q (.ref r) H') ∧
  (∀ j k, BadSd ps.length ns j → ns[j]? = some k → Small k ∧ ∀ d, H d = none → E (.ref D) (some d) (upd H d (.xd [("side", .int k)])))
theorem in_had {ps : List Nat} {p : Nat} {k : Int} (h : IsSide ps.length k) : inV (V.int k) (hadL ps p) = hasS ps (p : Int) k := by
  have key : inV (V.int k) (hadL ps p) = true ↔ hasS ps (p : Int) k = true := by
    unfold inV hadL
    rw [List.any_map, List.any_eq_true]
    unfold IsSide at h
    constructor
    · rintro ⟨i, hi, e⟩
      have hi' := List.mem_range.mp hi
      have e2 : Tr.side ps p (i + 1) = k := by
        have := of_decide_eq_true e
        first | exact (V.int.inj this) | exact (V.int.inj this).symm | exact this | exact this.symm
      unfold Tr.side at e2
      unfold hasS
      by_cases c : Tr.has ps p (i + 1) = true
      · rw [if_pos c] at e2
        rw [if_pos (by omega), Int.toNat_natCast, show k.toNat = i + 1 by omega]
        exact c
      · rw [if_neg c] at e2
        rw [if_neg (by omega), Int.toNat_natCast, show (-k).toNat = i + 1 by omega]
        simpa using c
    · intro e
      unfold hasS at e
      by_cases c : 0 < k
      · rw [if_pos c, Int.toNat_natCast] at e
        refine ⟨k.toNat - 1, List.mem_range.mpr (by omega), ?_⟩
        have : Tr.side ps p (k.toNat - 1 + 1) = k := by
          unfold Tr.side
          rw [show k.toNat - 1 + 1 = k.toNat by omega, if_pos e]
          omega
        refine decide_eq_true ?_
        show _ = _
        first | rw [this] | (show V.int _ = V.int _; rw [this])
      · rw [if_neg c, Int.toNat_natCast] at e
        refine ⟨(-k).toNat - 1, List.mem_range.mpr (by omega), ?_⟩
        have : Tr.side ps p ((-k).toNat - 1 + 1) = k := by
          unfold Tr.side
          rw [show (-k).toNat - 1 + 1 = (-k).toNat by omega, if_neg (by rw [Bool.not_eq_true'] at e; rw [e]; decide)]
          omega
        refine decide_eq_true ?_
        show _ = _
        first | rw [this] | (show V.int _ = V.int _; rw [this])
  cases a : inV (V.int k) (hadL ps p) <;> cases b : hasS ps (p : Int) k
  · rfl
  · rw [key.mpr b] at a; cases a
  · rw [key.mp a] at b; cases b
  · rfl
theorem side_is {ps : List Nat} {p k : Nat} (h : k < ps.length) : IsSide ps.length (Tr.side ps p (k + 1)) := by
  unfold Tr.side IsSide
  split <;> omega
/-! ### promises of the law -/
def Sides (n : Nat) (ns : List Int) : Prop := ∀ k, k ∈ ns → IsSide n k
def spDrawnSide : Sp := fun vs H Q _ => ∃ (t u l : Addr) (ps : List Nat), vs = [.ref t, .ref l] ∧ Tape H t u ∧ H l = some (.lst (nvs ps)) ∧ 1 ≤ ps.length ∧ ps.length ≤ 1000 ∧ ∀ (k : Int) H', IsSide ps.length k → Tape H' t u → But t H H' → Q (.int k) H'
def spBadSide : Sp := fun vs H Q _ => ∃ (t u l : Addr) (ps : List Nat), vs = [.ref t, .ref l] ∧ Tape H t u ∧ H l = some (.lst (nvs ps)) ∧ ps.length ≤ 1000 ∧ ∀ (k : Int) H', ¬ IsSide ps.length k → Small k → Tape H' t u → But t H H' → Q (.int k) H'
def spSidesDrawn : Sp := fun vs H Q _ => ∃ (t u l h : Addr) (ps : List Nat), vs = [.ref t, .ref l, .ref h] ∧ Tape H t u ∧ H l = some (.lst (nvs ps)) ∧ Had H h ps ∧ 1 ≤ ps.length ∧ ps.length ≤ 1000 ∧ ∀ r ns H', Sides ps.length ns → ns.length ≤ 8 → Tape H' t u → But t H H' → H r = none → H' r = some (.lst (ns.map V.int)) → Q (.ref r) H'
def spHaveAll (K : PySem.W.Frag) : Sp := fun vs H Q _ => ∃ (h c : Addr) (ps : List Nat) (ns : List Int), vs = [.ref h, .ref c] ∧ Had H h ps ∧ ps.length ≤ 1000 ∧ SqL K H c (ns.map V.int) ∧ ns.length ≤ 100 ∧ Sides ps.length ns ∧ ∀ r H', Same H H' → H r = none → H' r = some (.lst (nvs (comL ps ns))) → Q (.ref r) H'
def spComTold (K : PySem.W.Frag) (C P : Addr) : Sp := fun vs H Q _ => ∃ (s h l : Addr) (ps : List Nat) (ns : List Int), vs = [.ref s, .ref h, .ref l] ∧ ShapeAt K C H s ps ∧ Had H h ps ∧ SqE K H l (ns.map V.int) ∧ ns.length ≤ 100 ∧ Sides ps.length ns ∧ TabG H P ∧ ∀ H', SameT H H' → Q (.bl true) H'
def spLInside : Sp := fun vs H Q _ => ∃ (h : Addr) (ps : List Nat) (a b : Int), vs = [.ref h, .int a, .int b] ∧ Had H h ps ∧ ps.length ≤ 1000 ∧ IsSide ps.length a ∧ IsSide ps.length b ∧ Q (.bl (insS ps a b)) H
def spInsideTold (K : PySem.W.Frag) (C : Addr) : Sp := fun vs H Q _ => ∃ (s h : Addr) (ps : List Nat) (a : Int), vs = [.ref s, .ref h, .int a] ∧ ShapeAt K C H s ps ∧ Had H h ps ∧ IsSide ps.length a ∧ ∀ H', Same H H' → Q (.bl true) H'
def spComRef (K : PySem.W.Frag) (C P : Addr) : Sp := fun vs H Q _ => ∃ (s l : Addr) (ps : List Nat) (ns : List Int) (b : Int) (j : Nat), vs = [.ref s, .ref l, .int b] ∧ ShapeAt K C H s ps ∧ H l = some (.lst (ns.map V.int)) ∧ ns.length ≤ 100 ∧ TabG H P ∧ BadSd ps.length ns j ∧ ns[j]? = some b ∧ Small b ∧ ∀ H', Same H H' → Q (.bl true) H'
def spInsRef (K : PySem.W.Frag) (C : Addr) : Sp := fun vs H Q _ => ∃ (s : Addr) (ps : List Nat) (a b z : Int), vs = [.ref s, .int a, .int b, .int z] ∧ ShapeAt K C H s ps ∧ Small z ∧ ((¬ IsSide ps.length a ∧ z = a) ∨ (IsSide ps.length a ∧ ¬ IsSide ps.length b ∧ z = b)) ∧ ∀ H', Same H H' → Q (.bl true) H'
def spRefAll5 (K : PySem.W.Frag) (C P : Addr) : Sp := fun vs H Q _ => ∃ (t u s l c : Addr) (ps : List Nat) (ns : List Int), vs = [.ref t, .ref s, .ref l, .ref c] ∧ Tape H t u ∧ ShapeAt K C H s ps ∧ H l = some (.lst (nvs ps)) ∧ H c = some (.lst (ns.map V.int)) ∧ ns.length ≤ 8 ∧ Sides ps.length ns ∧ TabG H P ∧ ∀ H', Tape H' t u → But t H H' → Q (.bl true) H'
theorem cutI_to {ns : List Int} {k : Nat} (h : k ≤ ns.length) : cutV (ns.map V.int) none (some (k : Int)) = (ns.take k).map V.int := by
  unfold cutV
  rw [HT.sIx_none, HT.sIx_nat, List.length_map, Nat.min_eq_left h, List.drop_zero, Nat.sub_zero, List.map_take]
theorem cutI_from {ns : List Int} {k : Nat} (h : k ≤ ns.length) : cutV (ns.map V.int) (some (k : Int)) none = (ns.drop k).map V.int := by
  unfold cutV
  rw [HT.sIx_none, HT.sIx_nat, List.length_map, Nat.min_eq_left h, List.take_of_length_le (by simp), List.map_drop]
theorem cutI_any (ns : List Int) (lo hi : Option Int) : ∃ M : List Int, cutV (ns.map V.int) lo hi = M.map V.int ∧ M.length ≤ ns.length ∧ ∀ x, x ∈ M → x ∈ ns := by
  unfold cutV
  refine ⟨(ns.drop (HT.sIx (ns.map V.int).length 0 lo)).take (HT.sIx (ns.map V.int).length (ns.map V.int).length hi - HT.sIx (ns.map V.int).length 0 lo), ?_, ?_, fun x hx => List.mem_of_mem_drop (List.mem_of_mem_take hx)⟩
  · rw [List.map_take, List.map_drop]
  · rw [List.length_take, List.length_drop]
    omega
theorem hadL_ints (ps : List Nat) (p : Nat) : hadL ps p = ((List.range ps.length).map fun k => Tr.side ps p (k + 1)).map V.int := by
  unfold hadL
  rw [List.map_map]
  rfl
theorem Had.but {H H' : Hp} {t u h : Addr} {ps : List Nat} (a : Had H h ps) (hT : Tape H t u) (e : But t H H') : Had H' h ps := by
  obtain ⟨rs, h1, h2, h3⟩ := a
  refine ⟨rs, e h _ (hT.neR h1) h1, h2, fun p r hr => ?_⟩
  have h4 := h3 p r hr
  exact e r _ (by rw [hadL_ints] at h4; exact hT.neI h4) h4
theorem badSd_ins {n k : Nat} {ns : List Int} {b : Int} (hk : k ≤ ns.length) (al : Sides n ns) (hb : ¬ IsSide n b) (tl : List Int) : BadSd n (ns.take k ++ [b] ++ tl) k ∧ (ns.take k ++ [b] ++ tl)[k]? = some b := by
  have lt : (ns.take k).length = k := by rw [List.length_take]; omega
  have e : (ns.take k ++ [b] ++ tl)[k]? = some b := by
    rw [List.append_assoc, List.getElem?_append_right (by omega), lt, Nat.sub_self]
    rfl
  refine ⟨⟨⟨b, e, hb⟩, fun i p hi hp => ?_⟩, e⟩
  rw [List.append_assoc, List.getElem?_append_left (by omega)] at hp
  exact al p (List.mem_of_mem_take (List.mem_of_getElem? hp))
theorem ints_app (a b : List Int) : a.map V.int ++ b.map V.int = (a ++ b).map V.int := by rw [List.map_append]
theorem sides_app {n : Nat} {a b : List Int} (h1 : Sides n a) (h2 : Sides n b) : Sides n (a ++ b) := fun k hk => (List.mem_append.mp hk).elim (h1 k) (h2 k)
theorem sides_one {n : Nat} {k : Int} (h : IsSide n k) : Sides n [k] := fun x hx => by rw [List.mem_singleton.mp hx]; exact h
theorem ints_flat (ns : List Int) : (ns.map V.int).all flatV = true := by
  rw [List.all_map, List.all_eq_true]
  intro x _
  rfl
theorem in_ints {ns : List Int} {a : Int} (h : a ∈ ns) : inV (V.int a) (ns.map V.int) = true := by
  unfold inV
  rw [List.any_map, List.any_eq_true]
  exact ⟨a, h, decide_eq_true rfl⟩
theorem comL_apart {ps : List Nat} {a b : Int} (h : ApartS ps a b) : comL ps [a, b] = [] := by
  rw [List.eq_nil_iff_forall_not_mem]
  intro p hp
  obtain ⟨h1, h2⟩ := mem_comL.mp hp
  exact h p h1 ⟨h2 a (by simp), h2 b (by simp)⟩
theorem badSd_third {n : Nat} {a b c : Int} (ha : IsSide n a) (hb : IsSide n b) (hc : ¬ IsSide n c) : BadSd n [a, b, c] 2 := by
  refine ⟨⟨c, rfl, hc⟩, fun i p hi hp => ?_⟩
  match i, hi, hp with
  | 0, _, hp => cases hp; exact ha
  | 1, _, hp => cases hp; exact hb
  | n + 2, hi, _ => omega
theorem Had.butN {d : Addr} {H H' : Hp} {h : Addr} {ps : List Nat} (a : Had H h ps) (n : H d = none) (e : ButT d H H') : Had H' h ps := by
  obtain ⟨rs, h1, h2, h3⟩ := a
  exact ⟨rs, e.at n h1, h2, fun p r hr => e.at n (h3 p r hr)⟩
theorem TabG.updL {H : Hp} {P d : Addr} {o : HO} {xs : List V} (h : TabG H P) (hd : H d = some (.lst xs)) : TabG (upd H d o) P := by
  obtain ⟨ps, hp, z⟩ := h
  exact ⟨ps, by rw [upd_ne (fun z => by rw [z, hd] at hp; cases hp)]; exact hp, z⟩
/-- what the law of this file keeps -/
structure LawW (K : PySem.W.Frag) (C P x y h1 h2 l c t u : Addr) (ps qs : List Nat) (ns : List Int) (H : Hp) : Prop where
  sx : ShapeAt K C H x ps
  sy : ShapeAt K C H y qs
  d1 : Had H h1 ps
  d2 : Had H h2 qs
  hl : H l = some (.lst (nvs ps))
  hc : H c = some (.lst (ns.map V.int))
  tb : TabG H P
  tp : Tape H t u
section
variable {K : PySem.W.Frag} {C P x y h1 h2 l c t u : Addr} {ps qs : List Nat} {ns : List Int} {H H' : Hp}
theorem LawW.sameT (w : LawW K C P x y h1 h2 l c t u ps qs ns H) (e : SameT H H') : LawW K C P x y h1 h2 l c t u ps qs ns H' :=
  ⟨w.sx.sameT e, w.sy.sameT e, w.d1.sameT e, w.d2.sameT e, e.lst w.hl, e.lst w.hc, e.tab _ w.tb, w.tp.sameT e⟩
theorem LawW.butN {d : Addr} (w : LawW K C P x y h1 h2 l c t u ps qs ns H) (n : H d = none) (e : ButT d H H') : LawW K C P x y h1 h2 l c t u ps qs ns H' :=
  ⟨w.sx.butN n e, w.sy.butN n e, w.d1.butN n e, w.d2.butN n e, e.at n w.hl, e.at n w.hc, e.tab _ w.tb, w.tp.butN n e⟩
theorem LawW.but (w : LawW K C P x y h1 h2 l c t u ps qs ns H) (k : But t H H') (hT : Tape H' t u) : LawW K C P x y h1 h2 l c t u ps qs ns H' :=
  ⟨w.sx.but w.tp k, w.sy.but w.tp k, w.d1.but w.tp k, w.d2.but w.tp k, k _ _ (w.tp.ne w.hl) w.hl, k _ _ (w.tp.neI w.hc) w.hc, (But.t k fun P hP => w.tp.noTab hP).tab _ w.tb, hT⟩
theorem Had.step {d h : Addr} {H2 : Hp} {o : HO} (a : Had H h ps) (hT : Tape H t u) (n : H d = none) (e : ButT d H H') (k : But t H' H2) : Had (upd H2 d o) h ps := by
  obtain ⟨rs, h1, h2, h3⟩ := a
  refine ⟨rs, ?_, h2, fun p r hr => ?_⟩
  · rw [upd_ne (ne_of_none h1 n)]
    exact k _ _ (hT.neR h1) (e.at n h1)
  · have h4 := h3 p r hr
    rw [upd_ne (ne_of_none h4 n)]
    exact k _ _ (by rw [hadL_ints] at h4; exact hT.neI h4) (e.at n h4)
theorem LawW.step {d : Addr} {H2 : Hp} {o : HO} {xs : List V} (w : LawW K C P x y h1 h2 l c t u ps qs ns H) (n : H d = none) (e : ButT d H H') (k : But t H' H2) (hT : Tape H2 t u) (hd : H2 d = some (.lst xs)) : LawW K C P x y h1 h2 l c t u ps qs ns (upd H2 d o) := by
  have w1 := w.butN n e
  refine ⟨(w1.sx.but w1.tp k).mut hd, (w1.sy.but w1.tp k).mut hd, w.d1.step w.tp n e k, w.d2.step w.tp n e k, ?_, ?_, ((But.t k fun P hP => w1.tp.noTab hP).tab _ w1.tb).updL hd, hT.upd (w.tp.ne_new n).symm (w.tp.ne_newu n).symm⟩
  · rw [upd_ne (ne_of_none w.hl n)]
    exact k _ _ (w1.tp.ne w1.hl) w1.hl
  · rw [upd_ne (ne_of_none w.hc n)]
    exact k _ _ (w1.tp.neI w1.hc) w1.hc
end
end EP
namespace K05
open PySem L2 EP
open L2H (RoomH roomH_of)
local macro_rules | `(tactic| walk_at "rd") => `(tactic| (repeat (first
  | (refine ⟨_, rfl, ?_⟩) | (refine ⟨_, _, rfl, rfl, ?_⟩) | (refine ⟨rfl, ?_⟩)
  | (refine ⟨_, _, _, _, _, rfl, (by assumption), (by assumption), (by assumption), (by first | exact shf_size | exact shf_parents | exact shf_masks), ?_⟩))))
def top (i : Nat) : Stmt := PySem.Challenge.pw_everypast_k05_sides_that_meet_in_twos.main.body.getD i (.Pass ⟨0, 0, 0, 0⟩)
abbrev s_BadShape_init : Stmt := inClass (top 3) 0
abbrev s_BadPosition_init : Stmt := inClass (top 4) 0
abbrev s_BadSide_init : Stmt := inClass (top 5) 0
abbrev s_side_masks : Stmt := top 7
abbrev s_Shape_init : Stmt := inClass (top 8) 0
abbrev s_Shape_has : Stmt := inClass (top 8) 2
abbrev s_Shape_leads_inside : Stmt := inClass (top 8) 4
abbrev s_check_position : Stmt := top 9
abbrev s_check_side : Stmt := top 10
abbrev s_is_number_of_side : Stmt := top 11
abbrev s_common : Stmt := top 13
abbrev s_positions_with : Stmt := top 14
abbrev s_first_apart : Stmt := top 15
abbrev s_l_tape : Stmt := top 17
abbrev s_l_next : Stmt := top 18
abbrev s_l_parents : Stmt := top 19
abbrev s_l_above : Stmt := top 20
abbrev s_l_is_number : Stmt := top 21
abbrev s_l_ints : Stmt := top 22
abbrev s_l_yes_or_no : Stmt := top 23
abbrev s_l_far : Stmt := top 24
abbrev s_l_sides_had : Stmt := top 25
abbrev s_l_bad_side : Stmt := top 26
abbrev s_l_drawn_side : Stmt := top 27
abbrev s_l_sides_drawn : Stmt := top 28
abbrev s_l_have_all : Stmt := top 29
abbrev s_l_common_told : Stmt := top 30
abbrev s_l_inside : Stmt := top 31
abbrev s_l_inside_told : Stmt := top 32
abbrev s_l_common_refused : Stmt := top 33
abbrev s_l_inside_refused : Stmt := top 34
abbrev s_l_refusals_told : Stmt := top 35
abbrev s_law : Stmt := top 36
structure Tx (P : Program) (K : PySem.W.Frag) (mg : Str → Option Value) where
  z_abs : mg "abs" = none
  z_all : mg "all" = none
  z_bool : mg "bool" = none
  z_enumerate : mg "enumerate" = none
  z_int : mg "int" = none
  z_isinstance : mg "isinstance" = none
  z_len : mg "len" = none
  z_list : mg "list" = none
  z_range : mg "range" = none
  z_tuple : mg "tuple" = none
  C_FindsError : Addr
  mg_FindsError : mg "FindsError" = some (.ref C_FindsError)
  x_BadShape : ExT P K mg "BadShape" "BadShape.__init__" "place" s_BadShape_init
  x_BadPosition : ExT P K mg "BadPosition" "BadPosition.__init__" "position" s_BadPosition_init
  x_BadSide : ExT P K mg "BadSide" "BadSide.__init__" "side" s_BadSide_init
  a_side_masks : Addr
  d_side_masks : FuncData
  F_side_masks : Fun K "_side_masks" "_side_masks" s_side_masks a_side_masks d_side_masks
  B_side_masks : Binds K d_side_masks ["parents"] []
  g_side_masks : mg "_side_masks" = some (.ref a_side_masks)
  a_Shape_init : Addr
  d_Shape_init : FuncData
  F_Shape_init : Fun K "__init__" "Shape.__init__" s_Shape_init a_Shape_init d_Shape_init
  B_Shape_init : Binds K d_Shape_init ["self", "parents"] []
  a_Shape_has : Addr
  d_Shape_has : FuncData
  F_Shape_has : Fun K "has" "Shape.has" s_Shape_has a_Shape_has d_Shape_has
  B_Shape_has : Binds K d_Shape_has ["self", "position", "side"] []
  a_Shape_leads_inside : Addr
  d_Shape_leads_inside : FuncData
  F_Shape_leads_inside : Fun K "leads_inside" "Shape.leads_inside" s_Shape_leads_inside a_Shape_leads_inside d_Shape_leads_inside
  B_Shape_leads_inside : Binds K d_Shape_leads_inside ["self", "side", "other"] []
  a_check_position : Addr
  d_check_position : FuncData
  F_check_position : Fun K "check_position" "check_position" s_check_position a_check_position d_check_position
  B_check_position : Binds K d_check_position ["shape", "position"] []
  g_check_position : mg "check_position" = some (.ref a_check_position)
  a_check_side : Addr
  d_check_side : FuncData
  F_check_side : Fun K "check_side" "check_side" s_check_side a_check_side d_check_side
  B_check_side : Binds K d_check_side ["shape", "side"] []
  g_check_side : mg "check_side" = some (.ref a_check_side)
  a_is_number_of_side : Addr
  d_is_number_of_side : FuncData
  F_is_number_of_side : Fun K "is_number_of_side" "is_number_of_side" s_is_number_of_side a_is_number_of_side d_is_number_of_side
  B_is_number_of_side : Binds K d_is_number_of_side ["shape", "number"] []
  g_is_number_of_side : mg "is_number_of_side" = some (.ref a_is_number_of_side)
  a_common : Addr
  d_common : FuncData
  F_common : Fun K "common" "common" s_common a_common d_common
  B_common : Binds K d_common ["shape", "sides"] []
  g_common : mg "common" = some (.ref a_common)
  a_positions_with : Addr
  c_positions_with : Addr
  P_positions_with : Addr
  d_positions_with : FuncData
  F_positions_with : FunG K "_positions_with" "_positions_with" s_positions_with a_positions_with d_positions_with c_positions_with
  t_positions_with : TabK K c_positions_with P_positions_with
  B_positions_with : Binds K d_positions_with ["shape", "sides"] []
  g_positions_with : mg "_positions_with" = some (.ref a_positions_with)
  a_first_apart : Addr
  d_first_apart : FuncData
  F_first_apart : Fun K "_first_apart" "_first_apart" s_first_apart a_first_apart d_first_apart
  B_first_apart : Binds K d_first_apart ["shape", "sides"] []
  g_first_apart : mg "_first_apart" = some (.ref a_first_apart)
  a_l_tape : Addr
  d_l_tape : FuncData
  F_l_tape : Fun K "_law_tape" "_law_tape" s_l_tape a_l_tape d_l_tape
  B_l_tape : Binds K d_l_tape ["_law_script"] []
  g_l_tape : mg "_law_tape" = some (.ref a_l_tape)
  a_l_next : Addr
  d_l_next : FuncData
  F_l_next : Fun K "_law_next" "_law_next" s_l_next a_l_next d_l_next
  B_l_next : Binds K d_l_next ["_law_tape_here", "_law_size"] []
  g_l_next : mg "_law_next" = some (.ref a_l_next)
  a_l_parents : Addr
  d_l_parents : FuncData
  F_l_parents : Fun K "_law_parents" "_law_parents" s_l_parents a_l_parents d_l_parents
  B_l_parents : Binds K d_l_parents ["_law_tape_here", "_law_most"] []
  g_l_parents : mg "_law_parents" = some (.ref a_l_parents)
  a_l_above : Addr
  d_l_above : FuncData
  F_l_above : Fun K "_law_above" "_law_above" s_l_above a_l_above d_l_above
  B_l_above : Binds K d_l_above ["_law_parents_here", "_law_position"] []
  g_l_above : mg "_law_above" = some (.ref a_l_above)
  a_l_is_number : Addr
  d_l_is_number : FuncData
  F_l_is_number : Fun K "_law_is_number" "_law_is_number" s_l_is_number a_l_is_number d_l_is_number
  B_l_is_number : Binds K d_l_is_number ["_law_thing"] []
  g_l_is_number : mg "_law_is_number" = some (.ref a_l_is_number)
  a_l_ints : Addr
  d_l_ints : FuncData
  F_l_ints : Fun K "_law_ints" "_law_ints" s_l_ints a_l_ints d_l_ints
  B_l_ints : Binds K d_l_ints ["_law_told", "_law_due"] []
  g_l_ints : mg "_law_ints" = some (.ref a_l_ints)
  a_l_yes_or_no : Addr
  d_l_yes_or_no : FuncData
  F_l_yes_or_no : Fun K "_law_yes_or_no" "_law_yes_or_no" s_l_yes_or_no a_l_yes_or_no d_l_yes_or_no
  B_l_yes_or_no : Binds K d_l_yes_or_no ["_law_told", "_law_due"] []
  g_l_yes_or_no : mg "_law_yes_or_no" = some (.ref a_l_yes_or_no)
  a_l_far : Addr
  d_l_far : FuncData
  F_l_far : Fun K "_law_far" "_law_far" s_l_far a_l_far d_l_far
  B_l_far : Binds K d_l_far ["_law_tape_here"] []
  g_l_far : mg "_law_far" = some (.ref a_l_far)
  a_l_sides_had : Addr
  d_l_sides_had : FuncData
  F_l_sides_had : Fun K "_law_sides_had" "_law_sides_had" s_l_sides_had a_l_sides_had d_l_sides_had
  B_l_sides_had : Binds K d_l_sides_had ["_law_parents_here", "_law_position"] []
  g_l_sides_had : mg "_law_sides_had" = some (.ref a_l_sides_had)
  a_l_bad_side : Addr
  d_l_bad_side : FuncData
  F_l_bad_side : Fun K "_law_bad_side" "_law_bad_side" s_l_bad_side a_l_bad_side d_l_bad_side
  B_l_bad_side : Binds K d_l_bad_side ["_law_tape_here", "_law_parents_here"] []
  g_l_bad_side : mg "_law_bad_side" = some (.ref a_l_bad_side)
  a_l_drawn_side : Addr
  d_l_drawn_side : FuncData
  F_l_drawn_side : Fun K "_law_drawn_side" "_law_drawn_side" s_l_drawn_side a_l_drawn_side d_l_drawn_side
  B_l_drawn_side : Binds K d_l_drawn_side ["_law_tape_here", "_law_parents_here"] []
  g_l_drawn_side : mg "_law_drawn_side" = some (.ref a_l_drawn_side)
  a_l_sides_drawn : Addr
  d_l_sides_drawn : FuncData
  F_l_sides_drawn : Fun K "_law_sides_drawn" "_law_sides_drawn" s_l_sides_drawn a_l_sides_drawn d_l_sides_drawn
  B_l_sides_drawn : Binds K d_l_sides_drawn ["_law_tape_here", "_law_parents_here", "_law_had"] []
  g_l_sides_drawn : mg "_law_sides_drawn" = some (.ref a_l_sides_drawn)
  a_l_have_all : Addr
  d_l_have_all : FuncData
  F_l_have_all : Fun K "_law_have_all" "_law_have_all" s_l_have_all a_l_have_all d_l_have_all
  B_l_have_all : Binds K d_l_have_all ["_law_had", "_law_chosen"] []
  g_l_have_all : mg "_law_have_all" = some (.ref a_l_have_all)
  a_l_common_told : Addr
  d_l_common_told : FuncData
  F_l_common_told : Fun K "_law_common_told" "_law_common_told" s_l_common_told a_l_common_told d_l_common_told
  B_l_common_told : Binds K d_l_common_told ["_law_shape", "_law_had", "_law_handed"] []
  g_l_common_told : mg "_law_common_told" = some (.ref a_l_common_told)
  a_l_inside : Addr
  d_l_inside : FuncData
  F_l_inside : Fun K "_law_inside" "_law_inside" s_l_inside a_l_inside d_l_inside
  B_l_inside : Binds K d_l_inside ["_law_had", "_law_side", "_law_other"] []
  g_l_inside : mg "_law_inside" = some (.ref a_l_inside)
  a_l_inside_told : Addr
  d_l_inside_told : FuncData
  F_l_inside_told : Fun K "_law_inside_told" "_law_inside_told" s_l_inside_told a_l_inside_told d_l_inside_told
  B_l_inside_told : Binds K d_l_inside_told ["_law_shape", "_law_had", "_law_side"] []
  g_l_inside_told : mg "_law_inside_told" = some (.ref a_l_inside_told)
  a_l_common_refused : Addr
  d_l_common_refused : FuncData
  F_l_common_refused : Fun K "_law_common_refused" "_law_common_refused" s_l_common_refused a_l_common_refused d_l_common_refused
  B_l_common_refused : Binds K d_l_common_refused ["_law_shape", "_law_sides", "_law_bad"] []
  g_l_common_refused : mg "_law_common_refused" = some (.ref a_l_common_refused)
  a_l_inside_refused : Addr
  d_l_inside_refused : FuncData
  F_l_inside_refused : Fun K "_law_inside_refused" "_law_inside_refused" s_l_inside_refused a_l_inside_refused d_l_inside_refused
  B_l_inside_refused : Binds K d_l_inside_refused ["_law_shape", "_law_side", "_law_other", "_law_bad"] []
  g_l_inside_refused : mg "_law_inside_refused" = some (.ref a_l_inside_refused)
  a_l_refusals_told : Addr
  d_l_refusals_told : FuncData
  F_l_refusals_told : Fun K "_law_refusals_told" "_law_refusals_told" s_l_refusals_told a_l_refusals_told d_l_refusals_told
  B_l_refusals_told : Binds K d_l_refusals_told ["_law_tape_here", "_law_shape", "_law_parents_here", "_law_chosen"] []
  g_l_refusals_told : mg "_law_refusals_told" = some (.ref a_l_refusals_told)
  a_law : Addr
  d_law : FuncData
  F_law : Fun K "law" "law" s_law a_law d_law
  B_law : Binds K d_law ["_law_script"] []
  g_law : mg "law" = some (.ref a_law)
  C_Shape : Addr
  mg_Shape : mg "Shape" = some (.ref C_Shape)
  cl_Shape : Cls K C_Shape
  M_Shape : Mk K C_Shape a_Shape_init
  n_Shape_masks : NoAttr K C_Shape "_masks"
  n_Shape_parents : NoAttr K C_Shape "parents"
  n_Shape_size : NoAttr K C_Shape "size"
  m_Shape_has : Meth K C_Shape "has" a_Shape_has
  m_Shape_leads_inside : Meth K C_Shape "leads_inside" a_Shape_leads_inside
  k_BadSide_BadPosition : PySem.W.kitOne K (.ref x_BadSide.C) (.ref x_BadPosition.C) = some false
  k_BadSide_FindsError : PySem.W.kitOne K (.ref x_BadSide.C) (.ref C_FindsError) = some true
structure TBs {P : Program} {K : PySem.W.Frag} {mg : Str → Option Value} (T : Tx P K mg) (base : Heap) : Prop where
  t_positions_with : GxR.TabB base mg T.c_positions_with T.P_positions_with
section
variable {P : Program} {w : World} {K : PySem.W.Frag} {mg : Str → Option Value} {base : Heap}
theorem sc_BadShape_init : ScE ["self", "place"] ["self", "place"] (defScope s_BadShape_init) := ⟨rfl, rfl, rfl, by decide +kernel, rfl, by decide +kernel, by decide +kernel, by decide +kernel, by decide +kernel, by decide +kernel⟩
theorem sc_BadPosition_init : ScE ["self", "position"] ["self", "position"] (defScope s_BadPosition_init) := ⟨rfl, rfl, rfl, by decide +kernel, rfl, by decide +kernel, by decide +kernel, by decide +kernel, by decide +kernel, by decide +kernel⟩
theorem sc_BadSide_init : ScE ["self", "side"] ["self", "side"] (defScope s_BadSide_init) := ⟨rfl, rfl, rfl, by decide +kernel, rfl, by decide +kernel, by decide +kernel, by decide +kernel, by decide +kernel, by decide +kernel⟩
theorem sc_side_masks : FnScope ["parents", "count", "branches", "wall", "parent", "masks", "position"] ["parents"] (defScope s_side_masks) := ⟨rfl, rfl, rfl, by decide +kernel, rfl, by decide +kernel, by decide +kernel⟩
theorem sc_Shape_init : FnScope ["self", "parents", "place", "parent"] ["self", "parents"] (defScope s_Shape_init) := ⟨rfl, rfl, rfl, by decide +kernel, rfl, by decide +kernel, by decide +kernel⟩
theorem sc_Shape_has : FnScope ["self", "position", "side"] ["self", "position", "side"] (defScope s_Shape_has) := ⟨rfl, rfl, rfl, by decide +kernel, rfl, by decide +kernel, by decide +kernel⟩
theorem sc_Shape_leads_inside : FnScope ["self", "side", "other"] ["self", "side", "other"] (defScope s_Shape_leads_inside) := ⟨rfl, rfl, rfl, by decide +kernel, rfl, by decide +kernel, by decide +kernel⟩
theorem sc_check_position : FnScope ["shape", "position"] ["shape", "position"] (defScope s_check_position) := ⟨rfl, rfl, rfl, by decide +kernel, rfl, by decide +kernel, by decide +kernel⟩
theorem sc_check_side : FnScope ["shape", "side"] ["shape", "side"] (defScope s_check_side) := ⟨rfl, rfl, rfl, by decide +kernel, rfl, by decide +kernel, by decide +kernel⟩
theorem sc_is_number_of_side : FnScope ["shape", "number"] ["shape", "number"] (defScope s_is_number_of_side) := ⟨rfl, rfl, rfl, by decide +kernel, rfl, by decide +kernel, by decide +kernel⟩
theorem sc_common : FnScope ["shape", "sides", "side", "positions", "first", "second"] ["shape", "sides"] (defScope s_common) := ⟨rfl, rfl, rfl, by decide +kernel, rfl, by decide +kernel, by decide +kernel⟩
theorem sc_positions_with : FnScope ["shape", "sides", "position", "side"] ["shape", "sides"] (defScope s_positions_with) := ⟨rfl, rfl, rfl, by decide +kernel, rfl, by decide +kernel, by decide +kernel⟩
theorem sc_first_apart : FnScope ["shape", "sides", "place", "second", "first"] ["shape", "sides"] (defScope s_first_apart) := ⟨rfl, rfl, rfl, by decide +kernel, rfl, by decide +kernel, by decide +kernel⟩
theorem sc_l_tape : FnScope ["_law_script", "_law_cell"] ["_law_script"] (defScope s_l_tape) := ⟨rfl, rfl, rfl, by decide +kernel, rfl, by decide +kernel, by decide +kernel⟩
theorem sc_l_next : FnScope ["_law_tape_here", "_law_size", "_law_cell", "_law_digit", "_law_mixed"] ["_law_tape_here", "_law_size"] (defScope s_l_next) := ⟨rfl, rfl, rfl, by decide +kernel, rfl, by decide +kernel, by decide +kernel⟩
theorem sc_l_parents : FnScope ["_law_tape_here", "_law_most", "_law_many", "_law_kind", "_law_parents_here", "_law_k"] ["_law_tape_here", "_law_most"] (defScope s_l_parents) := ⟨rfl, rfl, rfl, by decide +kernel, rfl, by decide +kernel, by decide +kernel⟩
theorem sc_l_above : FnScope ["_law_parents_here", "_law_position", "_law_found", "_law_turn"] ["_law_parents_here", "_law_position"] (defScope s_l_above) := ⟨rfl, rfl, rfl, by decide +kernel, rfl, by decide +kernel, by decide +kernel⟩
theorem sc_l_is_number : FnScope ["_law_thing"] ["_law_thing"] (defScope s_l_is_number) := ⟨rfl, rfl, rfl, by decide +kernel, rfl, by decide +kernel, by decide +kernel⟩
theorem sc_l_ints : FnScope ["_law_told", "_law_due", "_law_at"] ["_law_told", "_law_due"] (defScope s_l_ints) := ⟨rfl, rfl, rfl, by decide +kernel, rfl, by decide +kernel, by decide +kernel⟩
theorem sc_l_yes_or_no : FnScope ["_law_told", "_law_due"] ["_law_told", "_law_due"] (defScope s_l_yes_or_no) := ⟨rfl, rfl, rfl, by decide +kernel, rfl, by decide +kernel, by decide +kernel⟩
theorem sc_l_far : FnScope ["_law_tape_here"] ["_law_tape_here"] (defScope s_l_far) := ⟨rfl, rfl, rfl, by decide +kernel, rfl, by decide +kernel, by decide +kernel⟩
theorem sc_l_sides_had : FnScope ["_law_parents_here", "_law_position", "_law_above_here", "_law_had", "_law_k"] ["_law_parents_here", "_law_position"] (defScope s_l_sides_had) := ⟨rfl, rfl, rfl, by decide +kernel, rfl, by decide +kernel, by decide +kernel⟩
theorem sc_l_bad_side : FnScope ["_law_tape_here", "_law_parents_here", "_law_far_here"] ["_law_tape_here", "_law_parents_here"] (defScope s_l_bad_side) := ⟨rfl, rfl, rfl, by decide +kernel, rfl, by decide +kernel, by decide +kernel⟩
theorem sc_l_drawn_side : FnScope ["_law_tape_here", "_law_parents_here", "_law_number"] ["_law_tape_here", "_law_parents_here"] (defScope s_l_drawn_side) := ⟨rfl, rfl, rfl, by decide +kernel, rfl, by decide +kernel, by decide +kernel⟩
theorem sc_l_sides_drawn : FnScope ["_law_tape_here", "_law_parents_here", "_law_had", "_law_kind", "_law_home", "_law_chosen", "_law_j", "_law_at", "_law_again"] ["_law_tape_here", "_law_parents_here", "_law_had"] (defScope s_l_sides_drawn) := ⟨rfl, rfl, rfl, by decide +kernel, rfl, by decide +kernel, by decide +kernel⟩
theorem sc_l_have_all : FnScope ["_law_had", "_law_chosen", "_law_found", "_law_position", "_law_side"] ["_law_had", "_law_chosen"] (defScope s_l_have_all) := ⟨rfl, rfl, rfl, by decide +kernel, rfl, by decide +kernel, by decide +kernel⟩
theorem sc_l_common_told : FnScope ["_law_shape", "_law_had", "_law_handed", "_law_chosen", "_law_due", "_law_told", "_law_spoilt"] ["_law_shape", "_law_had", "_law_handed"] (defScope s_l_common_told) := ⟨rfl, rfl, rfl, by decide +kernel, rfl, by decide +kernel, by decide +kernel⟩
theorem sc_l_inside : FnScope ["_law_had", "_law_side", "_law_other", "_law_position"] ["_law_had", "_law_side", "_law_other"] (defScope s_l_inside) := ⟨rfl, rfl, rfl, by decide +kernel, rfl, by decide +kernel, by decide +kernel⟩
theorem sc_l_inside_told : FnScope ["_law_shape", "_law_had", "_law_side", "_law_k", "_law_other"] ["_law_shape", "_law_had", "_law_side"] (defScope s_l_inside_told) := ⟨rfl, rfl, rfl, by decide +kernel, rfl, by decide +kernel, by decide +kernel⟩
theorem sc_l_common_refused : FnScope ["_law_shape", "_law_sides", "_law_bad", "_law_handed", "e"] ["_law_shape", "_law_sides", "_law_bad"] (defScope s_l_common_refused) := ⟨rfl, rfl, rfl, by decide +kernel, rfl, by decide +kernel, by decide +kernel⟩
theorem sc_l_inside_refused : FnScope ["_law_shape", "_law_side", "_law_other", "_law_bad", "e"] ["_law_shape", "_law_side", "_law_other", "_law_bad"] (defScope s_l_inside_refused) := ⟨rfl, rfl, rfl, by decide +kernel, rfl, by decide +kernel, by decide +kernel⟩
theorem sc_l_refusals_told : FnScope ["_law_tape_here", "_law_shape", "_law_parents_here", "_law_chosen", "_law_bad", "_law_worse", "_law_side", "_law_at"] ["_law_tape_here", "_law_shape", "_law_parents_here", "_law_chosen"] (defScope s_l_refusals_told) := ⟨rfl, rfl, rfl, by decide +kernel, rfl, by decide +kernel, by decide +kernel⟩
theorem sc_law : FnScope ["_law_script", "_law_tape_here", "_law_parents_here", "_law_others", "_law_had", "_law_second", "_law_chosen", "_law_side", "_law_shape", "_law_other", "_law_handed", "_law_turn", "_law_at", "_law_k", "_law_here", "_law_j"] ["_law_script"] (defScope s_law) := ⟨rfl, rfl, rfl, by decide +kernel, rfl, by decide +kernel, by decide +kernel⟩
theorem bind_BadShape (T : Tx P K mg) : Binds K T.x_BadShape.fd ["self", "place"] [] := by
  obtain ⟨oc, od, kV, doc, pm, an, ct, osl, e, lk⟩ := T.x_BadShape.lk
  rw [e]
  exact .all fun us hl => match us, hl with | [_, _], _ => rfl
theorem init_BadShape (T : Tx P K mg) : FnOk P w K mg base L2.CX0 1 T.x_BadShape.fa T.x_BadShape.fd ["self", "place"] (spExc T.x_BadShape.C "place" IntS) := by
  obtain ⟨oc, od, kV, doc, pm, an, ct, osl, e, lk⟩ := T.x_BadShape.lk
  rw [e] at lk ⊢
  refine fn_exc lk T.x_BadShape.cod sc_BadShape_init T.x_BadShape.sup rfl rfl (fun vs H Q E h => ?_) (fun A outer s H vs Q E hr h => ?_)
  · obtain ⟨a, v, H0, rfl, _⟩ := h
    rfl
  obtain ⟨a, v, H0, rfl, ha, rfl, ⟨i, rfl, hi⟩, q⟩ := h
  have le0 : Str.empty.length = 0 := by decide +kernel
  have le1 : ("not a shape, at index " : Str).length = 22 := by decide +kernel
  refine ⟨a, [.int i], _, _, rfl, upd_same, pa_cons (pe_joined (.cons pe_str (.cons (pe_fmt (pv 1)) .nil))) pa_nil, pss_one (ps_ost (pv 0) (pv 1)), ?_⟩
  refine ⟨_, rfl, ?_, ?_⟩
  · (simp only [Str.length_append]; first | decide | (have hz := intS_len hi; rw [sizeLine_eq]; omega))
  refine ⟨_, rfl, .inr ⟨i, rfl, Nat.lt_of_lt_of_le hi (by decide), ?_⟩⟩
  refine ⟨_, rfl, ?_, ?_⟩
  · (simp only [Str.length_append]; first | decide | (have hz := intS_len hi; rw [sizeLine_eq]; omega))
  refine ⟨(by show 1 ≤ 1000; decide), upd_same, ?_⟩
  refine ⟨_, rfl, _, rfl, a, T.x_BadShape.C, rfl, T.x_BadShape.sup.oex, T.x_BadShape.xn, .inl ⟨upd_same, fun dx h1 h2 => ?_⟩⟩
  rw [upd_ne h2] at h1
  exact q dx h1 h2
theorem bind_BadPosition (T : Tx P K mg) : Binds K T.x_BadPosition.fd ["self", "position"] [] := by
  obtain ⟨oc, od, kV, doc, pm, an, ct, osl, e, lk⟩ := T.x_BadPosition.lk
  rw [e]
  exact .all fun us hl => match us, hl with | [_, _], _ => rfl
theorem init_BadPosition (T : Tx P K mg) : FnOk P w K mg base L2.CX0 1 T.x_BadPosition.fa T.x_BadPosition.fd ["self", "position"] (spExc T.x_BadPosition.C "position" IntS) := by
  obtain ⟨oc, od, kV, doc, pm, an, ct, osl, e, lk⟩ := T.x_BadPosition.lk
  rw [e] at lk ⊢
  refine fn_exc lk T.x_BadPosition.cod sc_BadPosition_init T.x_BadPosition.sup rfl rfl (fun vs H Q E h => ?_) (fun A outer s H vs Q E hr h => ?_)
  · obtain ⟨a, v, H0, rfl, _⟩ := h
    rfl
  obtain ⟨a, v, H0, rfl, ha, rfl, ⟨i, rfl, hi⟩, q⟩ := h
  have le0 : Str.empty.length = 0 := by decide +kernel
  have le1 : ("not a position: " : Str).length = 16 := by decide +kernel
  refine ⟨a, [.int i], _, _, rfl, upd_same, pa_cons (pe_joined (.cons pe_str (.cons (pe_fmt (pv 1)) .nil))) pa_nil, pss_one (ps_ost (pv 0) (pv 1)), ?_⟩
  refine ⟨_, rfl, ?_, ?_⟩
  · (simp only [Str.length_append]; first | decide | (have hz := intS_len hi; rw [sizeLine_eq]; omega))
  refine ⟨_, rfl, .inr ⟨i, rfl, Nat.lt_of_lt_of_le hi (by decide), ?_⟩⟩
  refine ⟨_, rfl, ?_, ?_⟩
  · (simp only [Str.length_append]; first | decide | (have hz := intS_len hi; rw [sizeLine_eq]; omega))
  refine ⟨(by show 1 ≤ 1000; decide), upd_same, ?_⟩
  refine ⟨_, rfl, _, rfl, a, T.x_BadPosition.C, rfl, T.x_BadPosition.sup.oex, T.x_BadPosition.xn, .inl ⟨upd_same, fun dx h1 h2 => ?_⟩⟩
  rw [upd_ne h2] at h1
  exact q dx h1 h2
theorem bind_BadSide (T : Tx P K mg) : Binds K T.x_BadSide.fd ["self", "side"] [] := by
  obtain ⟨oc, od, kV, doc, pm, an, ct, osl, e, lk⟩ := T.x_BadSide.lk
  rw [e]
  exact .all fun us hl => match us, hl with | [_, _], _ => rfl
theorem init_BadSide (T : Tx P K mg) : FnOk P w K mg base L2.CX0 1 T.x_BadSide.fa T.x_BadSide.fd ["self", "side"] (spExc T.x_BadSide.C "side" IntS) := by
  obtain ⟨oc, od, kV, doc, pm, an, ct, osl, e, lk⟩ := T.x_BadSide.lk
  rw [e] at lk ⊢
  refine fn_exc lk T.x_BadSide.cod sc_BadSide_init T.x_BadSide.sup rfl rfl (fun vs H Q E h => ?_) (fun A outer s H vs Q E hr h => ?_)
  · obtain ⟨a, v, H0, rfl, _⟩ := h
    rfl
  obtain ⟨a, v, H0, rfl, ha, rfl, ⟨i, rfl, hi⟩, q⟩ := h
  have le0 : Str.empty.length = 0 := by decide +kernel
  have le1 : ("not a side here: " : Str).length = 17 := by decide +kernel
  refine ⟨a, [.int i], _, _, rfl, upd_same, pa_cons (pe_joined (.cons pe_str (.cons (pe_fmtR (pv 1)) .nil))) pa_nil, pss_one (ps_ost (pv 0) (pv 1)), ?_⟩
  refine ⟨_, rfl, ?_, ?_⟩
  · (simp only [Str.length_append]; first | decide | (have hz := intS_len hi; rw [sizeLine_eq]; omega))
  refine ⟨_, rfl, .inr ⟨i, rfl, Nat.lt_of_lt_of_le hi (by decide), ?_⟩⟩
  refine ⟨_, rfl, ?_, ?_⟩
  · (simp only [Str.length_append]; first | decide | (have hz := intS_len hi; rw [sizeLine_eq]; omega))
  refine ⟨(by show 1 ≤ 1000; decide), upd_same, ?_⟩
  refine ⟨_, rfl, _, rfl, a, T.x_BadSide.C, rfl, T.x_BadSide.sup.oex, T.x_BadSide.xn, .inl ⟨upd_same, fun dx h1 h2 => ?_⟩⟩
  rw [upd_ne h2] at h1
  exact q dx h1 h2
end
section
variable {P : Program} {w : World} {K : PySem.W.Frag} {mg : Str → Option Value} {base : Heap}
theorem ok_side_masks (T : Tx P K mg) (TB : TBs T base) : FnOk P w K mg base L2.CX0 1 T.a_side_masks T.d_side_masks ["parents"] (spMasks K) := by
  refine T.F_side_masks.ok sc_side_masks (fun vs H Q E h => ?_) (fun cdv A outer s H vs Q E hr h => ?_)
  · obtain ⟨t, ps, rfl, _⟩ := h
    rfl
  · obtain ⟨t, ps, rfl, ht, ok, sm, q⟩ := h
    have hl : (nvs ps).length = ps.length := nvs_len ps
    refine ⟨_, (pss_cons (ps_set (i := 1) sc_side_masks.nd rfl (Or.inl rfl) (pe_op op_add (pe_callB (id := "len") call_len_seq (by rfl) T.z_len (by decide +kernel) (pa_cons (pv 0) pa_nil)) pe_int))
          (pss_cons (ps_setLc (i := 2) (own := [("position", 6)]) (g := gName 6) (tt := tYes) rfl sc_side_masks.nd rfl rfl (sw_true rfl rfl rfl (by decide +kernel)) (pi_range1 rfl T.z_range (pa_cons (pv 1) pa_nil)) (blkOk_by (N := ["parents", "count", "branches", "wall", "parent", "masks", "position"]) (sc := defScope s_side_masks) (by decide +kernel)) (fun _ _ _ _ _ => (pg_name (i := 6) sc_side_masks.nd rfl (Or.inl rfl))) (fun _ _ _ _ _ => pts_nil) (fun _ _ _ _ _ => (pe_op op_shl pe_int (pv 6))))
          (pss_cons (ps_for PassesOwn.never rfl (pi_range3 rfl T.z_range (pa_cons (pe_op op_sub (pv 1) pe_int) (pa_cons pe_int (pa_cons (pe_un un_neg pe_int) pa_nil)))) (pg_name (i := 3) sc_side_masks.nd rfl (Or.inl rfl))
          (pss_cons (ps_set (i := 4) sc_side_masks.nd rfl (Or.inl rfl) (pe_ix ix_tup (pv 0) (pe_op op_sub (pv 3) pe_int) (fun _ _ => rfl)))
          (pss_one (ps_asg (pe_op op_or (pe_ix ix_list (pv 2) (pv 4) (fun _ _ => rfl)) (pe_ix ix_list (pv 2) (pv 3) (fun _ _ => rfl))) (pg_sub (pv 2) (pv 4) set_list)))))
          (pss_cons (ps_set (i := 5) sc_side_masks.nd rfl (Or.inl rfl) pe_dnewK)
          (pss_cons (ps_for PassesOwn.never rfl (pi_range2 rfl T.z_range (pa_cons pe_int (pa_cons (pv 1) pa_nil))) (pg_name (i := 3) sc_side_masks.nd rfl (Or.inl rfl))
          (pss_cons (ps_dput (hu_of hr) (pv 5) (pv 3) (pe_ix ix_list (pv 2) (pv 3) (fun _ _ => rfl)) rfl)
          (pss_one (ps_dput (hu_of hr) (pv 5) (pe_un un_neg (pv 3)) (pe_op op_sub (pe_ix ix_list (pv 2) pe_int (fun _ _ => rfl)) (pe_ix ix_list (pv 2) (pv 3) (fun _ _ => rfl))) rfl))))
          (pss_one (ps_ret (pv 5)))))))), ?_⟩
    refine ⟨_, rfl, t, _, rfl, .inr ht, _, _, rfl, rfl, ?_⟩
    refine ⟨_, rfl, _, rfl, by omega, by omega, fun D hD => ?_⟩
    have en : ((((nvs ps).length : Nat) : Int) + 1).toNat = ps.length + 1 := by omega
    rw [en]
    refine lc_range (fun i H' => H' = upd H D (.lst (nvs ((List.range i).map (2 ^ ·))))) rfl ?_ ?_
    · rintro i _ hi rfl
      refine ⟨rfl, ?_⟩
      refine ⟨_, rfl, _, _, rfl, rfl, ⟨by omega, by omega, by decide⟩, _, upd_same, size_lt (by rw [nvs_len, List.length_map, List.length_range]; omega), ?_⟩
      rw [upd_upd, List.range_succ, List.map_append, List.map_cons, List.map_nil, ← nvs_snoc]
      have e : (1 : Int) * 2 ^ (0 + (i : Int)).toNat = ((2 ^ i : Nat) : Int) := by
        rw [show (0 + (i : Int)).toNat = i by omega]
        norm_cast
        omega
      dsimp only
      rw [e]
    · rintro _ rfl
      have b1 : ∀ b, b ≤ ps.length → ∃ m, ((List.range (ps.length + 1)).map (2 ^ ·))[b]? = some m ∧ Tr.Bits ps ps.length (ps.length - 0) b m := fun b hb =>
        ⟨2 ^ b, by rw [List.getElem?_map, List.getElem?_range (by omega)]; rfl, Tr.bits_start hb⟩
      have b0 : ((List.range (ps.length + 1)).map (2 ^ ·)).length = ps.length + 1 := by rw [List.length_map, List.length_range]
      generalize (List.range (ps.length + 1)).map (2 ^ ·) = bs0 at b0 b1 ⊢
      have tt : ∀ x, SqT K (upd H D x) t (nvs ps) := fun x => SqT_same (same_new hD) ht
      refine ⟨_, rfl, _, _, rfl, rfl, _, rfl, _, _, _, _, rfl, RgC.neg (by omega) (by omega) (by decide) (by decide), for_rangeC (fun i σ H' => ∃ (bs : List Nat) (a b : Option V), σ = [some (.ref t), some (.int (((nvs ps).length : Nat) + 1)), some (.ref D), a, b, none, none] ∧ H' = upd H D (.lst (nvs bs)) ∧ bs.length = ps.length + 1 ∧ ∀ b, b ≤ ps.length → ∃ m, bs[b]? = some m ∧ Tr.Bits ps ps.length (ps.length - i) b m)
        ⟨bs0, none, none, rfl, rfl, b0, b1⟩ ?_ ?_⟩
      · rintro i _ _ hi ⟨bs, a, b, rfl, rfl, hb0, hb⟩
        have hi' : i < ps.length := by omega
        obtain ⟨j, hj⟩ : ∃ j, ps.length - i = j + 1 := ⟨ps.length - i - 1, by omega⟩
        have pe := Tr.par_eq ok (p := j + 1) (by omega) (by omega)
        have pl := Tr.par_lt ps (p := j + 1) (by omega)
        obtain ⟨mw, w1, w2⟩ := hb (j + 1) (by omega)
        obtain ⟨mp, p1, p2⟩ := hb (Tr.par ps (j + 1)) (by omega)
        rw [hj] at w2 p2
        refine ⟨_, rfl, _, rfl, _, _, rfl, rfl, t, _, _, _, rfl, rfl, tt _, at_of (j := j) (by omega) (nvs_get pe), ?_⟩
        refine ⟨_, rfl, _, rfl, D, _, _, _, rfl, rfl, SqL.of upd_same, at_of (j := Tr.par ps (j + 1)) rfl (nvs_get p1), _, rfl, _, rfl, D, _, _, _, rfl, rfl, SqL.of upd_same, at_of (j := j + 1) (by omega) (nvs_get w1), _, _, rfl, rfl, ?_⟩
        refine ⟨_, rfl, _, rfl, D, _, _, _, rfl, rfl, upd_same, ixN_nat (by rw [nvs_len]; omega), ?_⟩
        have eo : Builtin.bitOr ((mp : Nat) : Int) ((mw : Nat) : Int) = ((mp ||| mw : Nat) : Int) := by
          have z := L2.bitOr_nn (x := (mp : Int)) (y := (mw : Int)) (by omega) (by omega)
          rw [z, Int.toNat_natCast, Int.toNat_natCast]
        refine ⟨bs.set (Tr.par ps (j + 1)) (mp ||| mw), _, _, rfl, ?_, by rw [List.length_set]; exact hb0, fun c hc => ?_⟩
        · dsimp only
          rw [upd_upd, eo, nvs_set]
        · have ej : ps.length - (i + 1) = j := by omega
          rw [ej]
          by_cases e : Tr.par ps (j + 1) = c
          · subst e
            exact ⟨_, List.getElem?_set_self (by omega), Tr.bits_or p2 w2⟩
          · obtain ⟨m, m1, m2⟩ := hb c hc
            rw [hj] at m2
            exact ⟨m, by rw [List.getElem?_set_ne e]; exact m1, Tr.bits_keep m2 e⟩
      · rintro _ _ ⟨bs, a, b, rfl, rfl, hb0, hb⟩
        have ez : ps.length - ((((nvs ps).length : Nat) : Int) + 1 - 1 - 0).toNat = 0 := by omega
        rw [ez] at hb
        obtain ⟨m0, z1, z2⟩ := hb 0 (by omega)
        intro d hd
        have hDd : D ≠ d := ne_of_none upd_same hd
        have hd0 : H d = Option.none := by
          rw [upd_ne hDd.symm] at hd
          exact hd
        have hDl : ∀ x, (upd (upd H D (.lst (nvs bs))) d x) D = some (.lst (nvs bs)) := fun x => by rw [upd_ne hDd, upd_same]
        refine ⟨_, rfl, _, _, rfl, ⟨by decide, by decide, by omega, by omega⟩, for_range (fun i σ H' => ∃ (kvs : List (Key × V)) (a : Option V), σ = [some (.ref t), some (.int (((nvs ps).length : Nat) + 1)), some (.ref D), a, b, some (.ref d), none] ∧ H' = upd (upd H D (.lst (nvs bs))) d (.dK kvs) ∧ kvs.length ≤ 2 * i ∧
          ∀ w, 1 ≤ w → w ≤ i → ∃ m m' : Nat, valV kvs (.inl (w : Int)) = some (.int m) ∧ valV kvs (.inl (-(w : Int))) = some (.int m') ∧ (∀ p, p ≤ ps.length → m.testBit p = Tr.has ps p w ∧ m'.testBit p = !Tr.has ps p w) ∧ m < 2 ^ (ps.length + 1) ∧ m' < 2 ^ (ps.length + 1))
          ⟨[], a, rfl, rfl, by simp, fun w h1 h2 => by omega⟩ ?_ ?_⟩
        · rintro i _ _ hi ⟨kvs, a, rfl, rfl, hk, hv⟩
          have hi' : i < ps.length := by omega
          obtain ⟨mw, w1, w2⟩ := hb (i + 1) (by omega)
          refine ⟨_, rfl, _, rfl, D, _, _, _, rfl, rfl, SqL.of (hDl _), at_of (j := i + 1) (by omega) (nvs_get w1), _, rfl, _, rfl, d, _, rfl, DPut.k (k := Sum.inl (1 + (i : Int))) upd_same (size_lt (by omega)), ?_⟩
          have hk2 := putK_len kvs (Sum.inl (1 + (i : Int))) (V.int (mw : Int))
          refine ⟨_, rfl, D, _, _, _, rfl, rfl, SqL.of (by rw [upd_upd]; exact hDl _), at_of (j := 0) rfl (nvs_get z1), _, rfl, _, rfl, D, _, _, _, rfl, rfl, SqL.of (by rw [upd_upd]; exact hDl _), at_of (j := i + 1) (by omega) (nvs_get w1), _, _, rfl, rfl, _, rfl, _, rfl, _, rfl, d, _, rfl, DPut.k (k := Sum.inl (-(1 + (i : Int)))) upd_same (size_lt (by omega)), ?_⟩
          have ml := Tr.mask_le w2 z2
          have ed : ((m0 : Nat) : Int) - ((mw : Nat) : Int) = ((m0 - mw : Nat) : Int) := by omega
          refine ⟨_, _, rfl, by rw [upd_upd, upd_upd], ?_, fun w h1 h2 => ?_⟩
          · have := putK_len (putK kvs (Sum.inl (1 + (i : Int))) (V.int (mw : Int))) (Sum.inl (-(1 + (i : Int)))) (V.int (((m0 : Nat) : Int) - ((mw : Nat) : Int)))
            dsimp only
            omega
          · rw [valV_put, valV_put, valV_put, valV_put]
            by_cases e : w = i + 1
            · subst e
              refine ⟨mw, m0 - mw, ?_, ?_, fun p hp => ⟨Tr.mask_pos h1 hp (show Tr.Bits ps ps.length 0 (i + 1) mw from w2), Tr.mask_neg h1 hp w2 z2⟩, Tr.bits_lt w2, Nat.lt_of_le_of_lt (Nat.sub_le _ _) (Tr.bits_lt z2)⟩
              · rw [if_neg (kv_ne (by omega)), if_pos (by rw [show ((i + 1 : Nat) : Int) = 1 + (i : Int) by omega])]
              · rw [if_pos (by rw [show ((i + 1 : Nat) : Int) = 1 + (i : Int) by omega])]
                dsimp only
                rw [ed]
            · obtain ⟨m, m', v1, v2, v3⟩ := hv w h1 (by omega)
              refine ⟨m, m', ?_, ?_, v3⟩
              · rw [if_neg (kv_ne (by omega)), if_neg (kv_ne (by omega))]
                exact v1
              · rw [if_neg (kv_ne (by omega)), if_neg (kv_ne (by omega))]
                exact v2
        · rintro _ _ ⟨kvs, a, rfl, rfl, hk, hv⟩
          refine ⟨_, rfl, q d kvs _ ((same_new hD).trans (same_new hd)) hd0 upd_same fun w h1 h2 => hv w h1 (by omega)⟩
theorem ok_is_number_of_side (T : Tx P K mg) (TB : TBs T base) : FnOk P w K mg base L2.CX0 1 T.a_is_number_of_side T.d_is_number_of_side ["shape", "number"] (spIsNum K T.C_Shape) := by
  refine T.F_is_number_of_side.ok sc_is_number_of_side (fun vs H Q E h => ?_) (fun cdv A outer s H vs Q E hr h => ?_)
  · obtain ⟨s, ps, p, rfl, _⟩ := h
    rfl
  · obtain ⟨s, ps, k, rfl, S, q⟩ := h
    obtain ⟨dx, t, d, kvs, hs, ht, hd, hM⟩ := S.at_
    have cS := T.cl_Shape
    have nP := T.n_Shape_parents
    have nZ := T.n_Shape_size
    have nM := T.n_Shape_masks
    refine ⟨_, (pss_one (ps_ret (pe_and (pe_cmpR op_ne (pv 1) pe_int (nomark _)) (pe_one (pe_chain op_le op_le (pe_un un_neg (pe_fld (pv 0) rfl)) (pv 1) (pe_fld (pv 0) rfl)))))), ?_⟩
    walk_at "rd"
    refine ite2 (fun h0 => ?_) (fun h0 => ?_)
    · walk_at "rd"
      refine ite2 (fun h1 => ?_) (fun h1 => ?_)
      · walk_at "rd"
        refine is_num q ?_
        simp at h0 h1 ⊢
        unfold IsSide
        omega
      · refine is_num q ?_
        simp at h0 h1 ⊢
        unfold IsSide
        omega
    · refine is_num q ?_
      simp at h0 ⊢
      unfold IsSide
      omega
theorem ok_check_position (T : Tx P K mg) (TB : TBs T base) : FnOk P w K mg base (L2.CX P w) 3 T.a_check_position T.d_check_position ["shape", "position"] (spChkPos K T.C_Shape T.x_BadPosition.C) := by
  refine T.F_check_position.okX sc_check_position (fun vs H Q E h => ?_) (fun cdv A outer s H vs Q E hr h => ?_)
  · obtain ⟨s, ps, p, rfl, _⟩ := h
    rfl
  · obtain ⟨s, ps, p, rfl, S, q1, q2⟩ := h
    obtain ⟨dx, t, d, kvs, hs, ht, hd, hM⟩ := S.at_
    have cS := T.cl_Shape
    have nP := T.n_Shape_parents
    have nZ := T.n_Shape_size
    have nM := T.n_Shape_masks
    refine ⟨_, (pss_one (ps_if (pt_not (pt_chain op_le op_le pe_int (pv 1) (pe_fld (pv 0) rfl)))
          (pss_one (ps_raise rfl (takes_of rfl rfl rfl rfl) (pmk_oex T.x_BadPosition.sup.oex T.x_BadPosition.iC T.x_BadPosition.tI (init_BadPosition T) (hr.mono (by decide)) (bind_BadPosition T) .nil pass0 rfl T.x_BadPosition.mgX (pa_cons (pv 1) pa_nil))))
          pss_nil)), ?_⟩
    walk_at "rd"
    refine ite2 (fun h0 => ?_) (fun h0 => ?_)
    · walk_at "rd"
      refine notIte (fun e => q1 ⟨of_decide_eq_true h0, of_decide_eq_true e⟩) (fun e => ?_)
      obtain ⟨sm, q2⟩ := q2 fun z => of_decide_eq_false e z.2
      exact ⟨_, rfl, mkO_intro sm.ok q2⟩
    · walk_at "rd"
      obtain ⟨sm, q2⟩ := q2 fun z => h0 (decide_eq_true z.1)
      exact mkO_intro sm.ok q2
theorem ok_check_side (T : Tx P K mg) (TB : TBs T base) : FnOk P w K mg base (L2.CX P w) 3 T.a_check_side T.d_check_side ["shape", "side"] (spChkSide K T.C_Shape T.x_BadSide.C) := by
  have G_is_number_of_side := ok_is_number_of_side (P := P) (w := w) (base := base) T TB
  refine T.F_check_side.okX sc_check_side (fun vs H Q E h => ?_) (fun cdv A outer s H vs Q E hr h => ?_)
  · obtain ⟨s, ps, p, rfl, _⟩ := h
    rfl
  · obtain ⟨s, ps, k, rfl, S, q1, q2⟩ := h
    refine ⟨_, (pss_one (ps_if (pt_not (pt_val (pe_call G_is_number_of_side (hr.mono (by decide)) rfl T.g_is_number_of_side T.F_is_number_of_side.kp T.B_is_number_of_side .nil pass0 (pa_cons (pv 0) (pa_cons (pv 1) pa_nil)))))
          (pss_one (ps_raise rfl (takes_of rfl rfl rfl rfl) (pmk_oex T.x_BadSide.sup.oex T.x_BadSide.iC T.x_BadSide.tI (init_BadSide T) (hr.mono (by decide)) (bind_BadSide T) .nil pass0 rfl T.x_BadSide.mgX (pa_cons (pv 1) pa_nil))))
          pss_nil)), ?_⟩
    refine ⟨_, rfl, _, rfl, s, ps, k, rfl, S, _, rfl, ?_⟩
    by_cases c : IsSide ps.length k
    · rw [decide_eq_true c]
      exact iteF (q1 c)
    · rw [decide_eq_false c]
      refine iteT ?_
      obtain ⟨sm, q2⟩ := q2 c
      refine ⟨_, rfl, mkO_intro sm.ok q2⟩
theorem ok_Shape_init (T : Tx P K mg) (TB : TBs T base) : FnOk P w K mg base (L2.CX P w) 3 T.a_Shape_init T.d_Shape_init ["self", "parents"] (spShape K T.C_Shape T.x_BadShape.C) := by
  have G_side_masks := ok_side_masks (P := P) (w := w) (base := base) T TB
  refine T.F_Shape_init.okX sc_Shape_init (fun vs H Q E h => ?_) (fun cdv A outer s H vs Q E hr h => ?_)
  · obtain ⟨s, dx, l, ns, rfl, _⟩ := h
    rfl
  · obtain ⟨s, dx, l, ns, rfl, hs, hl, sm, good, bad, emp⟩ := h
    have len : (ns.map V.int).length = ns.length := List.length_map ..
    refine ⟨_, (pss_cons (ps_for (passes_of rfl) rfl (pi_enumS rfl T.z_enumerate (pa_cons (pv 1) pa_nil)) (pg_tup rfl (pgs_cons (pg_name (i := 2) sc_Shape_init.nd rfl (Or.inl rfl)) (pgs_cons (pg_name (i := 3) sc_Shape_init.nd rfl (Or.inl rfl)) pgs_nil)))
          (pss_one (ps_if (pt_not (pt_chain op_le op_le pe_int (pv 3) (pv 2)))
          (pss_one (ps_raise rfl (takes_of rfl rfl rfl rfl) (pmk_oex T.x_BadShape.sup.oex T.x_BadShape.iC T.x_BadShape.tI (init_BadShape T) (hr.mono (by decide)) (bind_BadShape T) .nil pass0 rfl T.x_BadShape.mgX (pa_cons (pv 2) pa_nil))))
          pss_nil)))
          (pss_cons (ps_if (pt_cmpR op_eq (pe_callB (id := "len") call_len_seq (by rfl) T.z_len (by decide +kernel) (pa_cons (pv 1) pa_nil)) pe_int (nomark _))
          (pss_one (ps_raise rfl (takes_of rfl rfl rfl rfl) (pmk_oex T.x_BadShape.sup.oex T.x_BadShape.iC T.x_BadShape.tI (init_BadShape T) (hr.mono (by decide)) (bind_BadShape T) .nil pass0 rfl T.x_BadShape.mgX (pa_cons pe_int pa_nil))))
          pss_nil)
          (pss_cons (ps_fld (pv 0) (pe_callTy (T := "tuple") call_tuple_of (by rfl) T.z_tuple (by decide +kernel) (pa_cons (pv 1) pa_nil)) rfl)
          (pss_cons (ps_fld (pv 0) (pe_callB (id := "len") call_len_seq (by rfl) T.z_len (by decide +kernel) (pa_cons (pe_fld (pv 0) rfl) pa_nil)) rfl)
          (pss_one (ps_fld (pv 0) (pe_call G_side_masks (hr.mono (by decide)) rfl T.g_side_masks T.F_side_masks.kp T.B_side_masks .nil pass0 (pa_cons (pe_fld (pv 0) rfl) pa_nil)) rfl)))))), ?_⟩
    refine ⟨_, rfl, l, _, rfl, for_enumS hl (fun i σ H' => ∃ (a b : Option V), σ = [some (.ref s), some (.ref l), a, b] ∧ Same H H' ∧ ∀ j, j < i → ¬ Wrong ns j) ⟨none, none, rfl, Same.refl _, fun j hj => absurd hj (Nat.not_lt_zero _)⟩ (fun i σ H' _ ⟨_, _, _, sa, _⟩ => sa) ?_ ?_⟩
    · rintro i x t _ H1 hx ⟨a, b, rfl, sa, nw⟩ ht
      obtain ⟨p, hp, rfl⟩ : ∃ p, ns[i]? = some p ∧ x = V.int p := by
        rw [List.getElem?_map] at hx
        cases e : ns[i]? with
        | none => rw [e] at hx; cases hx
        | some p => rw [e] at hx; exact ⟨p, rfl, (Option.some.inj hx).symm⟩
      have hi : i < ns.length := (List.getElem?_eq_some_iff.mp hp).1
      have sb : Same H (upd H1 t (.tup [.int (i : Nat), .int p])) := sa.trans (same_new ht)
      have raise : ¬ (0 ≤ p ∧ p ≤ (i : Int)) → ∀ d, (upd H1 t (.tup [.int (i : Nat), .int p])) d = none → E (.ref T.x_BadShape.C) (some d) (upd (upd H1 t (.tup [.int (i : Nat), .int p])) d (.xd [("place", .int (i : Nat))])) := fun c d hd =>
        bad i ⟨p, hp, c⟩ nw d _ (sb.trans (same_new hd)) (sb.free hd) upd_same
      have iS : IntS (.int ((i : Nat) : Int)) (upd H1 t (.tup [.int (i : Nat), .int p])) := Small.ok (by unfold Small; omega)
      refine ⟨t, _, rfl, SqT.of upd_same, rfl, _, _, rfl, _, _, rfl, rfl, ?_⟩
      refine ⟨_, rfl, _, _, rfl, rfl, _, rfl, ?_⟩
      refine ite2 (fun h0 => ?_) (fun h0 => ?_)
      · refine ⟨_, rfl, _, _, rfl, rfl, _, rfl, ?_⟩
        refine notIte (fun e => ?_) (fun e => ?_)
        · refine ⟨_, _, rfl, sb, fun j hj => ?_⟩
          by_cases c : j < i
          · exact nw j c
          · obtain rfl : j = i := by omega
            rintro ⟨p', hp', c'⟩
            rw [hp] at hp'
            cases hp'
            exact c' ⟨of_decide_eq_true h0, of_decide_eq_true e⟩
        · exact ⟨_, rfl, mkO_intro iS (raise fun z => of_decide_eq_false e z.2)⟩
      · refine ⟨_, rfl, ?_⟩
        exact ⟨_, rfl, mkO_intro iS (raise fun z => h0 (decide_eq_true z.1))⟩
    · rintro _ H1 ⟨a, b, rfl, sa, nw⟩
      have hl1 : SqL K H1 l (ns.map V.int) ∨ SqT K H1 l (ns.map V.int) := hl.imp sa.seq (SqT_same sa)
      refine ⟨_, rfl, l, _, rfl, hl1, rfl, _, rfl, ?_⟩
      refine ite2 (fun h0 => ?_) (fun h0 => ?_)
      · have e : ns = [] := by
          have := of_decide_eq_true h0
          have z : ((ns.map V.int).length : Int) = 0 := V.int.inj this
          exact List.eq_nil_of_length_eq_zero (by omega)
        exact mkO_intro (Small.ok (by unfold Small; decide)) (fun d hd => emp e d _ (sa.trans (same_new hd)) (sa.free hd) upd_same)
      · have hne : ns.length ≠ 0 := fun z => h0 (decide_eq_true (by rw [len, z]; rfl))
        obtain ⟨ps, e1, e2, ok⟩ := ns_nat fun j => by
          by_cases c : j < (ns.map V.int).length
          · exact nw j c
          · rintro ⟨p, hp, _⟩
            have := (List.getElem?_eq_some_iff.mp hp).1
            omega
        rw [e1] at hl1
        have hs1 := sa _ _ hs
        refine ⟨_, rfl, l, nvs ps, rfl, ?_⟩
        rcases hl1 with hl1 | hl1
        · refine .inl ⟨hl1, fun t ht0 => ?_⟩
          have s12 : Same H1 (upd H1 t (.tup (nvs ps))) := same_new ht0
          have ht : SqT K (upd H1 t (.tup (nvs ps))) t (nvs ps) := SqT.of upd_same
          have hs2 := s12 _ _ hs1
          refine ⟨_, rfl, s, T.C_Shape, dx, _, rfl, hs2, T.cl_Shape, T.n_Shape_parents, (by decide), ?_⟩
          have ht2 : ∀ o, SqT K (upd (upd H1 t (.tup (nvs ps))) s o) t (nvs ps) := fun o => SqT_ins hs2 ht
          refine ⟨_, rfl, s, T.C_Shape, dx, _, _, rfl, upd_same, T.cl_Shape, T.n_Shape_parents, put_parents, t, _, rfl, .inr (ht2 _), _, rfl, s, T.C_Shape, dx, _, rfl, upd_same, T.cl_Shape, T.n_Shape_size, put_l1, ?_⟩
          rw [upd_upd]
          refine ⟨_, rfl, s, T.C_Shape, dx, _, _, rfl, upd_same, T.cl_Shape, T.n_Shape_parents, put_parents2, t, ps, rfl, ht2 _, ok, by omega, fun d kvs H3 same hd hd2 mk => ?_⟩
          have hs3 := same _ _ upd_same
          have nsd : s ≠ d := ne_of_none upd_same hd
          refine ⟨_, rfl, s, T.C_Shape, dx, _, rfl, hs3, T.cl_Shape, T.n_Shape_masks, put_l2, ?_⟩
          refine good ps _ e1 ok (by omega) ?_ ?_
          · exact ((But.of_same (sa.trans s12)).trans (But.set.trans (But.of_same same))).trans But.set
          · have e3 : (nvs ps).length = ps.length := nvs_len ps
            rw [e3, put_shf]
            exact ⟨ok, by omega, by omega, dx, t, d, kvs, upd_same, SqT_ins hs3 (SqT_same same (ht2 _)), by rw [upd_ne nsd.symm]; exact hd2, mk⟩
        · refine .inr ⟨hl1, ?_⟩
          have s12 : Same H1 H1 := Same.refl _
          have ht : SqT K H1 l (nvs ps) := hl1
          have hs2 := s12 _ _ hs1
          refine ⟨_, rfl, s, T.C_Shape, dx, _, rfl, hs2, T.cl_Shape, T.n_Shape_parents, (by decide), ?_⟩
          have ht2 : ∀ o, SqT K (upd H1 s o) l (nvs ps) := fun o => SqT_ins hs2 ht
          refine ⟨_, rfl, s, T.C_Shape, dx, _, _, rfl, upd_same, T.cl_Shape, T.n_Shape_parents, put_parents, l, _, rfl, .inr (ht2 _), _, rfl, s, T.C_Shape, dx, _, rfl, upd_same, T.cl_Shape, T.n_Shape_size, put_l1, ?_⟩
          rw [upd_upd]
          refine ⟨_, rfl, s, T.C_Shape, dx, _, _, rfl, upd_same, T.cl_Shape, T.n_Shape_parents, put_parents2, l, ps, rfl, ht2 _, ok, by omega, fun d kvs H3 same hd hd2 mk => ?_⟩
          have hs3 := same _ _ upd_same
          have nsd : s ≠ d := ne_of_none upd_same hd
          refine ⟨_, rfl, s, T.C_Shape, dx, _, rfl, hs3, T.cl_Shape, T.n_Shape_masks, put_l2, ?_⟩
          refine good ps _ e1 ok (by omega) ?_ ?_
          · exact ((But.of_same (sa.trans s12)).trans (But.set.trans (But.of_same same))).trans But.set
          · have e3 : (nvs ps).length = ps.length := nvs_len ps
            rw [e3, put_shf]
            exact ⟨ok, by omega, by omega, dx, l, d, kvs, upd_same, SqT_ins hs3 (SqT_same same (ht2 _)), by rw [upd_ne nsd.symm]; exact hd2, mk⟩
theorem ok_Shape_has (T : Tx P K mg) (TB : TBs T base) : FnOk P w K mg base (L2.CX P w) 4 T.a_Shape_has T.d_Shape_has ["self", "position", "side"] (spHas K T.C_Shape T.x_BadPosition.C T.x_BadSide.C) := by
  have G_check_position := ok_check_position (P := P) (w := w) (base := base) T TB
  have G_check_side := ok_check_side (P := P) (w := w) (base := base) T TB
  refine T.F_Shape_has.okX sc_Shape_has (fun vs H Q E h => ?_) (fun cdv A outer s H vs Q E hr h => ?_)
  · obtain ⟨s, ps, p, k, rfl, _⟩ := h
    rfl
  · obtain ⟨s, ps, p, k, rfl, S, q1, q2, q3⟩ := h
    obtain ⟨dx, t, d, kvs, hs, ht, hd, hM⟩ := S.at_
    have cS := T.cl_Shape
    have nP := T.n_Shape_parents
    have nZ := T.n_Shape_size
    have nM := T.n_Shape_masks
    refine ⟨_, (pss_cons (ps_expr (pe_call G_check_position hr rfl T.g_check_position T.F_check_position.kp T.B_check_position .nil pass_up (pa_cons (pv 0) (pa_cons (pv 1) pa_nil))))
          (pss_cons (ps_expr (pe_call G_check_side hr rfl T.g_check_side T.F_check_side.kp T.B_check_side .nil pass_up (pa_cons (pv 0) (pa_cons (pv 2) pa_nil))))
          (pss_one (ps_ret (pe_cmpR op_eq (pe_op op_and (pe_op op_shr (pe_dget (hu_of hr) (pe_fld (pv 0) rfl) (pv 2) (fun _ _ => rfl)) (pv 1)) pe_int) pe_int (nomark _)))))), ?_⟩
    refine ⟨_, rfl, _, rfl, s, ps, p, rfl, S, fun hp => ?_, q2⟩
    refine ⟨_, rfl, _, rfl, s, ps, k, rfl, S, fun hk => ?_, q3 hp⟩
    obtain ⟨m, hm, hb⟩ := mask_of hM hp hk
    walk_at "rd"
    have q := q1 hp hk
    refine ⟨d, .int m, rfl, ?_, ?_⟩
    · rw [← hm]
      exact DGet.k (k := Sum.inl k) hd
    walk_at "rd"
    refine ⟨hp.1, ?_⟩
    walk_at "rd"
    show Q (.bl (decide (V.int (Builtin.bitAnd ((m : Int) / 2 ^ p.toNat) 1) = V.int 1))) H
    rw [shr_ok, hb]
    cases hz : hasS ps p k
    · rw [hz] at q
      exact q
    · rw [hz] at q
      exact q
theorem ok_Shape_leads_inside (T : Tx P K mg) (TB : TBs T base) : FnOk P w K mg base (L2.CX P w) 4 T.a_Shape_leads_inside T.d_Shape_leads_inside ["self", "side", "other"] (spInside K T.C_Shape T.x_BadSide.C) := by
  have G_check_side := ok_check_side (P := P) (w := w) (base := base) T TB
  refine T.F_Shape_leads_inside.okX sc_Shape_leads_inside (fun vs H Q E h => ?_) (fun cdv A outer s H vs Q E hr h => ?_)
  · obtain ⟨s, ps, a, b, rfl, _⟩ := h
    rfl
  · obtain ⟨s, ps, a, b, rfl, S, good, bada, badb⟩ := h
    refine ⟨_, (pss_cons (ps_expr (pe_call G_check_side hr rfl T.g_check_side T.F_check_side.kp T.B_check_side .nil pass_up (pa_cons (pv 0) (pa_cons (pv 1) pa_nil))))
          (pss_cons (ps_expr (pe_call G_check_side hr rfl T.g_check_side T.F_check_side.kp T.B_check_side .nil pass_up (pa_cons (pv 0) (pa_cons (pv 2) pa_nil))))
          (pss_one (ps_ret (pe_cmpR op_eq (pe_op op_and (pe_dget (hu_of hr) (pe_fld (pv 0) rfl) (pv 1) (fun _ _ => rfl)) (pe_dget (hu_of hr) (pe_fld (pv 0) rfl) (pv 2) (fun _ _ => rfl))) (pe_dget (hu_of hr) (pe_fld (pv 0) rfl) (pv 1) (fun _ _ => rfl)) (nomark _)))))), ?_⟩
    refine ⟨_, rfl, _, rfl, s, ps, a, rfl, S, fun ha => ?_, bada⟩
    refine ⟨_, rfl, _, rfl, s, ps, b, rfl, S, fun hb => ?_, badb ha⟩
    obtain ⟨dx, t, d, kvs, hs, ht, hd, hM⟩ := S.at_
    obtain ⟨m, hm, b1, l1⟩ := mask_all hM ha
    obtain ⟨m', hm', b2, l2⟩ := mask_all hM hb
    refine ⟨_, rfl, _, _, _, _, _, rfl, hs, T.cl_Shape, T.n_Shape_masks, shf_masks, _, rfl, d, .int m, rfl, ?_, ?_⟩
    · rw [← hm]
      exact DGet.k (k := Sum.inl a) hd
    refine ⟨_, rfl, _, _, _, _, _, rfl, hs, T.cl_Shape, T.n_Shape_masks, shf_masks, _, rfl, d, .int m', rfl, ?_, ?_⟩
    · rw [← hm']
      exact DGet.k (k := Sum.inl b) hd
    refine ⟨_, _, rfl, rfl, ?_⟩
    refine ⟨_, rfl, _, _, _, _, _, rfl, hs, T.cl_Shape, T.n_Shape_masks, shf_masks, _, rfl, d, .int m, rfl, ?_, rfl, ?_⟩
    · rw [← hm]
      exact DGet.k (k := Sum.inl a) hd
    rw [and_ins b1 l1 b2]
    exact good ha hb
theorem ok_l_tape (T : Tx P K mg) (TB : TBs T base) : FnOk P w K mg base L2.CX0 1 T.a_l_tape T.d_l_tape ["_law_script"] (spTape K) := by
  refine T.F_l_tape.ok sc_l_tape (fun vs H Q E h => ?_) (fun cdv A outer s H vs Q E hr h => ?_)
  · obtain ⟨a, ns, rfl, _⟩ := h
    rfl
  · obtain ⟨a, ns, rfl, hl, sm, q⟩ := h
    have len : (ns.map V.int).length = ns.length := List.length_map ..
    refine ⟨_, (pss_one (ps_ret (pe_lst (pa_cons (pe_lc (own := [("_law_cell", 1)]) (g := gName 1) (tt := tYes) rfl sc_l_tape.nd (pi_list (pv 0)) (blkOk_by (N := ["_law_script", "_law_cell"]) (sc := defScope s_l_tape) (by decide +kernel)) (fun _ _ _ _ _ => (pg_name (i := 1) sc_l_tape.nd rfl (Or.inl rfl))) (fun _ _ _ _ _ => pts_nil) (fun _ _ _ _ _ => (pe_callB (id := "abs") call_abs (by rfl) T.z_abs (by decide +kernel) (pa_cons (pe_callTy (T := "int") call_int1 (by rfl) T.z_int (by decide +kernel) (pa_cons (pv 1) pa_nil)) pa_nil)))) (pa_cons pe_int (pa_cons pe_int (pa_cons pe_int (pa_cons pe_int pa_nil)))))))), ?_⟩
    refine ⟨_, rfl, a, rfl, ⟨_, hl⟩, fun D hD => ?_⟩
    have hl2 : ∀ x, SqL K (upd H D x) a (ns.map V.int) := fun x => (same_new hD).seq hl
    refine lc_list (K := K) (a := a) (xs := ns.map V.int) (fun k H' => H' = upd H D (.lst ((((ns.take k).map absI).map V.int)))) rfl (fun k H' _ e => by rw [e]; exact hl2 _) ?_ ?_
    · rintro k x _ hx rfl
      obtain ⟨p, hp, rfl⟩ := ns_get hx
      refine ⟨rfl, ?_⟩
      refine ⟨_, rfl, .inl ⟨_, rfl, _, rfl, _, upd_same, size_lt ?_, ?_⟩⟩
      · rw [List.length_map, List.length_map, List.length_take]
        omega
      · rw [upd_upd]
        have hk := (List.getElem?_eq_some_iff.mp hp).1
        rw [List.take_succ_eq_append_getElem hk, (List.getElem?_eq_some_iff.mp hp).2, List.map_append, List.map_append]
        rfl
    · rintro _ rfl
      refine ⟨(by show 5 ≤ sizeLine; exact size_le (by omega)), fun t ht => ?_⟩
      have nt : D ≠ t := ne_of_none upd_same ht
      refine q t D _ ((same_new hD).trans (same_new ht)) ((same_new hD).free ht) ⟨(ns.take (ns.map V.int).length).map absI, 0, 0, 0, 0, upd_same, by rw [upd_ne nt]; exact upd_same, Int.le_refl 0⟩
theorem ok_l_next (T : Tx P K mg) (TB : TBs T base) : FnOk P w K mg base L2.CX0 1 T.a_l_next T.d_l_next ["_law_tape_here", "_law_size"] (spNext) := by
  refine T.F_l_next.ok sc_l_next (fun vs H Q E h => ?_) (fun cdv A outer s H vs Q E hr h => ?_)
  · obtain ⟨t, u, n, rfl, _⟩ := h
    rfl
  · obtain ⟨t, u, n, rfl, n0, n1, ⟨xs, i, b, sm, c, ht, hu, hi⟩, q⟩ := h
    have nut : u ≠ t := fun e => by
      rw [e, ht] at hu
      exact ints_tp (HO.lst.inj (Option.some.inj hu)).symm
    have wn : CDivW 0 n := wide_div (b := 60) n0 (by omega) (by decide) (by decide)
    refine ⟨_, (pss_cons (ps_asg (pe_op op_add (pe_ix ix_list (pv 0) pe_int (fun _ _ => rfl)) pe_int) (pg_sub (pv 0) pe_int set_list))
          (C8.pss_cut (ps_if (PW.pt (pw_and (pt_cmpR op_eq (pe_ix ix_list (pv 0) pe_int (fun _ _ => rfl)) pe_int (nomark _)) (pw_and (pt_cmpR op_lt (pe_ix ix_list (pv 0) pe_int (fun _ _ => rfl)) (pe_callB (id := "len") call_len_seq (by rfl) T.z_len (by decide +kernel) (pa_cons (pe_ix ix_list (pv 0) pe_int (fun _ _ => rfl)) pa_nil)) (nomark _)) (pw_and1 (pt_cmpR op_eq (pe_op op_mod (pe_callTy (T := "int") call_int1 (by rfl) T.z_int (by decide +kernel) (pa_cons (pe_ix ix_list (pv 0) pe_int (fun _ _ => rfl)) pa_nil)) pe_int) pe_int (nomark _))))))
          (pss_cons (ps_set (i := 2) sc_l_next.nd rfl (Or.inl rfl) (pe_ix ix_list (pe_ix ix_list (pv 0) pe_int (fun _ _ => rfl)) (pe_ix ix_list (pv 0) pe_int (fun _ _ => rfl)) (fun _ _ => rfl)))
          (pss_cons (ps_asg (pe_op op_add (pe_ix ix_list (pv 0) pe_int (fun _ _ => rfl)) pe_int) (pg_sub (pv 0) pe_int set_list))
          (pss_one (ps_if (pt_cmpR op_ge (pv 2) (pe_op op_pow pe_int pe_int) (nomark _))
          (pss_one (ps_asg (pv 2) (pg_sub (pv 0) pe_int set_list)))
          (pss_one (ps_asg (pv 2) (pg_sub (pv 0) pe_int set_list)))))))
          pss_nil)
          (pss_cons (ps_if (pt_cmpR op_gt (pe_ix ix_list (pv 0) pe_int (fun _ _ => rfl)) pe_int (nomark _))
          (pss_cons (ps_set (i := 3) sc_l_next.nd rfl (Or.inl rfl) (pe_op op_mod (pe_callTy (T := "int") call_int1 (by rfl) T.z_int (by decide +kernel) (pa_cons (pe_ix ix_list (pv 0) pe_int (fun _ _ => rfl)) pa_nil)) (pv 1)))
          (pss_cons (ps_asg (pe_op op_fdivW (pe_ix ix_list (pv 0) pe_int (fun _ _ => rfl)) (pv 1)) (pg_sub (pv 0) pe_int set_list))
          (pss_one (ps_ret (pv 3)))))
          pss_nil)
          (pss_cons (ps_set (i := 4) sc_l_next.nd rfl (Or.inl rfl) (pe_op op_mod (pe_callTy (T := "int") call_int1 (by rfl) T.z_int (by decide +kernel) (pa_cons (pe_op op_add (pe_op op_add (pe_ix ix_list (pv 0) pe_int (fun _ _ => rfl)) (pe_op op_mul pe_int (pe_ix ix_list (pv 0) pe_int (fun _ _ => rfl)))) pe_int) pa_nil)) pe_int))
          (pss_cons (ps_set (i := 4) sc_l_next.nd rfl (Or.inl rfl) (pe_op op_mod (pe_callTy (T := "int") call_int1 (by rfl) T.z_int (by decide +kernel) (pa_cons (pe_op op_mul (pv 4) (pe_op op_add (pv 4) pe_int)) pa_nil)) pe_int))
          (pss_cons (ps_set (i := 4) sc_l_next.nd rfl (Or.inl rfl) (pe_op op_mod (pe_callTy (T := "int") call_int1 (by rfl) T.z_int (by decide +kernel) (pa_cons (pe_op op_add (pe_op op_mul (pv 4) (pe_op op_add (pv 4) pe_int)) (pe_op op_mul pe_int (pe_ix ix_list (pv 0) pe_int (fun _ _ => rfl)))) pa_nil)) pe_int))
          (pss_one (ps_ret (pe_op op_mod (pe_callTy (T := "int") call_int1 (by rfl) T.z_int (by decide +kernel) (pa_cons (pe_op op_fdivW (pv 4) pe_int) pa_nil)) (pv 1)))))))))), ?_⟩
    refine ⟨_, rfl, t, tp u i b sm c, _, _, rfl, rfl, SqL.of ht, rfl, _, _, rfl, rfl, ?_⟩
    refine ⟨_, rfl, t, tp u i b sm c, _, _, rfl, rfl, ht, rfl, ?_⟩
    refine ⟨fun σ H' => ∃ (v : Option V) (i b sm c : Int), 0 ≤ i ∧ σ = [some (.ref t), some (.int n), v, none, none] ∧ H' = upd H t (.lst (tp u i b sm c)), ?_, ?_⟩
    · have hH : ∀ o, (upd H t o) u = some (.lst (xs.map V.int)) := fun o => by rw [upd_ne nut]; exact hu
      have no : ∃ (v : Option V) (i' b' sm' c' : Int), 0 ≤ i' ∧ ([some (.ref t), some (.int n), none, none, none] : List (Option V)) = [some (.ref t), some (.int n), v, none, none] ∧ upd H t (.lst (tp u i b sm (c + 1))) = upd H t (.lst (tp u i' b' sm' c')) := ⟨none, i, b, sm, c + 1, hi, rfl, rfl⟩
      refine ⟨_, rfl, _, _, _, _, rfl, rfl, SqL.of upd_same, rfl, rfl, _, rfl, ?_⟩
      refine boolIte (fun h1 => ?_) (fun h1 => no)
      refine ⟨_, rfl, _, _, _, _, rfl, rfl, SqL.of upd_same, rfl, _, rfl, _, _, _, _, rfl, rfl, SqL.of upd_same, rfl, u, _, rfl, .inl (SqL.of (hH _)), _, _, rfl, rfl, _, rfl, ?_⟩
      refine boolIte (fun h2 => ?_) (fun h2 => no)
      refine ⟨_, rfl, _, _, _, _, rfl, rfl, SqL.of upd_same, rfl, .inl ⟨_, rfl, _, _, rfl, rfl, (by show (0 : Int) < 4; decide), rfl, _, rfl, ?_⟩⟩
      refine boolIte (fun h3 => ?_) (fun h3 => no)
      have hlt : i < (((xs.map V.int).length : Nat) : Int) := of_decide_eq_true h2
      rw [List.length_map] at hlt
      obtain ⟨x, hx⟩ : ∃ x, xs[i.toNat]? = some x := ⟨xs[i.toNat]'(by omega), List.getElem?_eq_getElem _⟩
      refine ⟨_, rfl, _, _, _, _, rfl, rfl, SqL.of upd_same, rfl, _, rfl, _, _, _, _, rfl, rfl, SqL.of upd_same, rfl, u, _, _, _, rfl, rfl, SqL.of (hH _), at_of (j := i.toNat) (v := V.int x) (by omega) (by rw [List.getElem?_map, hx]; rfl), ?_⟩
      refine ⟨_, rfl, _, _, _, _, rfl, rfl, SqL.of upd_same, rfl, _, _, rfl, rfl, ?_⟩
      refine ⟨_, rfl, t, _, _, _, rfl, rfl, upd_same, rfl, ?_⟩
      rw [upd_upd]
      refine ⟨_, rfl, _, _, rfl, rfl, ⟨by decide, by decide, by decide⟩, _, _, rfl, rfl, _, rfl, ?_⟩
      refine boolIte (fun h4 => ?_) (fun h4 => ?_)
      · refine ⟨_, rfl, _, rfl, t, _, _, _, rfl, rfl, upd_same, rfl, ?_⟩
        rw [upd_upd]
        exact ⟨_, i + 1, x, sm, c + 1, by omega, rfl, rfl⟩
      · refine ⟨_, rfl, _, rfl, t, _, _, _, rfl, rfl, upd_same, rfl, ?_⟩
        rw [upd_upd]
        exact ⟨_, i + 1, b, x, c + 1, by omega, rfl, rfl⟩
    · rintro _ _ ⟨v, i, b, sm, c, hi, rfl, rfl⟩
      have hH : ∀ o, (upd H t o) u = some (.lst (xs.map V.int)) := fun o => by rw [upd_ne nut]; exact hu
      have fin : ∀ (r : Int) (i b sm c : Int), 0 ≤ i → 0 ≤ r → r < n → Q (.int r) (upd H t (.lst (tp u i b sm c))) := fun r i b sm c hi r0 r1 => by
        have := q r.toNat (upd H t (.lst (tp u i b sm c))) (by omega) ⟨xs, i, b, sm, c, upd_same, hH _, hi⟩ But.set (fun b hb => upd_ne hb)
        rw [show ((r.toNat : Nat) : Int) = r by omega] at this
        exact this
      refine ⟨_, rfl, _, _, _, _, rfl, rfl, SqL.of upd_same, rfl, _, _, rfl, rfl, _, rfl, ?_⟩
      refine boolIte (fun h1 => ?_) (fun h1 => ?_)
      · refine ⟨_, rfl, _, _, _, _, rfl, rfl, SqL.of upd_same, rfl, .inl ⟨_, rfl, _, rfl, _, _, rfl, rfl, n0, ?_⟩⟩
        refine ⟨_, rfl, _, _, _, _, rfl, rfl, SqL.of upd_same, rfl, _, rfl, _, _, rfl, rfl, wn, ?_⟩
        refine ⟨_, rfl, t, _, _, _, rfl, rfl, upd_same, rfl, ?_⟩
        refine ⟨_, rfl, ?_⟩
        rw [upd_upd]
        exact fin _ i _ sm c hi (Int.emod_nonneg _ (by omega)) (Int.emod_lt_of_pos _ n0)
      · refine ⟨_, rfl, _, _, _, _, rfl, rfl, SqL.of upd_same, rfl, _, rfl, _, _, _, _, rfl, rfl, SqL.of upd_same, rfl, _, _, rfl, rfl, .inl ⟨by decide, by decide⟩, _, _, rfl, rfl, _, _, rfl, rfl, .inl ⟨_, rfl, _, _, rfl, rfl, (by show (0 : Int) < 2147483647; decide), ?_⟩⟩
        have b1 := emod_in (x := sm + 7919 * c + 13) (m := 2147483647) (by decide)
        dsimp only
        generalize (sm + 7919 * c + 13) % 2147483647 = m1 at b1 ⊢
        refine ⟨_, rfl, _, rfl, _, _, rfl, rfl, _, _, rfl, rfl, .inl ⟨by omega, by omega⟩, .inl ⟨_, rfl, _, _, rfl, rfl, (by show (0 : Int) < 2147483629; decide), ?_⟩⟩
        have b2 := emod_in (x := m1 * (m1 + 48271)) (m := 2147483629) (by decide)
        dsimp only
        generalize m1 * (m1 + 48271) % 2147483629 = m2 at b2 ⊢
        refine ⟨_, rfl, _, rfl, _, _, rfl, rfl, _, _, rfl, rfl, .inl ⟨by omega, by omega⟩, _, rfl, _, _, _, _, rfl, rfl, SqL.of upd_same, rfl, _, _, rfl, rfl, .inl ⟨by decide, by decide⟩, _, _, rfl, rfl, .inl ⟨_, rfl, _, _, rfl, rfl, (by show (0 : Int) < 2147483647; decide), ?_⟩⟩
        refine ⟨_, rfl, _, _, rfl, rfl, wide_div (b := 4) (by decide) (by decide) (by decide) (by decide), .inl ⟨_, rfl, _, rfl, _, _, rfl, rfl, n0, ?_⟩⟩
        exact fin _ i b sm c hi (Int.emod_nonneg _ (by omega)) (Int.emod_lt_of_pos _ n0)
theorem ok_l_parents (T : Tx P K mg) (TB : TBs T base) : FnOk P w K mg base L2.CX0 2 T.a_l_parents T.d_l_parents ["_law_tape_here", "_law_most"] (spLParents) := by
  have G_l_next := ok_l_next (P := P) (w := w) (base := base) T TB
  refine T.F_l_parents.ok sc_l_parents (fun vs H Q E h => ?_) (fun cdv A outer s H vs Q E hr h => ?_)
  · obtain ⟨t, u, m, rfl, _⟩ := h
    rfl
  · obtain ⟨t, u, m, rfl, m1, m2, hT, q⟩ := h
    refine ⟨_, (pss_cons (ps_set (i := 2) sc_l_parents.nd rfl (Or.inl rfl) (pe_op op_add pe_int (pe_call G_l_next hr rfl T.g_l_next T.F_l_next.kp T.B_l_next .nil pass0 (pa_cons (pv 0) (pa_cons (pv 1) pa_nil)))))
          (pss_cons (ps_set (i := 3) sc_l_parents.nd rfl (Or.inl rfl) (pe_call G_l_next hr rfl T.g_l_next T.F_l_next.kp T.B_l_next .nil pass0 (pa_cons (pv 0) (pa_cons pe_int pa_nil))))
          (pss_cons (ps_set (i := 4) sc_l_parents.nd rfl (Or.inl rfl) (pe_lst pa_nil))
          (pss_cons (ps_for PassesOwn.never rfl (pi_range1 rfl T.z_range (pa_cons (pv 2) pa_nil)) (pg_name (i := 5) sc_l_parents.nd rfl (Or.inl rfl))
          (pss_one (ps_if (pt_cmpR op_eq (pv 3) pe_int (nomark _))
          (pss_one (ps_expr (pe_bm PySem.F.plainAttrs_list PySem.F.slot_list_append PySem.F.type_list_append mt_append (pv 4) (pa_cons (pv 5) pa_nil))))
          (pss_one (ps_expr (pe_bm PySem.F.plainAttrs_list PySem.F.slot_list_append PySem.F.type_list_append mt_append (pv 4) (pa_cons (pe_call G_l_next hr rfl T.g_l_next T.F_l_next.kp T.B_l_next .nil pass0 (pa_cons (pv 0) (pa_cons (pe_op op_add (pv 5) pe_int) pa_nil))) pa_nil)))))))
          (pss_one (ps_ret (pv 4))))))), ?_⟩
    refine ⟨_, rfl, _, rfl, t, u, (m : Int), rfl, by omega, by omega, hT, fun r H1 hr hT1 k1 _ => ?_⟩
    refine ⟨_, _, rfl, rfl, ?_⟩
    refine ⟨_, rfl, t, u, 3, rfl, by decide, by decide, hT1, fun kd H2 _ hT2 k2 _ => ?_⟩
    refine ⟨Nat.zero_le _, fun l hl => ?_⟩
    have k3 := k1.trans k2
    have hlt : l ≠ t := fun e => hT2.new (by rw [← e]; exact hl)
    have hlu : u ≠ l := fun e => hT2.newu (by rw [e]; exact hl)
    have hl0 : H l = Option.none := k3.free hlt hl
    refine ⟨_, rfl, _, rfl, by omega, by omega, for_range (fun i σ H' => ∃ (ps : List Nat) (v : Option V), σ = [some (.ref t), some (.int m), some (.int (1 + (r : Int))), some (.int (kd : Int)), some (.ref l), v] ∧ Tr.Ok ps ∧ ps.length = i ∧ Tape H' t u ∧ But t H H' ∧ H' l = some (.lst (nvs ps)))
      ⟨[], none, rfl, fun i p h => by simp at h, rfl, hT2.same (same_new hl), k3.trans (But.of_new hl), upd_same⟩ ?_ ?_⟩
    · rintro i _ H3 hi ⟨ps, v, rfl, ok, hlen, hT3, k4, h3⟩
      have add : ∀ (p : Nat) (H4 : Hp), p ≤ i → Tape H4 t u → But t H H4 → H4 l = some (.lst (nvs ps)) → ∃ (ps' : List Nat) (v : Option V), ([some (.ref t), some (.int m), some (.int (1 + (r : Int))), some (.int (kd : Int)), some (.ref l), some (.int (0 + (i : Int)))] : List (Option V)) = [some (.ref t), some (.int m), some (.int (1 + (r : Int))), some (.int (kd : Int)), some (.ref l), v] ∧ Tr.Ok ps' ∧ ps'.length = i + 1 ∧ Tape (upd H4 l (.lst (nvs ps ++ [V.int (p : Int)]))) t u ∧ But t H (upd H4 l (.lst (nvs ps ++ [V.int (p : Int)]))) ∧ (upd H4 l (.lst (nvs ps ++ [V.int (p : Int)]))) l = some (.lst (nvs ps')) := fun p H4 hp hT4 k5 h4 => by
        refine ⟨ps ++ [p], _, rfl, ?_, by rw [List.length_append, hlen]; rfl, ?_, k5.upd_at hl0, by rw [upd_same, nvs_snoc]⟩
        · intro j x hx
          rw [List.getElem?_append] at hx
          split at hx
          · exact ok j x hx
          · rename_i hj
            obtain rfl : p = x := by
              cases e : j - ps.length with
              | zero => rw [e] at hx; exact Option.some.inj hx
              | succ z => rw [e] at hx; cases hx
            omega
        · obtain ⟨xs, i', b', s', c', a1, a2, a3⟩ := hT4
          exact ⟨xs, i', b', s', c', by rw [upd_ne hlt.symm]; exact a1, by rw [upd_ne hlu]; exact a2, a3⟩
      refine ⟨_, rfl, rfl, _, rfl, ?_⟩
      refine boolIte (fun h1 => ?_) (fun h1 => ?_)
      · refine ⟨_, rfl, .inl ⟨rfl, _, SqL.of h3⟩, _, rfl, l, _, _, rfl, rfl, h3, size_lt (by rw [nvs_len]; omega), ?_⟩
        have := add i H3 (Nat.le_refl _) hT3 k4 h3
        rw [show ((0 : Int) + (i : Int)) = (i : Int) by omega] at this ⊢
        exact this
      · refine ⟨_, rfl, .inl ⟨rfl, _, SqL.of h3⟩, _, rfl, _, rfl, _, _, rfl, rfl, t, u, (0 + (i : Int) + 1), rfl, by omega, by omega, hT3, fun p H4 hp hT4 k5 same5 => ?_⟩
        have h4 : H4 l = some (.lst (nvs ps)) := k5 l _ hlt h3
        refine ⟨l, _, _, rfl, rfl, h4, size_lt (by rw [nvs_len]; omega), ?_⟩
        exact add p H4 (by omega) hT4 (k4.trans k5) h4
    · rintro _ H3 ⟨ps, v, rfl, ok, hlen, hT3, k4, h3⟩
      refine ⟨_, rfl, q l ps H3 ok (by omega) (by omega) hT3 k4 hl0 h3⟩
theorem ok_l_above (T : Tx P K mg) (TB : TBs T base) : FnOk P w K mg base L2.CX0 1 T.a_l_above T.d_l_above ["_law_parents_here", "_law_position"] (spAbove K) := by
  refine T.F_l_above.ok sc_l_above (fun vs H Q E h => ?_) (fun cdv A outer s H vs Q E hr h => ?_)
  · obtain ⟨l, ps, p, rfl, _⟩ := h
    rfl
  · obtain ⟨l, ps, p, rfl, hl, ok, sm, hp, q⟩ := h
    have len := nvs_len ps
    refine ⟨_, (pss_cons (ps_set (i := 2) sc_l_above.nd rfl (Or.inl rfl) (pe_lst pa_nil))
          (pss_cons (ps_for PassesOwn.never rfl (pi_range1 rfl T.z_range (pa_cons (pe_op op_add (pe_callB (id := "len") call_len_seq (by rfl) T.z_len (by decide +kernel) (pa_cons (pv 0) pa_nil)) pe_int) pa_nil)) (pg_name (i := 3) sc_l_above.nd rfl (Or.inl rfl))
          (pss_cons (ps_if (pt_cmpR op_le (pv 1) pe_int (nomark _))
          (pss_one ps_break)
          pss_nil)
          (pss_cons (ps_expr (pe_bm PySem.F.plainAttrs_list PySem.F.slot_list_append PySem.F.type_list_append mt_append (pv 2) (pa_cons (pv 1) pa_nil)))
          (pss_one (ps_set (i := 1) sc_l_above.nd rfl (Or.inl rfl) (pe_ix ix_list (pv 0) (pe_op op_sub (pv 1) pe_int) (fun _ _ => rfl)))))))
          (pss_one (ps_ret (pv 2))))), ?_⟩
    refine ⟨Nat.zero_le _, fun r hr => ?_⟩
    have hl1 : ∀ x, SqL K (upd H r x) l (nvs ps) := fun x => (same_new hr).seq hl
    have fin : ∀ done, done ++ Tr.up ps 0 = Tr.up ps p → Q (.ref r) (upd H r (.lst (nvs done))) := fun done e => by
      rw [Tr.up_zero, List.append_nil] at e
      exact q r _ (same_new hr) hr (by rw [upd_same, e])
    refine ⟨_, rfl, l, _, rfl, .inl (hl1 _), _, _, rfl, rfl, _, rfl, by omega, by omega, for_range (fun i σ H' => ∃ (done : List Nat) (x : Nat) (v : Option V), σ = [some (.ref l), some (.int (x : Int)), some (.ref r), v] ∧ H' = upd H r (.lst (nvs done)) ∧ done ++ Tr.up ps x = Tr.up ps p ∧ x + i ≤ p ∧ done.length ≤ i)
      ⟨[], p, none, rfl, rfl, rfl, Nat.le_refl _, Nat.le_refl _⟩ ?_ ?_⟩
    · rintro i _ _ hi ⟨done, x, v, rfl, rfl, e, hx, hd⟩
      refine ⟨_, rfl, _, _, rfl, rfl, _, rfl, ?_⟩
      refine boolIte (fun h1 => ?_) (fun h1 => ?_)
      · obtain rfl : x = 0 := by
          have := of_decide_eq_true h1
          omega
        exact ⟨_, rfl, fin done e⟩
      · have x1 : 1 ≤ x := by
          have := of_decide_eq_false h1
          omega
        have pe := Tr.par_eq ok x1 (by omega)
        have pl := Tr.par_lt ps x1
        refine ⟨_, rfl, .inl ⟨rfl, _, SqL.of upd_same⟩, _, rfl, r, _, _, rfl, rfl, upd_same, size_lt (by rw [nvs_len]; omega), ?_⟩
        refine ⟨_, rfl, _, rfl, _, _, rfl, rfl, l, _, _, _, rfl, rfl, by rw [upd_upd]; exact hl1 _, at_of (j := x - 1) (by omega) (nvs_get pe), ?_⟩
        refine ⟨done ++ [x], Tr.par ps x, _, rfl, by rw [upd_upd, nvs_snoc], ?_, by omega, by rw [List.length_append]; exact Nat.add_le_add_right hd 1⟩
        rw [List.append_assoc, ← e]
        conv => rhs; rw [Tr.up_pos ps x1]
        rfl
    · rintro _ _ ⟨done, x, v, rfl, rfl, e, hx, hd⟩
      omega
theorem ok_l_is_number (T : Tx P K mg) (TB : TBs T base) : FnQ P w K mg base 1 T.a_l_is_number T.d_l_is_number ["_law_thing"] (spIsNumber) := by
  refine EP.Fun.okQ T.F_l_is_number sc_l_is_number (fun vs H Q E h => ?_) (fun cdv A outer s H vs Q hr h => ?_)
  · obtain ⟨i, rfl, _⟩ := h
    rfl
  · obtain ⟨i, rfl, q⟩ := h
    refine ⟨_, (pss_one (ps_ret (pe_and (pe_callB (id := "isinstance") call_isi (by rfl) T.z_isinstance (by decide +kernel) (pa_cons (pv 0) (pa_cons (pe_bltn (v := .ty "int") rfl T.z_int (by decide +kernel) rfl) pa_nil))) (pe_one (pe_not (pe_callB (id := "isinstance") call_isi (by rfl) T.z_isinstance (by decide +kernel) (pa_cons (pv 0) (pa_cons (pe_bltn (v := .ty "bool") rfl T.z_bool (by decide +kernel) rfl) pa_nil)))))))), ?_⟩
    refine ⟨_, rfl, _, _, _, _, _, rfl, .ty "int", .base (.int i), kit_ty (r := true) (by decide +kernel), _, rfl, ?_⟩
    refine iteT ?_
    refine ⟨_, rfl, _, _, _, _, _, rfl, .ty "bool", .base (.int i), kit_ty (r := false) (by decide +kernel), _, rfl, q⟩
theorem ok_l_far (T : Tx P K mg) (TB : TBs T base) : FnOk P w K mg base L2.CX0 2 T.a_l_far T.d_l_far ["_law_tape_here"] (spFar) := by
  have G_l_next := ok_l_next (P := P) (w := w) (base := base) T TB
  refine T.F_l_far.ok sc_l_far (fun vs H Q E h => ?_) (fun cdv A outer s H vs Q E hr h => ?_)
  · obtain ⟨t, u, rfl, _⟩ := h
    rfl
  · obtain ⟨t, u, rfl, hT, q⟩ := h
    refine ⟨_, (pss_cons (ps_if (pt_cmpR op_eq (pe_call G_l_next hr rfl T.g_l_next T.F_l_next.kp T.B_l_next .nil pass0 (pa_cons (pv 0) (pa_cons pe_int pa_nil))) pe_int (nomark _))
          (pss_one (ps_ret pe_int))
          pss_nil)
          (pss_one (ps_ret (pe_call G_l_next hr rfl T.g_l_next T.F_l_next.kp T.B_l_next .nil pass0 (pa_cons (pv 0) (pa_cons pe_int pa_nil)))))), ?_⟩
    refine ⟨_, rfl, t, u, 2, rfl, by decide, by decide, hT, fun r H1 hr hT1 k1 s1 => ?_⟩
    refine ⟨rfl, _, rfl, ?_⟩
    refine boolIte (fun h1 => ?_) (fun h1 => ?_)
    · exact q 0 H1 (by decide) hT1 k1 s1
    · refine ⟨_, rfl, t, u, 999999900, rfl, by decide, by decide, hT1, fun r2 H2 hr2 hT2 k2 s2 => ?_⟩
      exact q r2 H2 (by omega) hT2 (k1.trans k2) fun b hb => (s2 b hb).trans (s1 b hb)
theorem ok_l_drawn_side (T : Tx P K mg) (TB : TBs T base) : FnOk P w K mg base L2.CX0 2 T.a_l_drawn_side T.d_l_drawn_side ["_law_tape_here", "_law_parents_here"] (spDrawnSide) := by
  have G_l_next := ok_l_next (P := P) (w := w) (base := base) T TB
  refine T.F_l_drawn_side.ok sc_l_drawn_side (fun vs H Q E h => ?_) (fun cdv A outer s H vs Q E hr h => ?_)
  · obtain ⟨t, u, l, ps, rfl, _⟩ := h
    rfl
  · obtain ⟨t, u, l, ps, rfl, hT, hl, p1, sm, q⟩ := h
    refine ⟨_, (pss_cons (ps_set (i := 2) sc_l_drawn_side.nd rfl (Or.inl rfl) (pe_op op_add pe_int (pe_call G_l_next hr rfl T.g_l_next T.F_l_next.kp T.B_l_next .nil pass0 (pa_cons (pv 0) (pa_cons (pe_callB (id := "len") call_len_seq (by rfl) T.z_len (by decide +kernel) (pa_cons (pv 1) pa_nil)) pa_nil)))))
          (pss_cons (ps_if (pt_cmpR op_eq (pe_call G_l_next hr rfl T.g_l_next T.F_l_next.kp T.B_l_next .nil pass0 (pa_cons (pv 0) (pa_cons pe_int pa_nil))) pe_int (nomark _))
          (pss_one (ps_ret (pv 2)))
          pss_nil)
          (pss_one (ps_ret (pe_op op_sub pe_int (pv 2)))))), ?_⟩
    refine ⟨_, rfl, _, rfl, l, _, rfl, .inl (SqL.of hl), t, u, _, rfl, by rw [nvs_len]; omega, by rw [nvs_len]; omega, hT, fun r H1 hr hT1 k1 _ => ?_⟩
    rw [nvs_len] at hr
    refine ⟨_, _, rfl, rfl, ?_⟩
    refine ⟨_, rfl, t, u, 2, rfl, by decide, by decide, hT1, fun c H2 hc hT2 k2 _ => ⟨rfl, _, rfl, ?_⟩⟩
    refine boolIte (fun _ => ?_) (fun _ => ?_)
    · exact ⟨_, rfl, q _ _ (by unfold IsSide; omega) hT2 (k1.trans k2)⟩
    · exact ⟨_, rfl, _, _, rfl, rfl, q _ _ (by unfold IsSide; omega) hT2 (k1.trans k2)⟩
theorem ok_l_sides_had (T : Tx P K mg) (TB : TBs T base) : FnOk P w K mg base L2.CX0 2 T.a_l_sides_had T.d_l_sides_had ["_law_parents_here", "_law_position"] (spSidesHad K) := by
  have G_l_above := ok_l_above (P := P) (w := w) (base := base) T TB
  refine T.F_l_sides_had.ok sc_l_sides_had (fun vs H Q E h => ?_) (fun cdv A outer s H vs Q E hr h => ?_)
  · obtain ⟨l, ps, p, rfl, _⟩ := h
    rfl
  · obtain ⟨l, ps, p, rfl, hl, ok, sm, hp, q⟩ := h
    have len := nvs_len ps
    refine ⟨_, (pss_cons (ps_set (i := 2) sc_l_sides_had.nd rfl (Or.inl rfl) (pe_call G_l_above hr rfl T.g_l_above T.F_l_above.kp T.B_l_above .nil pass0 (pa_cons (pv 0) (pa_cons (pv 1) pa_nil))))
          (pss_cons (ps_set (i := 3) sc_l_sides_had.nd rfl (Or.inl rfl) (pe_lst pa_nil))
          (pss_cons (ps_for PassesOwn.never rfl (pi_range2 rfl T.z_range (pa_cons pe_int (pa_cons (pe_op op_add (pe_callB (id := "len") call_len_seq (by rfl) T.z_len (by decide +kernel) (pa_cons (pv 0) pa_nil)) pe_int) pa_nil))) (pg_name (i := 4) sc_l_sides_had.nd rfl (Or.inl rfl))
          (pss_one (ps_if (pt_cmpR op_in_seq (pv 4) (pv 2) (by rfl))
          (pss_one (ps_expr (pe_bm PySem.F.plainAttrs_list PySem.F.slot_list_append PySem.F.type_list_append mt_append (pv 3) (pa_cons (pv 4) pa_nil))))
          (pss_one (ps_expr (pe_bm PySem.F.plainAttrs_list PySem.F.slot_list_append PySem.F.type_list_append mt_append (pv 3) (pa_cons (pe_op op_sub pe_int (pv 4)) pa_nil)))))))
          (pss_one (ps_ret (pv 3)))))), ?_⟩
    refine ⟨_, rfl, _, rfl, l, ps, p, rfl, hl, ok, sm, hp, fun a H1 sa na ha => ?_⟩
    refine ⟨Nat.zero_le _, fun r hr => ?_⟩
    have hl1 : ∀ x, SqL K (upd H1 r x) l (nvs ps) := fun x => (same_new hr).seq (sa.seq hl)
    have har : a ≠ r := ne_of_none ha hr
    have ha1 : ∀ x, (upd H1 r x) a = some (.lst (nvs (Tr.up ps p))) := fun x => by rw [upd_ne har]; exact ha
    refine ⟨_, rfl, l, _, rfl, .inl (hl1 _), _, _, rfl, rfl, _, _, rfl, ⟨by decide, by decide, by omega, by omega⟩, for_range (fun i σ H' => ∃ v : Option V, σ = [some (.ref l), some (.int (p : Int)), some (.ref a), some (.ref r), v] ∧ H' = upd H1 r (.lst ((hadL ps p).take i)))
      ⟨none, rfl, rfl⟩ ?_ ?_⟩
    · rintro i _ _ hi ⟨v, rfl, rfl⟩
      have hi' : i < ps.length := by omega
      have et : (hadL ps p).take (i + 1) = (hadL ps p).take i ++ [V.int (Tr.side ps p (i + 1))] := by
        have e := hadL_get (ps := ps) (p := p) hi'
        have hk := (List.getElem?_eq_some_iff.mp e).1
        rw [List.take_succ_eq_append_getElem hk, (List.getElem?_eq_some_iff.mp e).2]
      have ll : ((hadL ps p).take i).length ≤ 1000 := by rw [List.length_take, hadL_len]; omega
      have hin : inV (V.int (1 + (i : Int))) (nvs (Tr.up ps p)) = Tr.has ps p (i + 1) := by
        unfold Tr.has
        rw [nvs_in (k := i + 1) (by omega)]
      refine ⟨_, rfl, _, rfl, a, _, rfl, .inl (SqL.of (ha1 _)), rfl, nvs_flat _, _, rfl, ?_⟩
      refine boolIte (fun h1 => ?_) (fun h1 => ?_)
      · have h2 : Tr.has ps p (i + 1) = true := by rw [← hin]; exact h1
        refine ⟨_, rfl, .inl ⟨rfl, _, SqL.of upd_same⟩, _, rfl, r, _, _, rfl, rfl, upd_same, size_lt (by omega), ?_⟩
        refine ⟨_, rfl, ?_⟩
        rw [upd_upd, et]
        unfold Tr.side
        rw [if_pos h2, show (1 + (i : Int)) = ((i + 1 : Nat) : Int) by omega]
      · have h2 : ¬ Tr.has ps p (i + 1) = true := by rw [← hin, show inV (V.int (1 + (i : Int))) (nvs (Tr.up ps p)) = false from h1]; decide
        refine ⟨_, rfl, .inl ⟨rfl, _, SqL.of upd_same⟩, _, rfl, _, _, rfl, rfl, r, _, _, rfl, rfl, upd_same, size_lt (by omega), ?_⟩
        refine ⟨_, rfl, ?_⟩
        rw [upd_upd, et]
        unfold Tr.side
        dsimp only
        rw [if_neg h2, show (0 - (1 + (i : Int))) = 0 - ((i + 1 : Nat) : Int) by omega]
    · rintro _ _ ⟨v, rfl, rfl⟩
      have ee : (hadL ps p).take ((((nvs ps).length : Nat) : Int) + 1 - 1).toNat = hadL ps p := List.take_of_length_le (by rw [hadL_len]; omega)
      rw [ee]
      exact ⟨_, rfl, q r _ (sa.trans (same_new hr)) (sa.free hr) upd_same⟩
theorem ok_positions_with (T : Tx P K mg) (TB : TBs T base) : FnOk P w K mg base (L2.CX P w) 6 T.a_positions_with T.d_positions_with ["shape", "sides"] (spPosWith K T.C_Shape T.P_positions_with) := by
  have G_Shape_has := ok_Shape_has (P := P) (w := w) (base := base) T TB
  refine T.F_positions_with.okX sc_positions_with (fun vs H Q E h => ?_) (fun A outer s H vs Q E hr h => ?_)
  · obtain ⟨s, l, ps, ns, rfl, _⟩ := h
    rfl
  · obtain ⟨s, l, ps, ns, rfl, S, hl, sm, al, tab, q⟩ := h
    have ss := S.small
    obtain ⟨dx, t, d, kvs, hs, _⟩ := S.at_
    refine ⟨_, (pss_one (ps_ret (pe_lc (own := [("position", 2)]) (g := gName 2) rfl sc_positions_with.nd (pi_range1 rfl T.z_range (pa_cons (pe_op op_add (pe_fld (pv 0) rfl) pe_int) pa_nil)) (blkOk_by (N := ["shape", "sides", "position", "side"]) (sc := defScope s_positions_with) (by decide +kernel)) (fun _ _ _ _ _ => (pg_name (i := 2) sc_positions_with.nd rfl (Or.inr rfl))) (fun _ _ _ _ _ => (pts_one (pt_val (EG.pe_all (own := [("side", 3)]) (g := gName 3) (tt := tYes) hr rfl sc_positions_with.nd rfl T.z_all (by decide +kernel) TB.t_positions_with rfl (blkOk_by (N := ["shape", "sides", "position", "side"]) (sc := relS _ (defScope s_positions_with)) (by decide +kernel)) rfl (by decide +kernel) (by decide +kernel) (pi_seqK (K := K) (pv 1)) (fun _ _ _ _ _ _ _ _ _ hrG => (pg_name (i := 3) sc_positions_with.nd rfl (Or.inl rfl))) (fun _ _ _ _ _ _ _ _ _ hrG => pts_nil) (fun _ _ _ _ _ _ _ _ _ hrG => (pe_meth (pv 0) T.cl_Shape T.m_Shape_has G_Shape_has hrG T.B_Shape_has .nil pass_no (pa_cons (pv 2) (pa_cons (pv 3) pa_nil)))))))) (fun _ _ _ _ _ => (pv 2))))), ?_⟩
    refine ⟨_, rfl, _, _, _, _, _, rfl, hs, T.cl_Shape, T.n_Shape_size, shf_size, _, _, rfl, rfl, _, rfl, by omega, by omega, fun D hD => ?_⟩
    rw [show ((ps.length : Int) + 1).toNat = ps.length + 1 by omega]
    refine lc_range (fun k H' => SameT H H' ∧ H' D = some (.lst (nvs ((List.range k).filter fun p => ns.all fun k => hasS ps (p : Int) k)))) ⟨sameT_new hD, upd_same⟩ ?_ ?_
    · rintro i H1 hi ⟨s1, hD1⟩
      have e0 : (0 : Int) + (i : Int) = (i : Int) := by omega
      rw [e0]
      obtain ⟨b, hb⟩ := sqb_of hl
      refine ⟨rfl, ?_⟩
      have er : (List.range (i + 1)).filter (fun (p : Nat) => ns.all fun k => hasS ps (p : Int) k) = (List.range i).filter (fun (p : Nat) => ns.all fun k => hasS ps (p : Int) k) ++ (if (ns.all fun k => hasS ps (i : Int) k) = true then [i] else []) := by
        rw [List.range_succ, List.filter_append]
        simp [List.filter_cons]
      rw [er]
      refine ⟨_, rfl, l, ns.map V.int, b, rfl, hb.sameT s1, s1.tab _ tab, fun H2 tb => ?_⟩
      have st := SameT.tabbed tb (s1.tab _ tab)
      have h2 := st.lst hD1
      refine gen_b (k := .all) (fun j z H' => SameT H2 H' ∧ H' D = some (.lst (nvs ((List.range i).filter fun p => ns.all fun k => hasS ps (p : Int) k))) ∧ ∀ j' k, j' < j → ns[j']? = some k → hasS ps (i : Int) k = true) ⟨SameT.refl _, h2, fun _ _ h => absurd h (Nat.not_lt_zero _)⟩ (fun j z H' _ e => (hb.sameT s1).sameT (st.trans e.1)) ?_ ?_
      · rintro j x z H3 hx ⟨s3, h3, al'⟩
        obtain ⟨k, hk, rfl⟩ := ns_get hx
        have S3 := S.sameT (s1.trans (st.trans s3))
        obtain ⟨dx3, _, _, _, hs3, _⟩ := S3.at_
        refine ⟨rfl, ?_⟩
        refine ⟨_, rfl, s, dx3, _, rfl, hs3, shf_no (by decide +kernel) (by decide +kernel) (by decide +kernel), _, rfl, _, rfl, s, ps, _, _, rfl, S3, fun _ _ => ⟨_, rfl, ?_⟩, fun z => absurd ⟨by omega, by omega⟩ z, fun _ z => absurd (al k (List.mem_of_getElem? hk)) z⟩
        refine boolIte (fun hh => ?_) (fun hh => ?_)
        · refine ⟨s3, h3, fun j' k' hj hk' => ?_⟩
          by_cases c : j' < j
          · exact al' j' k' c hk'
          · obtain rfl : j' = j := by omega
            rw [hk] at hk'
            cases hk'
            exact hh
        · have ef : (ns.all fun k => hasS ps (i : Int) k) = false := by
            rw [Bool.eq_false_iff]
            intro h
            have := List.all_eq_true.mp h k (List.mem_of_getElem? hk)
            rw [hh] at this
            cases this
          refine ⟨_, rfl, iteF ⟨s1.trans (st.trans s3), ?_⟩⟩
          rw [h3, ef]
          simp
      · rintro z H3 ⟨s3, h3, al'⟩
        have et : (ns.all fun k => hasS ps (i : Int) k) = true := by
          rw [List.all_eq_true]
          intro k hk
          obtain ⟨j, hj⟩ := List.getElem?_of_mem hk
          exact al' j k (by rw [List.length_map]; exact (List.getElem?_eq_some_iff.mp hj).1) hj
        refine ⟨_, rfl, iteT ⟨_, rfl, _, h3, size_lt (by rw [nvs_len]; exact Nat.le_trans (List.length_filter_le _ _) (by rw [List.length_range]; omega)), sameT_mut (s1.trans (st.trans s3)) hD, ?_⟩⟩
        rw [upd_same, nvs_snoc, et]
        simp
    rintro H1 ⟨s1, hD1⟩
    exact q D H1 s1 hD hD1
theorem ok_first_apart (T : Tx P K mg) (TB : TBs T base) : FnOk P w K mg base (L2.CX P w) 5 T.a_first_apart T.d_first_apart ["shape", "sides"] (spFirstApart K T.C_Shape) := by
  have G_Shape_leads_inside := ok_Shape_leads_inside (P := P) (w := w) (base := base) T TB
  refine T.F_first_apart.okX sc_first_apart (fun vs H Q E h => ?_) (fun cdv A outer s H vs Q E hr h => ?_)
  · obtain ⟨s, l, ps, ns, rfl, _⟩ := h
    rfl
  · obtain ⟨s, l, ps, ns, rfl, S, hl, sm, al, emp, q⟩ := h
    refine ⟨_, (pss_cons (ps_for (passes_of rfl) rfl (pi_enumS rfl T.z_enumerate (pa_cons (pv 1) pa_nil)) (pg_tup rfl (pgs_cons (pg_name (i := 2) sc_first_apart.nd rfl (Or.inl rfl)) (pgs_cons (pg_name (i := 3) sc_first_apart.nd rfl (Or.inl rfl)) pgs_nil)))
          (pss_one (ps_for (passes_of rfl) rfl (pi_seq (pe_slice sl_seq (pv 1) po_none (po_some (pv 2)))) (pg_name (i := 4) sc_first_apart.nd rfl (Or.inl rfl))
          (pss_one (ps_if (pt_val (pe_meth (pv 0) T.cl_Shape T.m_Shape_leads_inside G_Shape_leads_inside hr T.B_Shape_leads_inside .nil pass_up (pa_cons (pv 4) (pa_cons (pe_un un_neg (pv 3)) pa_nil))))
          (pss_one (ps_ret (pe_tup (pa_cons (pv 4) (pa_cons (pv 3) pa_nil)))))
          pss_nil)))))
          (pss_one (ps_ret pe_non))), ?_⟩
    refine ⟨_, rfl, l, _, rfl, for_enumS hl (fun i σ H' => ∃ (a b c : Option V), σ = [some (.ref s), some (.ref l), a, b, c] ∧ Same H H' ∧ ∀ (j k : Nat) (x y : Int), j < i → k < j → ns[j]? = some x → ns[k]? = some y → insS ps y (-x) = false) ⟨none, none, none, rfl, Same.refl _, fun j k x y h => absurd h (Nat.not_lt_zero _)⟩ (fun i σ H' _ ⟨_, _, _, _, sa, _⟩ => sa) ?_ ?_⟩
    · rintro i x t _ H1 hx ⟨a, b, c, rfl, s1, no⟩ ht
      obtain ⟨x, hx', rfl⟩ := ns_get hx
      have hi := (List.getElem?_eq_some_iff.mp hx').1
      have sx := al x (List.mem_of_getElem? hx')
      have s2 := s1.trans (same_new (o := .tup [.int ((i : Nat) : Int), .int x]) ht)
      obtain ⟨b, hb⟩ := sqb_of (SqE_same s2 hl)
      refine ⟨t, _, rfl, SqT.of upd_same, rfl, _, _, rfl, _, _, rfl, rfl, ?_⟩
      refine ⟨_, rfl, _, rfl, _, rfl, l, _, b, rfl, hb, fun r H2 s3 hr => ?_⟩
      have ec : cutV (ns.map V.int) none (some ((i : Nat) : Int)) = (ns.take i).map V.int := by
        unfold cutV
        rw [HT.sIx_none, HT.sIx_nat, List.length_map, Nat.min_eq_left (by omega), List.drop_zero, Nat.sub_zero, List.map_take]
      rw [ec] at hr
      refine ⟨r, _, b, rfl, hr, for_b (fun k σ H' => ∃ (c : Option V), σ = [some (.ref s), some (.ref l), some (.int ((i : Nat) : Int)), some (.int x), c] ∧ Same H2 H' ∧ ∀ (k' : Nat) (y : Int), k' < k → ns[k']? = some y → insS ps y (-x) = false) ⟨_, rfl, Same.refl _, fun k' y h => absurd h (Nat.not_lt_zero _)⟩ (fun k σ H' _ ⟨_, _, sa, _⟩ => hr.same sa) ?_ ?_⟩
      · rintro k y _ H3 hy ⟨c, rfl, s4, no2⟩
        obtain ⟨y, hy', rfl⟩ := ns_get hy
        have hki : k < i := by
          have := (List.getElem?_eq_some_iff.mp hy').1
          rw [List.length_take] at this
          omega
        rw [List.getElem?_take_of_lt hki] at hy'
        have sy := al y (List.mem_of_getElem? hy')
        have S4 := S.same (s2.trans (s3.trans s4))
        obtain ⟨dx, _, _, _, hs, _⟩ := S4.at_
        refine ⟨_, rfl, s, dx, _, rfl, hs, shf_no (by decide +kernel) (by decide +kernel) (by decide +kernel), _, rfl, _, rfl, _, rfl, s, ps, y, -x, rfl, S4, fun _ _ => ⟨_, rfl, ?_⟩, fun z => absurd sy z, fun _ z => absurd (side_neg sx) z⟩
        refine boolIte (fun hh => ?_) (fun hh => ?_)
        · refine ⟨_, rfl, _, rfl, (by show 2 ≤ sizeLine; exact size_le (by omega)), fun tt ntt => ?_⟩
          refine q tt y x _ ((s2.trans (s3.trans s4)).trans (same_new ntt)) upd_same (List.mem_of_getElem? hy') (List.mem_of_getElem? hx') fun p hp ⟨h1, h2⟩ => ?_
          have := insS_iff.mp hh p hp h1
          rw [hasS_opp sx, h2] at this
          cases this
        · refine ⟨_, rfl, s4, fun k' y' hk hy2 => ?_⟩
          by_cases c : k' < k
          · exact no2 k' y' c hy2
          · obtain rfl : k' = k := by omega
            rw [hy'] at hy2
            cases hy2
            exact hh
      · rintro _ H3 ⟨c, rfl, s4, no2⟩
        rw [List.length_map, List.length_take, Nat.min_eq_left (by omega)] at no2
        refine ⟨_, _, _, rfl, s2.trans (s3.trans s4), fun j k x' y' hj hk hxj hyk => ?_⟩
        by_cases c : j < i
        · exact no j k x' y' c hk hxj hyk
        · obtain rfl : j = i := by omega
          rw [hx'] at hxj
          cases hxj
          exact no2 k y' hk hyk
    · rintro _ H1 ⟨a, b, c, rfl, s1, no⟩
      exfalso
      rw [List.length_map] at no
      obtain ⟨p, hp, hall⟩ := helly (ps := ps) ns.length ns (Nat.le_refl _) al fun a ha b hb => by
        obtain ⟨i, hi⟩ := List.getElem?_of_mem ha
        obtain ⟨j, hj⟩ := List.getElem?_of_mem hb
        have meet : ∀ (i j : Nat) (x y : Int), i < ns.length → j < i → ns[i]? = some x → ns[j]? = some y → IsSide ps.length x → ∃ p : Nat, p ≤ ps.length ∧ hasS ps (p : Int) x = true ∧ hasS ps (p : Int) y = true := fun i j x y hi hj hx hy sx => by
          have e := no i j x y hi hj hx hy
          have : ¬ ∀ p : Nat, p ≤ ps.length → hasS ps (p : Int) y = true → hasS ps (p : Int) (-x) = true := fun h => by rw [insS_iff.mpr h] at e; cases e
          have hc := Classical.not_forall.mp this
          obtain ⟨p, hp⟩ := hc
          obtain ⟨hp1, hp2⟩ := Classical.not_imp.mp hp
          obtain ⟨hp3, hp4⟩ := Classical.not_imp.mp hp2
          refine ⟨p, hp1, ?_, hp3⟩
          rw [hasS_opp sx] at hp4
          simpa using hp4
        have hil := (List.getElem?_eq_some_iff.mp hi).1
        have hjl := (List.getElem?_eq_some_iff.mp hj).1
        by_cases c1 : j < i
        · exact meet i j a b hil c1 hi hj (al a ha)
        · by_cases c2 : i < j
          · obtain ⟨p, h1, h2, h3⟩ := meet j i b a hjl c2 hj hi (al b hb)
            exact ⟨p, h1, h3, h2⟩
          · obtain rfl : i = j := by omega
            rw [hi] at hj
            cases hj
            obtain ⟨p, hp, h⟩ := side_some (al a ha) (ps := ps)
            exact ⟨p, hp, h, h⟩
      have : p ∈ comL ps ns := mem_comL.mpr ⟨hp, hall⟩
      rw [emp] at this
      cases this
theorem ok_common (T : Tx P K mg) (TB : TBs T base) : FnOk P w K mg base (L2.CX P w) 7 T.a_common T.d_common ["shape", "sides"] (spCommon K T.C_Shape T.x_BadSide.C T.P_positions_with) := by
  have G_check_side := ok_check_side (P := P) (w := w) (base := base) T TB
  have G_first_apart := ok_first_apart (P := P) (w := w) (base := base) T TB
  have G_positions_with := ok_positions_with (P := P) (w := w) (base := base) T TB
  refine T.F_common.okX sc_common (fun vs H Q E h => ?_) (fun cdv A outer s H vs Q E hr h => ?_)
  · obtain ⟨s, l, ps, ns, rfl, _⟩ := h
    rfl
  · obtain ⟨s, l, ps, ns, rfl, S, hl, sm, tab, good, apart, bad⟩ := h
    have len : (ns.map V.int).length = ns.length := List.length_map ..
    refine ⟨_, (pss_cons (ps_for (passes_of rfl) rfl (pi_seq (pv 1)) (pg_name (i := 2) sc_common.nd rfl (Or.inl rfl))
          (pss_one (ps_expr (pe_call G_check_side (hr.mono (by decide)) rfl T.g_check_side T.F_check_side.kp T.B_check_side .nil pass_up (pa_cons (pv 0) (pa_cons (pv 2) pa_nil))))))
          (pss_cons (ps_set (i := 3) sc_common.nd rfl (Or.inl rfl) (pe_call G_positions_with hr rfl T.g_positions_with T.F_positions_with.kp T.B_positions_with .nil pass_up (pa_cons (pv 0) (pa_cons (pv 1) pa_nil))))
          (pss_cons (ps_if (pt_truth (pv 3) (by intro _; rfl))
          (pss_one (ps_ret (pe_tup (pa_cons pe_str (pa_cons (pv 3) pa_nil)))))
          pss_nil)
          (pss_cons (ps_asg (pe_call G_first_apart (hr.mono (by decide)) rfl T.g_first_apart T.F_first_apart.kp T.B_first_apart .nil pass_up (pa_cons (pv 0) (pa_cons (pv 1) pa_nil))) (pg_tup rfl (pgs_cons (pg_name (i := 4) sc_common.nd rfl (Or.inl rfl)) (pgs_cons (pg_name (i := 5) sc_common.nd rfl (Or.inl rfl)) pgs_nil))))
          (pss_one (ps_ret (pe_tup (pa_cons pe_str (pa_cons (pv 4) (pa_cons (pv 5) pa_nil)))))))))), ?_⟩
    obtain ⟨bb, hb0⟩ := sqb_of hl
    refine ⟨_, rfl, l, ns.map V.int, bb, rfl, hb0, for_b (fun i σ H' => ∃ v : Option V, σ = [some (.ref s), some (.ref l), v, none, none, none] ∧ H' = H ∧ ∀ j p, j < i → ns[j]? = some p → IsSide ps.length p) ⟨none, rfl, rfl, fun j p h => absurd h (Nat.not_lt_zero _)⟩
      (fun i σ H' _ ⟨_, _, e, _⟩ => by rw [e]; exact hb0) ?_ ?_⟩
    · rintro i x _ _ hx ⟨v, rfl, rfl, hb⟩
      obtain ⟨p, hp, rfl⟩ := ns_get hx
      refine ⟨_, rfl, _, rfl, s, ps, p, rfl, S, fun c => ⟨_, rfl, rfl, fun j q hj hq => ?_⟩, fun c => bad i p ⟨⟨p, hp, c⟩, hb⟩ hp⟩
      by_cases e : j < i
      · exact hb j q e hq
      · obtain rfl : j = i := by omega
        rw [hp] at hq
        cases hq
        exact c
    rintro _ H ⟨v, rfl, rfl, hb⟩
    rw [len] at hb
    have hall : ∀ p, p ∈ ns → IsSide ps.length p := fun p hp => by
      obtain ⟨j, hj⟩ := List.getElem?_of_mem hp
      exact hb j p (List.getElem?_eq_some_iff.mp hj).1 hj
    refine ⟨_, rfl, _, rfl, s, l, ps, ns, rfl, S, hl, sm, hall, tab, fun r H2 s2 nr hr => ?_⟩
    refine ⟨_, rfl, !(nvs (comL ps ns)).isEmpty, .inl ⟨_, SqL.of hr, rfl⟩, ?_⟩
    refine boolIte (fun h => ?_) (fun h => ?_)
    · have ne : comL ps ns ≠ [] := fun e => by rw [e] at h; cases h
      refine ⟨_, rfl, (by show 2 ≤ sizeLine; exact size_le (by omega)), fun tt ntt => ?_⟩
      exact good hall ne tt r _ (s2.trans (sameT_new ntt)) nr upd_same (by rw [upd_ne (ne_of_none hr ntt)]; exact hr)
    have em : comL ps ns = [] := by
      cases hc : comL ps ns with
      | nil => rfl
      | cons x y => rw [hc] at h; cases h
    refine ⟨_, rfl, _, rfl, s, l, ps, ns, rfl, S.sameT s2, hl.sameT s2, sm, hall, em, fun r2 a b H3 s3 h3 ha hb' ap => ?_⟩
    refine ⟨r2, _, rfl, SqT.of h3, rfl, _, _, rfl, _, _, rfl, rfl, ?_⟩
    refine ⟨_, rfl, _, rfl, (by show 3 ≤ sizeLine; exact size_le (by omega)), fun tt ntt => ?_⟩
    exact apart hall em tt a b _ ((s2.trans (Same.t s3)).trans (sameT_new ntt)) upd_same ha hb' ap
theorem ok_l_have_all (T : Tx P K mg) (TB : TBs T base) : FnOk P w K mg base L2.CX0 1 T.a_l_have_all T.d_l_have_all ["_law_had", "_law_chosen"] (spHaveAll K) := by
  refine T.F_l_have_all.ok sc_l_have_all (fun vs H Q E h => ?_) (fun cdv A outer s H vs Q E hr h => ?_)
  · obtain ⟨h, c, ps, ns, rfl, _⟩ := h
    rfl
  · obtain ⟨h, c, ps, ns, rfl, hh, ss, hc, sm, al, q⟩ := h
    obtain ⟨vs, _, v1, v2, _, _⟩ := hh.row (Nat.zero_le _)
    refine ⟨_, (pss_cons (ps_set (i := 2) sc_l_have_all.nd rfl (Or.inl rfl) (pe_lst pa_nil))
          (pss_cons (ps_for PassesOwn.never rfl (pi_range1 rfl T.z_range (pa_cons (pe_callB (id := "len") call_len_seq (by rfl) T.z_len (by decide +kernel) (pa_cons (pv 0) pa_nil)) pa_nil)) (pg_name (i := 3) sc_l_have_all.nd rfl (Or.inr rfl))
          (pss_one (ps_if (pt_val (pe_callB (id := "all") (cr_all rfl) (by rfl) T.z_all (by decide +kernel) (pa_cons (pe_lc (own := [("_law_side", 4)]) (g := gName 4) (tt := tYes) rfl sc_l_have_all.nd (pi_list (pv 1)) (blkOk_by (N := ["_law_had", "_law_chosen", "_law_found", "_law_position", "_law_side"]) (sc := defScope s_l_have_all) (by decide +kernel)) (fun _ _ _ _ _ => (pg_name (i := 4) sc_l_have_all.nd rfl (Or.inl rfl))) (fun _ _ _ _ _ => pts_nil) (fun _ _ _ _ _ => (pe_cmpR (op_in_seqK (K := K)) (pv 4) (pe_ix (ix_listK (K := K)) (pv 0) (pv 3) (fun _ _ => rfl)) (by rfl)))) pa_nil)))
          (pss_one (ps_expr (pe_bm PySem.F.plainAttrs_list PySem.F.slot_list_append PySem.F.type_list_append mt_append (pv 2) (pa_cons (pv 3) pa_nil))))
          pss_nil)))
          (pss_one (ps_ret (pv 2))))), ?_⟩
    refine ⟨Nat.zero_le _, fun r hr => ?_⟩
    have hv : ∀ x, (upd H r x) h = some (.lst vs) := fun x => by rw [upd_ne (ne_of_none v1 hr)]; exact v1
    refine ⟨_, rfl, h, _, rfl, .inl (SqL.of (hv _)), _, rfl, by omega, by omega, for_range (fun i σ H' => ∃ a b : Option V, σ = [some (.ref h), some (.ref c), some (.ref r), a, b] ∧ Same H H' ∧ H' r = some (.lst (nvs ((List.range i).filter fun p => ns.all fun k => hasS ps (p : Int) k)))) ⟨none, none, rfl, same_new hr, upd_same⟩ ?_ ?_⟩
    · rintro i _ H1 hi ⟨a, b, rfl, s1, hr1⟩
      have hi' : i ≤ ps.length := by omega
      have e0 : (0 : Int) + (i : Int) = (i : Int) := by omega
      rw [e0]
      obtain ⟨vs1, ri, w1, w2, w3, w4⟩ := (hh.same s1).row hi'
      have hc1 := s1.seq hc
      refine ⟨_, rfl, c, rfl, ⟨_, hc1⟩, fun D hD => ?_⟩
      refine lc_list (K := K) (a := c) (xs := ns.map V.int) (fun k H' => H' = upd H1 D (.lst (((ns.take k).map fun z => hasS ps (i : Int) z).map V.bl))) rfl (fun k H' _ e => by rw [e]; exact (same_new hD).seq hc1) ?_ ?_
      · rintro k x _ hx rfl
        obtain ⟨z, hz, rfl⟩ := ns_get hx
        have hk := (List.getElem?_eq_some_iff.mp hz).1
        have et : ns.take (k + 1) = ns.take k ++ [z] := by rw [List.take_succ_eq_append_getElem hk, (List.getElem?_eq_some_iff.mp hz).2]
        refine ⟨rfl, ?_⟩
        refine ⟨_, rfl, _, rfl, _, rfl, h, _, _, _, rfl, rfl, SqL.of (by rw [upd_ne (ne_of_none w1 hD)]; exact w1), at_of (j := i) rfl w3, ri, _, rfl, .inl (SqL.of (by rw [upd_ne (ne_of_none w4 hD)]; exact w4)), rfl, hadL_flat _ _, ?_⟩
        rw [in_had (al z (List.mem_of_getElem? hz))]
        refine ⟨_, upd_same, size_lt (by rw [List.length_map, List.length_map, List.length_take]; omega), ?_⟩
        rw [upd_upd, et, List.map_append, List.map_append]
        rfl
      rintro _ rfl
      rw [List.length_map, List.take_of_length_le (Nat.le_refl _)]
      refine ⟨D, _, rfl, SqL.of upd_same, _, rfl, ?_⟩
      have ea : ((ns.map fun z => hasS ps (i : Int) z).all id) = ns.all fun k => hasS ps (i : Int) k := by rw [List.all_map]; rfl
      rw [ea]
      have hr2 : ∀ x, (upd H1 D x) r = some (.lst (nvs ((List.range i).filter fun p => ns.all fun k => hasS ps (p : Int) k))) := fun x => by rw [upd_ne (ne_of_none hr1 hD)]; exact hr1
      refine boolIte (fun hb => ?_) (fun hb => ?_)
      · refine ⟨_, rfl, .inl ⟨rfl, _, SqL.of (hr2 _)⟩, _, rfl, r, _, _, rfl, rfl, hr2 _, size_lt (by rw [nvs_len]; exact Nat.le_trans (List.length_filter_le _ _) (by rw [List.length_range]; omega)), ?_⟩
        refine ⟨_, _, rfl, same_mut (s1.trans (same_new hD)) hr, ?_⟩
        rw [upd_same, nvs_snoc, List.range_succ, List.filter_append]
        simp [hb]
      · refine ⟨_, _, rfl, s1.trans (same_new hD), ?_⟩
        rw [hr2, List.range_succ, List.filter_append]
        simp [hb]
    · rintro _ H1 ⟨a, b, rfl, s1, hr1⟩
      rw [show (((vs.length : Nat) : Int)).toNat = ps.length + 1 by omega] at hr1
      exact ⟨_, rfl, q r _ s1 hr hr1⟩
theorem ok_l_inside (T : Tx P K mg) (TB : TBs T base) : FnOk P w K mg base L2.CX0 1 T.a_l_inside T.d_l_inside ["_law_had", "_law_side", "_law_other"] (spLInside) := by
  refine T.F_l_inside.ok sc_l_inside (fun vs H Q E h => ?_) (fun cdv A outer s H vs Q E hr h => ?_)
  · obtain ⟨h, ps, a, b, rfl, _⟩ := h
    rfl
  · obtain ⟨h, ps, a, b, rfl, hh, ss, ha, hb, q⟩ := h
    obtain ⟨vs, _, v1, v2, _, _⟩ := hh.row (Nat.zero_le _)
    refine ⟨_, (pss_cons (ps_for PassesOwn.never rfl (pi_range1 rfl T.z_range (pa_cons (pe_callB (id := "len") call_len_seq (by rfl) T.z_len (by decide +kernel) (pa_cons (pv 0) pa_nil)) pa_nil)) (pg_name (i := 3) sc_l_inside.nd rfl (Or.inl rfl))
          (pss_one (ps_if (PW.pt (pw_and (pt_cmpR op_in_seq (pv 1) (pe_ix ix_list (pv 0) (pv 3) (fun _ _ => rfl)) (by rfl)) (pw_and1 (pt_cmpR op_notIn_seq (pv 2) (pe_ix ix_list (pv 0) (pv 3) (fun _ _ => rfl)) (by rfl)))))
          (pss_one (ps_ret pe_bl))
          pss_nil)))
          (pss_one (ps_ret pe_bl))), ?_⟩
    refine ⟨_, rfl, h, _, rfl, .inl (SqL.of v1), _, rfl, by omega, by omega, for_range (fun i σ H' => ∃ v : Option V, σ = [some (.ref h), some (.int a), some (.int b), v] ∧ H' = H ∧ ∀ p : Nat, p < i → hasS ps (p : Int) a = true → hasS ps (p : Int) b = true) ⟨none, rfl, rfl, fun p h => absurd h (Nat.not_lt_zero _)⟩ ?_ ?_⟩
    · rintro i _ H hi ⟨v, rfl, rfl, no⟩
      have hi' : i ≤ ps.length := by omega
      have e0 : (0 : Int) + (i : Int) = (i : Int) := by omega
      rw [e0]
      obtain ⟨vs1, ri, w1, w2, w3, w4⟩ := hh.row hi'
      have next : (hasS ps (i : Int) a = true → hasS ps (i : Int) b = true) → ∀ p : Nat, p < i + 1 → hasS ps (p : Int) a = true → hasS ps (p : Int) b = true := fun e p hp => by
        by_cases c : p < i
        · exact no p c
        · obtain rfl : p = i := by omega
          exact e
      refine ⟨_, rfl, _, rfl, _, rfl, h, _, _, _, rfl, rfl, SqL.of w1, at_of (j := i) rfl w3, ri, _, rfl, .inl (SqL.of w4), rfl, hadL_flat _ _, _, rfl, ?_⟩
      rw [in_had ha]
      refine boolIte (fun h1 => ?_) (fun h1 => ⟨_, rfl, rfl, next fun e => by
        have h1' : hasS ps (i : Int) a = false := h1
        rw [h1'] at e
        cases e⟩)
      refine ⟨_, rfl, _, rfl, _, rfl, h, _, _, _, rfl, rfl, SqL.of w1, at_of (j := i) rfl w3, ri, _, rfl, .inl (SqL.of w4), rfl, hadL_flat _ _, _, rfl, ?_⟩
      rw [in_had hb]
      refine notIte (fun h2 => ⟨_, rfl, rfl, next fun _ => h2⟩) (fun h2 => ?_)
      have : insS ps a b = false := by
        rw [Bool.eq_false_iff]
        intro e
        have := insS_iff.mp e i hi' h1
        rw [h2] at this
        cases this
      rw [this] at q
      exact q
    · rintro _ H ⟨v, rfl, rfl, no⟩
      rw [show (((vs.length : Nat) : Int)).toNat = ps.length + 1 by omega] at no
      have : insS ps a b = true := insS_iff.mpr fun p hp => no p (by omega)
      rw [this] at q
      exact q
theorem ok_l_ints (T : Tx P K mg) (TB : TBs T base) : FnOk P w K mg base L2.CX0 2 T.a_l_ints T.d_l_ints ["_law_told", "_law_due"] (spInts K) := by
  have G_l_is_number := ok_l_is_number (P := P) (w := w) (base := base) T TB
  refine T.F_l_ints.ok sc_l_ints (fun vs H Q E h => ?_) (fun cdv A outer s H vs Q E hr h => ?_)
  · obtain ⟨x, y, L, rfl, _⟩ := h
    rfl
  · obtain ⟨x, y, L, rfl, hx, hy, sm, q⟩ := h
    have len := nvs_len L
    refine ⟨_, (pss_cons (ps_if (PW.pt (pw_or (pt_not (pt_val (pe_callB (id := "isinstance") call_isi (by rfl) T.z_isinstance (by decide +kernel) (pa_cons (pv 0) (pa_cons (pe_bltn (v := .ty "list") rfl T.z_list (by decide +kernel) rfl) pa_nil))))) (pw_or1 (pt_cmpR op_ne (pe_callB (id := "len") call_len_seq (by rfl) T.z_len (by decide +kernel) (pa_cons (pv 0) pa_nil)) (pe_callB (id := "len") call_len_seq (by rfl) T.z_len (by decide +kernel) (pa_cons (pv 1) pa_nil)) (nomark _)))))
          (pss_one (ps_ret pe_bl))
          pss_nil)
          (pss_cons (ps_for PassesOwn.never rfl (pi_range1 rfl T.z_range (pa_cons (pe_callB (id := "len") call_len_seq (by rfl) T.z_len (by decide +kernel) (pa_cons (pv 1) pa_nil)) pa_nil)) (pg_name (i := 2) sc_l_ints.nd rfl (Or.inl rfl))
          (pss_one (ps_if (PW.pt (pw_or (pt_not (pt_val (pe_callQ G_l_is_number ((roomH_of hr).mono (by decide)) rfl T.g_l_is_number T.F_l_is_number.kp T.B_l_is_number (pa_cons (pe_ix ix_list (pv 0) (pv 2) (fun _ _ => rfl)) pa_nil)))) (pw_or1 (pt_cmpR op_ne (pe_ix ix_list (pv 0) (pv 2) (fun _ _ => rfl)) (pe_ix ix_list (pv 1) (pv 2) (fun _ _ => rfl)) (nomark _)))))
          (pss_one (ps_ret pe_bl))
          pss_nil)))
          (pss_one (ps_ret pe_bl)))), ?_⟩
    refine ⟨_, rfl, _, _, _, _, _, rfl, .ty "list", .base (.lst hx), kit_ty (r := true) (by decide +kernel), _, rfl, ?_⟩
    refine iteF ?_
    refine ⟨_, rfl, x, _, rfl, .inl (SqL.of hx), _, rfl, y, _, rfl, .inl hy, rfl, _, rfl, ?_⟩
    refine ifF (by simp) ?_
    refine ⟨_, rfl, y, _, rfl, .inl hy, _, rfl, by omega, by omega, for_range (fun i σ H' => ∃ v : Option V, σ = [some (.ref x), some (.ref y), v] ∧ H' = H) ⟨none, rfl, rfl⟩ ?_ ?_⟩
    · rintro i _ H hi ⟨v, rfl, rfl⟩
      obtain ⟨p, hp⟩ : ∃ p, L[i]? = some p := ⟨L[i]'(by omega), List.getElem?_eq_getElem _⟩
      have e0 : (0 : Int) + (i : Int) = (i : Int) := by omega
      refine ⟨_, rfl, _, rfl, x, _, _, _, rfl, rfl, SqL.of hx, at_of e0 (nvs_get hp), _, rfl, _, rfl, ?_⟩
      refine iteF ?_
      refine ⟨_, rfl, _, rfl, x, _, _, _, rfl, rfl, SqL.of hx, at_of e0 (nvs_get hp), _, rfl, _, rfl, y, _, _, _, rfl, rfl, hy, at_of e0 (nvs_get hp), rfl, _, rfl, ?_⟩
      exact ifF (by simp) ⟨_, rfl, rfl⟩
    · rintro _ H ⟨v, rfl, rfl⟩
      exact q
theorem ok_l_yes_or_no (T : Tx P K mg) (TB : TBs T base) : FnOk P w K mg base L2.CX0 1 T.a_l_yes_or_no T.d_l_yes_or_no ["_law_told", "_law_due"] (spYes) := by
  refine T.F_l_yes_or_no.ok sc_l_yes_or_no (fun vs H Q E h => ?_) (fun cdv A outer s H vs Q E hr h => ?_)
  · obtain ⟨a, rfl, _⟩ := h
    rfl
  · obtain ⟨a, rfl, q⟩ := h
    refine ⟨_, (pss_cons (ps_if (pt_val (pv 1))
          (pss_one (ps_ret (pe_cmpR op_isBl (pv 0) pe_bl (nomark _))))
          pss_nil)
          (pss_one (ps_ret (pe_cmpR op_isBl (pv 0) pe_bl (nomark _))))), ?_⟩
    refine ⟨_, rfl, _, rfl, ?_⟩
    cases a with
    | true => exact iteT ⟨_, rfl, _, _, rfl, rfl, q⟩
    | false => exact iteF ⟨_, rfl, _, _, rfl, rfl, q⟩
theorem ok_l_bad_side (T : Tx P K mg) (TB : TBs T base) : FnOk P w K mg base L2.CX0 3 T.a_l_bad_side T.d_l_bad_side ["_law_tape_here", "_law_parents_here"] (spBadSide) := by
  have G_l_far := ok_l_far (P := P) (w := w) (base := base) T TB
  have G_l_next := ok_l_next (P := P) (w := w) (base := base) T TB
  refine T.F_l_bad_side.ok sc_l_bad_side (fun vs H Q E h => ?_) (fun cdv A outer s H vs Q E hr h => ?_)
  · obtain ⟨t, u, l, ps, rfl, _⟩ := h
    rfl
  · obtain ⟨t, u, l, ps, rfl, hT, hl, sm, q⟩ := h
    have len := nvs_len ps
    refine ⟨_, (pss_cons (ps_set (i := 2) sc_l_bad_side.nd rfl (Or.inl rfl) (pe_call G_l_far hr rfl T.g_l_far T.F_l_far.kp T.B_l_far .nil pass0 (pa_cons (pv 0) pa_nil)))
          (pss_one (ps_ret (pe_ix ix_list (pe_lst (pa_cons pe_int (pa_cons (pe_op op_add (pe_op op_add (pe_callB (id := "len") call_len_seq (by rfl) T.z_len (by decide +kernel) (pa_cons (pv 1) pa_nil)) pe_int) (pv 2)) (pa_cons (pe_op op_sub (pe_op op_sub (pe_op op_sub pe_int (pe_callB (id := "len") call_len_seq (by rfl) T.z_len (by decide +kernel) (pa_cons (pv 1) pa_nil))) pe_int) (pv 2)) pa_nil)))) (pe_call G_l_next (hr.mono (by decide)) rfl T.g_l_next T.F_l_next.kp T.B_l_next .nil pass0 (pa_cons (pv 0) (pa_cons pe_int pa_nil))) (fun _ _ => rfl))))), ?_⟩
    refine ⟨_, rfl, t, u, rfl, hT, fun f H1 hf hT1 k1 _ => ?_⟩
    have hl1 := k1 l _ (hT.ne hl) hl
    refine ⟨_, rfl, l, _, rfl, .inl (SqL.of hl1), _, _, rfl, rfl, _, rfl, _, _, rfl, rfl, _, rfl, l, _, rfl, .inl (SqL.of hl1), _, _, rfl, rfl, _, _, rfl, rfl, _, rfl, _, _, rfl, rfl, (by show 3 ≤ sizeLine; exact size_le (by omega)), fun o no => ?_⟩
    have ot := hT1.ne_new no
    have hT1' := hT1.same (same_new (o := .lst [V.int 0, V.int (((nvs ps).length : Nat) + 1 + (f : Int)), V.int (0 - ((nvs ps).length : Nat) - 1 - (f : Int))]) no)
    refine ⟨_, rfl, t, u, 3, rfl, by decide, by decide, hT1', fun r H2 hr hT2 k2 _ => ?_⟩
    have ho := k2 o _ ot upd_same
    have k02 := (k1.trans (But.of_same (same_new (o := .lst [V.int 0, V.int (((nvs ps).length : Nat) + 1 + (f : Int)), V.int (0 - ((nvs ps).length : Nat) - 1 - (f : Int))]) no))).trans k2
    match r, hr with
    | 0, _ => exact ⟨o, _, _, _, rfl, rfl, SqL.of ho, at_of (j := 0) rfl rfl, q _ _ (fun z => by unfold IsSide at z; omega) (by unfold Small; omega) hT2 k02⟩
    | 1, _ => exact ⟨o, _, _, _, rfl, rfl, SqL.of ho, at_of (j := 1) rfl rfl, q _ _ (fun z => by unfold IsSide at z; omega) (by unfold Small; omega) hT2 k02⟩
    | 2, _ => exact ⟨o, _, _, _, rfl, rfl, SqL.of ho, at_of (j := 2) rfl rfl, q _ _ (fun z => by unfold IsSide at z; omega) (by unfold Small; omega) hT2 k02⟩
    | n + 3, hr => exact absurd hr (by omega)
theorem ok_l_sides_drawn (T : Tx P K mg) (TB : TBs T base) : FnOk P w K mg base L2.CX0 3 T.a_l_sides_drawn T.d_l_sides_drawn ["_law_tape_here", "_law_parents_here", "_law_had"] (spSidesDrawn) := by
  have G_l_drawn_side := ok_l_drawn_side (P := P) (w := w) (base := base) T TB
  have G_l_next := ok_l_next (P := P) (w := w) (base := base) T TB
  refine T.F_l_sides_drawn.ok sc_l_sides_drawn (fun vs H Q E h => ?_) (fun cdv A outer s H vs Q E hr h => ?_)
  · obtain ⟨t, u, l, h, ps, rfl, _⟩ := h
    rfl
  · obtain ⟨t, u, l, h, ps, rfl, hT, hl, hh, p1, ss, q⟩ := h
    obtain ⟨vs0, _, v1, v2, _, _⟩ := hh.row (Nat.zero_le _)
    refine ⟨_, (pss_cons (ps_set (i := 3) sc_l_sides_drawn.nd rfl (Or.inl rfl) (pe_call G_l_next (hr.mono (by decide)) rfl T.g_l_next T.F_l_next.kp T.B_l_next .nil pass0 (pa_cons (pv 0) (pa_cons pe_int pa_nil))))
          (pss_cons (ps_set (i := 4) sc_l_sides_drawn.nd rfl (Or.inl rfl) (pe_ix ix_list (pv 2) (pe_call G_l_next (hr.mono (by decide)) rfl T.g_l_next T.F_l_next.kp T.B_l_next .nil pass0 (pa_cons (pv 0) (pa_cons (pe_callB (id := "len") call_len_seq (by rfl) T.z_len (by decide +kernel) (pa_cons (pv 2) pa_nil)) pa_nil))) (fun _ _ => rfl)))
          (pss_cons (ps_set (i := 5) sc_l_sides_drawn.nd rfl (Or.inl rfl) (pe_lst pa_nil))
          (pss_cons (ps_for PassesOwn.never rfl (pi_range1 rfl T.z_range (pa_cons (pe_call G_l_next (hr.mono (by decide)) rfl T.g_l_next T.F_l_next.kp T.B_l_next .nil pass0 (pa_cons (pv 0) (pa_cons pe_int pa_nil))) pa_nil)) (pg_name (i := 6) sc_l_sides_drawn.nd rfl (Or.inl rfl))
          (pss_one (ps_if (pt_cmpR op_eq (pv 3) pe_int (nomark _))
          (pss_one (ps_expr (pe_bm PySem.F.plainAttrs_list PySem.F.slot_list_append PySem.F.type_list_append mt_append (pv 5) (pa_cons (pe_ix ix_list (pv 4) (pe_call G_l_next (hr.mono (by decide)) rfl T.g_l_next T.F_l_next.kp T.B_l_next .nil pass0 (pa_cons (pv 0) (pa_cons (pe_callB (id := "len") call_len_seq (by rfl) T.z_len (by decide +kernel) (pa_cons (pv 4) pa_nil)) pa_nil))) (fun _ _ => rfl)) pa_nil))))
          (pss_one (ps_expr (pe_bm PySem.F.plainAttrs_list PySem.F.slot_list_append PySem.F.type_list_append mt_append (pv 5) (pa_cons (pe_call G_l_drawn_side hr rfl T.g_l_drawn_side T.F_l_drawn_side.kp T.B_l_drawn_side .nil pass0 (pa_cons (pv 0) (pa_cons (pv 1) pa_nil))) pa_nil)))))))
          (pss_cons (ps_if (pt_cmpR op_eq (pv 3) pe_int (nomark _))
          (pss_cons (ps_set (i := 7) sc_l_sides_drawn.nd rfl (Or.inl rfl) (pe_call G_l_next (hr.mono (by decide)) rfl T.g_l_next T.F_l_next.kp T.B_l_next .nil pass0 (pa_cons (pv 0) (pa_cons (pe_op op_add (pe_callB (id := "len") call_len_seq (by rfl) T.z_len (by decide +kernel) (pa_cons (pv 5) pa_nil)) pe_int) pa_nil))))
          (pss_cons (ps_set (i := 8) sc_l_sides_drawn.nd rfl (Or.inl rfl) (pe_ix ix_list (pe_op op_cat (pv 5) (pe_lst (pa_cons (pe_ix ix_list (pv 4) pe_int (fun _ _ => rfl)) pa_nil))) (pe_call G_l_next (hr.mono (by decide)) rfl T.g_l_next T.F_l_next.kp T.B_l_next .nil pass0 (pa_cons (pv 0) (pa_cons (pe_op op_add (pe_callB (id := "len") call_len_seq (by rfl) T.z_len (by decide +kernel) (pa_cons (pv 5) pa_nil)) pe_int) pa_nil))) (fun _ _ => rfl)))
          (pss_one (ps_set (i := 5) sc_l_sides_drawn.nd rfl (Or.inl rfl) (pe_op op_cat (pe_op op_cat (pe_op op_cat (pe_slice sl_list (pv 5) po_none (po_some (pv 7))) (pe_lst (pa_cons (pv 8) pa_nil))) (pe_slice sl_list (pv 5) (po_some (pv 7)) po_none)) (pe_lst (pa_cons (pe_op op_sub pe_int (pv 8)) pa_nil)))))))
          pss_nil)
          (pss_one (ps_ret (pv 5)))))))), ?_⟩
    refine ⟨_, rfl, t, u, 3, rfl, by decide, by decide, hT, fun kd H1 hkd hT1 k1 _ => ?_⟩
    have hh1 := hh.but hT k1
    have v1a := k1 h _ (by obtain ⟨rs, h1, _⟩ := hh; exact hT.neR h1) v1
    refine ⟨_, rfl, _, rfl, _, rfl, h, _, rfl, .inl (SqL.of v1a), t, u, _, rfl, by omega, by omega, hT1, fun p H2 hp hT2 k2 _ => ?_⟩
    have hh2 := hh1.but hT1 k2
    have hp' : p ≤ ps.length := by omega
    obtain ⟨vs, ri, w1, w2, w3, w4⟩ := hh2.row hp'
    refine ⟨h, _, _, _, rfl, rfl, SqL.of w1, at_of (j := p) rfl w3, ?_⟩
    refine ⟨Nat.zero_le _, fun r hr => ?_⟩
    have rt := hT2.ne_new hr
    have ru := hT2.ne_newu hr
    have hT2' := hT2.same (same_new (o := .lst []) hr)
    refine ⟨_, rfl, t, u, 7, rfl, by decide, by decide, hT2', fun m H3 hm hT3 k3 _ => ?_⟩
    have w4t : ri ≠ t := hT2.neI (by rw [hadL_ints] at w4; exact w4)
    have k02 := k1.trans k2
    refine ⟨_, rfl, by omega, by omega, for_range (fun i σ H' => ∃ (v : Option V) (ns : List Int), σ = [some (.ref t), some (.ref l), some (.ref h), some (.int (kd : Int)), some (.ref ri), some (.ref r), v, none, none] ∧ H' r = some (.lst (ns.map V.int)) ∧ ns.length = i ∧ Sides ps.length ns ∧ Tape H' t u ∧ But t H2 H') ⟨none, [], rfl, k3 r _ rt upd_same, rfl, (fun k hk => (by cases hk)), hT3, (But.of_new hr).trans k3⟩ ?_ ?_⟩
    · rintro i _ H4 hi ⟨v, ns, rfl, r4, ln, sn, hT4, k4⟩
      have w5 := k4 ri _ w4t w4
      have hl4 := (k02.trans k4) l _ (hT.ne hl) hl
      refine ⟨_, rfl, rfl, _, rfl, ?_⟩
      refine boolIte (fun _ => ?_) (fun _ => ?_)
      · refine ⟨_, rfl, .inl ⟨rfl, _, SqL.of r4⟩, _, rfl, _, rfl, _, rfl, ri, _, rfl, .inl (SqL.of w5), t, u, _, rfl, by rw [hadL_len]; omega, by rw [hadL_len]; omega, hT4, fun c H5 hc hT5 k5 _ => ?_⟩
        rw [hadL_len] at hc
        have hc' : c < ps.length := by omega
        refine ⟨ri, _, _, _, rfl, rfl, SqL.of (k5 _ _ w4t w5), at_of (j := c) rfl (hadL_get hc'), r, _, _, rfl, rfl, k5 r _ rt r4, size_lt (by rw [List.length_map]; omega), ?_⟩
        exact ⟨_, ns ++ [Tr.side ps p (c + 1)], rfl, by rw [upd_same, List.map_append]; rfl, by rw [List.length_append, ln]; rfl, sides_app sn (sides_one (side_is hc')), hT5.upd rt.symm ru.symm, (k4.trans k5).upd_at hr⟩
      · refine ⟨_, rfl, .inl ⟨rfl, _, SqL.of r4⟩, _, rfl, _, rfl, t, u, l, ps, rfl, hT4, hl4, p1, ss, fun k H5 hk hT5 k5 => ?_⟩
        refine ⟨r, _, _, rfl, rfl, k5 r _ rt r4, size_lt (by rw [List.length_map]; omega), ?_⟩
        exact ⟨_, ns ++ [k], rfl, by rw [upd_same, List.map_append]; rfl, by rw [List.length_append, ln]; rfl, sides_app sn (sides_one hk), hT5.upd rt.symm ru.symm, (k4.trans k5).upd_at hr⟩
    rintro _ H4 ⟨v, ns, rfl, r4, ln, sn, hT4, k4⟩
    have ln' : ns.length ≤ 6 := by omega
    have k04 := k02.trans k4
    have fr := k02.free rt hr
    have w5 := k4 ri _ w4t w4
    have rn := hT4.neI r4
    refine ⟨_, rfl, rfl, _, rfl, ?_⟩
    refine boolIte (fun _ => ?_) (fun _ => ⟨_, rfl, q r ns H4 sn (by omega) hT4 k04 fr r4⟩)
    clear ln hm
    refine ⟨_, rfl, _, rfl, r, _, rfl, .inl (SqL.of r4), _, _, rfl, rfl, t, u, _, rfl, by omega, by rw [List.length_map]; omega, hT4, fun a H5 ha hT5 k5 _ => ?_⟩
    rw [List.length_map] at ha
    have r5 := k5 r _ rn r4
    have w6 := k5 ri _ w4t w5
    refine ⟨_, rfl, _, rfl, ri, _, _, _, rfl, rfl, SqL.of w6, at_of (j := 0) rfl (hadL_get (by omega)), (by show 1 ≤ sizeLine; exact size_le (by omega)), fun o1 n1 => ?_⟩
    have s1 := same_new (o := .lst [V.int (Tr.side ps p (0 + 1))]) n1
    refine ⟨r, o1, _, _, rfl, rfl, s1 _ _ r5, upd_same, size_le (by rw [List.length_map]; show _ + 1 ≤ 2000; omega), fun z1 m1 => ?_⟩
    have s2 := s1.trans (same_new (o := .lst (ns.map V.int ++ [V.int (Tr.side ps p (0 + 1))])) m1)
    have hz : (upd (upd H5 o1 (.lst [V.int (Tr.side ps p (0 + 1))])) z1 (.lst (ns.map V.int ++ [V.int (Tr.side ps p (0 + 1))]))) z1 = some (.lst ((ns ++ [Tr.side ps p (0 + 1)]).map V.int)) := by rw [upd_same, List.map_append]; rfl
    generalize upd (upd H5 o1 (.lst [V.int (Tr.side ps p (0 + 1))])) z1 (.lst (ns.map V.int ++ [V.int (Tr.side ps p (0 + 1))])) = H6 at s2 hz
    clear n1 m1 s1
    have hT6 := hT5.same s2
    have sM : Sides ps.length (ns ++ [Tr.side ps p (0 + 1)]) := sides_app sn (sides_one (side_is (by omega)))
    have lM : (ns ++ [Tr.side ps p (0 + 1)]).length = ns.length + 1 := by rw [List.length_append]; rfl
    generalize ns ++ [Tr.side ps p (0 + 1)] = M at hz sM lM
    have r6 := s2 _ _ r5
    refine ⟨_, rfl, _, rfl, r, _, rfl, .inl (SqL.of r6), _, _, rfl, rfl, t, u, _, rfl, by omega, by rw [List.length_map]; omega, hT6, fun b H7 hb hT7 k7 _ => ?_⟩
    rw [List.length_map] at hb
    have hb' : b < M.length := by omega
    have hx := List.getElem?_eq_getElem hb'
    have sb := sM _ (List.getElem_mem hb')
    generalize M[b] = g at hx sb
    have r7 := k7 r _ rn r6
    refine ⟨z1, _, _, _, rfl, rfl, SqL.of (k7 z1 _ (hT6.neI hz) hz), at_of (j := b) (v := V.int g) rfl (by rw [List.getElem?_map, hx]; rfl), ?_⟩
    have k07 := (k04.trans k5).trans ((But.of_same (s := t) s2).trans k7)
    clear hz hT6 hT5 hT4 k7 k5 k4 r6 r5 r4 w6 w5 w4 s2 hx
    refine ⟨_, rfl, _, rfl, _, rfl, r, _, rfl, SqL.of r7, fun z n2 => ?_⟩
    rw [cutI_to (by omega)]
    refine ⟨_, rfl, (by show 1 ≤ sizeLine; exact size_le (by omega)), fun o2 m2 => ?_⟩
    have s3 := (same_new (o := .lst ((ns.take a).map V.int)) n2).trans (same_new (o := .lst [V.int g]) m2)
    refine ⟨z, o2, _, _, rfl, rfl, (same_new m2) _ _ upd_same, upd_same, size_le (by rw [List.length_map, List.length_take]; show _ + 1 ≤ 2000; omega), fun z2 n3 => ?_⟩
    have s4 := s3.trans (same_new (o := .lst ((ns.take a).map V.int ++ [V.int g])) n3)
    refine ⟨_, rfl, _, rfl, _, rfl, r, _, rfl, SqL.of (s4 _ _ r7), fun z3 n4 => ?_⟩
    rw [cutI_from (by omega)]
    have s5 := s4.trans (same_new (o := .lst ((ns.drop a).map V.int)) n4)
    refine ⟨z2, z3, _, _, rfl, rfl, (same_new n4) _ _ upd_same, upd_same, size_le (by rw [List.length_append, List.length_map, List.length_map, List.length_take, List.length_drop]; show _ + 1 + _ ≤ 2000; omega), fun z4 n5 => ?_⟩
    have s6 := s5.trans (same_new (o := .lst ((ns.take a).map V.int ++ [V.int g] ++ (ns.drop a).map V.int)) n5)
    refine ⟨_, rfl, _, _, rfl, rfl, (by show 1 ≤ sizeLine; exact size_le (by omega)), fun o3 n6 => ?_⟩
    have s7 := s6.trans (same_new (o := .lst [V.int (0 - g)]) n6)
    refine ⟨z4, o3, _, _, rfl, rfl, (same_new n6) _ _ upd_same, upd_same, size_le (by rw [List.length_append, List.length_append, List.length_map, List.length_map, List.length_take, List.length_drop]; show _ + 1 + _ + 1 ≤ 2000; omega), fun z5 n7 => ?_⟩
    have s8 := s7.trans (same_new (o := .lst ((ns.take a).map V.int ++ [V.int g] ++ (ns.drop a).map V.int ++ [V.int (0 - g)])) n7)
    refine ⟨_, rfl, q z5 (ns.take a ++ [g] ++ ns.drop a ++ [0 - g]) _ ?_ ?_ (hT7.same s8) (k07.trans (But.of_same s8)) (k07.free (hT7.ne_new (s7.free n7)) (s7.free n7)) ?_⟩
    · refine sides_app (sides_app (sides_app (fun x hx => sn x (List.mem_of_mem_take hx)) (sides_one sb)) (fun x hx => sn x (List.mem_of_mem_drop hx))) (sides_one ?_)
      rw [Int.zero_sub]
      exact side_neg sb
    · rw [List.length_append, List.length_append, List.length_append, List.length_take, List.length_drop]
      show _ + 1 + _ + 1 ≤ 8
      omega
    · rw [upd_same, List.map_append, List.map_append, List.map_append]
      rfl
theorem ok_l_common_told (T : Tx P K mg) (TB : TBs T base) : FnOk P w K mg base L2.CX0 8 T.a_l_common_told T.d_l_common_told ["_law_shape", "_law_had", "_law_handed"] (spComTold K T.C_Shape T.P_positions_with) := by
  have G_common := ok_common (P := P) (w := w) (base := base) T TB
  have G_l_have_all := ok_l_have_all (P := P) (w := w) (base := base) T TB
  have G_l_ints := ok_l_ints (P := P) (w := w) (base := base) T TB
  have G_l_is_number := ok_l_is_number (P := P) (w := w) (base := base) T TB
  refine T.F_l_common_told.ok sc_l_common_told (fun vs H Q E h => ?_) (fun cdv A outer s H vs Q E hr h => ?_)
  · obtain ⟨s, h, l, ps, ns, rfl, _⟩ := h
    rfl
  · obtain ⟨s, h, l, ps, ns, rfl, S, hh, hl, sm, al, tab, q⟩ := h
    have ss := S.small
    refine ⟨_, (pss_cons (ps_set (i := 3) sc_l_common_told.nd rfl (Or.inl rfl) (pe_callTy (T := "list") call_list_of (by rfl) T.z_list (by decide +kernel) (pa_cons (pv 2) pa_nil)))
          (pss_cons (ps_set (i := 4) sc_l_common_told.nd rfl (Or.inl rfl) (pe_call G_l_have_all (hr.mono (by decide)) rfl T.g_l_have_all T.F_l_have_all.kp T.B_l_have_all .nil pass0 (pa_cons (pv 1) (pa_cons (pv 3) pa_nil))))
          (pss_cons (ps_set (i := 5) sc_l_common_told.nd rfl (Or.inl rfl) (pe_call G_common hr rfl T.g_common T.F_common.kp T.B_common .nil pass_no (pa_cons (pv 0) (pa_cons (pv 2) pa_nil))))
          (pss_cons (ps_if (PW.pt (pw_or (pt_not (pt_val (pe_callB (id := "isinstance") call_isi (by rfl) T.z_isinstance (by decide +kernel) (pa_cons (pv 5) (pa_cons (pe_bltn (v := .ty "tuple") rfl T.z_tuple (by decide +kernel) rfl) pa_nil))))) (pw_or (pt_cmpR op_ne (pe_callB (id := "len") call_len_seq (by rfl) T.z_len (by decide +kernel) (pa_cons (pv 5) pa_nil)) (pe_op op_add pe_int (pe_callTy (T := "int") call_int1 (by rfl) T.z_int (by decide +kernel) (pa_cons (pe_notT (pv 4)) pa_nil))) (nomark _)) (pw_or1 (pt_cmpR (op_neD (hu64_of hr)) (pe_callTy (T := "list") call_list_of (by rfl) T.z_list (by decide +kernel) (pa_cons (pv 2) pa_nil)) (pv 3) (nomark _))))))
          (pss_one (ps_ret pe_bl))
          pss_nil)
          (pss_cons (ps_if (pt_truth (pv 4) (by intro _; rfl))
          (pss_cons (ps_if (PW.pt (pw_or (pt_cmpR op_ne (pe_ix ix_tup (pv 5) pe_int (fun _ _ => rfl)) pe_str (nomark _)) (pw_or1 (pt_not (pt_val (pe_call G_l_ints (hr.mono (by decide)) rfl T.g_l_ints T.F_l_ints.kp T.B_l_ints .nil pass0 (pa_cons (pe_ix ix_tup (pv 5) pe_int (fun _ _ => rfl)) (pa_cons (pv 4) pa_nil))))))))
          (pss_one (ps_ret pe_bl))
          pss_nil)
          (pss_cons (ps_set (i := 6) sc_l_common_told.nd rfl (Or.inl rfl) (pe_ix ix_tup (pv 5) pe_int (fun _ _ => rfl)))
          (pss_cons (ps_expr (pe_bm PySem.F.plainAttrs_list PySem.F.slot_list_append PySem.F.type_list_append mt_append (pv 6) (pa_cons pe_int pa_nil)))
          (pss_cons (ps_asg (pe_op op_sub pe_int pe_int) (pg_sub (pv 6) pe_int set_list))
          (pss_one (ps_ret pe_bl))))))
          pss_nil)
          (pss_cons (ps_if (PW.pt (pw_or (pt_cmpR op_ne (pe_ix ix_tup (pv 5) pe_int (fun _ _ => rfl)) pe_str (nomark _)) (pw_or (pt_not (pt_val (pe_callQ G_l_is_number ((roomH_of hr).mono (by decide)) rfl T.g_l_is_number T.F_l_is_number.kp T.B_l_is_number (pa_cons (pe_ix ix_tup (pv 5) pe_int (fun _ _ => rfl)) pa_nil)))) (pw_or1 (pt_not (pt_val (pe_callQ G_l_is_number ((roomH_of hr).mono (by decide)) rfl T.g_l_is_number T.F_l_is_number.kp T.B_l_is_number (pa_cons (pe_ix ix_tup (pv 5) pe_int (fun _ _ => rfl)) pa_nil))))))))
          (pss_one (ps_ret pe_bl))
          pss_nil)
          (pss_one (ps_ret (pe_and (pe_cmpR op_in_seq (pe_ix ix_tup (pv 5) pe_int (fun _ _ => rfl)) (pv 3) (by rfl)) (pe_and (pe_cmpR op_in_seq (pe_ix ix_tup (pv 5) pe_int (fun _ _ => rfl)) (pv 3) (by rfl)) (pe_one (pe_notT (pe_call G_l_have_all (hr.mono (by decide)) rfl T.g_l_have_all T.F_l_have_all.kp T.B_l_have_all .nil pass0 (pa_cons (pv 1) (pa_cons (pe_lst (pa_cons (pe_ix ix_tup (pv 5) pe_int (fun _ _ => rfl)) (pa_cons (pe_ix ix_tup (pv 5) pe_int (fun _ _ => rfl)) pa_nil))) pa_nil))))))))))))))), ?_⟩
    refine ⟨_, rfl, l, _, rfl, hl, fun p np => ?_⟩
    have s0 := same_new (o := .lst (ns.map V.int)) np
    have hh0 := hh.same s0
    have hp0 : (upd H p (.lst (ns.map V.int))) p = some (.lst (ns.map V.int)) := upd_same
    have S0 := S.same s0
    have hl0 := SqE_same s0 hl
    have tab0 := (Same.t s0).tab _ tab
    generalize upd H p (.lst (ns.map V.int)) = H0 at s0 hh0 hp0 S0 hl0 tab0
    refine ⟨_, rfl, _, rfl, h, p, ps, ns, rfl, hh0, ss, SqL.of hp0, sm, al, fun w H1 s1 nw hw => ?_⟩
    have hl1 := SqE_same s1 hl0
    have s01 := s0.trans s1
    refine ⟨_, rfl, _, rfl, s, l, ps, ns, rfl, S0.same s1, hl1, sm, (Same.t s1).tab _ tab0, fun _ ne r ww H2 s2 nww hr hww => ?_, fun _ e r a b H2 s2 hr ha hb ap => ?_, fun j k hj _ => ?_⟩
    rotate_right
    · exfalso
      obtain ⟨⟨x, hx, cx⟩, _⟩ := hj
      exact cx (al x (List.mem_of_getElem? hx))
    · have hw2 := s2.lst hw
      refine ⟨_, rfl, _, _, _, _, _, rfl, .ty "tuple", tyT (SqT.of hr), kit_ty (r := true) (by decide +kernel), _, rfl, ?_⟩
      refine iteF ?_
      have em : (nvs (comL ps ns)).isEmpty = false := by
        cases e : comL ps ns with
        | nil => exact absurd e ne
        | cons x r => rfl
      refine ⟨_, rfl, r, _, rfl, .inr (SqT.of hr), _, rfl, !(nvs (comL ps ns)).isEmpty, .inl ⟨_, SqL.of hw2, rfl⟩, .inr ⟨_, rfl, _, _, rfl, rfl, rfl, _, rfl, ?_⟩⟩
      rw [em]
      refine ifF (by simp) ?_
      refine ⟨_, rfl, l, _, rfl, hl1.sameT s2, fun z nz => ?_⟩
      have s3 := s2.trans (sameT_new (o := .lst (ns.map V.int)) nz)
      refine ⟨_, rfl, _, _, dp_lst (ns := ns) (SqL.of upd_same), dp_lst (ns := ns) (SqL.of (s3.lst (s1 _ _ hp0))), shaped_lst _, shaped_lst _, ?_⟩
      rw [eqv_lst, decide_eq_true rfl]
      refine ⟨_, rfl, ?_⟩
      refine ifF rfl ?_
      have hw3 := s3.lst hw
      have hr3 : (upd H2 z (.lst (ns.map V.int))) r = some (.tup [.str "common", .ref ww]) := by rw [upd_ne (ne_of_none hr nz)]; exact hr
      have hww3 : (upd H2 z (.lst (ns.map V.int))) ww = some (.lst (nvs (comL ps ns))) := by rw [upd_ne (ne_of_none hww nz)]; exact hww
      generalize upd H2 z (.lst (ns.map V.int)) = H3 at s3 hw3 hr3 hww3
      have lc : (comL ps ns).length ≤ 1001 := by unfold comL; exact Nat.le_trans (List.length_filter_le _ _) (by rw [List.length_range]; omega)
      refine ⟨_, rfl, !(nvs (comL ps ns)).isEmpty, .inl ⟨_, SqL.of hw3, rfl⟩, ?_⟩
      rw [em]
      refine iteT ?_
      refine ⟨_, rfl, r, _, _, _, rfl, rfl, SqT.of hr3, at_of (j := 0) rfl rfl, rfl, _, rfl, ?_⟩
      refine ifF (by simp) ?_
      refine ⟨_, rfl, r, _, _, _, rfl, rfl, SqT.of hr3, at_of (j := 1) rfl rfl, _, rfl, ww, w, comL ps ns, rfl, hww3, SqL.of hw3, by omega, _, rfl, ?_⟩
      refine iteF ?_
      refine ⟨_, rfl, r, _, _, _, rfl, rfl, SqT.of hr3, at_of (j := 1) rfl rfl, ?_⟩
      refine ⟨_, rfl, .inl ⟨rfl, _, SqL.of hww3⟩, ww, _, _, rfl, rfl, hww3, size_lt (by rw [nvs_len]; omega), ?_⟩
      have s4 := sameT_mut (o := .lst (nvs (comL ps ns) ++ [V.int 0])) s3 nww
      refine ⟨_, _, rfl, rfl, _, rfl, ww, _, _, 0, rfl, rfl, upd_same, ixN_nat (by rw [List.length_append]; exact Nat.succ_pos _), ?_⟩
      exact q _ ((Same.t s01).trans (sameT_mut s4 nww))
    · have em : (nvs (comL ps ns)).isEmpty = true := by rw [e]; rfl
      refine ⟨_, rfl, _, _, _, _, _, rfl, .ty "tuple", tyT (SqT.of hr), kit_ty (r := true) (by decide +kernel), _, rfl, ?_⟩
      refine iteF ?_
      have hw2 := s2.lst hw
      refine ⟨_, rfl, r, _, rfl, .inr (SqT.of hr), _, rfl, !(nvs (comL ps ns)).isEmpty, .inl ⟨_, SqL.of hw2, rfl⟩, .inr ⟨_, rfl, _, _, rfl, rfl, rfl, _, rfl, ?_⟩⟩
      rw [em]
      refine ifF (by simp) ?_
      refine ⟨_, rfl, l, _, rfl, hl1.sameT s2, fun z nz => ?_⟩
      have s3 := s2.trans (sameT_new (o := .lst (ns.map V.int)) nz)
      refine ⟨_, rfl, _, _, dp_lst (ns := ns) (SqL.of upd_same), dp_lst (ns := ns) (SqL.of (s3.lst (s1 _ _ hp0))), shaped_lst _, shaped_lst _, ?_⟩
      rw [eqv_lst, decide_eq_true rfl]
      refine ⟨_, rfl, ?_⟩
      refine ifF rfl ?_
      have hw3 := s3.lst hw
      have hp3 := s3.lst (s1 _ _ hp0)
      have hr3 : (upd H2 z (.lst (ns.map V.int))) r = some (.tup [.str "apart", .int a, .int b]) := by rw [upd_ne (ne_of_none hr nz)]; exact hr
      generalize upd H2 z (.lst (ns.map V.int)) = H3 at s3 hw3 hr3 hp3
      refine ⟨_, rfl, !(nvs (comL ps ns)).isEmpty, .inl ⟨_, SqL.of hw3, rfl⟩, ?_⟩
      rw [em]
      refine iteF ?_
      refine ⟨_, rfl, r, _, _, _, rfl, rfl, SqT.of hr3, at_of (j := 0) rfl rfl, rfl, _, rfl, ?_⟩
      refine ifF (by simp) ?_
      refine ⟨_, rfl, r, _, _, _, rfl, rfl, SqT.of hr3, at_of (j := 1) rfl rfl, _, rfl, _, rfl, ?_⟩
      refine iteF ?_
      refine ⟨_, rfl, r, _, _, _, rfl, rfl, SqT.of hr3, at_of (j := 2) rfl rfl, _, rfl, _, rfl, ?_⟩
      refine iteF ?_
      refine ⟨_, rfl, r, _, _, _, rfl, rfl, SqT.of hr3, at_of (j := 1) rfl rfl, _, rfl, p, _, rfl, .inl (SqL.of hp3), rfl, ints_flat _, ?_⟩
      rw [in_ints ha]
      refine ⟨_, rfl, ?_⟩
      refine iteT ?_
      refine ⟨_, rfl, r, _, _, _, rfl, rfl, SqT.of hr3, at_of (j := 2) rfl rfl, _, rfl, p, _, rfl, .inl (SqL.of hp3), rfl, ints_flat _, ?_⟩
      rw [in_ints hb]
      refine ⟨_, rfl, ?_⟩
      refine iteT ?_
      refine ⟨_, rfl, _, rfl, r, _, _, _, rfl, rfl, SqT.of hr3, at_of (j := 1) rfl rfl, _, rfl, r, _, _, _, rfl, rfl, SqT.of hr3, at_of (j := 2) rfl rfl, (by show 2 ≤ sizeLine; exact size_le (by omega)), fun o no => ?_⟩
      have s4 := s3.trans (sameT_new (o := .lst [V.int a, V.int b]) no)
      have ho : (upd H3 o (.lst [V.int a, V.int b])) o = some (.lst (([a, b] : List Int).map V.int)) := upd_same
      refine ⟨h, o, ps, [a, b], rfl, (hh0.same s1).sameT s4, ss, SqL.of ho, by show 2 ≤ 100; omega, fun k hk => ?_, fun w2 H4 s5 _ hw4 => ?_⟩
      · simp only [List.mem_cons, List.not_mem_nil, or_false] at hk
        rcases hk with rfl | rfl
        · exact al _ ha
        · exact al _ hb
      rw [comL_apart ap] at hw4
      exact ⟨_, .inl ⟨_, SqL.of hw4, rfl⟩, q _ ((Same.t s01).trans (s4.trans (Same.t s5)))⟩
theorem ok_l_inside_told (T : Tx P K mg) (TB : TBs T base) : FnOk P w K mg base L2.CX0 5 T.a_l_inside_told T.d_l_inside_told ["_law_shape", "_law_had", "_law_side"] (spInsideTold K T.C_Shape) := by
  have G_Shape_leads_inside := ok_Shape_leads_inside (P := P) (w := w) (base := base) T TB
  have G_l_inside := ok_l_inside (P := P) (w := w) (base := base) T TB
  have G_l_yes_or_no := ok_l_yes_or_no (P := P) (w := w) (base := base) T TB
  refine T.F_l_inside_told.ok sc_l_inside_told (fun vs H Q E h => ?_) (fun cdv A outer s H vs Q E hr h => ?_)
  · obtain ⟨s, h, ps, a, rfl, _⟩ := h
    rfl
  · obtain ⟨s, h, ps, a, rfl, S, hh, ha, q⟩ := h
    have ss := S.small
    obtain ⟨dx, tp, d, kvs, hs, ht, hd, hM⟩ := S.at_
    obtain ⟨vs, _, v1, v2, _, _⟩ := hh.row (Nat.zero_le _)
    refine ⟨_, (pss_cons (ps_for PassesOwn.never rfl (pi_range2 rfl T.z_range (pa_cons pe_int (pa_cons (pe_callB (id := "len") call_len_seq (by rfl) T.z_len (by decide +kernel) (pa_cons (pv 1) pa_nil)) pa_nil))) (pg_name (i := 3) sc_l_inside_told.nd rfl (Or.inl rfl))
          (pss_one (ps_for PassesOwn.never rfl (pi_list (pe_lst (pa_cons (pv 3) (pa_cons (pe_op op_sub pe_int (pv 3)) pa_nil)))) (pg_name (i := 4) sc_l_inside_told.nd rfl (Or.inl rfl))
          (pss_cons (ps_if (pt_not (pt_val (pe_call G_l_yes_or_no (hr.mono (by decide)) rfl T.g_l_yes_or_no T.F_l_yes_or_no.kp T.B_l_yes_or_no .nil pass0 (pa_cons (pe_meth (pv 0) T.cl_Shape T.m_Shape_leads_inside G_Shape_leads_inside hr T.B_Shape_leads_inside .nil pass_no (pa_cons (pv 2) (pa_cons (pv 4) pa_nil))) (pa_cons (pe_call G_l_inside (hr.mono (by decide)) rfl T.g_l_inside T.F_l_inside.kp T.B_l_inside .nil pass0 (pa_cons (pv 1) (pa_cons (pv 2) (pa_cons (pv 4) pa_nil)))) pa_nil)))))
          (pss_one (ps_ret pe_bl))
          pss_nil)
          (pss_one (ps_if (pt_not (pt_val (pe_call G_l_yes_or_no (hr.mono (by decide)) rfl T.g_l_yes_or_no T.F_l_yes_or_no.kp T.B_l_yes_or_no .nil pass0 (pa_cons (pe_meth (pv 0) T.cl_Shape T.m_Shape_leads_inside G_Shape_leads_inside hr T.B_Shape_leads_inside .nil pass_no (pa_cons (pv 4) (pa_cons (pv 2) pa_nil))) (pa_cons (pe_call G_l_inside (hr.mono (by decide)) rfl T.g_l_inside T.F_l_inside.kp T.B_l_inside .nil pass0 (pa_cons (pv 1) (pa_cons (pv 4) (pa_cons (pv 2) pa_nil)))) pa_nil)))))
          (pss_one (ps_ret pe_bl))
          pss_nil))))))
          (pss_one (ps_ret pe_bl))), ?_⟩
    refine ⟨_, rfl, h, _, rfl, .inl (SqL.of v1), _, _, rfl, ⟨by decide, by decide, by omega, by omega⟩, for_range (fun i σ H' => ∃ v w : Option V, σ = [some (.ref s), some (.ref h), some (.int a), v, w] ∧ Same H H') ⟨none, none, rfl, Same.refl _⟩ ?_ ?_⟩
    · rintro i _ H1 hi ⟨v, w, rfl, s1⟩
      have hi' : i < ps.length := by omega
      refine ⟨_, rfl, _, rfl, _, _, rfl, rfl, (by show 2 ≤ sizeLine; exact size_le (by omega)), fun oo noo => ?_⟩
      have s2 := s1.trans (same_new (o := .lst [V.int (1 + (i : Int)), V.int (0 - (1 + (i : Int)))]) noo)
      have too : (upd H1 oo (.lst [V.int (1 + (i : Int)), V.int (0 - (1 + (i : Int)))])) oo = some (.lst [V.int (1 + (i : Int)), V.int (0 - (1 + (i : Int)))]) := upd_same
      generalize upd H1 oo (.lst [V.int (1 + (i : Int)), V.int (0 - (1 + (i : Int)))]) = H2 at s2 too
      refine ⟨oo, rfl, ⟨_, SqL.of too⟩, for_list (K := K) (a := oo) (xs := [V.int (1 + (i : Int)), V.int (0 - (1 + (i : Int)))]) (fun j σ H' => ∃ v : Option V, σ = [some (.ref s), some (.ref h), some (.int a), some (.int (1 + (i : Int))), v] ∧ Same H2 H') ⟨w, rfl, Same.refl _⟩ (fun i σ H' _ ⟨_, _, e⟩ => SqL.of (e _ _ too)) ?_ ?_⟩
      · rintro j x _ H3 hx ⟨v', rfl, sx⟩
        obtain ⟨b, rfl, hb⟩ : ∃ b, x = V.int b ∧ IsSide ps.length b := by
          match j, hx with
          | 0, hx => cases hx; exact ⟨_, rfl, by unfold IsSide; omega⟩
          | 1, hx => cases hx; exact ⟨_, rfl, by unfold IsSide; omega⟩
          | n + 2, hx => simp at hx
        have s3 := s2.trans sx
        have hs3 := s3 _ _ hs
        refine ⟨_, rfl, s, dx, _, rfl, hs3, shf_no (by decide +kernel) (by decide +kernel) (by decide +kernel), _, rfl, _, rfl, s, ps, a, b, rfl, S.same s3, fun _ _ => ?_, fun n => absurd ha n, fun _ n => absurd hb n⟩
        refine ⟨_, rfl, _, rfl, _, rfl, h, ps, a, b, rfl, hh.same s3, ss, ha, hb, insS ps a b, rfl, _, rfl, ?_⟩
        refine iteF ?_
        refine ⟨_, rfl, s, dx, _, rfl, hs3, shf_no (by decide +kernel) (by decide +kernel) (by decide +kernel), _, rfl, _, rfl, s, ps, b, a, rfl, S.same s3, fun _ _ => ?_, fun n => absurd hb n, fun _ n => absurd ha n⟩
        refine ⟨_, rfl, _, rfl, _, rfl, h, ps, b, a, rfl, hh.same s3, ss, hb, ha, insS ps b a, rfl, _, rfl, ?_⟩
        refine iteF ?_
        exact ⟨_, rfl, sx⟩
      · rintro _ H3 ⟨v', rfl, sx⟩
        exact ⟨_, _, rfl, s2.trans sx⟩
    · rintro _ H1 ⟨v, w, rfl, s1⟩
      exact q _ s1
theorem ok_l_common_refused (T : Tx P K mg) (TB : TBs T base) : FnOk P w K mg base L2.CX0 8 T.a_l_common_refused T.d_l_common_refused ["_law_shape", "_law_sides", "_law_bad"] (spComRef K T.C_Shape T.P_positions_with) := by
  have G_common := ok_common (P := P) (w := w) (base := base) T TB
  have G_l_is_number := ok_l_is_number (P := P) (w := w) (base := base) T TB
  refine T.F_l_common_refused.ok sc_l_common_refused (fun vs H Q E h => ?_) (fun cdv A outer s H vs Q E hr h => ?_)
  · obtain ⟨s, l, ps, ns, b, j, rfl, _⟩ := h
    rfl
  · obtain ⟨s, l, ps, ns, b, j, rfl, S, hl, sm, tab, hj, hb, sb, q⟩ := h
    refine ⟨_, (pss_cons (ps_set (i := 3) sc_l_common_refused.nd rfl (Or.inl rfl) (pe_callTy (T := "list") call_list_of (by rfl) T.z_list (by decide +kernel) (pa_cons (pv 1) pa_nil)))
          (pss_cons (ps_try_as (i := 4) (Wout := fun _ _ _ _ => False) rfl rfl sc_l_common_refused.nd rfl rfl ⟨rfl, by decide, Or.inl T.x_BadSide.mgX⟩ takes0 (fun W pn xe tk _ => (pss_one (ps_expr (pe_callS G_common hr rfl T.g_common T.F_common.kp T.B_common (fun σ => passAt tk σ) (by exact (pa_cons (pv 0) (pa_cons (pv 3) pa_nil))))))) (fun a oe cls d pn hz hf => (pss_cons (ps_if (PW.pt (pw_or (pt_not (pt_val (pe_callB (id := "isinstance") (call_isG hz hf) (by rfl) T.z_isinstance (by decide +kernel) (pa_cons (pv 4) (pa_cons (pe_glob (v := .ref T.C_FindsError) rfl T.mg_FindsError rfl) pa_nil))))) (pw_or1 (pt_val (pe_callB (id := "isinstance") (call_isG hz hf) (by rfl) T.z_isinstance (by decide +kernel) (pa_cons (pv 4) (pa_cons (pe_glob (v := .ref T.x_BadPosition.C) rfl T.x_BadPosition.mgX rfl) pa_nil)))))))
          (pss_one (ps_ret pe_bl))
          pss_nil)
          (pss_one (ps_ret (pe_and (pe_callQ G_l_is_number (room_mark hr (by decide)) rfl T.g_l_is_number T.F_l_is_number.kp T.B_l_is_number (pa_cons (pe_xf T.x_BadSide.xf T.x_BadSide.xn hz hf (pv 4)) pa_nil)) (pe_and (pe_cmpR op_eq (pe_xf T.x_BadSide.xf T.x_BadSide.xn hz hf (pv 4)) (pv 2) (nomark _)) (pe_one (pe_cmpR (op_eqDK (K := K) (hu64_mark hr)) (pv 3) (pv 1) (nomark _))))))))))
          (pss_one (ps_ret pe_bl)))), ?_⟩
    refine ⟨_, rfl, l, _, rfl, .inl (SqL.of hl), fun p np => ?_⟩
    have s0 := same_new (o := .lst (ns.map V.int)) np
    have hp0 : (upd H p (.lst (ns.map V.int))) p = some (.lst (ns.map V.int)) := upd_same
    have S0 := S.same s0
    have hl0 := s0 _ _ hl
    have tab0 := (Same.t s0).tab _ tab
    generalize upd H p (.lst (ns.map V.int)) = H0 at s0 hp0 S0 hl0 tab0
    refine ⟨_, rfl, _, rfl, s, p, ps, ns, rfl, S0, .inl (SqL.of hp0), sm, tab0, fun al => ?_, fun al => ?_, fun j' x hj' hx => ?_⟩
    · exfalso
      obtain ⟨⟨x, hx, cx⟩, _⟩ := hj
      exact cx (al x (List.mem_of_getElem? hx))
    · exfalso
      obtain ⟨⟨x, hx, cx⟩, _⟩ := hj
      exact cx (al x (List.mem_of_getElem? hx))
    obtain rfl := hj'.uniq hj
    rw [hb] at hx
    cases hx
    refine ⟨sb, fun d nd => ?_⟩
    have s1 := same_new (o := .xd [("side", V.int b)]) nd
    have hd : (upd H0 d (.xd [("side", V.int b)])) d = some (.xd [("side", V.int b)]) := upd_same
    refine ⟨true, PySem.W.exm_ref T.x_BadSide.sup.oex.exC T.x_BadSide.xf.hdC T.x_BadSide.sup.oex.tyC T.x_BadSide.sup.sub, fun _ e ne => ?_, fun z => Bool.noConfusion z⟩
    refine ⟨_, rfl, _, d, _, _, _, _, rfl, rfl, hd, T.x_BadSide.ec, rfl, relV_ref, T.k_BadSide_FindsError, _, rfl, ?_⟩
    refine iteF ?_
    refine ⟨_, rfl, _, d, _, _, _, _, rfl, rfl, hd, T.x_BadSide.ec, rfl, relV_ref, T.k_BadSide_BadPosition, _, rfl, ?_⟩
    refine iteF ?_
    refine ⟨_, rfl, rfl, rfl, d, _, _, rfl, hd, xd_get, b, rfl, _, rfl, ?_⟩
    refine iteT ?_
    refine ⟨_, rfl, rfl, rfl, d, _, _, rfl, hd, xd_get, _, rfl, rfl, _, rfl, ?_⟩
    refine ifT (decide_eq_true rfl) ?_
    refine ⟨_, rfl, _, rfl, _, _, dp_lst (SqL.of (s1 _ _ hp0)), dp_lst (SqL.of (s1 _ _ hl0)), shaped_lst _, shaped_lst _, ?_⟩
    rw [eqv_lst, decide_eq_true rfl]
    exact q _ (s0.trans s1)
theorem ok_l_inside_refused (T : Tx P K mg) (TB : TBs T base) : FnOk P w K mg base L2.CX0 5 T.a_l_inside_refused T.d_l_inside_refused ["_law_shape", "_law_side", "_law_other", "_law_bad"] (spInsRef K T.C_Shape) := by
  have G_Shape_leads_inside := ok_Shape_leads_inside (P := P) (w := w) (base := base) T TB
  have G_l_is_number := ok_l_is_number (P := P) (w := w) (base := base) T TB
  refine T.F_l_inside_refused.ok sc_l_inside_refused (fun vs H Q E h => ?_) (fun cdv A outer s H vs Q E hr h => ?_)
  · obtain ⟨s, ps, a, b, z, rfl, _⟩ := h
    rfl
  · obtain ⟨s, ps, a, b, z, rfl, S, sz, cs, q⟩ := h
    obtain ⟨dx, t, d, kvs, hs, ht, hd, hM⟩ := S.at_
    refine ⟨_, (pss_cons (ps_try_as (i := 4) (Wout := fun _ _ _ _ => False) rfl rfl sc_l_inside_refused.nd rfl rfl ⟨rfl, by decide, Or.inl T.x_BadSide.mgX⟩ takes0 (fun W pn xe tk _ => (pss_one (ps_expr (pe_methT (pv 0) T.cl_Shape T.m_Shape_leads_inside G_Shape_leads_inside hr T.B_Shape_leads_inside (fun σ => passAt tk σ) (by exact (pa_cons (pv 1) (pa_cons (pv 2) pa_nil))))))) (fun a oe cls d pn hz hf => (pss_cons (ps_if (PW.pt (pw_or (pt_not (pt_val (pe_callB (id := "isinstance") (call_isG hz hf) (by rfl) T.z_isinstance (by decide +kernel) (pa_cons (pv 4) (pa_cons (pe_glob (v := .ref T.C_FindsError) rfl T.mg_FindsError rfl) pa_nil))))) (pw_or1 (pt_val (pe_callB (id := "isinstance") (call_isG hz hf) (by rfl) T.z_isinstance (by decide +kernel) (pa_cons (pv 4) (pa_cons (pe_glob (v := .ref T.x_BadPosition.C) rfl T.x_BadPosition.mgX rfl) pa_nil)))))))
          (pss_one (ps_ret pe_bl))
          pss_nil)
          (pss_one (ps_ret (pe_and (pe_callQ G_l_is_number (room_mark hr (by decide)) rfl T.g_l_is_number T.F_l_is_number.kp T.B_l_is_number (pa_cons (pe_xf T.x_BadSide.xf T.x_BadSide.xn hz hf (pv 4)) pa_nil)) (pe_one (pe_cmpR op_eq (pe_xf T.x_BadSide.xf T.x_BadSide.xn hz hf (pv 4)) (pv 3) (nomark _)))))))))
          (pss_one (ps_ret pe_bl))), ?_⟩
    refine ⟨_, rfl, s, dx, _, rfl, hs, shf_no (by decide +kernel) (by decide +kernel) (by decide +kernel), _, rfl, _, rfl, s, ps, a, b, rfl, S, fun ha hb => ?_, fun na => ?_, fun ha nb => ?_⟩
    · exfalso
      rcases cs with ⟨na, _⟩ | ⟨_, nb, _⟩
      · exact na ha
      · exact nb hb
    · have ez : z = a := by
        rcases cs with ⟨_, e⟩ | ⟨ha, _⟩
        · exact e
        · exact absurd ha na
      subst ez
      refine ⟨sz, fun d hd => ?_⟩
      have sa := same_new (o := .xd [("side", V.int z)]) hd
      replace hd : upd H d (.xd [("side", V.int z)]) d = _ := upd_same
      refine ⟨true, PySem.W.exm_ref T.x_BadSide.sup.oex.exC T.x_BadSide.xf.hdC T.x_BadSide.sup.oex.tyC T.x_BadSide.sup.sub, fun _ e ne => ?_, fun z => Bool.noConfusion z⟩
      refine ⟨_, rfl, _, d, _, _, _, _, rfl, rfl, hd, T.x_BadSide.ec, rfl, relV_ref, T.k_BadSide_FindsError, _, rfl, ?_⟩
      refine iteF ?_
      refine ⟨_, rfl, _, d, _, _, _, _, rfl, rfl, hd, T.x_BadSide.ec, rfl, relV_ref, T.k_BadSide_BadPosition, _, rfl, ?_⟩
      refine iteF ?_
      refine ⟨_, rfl, rfl, rfl, d, _, _, rfl, hd, xd_get, z, rfl, _, rfl, ?_⟩
      refine iteT ?_
      refine ⟨_, rfl, rfl, rfl, d, _, _, rfl, hd, xd_get, _, rfl, rfl, ?_⟩
      rw [decide_eq_true rfl]
      exact q _ sa
    · have ez : z = b := by
        rcases cs with ⟨na, _⟩ | ⟨_, _, e⟩
        · exact absurd ha na
        · exact e
      subst ez
      refine ⟨sz, fun d hd => ?_⟩
      have sa := same_new (o := .xd [("side", V.int z)]) hd
      replace hd : upd H d (.xd [("side", V.int z)]) d = _ := upd_same
      refine ⟨true, PySem.W.exm_ref T.x_BadSide.sup.oex.exC T.x_BadSide.xf.hdC T.x_BadSide.sup.oex.tyC T.x_BadSide.sup.sub, fun _ e ne => ?_, fun z => Bool.noConfusion z⟩
      refine ⟨_, rfl, _, d, _, _, _, _, rfl, rfl, hd, T.x_BadSide.ec, rfl, relV_ref, T.k_BadSide_FindsError, _, rfl, ?_⟩
      refine iteF ?_
      refine ⟨_, rfl, _, d, _, _, _, _, rfl, rfl, hd, T.x_BadSide.ec, rfl, relV_ref, T.k_BadSide_BadPosition, _, rfl, ?_⟩
      refine iteF ?_
      refine ⟨_, rfl, rfl, rfl, d, _, _, rfl, hd, xd_get, z, rfl, _, rfl, ?_⟩
      refine iteT ?_
      refine ⟨_, rfl, rfl, rfl, d, _, _, rfl, hd, xd_get, _, rfl, rfl, ?_⟩
      rw [decide_eq_true rfl]
      exact q _ sa
theorem ok_l_refusals_told (T : Tx P K mg) (TB : TBs T base) : FnOk P w K mg base L2.CX0 9 T.a_l_refusals_told T.d_l_refusals_told ["_law_tape_here", "_law_shape", "_law_parents_here", "_law_chosen"] (spRefAll5 K T.C_Shape T.P_positions_with) := by
  have G_l_bad_side := ok_l_bad_side (P := P) (w := w) (base := base) T TB
  have G_l_common_refused := ok_l_common_refused (P := P) (w := w) (base := base) T TB
  have G_l_drawn_side := ok_l_drawn_side (P := P) (w := w) (base := base) T TB
  have G_l_inside_refused := ok_l_inside_refused (P := P) (w := w) (base := base) T TB
  have G_l_next := ok_l_next (P := P) (w := w) (base := base) T TB
  refine T.F_l_refusals_told.ok sc_l_refusals_told (fun vs H Q E h => ?_) (fun cdv A outer s H vs Q E hr h => ?_)
  · obtain ⟨t, u, s, l, c, ps, ns, rfl, _⟩ := h
    rfl
  · obtain ⟨t, u, s, l, c, ps, ns, rfl, hT, S, hl, hc, ln, al, tab, q⟩ := h
    have ss := S.small
    have p1 := S.pos
    refine ⟨_, (pss_cons (ps_set (i := 4) sc_l_refusals_told.nd rfl (Or.inl rfl) (pe_call G_l_bad_side (hr.mono (by decide)) rfl T.g_l_bad_side T.F_l_bad_side.kp T.B_l_bad_side .nil pass0 (pa_cons (pv 0) (pa_cons (pv 2) pa_nil))))
          (pss_cons (ps_set (i := 5) sc_l_refusals_told.nd rfl (Or.inl rfl) (pe_call G_l_bad_side (hr.mono (by decide)) rfl T.g_l_bad_side T.F_l_bad_side.kp T.B_l_bad_side .nil pass0 (pa_cons (pv 0) (pa_cons (pv 2) pa_nil))))
          (pss_cons (ps_set (i := 6) sc_l_refusals_told.nd rfl (Or.inl rfl) (pe_call G_l_drawn_side (hr.mono (by decide)) rfl T.g_l_drawn_side T.F_l_drawn_side.kp T.B_l_drawn_side .nil pass0 (pa_cons (pv 0) (pa_cons (pv 2) pa_nil))))
          (pss_cons (ps_set (i := 7) sc_l_refusals_told.nd rfl (Or.inl rfl) (pe_call G_l_next (hr.mono (by decide)) rfl T.g_l_next T.F_l_next.kp T.B_l_next .nil pass0 (pa_cons (pv 0) (pa_cons (pe_op op_add (pe_callB (id := "len") call_len_seq (by rfl) T.z_len (by decide +kernel) (pa_cons (pv 3) pa_nil)) pe_int) pa_nil))))
          (pss_cons (ps_if (pt_not (pt_val (pe_call G_l_common_refused hr rfl T.g_l_common_refused T.F_l_common_refused.kp T.B_l_common_refused .nil pass0 (pa_cons (pv 1) (pa_cons (pe_op op_cat (pe_op op_cat (pe_slice sl_list (pv 3) po_none (po_some (pv 7))) (pe_lst (pa_cons (pv 4) pa_nil))) (pe_slice sl_list (pv 3) (po_some (pv 7)) po_none)) (pa_cons (pv 4) pa_nil))))))
          (pss_one (ps_ret pe_bl))
          pss_nil)
          (pss_cons (ps_if (pt_not (pt_val (pe_call G_l_common_refused hr rfl T.g_l_common_refused T.F_l_common_refused.kp T.B_l_common_refused .nil pass0 (pa_cons (pv 1) (pa_cons (pe_op op_cat (pe_op op_cat (pe_op op_cat (pe_slice sl_list (pv 3) po_none (po_some (pv 7))) (pe_lst (pa_cons (pv 5) pa_nil))) (pe_slice sl_list (pv 3) (po_some (pv 7)) po_none)) (pe_lst (pa_cons (pv 4) pa_nil))) (pa_cons (pv 5) pa_nil))))))
          (pss_one (ps_ret pe_bl))
          pss_nil)
          (pss_cons (ps_if (pt_not (pt_val (pe_call G_l_common_refused hr rfl T.g_l_common_refused T.F_l_common_refused.kp T.B_l_common_refused .nil pass0 (pa_cons (pv 1) (pa_cons (pe_lst (pa_cons (pv 6) (pa_cons (pe_op op_sub pe_int (pv 6)) (pa_cons (pv 4) pa_nil)))) (pa_cons (pv 4) pa_nil))))))
          (pss_one (ps_ret pe_bl))
          pss_nil)
          (pss_cons (ps_if (PW.pt (pw_or (pt_not (pt_val (pe_call G_l_inside_refused (hr.mono (by decide)) rfl T.g_l_inside_refused T.F_l_inside_refused.kp T.B_l_inside_refused .nil pass0 (pa_cons (pv 1) (pa_cons (pv 4) (pa_cons (pv 6) (pa_cons (pv 4) pa_nil))))))) (pw_or1 (pt_not (pt_val (pe_call G_l_inside_refused (hr.mono (by decide)) rfl T.g_l_inside_refused T.F_l_inside_refused.kp T.B_l_inside_refused .nil pass0 (pa_cons (pv 1) (pa_cons (pv 6) (pa_cons (pv 4) (pa_cons (pv 4) pa_nil))))))))))
          (pss_one (ps_ret pe_bl))
          pss_nil)
          (pss_one (ps_ret (pe_call G_l_inside_refused (hr.mono (by decide)) rfl T.g_l_inside_refused T.F_l_inside_refused.kp T.B_l_inside_refused .nil pass0 (pa_cons (pv 1) (pa_cons (pv 4) (pa_cons (pv 5) (pa_cons (pv 4) pa_nil))))))))))))))), ?_⟩
    refine ⟨_, rfl, _, rfl, t, u, l, ps, rfl, hT, hl, ss, fun bad H1 nb sb hT1 k1 => ?_⟩
    have hl1 := k1 l _ (hT.ne hl) hl
    have hc1 := k1 c _ (hT.neI hc) hc
    refine ⟨_, rfl, _, rfl, t, u, l, ps, rfl, hT1, hl1, ss, fun worse H2 nw sw hT2 k2 => ?_⟩
    have hl2 := k2 l _ (hT.ne hl) hl1
    have hc2 := k2 c _ (hT.neI hc) hc1
    refine ⟨_, rfl, _, rfl, t, u, l, ps, rfl, hT2, hl2, p1, ss, fun a H3 ha hT3 k3 => ?_⟩
    have hc3 := k3 c _ (hT.neI hc) hc2
    refine ⟨_, rfl, _, rfl, c, _, rfl, .inl (SqL.of hc3), _, _, rfl, rfl, t, u, _, rfl, by omega, by rw [List.length_map]; omega, hT3, fun k H4 hk hT4 k4 _ => ?_⟩
    rw [List.length_map] at hk
    have hk' : k ≤ ns.length := by omega
    have hc4 := k4 c _ (hT.neI hc) hc3
    have k04 := (k1.trans k2).trans (k3.trans k4)
    have S4 := S.but hT k04
    have tab4 : TabG H4 T.P_positions_with := (But.t k04 fun P hP => hT.noTab hP).tab _ tab
    have il : ∀ x : Int, (ns.take k ++ [x] ++ ns.drop k).length = ns.length + 1 := fun x => by
      rw [List.length_append, List.length_append, List.length_take, List.length_drop]
      show _ + 1 + _ = _
      omega
    obtain ⟨b1, b2⟩ := badSd_ins hk' al nb (ns.drop k)
    obtain ⟨w1, w2⟩ := badSd_ins hk' al nw (ns.drop k ++ [bad])
    clear hc3 hc2 hc1 hl2 hl1 k4 k3 k2 k1 hT1 hT2 hT3
    refine ⟨_, rfl, ?_⟩
    refine ⟨_, rfl, _, rfl, _, rfl, c, _, rfl, SqL.of hc4, fun z1 n1 => ?_⟩
    rw [cutI_to (by omega)]
    refine ⟨_, rfl, (by show 1 ≤ sizeLine; exact size_le (by omega)), fun o1 m1 => ?_⟩
    have s31 := (same_new (o := .lst ((ns.take k).map V.int)) n1).trans (same_new (o := .lst [V.int bad]) m1)
    refine ⟨z1, o1, _, _, rfl, rfl, (same_new m1) _ _ upd_same, upd_same, size_le (by rw [List.length_map, List.length_take]; show _ + 1 ≤ 2000; omega), fun z2 n2 => ?_⟩
    have s32 := s31.trans (same_new (o := .lst ((ns.take k).map V.int ++ [V.int bad])) n2)
    refine ⟨_, rfl, _, rfl, _, rfl, c, _, rfl, SqL.of (s32 _ _ hc4), fun z3 n3 => ?_⟩
    rw [cutI_from (by omega)]
    have s33 := s32.trans (same_new (o := .lst ((ns.drop k).map V.int)) n3)
    refine ⟨z2, z3, _, _, rfl, rfl, (same_new n3) _ _ upd_same, upd_same, size_le (by rw [List.length_append, List.length_map, List.length_map, List.length_take, List.length_drop]; show _ + 1 + _ ≤ 2000; omega), fun z n4 => ?_⟩
    have s34 := s33.trans (same_new (o := .lst ((ns.take k).map V.int ++ [V.int bad] ++ (ns.drop k).map V.int)) n4)
    have hz : (upd (upd (upd (upd (upd H4 z1 (.lst ((ns.take k).map V.int))) o1 (.lst [V.int bad])) z2 (.lst ((ns.take k).map V.int ++ [V.int bad]))) z3 (.lst ((ns.drop k).map V.int))) z (.lst ((ns.take k).map V.int ++ [V.int bad] ++ (ns.drop k).map V.int))) z = some (.lst ((ns.take k ++ [bad] ++ ns.drop k).map V.int)) := by rw [upd_same, List.map_append, List.map_append]; rfl
    generalize upd (upd (upd (upd (upd H4 z1 (.lst ((ns.take k).map V.int))) o1 (.lst [V.int bad])) z2 (.lst ((ns.take k).map V.int ++ [V.int bad]))) z3 (.lst ((ns.drop k).map V.int))) z (.lst ((ns.take k).map V.int ++ [V.int bad] ++ (ns.drop k).map V.int)) = H5 at s34 hz
    clear s31 s32 s33 n1 m1 n2 n3 n4
    refine ⟨_, rfl, s, z, ps, _, bad, k, rfl, S4.same s34, hz, by rw [il]; omega, (Same.t s34).tab _ tab4, b1, b2, sb, fun Ha sa => ⟨_, rfl, ?_⟩⟩
    refine iteF ?_
    have s1 := s34.trans sa
    have hca := s1 _ _ hc4
    clear s34 sa hz z H5
    refine ⟨_, rfl, ?_⟩
    refine ⟨_, rfl, _, rfl, _, rfl, c, _, rfl, SqL.of hca, fun z1 n1 => ?_⟩
    rw [cutI_to (by omega)]
    refine ⟨_, rfl, (by show 1 ≤ sizeLine; exact size_le (by omega)), fun o1 m1 => ?_⟩
    have s31 := (same_new (o := .lst ((ns.take k).map V.int)) n1).trans (same_new (o := .lst [V.int worse]) m1)
    refine ⟨z1, o1, _, _, rfl, rfl, (same_new m1) _ _ upd_same, upd_same, size_le (by rw [List.length_map, List.length_take]; show _ + 1 ≤ 2000; omega), fun z2 n2 => ?_⟩
    have s32 := s31.trans (same_new (o := .lst ((ns.take k).map V.int ++ [V.int worse])) n2)
    refine ⟨_, rfl, _, rfl, _, rfl, c, _, rfl, SqL.of (s32 _ _ hca), fun z3 n3 => ?_⟩
    rw [cutI_from (by omega)]
    have s33 := s32.trans (same_new (o := .lst ((ns.drop k).map V.int)) n3)
    refine ⟨z2, z3, _, _, rfl, rfl, (same_new n3) _ _ upd_same, upd_same, size_le (by rw [List.length_append, List.length_map, List.length_map, List.length_take, List.length_drop]; show _ + 1 + _ ≤ 2000; omega), fun z n4 => ?_⟩
    have s34 := s33.trans (same_new (o := .lst ((ns.take k).map V.int ++ [V.int worse] ++ (ns.drop k).map V.int)) n4)
    have hz : (upd (upd (upd (upd (upd Ha z1 (.lst ((ns.take k).map V.int))) o1 (.lst [V.int worse])) z2 (.lst ((ns.take k).map V.int ++ [V.int worse]))) z3 (.lst ((ns.drop k).map V.int))) z (.lst ((ns.take k).map V.int ++ [V.int worse] ++ (ns.drop k).map V.int))) z = some (.lst ((ns.take k ++ [worse] ++ ns.drop k).map V.int)) := by rw [upd_same, List.map_append, List.map_append]; rfl
    generalize upd (upd (upd (upd (upd Ha z1 (.lst ((ns.take k).map V.int))) o1 (.lst [V.int worse])) z2 (.lst ((ns.take k).map V.int ++ [V.int worse]))) z3 (.lst ((ns.drop k).map V.int))) z (.lst ((ns.take k).map V.int ++ [V.int worse] ++ (ns.drop k).map V.int)) = H5 at s34 hz
    clear s31 s32 s33 n1 m1 n2 n3 n4
    refine ⟨_, rfl, (by show 1 ≤ sizeLine; exact size_le (by omega)), fun o3 n6 => ?_⟩
    have s7 := s34.trans (same_new (o := .lst [V.int bad]) n6)
    refine ⟨z, o3, _, _, rfl, rfl, (same_new n6) _ _ hz, upd_same, size_le (by rw [List.length_map, il]; show _ + 1 + 1 ≤ 2000; omega), fun z5 n7 => ?_⟩
    have s8 := s1.trans (s7.trans (same_new (o := .lst ((ns.take k ++ [worse] ++ ns.drop k).map V.int ++ [V.int bad])) n7))
    rw [← List.append_assoc] at w1 w2
    refine ⟨_, rfl, s, z5, ps, ns.take k ++ [worse] ++ ns.drop k ++ [bad], worse, k, rfl, S4.same s8, by rw [upd_same, ← ints_app (ns.take k ++ [worse] ++ ns.drop k) [bad]]; rfl, by rw [List.length_append, il]; show _ + 1 + 1 ≤ 100; omega, (Same.t s8).tab _ tab4, w1, w2, sw, fun Hb sB => ⟨_, rfl, ?_⟩⟩
    refine iteF ?_
    have s2 := s8.trans sB
    clear s8 sB n7 s7 n6 s34 hz hca s1
    refine ⟨_, rfl, _, rfl, _, rfl, _, _, rfl, rfl, _, rfl, (by show 3 ≤ sizeLine; exact size_le (by omega)), fun o no => ?_⟩
    have s3 := s2.trans (same_new (o := .lst [V.int a, V.int (0 - a), V.int bad]) no)
    have ha2 : IsSide ps.length (0 - a) := by rw [Int.zero_sub]; exact side_neg ha
    refine ⟨_, rfl, s, o, ps, [a, 0 - a, bad], bad, 2, rfl, S4.same s3, upd_same, by show 3 ≤ 100; omega, (Same.t s3).tab _ tab4, badSd_third ha ha2 nb, rfl, sb, fun Hc sc => ⟨_, rfl, ?_⟩⟩
    refine iteF ?_
    have s4 := s3.trans sc
    refine ⟨_, rfl, _, rfl, _, rfl, _, rfl, s, ps, bad, a, bad, rfl, S4.same s4, sb, .inl ⟨nb, rfl⟩, fun Hd sd => ⟨_, rfl, ?_⟩⟩
    refine iteF ?_
    have s5 := s4.trans sd
    refine ⟨_, rfl, _, rfl, _, rfl, _, rfl, s, ps, a, bad, bad, rfl, S4.same s5, sb, .inr ⟨ha, nb, rfl⟩, fun He se => ⟨_, rfl, ?_⟩⟩
    refine iteF ?_
    have s6 := s5.trans se
    exact ⟨_, rfl, _, rfl, _, rfl, _, rfl, s, ps, bad, worse, bad, rfl, S4.same s6, sb, .inl ⟨nb, rfl⟩, fun Hf sf => q _ (hT4.same (s6.trans sf)) (k04.trans (But.of_same (s6.trans sf)))⟩
theorem ok_law (T : Tx P K mg) (TB : TBs T base) : FnOk P w K mg base L2.CX0 10 T.a_law T.d_law ["_law_script"] (spLawT1 K T.P_positions_with) := by
  have G_Shape_init := ok_Shape_init (P := P) (w := w) (base := base) T TB
  have G_l_common_told := ok_l_common_told (P := P) (w := w) (base := base) T TB
  have G_l_drawn_side := ok_l_drawn_side (P := P) (w := w) (base := base) T TB
  have G_l_inside_told := ok_l_inside_told (P := P) (w := w) (base := base) T TB
  have G_l_next := ok_l_next (P := P) (w := w) (base := base) T TB
  have G_l_parents := ok_l_parents (P := P) (w := w) (base := base) T TB
  have G_l_refusals_told := ok_l_refusals_told (P := P) (w := w) (base := base) T TB
  have G_l_sides_drawn := ok_l_sides_drawn (P := P) (w := w) (base := base) T TB
  have G_l_sides_had := ok_l_sides_had (P := P) (w := w) (base := base) T TB
  have G_l_tape := ok_l_tape (P := P) (w := w) (base := base) T TB
  refine T.F_law.ok sc_law (fun vs H Q E h => ?_) (fun cdv A outer s H vs Q E hr h => ?_)
  · obtain ⟨a0, ns0, rfl, _⟩ := h
    rfl
  · obtain ⟨a0, ns0, rfl, hS, hlen, tab, q⟩ := h
    refine ⟨_, (pss_cons (ps_set (i := 1) sc_law.nd rfl (Or.inr rfl) (pe_call G_l_tape (hr.mono (by decide)) rfl T.g_l_tape T.F_l_tape.kp T.B_l_tape .nil pass0 (pa_cons (pv 0) pa_nil)))
          (pss_cons (ps_set (i := 2) sc_law.nd rfl (Or.inr rfl) (pe_call G_l_parents (hr.mono (by decide)) rfl T.g_l_parents T.F_l_parents.kp T.B_l_parents .nil pass0 (pa_cons (pv 1) (pa_cons pe_int pa_nil))))
          (pss_cons (ps_set (i := 3) sc_law.nd rfl (Or.inr rfl) (pe_lc (own := [("_law_k", 13)]) (g := gName 13) (tt := tYes) rfl sc_law.nd (pi_range1 rfl T.z_range (pa_cons (pe_callB (id := "len") call_len_seq (by rfl) T.z_len (by decide +kernel) (pa_cons (pv 2) pa_nil)) pa_nil)) (blkOk_by (N := ["_law_script", "_law_tape_here", "_law_parents_here", "_law_others", "_law_had", "_law_second", "_law_chosen", "_law_side", "_law_shape", "_law_other", "_law_handed", "_law_turn", "_law_at", "_law_k", "_law_here", "_law_j"]) (sc := defScope s_law) (by decide +kernel)) (fun _ _ _ _ _ => (pg_name (i := 13) sc_law.nd rfl (Or.inl rfl))) (fun _ _ _ _ _ => pts_nil) (fun _ _ _ _ _ => (pe_call G_l_next (hr.mono (by decide)) rfl T.g_l_next T.F_l_next.kp T.B_l_next .nil pass0 (pa_cons (pv 1) (pa_cons (pe_op op_add (pv 13) pe_int) pa_nil))))))
          (pss_cons (ps_setLc (i := 4) (own := [("_law_here", 14)]) (g := gName 14) (tt := tYes) rfl sc_law.nd rfl rfl (sw_true rfl rfl rfl (by decide +kernel)) (pi_range1 rfl T.z_range (pa_cons (pe_op op_add (pe_callB (id := "len") call_len_seq (by rfl) T.z_len (by decide +kernel) (pa_cons (pv 2) pa_nil)) pe_int) pa_nil)) (blkOk_by (N := ["_law_script", "_law_tape_here", "_law_parents_here", "_law_others", "_law_had", "_law_second", "_law_chosen", "_law_side", "_law_shape", "_law_other", "_law_handed", "_law_turn", "_law_at", "_law_k", "_law_here", "_law_j"]) (sc := defScope s_law) (by decide +kernel)) (fun _ _ _ _ _ => (pg_name (i := 14) sc_law.nd rfl (Or.inl rfl))) (fun _ _ _ _ _ => pts_nil) (fun _ _ _ _ _ => (pe_call G_l_sides_had (hr.mono (by decide)) rfl T.g_l_sides_had T.F_l_sides_had.kp T.B_l_sides_had .nil pass0 (pa_cons (pv 2) (pa_cons (pv 14) pa_nil)))))
          (pss_cons (ps_setLc (i := 5) (own := [("_law_here", 14)]) (g := gName 14) (tt := tYes) rfl sc_law.nd rfl rfl (sw_true rfl rfl rfl (by decide +kernel)) (pi_range1 rfl T.z_range (pa_cons (pe_op op_add (pe_callB (id := "len") call_len_seq (by rfl) T.z_len (by decide +kernel) (pa_cons (pv 3) pa_nil)) pe_int) pa_nil)) (blkOk_by (N := ["_law_script", "_law_tape_here", "_law_parents_here", "_law_others", "_law_had", "_law_second", "_law_chosen", "_law_side", "_law_shape", "_law_other", "_law_handed", "_law_turn", "_law_at", "_law_k", "_law_here", "_law_j"]) (sc := defScope s_law) (by decide +kernel)) (fun _ _ _ _ _ => (pg_name (i := 14) sc_law.nd rfl (Or.inl rfl))) (fun _ _ _ _ _ => pts_nil) (fun _ _ _ _ _ => (pe_call G_l_sides_had (hr.mono (by decide)) rfl T.g_l_sides_had T.F_l_sides_had.kp T.B_l_sides_had .nil pass0 (pa_cons (pv 3) (pa_cons (pv 14) pa_nil)))))
          (pss_cons (ps_set (i := 6) sc_law.nd rfl (Or.inr rfl) (pe_call G_l_sides_drawn (hr.mono (by decide)) rfl T.g_l_sides_drawn T.F_l_sides_drawn.kp T.B_l_sides_drawn .nil pass0 (pa_cons (pv 1) (pa_cons (pv 2) (pa_cons (pv 4) pa_nil)))))
          (pss_cons (ps_set (i := 7) sc_law.nd rfl (Or.inl rfl) (pe_call G_l_drawn_side (hr.mono (by decide)) rfl T.g_l_drawn_side T.F_l_drawn_side.kp T.B_l_drawn_side .nil pass0 (pa_cons (pv 1) (pa_cons (pv 2) pa_nil))))
          (pss_cons (ps_set (i := 8) sc_law.nd rfl (Or.inl rfl) (pe_make T.M_Shape G_Shape_init (hr.mono (by decide)) rfl T.mg_Shape T.B_Shape_init .nil pass_no (pa_cons (pe_callTy (T := "list") call_list_of (by rfl) T.z_list (by decide +kernel) (pa_cons (pv 2) pa_nil)) pa_nil)))
          (pss_cons (ps_set (i := 9) sc_law.nd rfl (Or.inl rfl) (pe_make T.M_Shape G_Shape_init (hr.mono (by decide)) rfl T.mg_Shape T.B_Shape_init .nil pass_no (pa_cons (pe_callTy (T := "list") call_list_of (by rfl) T.z_list (by decide +kernel) (pa_cons (pv 3) pa_nil)) pa_nil)))
          (pss_cons (ps_set (i := 10) sc_law.nd rfl (Or.inl rfl) (pe_callTy (T := "list") call_list_of (by rfl) T.z_list (by decide +kernel) (pa_cons (pv 6) pa_nil)))
          (pss_cons (ps_for PassesOwn.never rfl (pi_range1 rfl T.z_range (pa_cons pe_int pa_nil)) (pg_name (i := 11) sc_law.nd rfl (Or.inl rfl))
          (pss_one (ps_if (PW.pt (pw_or (pt_not (pt_val (pe_call G_l_common_told (hr.mono (by decide)) rfl T.g_l_common_told T.F_l_common_told.kp T.B_l_common_told .nil pass0 (pa_cons (pv 8) (pa_cons (pv 4) (pa_cons (pv 10) pa_nil)))))) (pw_or1 (pt_not (pt_val (pe_call G_l_common_told (hr.mono (by decide)) rfl T.g_l_common_told T.F_l_common_told.kp T.B_l_common_told .nil pass0 (pa_cons (pv 9) (pa_cons (pv 5) (pa_cons (pv 10) pa_nil)))))))))
          (pss_one (ps_ret pe_bl))
          pss_nil)))
          (C8.pss_cut (ps_if (pt_truth (pv 10) (by intro _; rfl))
          (pss_cons (ps_set (i := 12) sc_law.nd rfl (Or.inl rfl) (pe_call G_l_next (hr.mono (by decide)) rfl T.g_l_next T.F_l_next.kp T.B_l_next .nil pass0 (pa_cons (pv 1) (pa_cons (pe_callB (id := "len") call_len_seq (by rfl) T.z_len (by decide +kernel) (pa_cons (pv 10) pa_nil)) pa_nil))))
          (pss_one (ps_asg (pe_op op_sub pe_int (pe_ix ix_list (pv 10) (pv 12) (fun _ _ => rfl))) (pg_sub (pv 10) (pv 12) set_list))))
          pss_nil)
          (pss_cons (ps_if (PW.pt (pw_or (pt_not (pt_val (pe_call G_l_common_told (hr.mono (by decide)) rfl T.g_l_common_told T.F_l_common_told.kp T.B_l_common_told .nil pass0 (pa_cons (pv 8) (pa_cons (pv 4) (pa_cons (pv 10) pa_nil)))))) (pw_or1 (pt_not (pt_val (pe_call G_l_common_told (hr.mono (by decide)) rfl T.g_l_common_told T.F_l_common_told.kp T.B_l_common_told .nil pass0 (pa_cons (pv 8) (pa_cons (pv 4) (pa_cons (pe_lst pa_nil) pa_nil)))))))))
          (pss_one (ps_ret pe_bl))
          pss_nil)
          (C8.pss_cut (ps_if (PW.pt (pw_and (pt_truth (pv 6) (by intro _; rfl)) (pw_and1 (pt_not (pt_val (pe_call G_l_common_told (hr.mono (by decide)) rfl T.g_l_common_told T.F_l_common_told.kp T.B_l_common_told .nil pass0 (pa_cons (pv 8) (pa_cons (pv 4) (pa_cons (pe_op op_cat (pe_lc (own := [("_law_j", 15)]) (g := gName 15) (tt := tYes) rfl sc_law.nd (pi_range1 rfl T.z_range (pa_cons pe_int pa_nil)) (blkOk_by (N := ["_law_script", "_law_tape_here", "_law_parents_here", "_law_others", "_law_had", "_law_second", "_law_chosen", "_law_side", "_law_shape", "_law_other", "_law_handed", "_law_turn", "_law_at", "_law_k", "_law_here", "_law_j"]) (sc := defScope s_law) (by decide +kernel)) (fun _ _ _ _ _ => (pg_name (i := 15) sc_law.nd rfl (Or.inl rfl))) (fun _ _ _ _ _ => pts_nil) (fun _ _ _ _ _ => (pe_ix (ix_listK (K := K)) (pv 6) pe_int (fun _ _ => rfl)))) (pe_slice sl_list (pv 6) (po_some pe_int) (po_some pe_int))) pa_nil)))))))))
          (pss_one (ps_ret pe_bl))
          pss_nil)
          (pss_cons (ps_if (PW.pt (pw_or (pt_not (pt_val (pe_call G_l_inside_told (hr.mono (by decide)) rfl T.g_l_inside_told T.F_l_inside_told.kp T.B_l_inside_told .nil pass0 (pa_cons (pv 8) (pa_cons (pv 4) (pa_cons (pv 7) pa_nil)))))) (pw_or1 (pt_not (pt_val (pe_call G_l_inside_told (hr.mono (by decide)) rfl T.g_l_inside_told T.F_l_inside_told.kp T.B_l_inside_told .nil pass0 (pa_cons (pv 9) (pa_cons (pv 5) (pa_cons (pv 7) pa_nil)))))))))
          (pss_one (ps_ret pe_bl))
          pss_nil)
          (pss_cons (ps_if (pt_not (pt_val (pe_call G_l_refusals_told hr rfl T.g_l_refusals_told T.F_l_refusals_told.kp T.B_l_refusals_told .nil pass0 (pa_cons (pv 1) (pa_cons (pv 8) (pa_cons (pv 2) (pa_cons (pv 6) pa_nil)))))))
          (pss_one (ps_ret pe_bl))
          pss_nil)
          (pss_one (ps_ret (pe_call G_l_common_told (hr.mono (by decide)) rfl T.g_l_common_told T.F_l_common_told.kp T.B_l_common_told .nil pass0 (pa_cons (pv 8) (pa_cons (pv 4) (pa_cons (pe_callTy (T := "tuple") call_tuple_of (by rfl) T.z_tuple (by decide +kernel) (pa_cons (pv 6) pa_nil)) pa_nil)))))))))))))))))))))), ?_⟩
    refine ⟨_, rfl, a0, ns0, rfl, hS, hlen, fun t u H1 s1 nt hT1 => ?_⟩
    refine ⟨_, rfl, t, u, 8, rfl, by omega, by omega, hT1, fun l ps H2 ok p1 p8 hT2 k2 nl hl2 => ?_⟩
    have tab2 : TabG H2 T.P_positions_with := (But.t k2 fun P hP => hT1.noTab hP).tab _ ((Same.t s1).tab _ tab)
    have hlt : l ≠ t := hT2.ne hl2
    have len := nvs_len ps
    refine ⟨_, rfl, l, _, rfl, .inl (SqL.of hl2), _, rfl, by omega, by omega, fun D hD => ?_⟩
    have hDt : D ≠ t := fun e => hT2.new (by rw [← e]; exact hD)
    have hDu : D ≠ u := fun e => hT2.newu (by rw [← e]; exact hD)
    refine lc_range (fun k H' => ∃ qs : List Nat, Tr.Ok qs ∧ qs.length = k ∧ H' D = some (.lst (nvs qs)) ∧ Tape H' t u ∧ But t H2 H') ⟨[], fun i p h => by simp at h, rfl, upd_same, hT2.same (same_new hD), But.of_new hD⟩ ?_ ?_
    · rintro i H3 hi ⟨qs, okq, lq, hD3, hT3, k3⟩
      refine ⟨rfl, ?_⟩
      refine ⟨_, rfl, _, rfl, _, _, rfl, rfl, t, u, _, rfl, by omega, by omega, hT3, fun r H4 hr hT4 k4 s4 => ?_⟩
      exact ⟨_, k4 D _ hDt hD3, size_lt (by rw [nvs_len]; omega), qs ++ [r], ok_snoc okq (by omega), by rw [List.length_append, lq]; rfl, by rw [upd_same, nvs_snoc], hT4.upd hDt.symm hDu.symm, (k3.trans k4).upd_at hD⟩
    rintro H3 ⟨qs, okq, lq, hD3, hT3, k3⟩
    have hl3 : H3 l = some (.lst (nvs ps)) := k3 l _ hlt hl2
    have tab3 := (But.t k3 fun P hP => hT2.noTab hP).tab _ tab2
    rw [show (((nvs ps).length : Nat) : Int).toNat = ps.length by omega] at lq
    have len2 := nvs_len qs
    clear tab2 hl2 k3 k2 hT2 hT1 nl hD s1 H1
    refine ⟨_, rfl, l, _, rfl, .inl (SqL.of hl3), _, _, rfl, rfl, _, rfl, by omega, by omega, fun h1 hh1 => ?_⟩
    refine lc_range (fun k H' => ∃ rs : List Addr, rs.length = k ∧ H' h1 = some (.lst (rs.map V.ref)) ∧ Same H3 H' ∧ ∀ (p : Nat) (r : Addr), rs[p]? = some r → r ≠ h1 ∧ H' r = some (.lst (hadL ps p))) ⟨[], rfl, upd_same, same_new hh1, fun p r hr => by simp at hr⟩ ?_ ?_
    · rintro i H1 hi ⟨rs, r1, r2, sa, r3⟩
      have e0 : (0 : Int) + (i : Int) = (i : Int) := by omega
      refine ⟨rfl, ?_⟩
      refine ⟨_, rfl, _, rfl, l, ps, i, congrArg (fun z => [V.ref l, V.int z]) e0, SqL.of (sa _ _ hl3), ok, by omega, by omega, fun r H2 sb nr hr => ?_⟩
      have hrD : r ≠ h1 := (ne_of_none r2 nr).symm
      refine ⟨_, sb _ _ r2, size_lt (by rw [List.length_map]; omega), rs ++ [r], by rw [List.length_append, r1]; rfl, by rw [upd_same, List.map_append]; rfl, same_mut (sa.trans sb) hh1, fun p r' hr' => ?_⟩
      rw [List.getElem?_append] at hr'
      split at hr'
      · obtain ⟨x1, x2⟩ := r3 p r' hr'
        exact ⟨x1, by rw [upd_ne x1]; exact sb _ _ x2⟩
      · rename_i hp
        cases e : p - rs.length with
        | zero =>
          rw [e] at hr'
          obtain rfl : r = r' := Option.some.inj hr'
          obtain rfl : p = i := by omega
          exact ⟨hrD, by rw [upd_ne hrD]; exact hr⟩
        | succ z => rw [e] at hr'; cases hr'
    rintro H4 ⟨rs, r1, r2, sa, r3⟩
    have d1 : Had H4 h1 ps := ⟨rs, r2, by omega, fun p r hr => (r3 p r hr).2⟩
    have hl4 := sa _ _ hl3
    have hD4 := sa _ _ hD3
    have hT4 := hT3.same sa
    have tab4 := (Same.t sa).tab _ tab3
    clear r1 r2 r3 sa hl3 hD3 hT3 tab3 hh1 rs
    refine ⟨_, rfl, D, _, rfl, .inl (SqL.of hD4), _, _, rfl, rfl, _, rfl, by omega, by omega, fun h2 hh2 => ?_⟩
    refine lc_range (fun k H' => ∃ rs : List Addr, rs.length = k ∧ H' h2 = some (.lst (rs.map V.ref)) ∧ Same H4 H' ∧ ∀ (p : Nat) (r : Addr), rs[p]? = some r → r ≠ h2 ∧ H' r = some (.lst (hadL qs p))) ⟨[], rfl, upd_same, same_new hh2, fun p r hr => by simp at hr⟩ ?_ ?_
    · rintro i H1 hi ⟨rs, r1, r2, sa, r3⟩
      have e0 : (0 : Int) + (i : Int) = (i : Int) := by omega
      refine ⟨rfl, ?_⟩
      refine ⟨_, rfl, _, rfl, D, qs, i, congrArg (fun z => [V.ref D, V.int z]) e0, SqL.of (sa _ _ hD4), okq, by omega, by omega, fun r H2 sb nr hr => ?_⟩
      have hrD : r ≠ h2 := (ne_of_none r2 nr).symm
      refine ⟨_, sb _ _ r2, size_lt (by rw [List.length_map]; omega), rs ++ [r], by rw [List.length_append, r1]; rfl, by rw [upd_same, List.map_append]; rfl, same_mut (sa.trans sb) hh2, fun p r' hr' => ?_⟩
      rw [List.getElem?_append] at hr'
      split at hr'
      · obtain ⟨x1, x2⟩ := r3 p r' hr'
        exact ⟨x1, by rw [upd_ne x1]; exact sb _ _ x2⟩
      · rename_i hp
        cases e : p - rs.length with
        | zero =>
          rw [e] at hr'
          obtain rfl : r = r' := Option.some.inj hr'
          obtain rfl : p = i := by omega
          exact ⟨hrD, by rw [upd_ne hrD]; exact hr⟩
        | succ z => rw [e] at hr'; cases hr'
    rintro H5 ⟨rs, r1, r2, sa, r3⟩
    have d2 : Had H5 h2 qs := ⟨rs, r2, by omega, fun p r hr => (r3 p r hr).2⟩
    have d1' := d1.same sa
    have hl5 := sa _ _ hl4
    have hD5 := sa _ _ hD4
    have hT5 := hT4.same sa
    have tab5 := (Same.t sa).tab _ tab4
    clear r1 r2 r3 sa hl4 hD4 hT4 tab4 hh2 d1 rs
    refine ⟨_, rfl, _, rfl, _, rfl, t, u, l, h1, ps, rfl, hT5, hl5, d1', p1, by omega, fun c ns H6 al ln hT6 k6 nc hc => ?_⟩
    have hl6 := k6 _ _ hlt hl5
    refine ⟨_, rfl, _, rfl, t, u, l, ps, rfl, hT6, hl6, p1, by omega, fun a H7 ha hT7 k7 => ?_⟩
    have k57 := k6.trans k7
    have d17 := d1'.but hT5 k57
    have d27 := d2.but hT5 k57
    have hl7 := k7 _ _ hlt hl6
    have hD7 := k57 _ _ hDt hD5
    have hc7 := k7 _ _ (hT6.neI hc) hc
    have tab7 := (But.t k57 fun P hP => hT5.noTab hP).tab _ tab5
    clear k57 k7 k6 hl6 hl5 hD5 hc tab5 hT6 hT5 d1' d2 nc
    refine ⟨_, rfl, l, _, rfl, .inl (SqL.of hl7), fun l2 n2 => ?_⟩
    intro x dx nx ndx nex
    have hz : (upd H7 l2 (.lst (nvs ps))) l2 = some (.lst ((toI ps).map V.int)) := by rw [upd_same, nvs_toI]
    refine ⟨x, dx, l2, toI ps, rfl, upd_same, (.inl (SqL.of (made_at nx ndx hz))), by rw [toI_len]; omega, fun ps' H8 e ok' pos' bt S8 => ⟨rfl, ?_⟩, fun j wr => absurd wr (noWrong ok), fun e => absurd (congrArg List.length e) (by rw [toI_len]; show ¬ ps.length = 0; omega)⟩
    obtain rfl : ps = ps' := nvs_inj (by rw [← e, nvs_toI])
    have s8 := (same_new n2).trans (made nx ndx bt)
    have hD8 := s8 _ _ hD7
    refine ⟨_, rfl, D, _, rfl, .inl (SqL.of hD8), fun l3 n3 => ?_⟩
    intro y dy ny ndy ney
    have hz2 : (upd H8 l3 (.lst (nvs qs))) l3 = some (.lst ((toI qs).map V.int)) := by rw [upd_same, nvs_toI]
    refine ⟨y, dy, l3, toI qs, rfl, upd_same, (.inl (SqL.of (made_at ny ndy hz2))), by rw [toI_len]; omega, fun qs' H9 e2 ok2 pos2 bt2 S9 => ⟨rfl, ?_⟩, fun j wr => absurd wr (noWrong okq), fun e => absurd (congrArg List.length e) (by rw [toI_len]; show ¬ qs.length = 0; omega)⟩
    obtain rfl : qs = qs' := nvs_inj (by rw [← e2, nvs_toI])
    have s9 := s8.trans ((same_new n3).trans (made ny ndy bt2))
    have W9 : LawW K T.C_Shape T.P_positions_with x y h1 h2 l c t u ps qs ns H9 := ⟨S8.same ((same_new n3).trans (made ny ndy bt2)), S9, d17.same s9, d27.same s9, s9 _ _ hl7, s9 _ _ hc7, (Same.t s9).tab _ tab7, hT7.same s9⟩
    clear hz hz2 n2 nx ndx nex n3 ny ndy ney bt bt2 s8 s9 hD8 hl7 hD7 tab7 hT7 S8 S9 d17 d27 hc7
    refine ⟨_, rfl, c, _, rfl, .inl (SqL.of W9.hc), fun hd nhd => ?_⟩
    have e0 : ButT hd H9 (upd H9 hd (.lst (ns.map V.int))) := ButT.of (sameT_new nhd)
    have h0 : (upd H9 hd (.lst (ns.map V.int))) hd = some (.lst (ns.map V.int)) := upd_same
    generalize upd H9 hd (.lst (ns.map V.int)) = Hc at e0 h0
    have al2 : Sides qs.length ns := by rw [lq]; exact al
    have ha2 : IsSide qs.length a := by rw [lq]; exact ha
    refine ⟨_, rfl, by decide, by decide, for_range (fun i σ H' => ∃ v : Option V, σ = [some (.ref a0), some (.ref t), some (.ref l), some (.ref D), some (.ref h1), some (.ref h2), some (.ref c), some (.int a), some (.ref x), some (.ref y), some (.ref hd), v, none, none, none, none] ∧ ButT hd H9 H' ∧ H' hd = some (.lst (ns.map V.int))) ⟨none, rfl, e0, h0⟩ ?_ ?_⟩
    · rintro i _ Hd hi ⟨v, rfl, e1, h1'⟩
      have W1 := W9.butN nhd e1
      refine ⟨_, rfl, _, rfl, _, rfl, x, h1, hd, ps, ns, rfl, W1.sx, W1.d1, .inl (SqL.of h1'), by omega, al, W1.tb, fun He se => ⟨_, rfl, ?_⟩⟩
      refine iteF ?_
      have e2 := e1.trans (ButT.of (t := hd) se)
      have W2 := W9.butN nhd e2
      have h2' := se.lst h1'
      refine ⟨_, rfl, _, rfl, _, rfl, y, h2, hd, qs, ns, rfl, W2.sy, W2.d2, .inl (SqL.of h2'), by omega, al2, W2.tb, fun Hf sf => ⟨_, rfl, ?_⟩⟩
      refine iteF ?_
      exact ⟨_, rfl, e2.trans (ButT.of (t := hd) sf), sf.lst h2'⟩
    clear e0 h0
    rintro _ Hd ⟨v, rfl, e1, h1'⟩
    refine ⟨fun σ H' => ∃ (w : Option V) (M : List Int), σ = [some (.ref a0), some (.ref t), some (.ref l), some (.ref D), some (.ref h1), some (.ref h2), some (.ref c), some (.int a), some (.ref x), some (.ref y), some (.ref hd), v, w, none, none, none] ∧ LawW K T.C_Shape T.P_positions_with x y h1 h2 l c t u ps qs ns H' ∧ H' hd = some (.lst (M.map V.int)) ∧ M.length ≤ 8 ∧ Sides ps.length M, ?_, ?_⟩
    · refine ⟨_, rfl, !(ns.map V.int).isEmpty, .inl ⟨_, SqL.of h1', rfl⟩, ?_⟩
      refine boolIte (fun hb => ?_) (fun _ => ⟨_, ns, rfl, W9.butN nhd e1, h1', ln, al⟩)
      have hne : 1 ≤ ns.length := by
        cases hc : ns with
        | nil => rw [hc] at hb; cases hb
        | cons x r => rw [List.length_cons]; omega
      have W1 := W9.butN nhd e1
      refine ⟨_, rfl, _, rfl, hd, _, rfl, .inl (SqL.of h1'), t, u, _, rfl, by rw [List.length_map]; omega, by rw [List.length_map]; omega, W1.tp, fun k He hk hTe ke _ => ?_⟩
      rw [List.length_map] at hk
      have hk' : k < ns.length := by omega
      have h2' := ke _ _ (W1.tp.neI h1') h1'
      have hx := List.getElem?_eq_getElem hk'
      refine ⟨_, rfl, _, rfl, hd, _, _, _, rfl, rfl, SqL.of h2', at_of (j := k) (v := V.int ns[k]) rfl (by rw [List.getElem?_map, hx]; rfl), _, _, rfl, rfl, _, rfl, _, rfl, hd, _, _, k, rfl, rfl, h2', ixN_nat (by rw [List.length_map]; omega), ?_⟩
      refine ⟨_, ns.set k (0 - ns[k]), rfl, W9.step nhd e1 ke hTe h2', by rw [upd_same, List.map_set], by rw [List.length_set]; exact ln, fun z hz => ?_⟩
      rcases List.mem_or_eq_of_mem_set hz with h | h
      · exact al z h
      · rw [h, Int.zero_sub]
        exact side_neg (al _ (List.getElem_mem hk'))
    clear e1 h1' W9 nhd
    rintro _ Hd ⟨w, M, rfl, W, hM, lM, aM⟩
    refine ⟨_, rfl, _, rfl, _, rfl, x, h1, hd, ps, M, rfl, W.sx, W.d1, .inl (SqL.of hM), by omega, aM, W.tb, fun He se => ⟨_, rfl, ?_⟩⟩
    refine iteF ?_
    have W1 := W.sameT se
    refine ⟨_, rfl, _, rfl, Nat.zero_le _, fun c3 nc3 => ?_⟩
    have W2 := W1.sameT (sameT_new (o := .lst []) nc3)
    refine ⟨x, h1, c3, ps, [], rfl, W2.sx, W2.d1, .inl (SqL.of upd_same), Nat.zero_le _, (fun k hk => (by cases hk)), W2.tb, fun Hf sf => ⟨_, rfl, ?_⟩⟩
    refine iteF ?_
    have W3 := W2.sameT sf
    clear W W1 W2 se sf nc3 hM lM aM
    refine ⟨fun σ H' => σ = [some (.ref a0), some (.ref t), some (.ref l), some (.ref D), some (.ref h1), some (.ref h2), some (.ref c), some (.int a), some (.ref x), some (.ref y), some (.ref hd), v, w, none, none, none] ∧ LawW K T.C_Shape T.P_positions_with x y h1 h2 l c t u ps qs ns H', ?_, ?_⟩
    · refine ⟨_, rfl, !(ns.map V.int).isEmpty, .inl ⟨_, SqL.of W3.hc, rfl⟩, ?_⟩
      refine boolIte (fun hb => ?_) (fun _ => ?_)
      · have hne : 1 ≤ ns.length := by
          cases hc : ns with
          | nil => rw [hc] at hb; cases hb
          | cons x r => rw [List.length_cons]; omega
        obtain ⟨n0, hn0⟩ : ∃ x, ns[0]? = some x := ⟨ns[0]'(by omega), List.getElem?_eq_getElem _⟩
        refine ⟨_, rfl, _, rfl, _, rfl, by decide, by decide, fun E hE => ?_⟩
        have hcE : ∀ x, (upd Hf E x) c = some (.lst (ns.map V.int)) := fun x => by rw [upd_ne (ne_of_none W3.hc hE)]; exact W3.hc
        refine lc_range (fun k H' => H' = upd Hf E (.lst ((List.replicate k n0).map V.int))) rfl ?_ ?_
        · rintro i _ hi rfl
          have hi8 : i < 8 := hi
          refine ⟨rfl, ?_⟩
          refine ⟨_, rfl, c, _, _, _, rfl, rfl, SqL.of (hcE _), at_of (j := 0) (v := V.int n0) rfl (by rw [List.getElem?_map, hn0]; rfl), _, upd_same, size_lt (by rw [List.length_map, List.length_replicate]; omega), ?_⟩
          rw [upd_upd, List.replicate_succ', List.map_append]
          rfl
        rintro _ rfl
        obtain ⟨M2, eM, lM, sM⟩ := cutI_any ns (some 1) (some 5)
        refine ⟨_, rfl, _, rfl, _, rfl, c, _, rfl, SqL.of (hcE _), fun z nz => ?_⟩
        rw [eM]
        rw [show ((8 : Int)).toNat = 8 from rfl] at nz ⊢
        have sE := (sameT_new (o := .lst ((List.replicate 8 n0).map V.int)) hE).trans (sameT_new (o := .lst (M2.map V.int)) nz)
        refine ⟨E, z, _, _, rfl, rfl, (same_new nz) _ _ upd_same, upd_same, size_le (by rw [List.length_map, List.length_map, List.length_replicate]; show 8 + _ ≤ 2000; omega), fun z2 nz2 => ?_⟩
        have W4 := W3.sameT (sE.trans (sameT_new (o := .lst ((List.replicate 8 n0).map V.int ++ M2.map V.int)) nz2))
        refine ⟨x, h1, z2, ps, List.replicate 8 n0 ++ M2, rfl, W4.sx, W4.d1, .inl (SqL.of (by rw [upd_same, List.map_append])), by rw [List.length_append, List.length_replicate]; omega, sides_app (fun k hk => ?_) (fun k hk => al k (sM k hk)), W4.tb, fun Hg sg => ⟨_, rfl, ?_⟩⟩
        · rw [(List.mem_replicate.mp hk).2]
          exact al _ (List.mem_of_getElem? hn0)
        refine iteF ?_
        exact ⟨rfl, W4.sameT sg⟩
      · exact iteF ⟨rfl, W3⟩
    clear W3
    rintro _ Hg ⟨rfl, W⟩
    refine ⟨_, rfl, _, rfl, _, rfl, x, h1, ps, a, rfl, W.sx, W.d1, ha, fun He se => ⟨_, rfl, ?_⟩⟩
    refine iteF ?_
    have W1 := W.sameT (Same.t se)
    refine ⟨_, rfl, _, rfl, _, rfl, y, h2, qs, a, rfl, W1.sy, W1.d2, ha2, fun Hf sf => ⟨_, rfl, ?_⟩⟩
    refine iteF ?_
    have W2 := W1.sameT (Same.t sf)
    refine ⟨_, rfl, _, rfl, _, rfl, _, rfl, t, u, x, l, c, ps, ns, rfl, W2.tp, W2.sx, W2.hl, W2.hc, ln, al, W2.tb, fun Hi hTi ki => ⟨_, rfl, ?_⟩⟩
    refine iteF ?_
    have W3 := W2.but ki hTi
    refine ⟨_, rfl, _, rfl, _, rfl, c, _, rfl, .inl ⟨SqL.of W3.hc, fun tu ntu => ?_⟩⟩
    have W4 := W3.sameT (sameT_new (o := .tup (ns.map V.int)) ntu)
    exact ⟨x, h1, tu, ps, ns, rfl, W4.sx, W4.d1, .inr (SqT.of upd_same), by omega, al, W4.tb, fun Hk _ => q Hk⟩
end
theorem all_mk {P : Program} {K : PySem.W.Frag} {h : Heap} {mg : Str → Option Value} {fa : Addr} (X : K.In h) (G : h.Ns mainGlobals mg) (hfa : mg "law" = some (.ref fa))
    {C_FindsError : Addr}
    {C_BadShape f_BadShape cc_BadShape cda_BadShape N_BadShape : Addr} {nm_BadShape q_BadShape file_BadShape : Str} {bs_BadShape sub_BadShape : List Value} {sn_BadShape : List Str} {ab_BadShape : Bool} {col_BadShape : Option Bool} {dd_BadShape od_BadShape an_BadShape cld_BadShape cdd_BadShape : Option Addr} {m0_BadShape m1_BadShape m2_BadShape m3_BadShape m5_BadShape : Option Value} {oc_BadShape kV_BadShape dc_BadShape pm_BadShape ct_BadShape cl_BadShape ccl_BadShape : Value} {sl_BadShape csl_BadShape ccs_BadShape : Array (Option Value)} {vs_BadShape : Array Value} {tf_BadShape : Tok}
    {C_BadPosition f_BadPosition cc_BadPosition cda_BadPosition N_BadPosition : Addr} {nm_BadPosition q_BadPosition file_BadPosition : Str} {bs_BadPosition sub_BadPosition : List Value} {sn_BadPosition : List Str} {ab_BadPosition : Bool} {col_BadPosition : Option Bool} {dd_BadPosition od_BadPosition an_BadPosition cld_BadPosition cdd_BadPosition : Option Addr} {m0_BadPosition m1_BadPosition m2_BadPosition m3_BadPosition m5_BadPosition : Option Value} {oc_BadPosition kV_BadPosition dc_BadPosition pm_BadPosition ct_BadPosition cl_BadPosition ccl_BadPosition : Value} {sl_BadPosition csl_BadPosition ccs_BadPosition : Array (Option Value)} {vs_BadPosition : Array Value} {tf_BadPosition : Tok}
    {C_BadSide f_BadSide cc_BadSide cda_BadSide N_BadSide : Addr} {nm_BadSide q_BadSide file_BadSide : Str} {bs_BadSide sub_BadSide : List Value} {sn_BadSide : List Str} {ab_BadSide : Bool} {col_BadSide : Option Bool} {dd_BadSide od_BadSide an_BadSide cld_BadSide cdd_BadSide : Option Addr} {m0_BadSide m1_BadSide m2_BadSide m3_BadSide m5_BadSide : Option Value} {oc_BadSide kV_BadSide dc_BadSide pm_BadSide ct_BadSide cl_BadSide ccl_BadSide : Value} {sl_BadSide csl_BadSide ccs_BadSide : Array (Option Value)} {vs_BadSide : Array Value} {tf_BadSide : Tok}
    {C_Shape : Addr}
    {f_side_masks : Addr} {od_side_masks an_side_masks : Option Addr} {sl_side_masks : Array (Option Value)} {oc_side_masks kV_side_masks dc_side_masks pm_side_masks cd_side_masks ct_side_masks : Value}
    {f_Shape_init : Addr} {od_Shape_init an_Shape_init : Option Addr} {sl_Shape_init : Array (Option Value)} {oc_Shape_init kV_Shape_init dc_Shape_init pm_Shape_init cd_Shape_init ct_Shape_init : Value}
    {f_Shape_has : Addr} {od_Shape_has an_Shape_has : Option Addr} {sl_Shape_has : Array (Option Value)} {oc_Shape_has kV_Shape_has dc_Shape_has pm_Shape_has cd_Shape_has ct_Shape_has : Value}
    {f_Shape_leads_inside : Addr} {od_Shape_leads_inside an_Shape_leads_inside : Option Addr} {sl_Shape_leads_inside : Array (Option Value)} {oc_Shape_leads_inside kV_Shape_leads_inside dc_Shape_leads_inside pm_Shape_leads_inside cd_Shape_leads_inside ct_Shape_leads_inside : Value}
    {f_check_position : Addr} {od_check_position an_check_position : Option Addr} {sl_check_position : Array (Option Value)} {oc_check_position kV_check_position dc_check_position pm_check_position cd_check_position ct_check_position : Value}
    {f_check_side : Addr} {od_check_side an_check_side : Option Addr} {sl_check_side : Array (Option Value)} {oc_check_side kV_check_side dc_check_side pm_check_side cd_check_side ct_check_side : Value}
    {f_is_number_of_side : Addr} {od_is_number_of_side an_is_number_of_side : Option Addr} {sl_is_number_of_side : Array (Option Value)} {oc_is_number_of_side kV_is_number_of_side dc_is_number_of_side pm_is_number_of_side cd_is_number_of_side ct_is_number_of_side : Value}
    {f_common : Addr} {od_common an_common : Option Addr} {sl_common : Array (Option Value)} {oc_common kV_common dc_common pm_common cd_common ct_common : Value}
    {f_positions_with : Addr} {od_positions_with an_positions_with : Option Addr} {sl_positions_with : Array (Option Value)} {oc_positions_with kV_positions_with dc_positions_with pm_positions_with ct_positions_with : Value} {cd_positions_with P_positions_with : Addr} {te_positions_with : Value} {td_positions_with : Option Addr} {tv_positions_with : Array Value} {ts_positions_with : Array (Option Value)}
    {f_first_apart : Addr} {od_first_apart an_first_apart : Option Addr} {sl_first_apart : Array (Option Value)} {oc_first_apart kV_first_apart dc_first_apart pm_first_apart cd_first_apart ct_first_apart : Value}
    {f_l_tape : Addr} {od_l_tape an_l_tape : Option Addr} {sl_l_tape : Array (Option Value)} {oc_l_tape kV_l_tape dc_l_tape pm_l_tape cd_l_tape ct_l_tape : Value}
    {f_l_next : Addr} {od_l_next an_l_next : Option Addr} {sl_l_next : Array (Option Value)} {oc_l_next kV_l_next dc_l_next pm_l_next cd_l_next ct_l_next : Value}
    {f_l_parents : Addr} {od_l_parents an_l_parents : Option Addr} {sl_l_parents : Array (Option Value)} {oc_l_parents kV_l_parents dc_l_parents pm_l_parents cd_l_parents ct_l_parents : Value}
    {f_l_above : Addr} {od_l_above an_l_above : Option Addr} {sl_l_above : Array (Option Value)} {oc_l_above kV_l_above dc_l_above pm_l_above cd_l_above ct_l_above : Value}
    {f_l_is_number : Addr} {od_l_is_number an_l_is_number : Option Addr} {sl_l_is_number : Array (Option Value)} {oc_l_is_number kV_l_is_number dc_l_is_number pm_l_is_number cd_l_is_number ct_l_is_number : Value}
    {f_l_ints : Addr} {od_l_ints an_l_ints : Option Addr} {sl_l_ints : Array (Option Value)} {oc_l_ints kV_l_ints dc_l_ints pm_l_ints cd_l_ints ct_l_ints : Value}
    {f_l_yes_or_no : Addr} {od_l_yes_or_no an_l_yes_or_no : Option Addr} {sl_l_yes_or_no : Array (Option Value)} {oc_l_yes_or_no kV_l_yes_or_no dc_l_yes_or_no pm_l_yes_or_no cd_l_yes_or_no ct_l_yes_or_no : Value}
    {f_l_far : Addr} {od_l_far an_l_far : Option Addr} {sl_l_far : Array (Option Value)} {oc_l_far kV_l_far dc_l_far pm_l_far cd_l_far ct_l_far : Value}
    {f_l_sides_had : Addr} {od_l_sides_had an_l_sides_had : Option Addr} {sl_l_sides_had : Array (Option Value)} {oc_l_sides_had kV_l_sides_had dc_l_sides_had pm_l_sides_had cd_l_sides_had ct_l_sides_had : Value}
    {f_l_bad_side : Addr} {od_l_bad_side an_l_bad_side : Option Addr} {sl_l_bad_side : Array (Option Value)} {oc_l_bad_side kV_l_bad_side dc_l_bad_side pm_l_bad_side cd_l_bad_side ct_l_bad_side : Value}
    {f_l_drawn_side : Addr} {od_l_drawn_side an_l_drawn_side : Option Addr} {sl_l_drawn_side : Array (Option Value)} {oc_l_drawn_side kV_l_drawn_side dc_l_drawn_side pm_l_drawn_side cd_l_drawn_side ct_l_drawn_side : Value}
    {f_l_sides_drawn : Addr} {od_l_sides_drawn an_l_sides_drawn : Option Addr} {sl_l_sides_drawn : Array (Option Value)} {oc_l_sides_drawn kV_l_sides_drawn dc_l_sides_drawn pm_l_sides_drawn cd_l_sides_drawn ct_l_sides_drawn : Value}
    {f_l_have_all : Addr} {od_l_have_all an_l_have_all : Option Addr} {sl_l_have_all : Array (Option Value)} {oc_l_have_all kV_l_have_all dc_l_have_all pm_l_have_all cd_l_have_all ct_l_have_all : Value}
    {f_l_common_told : Addr} {od_l_common_told an_l_common_told : Option Addr} {sl_l_common_told : Array (Option Value)} {oc_l_common_told kV_l_common_told dc_l_common_told pm_l_common_told cd_l_common_told ct_l_common_told : Value}
    {f_l_inside : Addr} {od_l_inside an_l_inside : Option Addr} {sl_l_inside : Array (Option Value)} {oc_l_inside kV_l_inside dc_l_inside pm_l_inside cd_l_inside ct_l_inside : Value}
    {f_l_inside_told : Addr} {od_l_inside_told an_l_inside_told : Option Addr} {sl_l_inside_told : Array (Option Value)} {oc_l_inside_told kV_l_inside_told dc_l_inside_told pm_l_inside_told cd_l_inside_told ct_l_inside_told : Value}
    {f_l_common_refused : Addr} {od_l_common_refused an_l_common_refused : Option Addr} {sl_l_common_refused : Array (Option Value)} {oc_l_common_refused kV_l_common_refused dc_l_common_refused pm_l_common_refused cd_l_common_refused ct_l_common_refused : Value}
    {f_l_inside_refused : Addr} {od_l_inside_refused an_l_inside_refused : Option Addr} {sl_l_inside_refused : Array (Option Value)} {oc_l_inside_refused kV_l_inside_refused dc_l_inside_refused pm_l_inside_refused cd_l_inside_refused ct_l_inside_refused : Value}
    {f_l_refusals_told : Addr} {od_l_refusals_told an_l_refusals_told : Option Addr} {sl_l_refusals_told : Array (Option Value)} {oc_l_refusals_told kV_l_refusals_told dc_l_refusals_told pm_l_refusals_told cd_l_refusals_told ct_l_refusals_told : Value}
    {f_law : Addr} {od_law an_law : Option Addr} {sl_law : Array (Option Value)} {oc_law kV_law dc_law pm_law cd_law ct_law : Value}
    (z_abs : PySem.W.nsIn K mainGlobals "abs" = some none)
    (z_all : PySem.W.nsIn K mainGlobals "all" = some none)
    (z_bool : PySem.W.nsIn K mainGlobals "bool" = some none)
    (z_enumerate : PySem.W.nsIn K mainGlobals "enumerate" = some none)
    (z_int : PySem.W.nsIn K mainGlobals "int" = some none)
    (z_isinstance : PySem.W.nsIn K mainGlobals "isinstance" = some none)
    (z_len : PySem.W.nsIn K mainGlobals "len" = some none)
    (z_list : PySem.W.nsIn K mainGlobals "list" = some none)
    (z_range : PySem.W.nsIn K mainGlobals "range" = some none)
    (z_tuple : PySem.W.nsIn K mainGlobals "tuple" = some none)
    (z_super : PySem.W.nsIn K mainGlobals "super" = some none)
    (top_ : (P.main.scope.names.lookup ("super" : Str)).isSome = false)
    (thp : PySem.W.nsIn K cStatics "thirdparty.any" = some none)
    (hn_ : PySem.W.specialIn K (.builtin "object.__class__") "__get__" = some (some (.builtin "getset_descriptor.__get__")))
    (ht_ : PySem.W.takesIn K (.builtin "object.__class__") = some true)
    (a_FindsError : PySem.W.nsIn K mainGlobals "FindsError" = some (some (.ref C_FindsError)))
    (a_BadShape : PySem.W.nsIn K mainGlobals "BadShape" = some (some (.ref C_BadShape)))
    (x_BadShape : K.lookup C_BadShape = some (excClassObj nm_BadShape q_BadShape C_BadShape N_BadShape bs_BadShape [.ref C_FindsError, .type "ValueError", .type "Exception", .type "BaseException", .type "object"] true sn_BadShape sub_BadShape ab_BadShape col_BadShape dd_BadShape m0_BadShape m1_BadShape m2_BadShape m3_BadShape m5_BadShape "ValueError.__new__"))
    (sa_BadShape : PySem.W.findIn K (.ref C_BadShape) "__setattr__" = some (some (.builtin "object.__setattr__")))
    (eC_BadShape : PySem.W.subIn K (.ref C_BadShape) (.type "BaseException") = some true)
    (sV_BadShape : PySem.W.subIn K (.ref C_BadShape) (.type "ValueError") = some true)
    (tC_BadShape : PySem.W.typeIn K (.ref C_BadShape) = some (.type "type"))
    (kC_BadShape : PySem.W.keepIn K (.ref C_BadShape) = true)
    (i_BadShape : PySem.W.findIn K (.ref C_BadShape) "__init__" = some (some (.ref f_BadShape)))
    (tI_BadShape : PySem.W.typeIn K (.ref f_BadShape) = some (.type "function"))
    (l_BadShape : K.lookup f_BadShape = some ⟨oc_BadShape, od_BadShape, .func (PySem.W.ksFn "__init__" "BadShape.__init__" (defArgs s_BadShape_init) (defBody s_BadShape_init) (defScope s_BadShape_init) .none kV_BadShape dc_BadShape pm_BadShape an_BadShape (.ref cda_BadShape) ct_BadShape cc_BadShape), sl_BadShape⟩)
    (c_BadShape : PySem.W.codeIn K (.ref cda_BadShape) "BadShape.__init__" = true)
    (ce_BadShape : K.lookup cc_BadShape = some ⟨cl_BadShape, cld_BadShape, .cell (some (.ref C_BadShape)), csl_BadShape⟩)
    (co_BadShape : K.lookup cda_BadShape = some ⟨ccl_BadShape, cdd_BadShape, .fields vs_BadShape, ccs_BadShape⟩)
    (v2_BadShape : vs_BadShape[2]? = some (.str file_BadShape tf_BadShape))
    (fi_BadShape : ((P.main.file : Str) == file_BadShape) = true)
    (su_BadShape : PySem.W.mroIn K C_BadShape (.ref C_BadShape) = some true)
    (mo_BadShape : PySem.W.mroIn K C_BadShape (.type "object") = some true)
    (ks_BadShape : PySem.W.ks_superIn K C_BadShape C_BadShape "__init__" = some (some (.builtin "ValueError.__init__")))
    (ga_BadShape : PySem.W.findIn K (.ref C_BadShape) "__getattribute__" = some (some (.builtin "BaseException.__getattribute__")))
    (gg_BadShape : PySem.W.findIn K (.ref C_BadShape) "__getattr__" = some none)
    (hd_BadShape : PySem.W.hasDictIn K C_BadShape = true)
    (xn_BadShape : PySem.W.findIn K (.ref C_BadShape) "place" = some none)
    (hc_BadShape : PySem.W.findIn K (.ref C_BadShape) "__class__" = some (some (.builtin "object.__class__")))
    (a_BadPosition : PySem.W.nsIn K mainGlobals "BadPosition" = some (some (.ref C_BadPosition)))
    (x_BadPosition : K.lookup C_BadPosition = some (excClassObj nm_BadPosition q_BadPosition C_BadPosition N_BadPosition bs_BadPosition [.ref C_FindsError, .type "ValueError", .type "Exception", .type "BaseException", .type "object"] true sn_BadPosition sub_BadPosition ab_BadPosition col_BadPosition dd_BadPosition m0_BadPosition m1_BadPosition m2_BadPosition m3_BadPosition m5_BadPosition "ValueError.__new__"))
    (sa_BadPosition : PySem.W.findIn K (.ref C_BadPosition) "__setattr__" = some (some (.builtin "object.__setattr__")))
    (eC_BadPosition : PySem.W.subIn K (.ref C_BadPosition) (.type "BaseException") = some true)
    (sV_BadPosition : PySem.W.subIn K (.ref C_BadPosition) (.type "ValueError") = some true)
    (tC_BadPosition : PySem.W.typeIn K (.ref C_BadPosition) = some (.type "type"))
    (kC_BadPosition : PySem.W.keepIn K (.ref C_BadPosition) = true)
    (i_BadPosition : PySem.W.findIn K (.ref C_BadPosition) "__init__" = some (some (.ref f_BadPosition)))
    (tI_BadPosition : PySem.W.typeIn K (.ref f_BadPosition) = some (.type "function"))
    (l_BadPosition : K.lookup f_BadPosition = some ⟨oc_BadPosition, od_BadPosition, .func (PySem.W.ksFn "__init__" "BadPosition.__init__" (defArgs s_BadPosition_init) (defBody s_BadPosition_init) (defScope s_BadPosition_init) .none kV_BadPosition dc_BadPosition pm_BadPosition an_BadPosition (.ref cda_BadPosition) ct_BadPosition cc_BadPosition), sl_BadPosition⟩)
    (c_BadPosition : PySem.W.codeIn K (.ref cda_BadPosition) "BadPosition.__init__" = true)
    (ce_BadPosition : K.lookup cc_BadPosition = some ⟨cl_BadPosition, cld_BadPosition, .cell (some (.ref C_BadPosition)), csl_BadPosition⟩)
    (co_BadPosition : K.lookup cda_BadPosition = some ⟨ccl_BadPosition, cdd_BadPosition, .fields vs_BadPosition, ccs_BadPosition⟩)
    (v2_BadPosition : vs_BadPosition[2]? = some (.str file_BadPosition tf_BadPosition))
    (fi_BadPosition : ((P.main.file : Str) == file_BadPosition) = true)
    (su_BadPosition : PySem.W.mroIn K C_BadPosition (.ref C_BadPosition) = some true)
    (mo_BadPosition : PySem.W.mroIn K C_BadPosition (.type "object") = some true)
    (ks_BadPosition : PySem.W.ks_superIn K C_BadPosition C_BadPosition "__init__" = some (some (.builtin "ValueError.__init__")))
    (ga_BadPosition : PySem.W.findIn K (.ref C_BadPosition) "__getattribute__" = some (some (.builtin "BaseException.__getattribute__")))
    (gg_BadPosition : PySem.W.findIn K (.ref C_BadPosition) "__getattr__" = some none)
    (hd_BadPosition : PySem.W.hasDictIn K C_BadPosition = true)
    (xn_BadPosition : PySem.W.findIn K (.ref C_BadPosition) "position" = some none)
    (hc_BadPosition : PySem.W.findIn K (.ref C_BadPosition) "__class__" = some (some (.builtin "object.__class__")))
    (a_BadSide : PySem.W.nsIn K mainGlobals "BadSide" = some (some (.ref C_BadSide)))
    (x_BadSide : K.lookup C_BadSide = some (excClassObj nm_BadSide q_BadSide C_BadSide N_BadSide bs_BadSide [.ref C_FindsError, .type "ValueError", .type "Exception", .type "BaseException", .type "object"] true sn_BadSide sub_BadSide ab_BadSide col_BadSide dd_BadSide m0_BadSide m1_BadSide m2_BadSide m3_BadSide m5_BadSide "ValueError.__new__"))
    (sa_BadSide : PySem.W.findIn K (.ref C_BadSide) "__setattr__" = some (some (.builtin "object.__setattr__")))
    (eC_BadSide : PySem.W.subIn K (.ref C_BadSide) (.type "BaseException") = some true)
    (sV_BadSide : PySem.W.subIn K (.ref C_BadSide) (.type "ValueError") = some true)
    (tC_BadSide : PySem.W.typeIn K (.ref C_BadSide) = some (.type "type"))
    (kC_BadSide : PySem.W.keepIn K (.ref C_BadSide) = true)
    (i_BadSide : PySem.W.findIn K (.ref C_BadSide) "__init__" = some (some (.ref f_BadSide)))
    (tI_BadSide : PySem.W.typeIn K (.ref f_BadSide) = some (.type "function"))
    (l_BadSide : K.lookup f_BadSide = some ⟨oc_BadSide, od_BadSide, .func (PySem.W.ksFn "__init__" "BadSide.__init__" (defArgs s_BadSide_init) (defBody s_BadSide_init) (defScope s_BadSide_init) .none kV_BadSide dc_BadSide pm_BadSide an_BadSide (.ref cda_BadSide) ct_BadSide cc_BadSide), sl_BadSide⟩)
    (c_BadSide : PySem.W.codeIn K (.ref cda_BadSide) "BadSide.__init__" = true)
    (ce_BadSide : K.lookup cc_BadSide = some ⟨cl_BadSide, cld_BadSide, .cell (some (.ref C_BadSide)), csl_BadSide⟩)
    (co_BadSide : K.lookup cda_BadSide = some ⟨ccl_BadSide, cdd_BadSide, .fields vs_BadSide, ccs_BadSide⟩)
    (v2_BadSide : vs_BadSide[2]? = some (.str file_BadSide tf_BadSide))
    (fi_BadSide : ((P.main.file : Str) == file_BadSide) = true)
    (su_BadSide : PySem.W.mroIn K C_BadSide (.ref C_BadSide) = some true)
    (mo_BadSide : PySem.W.mroIn K C_BadSide (.type "object") = some true)
    (ks_BadSide : PySem.W.ks_superIn K C_BadSide C_BadSide "__init__" = some (some (.builtin "ValueError.__init__")))
    (ga_BadSide : PySem.W.findIn K (.ref C_BadSide) "__getattribute__" = some (some (.builtin "BaseException.__getattribute__")))
    (gg_BadSide : PySem.W.findIn K (.ref C_BadSide) "__getattr__" = some none)
    (hd_BadSide : PySem.W.hasDictIn K C_BadSide = true)
    (xn_BadSide : PySem.W.findIn K (.ref C_BadSide) "side" = some none)
    (hc_BadSide : PySem.W.findIn K (.ref C_BadSide) "__class__" = some (some (.builtin "object.__class__")))
    (k_BadSide_BadPosition : PySem.W.kitOne K (.ref C_BadSide) (.ref C_BadPosition) = some false)
    (k_BadSide_FindsError : PySem.W.kitOne K (.ref C_BadSide) (.ref C_FindsError) = some true)
    (a_Shape : PySem.W.nsIn K mainGlobals "Shape" = some (some (.ref C_Shape)))
    (a_side_masks : PySem.W.nsIn K mainGlobals "_side_masks" = some (some (.ref f_side_masks)))
    (l_side_masks : K.lookup f_side_masks = some ⟨oc_side_masks, od_side_masks, .func (PySem.W.fnOf "_side_masks" "_side_masks" (defArgs s_side_masks) (defBody s_side_masks) (defScope s_side_masks) .none kV_side_masks dc_side_masks pm_side_masks an_side_masks cd_side_masks ct_side_masks), sl_side_masks⟩)
    (c_side_masks : PySem.W.codeIn K cd_side_masks "_side_masks" = true)
    (k_side_masks : PySem.W.keepIn K (.ref f_side_masks) = true)
    (a_Shape_init : PySem.W.findIn K (.ref C_Shape) "__init__" = some (some (.ref f_Shape_init)))
    (i_Shape_init : PySem.W.isFn K (.ref f_Shape_init) = true)
    (l_Shape_init : K.lookup f_Shape_init = some ⟨oc_Shape_init, od_Shape_init, .func (PySem.W.fnOf "__init__" "Shape.__init__" (defArgs s_Shape_init) (defBody s_Shape_init) (defScope s_Shape_init) .none kV_Shape_init dc_Shape_init pm_Shape_init an_Shape_init cd_Shape_init ct_Shape_init), sl_Shape_init⟩)
    (c_Shape_init : PySem.W.codeIn K cd_Shape_init "Shape.__init__" = true)
    (k_Shape_init : PySem.W.keepIn K (.ref f_Shape_init) = true)
    (a_Shape_has : PySem.W.findIn K (.ref C_Shape) "has" = some (some (.ref f_Shape_has)))
    (i_Shape_has : PySem.W.isFn K (.ref f_Shape_has) = true)
    (l_Shape_has : K.lookup f_Shape_has = some ⟨oc_Shape_has, od_Shape_has, .func (PySem.W.fnOf "has" "Shape.has" (defArgs s_Shape_has) (defBody s_Shape_has) (defScope s_Shape_has) .none kV_Shape_has dc_Shape_has pm_Shape_has an_Shape_has cd_Shape_has ct_Shape_has), sl_Shape_has⟩)
    (c_Shape_has : PySem.W.codeIn K cd_Shape_has "Shape.has" = true)
    (k_Shape_has : PySem.W.keepIn K (.ref f_Shape_has) = true)
    (a_Shape_leads_inside : PySem.W.findIn K (.ref C_Shape) "leads_inside" = some (some (.ref f_Shape_leads_inside)))
    (i_Shape_leads_inside : PySem.W.isFn K (.ref f_Shape_leads_inside) = true)
    (l_Shape_leads_inside : K.lookup f_Shape_leads_inside = some ⟨oc_Shape_leads_inside, od_Shape_leads_inside, .func (PySem.W.fnOf "leads_inside" "Shape.leads_inside" (defArgs s_Shape_leads_inside) (defBody s_Shape_leads_inside) (defScope s_Shape_leads_inside) .none kV_Shape_leads_inside dc_Shape_leads_inside pm_Shape_leads_inside an_Shape_leads_inside cd_Shape_leads_inside ct_Shape_leads_inside), sl_Shape_leads_inside⟩)
    (c_Shape_leads_inside : PySem.W.codeIn K cd_Shape_leads_inside "Shape.leads_inside" = true)
    (k_Shape_leads_inside : PySem.W.keepIn K (.ref f_Shape_leads_inside) = true)
    (a_check_position : PySem.W.nsIn K mainGlobals "check_position" = some (some (.ref f_check_position)))
    (l_check_position : K.lookup f_check_position = some ⟨oc_check_position, od_check_position, .func (PySem.W.fnOf "check_position" "check_position" (defArgs s_check_position) (defBody s_check_position) (defScope s_check_position) .none kV_check_position dc_check_position pm_check_position an_check_position cd_check_position ct_check_position), sl_check_position⟩)
    (c_check_position : PySem.W.codeIn K cd_check_position "check_position" = true)
    (k_check_position : PySem.W.keepIn K (.ref f_check_position) = true)
    (a_check_side : PySem.W.nsIn K mainGlobals "check_side" = some (some (.ref f_check_side)))
    (l_check_side : K.lookup f_check_side = some ⟨oc_check_side, od_check_side, .func (PySem.W.fnOf "check_side" "check_side" (defArgs s_check_side) (defBody s_check_side) (defScope s_check_side) .none kV_check_side dc_check_side pm_check_side an_check_side cd_check_side ct_check_side), sl_check_side⟩)
    (c_check_side : PySem.W.codeIn K cd_check_side "check_side" = true)
    (k_check_side : PySem.W.keepIn K (.ref f_check_side) = true)
    (a_is_number_of_side : PySem.W.nsIn K mainGlobals "is_number_of_side" = some (some (.ref f_is_number_of_side)))
    (l_is_number_of_side : K.lookup f_is_number_of_side = some ⟨oc_is_number_of_side, od_is_number_of_side, .func (PySem.W.fnOf "is_number_of_side" "is_number_of_side" (defArgs s_is_number_of_side) (defBody s_is_number_of_side) (defScope s_is_number_of_side) .none kV_is_number_of_side dc_is_number_of_side pm_is_number_of_side an_is_number_of_side cd_is_number_of_side ct_is_number_of_side), sl_is_number_of_side⟩)
    (c_is_number_of_side : PySem.W.codeIn K cd_is_number_of_side "is_number_of_side" = true)
    (k_is_number_of_side : PySem.W.keepIn K (.ref f_is_number_of_side) = true)
    (a_common : PySem.W.nsIn K mainGlobals "common" = some (some (.ref f_common)))
    (l_common : K.lookup f_common = some ⟨oc_common, od_common, .func (PySem.W.fnOf "common" "common" (defArgs s_common) (defBody s_common) (defScope s_common) .none kV_common dc_common pm_common an_common cd_common ct_common), sl_common⟩)
    (c_common : PySem.W.codeIn K cd_common "common" = true)
    (k_common : PySem.W.keepIn K (.ref f_common) = true)
    (a_positions_with : PySem.W.nsIn K mainGlobals "_positions_with" = some (some (.ref f_positions_with)))
    (l_positions_with : K.lookup f_positions_with = some ⟨oc_positions_with, od_positions_with, .func (PySem.W.fnOf "_positions_with" "_positions_with" (defArgs s_positions_with) (defBody s_positions_with) (defScope s_positions_with) .none kV_positions_with dc_positions_with pm_positions_with an_positions_with (.ref cd_positions_with) ct_positions_with), sl_positions_with⟩)
    (tl_positions_with : K.lookup cd_positions_with = some ⟨te_positions_with, td_positions_with, .fields tv_positions_with, ts_positions_with⟩)
    (tp_positions_with : tv_positions_with[11]? = some (.ref P_positions_with))
    (tn_positions_with : K.lookup P_positions_with = none)
    (c_positions_with : PySem.W.codeIn K (.ref cd_positions_with) "_positions_with" = true)
    (k_positions_with : PySem.W.keepIn K (.ref f_positions_with) = true)
    (a_first_apart : PySem.W.nsIn K mainGlobals "_first_apart" = some (some (.ref f_first_apart)))
    (l_first_apart : K.lookup f_first_apart = some ⟨oc_first_apart, od_first_apart, .func (PySem.W.fnOf "_first_apart" "_first_apart" (defArgs s_first_apart) (defBody s_first_apart) (defScope s_first_apart) .none kV_first_apart dc_first_apart pm_first_apart an_first_apart cd_first_apart ct_first_apart), sl_first_apart⟩)
    (c_first_apart : PySem.W.codeIn K cd_first_apart "_first_apart" = true)
    (k_first_apart : PySem.W.keepIn K (.ref f_first_apart) = true)
    (a_l_tape : PySem.W.nsIn K mainGlobals "_law_tape" = some (some (.ref f_l_tape)))
    (l_l_tape : K.lookup f_l_tape = some ⟨oc_l_tape, od_l_tape, .func (PySem.W.fnOf "_law_tape" "_law_tape" (defArgs s_l_tape) (defBody s_l_tape) (defScope s_l_tape) .none kV_l_tape dc_l_tape pm_l_tape an_l_tape cd_l_tape ct_l_tape), sl_l_tape⟩)
    (c_l_tape : PySem.W.codeIn K cd_l_tape "_law_tape" = true)
    (k_l_tape : PySem.W.keepIn K (.ref f_l_tape) = true)
    (a_l_next : PySem.W.nsIn K mainGlobals "_law_next" = some (some (.ref f_l_next)))
    (l_l_next : K.lookup f_l_next = some ⟨oc_l_next, od_l_next, .func (PySem.W.fnOf "_law_next" "_law_next" (defArgs s_l_next) (defBody s_l_next) (defScope s_l_next) .none kV_l_next dc_l_next pm_l_next an_l_next cd_l_next ct_l_next), sl_l_next⟩)
    (c_l_next : PySem.W.codeIn K cd_l_next "_law_next" = true)
    (k_l_next : PySem.W.keepIn K (.ref f_l_next) = true)
    (a_l_parents : PySem.W.nsIn K mainGlobals "_law_parents" = some (some (.ref f_l_parents)))
    (l_l_parents : K.lookup f_l_parents = some ⟨oc_l_parents, od_l_parents, .func (PySem.W.fnOf "_law_parents" "_law_parents" (defArgs s_l_parents) (defBody s_l_parents) (defScope s_l_parents) .none kV_l_parents dc_l_parents pm_l_parents an_l_parents cd_l_parents ct_l_parents), sl_l_parents⟩)
    (c_l_parents : PySem.W.codeIn K cd_l_parents "_law_parents" = true)
    (k_l_parents : PySem.W.keepIn K (.ref f_l_parents) = true)
    (a_l_above : PySem.W.nsIn K mainGlobals "_law_above" = some (some (.ref f_l_above)))
    (l_l_above : K.lookup f_l_above = some ⟨oc_l_above, od_l_above, .func (PySem.W.fnOf "_law_above" "_law_above" (defArgs s_l_above) (defBody s_l_above) (defScope s_l_above) .none kV_l_above dc_l_above pm_l_above an_l_above cd_l_above ct_l_above), sl_l_above⟩)
    (c_l_above : PySem.W.codeIn K cd_l_above "_law_above" = true)
    (k_l_above : PySem.W.keepIn K (.ref f_l_above) = true)
    (a_l_is_number : PySem.W.nsIn K mainGlobals "_law_is_number" = some (some (.ref f_l_is_number)))
    (l_l_is_number : K.lookup f_l_is_number = some ⟨oc_l_is_number, od_l_is_number, .func (PySem.W.fnOf "_law_is_number" "_law_is_number" (defArgs s_l_is_number) (defBody s_l_is_number) (defScope s_l_is_number) .none kV_l_is_number dc_l_is_number pm_l_is_number an_l_is_number cd_l_is_number ct_l_is_number), sl_l_is_number⟩)
    (c_l_is_number : PySem.W.codeIn K cd_l_is_number "_law_is_number" = true)
    (k_l_is_number : PySem.W.keepIn K (.ref f_l_is_number) = true)
    (a_l_ints : PySem.W.nsIn K mainGlobals "_law_ints" = some (some (.ref f_l_ints)))
    (l_l_ints : K.lookup f_l_ints = some ⟨oc_l_ints, od_l_ints, .func (PySem.W.fnOf "_law_ints" "_law_ints" (defArgs s_l_ints) (defBody s_l_ints) (defScope s_l_ints) .none kV_l_ints dc_l_ints pm_l_ints an_l_ints cd_l_ints ct_l_ints), sl_l_ints⟩)
    (c_l_ints : PySem.W.codeIn K cd_l_ints "_law_ints" = true)
    (k_l_ints : PySem.W.keepIn K (.ref f_l_ints) = true)
    (a_l_yes_or_no : PySem.W.nsIn K mainGlobals "_law_yes_or_no" = some (some (.ref f_l_yes_or_no)))
    (l_l_yes_or_no : K.lookup f_l_yes_or_no = some ⟨oc_l_yes_or_no, od_l_yes_or_no, .func (PySem.W.fnOf "_law_yes_or_no" "_law_yes_or_no" (defArgs s_l_yes_or_no) (defBody s_l_yes_or_no) (defScope s_l_yes_or_no) .none kV_l_yes_or_no dc_l_yes_or_no pm_l_yes_or_no an_l_yes_or_no cd_l_yes_or_no ct_l_yes_or_no), sl_l_yes_or_no⟩)
    (c_l_yes_or_no : PySem.W.codeIn K cd_l_yes_or_no "_law_yes_or_no" = true)
    (k_l_yes_or_no : PySem.W.keepIn K (.ref f_l_yes_or_no) = true)
    (a_l_far : PySem.W.nsIn K mainGlobals "_law_far" = some (some (.ref f_l_far)))
    (l_l_far : K.lookup f_l_far = some ⟨oc_l_far, od_l_far, .func (PySem.W.fnOf "_law_far" "_law_far" (defArgs s_l_far) (defBody s_l_far) (defScope s_l_far) .none kV_l_far dc_l_far pm_l_far an_l_far cd_l_far ct_l_far), sl_l_far⟩)
    (c_l_far : PySem.W.codeIn K cd_l_far "_law_far" = true)
    (k_l_far : PySem.W.keepIn K (.ref f_l_far) = true)
    (a_l_sides_had : PySem.W.nsIn K mainGlobals "_law_sides_had" = some (some (.ref f_l_sides_had)))
    (l_l_sides_had : K.lookup f_l_sides_had = some ⟨oc_l_sides_had, od_l_sides_had, .func (PySem.W.fnOf "_law_sides_had" "_law_sides_had" (defArgs s_l_sides_had) (defBody s_l_sides_had) (defScope s_l_sides_had) .none kV_l_sides_had dc_l_sides_had pm_l_sides_had an_l_sides_had cd_l_sides_had ct_l_sides_had), sl_l_sides_had⟩)
    (c_l_sides_had : PySem.W.codeIn K cd_l_sides_had "_law_sides_had" = true)
    (k_l_sides_had : PySem.W.keepIn K (.ref f_l_sides_had) = true)
    (a_l_bad_side : PySem.W.nsIn K mainGlobals "_law_bad_side" = some (some (.ref f_l_bad_side)))
    (l_l_bad_side : K.lookup f_l_bad_side = some ⟨oc_l_bad_side, od_l_bad_side, .func (PySem.W.fnOf "_law_bad_side" "_law_bad_side" (defArgs s_l_bad_side) (defBody s_l_bad_side) (defScope s_l_bad_side) .none kV_l_bad_side dc_l_bad_side pm_l_bad_side an_l_bad_side cd_l_bad_side ct_l_bad_side), sl_l_bad_side⟩)
    (c_l_bad_side : PySem.W.codeIn K cd_l_bad_side "_law_bad_side" = true)
    (k_l_bad_side : PySem.W.keepIn K (.ref f_l_bad_side) = true)
    (a_l_drawn_side : PySem.W.nsIn K mainGlobals "_law_drawn_side" = some (some (.ref f_l_drawn_side)))
    (l_l_drawn_side : K.lookup f_l_drawn_side = some ⟨oc_l_drawn_side, od_l_drawn_side, .func (PySem.W.fnOf "_law_drawn_side" "_law_drawn_side" (defArgs s_l_drawn_side) (defBody s_l_drawn_side) (defScope s_l_drawn_side) .none kV_l_drawn_side dc_l_drawn_side pm_l_drawn_side an_l_drawn_side cd_l_drawn_side ct_l_drawn_side), sl_l_drawn_side⟩)
    (c_l_drawn_side : PySem.W.codeIn K cd_l_drawn_side "_law_drawn_side" = true)
    (k_l_drawn_side : PySem.W.keepIn K (.ref f_l_drawn_side) = true)
    (a_l_sides_drawn : PySem.W.nsIn K mainGlobals "_law_sides_drawn" = some (some (.ref f_l_sides_drawn)))
    (l_l_sides_drawn : K.lookup f_l_sides_drawn = some ⟨oc_l_sides_drawn, od_l_sides_drawn, .func (PySem.W.fnOf "_law_sides_drawn" "_law_sides_drawn" (defArgs s_l_sides_drawn) (defBody s_l_sides_drawn) (defScope s_l_sides_drawn) .none kV_l_sides_drawn dc_l_sides_drawn pm_l_sides_drawn an_l_sides_drawn cd_l_sides_drawn ct_l_sides_drawn), sl_l_sides_drawn⟩)
    (c_l_sides_drawn : PySem.W.codeIn K cd_l_sides_drawn "_law_sides_drawn" = true)
    (k_l_sides_drawn : PySem.W.keepIn K (.ref f_l_sides_drawn) = true)
    (a_l_have_all : PySem.W.nsIn K mainGlobals "_law_have_all" = some (some (.ref f_l_have_all)))
    (l_l_have_all : K.lookup f_l_have_all = some ⟨oc_l_have_all, od_l_have_all, .func (PySem.W.fnOf "_law_have_all" "_law_have_all" (defArgs s_l_have_all) (defBody s_l_have_all) (defScope s_l_have_all) .none kV_l_have_all dc_l_have_all pm_l_have_all an_l_have_all cd_l_have_all ct_l_have_all), sl_l_have_all⟩)
    (c_l_have_all : PySem.W.codeIn K cd_l_have_all "_law_have_all" = true)
    (k_l_have_all : PySem.W.keepIn K (.ref f_l_have_all) = true)
    (a_l_common_told : PySem.W.nsIn K mainGlobals "_law_common_told" = some (some (.ref f_l_common_told)))
    (l_l_common_told : K.lookup f_l_common_told = some ⟨oc_l_common_told, od_l_common_told, .func (PySem.W.fnOf "_law_common_told" "_law_common_told" (defArgs s_l_common_told) (defBody s_l_common_told) (defScope s_l_common_told) .none kV_l_common_told dc_l_common_told pm_l_common_told an_l_common_told cd_l_common_told ct_l_common_told), sl_l_common_told⟩)
    (c_l_common_told : PySem.W.codeIn K cd_l_common_told "_law_common_told" = true)
    (k_l_common_told : PySem.W.keepIn K (.ref f_l_common_told) = true)
    (a_l_inside : PySem.W.nsIn K mainGlobals "_law_inside" = some (some (.ref f_l_inside)))
    (l_l_inside : K.lookup f_l_inside = some ⟨oc_l_inside, od_l_inside, .func (PySem.W.fnOf "_law_inside" "_law_inside" (defArgs s_l_inside) (defBody s_l_inside) (defScope s_l_inside) .none kV_l_inside dc_l_inside pm_l_inside an_l_inside cd_l_inside ct_l_inside), sl_l_inside⟩)
    (c_l_inside : PySem.W.codeIn K cd_l_inside "_law_inside" = true)
    (k_l_inside : PySem.W.keepIn K (.ref f_l_inside) = true)
    (a_l_inside_told : PySem.W.nsIn K mainGlobals "_law_inside_told" = some (some (.ref f_l_inside_told)))
    (l_l_inside_told : K.lookup f_l_inside_told = some ⟨oc_l_inside_told, od_l_inside_told, .func (PySem.W.fnOf "_law_inside_told" "_law_inside_told" (defArgs s_l_inside_told) (defBody s_l_inside_told) (defScope s_l_inside_told) .none kV_l_inside_told dc_l_inside_told pm_l_inside_told an_l_inside_told cd_l_inside_told ct_l_inside_told), sl_l_inside_told⟩)
    (c_l_inside_told : PySem.W.codeIn K cd_l_inside_told "_law_inside_told" = true)
    (k_l_inside_told : PySem.W.keepIn K (.ref f_l_inside_told) = true)
    (a_l_common_refused : PySem.W.nsIn K mainGlobals "_law_common_refused" = some (some (.ref f_l_common_refused)))
    (l_l_common_refused : K.lookup f_l_common_refused = some ⟨oc_l_common_refused, od_l_common_refused, .func (PySem.W.fnOf "_law_common_refused" "_law_common_refused" (defArgs s_l_common_refused) (defBody s_l_common_refused) (defScope s_l_common_refused) .none kV_l_common_refused dc_l_common_refused pm_l_common_refused an_l_common_refused cd_l_common_refused ct_l_common_refused), sl_l_common_refused⟩)
    (c_l_common_refused : PySem.W.codeIn K cd_l_common_refused "_law_common_refused" = true)
    (k_l_common_refused : PySem.W.keepIn K (.ref f_l_common_refused) = true)
    (a_l_inside_refused : PySem.W.nsIn K mainGlobals "_law_inside_refused" = some (some (.ref f_l_inside_refused)))
    (l_l_inside_refused : K.lookup f_l_inside_refused = some ⟨oc_l_inside_refused, od_l_inside_refused, .func (PySem.W.fnOf "_law_inside_refused" "_law_inside_refused" (defArgs s_l_inside_refused) (defBody s_l_inside_refused) (defScope s_l_inside_refused) .none kV_l_inside_refused dc_l_inside_refused pm_l_inside_refused an_l_inside_refused cd_l_inside_refused ct_l_inside_refused), sl_l_inside_refused⟩)
    (c_l_inside_refused : PySem.W.codeIn K cd_l_inside_refused "_law_inside_refused" = true)
    (k_l_inside_refused : PySem.W.keepIn K (.ref f_l_inside_refused) = true)
    (a_l_refusals_told : PySem.W.nsIn K mainGlobals "_law_refusals_told" = some (some (.ref f_l_refusals_told)))
    (l_l_refusals_told : K.lookup f_l_refusals_told = some ⟨oc_l_refusals_told, od_l_refusals_told, .func (PySem.W.fnOf "_law_refusals_told" "_law_refusals_told" (defArgs s_l_refusals_told) (defBody s_l_refusals_told) (defScope s_l_refusals_told) .none kV_l_refusals_told dc_l_refusals_told pm_l_refusals_told an_l_refusals_told cd_l_refusals_told ct_l_refusals_told), sl_l_refusals_told⟩)
    (c_l_refusals_told : PySem.W.codeIn K cd_l_refusals_told "_law_refusals_told" = true)
    (k_l_refusals_told : PySem.W.keepIn K (.ref f_l_refusals_told) = true)
    (a_law : PySem.W.nsIn K mainGlobals "law" = some (some (.ref f_law)))
    (l_law : K.lookup f_law = some ⟨oc_law, od_law, .func (PySem.W.fnOf "law" "law" (defArgs s_law) (defBody s_law) (defScope s_law) .none kV_law dc_law pm_law an_law cd_law ct_law), sl_law⟩)
    (c_law : PySem.W.codeIn K cd_law "law" = true)
    (k_law : PySem.W.keepIn K (.ref f_law) = true)
    (pg_Shape : PySem.W.plainGet K C_Shape Str.empty = true)
    (hd_Shape : PySem.W.hasDictIn K C_Shape = true)
    (po_Shape : PySem.W.plainOver K C_Shape = true)
    (sa_Shape : PySem.W.findIn K (.ref C_Shape) "__setattr__" = some (some (.builtin "object.__setattr__")))
    (mk_Shape : PySem.W.makesIn K C_Shape = true)
    (kc_Shape : PySem.W.keepIn K (.ref C_Shape) = true)
    (n_Shape_masks : PySem.W.findIn K (.ref C_Shape) "_masks" = some none)
    (n_Shape_parents : PySem.W.findIn K (.ref C_Shape) "parents" = some none)
    (n_Shape_size : PySem.W.findIn K (.ref C_Shape) "size" = some none) : ∃ T : Tx P K mg, T.a_law = fa := by
  have e := hfa.symm.trans (PySem.W.mg_of X G a_law)
  exact ⟨{
    z_abs := PySem.W.mg_none_of X G z_abs,
    z_all := PySem.W.mg_none_of X G z_all,
    z_bool := PySem.W.mg_none_of X G z_bool,
    z_enumerate := PySem.W.mg_none_of X G z_enumerate,
    z_int := PySem.W.mg_none_of X G z_int,
    z_isinstance := PySem.W.mg_none_of X G z_isinstance,
    z_len := PySem.W.mg_none_of X G z_len,
    z_list := PySem.W.mg_none_of X G z_list,
    z_range := PySem.W.mg_none_of X G z_range,
    z_tuple := PySem.W.mg_none_of X G z_tuple,
    C_FindsError := C_FindsError,
    mg_FindsError := PySem.W.mg_of X G a_FindsError,
    x_BadShape := { C := C_BadShape, fa := f_BadShape, cc := cc_BadShape, cda := cda_BadShape, fd := _, mgX := PySem.W.mg_of X G a_BadShape, sup := { oex := ⟨⟨_, _, _, _, _, _, _, _, _, _, _, _, _, _, _, x_BadShape, rfl⟩, sa_BadShape, eC_BadShape, tC_BadShape, kC_BadShape⟩, cel := ⟨_, _, _, ce_BadShape⟩, cod := ⟨_, _, _, _, _, _, co_BadShape, v2_BadShape, fi_BadShape⟩, sub := su_BadShape, subV := sV_BadShape, op := thp, sup := ks_BadShape, mgS := PySem.W.mg_none_of X G z_super, top := top_ }, lk := ⟨_, _, _, _, _, _, _, _, rfl, l_BadShape⟩, cod := c_BadShape, iC := i_BadShape, tI := tI_BadShape, xf := ⟨ga_BadShape, gg_BadShape, eC_BadShape, hd_BadShape⟩, xn := xn_BadShape, ec := ⟨ga_BadShape, gg_BadShape, eC_BadShape, hd_BadShape, hc_BadShape, hn_, ht_, mo_BadShape⟩ },
    x_BadPosition := { C := C_BadPosition, fa := f_BadPosition, cc := cc_BadPosition, cda := cda_BadPosition, fd := _, mgX := PySem.W.mg_of X G a_BadPosition, sup := { oex := ⟨⟨_, _, _, _, _, _, _, _, _, _, _, _, _, _, _, x_BadPosition, rfl⟩, sa_BadPosition, eC_BadPosition, tC_BadPosition, kC_BadPosition⟩, cel := ⟨_, _, _, ce_BadPosition⟩, cod := ⟨_, _, _, _, _, _, co_BadPosition, v2_BadPosition, fi_BadPosition⟩, sub := su_BadPosition, subV := sV_BadPosition, op := thp, sup := ks_BadPosition, mgS := PySem.W.mg_none_of X G z_super, top := top_ }, lk := ⟨_, _, _, _, _, _, _, _, rfl, l_BadPosition⟩, cod := c_BadPosition, iC := i_BadPosition, tI := tI_BadPosition, xf := ⟨ga_BadPosition, gg_BadPosition, eC_BadPosition, hd_BadPosition⟩, xn := xn_BadPosition, ec := ⟨ga_BadPosition, gg_BadPosition, eC_BadPosition, hd_BadPosition, hc_BadPosition, hn_, ht_, mo_BadPosition⟩ },
    x_BadSide := { C := C_BadSide, fa := f_BadSide, cc := cc_BadSide, cda := cda_BadSide, fd := _, mgX := PySem.W.mg_of X G a_BadSide, sup := { oex := ⟨⟨_, _, _, _, _, _, _, _, _, _, _, _, _, _, _, x_BadSide, rfl⟩, sa_BadSide, eC_BadSide, tC_BadSide, kC_BadSide⟩, cel := ⟨_, _, _, ce_BadSide⟩, cod := ⟨_, _, _, _, _, _, co_BadSide, v2_BadSide, fi_BadSide⟩, sub := su_BadSide, subV := sV_BadSide, op := thp, sup := ks_BadSide, mgS := PySem.W.mg_none_of X G z_super, top := top_ }, lk := ⟨_, _, _, _, _, _, _, _, rfl, l_BadSide⟩, cod := c_BadSide, iC := i_BadSide, tI := tI_BadSide, xf := ⟨ga_BadSide, gg_BadSide, eC_BadSide, hd_BadSide⟩, xn := xn_BadSide, ec := ⟨ga_BadSide, gg_BadSide, eC_BadSide, hd_BadSide, hc_BadSide, hn_, ht_, mo_BadSide⟩ },
    k_BadSide_BadPosition := k_BadSide_BadPosition,
    k_BadSide_FindsError := k_BadSide_FindsError,
    a_side_masks := f_side_masks,
    d_side_masks := _,
    F_side_masks := fun_mk (st := s_side_masks) l_side_masks c_side_masks k_side_masks,
    B_side_masks := (fun_mk (st := s_side_masks) l_side_masks c_side_masks k_side_masks).binds (ps := ["parents"]) (fun _ _ _ _ _ _ us hl => match us, hl with | [_], _ => rfl),
    g_side_masks := PySem.W.mg_of X G a_side_masks,
    a_Shape_init := f_Shape_init,
    d_Shape_init := _,
    F_Shape_init := fun_mk (st := s_Shape_init) l_Shape_init c_Shape_init k_Shape_init,
    B_Shape_init := (fun_mk (st := s_Shape_init) l_Shape_init c_Shape_init k_Shape_init).binds (ps := ["self", "parents"]) (fun _ _ _ _ _ _ us hl => match us, hl with | [_, _], _ => rfl),
    a_Shape_has := f_Shape_has,
    d_Shape_has := _,
    F_Shape_has := fun_mk (st := s_Shape_has) l_Shape_has c_Shape_has k_Shape_has,
    B_Shape_has := (fun_mk (st := s_Shape_has) l_Shape_has c_Shape_has k_Shape_has).binds (ps := ["self", "position", "side"]) (fun _ _ _ _ _ _ us hl => match us, hl with | [_, _, _], _ => rfl),
    a_Shape_leads_inside := f_Shape_leads_inside,
    d_Shape_leads_inside := _,
    F_Shape_leads_inside := fun_mk (st := s_Shape_leads_inside) l_Shape_leads_inside c_Shape_leads_inside k_Shape_leads_inside,
    B_Shape_leads_inside := (fun_mk (st := s_Shape_leads_inside) l_Shape_leads_inside c_Shape_leads_inside k_Shape_leads_inside).binds (ps := ["self", "side", "other"]) (fun _ _ _ _ _ _ us hl => match us, hl with | [_, _, _], _ => rfl),
    a_check_position := f_check_position,
    d_check_position := _,
    F_check_position := fun_mk (st := s_check_position) l_check_position c_check_position k_check_position,
    B_check_position := (fun_mk (st := s_check_position) l_check_position c_check_position k_check_position).binds (ps := ["shape", "position"]) (fun _ _ _ _ _ _ us hl => match us, hl with | [_, _], _ => rfl),
    g_check_position := PySem.W.mg_of X G a_check_position,
    a_check_side := f_check_side,
    d_check_side := _,
    F_check_side := fun_mk (st := s_check_side) l_check_side c_check_side k_check_side,
    B_check_side := (fun_mk (st := s_check_side) l_check_side c_check_side k_check_side).binds (ps := ["shape", "side"]) (fun _ _ _ _ _ _ us hl => match us, hl with | [_, _], _ => rfl),
    g_check_side := PySem.W.mg_of X G a_check_side,
    a_is_number_of_side := f_is_number_of_side,
    d_is_number_of_side := _,
    F_is_number_of_side := fun_mk (st := s_is_number_of_side) l_is_number_of_side c_is_number_of_side k_is_number_of_side,
    B_is_number_of_side := (fun_mk (st := s_is_number_of_side) l_is_number_of_side c_is_number_of_side k_is_number_of_side).binds (ps := ["shape", "number"]) (fun _ _ _ _ _ _ us hl => match us, hl with | [_, _], _ => rfl),
    g_is_number_of_side := PySem.W.mg_of X G a_is_number_of_side,
    a_common := f_common,
    d_common := _,
    F_common := fun_mk (st := s_common) l_common c_common k_common,
    B_common := (fun_mk (st := s_common) l_common c_common k_common).binds (ps := ["shape", "sides"]) (fun _ _ _ _ _ _ us hl => match us, hl with | [_, _], _ => rfl),
    g_common := PySem.W.mg_of X G a_common,
    c_positions_with := cd_positions_with,
    P_positions_with := P_positions_with,
    t_positions_with := ⟨⟨_, _, _, _, tl_positions_with, tp_positions_with⟩, tn_positions_with⟩,
    a_positions_with := f_positions_with,
    d_positions_with := _,
    F_positions_with := funG_mk (st := s_positions_with) l_positions_with c_positions_with k_positions_with,
    B_positions_with := (funG_mk (st := s_positions_with) l_positions_with c_positions_with k_positions_with).fn.binds (ps := ["shape", "sides"]) (fun _ _ _ _ _ _ us hl => match us, hl with | [_, _], _ => rfl),
    g_positions_with := PySem.W.mg_of X G a_positions_with,
    a_first_apart := f_first_apart,
    d_first_apart := _,
    F_first_apart := fun_mk (st := s_first_apart) l_first_apart c_first_apart k_first_apart,
    B_first_apart := (fun_mk (st := s_first_apart) l_first_apart c_first_apart k_first_apart).binds (ps := ["shape", "sides"]) (fun _ _ _ _ _ _ us hl => match us, hl with | [_, _], _ => rfl),
    g_first_apart := PySem.W.mg_of X G a_first_apart,
    a_l_tape := f_l_tape,
    d_l_tape := _,
    F_l_tape := fun_mk (st := s_l_tape) l_l_tape c_l_tape k_l_tape,
    B_l_tape := (fun_mk (st := s_l_tape) l_l_tape c_l_tape k_l_tape).binds (ps := ["_law_script"]) (fun _ _ _ _ _ _ us hl => match us, hl with | [_], _ => rfl),
    g_l_tape := PySem.W.mg_of X G a_l_tape,
    a_l_next := f_l_next,
    d_l_next := _,
    F_l_next := fun_mk (st := s_l_next) l_l_next c_l_next k_l_next,
    B_l_next := (fun_mk (st := s_l_next) l_l_next c_l_next k_l_next).binds (ps := ["_law_tape_here", "_law_size"]) (fun _ _ _ _ _ _ us hl => match us, hl with | [_, _], _ => rfl),
    g_l_next := PySem.W.mg_of X G a_l_next,
    a_l_parents := f_l_parents,
    d_l_parents := _,
    F_l_parents := fun_mk (st := s_l_parents) l_l_parents c_l_parents k_l_parents,
    B_l_parents := (fun_mk (st := s_l_parents) l_l_parents c_l_parents k_l_parents).binds (ps := ["_law_tape_here", "_law_most"]) (fun _ _ _ _ _ _ us hl => match us, hl with | [_, _], _ => rfl),
    g_l_parents := PySem.W.mg_of X G a_l_parents,
    a_l_above := f_l_above,
    d_l_above := _,
    F_l_above := fun_mk (st := s_l_above) l_l_above c_l_above k_l_above,
    B_l_above := (fun_mk (st := s_l_above) l_l_above c_l_above k_l_above).binds (ps := ["_law_parents_here", "_law_position"]) (fun _ _ _ _ _ _ us hl => match us, hl with | [_, _], _ => rfl),
    g_l_above := PySem.W.mg_of X G a_l_above,
    a_l_is_number := f_l_is_number,
    d_l_is_number := _,
    F_l_is_number := fun_mk (st := s_l_is_number) l_l_is_number c_l_is_number k_l_is_number,
    B_l_is_number := (fun_mk (st := s_l_is_number) l_l_is_number c_l_is_number k_l_is_number).binds (ps := ["_law_thing"]) (fun _ _ _ _ _ _ us hl => match us, hl with | [_], _ => rfl),
    g_l_is_number := PySem.W.mg_of X G a_l_is_number,
    a_l_ints := f_l_ints,
    d_l_ints := _,
    F_l_ints := fun_mk (st := s_l_ints) l_l_ints c_l_ints k_l_ints,
    B_l_ints := (fun_mk (st := s_l_ints) l_l_ints c_l_ints k_l_ints).binds (ps := ["_law_told", "_law_due"]) (fun _ _ _ _ _ _ us hl => match us, hl with | [_, _], _ => rfl),
    g_l_ints := PySem.W.mg_of X G a_l_ints,
    a_l_yes_or_no := f_l_yes_or_no,
    d_l_yes_or_no := _,
    F_l_yes_or_no := fun_mk (st := s_l_yes_or_no) l_l_yes_or_no c_l_yes_or_no k_l_yes_or_no,
    B_l_yes_or_no := (fun_mk (st := s_l_yes_or_no) l_l_yes_or_no c_l_yes_or_no k_l_yes_or_no).binds (ps := ["_law_told", "_law_due"]) (fun _ _ _ _ _ _ us hl => match us, hl with | [_, _], _ => rfl),
    g_l_yes_or_no := PySem.W.mg_of X G a_l_yes_or_no,
    a_l_far := f_l_far,
    d_l_far := _,
    F_l_far := fun_mk (st := s_l_far) l_l_far c_l_far k_l_far,
    B_l_far := (fun_mk (st := s_l_far) l_l_far c_l_far k_l_far).binds (ps := ["_law_tape_here"]) (fun _ _ _ _ _ _ us hl => match us, hl with | [_], _ => rfl),
    g_l_far := PySem.W.mg_of X G a_l_far,
    a_l_sides_had := f_l_sides_had,
    d_l_sides_had := _,
    F_l_sides_had := fun_mk (st := s_l_sides_had) l_l_sides_had c_l_sides_had k_l_sides_had,
    B_l_sides_had := (fun_mk (st := s_l_sides_had) l_l_sides_had c_l_sides_had k_l_sides_had).binds (ps := ["_law_parents_here", "_law_position"]) (fun _ _ _ _ _ _ us hl => match us, hl with | [_, _], _ => rfl),
    g_l_sides_had := PySem.W.mg_of X G a_l_sides_had,
    a_l_bad_side := f_l_bad_side,
    d_l_bad_side := _,
    F_l_bad_side := fun_mk (st := s_l_bad_side) l_l_bad_side c_l_bad_side k_l_bad_side,
    B_l_bad_side := (fun_mk (st := s_l_bad_side) l_l_bad_side c_l_bad_side k_l_bad_side).binds (ps := ["_law_tape_here", "_law_parents_here"]) (fun _ _ _ _ _ _ us hl => match us, hl with | [_, _], _ => rfl),
    g_l_bad_side := PySem.W.mg_of X G a_l_bad_side,
    a_l_drawn_side := f_l_drawn_side,
    d_l_drawn_side := _,
    F_l_drawn_side := fun_mk (st := s_l_drawn_side) l_l_drawn_side c_l_drawn_side k_l_drawn_side,
    B_l_drawn_side := (fun_mk (st := s_l_drawn_side) l_l_drawn_side c_l_drawn_side k_l_drawn_side).binds (ps := ["_law_tape_here", "_law_parents_here"]) (fun _ _ _ _ _ _ us hl => match us, hl with | [_, _], _ => rfl),
    g_l_drawn_side := PySem.W.mg_of X G a_l_drawn_side,
    a_l_sides_drawn := f_l_sides_drawn,
    d_l_sides_drawn := _,
    F_l_sides_drawn := fun_mk (st := s_l_sides_drawn) l_l_sides_drawn c_l_sides_drawn k_l_sides_drawn,
    B_l_sides_drawn := (fun_mk (st := s_l_sides_drawn) l_l_sides_drawn c_l_sides_drawn k_l_sides_drawn).binds (ps := ["_law_tape_here", "_law_parents_here", "_law_had"]) (fun _ _ _ _ _ _ us hl => match us, hl with | [_, _, _], _ => rfl),
    g_l_sides_drawn := PySem.W.mg_of X G a_l_sides_drawn,
    a_l_have_all := f_l_have_all,
    d_l_have_all := _,
    F_l_have_all := fun_mk (st := s_l_have_all) l_l_have_all c_l_have_all k_l_have_all,
    B_l_have_all := (fun_mk (st := s_l_have_all) l_l_have_all c_l_have_all k_l_have_all).binds (ps := ["_law_had", "_law_chosen"]) (fun _ _ _ _ _ _ us hl => match us, hl with | [_, _], _ => rfl),
    g_l_have_all := PySem.W.mg_of X G a_l_have_all,
    a_l_common_told := f_l_common_told,
    d_l_common_told := _,
    F_l_common_told := fun_mk (st := s_l_common_told) l_l_common_told c_l_common_told k_l_common_told,
    B_l_common_told := (fun_mk (st := s_l_common_told) l_l_common_told c_l_common_told k_l_common_told).binds (ps := ["_law_shape", "_law_had", "_law_handed"]) (fun _ _ _ _ _ _ us hl => match us, hl with | [_, _, _], _ => rfl),
    g_l_common_told := PySem.W.mg_of X G a_l_common_told,
    a_l_inside := f_l_inside,
    d_l_inside := _,
    F_l_inside := fun_mk (st := s_l_inside) l_l_inside c_l_inside k_l_inside,
    B_l_inside := (fun_mk (st := s_l_inside) l_l_inside c_l_inside k_l_inside).binds (ps := ["_law_had", "_law_side", "_law_other"]) (fun _ _ _ _ _ _ us hl => match us, hl with | [_, _, _], _ => rfl),
    g_l_inside := PySem.W.mg_of X G a_l_inside,
    a_l_inside_told := f_l_inside_told,
    d_l_inside_told := _,
    F_l_inside_told := fun_mk (st := s_l_inside_told) l_l_inside_told c_l_inside_told k_l_inside_told,
    B_l_inside_told := (fun_mk (st := s_l_inside_told) l_l_inside_told c_l_inside_told k_l_inside_told).binds (ps := ["_law_shape", "_law_had", "_law_side"]) (fun _ _ _ _ _ _ us hl => match us, hl with | [_, _, _], _ => rfl),
    g_l_inside_told := PySem.W.mg_of X G a_l_inside_told,
    a_l_common_refused := f_l_common_refused,
    d_l_common_refused := _,
    F_l_common_refused := fun_mk (st := s_l_common_refused) l_l_common_refused c_l_common_refused k_l_common_refused,
    B_l_common_refused := (fun_mk (st := s_l_common_refused) l_l_common_refused c_l_common_refused k_l_common_refused).binds (ps := ["_law_shape", "_law_sides", "_law_bad"]) (fun _ _ _ _ _ _ us hl => match us, hl with | [_, _, _], _ => rfl),
    g_l_common_refused := PySem.W.mg_of X G a_l_common_refused,
    a_l_inside_refused := f_l_inside_refused,
    d_l_inside_refused := _,
    F_l_inside_refused := fun_mk (st := s_l_inside_refused) l_l_inside_refused c_l_inside_refused k_l_inside_refused,
    B_l_inside_refused := (fun_mk (st := s_l_inside_refused) l_l_inside_refused c_l_inside_refused k_l_inside_refused).binds (ps := ["_law_shape", "_law_side", "_law_other", "_law_bad"]) (fun _ _ _ _ _ _ us hl => match us, hl with | [_, _, _, _], _ => rfl),
    g_l_inside_refused := PySem.W.mg_of X G a_l_inside_refused,
    a_l_refusals_told := f_l_refusals_told,
    d_l_refusals_told := _,
    F_l_refusals_told := fun_mk (st := s_l_refusals_told) l_l_refusals_told c_l_refusals_told k_l_refusals_told,
    B_l_refusals_told := (fun_mk (st := s_l_refusals_told) l_l_refusals_told c_l_refusals_told k_l_refusals_told).binds (ps := ["_law_tape_here", "_law_shape", "_law_parents_here", "_law_chosen"]) (fun _ _ _ _ _ _ us hl => match us, hl with | [_, _, _, _], _ => rfl),
    g_l_refusals_told := PySem.W.mg_of X G a_l_refusals_told,
    a_law := f_law,
    d_law := _,
    F_law := fun_mk (st := s_law) l_law c_law k_law,
    B_law := (fun_mk (st := s_law) l_law c_law k_law).binds (ps := ["_law_script"]) (fun _ _ _ _ _ _ us hl => match us, hl with | [_], _ => rfl),
    g_law := PySem.W.mg_of X G a_law,
    C_Shape := C_Shape,
    mg_Shape := PySem.W.mg_of X G a_Shape,
    cl_Shape := ⟨pg_Shape, hd_Shape, po_Shape, sa_Shape⟩,
    M_Shape := ⟨mk_Shape, a_Shape_init, i_Shape_init, kc_Shape⟩,
    n_Shape_masks := n_Shape_masks,
    n_Shape_parents := n_Shape_parents,
    n_Shape_size := n_Shape_size,
    m_Shape_has := ⟨a_Shape_has, i_Shape_has, k_Shape_has⟩,
    m_Shape_leads_inside := ⟨a_Shape_leads_inside, i_Shape_leads_inside, k_Shape_leads_inside⟩ }, by cases e; rfl⟩
theorem walk {l : PySem.W.OpenLaw} {q : Program} {loose : List Str} {XP : (Str → Option Value) → Heap → Prop} {YP : World → Heap → Prop} {d : DefRec} {K : Params → PySem.W.Frag} (hn : l.most = some 63) (hdf : d.params.defaults = []) (hrec : ((["_positions_with"] : List Str).all fun y => (PyProof.Rows.recsOf q).any fun e => e.name == y) = true)
    (hY : ∀ (w : World) (h : Heap), YP w h → (K w.params).In h)
    (F : ∀ (w : World) (mg : Str → Option Value) (fa : Addr) (h : Heap), (K w.params).In h → h.Ns mainGlobals mg → mg d.name = some (.ref fa) → ∃ T : Tx l.prog (K w.params) mg, T.a_law = fa) (hname : d.name = "law") :
    PySem.W.WalkO q loose XP YP l.row.toRowW d [] (fun f vs => PySem.call f vs) :=
  EP.walk_ofN (n := 63) (k := 10) (x := "_law_script") (CX := fun _ => L2.CX0) ["_positions_with"] hn (by decide) hdf ⟨rfl, by decide, by decide⟩ hrec hY
    (fun w mg fa h Y X G hm hN => by
      obtain ⟨T, rfl⟩ := F w mg fa h X G hm
      have hd_positions_with := T.t_positions_with.head T.F_positions_with T.g_positions_with (hN "_positions_with" List.mem_cons_self)
      refine ⟨T.d_law, [(T.c_positions_with, T.P_positions_with)], spLawT1 (K w.params) T.P_positions_with, fun p hp => by
          obtain rfl := List.mem_singleton.mp hp
          exact hd_positions_with.2, fun p hp => by
          obtain rfl := List.mem_singleton.mp hp
          exact T.t_positions_with.no, fun p hp => by
          obtain rfl := List.mem_singleton.mp hp
          exact hd_positions_with.1, fun s u => ?_, fun H a ns hl _ hT hS => ⟨a, ns, rfl, hS, hl, TabG.empty (hT _ List.mem_cons_self), fun _ => rfl⟩, fun base _ _ tb => ok_law T ⟨tabB_of (tb _ List.mem_cons_self)⟩⟩
      have b := T.B_law
      obtain ⟨oc, od, kV, doc, pm, an, cdv, ct, osl, e, lk, hcd⟩ := T.F_law.ex
      rw [e]
      exact .of_eq rfl) fun _ _ _ _ _ z => z
end K05
open PySem PySem.W PyProof.Rows in
set_option maxRecDepth 100000 in
set_option maxHeartbeats 0 in
theorem PySem.Challenge.cw_everypast_k05_sides_that_meet_in_twos_holds : PySem.Challenge.rw_everypast_k05_sides_that_meet_in_twos.Holds := by
  w_on; o_law; k_head; (case hw => w_witness2)
  k_fill
  refine K05.walk (l := PySem.Challenge.rw_everypast_k05_sides_that_meet_in_twos) rfl rfl (by first | rfl | kernel_rfl | decide +kernel) (fun w h Y => PySem.W.kIn_of Y) ?F rfl
  case F =>
    intro w mg fa h KX G hmg
    refine' K05.all_mk KX G hmg ?z_abs ?z_all ?z_bool ?z_enumerate ?z_int ?z_isinstance ?z_len ?z_list ?z_range ?z_tuple ?z_super ?top_ ?thp ?hn_ ?ht_ ?a_FindsError ?a_BadShape ?x_BadShape ?sa_BadShape ?eC_BadShape ?sV_BadShape ?tC_BadShape ?kC_BadShape ?i_BadShape ?tI_BadShape ?l_BadShape ?c_BadShape ?ce_BadShape ?co_BadShape ?v2_BadShape ?fi_BadShape ?su_BadShape ?mo_BadShape ?ks_BadShape ?ga_BadShape ?gg_BadShape ?hd_BadShape ?xn_BadShape ?hc_BadShape ?a_BadPosition ?x_BadPosition ?sa_BadPosition ?eC_BadPosition ?sV_BadPosition ?tC_BadPosition ?kC_BadPosition ?i_BadPosition ?tI_BadPosition ?l_BadPosition ?c_BadPosition ?ce_BadPosition ?co_BadPosition ?v2_BadPosition ?fi_BadPosition ?su_BadPosition ?mo_BadPosition ?ks_BadPosition ?ga_BadPosition ?gg_BadPosition ?hd_BadPosition ?xn_BadPosition ?hc_BadPosition ?a_BadSide ?x_BadSide ?sa_BadSide ?eC_BadSide ?sV_BadSide ?tC_BadSide ?kC_BadSide ?i_BadSide ?tI_BadSide ?l_BadSide ?c_BadSide ?ce_BadSide ?co_BadSide ?v2_BadSide ?fi_BadSide ?su_BadSide ?mo_BadSide ?ks_BadSide ?ga_BadSide ?gg_BadSide ?hd_BadSide ?xn_BadSide ?hc_BadSide ?k_BadSide_BadPosition ?k_BadSide_FindsError ?a_Shape ?a_side_masks ?l_side_masks ?c_side_masks ?k_side_masks ?a_Shape_init ?i_Shape_init ?l_Shape_init ?c_Shape_init ?k_Shape_init ?a_Shape_has ?i_Shape_has ?l_Shape_has ?c_Shape_has ?k_Shape_has ?a_Shape_leads_inside ?i_Shape_leads_inside ?l_Shape_leads_inside ?c_Shape_leads_inside ?k_Shape_leads_inside ?a_check_position ?l_check_position ?c_check_position ?k_check_position ?a_check_side ?l_check_side ?c_check_side ?k_check_side ?a_is_number_of_side ?l_is_number_of_side ?c_is_number_of_side ?k_is_number_of_side ?a_common ?l_common ?c_common ?k_common ?a_positions_with ?l_positions_with ?tl_positions_with ?tp_positions_with ?tn_positions_with ?c_positions_with ?k_positions_with ?a_first_apart ?l_first_apart ?c_first_apart ?k_first_apart ?a_l_tape ?l_l_tape ?c_l_tape ?k_l_tape ?a_l_next ?l_l_next ?c_l_next ?k_l_next ?a_l_parents ?l_l_parents ?c_l_parents ?k_l_parents ?a_l_above ?l_l_above ?c_l_above ?k_l_above ?a_l_is_number ?l_l_is_number ?c_l_is_number ?k_l_is_number ?a_l_ints ?l_l_ints ?c_l_ints ?k_l_ints ?a_l_yes_or_no ?l_l_yes_or_no ?c_l_yes_or_no ?k_l_yes_or_no ?a_l_far ?l_l_far ?c_l_far ?k_l_far ?a_l_sides_had ?l_l_sides_had ?c_l_sides_had ?k_l_sides_had ?a_l_bad_side ?l_l_bad_side ?c_l_bad_side ?k_l_bad_side ?a_l_drawn_side ?l_l_drawn_side ?c_l_drawn_side ?k_l_drawn_side ?a_l_sides_drawn ?l_l_sides_drawn ?c_l_sides_drawn ?k_l_sides_drawn ?a_l_have_all ?l_l_have_all ?c_l_have_all ?k_l_have_all ?a_l_common_told ?l_l_common_told ?c_l_common_told ?k_l_common_told ?a_l_inside ?l_l_inside ?c_l_inside ?k_l_inside ?a_l_inside_told ?l_l_inside_told ?c_l_inside_told ?k_l_inside_told ?a_l_common_refused ?l_l_common_refused ?c_l_common_refused ?k_l_common_refused ?a_l_inside_refused ?l_l_inside_refused ?c_l_inside_refused ?k_l_inside_refused ?a_l_refusals_told ?l_l_refusals_told ?c_l_refusals_told ?k_l_refusals_told ?a_law ?l_law ?c_law ?k_law ?pg_Shape ?hd_Shape ?po_Shape ?sa_Shape ?mk_Shape ?kc_Shape ?n_Shape_masks ?n_Shape_parents ?n_Shape_size
    (case z_abs => first | k_is | ks_is | rfl | kernel_rfl | decide +kernel)
    (case z_all => first | k_is | ks_is | rfl | kernel_rfl | decide +kernel)
    (case z_bool => first | k_is | ks_is | rfl | kernel_rfl | decide +kernel)
    (case z_enumerate => first | k_is | ks_is | rfl | kernel_rfl | decide +kernel)
    (case z_int => first | k_is | ks_is | rfl | kernel_rfl | decide +kernel)
    (case z_isinstance => first | k_is | ks_is | rfl | kernel_rfl | decide +kernel)
    (case z_len => first | k_is | ks_is | rfl | kernel_rfl | decide +kernel)
    (case z_list => first | k_is | ks_is | rfl | kernel_rfl | decide +kernel)
    (case z_range => first | k_is | ks_is | rfl | kernel_rfl | decide +kernel)
    (case z_tuple => first | k_is | ks_is | rfl | kernel_rfl | decide +kernel)
    (case z_super => first | k_is | ks_is | rfl | kernel_rfl | decide +kernel)
    (case top_ => first | k_is | ks_is | rfl | kernel_rfl | decide +kernel)
    (case thp => first | k_is | ks_is | rfl | kernel_rfl | decide +kernel)
    (case hn_ => first | k_is | ks_is | rfl | kernel_rfl | decide +kernel)
    (case ht_ => first | k_is | ks_is | rfl | kernel_rfl | decide +kernel)
    (case a_FindsError => first | k_is | ks_is | rfl | kernel_rfl | decide +kernel)
    (case a_BadShape => first | k_is | ks_is | rfl | kernel_rfl | decide +kernel)
    (case x_BadShape => first | k_is | ks_is | rfl | kernel_rfl | decide +kernel)
    (case sa_BadShape => first | k_is | ks_is | rfl | kernel_rfl | decide +kernel)
    (case eC_BadShape => first | k_is | ks_is | rfl | kernel_rfl | decide +kernel)
    (case sV_BadShape => first | k_is | ks_is | rfl | kernel_rfl | decide +kernel)
    (case tC_BadShape => first | k_is | ks_is | rfl | kernel_rfl | decide +kernel)
    (case kC_BadShape => first | k_is | ks_is | rfl | kernel_rfl | decide +kernel)
    (case i_BadShape => first | k_is | ks_is | rfl | kernel_rfl | decide +kernel)
    (case tI_BadShape => first | k_is | ks_is | rfl | kernel_rfl | decide +kernel)
    (case l_BadShape => first | k_is | ks_is | rfl | kernel_rfl | decide +kernel)
    (case c_BadShape => first | k_is | ks_is | rfl | kernel_rfl | decide +kernel)
    (case ce_BadShape => first | k_is | ks_is | rfl | kernel_rfl | decide +kernel)
    (case co_BadShape => first | k_is | ks_is | rfl | kernel_rfl | decide +kernel)
    (case v2_BadShape => first | k_is | ks_is | rfl | kernel_rfl | decide +kernel)
    (case fi_BadShape => first | k_is | ks_is | rfl | kernel_rfl | decide +kernel)
    (case su_BadShape => first | k_is | ks_is | rfl | kernel_rfl | decide +kernel)
    (case mo_BadShape => first | k_is | ks_is | rfl | kernel_rfl | decide +kernel)
    (case ks_BadShape => first | k_is | ks_is | rfl | kernel_rfl | decide +kernel)
    (case ga_BadShape => first | k_is | ks_is | rfl | kernel_rfl | decide +kernel)
    (case gg_BadShape => first | k_is | ks_is | rfl | kernel_rfl | decide +kernel)
    (case hd_BadShape => first | k_is | ks_is | rfl | kernel_rfl | decide +kernel)
    (case xn_BadShape => first | k_is | ks_is | rfl | kernel_rfl | decide +kernel)
    (case hc_BadShape => first | k_is | ks_is | rfl | kernel_rfl | decide +kernel)
    (case a_BadPosition => first | k_is | ks_is | rfl | kernel_rfl | decide +kernel)
    (case x_BadPosition => first | k_is | ks_is | rfl | kernel_rfl | decide +kernel)
    (case sa_BadPosition => first | k_is | ks_is | rfl | kernel_rfl | decide +kernel)
    (case eC_BadPosition => first | k_is | ks_is | rfl | kernel_rfl | decide +kernel)
    (case sV_BadPosition => first | k_is | ks_is | rfl | kernel_rfl | decide +kernel)
    (case tC_BadPosition => first | k_is | ks_is | rfl | kernel_rfl | decide +kernel)
    (case kC_BadPosition => first | k_is | ks_is | rfl | kernel_rfl | decide +kernel)
    (case i_BadPosition => first | k_is | ks_is | rfl | kernel_rfl | decide +kernel)
    (case tI_BadPosition => first | k_is | ks_is | rfl | kernel_rfl | decide +kernel)
    (case l_BadPosition => first | k_is | ks_is | rfl | kernel_rfl | decide +kernel)
    (case c_BadPosition => first | k_is | ks_is | rfl | kernel_rfl | decide +kernel)
    (case ce_BadPosition => first | k_is | ks_is | rfl | kernel_rfl | decide +kernel)
    (case co_BadPosition => first | k_is | ks_is | rfl | kernel_rfl | decide +kernel)
    (case v2_BadPosition => first | k_is | ks_is | rfl | kernel_rfl | decide +kernel)
    (case fi_BadPosition => first | k_is | ks_is | rfl | kernel_rfl | decide +kernel)
    (case su_BadPosition => first | k_is | ks_is | rfl | kernel_rfl | decide +kernel)
    (case mo_BadPosition => first | k_is | ks_is | rfl | kernel_rfl | decide +kernel)
    (case ks_BadPosition => first | k_is | ks_is | rfl | kernel_rfl | decide +kernel)
    (case ga_BadPosition => first | k_is | ks_is | rfl | kernel_rfl | decide +kernel)
    (case gg_BadPosition => first | k_is | ks_is | rfl | kernel_rfl | decide +kernel)
    (case hd_BadPosition => first | k_is | ks_is | rfl | kernel_rfl | decide +kernel)
    (case xn_BadPosition => first | k_is | ks_is | rfl | kernel_rfl | decide +kernel)
    (case hc_BadPosition => first | k_is | ks_is | rfl | kernel_rfl | decide +kernel)
    (case a_BadSide => first | k_is | ks_is | rfl | kernel_rfl | decide +kernel)
    (case x_BadSide => first | k_is | ks_is | rfl | kernel_rfl | decide +kernel)
    (case sa_BadSide => first | k_is | ks_is | rfl | kernel_rfl | decide +kernel)
    (case eC_BadSide => first | k_is | ks_is | rfl | kernel_rfl | decide +kernel)
    (case sV_BadSide => first | k_is | ks_is | rfl | kernel_rfl | decide +kernel)
    (case tC_BadSide => first | k_is | ks_is | rfl | kernel_rfl | decide +kernel)
    (case kC_BadSide => first | k_is | ks_is | rfl | kernel_rfl | decide +kernel)
    (case i_BadSide => first | k_is | ks_is | rfl | kernel_rfl | decide +kernel)
    (case tI_BadSide => first | k_is | ks_is | rfl | kernel_rfl | decide +kernel)
    (case l_BadSide => first | k_is | ks_is | rfl | kernel_rfl | decide +kernel)
    (case c_BadSide => first | k_is | ks_is | rfl | kernel_rfl | decide +kernel)
    (case ce_BadSide => first | k_is | ks_is | rfl | kernel_rfl | decide +kernel)
    (case co_BadSide => first | k_is | ks_is | rfl | kernel_rfl | decide +kernel)
    (case v2_BadSide => first | k_is | ks_is | rfl | kernel_rfl | decide +kernel)
    (case fi_BadSide => first | k_is | ks_is | rfl | kernel_rfl | decide +kernel)
    (case su_BadSide => first | k_is | ks_is | rfl | kernel_rfl | decide +kernel)
    (case mo_BadSide => first | k_is | ks_is | rfl | kernel_rfl | decide +kernel)
    (case ks_BadSide => first | k_is | ks_is | rfl | kernel_rfl | decide +kernel)
    (case ga_BadSide => first | k_is | ks_is | rfl | kernel_rfl | decide +kernel)
    (case gg_BadSide => first | k_is | ks_is | rfl | kernel_rfl | decide +kernel)
    (case hd_BadSide => first | k_is | ks_is | rfl | kernel_rfl | decide +kernel)
    (case xn_BadSide => first | k_is | ks_is | rfl | kernel_rfl | decide +kernel)
    (case hc_BadSide => first | k_is | ks_is | rfl | kernel_rfl | decide +kernel)
    (case k_BadSide_BadPosition => first | k_is | ks_is | rfl | kernel_rfl | decide +kernel)
    (case k_BadSide_FindsError => first | k_is | ks_is | rfl | kernel_rfl | decide +kernel)
    (case a_Shape => first | k_is | ks_is | rfl | kernel_rfl | decide +kernel)
    (case a_side_masks => first | k_is | ks_is | rfl | kernel_rfl | decide +kernel)
    (case l_side_masks => first | k_is | ks_is | rfl | kernel_rfl | decide +kernel)
    (case c_side_masks => first | k_is | ks_is | rfl | kernel_rfl | decide +kernel)
    (case k_side_masks => first | k_is | ks_is | rfl | kernel_rfl | decide +kernel)
    (case a_Shape_init => first | k_is | ks_is | rfl | kernel_rfl | decide +kernel)
    (case i_Shape_init => first | k_is | ks_is | rfl | kernel_rfl | decide +kernel)
    (case l_Shape_init => first | k_is | ks_is | rfl | kernel_rfl | decide +kernel)
    (case c_Shape_init => first | k_is | ks_is | rfl | kernel_rfl | decide +kernel)
    (case k_Shape_init => first | k_is | ks_is | rfl | kernel_rfl | decide +kernel)
    (case a_Shape_has => first | k_is | ks_is | rfl | kernel_rfl | decide +kernel)
    (case i_Shape_has => first | k_is | ks_is | rfl | kernel_rfl | decide +kernel)
    (case l_Shape_has => first | k_is | ks_is | rfl | kernel_rfl | decide +kernel)
    (case c_Shape_has => first | k_is | ks_is | rfl | kernel_rfl | decide +kernel)
    (case k_Shape_has => first | k_is | ks_is | rfl | kernel_rfl | decide +kernel)
    (case a_Shape_leads_inside => first | k_is | ks_is | rfl | kernel_rfl | decide +kernel)
    (case i_Shape_leads_inside => first | k_is | ks_is | rfl | kernel_rfl | decide +kernel)
    (case l_Shape_leads_inside => first | k_is | ks_is | rfl | kernel_rfl | decide +kernel)
    (case c_Shape_leads_inside => first | k_is | ks_is | rfl | kernel_rfl | decide +kernel)
    (case k_Shape_leads_inside => first | k_is | ks_is | rfl | kernel_rfl | decide +kernel)
    (case a_check_position => first | k_is | ks_is | rfl | kernel_rfl | decide +kernel)
    (case l_check_position => first | k_is | ks_is | rfl | kernel_rfl | decide +kernel)
    (case c_check_position => first | k_is | ks_is | rfl | kernel_rfl | decide +kernel)
    (case k_check_position => first | k_is | ks_is | rfl | kernel_rfl | decide +kernel)
    (case a_check_side => first | k_is | ks_is | rfl | kernel_rfl | decide +kernel)
    (case l_check_side => first | k_is | ks_is | rfl | kernel_rfl | decide +kernel)
    (case c_check_side => first | k_is | ks_is | rfl | kernel_rfl | decide +kernel)
    (case k_check_side => first | k_is | ks_is | rfl | kernel_rfl | decide +kernel)
    (case a_is_number_of_side => first | k_is | ks_is | rfl | kernel_rfl | decide +kernel)
    (case l_is_number_of_side => first | k_is | ks_is | rfl | kernel_rfl | decide +kernel)
    (case c_is_number_of_side => first | k_is | ks_is | rfl | kernel_rfl | decide +kernel)
    (case k_is_number_of_side => first | k_is | ks_is | rfl | kernel_rfl | decide +kernel)
    (case a_common => first | k_is | ks_is | rfl | kernel_rfl | decide +kernel)
    (case l_common => first | k_is | ks_is | rfl | kernel_rfl | decide +kernel)
    (case c_common => first | k_is | ks_is | rfl | kernel_rfl | decide +kernel)
    (case k_common => first | k_is | ks_is | rfl | kernel_rfl | decide +kernel)
    (case a_positions_with => first | k_is | ks_is | rfl | kernel_rfl | decide +kernel)
    (case l_positions_with => first | k_is | ks_is | rfl | kernel_rfl | decide +kernel)
    (case tl_positions_with => first | k_is | ks_is | rfl | kernel_rfl | decide +kernel)
    (case tp_positions_with => first | k_is | ks_is | rfl | kernel_rfl | decide +kernel)
    (case tn_positions_with => first | k_is | ks_is | rfl | kernel_rfl | decide +kernel)
    (case c_positions_with => first | k_is | ks_is | rfl | kernel_rfl | decide +kernel)
    (case k_positions_with => first | k_is | ks_is | rfl | kernel_rfl | decide +kernel)
    (case a_first_apart => first | k_is | ks_is | rfl | kernel_rfl | decide +kernel)
    (case l_first_apart => first | k_is | ks_is | rfl | kernel_rfl | decide +kernel)
    (case c_first_apart => first | k_is | ks_is | rfl | kernel_rfl | decide +kernel)
    (case k_first_apart => first | k_is | ks_is | rfl | kernel_rfl | decide +kernel)
    (case a_l_tape => first | k_is | ks_is | rfl | kernel_rfl | decide +kernel)
    (case l_l_tape => first | k_is | ks_is | rfl | kernel_rfl | decide +kernel)
    (case c_l_tape => first | k_is | ks_is | rfl | kernel_rfl | decide +kernel)
    (case k_l_tape => first | k_is | ks_is | rfl | kernel_rfl | decide +kernel)
    (case a_l_next => first | k_is | ks_is | rfl | kernel_rfl | decide +kernel)
    (case l_l_next => first | k_is | ks_is | rfl | kernel_rfl | decide +kernel)
    (case c_l_next => first | k_is | ks_is | rfl | kernel_rfl | decide +kernel)
    (case k_l_next => first | k_is | ks_is | rfl | kernel_rfl | decide +kernel)
    (case a_l_parents => first | k_is | ks_is | rfl | kernel_rfl | decide +kernel)
    (case l_l_parents => first | k_is | ks_is | rfl | kernel_rfl | decide +kernel)
    (case c_l_parents => first | k_is | ks_is | rfl | kernel_rfl | decide +kernel)
    (case k_l_parents => first | k_is | ks_is | rfl | kernel_rfl | decide +kernel)
    (case a_l_above => first | k_is | ks_is | rfl | kernel_rfl | decide +kernel)
    (case l_l_above => first | k_is | ks_is | rfl | kernel_rfl | decide +kernel)
    (case c_l_above => first | k_is | ks_is | rfl | kernel_rfl | decide +kernel)
    (case k_l_above => first | k_is | ks_is | rfl | kernel_rfl | decide +kernel)
    (case a_l_is_number => first | k_is | ks_is | rfl | kernel_rfl | decide +kernel)
    (case l_l_is_number => first | k_is | ks_is | rfl | kernel_rfl | decide +kernel)
    (case c_l_is_number => first | k_is | ks_is | rfl | kernel_rfl | decide +kernel)
    (case k_l_is_number => first | k_is | ks_is | rfl | kernel_rfl | decide +kernel)
    (case a_l_ints => first | k_is | ks_is | rfl | kernel_rfl | decide +kernel)
    (case l_l_ints => first | k_is | ks_is | rfl | kernel_rfl | decide +kernel)
    (case c_l_ints => first | k_is | ks_is | rfl | kernel_rfl | decide +kernel)
    (case k_l_ints => first | k_is | ks_is | rfl | kernel_rfl | decide +kernel)
    (case a_l_yes_or_no => first | k_is | ks_is | rfl | kernel_rfl | decide +kernel)
    (case l_l_yes_or_no => first | k_is | ks_is | rfl | kernel_rfl | decide +kernel)
    (case c_l_yes_or_no => first | k_is | ks_is | rfl | kernel_rfl | decide +kernel)
    (case k_l_yes_or_no => first | k_is | ks_is | rfl | kernel_rfl | decide +kernel)
    (case a_l_far => first | k_is | ks_is | rfl | kernel_rfl | decide +kernel)
    (case l_l_far => first | k_is | ks_is | rfl | kernel_rfl | decide +kernel)
    (case c_l_far => first | k_is | ks_is | rfl | kernel_rfl | decide +kernel)
    (case k_l_far => first | k_is | ks_is | rfl | kernel_rfl | decide +kernel)
    (case a_l_sides_had => first | k_is | ks_is | rfl | kernel_rfl | decide +kernel)
    (case l_l_sides_had => first | k_is | ks_is | rfl | kernel_rfl | decide +kernel)
    (case c_l_sides_had => first | k_is | ks_is | rfl | kernel_rfl | decide +kernel)
    (case k_l_sides_had => first | k_is | ks_is | rfl | kernel_rfl | decide +kernel)
    (case a_l_bad_side => first | k_is | ks_is | rfl | kernel_rfl | decide +kernel)
    (case l_l_bad_side => first | k_is | ks_is | rfl | kernel_rfl | decide +kernel)
    (case c_l_bad_side => first | k_is | ks_is | rfl | kernel_rfl | decide +kernel)
    (case k_l_bad_side => first | k_is | ks_is | rfl | kernel_rfl | decide +kernel)
    (case a_l_drawn_side => first | k_is | ks_is | rfl | kernel_rfl | decide +kernel)
    (case l_l_drawn_side => first | k_is | ks_is | rfl | kernel_rfl | decide +kernel)
    (case c_l_drawn_side => first | k_is | ks_is | rfl | kernel_rfl | decide +kernel)
    (case k_l_drawn_side => first | k_is | ks_is | rfl | kernel_rfl | decide +kernel)
    (case a_l_sides_drawn => first | k_is | ks_is | rfl | kernel_rfl | decide +kernel)
    (case l_l_sides_drawn => first | k_is | ks_is | rfl | kernel_rfl | decide +kernel)
    (case c_l_sides_drawn => first | k_is | ks_is | rfl | kernel_rfl | decide +kernel)
    (case k_l_sides_drawn => first | k_is | ks_is | rfl | kernel_rfl | decide +kernel)
    (case a_l_have_all => first | k_is | ks_is | rfl | kernel_rfl | decide +kernel)
    (case l_l_have_all => first | k_is | ks_is | rfl | kernel_rfl | decide +kernel)
    (case c_l_have_all => first | k_is | ks_is | rfl | kernel_rfl | decide +kernel)
    (case k_l_have_all => first | k_is | ks_is | rfl | kernel_rfl | decide +kernel)
    (case a_l_common_told => first | k_is | ks_is | rfl | kernel_rfl | decide +kernel)
    (case l_l_common_told => first | k_is | ks_is | rfl | kernel_rfl | decide +kernel)
    (case c_l_common_told => first | k_is | ks_is | rfl | kernel_rfl | decide +kernel)
    (case k_l_common_told => first | k_is | ks_is | rfl | kernel_rfl | decide +kernel)
    (case a_l_inside => first | k_is | ks_is | rfl | kernel_rfl | decide +kernel)
    (case l_l_inside => first | k_is | ks_is | rfl | kernel_rfl | decide +kernel)
    (case c_l_inside => first | k_is | ks_is | rfl | kernel_rfl | decide +kernel)
    (case k_l_inside => first | k_is | ks_is | rfl | kernel_rfl | decide +kernel)
    (case a_l_inside_told => first | k_is | ks_is | rfl | kernel_rfl | decide +kernel)
    (case l_l_inside_told => first | k_is | ks_is | rfl | kernel_rfl | decide +kernel)
    (case c_l_inside_told => first | k_is | ks_is | rfl | kernel_rfl | decide +kernel)
    (case k_l_inside_told => first | k_is | ks_is | rfl | kernel_rfl | decide +kernel)
    (case a_l_common_refused => first | k_is | ks_is | rfl | kernel_rfl | decide +kernel)
    (case l_l_common_refused => first | k_is | ks_is | rfl | kernel_rfl | decide +kernel)
    (case c_l_common_refused => first | k_is | ks_is | rfl | kernel_rfl | decide +kernel)
    (case k_l_common_refused => first | k_is | ks_is | rfl | kernel_rfl | decide +kernel)
    (case a_l_inside_refused => first | k_is | ks_is | rfl | kernel_rfl | decide +kernel)
    (case l_l_inside_refused => first | k_is | ks_is | rfl | kernel_rfl | decide +kernel)
    (case c_l_inside_refused => first | k_is | ks_is | rfl | kernel_rfl | decide +kernel)
    (case k_l_inside_refused => first | k_is | ks_is | rfl | kernel_rfl | decide +kernel)
    (case a_l_refusals_told => first | k_is | ks_is | rfl | kernel_rfl | decide +kernel)
    (case l_l_refusals_told => first | k_is | ks_is | rfl | kernel_rfl | decide +kernel)
    (case c_l_refusals_told => first | k_is | ks_is | rfl | kernel_rfl | decide +kernel)
    (case k_l_refusals_told => first | k_is | ks_is | rfl | kernel_rfl | decide +kernel)
    (case a_law => first | k_is | ks_is | rfl | kernel_rfl | decide +kernel)
    (case l_law => first | k_is | ks_is | rfl | kernel_rfl | decide +kernel)
    (case c_law => first | k_is | ks_is | rfl | kernel_rfl | decide +kernel)
    (case k_law => first | k_is | ks_is | rfl | kernel_rfl | decide +kernel)
    (case pg_Shape => first | k_is | ks_is | rfl | kernel_rfl | decide +kernel)
    (case hd_Shape => first | k_is | ks_is | rfl | kernel_rfl | decide +kernel)
    (case po_Shape => first | k_is | ks_is | rfl | kernel_rfl | decide +kernel)
    (case sa_Shape => first | k_is | ks_is | rfl | kernel_rfl | decide +kernel)
    (case mk_Shape => first | k_is | ks_is | rfl | kernel_rfl | decide +kernel)
    (case kc_Shape => first | k_is | ks_is | rfl | kernel_rfl | decide +kernel)
    (case n_Shape_masks => first | k_is | ks_is | rfl | kernel_rfl | decide +kernel)
    (case n_Shape_parents => first | k_is | ks_is | rfl | kernel_rfl | decide +kernel)
    (case n_Shape_size => first | k_is | ks_is | rfl | kernel_rfl | decide +kernel)
