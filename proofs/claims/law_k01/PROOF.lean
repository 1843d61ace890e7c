import PyProof.Rows.All
import Wide.All
import OpenK.AllK
import Wide.FinOn
import HandS.ForMost
import HandS.Exc
import HandS.TryOnly
import HandS.ExcOwn
import HandS.WordsExc
import HandS.ExcInit
import HandS.ExcIs
import HandS.ExcField
import KE.KExcSuper
import HandS.FStr
import HandS.HotCalls
import KE.KExcIs
import HandS.IsInst
import HandS.Wide
import HandS.Style
import HandS.ExcCtx
import HandS.List
import KE.GoesMore
import KE.BitLaws
import HandS.WideBits
import HandS.Codes
import KE.KEqDeep
import KE.KEqSeq
import HandS.Conv
import PySem.Challenge.RW_everypast_k01_sides_of_a_shape
set_option Elab.async false
set_option linter.all false
set_option maxRecDepth 100000
set_option maxHeartbeats 4000000
/-! An own exception class whose __init__ begins with super().__init__(..): its __init__ as a def of the layer. -/
namespace EP
open PySem L2 PySem.Spec PyProof.Rows
open PySem.W (ksFn ksEnv)

theorem lookup_rev_zip : ∀ {ps : List Str} {us : List Value} {i : Nat} {x : Str} {u : Value}, ps.Nodup → ps[i]? = some x → us[i]? = some u → (ps.zip us).reverse.lookup x = some u
  | [], _, _, _, _, _, h, _ => by simp at h
  | _ :: _, [], _, _, _, _, _, h => by simp at h
  | p :: ps, w :: us, 0, x, u, nd, h1, h2 => by
    simp at h1 h2; subst h1; subst h2
    rw [List.zip_cons_cons, List.reverse_cons, List.lookup_append]
    have hn : (ps.zip us).reverse.lookup p = none := by
      cases e : (ps.zip us).reverse.lookup p with
      | none => rfl
      | some v =>
        have q := PySem.mem_of_lookup e
        exact absurd (List.of_mem_zip (List.mem_reverse.mp q)).1 (List.nodup_cons.mp nd).1
    rw [hn]
    simp [List.lookup]
  | p :: ps, w :: us, i + 1, x, u, nd, h1, h2 => by
    rw [List.zip_cons_cons, List.reverse_cons, List.lookup_append]
    rw [lookup_rev_zip (i := i) (List.nodup_cons.mp nd).2 (by simpa using h1) (by simpa using h2)]
    rfl

/-- the scope of such an __init__ -/
structure ScE (N P : List Str) (sc : Scope) : Prop where
  kind : sc.kind = .function
  co : sc.isCoroutine = false
  gen : sc.isGenerator = false
  nd : N.Nodup
  pre : N.take P.length = P
  par : ∀ x ∈ P, sc.names.lookup x = some .local
  nocell : ∀ y ∈ sc.names, y.2 ≠ .cell
  free : ∀ y ∈ sc.names, y.2 = .free → y.1 = "__class__"
  sup : sc.names.lookup ("super" : Str) = some .globalImplicit
  cls : sc.names.lookup ("__class__" : Str) = some .free

/-- the context of its body -/
def cxE (CX : CXT) (P : Program) (w : World) (K : PySem.W.Frag) (mg : Str → Option Value) (base : Heap) (N : List Str) (qual : Str) (scope : Scope) (f : Addr) (cd : Value) (cc : Addr) (A : Around) (outer : List Env) (s : Shared) (H : Hp) (E : XK) : Cx where
  prog := P
  w := w
  K := K
  mg := mg
  base := base
  A := A.deeper (ksEnv qual scope s.heap.objs.size f cd cc)
  N := N
  s_0 := s
  H_0 := H
  env := ksEnv qual scope s.heap.objs.size f cd cc
  outer := outer
  stack := ksEnv qual scope s.heap.objs.size f cd cc :: outer
  ex := []
  calm := true
  fn := fun y => decide (y ≠ "__class__")
  pn := []
  xe := fun e s' => wpAny (model P w) (A.deeper (ksEnv qual scope s.heap.objs.size f cd cc)) (leaving (ksEnv qual scope s.heap.objs.size f cd cc) e) (fun _ s'' => CX outer H s E e s'') (fun e' s'' => CX outer H s E e' s'') s'

theorem cells1 {cc : Addr} {y : Str} {c : Addr} (h : List.lookup y [(("__class__" : Str), cc)] = some c) : y = "__class__" ∧ c = cc := by
  by_cases e : y = "__class__"
  · subst e
    have q : List.lookup ("__class__" : Str) [(("__class__" : Str), cc)] = some cc := by simp [List.lookup]
    rw [q] at h
    exact ⟨rfl, (Option.some.inj h).symm⟩
  · have q : (y == ("__class__" : Str)) = false := by simpa using e
    simp [List.lookup, q] at h

theorem inv_startE {CX : CXT} {P : Program} {w : World} {K : PySem.W.Frag} {mg : Str → Option Value} {base : Heap} {N ps : List Str} {qual : Str} {scope : Scope} {f cc : Addr} {cd : Value} {A : Around} {outer : List Env} {s : Shared} {h1 : Heap} {tk : Nat} {H : Hp} {E : XK} {us : List Value} {vs : List V}
    {D : Addr} {cl : Value} {cld : Option Addr} {csl : Array (Option Value)}
    (S : ScE N ps scope) (hd : A.handled = none) (e0 : Env0 P w K mg base A outer s H) (hl : vs.length = ps.length) (r : Vals vs us)
    (hcell : K.lookup cc = some ⟨cl, cld, .cell (some (.ref D)), csl⟩)
    (hns : h1.Ns s.heap.objs.size (fun x => (ps.zip us).reverse.lookup x)) (hk : ∀ b o, s.heap.get? b = some o → h1.get? b = some o) :
    Inv (cxE CX P w K mg base N qual scope f cd cc A outer s H E) [] (L2.start N vs) H { s with heap := h1, toks := tk } := by
  have hpl : ps.length ≤ N.length := by have := congrArg List.length S.pre; rw [List.length_take] at this; omega
  have noA : ∀ b : Addr, b ∉ (cxE CX P w K mg base N qual scope f cd cc A outer s H E).ex := fun b z => absurd (show b ∈ ([] : List Addr) from z) (by simp)
  have hb : base.get? cc = some ⟨cl, cld, .cell (some (.ref D)), csl⟩ := e0.mod.kin _ _ hcell
  refine ⟨⟨e0.mod, S.kind, rfl, rfl, Nat.le_refl _, fun y z c h1 h2 => ?_, fun y hy => ?_, fun y c hf h => ?_, fun _ => hd, Around.frames_deeper e0.frames, .inr ⟨rfl, rfl⟩, fun b z => absurd z (noA b), e0.bs, e0.bsz, fun b _ _ => noA b, fun b z => absurd z (noA b), e0.funs, e0.frf⟩,
    rfl, e0.bare, Un.kept hk, ⟨_, hns, fun i y v h1 h2 h3 => ?_⟩, fun y c h => ?_, e0.hok.fresh (Nat.le_refl _), fun y c h => ?_, fun p hp => absurd (show p ∈ ([] : List (Addr × Obj)) from hp) (by simp), e0.hok.kept hk, ?_⟩
  · rw [(cells1 h1).1, (cells1 h2).1]
  · have hy : scope.names.lookup y = some .cell ∨ scope.names.lookup y = some .free := hy
    rcases hy with hy | hy
    · exact absurd rfl (S.nocell _ (PySem.mem_of_lookup hy))
    · have e := S.free _ (PySem.mem_of_lookup hy) rfl
      refine ⟨cc, ?_⟩
      have e' : y = "__class__" := e
      rw [e']
      show List.lookup ("__class__" : Str) [(("__class__" : Str), cc)] = some cc
      simp [List.lookup]
  · have e := (cells1 h).1
    subst e
    have hf' : decide (("__class__" : Str) ≠ "__class__") = true := hf
    simp at hf'
  · have hi : i < vs.length := by
      unfold L2.start at h2
      by_cases hi : i < vs.length
      · exact hi
      · rw [List.getElem?_append_right (by simpa using hi)] at h2
        rw [List.getElem?_replicate] at h2
        split at h2 <;> cases h2
    have ha : vs[i]? = some v := by
      unfold L2.start at h2
      rw [List.getElem?_append_left (by simpa using hi), List.getElem?_map] at h2
      cases e : vs[i]? with
      | none => rw [e] at h2; cases h2
      | some a => rw [e] at h2; cases h2; rfl
    obtain ⟨u, hu, rv⟩ := r.get ha
    have hp : ps[i]? = some y := by
      rw [← S.pre, List.getElem?_take_of_lt (by omega)]; exact h1
    have ndP : ps.Nodup := by rw [← S.pre]; exact S.nd.sublist (List.take_sublist _ _)
    refine ⟨u, rv, .inl ⟨S.par y (List.mem_of_getElem? hp), lookup_rev_zip ndP hp hu⟩⟩
  · have e := (cells1 h).2
    subst e
    exact ⟨_, _, hk _ _ (e0.bs _ _ hb).1, rfl⟩
  · have e := (cells1 h).2
    subst e
    exact (e0.bs _ _ hb).2
  · unfold L2.start
    show _ = N.length
    rw [List.length_append, List.length_map, List.length_replicate]
    omega

/-- what the text and the written part say of an own exception class at C, its __init__ at f, its class cell at cc -/
structure SupC (P : Program) (K : PySem.W.Frag) (mg : Str → Option Value) (C cc cda : Addr) : Prop where
  oex : OexC K C
  cel : ∃ cl cld csl, K.lookup cc = some ⟨cl, cld, .cell (some (.ref C)), csl⟩
  cod : ∃ ccl cdd vs ccs file tf, K.lookup cda = some ⟨ccl, cdd, .fields vs, ccs⟩ ∧ vs[2]? = some (.str file tf) ∧ ((P.main.file : Str) == file) = true
  sub : PySem.W.mroIn K C (.ref C) = some true
  subV : PySem.W.subIn K (.ref C) (.type "ValueError") = some true
  op : PySem.W.nsIn K cStatics "thirdparty.any" = some none
  sup : PySem.W.ks_superIn K C C "__init__" = some (some (.builtin "ValueError.__init__"))
  mgS : mg "super" = none
  top : (P.main.scope.names.lookup ("super" : Str)).isSome = false

section
variable {P : Program} {w : World} {M : Model} {A : Around} {E : Value → Shared → Prop} {s : Shared}
theorem callWith_mw {pos : Pos} {u x : Addr} {env : Env} {e : Expr} {rest : List Expr} {Q : Value → Shared → Prop}
    (h : wpAny M A (spliced (backTo pos (starEach (e :: rest) env))) (fun vs s₁ => PySem.W.KxsAt "ValueError.__init__" u x s₁.heap ∧ wpAny M A (call (.ref u) vs) Q E s₁) E s)
    (he : starEach (e :: rest) env = (false, eval e env) :: starEach rest env := by rfl) (hplain : (backTo pos (starEach rest env)).any (·.1) = false := by rfl) :
    wpAny M A (callWith pos (.ref u) [] (backTo pos (starEach (e :: rest) env)) []) Q E s := by
  rw [he] at h ⊢
  refine PySem.W.kxs_callWith (i := "ValueError.__init__") (x := x) (by show (false || (backTo pos (starEach rest env)).any (·.1)) = false; rw [hplain]; rfl) ?_
  exact Calls.evalArgs_plain h
end
section
variable {P : Program} {w : World} {A : Around} {E : Value → Shared → Prop} {h : Heap} {g : Array GenState} {d : Drawn} {t : Nat} {os : OsState}
variable {nm q : Str} {C N : Addr} {bs bm : List Value} {hdct : Bool} {sn : List Str} {sub : List Value} {ab : Bool} {col : Option Bool} {dd : Option Addr} {k0 k1 k2 k3 k5 : Option Value}
theorem call_mw {u e t0 : Addr} {rest : List Value} {Q : Value → Shared → Prop}
    (hC : h.get? C = some (excClassObj nm q C N bs bm hdct sn sub ab col dd k0 k1 k2 k3 k5 "ValueError.__new__")) (he : h.get? e = some (PySem.HandSPX.excO C t0)) (hu : h.get? u = some (PySem.W.kxs_mw "ValueError.__init__" e)) (hrest : rest.length ≤ sizeLine)
    (hq : ∀ h' t1, (∀ b o, b ≠ e → h.get? b = some o → h'.get? b = some o) → h'.get? e = some (PySem.HandSPX.excO C t1) → Q .none ⟨h', g, d, t, os⟩) :
    wpAny (model P w) A (call (.ref u) rest) Q E ⟨h, g, d, t, os⟩ := by
  refine wpAny_call (codeAny_of_tree ?_)
  show wpAny _ A.in1 (callAny (.ref u) ⟨rest, []⟩) _ _ _
  simp only [callAny]
  refine wpAny_bind (wpAny_load hu ?_)
  simp only [PySem.W.kxs_mw, show (Value.type "method-wrapper" == Value.type "method" || Value.type "method-wrapper" == Value.type "builtin_function_or_method" || Value.type "method-wrapper" == Value.type "method-wrapper") = true by decide, if_true]
  refine PySem.W.KFB.if_so (by decide) ?_
  refine wpAny_bind (PySem.W.check_bound_init F.excBase_ValueError.toExcCallFacts hC he rfl ?_)
  refine wpAny_bind (wpAny_pure (wpAny_pure ?_))
  refine ⟨Code.quiet_builtin _ (by decide +kernel), codeAny_builtin F.excBase_ValueError.initEntry ?_⟩
  rw [Around.under_plainId F.excBase_ValueError.init.plain _]
  wp_walk
  refine hq _ h.objs.size (fun b o hb ho => ?_) ?_
  · rw [Heap.get?_update_other _ _ (Ne.symm hb)]
    exact Heap.get?_push_of_some _ ho
  · rw [Heap.get?_update_self _ (Heap.get?_push_of_some _ he) rfl]
    rfl
end

theorem fn_exc {CX : CXT} {P : Program} {w : World} {K : PySem.W.Frag} {mg : Str → Option Value} {base : Heap} {k : Nat} {f cc cda C : Addr} {name qual : Str} {params : Arguments} {e : Expr} {es : List Expr} {rest : List Stmt} {scope : Scope} {dV kV doc pm ct oc : Value} {an od : Option Addr}
    {osl : Array (Option Value)} {N ps : List Str} {sp : Sp} {p0 p1 p2 p3 p4 : Pos} {ar : Arg} {ps' : List Str} {pl : Addr → Sem Bool}
    (lk : K.lookup f = some ⟨oc, od, .func (ksFn name qual params (.Expr (.Call (.Attribute (.Call (.Name "super" p0) [] [] p1) "__init__" p2) (e :: es) [] p3) p4 :: rest) scope dV kV doc pm an (.ref cda) ct cc), osl⟩)
    (hcd : PySem.W.codeIn K (.ref cda) qual = true) (S : ScE N ps scope) (T : SupC P K mg C cc cda)
    (hp : (params.posonlyargs ++ params.args).head? = some ar) (hps : ps = ar.arg :: ps')
    (len : ∀ vs H Q E, sp vs H Q E → vs.length = ps.length)
    (hbody : ∀ (A : Around) (outer : List Env) (s : Shared) (H : Hp) (vs : List V) (Q : VK) (E : XK), Room k (A.deeper (ksEnv qual scope s.heap.objs.size f (.ref cda) cc)) → sp vs H Q E →
      ∃ (a : Addr) (vs' : List V) (ta : TA) (t : TS), vs = .ref a :: vs' ∧ H a = some (exo a C none) ∧ PA (cxE CX P w K mg base N qual scope f (.ref cda) cc A outer s H E) (e :: es) ta ∧ PSs (cxE CX P w K mg base N qual scope f (.ref cda) cc A outer s H E) rest t ∧
        ta (L2.start N vs) H fun ws H1 => ws.length ≤ 1000 ∧ H1 a = some (exo a C none) ∧ t { nx := fun _ H' => Q .non H', rt := Q } (L2.start N vs) H1)
    (hc : ∀ (L : Addr), eval (.Call (.Attribute (.Call (.Name "super" p0) [] [] p1) "__init__" p2) (e :: es) [] p3) (ksEnv qual scope L f (.ref cda) cc) = (do
      let ov ← attributeBase (.Call (.Name "super" p0) [] [] p1) "__init__" (ksEnv qual scope L f (.ref cda) cc) (eval (.Call (.Name "super" p0) [] [] p1) (ksEnv qual scope L f (.ref cda) cc))
      standAt p2.atName
      let (g, first) ← holding [ov] (getMethod ov "__init__" (pl L))
      callWith p3 g first (backTo p3 (starEach (e :: es) (ksEnv qual scope L f (.ref cda) cc))) []) := by intro L; rfl)
    (hs : ∀ (L : Addr), swapsWith (.Call (.Attribute (.Call (.Name "super" p0) [] [] p1) "__init__" p2) (e :: es) [] p3) none p4.line (ksEnv qual scope L f (.ref cda) cc) = pure false := by intro L; rfl)
    (he : ∀ (L : Addr), starEach (e :: es) (ksEnv qual scope L f (.ref cda) cc) = (false, eval e (ksEnv qual scope L f (.ref cda) cc)) :: starEach es (ksEnv qual scope L f (.ref cda) cc) := by intro L; rfl)
    (hpl : ∀ (L : Addr), (backTo p3 (starEach es (ksEnv qual scope L f (.ref cda) cc))).any (·.1) = false := by intro L; rfl) :
    FnOk P w K mg base CX (k + 1) f (ksFn name qual params (.Expr (.Call (.Attribute (.Call (.Name "super" p0) [] [] p1) "__init__" p2) (e :: es) [] p3) p4 :: rest) scope dV kV doc pm an (.ref cda) ct cc) ps sp := by
  refine ⟨len, fun A outer s H args us vs Q E hr e0 hb r hsp => ?_⟩
  have hl := len _ _ _ _ hsp
  have KX : K.In s.heap := e0.mod.kin.keeps fun b o e => (e0.bs b o e).1
  have lim : s.heap.NoLimit := e0.mod.nolimit.keeps fun b o e => (e0.bs b o e).1
  obtain ⟨cl, cld, csl, hcell⟩ := T.cel
  obtain ⟨ccl, cdd, cvs, ccs, file, tf, hcode, hvs, hfile⟩ := T.cod
  have hloc : ∀ y ∈ ps.zip us, scope.names.lookup y.1 = some .local := fun ⟨n, v⟩ hy => S.par n (List.of_mem_zip hy).1
  refine PySem.ks_codeAny_call_defAt (fd := ksFn name qual params (.Expr (.Call (.Attribute (.Call (.Name "super" p0) [] [] p1) "__init__" p2) (e :: es) [] p3) p4 :: rest) scope dV kV doc pm an (.ref cda) ct cc) hr.depth (KX _ _ lk) rfl lim (PySem.W.codeRec_of KX hcd) rfl hb S.nocell hloc (fun h₁ hns hk₁ => ?_) S.co S.gen S.kind
  obtain ⟨a, vs', ta, t, rfl, ha, hA, ht, hq⟩ := hbody A outer s H vs Q E (hr.deeper _) hsp
  have I : Inv (cxE CX P w K mg base N qual scope f (.ref cda) cc A outer s H E) [] (L2.start N (.ref a :: vs')) H { s with heap := h₁, toks := s.toks + (ps.zip us).length } := inv_startE S hr.hd e0 hl r hcell hns hk₁
  cases r with
  | @cons _ u0 _ us' ra r' =>
  obtain rfl : u0 = Value.ref a := ra
  subst hps
  obtain ⟨t1, hoe⟩ := exo_at I.hok ha
  obtain ⟨nm, q, Nn, bs, bm, sn, sub, ab, col, dd, k0, k1, k2, k3, k5, hC, hbm⟩ := T.oex.cls
  have hclC : PySem.W.clsIn K C = some { name := nm, bases := bs, mro := .ref C :: bm, ns := Nn, qualname := q, hasDict := true, slotNames := sn, subclasses := sub, abstract := ab, collection := col, hasDel := false } := by unfold PySem.W.clsIn; rw [hC] <;> rfl
  have XI : K.In h₁ := I.kIn
  have J0 : PySem.W.InstAt h₁ a (PySem.HandSPX.excO C t1) C none := ⟨hoe, rfl, rfl, trivial⟩
  have hne := PySem.W.ks_ne XI J0 hclC
  have hclH : ∃ cdC, K.lookup C = some ⟨_, _, .cls cdC, _⟩ := ⟨_, hC⟩
  refine PySem.ks_wpAt_execs_cons (PySem.ks_wpAt_Expr_any (PySem.ks_wpAt_MethodCall (pl := pl _) ?_ (hc _)) I.quiet (hs _))
  refine PySem.ks_wpAt_super_base (f := f) (cc := cda) (fd := ksFn name qual params (.Expr (.Call (.Attribute (.Call (.Name "super" p0) [] [] p1) "__init__" p2) (e :: es) [] p3) p4 :: rest) scope dV kV doc pm an (.ref cda) ct cc) (ar := ar) S.sup S.cls (by decide) rfl (XI _ _ lk) rfl hp rfl (XI _ _ hcode) rfl hvs hfile T.top ?_
  obtain ⟨mb, hb1, hb2⟩ := I.mod.blt
  refine PySem.W.ks_loadName_global S.kind S.sup (Calls.loadGlobal_builtin (I.mod.glob.keeps I.bk) T.mgS (hb1.keeps I.bk) ((hb2 _ (by decide)).trans (by first | rfl | decide +kernel)) ⟨rfl, ?_⟩)
  refine wpAny_loadName_free S.kind S.cls rfl ⟨_, XI _ _ hcell, rfl⟩ ?_
  refine wpAny_loadName_local S.kind (S.par _ List.mem_cons_self) hns (v := .ref a) (lookup_rev_zip (i := 0) (by rw [← S.pre]; exact S.nd.sublist (List.take_sublist _ _)) rfl rfl) ?_
  have hDC := XI _ _ hC
  refine PySem.ks_wpAny_isType_cls hDC rfl ⟨rfl, ?_⟩
  refine PySem.ks_wpAny_call_super hDC rfl hoe rfl (fun c z => nomatch z) (PySem.W.looks_mroIn XI T.sub) (fun h₂ hso k₂ => ?_)
  have I2 := I.kept (t' := s.toks + (((ar.arg :: ps').zip (Value.ref a :: us')).length)) k₂
  have XI2 : K.In h₂ := I2.kIn
  have hsup := T.sup
  unfold PySem.W.ks_superIn at hsup
  rw [hclC] at hsup
  have J2 : PySem.W.InstAt h₂ a (PySem.HandSPX.excO C t1) C none := ⟨k₂ _ _ hoe, rfl, rfl, trivial⟩
  refine PySem.W.kxs_getMethod PySem.W.kxs_ValueError hso (PySem.W.looks_opaque XI2 T.op) (l₀ := .ref C :: bm) ?_ rfl XI2 hsup (J2.type.andThen (PySem.W.looks_subIn XI2 T.subV)) hne (by decide) ?_
  · exact fun A Q E s k q => wpAny_bind ((PySem.W.looks_clsIn XI2 hclC) A _ E s k (wpAny_pure q))
  have k₃ : ∀ b o, h₂.get? b = some o → (h₂.push (PySem.W.kxs_mw "ValueError.__init__" a)).get? b = some o := fun b o z => Heap.get?_push_of_some _ z
  have hu : (h₂.push (PySem.W.kxs_mw "ValueError.__init__" a)).get? h₂.objs.size = some (PySem.W.kxs_mw "ValueError.__init__" a) := Heap.get?_push_at rfl rfl
  have hfr : H h₂.objs.size = none := I2.hok.fresh (Nat.le_refl _)
  have I3 := (I2.kept (t' := s.toks + (((ar.arg :: ps').zip (Value.ref a :: us')).length) + 1) k₃)
  have I4 := I3.pins_of (pins' := [(h₂.objs.size, PySem.W.kxs_mw "ValueError.__init__" a)]) (fun p hp => by
    rw [List.mem_singleton] at hp
    subst hp
    refine ⟨hu, hfr, fun z => ?_, ?_, fun v z => nomatch z⟩
    · have := I2.lt
      rw [← z] at this
      exact absurd this (Nat.lt_irrefl _)
    · exact I2.nofs (Nat.le_refl _))
  refine callWith_mw (x := a) (thn (hA.run p3 _ _ (L2.start N (.ref a :: vs')) H _ I4 hq) fun wsv s1 ⟨ws, H1, I5, r5, hwl, ha1, q5⟩ => ⟨(I5.pin _ (List.mem_append_right _ List.mem_cons_self)).1, ?_⟩) (he _) (hpl _)
  obtain ⟨t5, ho5⟩ := exo_at I5.hok ha1
  have hu5 := (I5.pin _ (List.mem_append_right _ List.mem_cons_self)).1
  have XI5 := I5.kIn
  have hlen : wsv.length ≤ sizeLine := by
    rw [← Paired.length r5, sizeLine_eq]
    omega
  obtain ⟨hp5, g5, d5, tk5, os5⟩ := s1
  refine call_mw (XI5 _ _ hC) ho5 hu5 hlen fun h6 t6 k6 hx6 => ?_
  have I5' := I5.unpinned (pins := []) (pl := [(h₂.objs.size, PySem.W.kxs_mw "ValueError.__init__" a)])
  have J := I5'.write (t' := tk5) (x := a) (e := a) (o := exo a C none) (by rw [ha1]; exact True.intro) (.inl rfl) k6 ⟨_, hx6⟩ (exo_ok hx6)
  have eu : upd H1 a (exo a C none) = H1 := by
    funext b
    by_cases hb : b = a
    · rw [hb, upd_same, ha1]
    · rw [upd_ne hb]
  rw [eu] at J
  show _root_.PySem.wpAt _ _ _ (execs rest _) _ _ _
  refine wpAt_of_wpAny (wpAny_mono (ht.run [] _ (L2.start N (.ref a :: vs')) H1 _ J q5) (fun fl s' hs => ?_) fun e s' hs => hs)
  have fin : ∀ {σ' : L2.St} {H' : Hp} {v : V} {u : Value}, Inv (cxE CX P w K mg base N qual scope f (.ref cda) cc A outer s H E) [] σ' H' s' → RelV v u → Q v H' → CE outer P w H s Q u s' :=
    fun {σ' H' v u} J rv q => ⟨v, H', J.os, J.bare, J.base, J.hok, rv, q⟩
  cases fl with
  | ret u =>
    obtain ⟨v, σ', H', J, rv, q⟩ := hs
    exact fin J rv q
  | next =>
    obtain ⟨σ', H', J, q⟩ := hs
    exact fin (v := V.non) (u := Value.none) J rfl q
  | brk =>
    obtain ⟨_, _, _, q⟩ := hs
    exact False.elim q
  | cont =>
    obtain ⟨_, _, _, q⟩ := hs
    exact False.elim q
end EP
namespace EP
open PySem L2 PySem.Spec PyProof.Rows
open PySem.W (ksFn ksEnv)
open L2H (RoomH roomH_of)

/-! ### a def that may raise, called where it does not -/
theorem pass_no {X : Cx} : Passes (L2.CX X.prog X.w) X E0 := fun _ _ _ _ _ _ _ h => by
  obtain ⟨_, _, _, _, _, _, _, _, _, _, _, _, z⟩ := h
  exact z.elim

/-! ### making an exception -/
theorem pmk_imp {X : Cx} {e : Expr} {t t' : L2.St → Hp → XK → Prop} (h : PMk X e t) (i : ∀ σ H Q, t' σ H Q → t σ H Q) : PMk X e t' := fun pins s σ H Q I q => h pins s σ H Q I (i _ _ _ q)
/-- C(e): the made exception has one attribute, the value -/
def tMkS (C : Addr) (f : Str) (ok : V → Hp → Prop) (ta : TA) : L2.St → Hp → XK → Prop := fun σ H Q => ta σ H fun vs H1 => ∃ v, vs = [v] ∧ ok v H1 ∧ ∀ d, H1 d = none → Q (.ref C) (some d) (upd H1 d (.xd [(f, v)]))
/-- what such an __init__ promises -/
def spExc (C : Addr) (f : Str) (ok : V → Hp → Prop) : Sp := fun vs H Q _ => ∃ (a : Addr) (v : V) (H0 : Hp), vs = [.ref a, v] ∧ H0 a = none ∧ H = upd H0 a (exo a C none) ∧ ok v H0 ∧ ∀ d, H0 d = none → d ≠ a → Q .non (upd (upd H d (exd d [(f, v)])) a (exo a C (some d)))
theorem mkS_of {C : Addr} {f : Str} {ok : V → Hp → Prop} {ta : TA} (mono : ∀ σ H (Q Q' : List V → Hp → Prop), (∀ vs H1, Q vs H1 → Q' vs H1) → ta σ H Q → ta σ H Q') {σ : L2.St} {H : Hp} {Q : XK} (h : tMkS C f ok ta σ H Q) : tMkO C (spExc C f ok) [] ta σ H Q := by
  refine mono σ H _ _ (fun vs H1 q => ?_) h
  obtain ⟨v, rfl, hv, q⟩ := q
  refine ⟨(by show 1 ≤ 1000; decide), fun a ha => ?_⟩
  refine ⟨a, v, H1, rfl, ha, rfl, hv, fun d hd hda => ⟨rfl, d, [(f, v)], upd_same, ?_, hd, ?_⟩⟩
  · rw [upd_ne hda, upd_same]
  · have e : upd (L2.del (upd (upd (upd H1 a (exo a C none)) d (exd d [(f, v)])) a (exo a C (some d))) a) d (.xd [(f, v)]) = upd H1 d (.xd [(f, v)]) := by
      funext b
      by_cases hb : b = d
      · rw [hb, upd_same, upd_same]
      · rw [upd_ne hb, upd_ne hb]
        by_cases hba : b = a
        · rw [hba, del_same, ha]
        · rw [del_ne hba, upd_ne hba, upd_ne hb, upd_ne hba]
    rw [e]
    exact q d hd

/-! ### isinstance of a caught exception with attributes -/
theorem call_isD {X : Cx} {a D : Addr} {oe : Obj} {d : Addr} {pn : List (Addr × Obj)} (C : ExcC X.K D) (hz : Zc (.ref D) (some d) oe) (hf : ∃ vs, oe.data = .fields vs) :
    CallR (X.suite a ((a, oe) :: pn)) (.builtin "isinstance") (fun xs H Q => (∃ fs, H d = some (.xd fs)) ∧ rIsE X.K D a xs H Q) := by
  intro pins s σ H xs us Q I r h
  obtain ⟨⟨fs, hd⟩, c, cv, b, rfl, hcv, e, q⟩ := h
  cases r with
  | cons rx rr =>
    cases rr with
    | cons rt rr =>
      cases rr
      cases rx
      have ec := hcv _ rt
      subst ec
      obtain ⟨hget, _⟩ := I.pin (a, oe) (List.mem_append.mpr (.inl List.mem_cons_self))
      obtain ⟨vs, hv⟩ := hf
      have hx : ObjOk X.prog X.w H s.heap d (.xd fs) := I.hok d _ hd
      obtain ⟨mA, hns, hr⟩ := hx
      obtain ⟨od, ho, hl⟩ := lookIn_ns hns
      have J : PySem.W.InstAt s.heap a oe D (some od) := ⟨hget, hz.1, by unfold PySem.W.notCls; rw [hv] <;> rfl, by rw [hz.2]; exact ho⟩
      have hcl : (PySem.W.clsIn X.K D).isSome = true := by
        obtain ⟨cd, hc, _⟩ := PySem.W.any_some C.hd
        rw [hc]; rfl
      exact PySem.W.kia_one (PySem.W.kitx_exc hcl C.hg C.hk C.hs C.ha C.hn C.ht C.hm) I.kIn J e (fun z => nomatch z) fun tk => ⟨.bl b, H, I.kept (t' := tk) fun _ _ z => z, rfl, q⟩

theorem room_mark {A : Around} {k j : Nat} {x : Option Value} (hr : Room k A) (h : j ≤ k) : RoomH j (A.mark x) := L2H.RoomH.mono (k := k) ⟨hr.dp, hr.un⟩ h
/-! ### a def that is called within an except suite and raises nothing -/
structure FnQ (P : Program) (w : World) (K : PySem.W.Frag) (mg : Str → Option Value) (base : Heap) (k : Nat) (f : Addr) (fd : FuncData) (ps : List Str) (sp : Sp) : Prop where
  len : ∀ vs H Q E, sp vs H Q E → vs.length = ps.length
  run : ∀ (A : Around) (outer : List Env) (s : Shared) (H : Hp) (args : Args) (us : List Value) (vs : List V) (Q : VK), RoomH k A → Env0 P w K mg base A outer s H → BindsTo s fd args (ps.zip us) → Vals vs us → sp vs H Q E0 →
    codeAny (model P w) A (.call (.ref f) args) (CR L2.CX0 outer P w H s Q E0) s
theorem FnQ.ok {P : Program} {w : World} {K : PySem.W.Frag} {mg : Str → Option Value} {base : Heap} {k : Nat} {f : Addr} {fd : FuncData} {ps : List Str} {sp sp' : Sp} (F : FnQ P w K mg base k f fd ps sp) (h : ∀ vs H Q E, sp' vs H Q E → sp vs H Q E0) : FnOk P w K mg base L2.CX0 k f fd ps sp' :=
  ⟨fun vs H Q E q => F.len vs H Q E0 (h _ _ _ _ q), fun A outer s H args us vs Q E hr e0 hb r q => codeAny_mono (F.run A outer s H args us vs Q (roomH_of hr) e0 hb r (h _ _ _ _ q)) fun r s' z => by
    cases r with
    | error e => exact (show False from z).elim
    | ok fl => cases fl <;> exact z⟩
def cxQ (P : Program) (w : World) (K : PySem.W.Frag) (mg : Str → Option Value) (base : Heap) (N : List Str) (qual : Str) (scope : Scope) (f : Addr) (cd : Value) (A : Around) (outer : List Env) (s : Shared) (H : Hp) : Cx :=
  { cxOf L2.CX0 P w K mg base N qual scope f cd A outer s H E0 with calm := false }
theorem fn_ofQ {P : Program} {w : World} {K : PySem.W.Frag} {mg : Str → Option Value} {base : Heap} {k : Nat} {f : Addr} {name qual : Str} {params : Arguments} {body : List Stmt} {scope : Scope} {dV kV doc pm cdv ct oc : Value} {an od : Option Addr}
    {osl : Array (Option Value)} {N ps : List Str} {sp : Sp} (lk : K.lookup f = some ⟨oc, od, .func (PySem.W.fnOf name qual params body scope dV kV doc pm an cdv ct), osl⟩) (hcd : PySem.W.codeIn K cdv qual = true) (S : FnScope N ps scope)
    (len : ∀ vs H Q E, sp vs H Q E → vs.length = ps.length)
    (hbody : ∀ (A : Around) (outer : List Env) (s : Shared) (H : Hp) (vs : List V) (Q : VK), RoomH k (A.deeper (envOfC qual scope s.heap.objs.size f cdv)) → sp vs H Q E0 →
      ∃ t, PSs (cxQ P w K mg base N qual scope f cdv A outer s H) body t ∧ t { nx := fun _ H' => Q .non H', rt := Q } (L2.start N vs) H) :
    FnQ P w K mg base (k + 1) f (PySem.W.fnOf name qual params body scope dV kV doc pm an cdv ct) ps sp := by
  refine ⟨len, fun A outer s H args us vs Q hr e0 hb r hsp => ?_⟩
  have hl := len _ _ _ _ hsp
  have KX : K.In s.heap := e0.mod.kin.keeps fun b o e => (e0.bs b o e).1
  have lim : s.heap.NoLimit := e0.mod.nolimit.keeps fun b o e => (e0.bs b o e).1
  have hkind : ∀ y ∈ ps.zip us, scope.names.lookup y.1 = some .local ∨ (scope.names.lookup y.1 = some .cell ∧ ((cellsFrom (s.heap.objs.size + 1) scope.names []).lookup y.1).isSome = true) := fun ⟨n, v⟩ hy =>
    (S.par n (List.of_mem_zip hy).1).imp id fun q => ⟨q, PySem.W.cellsFrom_some _ _ _ (.inl q)⟩
  refine codeAny_call_function hr.depth (KX _ _ lk) rfl S.co S.gen rfl (PySem.W.codeRec_of KX hcd) (hb _ _ _ _ ?_)
  refine wpAny_newFunctionEnv_cells S.kind hkind fun env he s1 x => ?_
  subst he
  refine ⟨lim.keeps x.toInCall.keep, codeAny_func ?_⟩
  obtain ⟨t, ht, hq⟩ := hbody A outer s H vs Q (hr.deeper _) hsp
  have I : Inv (cxQ P w K mg base N qual scope f cdv A outer s H) [] (L2.start N vs) H s1 := by
    have A' : Around := { A with handled := none }
    have I0 : Inv (cxOf L2.CX0 P w K mg base N qual scope f cdv { A with handled := none } outer s H E0) [] (L2.start N vs) H s1 :=
      inv_start (A := { A with handled := none }) S rfl ⟨e0.frames, e0.mod, e0.bs, e0.bsz, e0.funs, e0.frf, e0.hok, e0.bare⟩ hl r x
    have o := I0.ok
    exact ⟨⟨o.mod, o.kind, o.glob, o.blt, o.above, o.inj, o.has, o.cab, fun z => Bool.noConfusion z, Around.frames_deeper e0.frames, o.stk, o.exf, o.bs, o.bsz, o.noex, o.exfs, o.funs, o.frf⟩, I0.os, I0.bare, I0.base, I0.loc, I0.cell, I0.free, I0.freeC, I0.pin, I0.hok, I0.len⟩
  refine wpAny_mono (ht.run [] s1 (L2.start N vs) H _ I hq) (fun fl s' hs => ?_) fun e s' hs => hs
  have fin : ∀ {σ' : L2.St} {H' : Hp} {v : V} {u : Value}, Inv (cxQ P w K mg base N qual scope f cdv A outer s H) [] σ' H' s' → RelV v u → Q v H' → CE outer P w H s Q u s' :=
    fun {σ' H' v u} J rv q => ⟨v, H', J.os, J.bare, J.base, J.hok, rv, q⟩
  cases fl with
  | ret u =>
    obtain ⟨v, σ', H', J, rv, q⟩ := hs
    exact fin J rv q
  | next =>
    obtain ⟨σ', H', J, q⟩ := hs
    exact fin (v := V.non) (u := Value.none) J rfl q
  | brk => exact hs.elim fun _ z => z.elim fun _ z => z.2.elim
  | cont => exact hs.elim fun _ z => z.elim fun _ z => z.2.elim
theorem Fun.okQ {P : Program} {w : World} {K : PySem.W.Frag} {mg : Str → Option Value} {base : Heap} {x qual : Str} {st : Stmt} {f : Addr} {fd : FuncData} {N ps : List Str} {k : Nat} {sp : Sp} (F : L2.Fun K x qual st f fd) (S : FnScope N ps (defScope st)) (len : ∀ vs H Q E, sp vs H Q E → vs.length = ps.length)
    (hbody : ∀ (cdv : Value) (A : Around) (outer : List Env) (s : Shared) (H : Hp) (vs : List V) (Q : VK), RoomH k (A.deeper (envOfC qual (defScope st) s.heap.objs.size f cdv)) → sp vs H Q E0 →
      ∃ t, PSs (cxQ P w K mg base N qual (defScope st) f cdv A outer s H) (defBody st) t ∧ t { nx := fun _ H' => Q .non H', rt := Q } (L2.start N vs) H) : FnQ P w K mg base (k + 1) f fd ps sp := by
  obtain ⟨oc, od, kV, doc, pm, an, cdv, ct, osl, rfl, lk, hcd⟩ := F.ex
  exact fn_ofQ lk hcd S len fun A outer s H vs Q hr hsp => hbody cdv A outer s H vs Q hr hsp
section
variable {X : Cx} {k : Nat} {f : Addr} {fd : FuncData} {ps : List Str} {sp : Sp} {x : Str} {p pos : Pos} {e : Expr} {es : List Expr} {t : TA}
def tCallQ (sp : Sp) (t : TA) : TE := fun σ H Q => t σ H fun vs H1 => sp vs H1 Q E0
theorem pe_callQ (F : FnQ X.prog X.w X.K X.mg X.base k f fd ps sp) (hr : RoomH k X.A) (hg : Gl X x) (hm : X.mg x = some (.ref f)) (hk : PySem.W.keepIn X.K (.ref f) = true) (hb : Binds X.K fd ps [])
    (ha : PA X (e :: es) t) (hdb : (x == ("__debug__" : Str)) = false := by decide) (he : starEach (e :: es) X.env = (false, eval e X.env) :: starEach es X.env := by rfl) (hpl : (backTo pos (starEach es X.env)).any (·.1) = false := by rfl) :
    PE X (.Call (.Name x p) (e :: es) [] pos) (tCallQ sp t) := by
  refine ⟨fun pins s σ H Q I h => ?_⟩
  refine wpAny_Call_Name_kw (ld_glob I hg hm ?_ hdb)
  refine PySem.W.callWith_K (h₀ := X.base) I.ok.mod.kin hk (thn (ha.run pos pins s σ H _ I h) fun us s1 ⟨vs, H1, I1, r, q⟩ => ⟨I1.kIn, ?_⟩) he hpl
  have hl : us.length = ps.length := by rw [← r.length]; exact F.len _ _ _ _ q
  have b := hb s1 us I1.kIn (by rw [List.append_nil]; exact hl)
  rw [List.append_nil] at b
  refine wpAny_call (codeAny_mono (F.run X.A X.stack s1 H1 ⟨us, []⟩ us vs Q hr I1.env0 b r q) fun r s' hq => ?_)
  cases r with
  | error e => exact (show False from hq).elim
  | ok fl =>
    cases fl with
    | ret u => exact I1.after hq
    | next => exact False.elim hq
    | brk => exact False.elim hq
    | cont => exact False.elim hq
end
end EP
namespace EP
open PySem L2 PySem.Spec PyProof.Rows
open PySem.W (ksFn ksEnv)
open L2H (RoomH roomH_of)
/-- an own exception class as the top has made it: its name, its __init__'s long name, its attribute, its text -/
structure ExT (P : Program) (K : PySem.W.Frag) (mg : Str → Option Value) (x qual fld : Str) (st : Stmt) where
  C : Addr
  fa : Addr
  cc : Addr
  cda : Addr
  fd : FuncData
  mgX : mg x = some (.ref C)
  sup : SupC P K mg C cc cda
  lk : ∃ oc od kV doc pm an ct osl, fd = ksFn "__init__" qual (defArgs st) (defBody st) (defScope st) .none kV doc pm an (.ref cda) ct cc ∧ K.lookup fa = some ⟨oc, od, .func fd, osl⟩
  cod : PySem.W.codeIn K (.ref cda) qual = true
  iC : PySem.W.findIn K (.ref C) "__init__" = some (some (.ref fa))
  tI : PySem.W.typeIn K (.ref fa) = some (.type "function")
  xf : XfC K C
  xn : PySem.W.findIn K (.ref C) fld = some none
  ec : ExcC K C
/-- a raise's exception, once its argument is there -/
theorem mkO_intro {C : Addr} {f : Str} {ok : V → Hp → Prop} {v : V} {H1 : Hp} {Q : XK} (hv : ok v H1) (q : ∀ d, H1 d = none → Q (.ref C) (some d) (upd H1 d (.xd [(f, v)]))) :
    [v].length ≤ 1000 ∧ ∀ a, H1 a = none → spExc C f ok (.ref a :: ([v] ++ [])) (upd H1 a (exo a C none)) (fun v H2 => v = .non ∧ ∃ (d : Addr) (fs : List (Str × V)), H2 a = some (exo a C (some d)) ∧ H2 d = some (exd d fs) ∧ H1 d = none ∧ Q (.ref C) (some d) (upd (L2.del H2 a) d (.xd fs))) (fun _ _ _ => False) := by
  have h : tMkS C f ok (fun _ H Q => Q [v] H) [] H1 Q := ⟨v, rfl, hv, q⟩
  have z := mkS_of (σ := []) (H := H1) (ta := fun _ H Q => Q [v] H) (fun _ _ _ _ i z => i _ _ z) h
  exact z
/-- isinstance(e, ..) in the suite, e's class and dict told by the reading -/
def rIsG (K : PySem.W.Frag) (a : Addr) (cls : Value) (d : Option Addr) : List V → Hp → VK → Prop := fun xs H Q => ∃ (D dd : Addr) (fs : List (Str × V)) (c : V) (cv : Value) (b : Bool),
  cls = .ref D ∧ d = some dd ∧ H dd = some (.xd fs) ∧ ExcC K D ∧ xs = [.ref a, c] ∧ (∀ u, RelV c u → u = cv) ∧ PySem.W.kitOne K (.ref D) cv = some b ∧ Q (.bl b) H
theorem call_isG {X : Cx} {a : Addr} {oe : Obj} {cls : Value} {d : Option Addr} {pn : List (Addr × Obj)} (hz : Zc cls d oe) (hf : ∃ vs, oe.data = .fields vs) : CallR (X.suite a ((a, oe) :: pn)) (.builtin "isinstance") (rIsG X.K a cls d) := by
  intro pins s σ H xs us Q I r h
  obtain ⟨D, dd, fs, c, cv, b, rfl, rfl, hd, ec, rfl, hcv, e, q⟩ := h
  exact call_isD ec hz hf pins s σ H _ us Q I r ⟨⟨fs, hd⟩, c, cv, b, rfl, hcv, e, q⟩
theorem relV_ref {C : Addr} (u : Value) (h : RelV (.ref C) u) : u = .ref C := h
/-- an attribute's text in an f-string, and the bound that it wants -/
def IntS (v : V) (_ : Hp) : Prop := ∃ i : Int, v = .int i ∧ i.natAbs.log2 < 1900
theorem intS_len {i : Int} (h : i.natAbs.log2 < 1900) : (Str.ofString (toString i)).length ≤ 1901 := by
  have e := int_text_length_le (k := 1900) (by decide) h
  rw [PySem.ofString_length]
  exact e
theorem int_small {i : Int} (h : i.natAbs < 2 ^ 200) : i.natAbs.log2 < 1900 := Nat.lt_of_lt_of_le (PySem.Flt.log2_lt_of (by decide) h) (by decide)
/-- what a callee may let out is let out -/
theorem pass_up {X : Cx} {E : XK} {E₁ : Value → Shared → Prop} (hs : X.stack = X.env :: X.outer := by rfl) (hf : X.env.frame = some X.env.locals := by rfl) (hex : X.ex = [] := by rfl)
    (hx : X.xe = fun e s' => wpAny (model X.prog X.w) X.A (leaving X.env e) (fun _ s'' => L2.CX X.prog X.w X.outer X.H_0 X.s_0 E e s'') E₁ s' := by rfl) : Passes (L2.CX X.prog X.w) X E :=
  passes_call (takes_of (E := E) hs hf hex hx) fun _ _ _ _ h => h
end EP
/-! exceptions whose context is None, through defs that raise; loops in defs that an except suite calls -/
namespace EP
open PySem L2 PySem.Spec PyProof.Rows
open L2H (RoomH roomH_of HotC Hot1)
theorem mk_endN {X : Cx} {pins : List (Addr × Obj)} {σ : L2.St} {H1 H2 : Hp} {Q : XK} {hp hp2 h2 : Heap} {g1 g2 : Array GenState} {d1 d2 : Drawn} {t1 t2 : Nat} {os1 os2 : OsState} {a C d : Addr} {fs : List (Str × V)} (T : Raises X (.ref C)) (I1 : Inv X pins σ H1 ⟨hp, g1, d1, t1, os1⟩)
    (ha : hp.objs.size ≤ a) (k : ∀ b o, hp.get? b = some o → hp2.get? b = some o) (un : Un (frs X.stack) [] (upd H1 a (exo a C none)) H2 hp2 h2) (hok : HOk X.prog X.w H2 h2) (ho : os2 = os1) (hb : AllBare g2)
    (ea : H2 a = some (exo a C (some d))) (ed : H2 d = some (exd d fs)) (hd1 : H1 d = none) (q : Q (.ref C) (some d) (upd (L2.del H2 a) d (.xd fs))) : L2N.MkP X pins σ Q (.ref a) ⟨h2, g2, d2, t2, os2⟩ := by
  obtain ⟨t0, G, J, kG, ge, hoe, na⟩ := mk_end0 (d2 := d2) (t2 := t2) I1 ha k un hok ho hb ea ed hd1
  exact ⟨a, _, _, ⟨G, g2, d2, t2, os2⟩, _, .ref C, some d, rfl, J, kG, ge, hoe, ⟨rfl, rfl, fun vs e => by cases e; rfl⟩, rfl, rfl, na, rfl, hb, T, q⟩
theorem pmk_oexN {X : Cx} {CX : CXT} {x : Str} {e : Expr} {es : List Expr} {ta : TA} {p pos : Pos} {C fI : Addr} {k : Nat} {fd : FuncData} {ps : List Str} {sp : Sp} {ds : List Value} {dvs : List V} (T : OexC X.K C) (iC : PySem.W.findIn X.K (.ref C) "__init__" = some (some (.ref fI))) (tI : PySem.W.typeIn X.K (.ref fI) = some (.type "function"))
    (F1 : FnOk X.prog X.w X.K X.mg X.base CX k fI fd ps sp) (hr : Room (k + 1) X.A) (hb : Binds X.K fd ps ds) (hd : Vals dvs ds) (hx : Passes CX X (fun _ _ _ => False)) (hg : Gl X x) (hm : X.mg x = some (.ref C)) (ha : PA X (e :: es) ta)
    (hdb : (x == ("__debug__" : Str)) = false := by decide) (he : starEach (e :: es) X.env = (false, eval e X.env) :: starEach es X.env := by rfl) (hpl : (backTo pos (starEach es X.env)).any (·.1) = false := by rfl) :
    L2N.PMk X (.Call (.Name x p) (e :: es) [] pos) (tMkO C sp dvs ta) := by
  intro pins s σ H Q I h
  obtain ⟨nm, q, N, bs, bm, sn, sub, ab, col, dd, k0, k1, k2, k3, k5, hC, hbm⟩ := T.cls
  refine wpAny_Call_Name_kw (ld_glob I hg hm ?_ hdb)
  refine PySem.W.callWith_K (h₀ := X.base) I.ok.mod.kin T.kC (thn (ha.run pos pins s σ H _ I h) fun us s1 ⟨vs, H1, I1, r1, hz, q1⟩ => ⟨I1.kIn, ?_⟩) he hpl
  show wpAny _ _ (call (.ref C) us) _ _ _
  obtain ⟨hp, g, dr, tk, os⟩ := s1
  have hsz : hp.objs.size ≤ hp.objs.size + 1 := Nat.le_succ _
  have hn : H1 (hp.objs.size + 1) = none := I1.hok.fresh hsz
  have hq := q1 (hp.objs.size + 1) hn
  have kk : ∀ b o, hp.get? b = some o → ((hp.push (PySem.W.kdv_tup us)).push (PySem.HandSPX.excO C hp.objs.size)).get? b = some o := fun b o e => Heap.get?_push_of_some _ (Heap.get?_push_of_some _ e)
  have hget : ((hp.push (PySem.W.kdv_tup us)).push (PySem.HandSPX.excO C hp.objs.size)).get? (hp.objs.size + 1) = some (PySem.HandSPX.excO C hp.objs.size) := by heap_get
  have I2 : Inv X pins σ (upd H1 (hp.objs.size + 1) (exo (hp.objs.size + 1) C none)) ⟨(hp.push (PySem.W.kdv_tup us)).push (PySem.HandSPX.excO C hp.objs.size), g, dr, tk, os⟩ :=
    I1.laid (t' := tk) (a := hp.objs.size + 1) (o := exo (hp.objs.size + 1) C none) (h' := (hp.push (PySem.W.kdv_tup us)).push (PySem.HandSPX.excO C hp.objs.size)) kk hsz (exo_ok hget)
  have r2 : Vals (V.ref (hp.objs.size + 1) :: (vs ++ dvs)) (Value.ref (hp.objs.size + 1) :: (us ++ ds)) := .cons rfl (r1.append hd)
  have hl : (Value.ref (hp.objs.size + 1) :: us ++ ds).length = ps.length := by
    have e := r2.length
    rw [F1.len _ _ _ _ hq] at e
    exact e.symm
  have hus : us.length ≤ sizeLine := by
    rw [← Paired.length r1, sizeLine_eq]
    omega
  refine wpAny_call (PySem.HandSPX.call_own F.excBase_ValueError (fun Y => PySem.HandSPX.refsVE_contains Y bm hbm) (I1.kIn _ _ hC) (PySem.W.looks_findIn I1.kIn iC) (fun self => PySem.W.bind_fn I1.kIn self tI) hus
    (codeAny_mono (F1.run _ X.stack _ _ ⟨Value.ref (hp.objs.size + 1) :: us, []⟩ (Value.ref (hp.objs.size + 1) :: (us ++ ds)) _ _ (fun _ _ _ => False) (hr.make C us []) (I2.env0.make C us []) (hb _ (Value.ref (hp.objs.size + 1) :: us) I2.kIn hl) r2 hq) fun r s' hq' => ?_))
  cases r with
  | error er => exact hx pins σ _ _ er s' I2 hq'
  | ok fl =>
    cases fl with
    | ret u =>
      obtain ⟨v, H2, os2, bare2, un2, hok2, rv, ev, d, fs, ea, ed, hd1, q2⟩ := hq'
      subst ev
      obtain ⟨h2, g2, d2, t2, os'⟩ := s'
      exact ⟨rv, mk_endN (raises_own T.exC T.tyC) I1 hsz kk un2 hok2 os2 bare2 ea ed hd1 q2⟩
    | next => exact False.elim hq'
    | brk => exact False.elim hq'
    | cont => exact False.elim hq'
theorem takes0N {X : Cx} : L2N.Takes X (fun _ _ _ _ => False) := fun _ _ x => by
  obtain ⟨_, _, _, _, _, _, _, _, _, _, _, _, _, _, _, _, z⟩ := x
  exact z.elim
theorem pass_upN {X : Cx} {E : XK} {E₁ : Value → Shared → Prop} (hs : X.stack = X.env :: X.outer := by rfl) (hf : X.env.frame = some X.env.locals := by rfl) (hex : X.ex = [] := by rfl)
    (hx : X.xe = fun e s' => wpAny (model X.prog X.w) X.A (leaving X.env e) (fun _ s'' => L2N.CX X.prog X.w X.outer X.H_0 X.s_0 E e s'') E₁ s' := by rfl) : Passes (L2N.CX X.prog X.w) X E :=
  L2N.passes_call (L2N.takes_of (E := E) hs hf hex hx) fun _ _ _ _ h => h
theorem pass_noN {X : Cx} : Passes (L2N.CX X.prog X.w) X E0 := fun _ _ _ _ _ _ _ h => by
  obtain ⟨_, _, _, _, _, _, _, _, _, _, _, _, z⟩ := h
  exact z.elim
section
variable {P : Program} {w : World} {K : PySem.W.Frag} {mg : Str → Option Value} {base : Heap}
theorem Fun.okXN {x qual : Str} {st : Stmt} {f : Addr} {fd : FuncData} {N ps : List Str} {k : Nat} {sp : Sp} (F : L2.Fun K x qual st f fd) (S : FnScope N ps (defScope st)) (len : ∀ vs H Q E, sp vs H Q E → vs.length = ps.length)
    (hbody : ∀ (cdv : Value) (A : Around) (outer : List Env) (s : Shared) (H : Hp) (vs : List V) (Q : VK) (E : XK), Room k (A.deeper (envOfC qual (defScope st) s.heap.objs.size f cdv)) → sp vs H Q E →
      ∃ t, PSs (cxOf (L2N.CX P w) P w K mg base N qual (defScope st) f cdv A outer s H E) (defBody st) t ∧ t { nx := fun _ H' => Q .non H', rt := Q } (L2.start N vs) H) : FnOk P w K mg base (L2N.CX P w) (k + 1) f fd ps sp := by
  obtain ⟨oc, od, kV, doc, pm, an, cdv, ct, osl, rfl, lk, hcd⟩ := F.ex
  exact fn_of lk hcd S len fun A outer s H vs Q E hr hsp => hbody cdv A outer s H vs Q E hr hsp
/-- a def that an except suite calls, with a loop -/
theorem Fun.okH {x qual : Str} {st : Stmt} {f : Addr} {fd : FuncData} {N ps : List Str} {k : Nat} {sp : Sp} (F : L2.Fun K x qual st f fd) (S : FnScope N ps (defScope st)) (len : ∀ vs H Q E, sp vs H Q E → vs.length = ps.length)
    (hbody : ∀ (cdv : Value) (A : Around) (outer : List Env) (s : Shared) (H : Hp) (vs : List V) (Q : VK) (E : XK) (p : Addr × Obj), Hot1 A p → RoomH k (A.deeper (envOfC qual (defScope st) s.heap.objs.size f cdv)) → sp vs H Q E →
      ∃ t, PSs (L2H.cxH L2.CX0 P w K mg base N qual (defScope st) f cdv A outer s H E p) (defBody st) t ∧ t { nx := fun _ H' => Q .non H', rt := Q } (L2.start N vs) H) : L2H.FnH P w K mg base L2.CX0 (k + 1) f fd ps sp := by
  obtain ⟨oc, od, kV, doc, pm, an, cdv, ct, osl, rfl, lk, hcd⟩ := F.ex
  exact L2H.fn_ofH lk hcd S len fun A outer s H vs Q E p hot hr hsp => hbody cdv A outer s H vs Q E p hot hr hsp
end
section
variable {X : Cx} {k : Nat} {f : Addr} {fd : FuncData} {ps : List Str} {sp : Sp} {x : Str} {p pos : Pos} {e : Expr} {es : List Expr} {t : TA}
theorem pe_callHQ (F : L2H.FnH X.prog X.w X.K X.mg X.base L2.CX0 k f fd ps sp) (hr : RoomH k X.A) (hc : HotC X) (hg : Gl X x) (hm : X.mg x = some (.ref f)) (hk : PySem.W.keepIn X.K (.ref f) = true) (hb : Binds X.K fd ps [])
    (ha : PA X (e :: es) t) (hdb : (x == ("__debug__" : Str)) = false := by decide) (he : starEach (e :: es) X.env = (false, eval e X.env) :: starEach es X.env := by rfl) (hpl : (backTo pos (starEach es X.env)).any (·.1) = false := by rfl) :
    PE X (.Call (.Name x p) (e :: es) [] pos) (tCallS sp (fun _ => E0) t) :=
  L2H.pe_callH F hr hc hg hm hk hb (fun σ _ _ _ _ _ _ h => (show False from h).elim) ha hdb he hpl
end
theorem hot_suite {X : Cx} {a : Addr} {oe : Obj} {cls : Value} {d : Option Addr} {pn : List (Addr × Obj)} (hz : L2N.Zn cls d oe) (hf : ∃ vs, oe.data = .fields vs) : HotC (X.suite a ((a, oe) :: pn)) := by
  obtain ⟨vs, hv⟩ := hf
  exact ⟨(a, oe), ⟨rfl, vs, hv, hz.2.2 vs hv⟩, List.mem_cons_self⟩
theorem hot_def {CX : CXT} {P : Program} {w : World} {K : PySem.W.Frag} {mg : Str → Option Value} {base : Heap} {N : List Str} {qual : Str} {scope : Scope} {f : Addr} {cd : Value} {A : Around} {outer : List Env} {s : Shared} {H : Hp} {E : XK} {p : Addr × Obj} (h : Hot1 A p) :
    HotC (L2H.cxH CX P w K mg base N qual scope f cd A outer s H E p) := ⟨p, ⟨h.1, h.2⟩, List.mem_cons_self⟩
end EP
namespace EP
open PySem L2
/-- an own base class of exceptions, caught -/
structure CatchB (K : PySem.W.Frag) (C : Addr) : Prop where
  exC : PySem.W.subIn K (.ref C) (.type "BaseException") = some true
  hdC : PySem.W.hasDictIn K C = true
  tyC : PySem.W.typeIn K (.ref C) = some (.type "type")
/-- isinstance of an object of an own class -/
structure InsC (K : PySem.W.Frag) (C : Addr) : Prop where
  cl : Cls K C
  ha : PySem.W.findIn K (.ref C) "__class__" = some (some (.builtin "object.__class__"))
  hn : PySem.W.specialIn K (.builtin "object.__class__") "__get__" = some (some (.builtin "getset_descriptor.__get__"))
  ht : PySem.W.takesIn K (.builtin "object.__class__") = some true
  hm : PySem.W.mroIn K C (.type "object") = some true
  hk : PySem.W.kitOne K (.ref C) (.ref C) = some true
theorem InsC.ty {K : PySem.W.Frag} {C a dx : Addr} {H : Hp} {fs : List (Str × V)} (I : InsC K C) (e : H a = some (.ins C dx fs)) : TyX K H (.ref a) (.ref C) := .base (.ins e I.cl I.ha I.hn I.ht I.hm)
end EP
namespace EP
open PySem L2
section
variable {X : Cx} {K : PySem.W.Frag}
theorem op_eqDK (hu : X.A.units + 64 < cLine) (h : X.K = K := by rfl) : OpR X (compareOp .Eq) (rEqD K) := h ▸ op_eqD hu
theorem op_neDK (hu : X.A.units + 64 < cLine) (h : X.K = K := by rfl) : OpR X (compareOp .NotEq) (rNeD K) := h ▸ op_neD hu
end
theorem hu64_mark {A : Around} {k : Nat} {x : Option Value} (hr : Room k A) : (A.mark x).units + 64 < cLine := by have := hr.un; show A.units + 64 < _; omega
end EP
namespace EP
open PySem L2
def rTupOf (K : PySem.W.Frag) : List V → Hp → VK → Prop := fun xs H Q => ∃ p ys, xs = [.ref p] ∧ ((SqL K H p ys ∧ ∀ l, H l = none → Q (.ref l) (upd H l (.tup ys))) ∨ (SqT K H p ys ∧ Q (.ref p) H))
theorem call_tuple_ofK {X : Cx} {K : PySem.W.Frag} (h : X.K = K := by rfl) : CallR X (.type "tuple") (rTupOf K) := h ▸ call_tuple_of
def rLstOf (K : PySem.W.Frag) : List V → Hp → VK → Prop := fun xs H Q => ∃ p ys, xs = [.ref p] ∧ (SqL K H p ys ∨ SqT K H p ys) ∧ ∀ l, H l = none → Q (.ref l) (upd H l (.lst ys))
theorem call_list_ofK {X : Cx} {K : PySem.W.Frag} (h : X.K = K := by rfl) : CallR X (.type "list") (rLstOf K) := h ▸ call_list_of
end EP
namespace PySem
open Sem (wp)
theorem ep_enumerate_newT (l : Addr) (items : Array Value) :
    Meets (Builtin.«enumerate.__new__» ⟨[.type "enumerate", .ref l], []⟩) (fun _ R s => s.heap.IsTuple l items ∧
      R (.ok (.ret (.ref (s.heap.push { cls := .type "tuple_iterator", data := .fields #[.ref l, .int 0 0] }).objs.size)))
        { s with heap := (s.heap.push { cls := .type "tuple_iterator", data := .fields #[.ref l, .int 0 0] }).push { cls := .type "enumerate", data := .fields #[.none, .bool false, .ref s.heap.objs.size, rawInt 0, .none, .none] } }) :=
  .of_wp fun prog w A R s h => by
    obtain ⟨hp, g, d, tk, os⟩ := s; obtain ⟨hL, h⟩ := h
    have hsub := sub_enumerate
    wp_walk using wpAny_pyIter_tuple hL
    refine wpAny_stack_any fun st => wpAny_pure ?_
    split
    · rename_i c _ _ _ _ _
      cases (c == Value.type "enumerate")
      · wp_walk using wpAny_pyIter_tuple hL
        exact ⟨_, rfl, h⟩
      · wp_walk using wpAny_pyIter_tuple hL
        exact ⟨_, rfl, h⟩
    · wp_walk using wpAny_pyIter_tuple hL
      exact ⟨_, rfl, h⟩
theorem ep_call_enumT {prog : Program} {w : World} {A : Around} {E : Value → Shared → Prop} {s : Shared} {l : Addr} {items : Array Value} {Q : Value → Shared → Prop} (hL : s.heap.IsTuple l items)
    (h : ∀ h', IsEnum h' (s.heap.objs.size + 1) s.heap.objs.size 0 .none → h'.IsTupleIter s.heap.objs.size l 0 → h'.objs.size = s.heap.objs.size + 2 →
      (∀ b o, s.heap.get? b = some o → h'.get? b = some o) → Q (.ref (s.heap.objs.size + 1)) { s with heap := h' }) :
    wpAny (model prog w) A (call (.type "enumerate") [.ref l]) Q E s := by
  refine callType_new F.called_enumerate (by decide) (F.typeCall_enumerate_1 _) (F.newCall_enumerate_1 _) (fun obj => F.args_object_init_2 obj _) F.entry_enumerate_new
    (ep_enumerate_newT l items) ⟨hL, ?_⟩
  have hz : (s.heap.push { cls := .type "tuple_iterator", data := .fields #[.ref l, .int 0 0] }).objs.size = s.heap.objs.size + 1 := Heap.size_push ..
  show _ ∧ _
  rw [hz]
  have he : IsEnum ((s.heap.push { cls := .type "tuple_iterator", data := .fields #[.ref l, .int 0 0] }).push
      { cls := .type "enumerate", data := .fields #[.none, .bool false, .ref s.heap.objs.size, rawInt 0, .none, .none] }) (s.heap.objs.size + 1) s.heap.objs.size 0 .none := by
    have := Heap.get?_push_size (s.heap.push { cls := .type "tuple_iterator", data := .fields #[.ref l, .int 0 0] })
      (o := { cls := .type "enumerate", data := .fields #[.none, .bool false, .ref s.heap.objs.size, rawInt 0, .none, .none] }) rfl
    rw [hz] at this; exact this
  refine ⟨⟨_, he, rfl⟩, h _ he ⟨_, Heap.get?_push_of_some _ (Heap.get?_push_size _ rfl), rfl, rfl⟩ (by rw [Heap.size_push, hz]) fun b o x => Heap.get?_push_of_some _ (Heap.get?_push_of_some _ x)⟩
end PySem

namespace EP
open PySem L2 PySem.Spec PyProof.Rows
/-! ### enumerate of a tuple -/
def IteT (K : PySem.W.Frag) (a : Addr) : It :=
  ⟨fun i H => ∃ (xs : List V) (x : V), SqT K H a xs ∧ xs[i]? = some x, fun i H v H' => ∃ T x, v = .ref T ∧ H T = none ∧ H' = upd H T (.tup [.int (i : Nat), x]) ∧ ∀ xs, SqT K H a xs → xs[i]? = some x, fun i H => ∃ xs : List V, SqT K H a xs ∧ xs.length = i⟩
theorem turn_enumT {P : Program} {w : World} {K : PySem.W.Frag} {elts : List Expr} {kk : Nat} {tpos : Pos} (a e it : Addr) (hae : a ≠ e) (hai : a ≠ it) :
    Turn P w K (.Tuple elts kk tpos) (IteT K a) [e, it] e (fun i h => (∃ old, IsEnum h e it ((i : Nat) : Int) old) ∧ h.IsTupleIter it a i ∧ e ≠ it) where
  mem := by simp
  obj := fun i h st b hb => by
    obtain ⟨⟨old, he⟩, ⟨o, ho, hc, hd⟩, _⟩ := st
    have e' : b = e ∨ b = it := by simpa using hb
    rcases e' with z | z
    · rw [z]; exact ⟨_, he, fun v q => nomatch q⟩
    · rw [z]; exact ⟨o, ho, fun v q => by rw [hd] at q; cases q⟩
  keep := fun i h h' st k => let ⟨⟨old, he⟩, hi, hne⟩ := st; ⟨⟨old, k e (by simp) _ he⟩, hi.at fun o q => k it (by simp) o q, hne⟩
  item := by
    intro X hP hw hK hc i pins s σ H E I hf st hg
    subst hP hw hK
    obtain ⟨⟨old, he⟩, hit, hne⟩ := st
    obtain ⟨xs, x, hq, hx⟩ := hg
    obtain ⟨its, rv, p, hz⟩ := I.tuple hq
    obtain ⟨u, hu, ru⟩ := rv.get hx
    have hel : e < s.heap.objs.size := Heap.lt_size he
    have hil : it < s.heap.objs.size := by obtain ⟨_, q, _⟩ := hit; exact Heap.lt_size q
    have D := Draws.tuple (prog := X.prog) (w := X.w) (A := X.A.in1) (show X.A.in1.handled = none from I.ok.hd hc) it a hai its.toArray
    have hil2 : i < its.toArray.size := by
      have := (List.getElem?_eq_some_iff.mp hu).1
      simpa using this
    have hei : e ∉ [it, a] := by
      intro z
      rcases List.mem_cons.mp z with z | z
      · exact hne z
      · exact hae (List.mem_singleton.mp z).symm
    refine wpAny_pyNext_enum_itemD D he ⟨hit, p⟩ hil2 hne hei fun u' h' tk hu' ho hst' hT hsz hk => ?_
    obtain ⟨hit', _⟩ := hst'
    obtain rfl : u' = u := by
      have : its[i]? = some u' := by simpa using hu'
      rw [hu] at this
      exact (Option.some.inj this).symm
    refine ⟨_, rfl, wpAny_letOwnedTupleGo_enum (s := { s with heap := h', toks := tk + 1 }) ho fun h'' he' sb => ?_⟩
    have hT2 : h''.get? s.heap.objs.size = some { cls := .type "tuple", data := .seq #[.int i tk, u'] } := (sb.2 _ (Nat.ne_of_gt hel)).trans hT
    have new : ObjOk X.prog X.w (upd H s.heap.objs.size (.tup [.int (i : Nat), x])) h'' s.heap.objs.size (.tup [.int (i : Nat), x]) :=
      ⟨by show 2 ≤ sizeLine; decide, [.int i tk, u'], .cons ⟨_, rfl⟩ (.cons ru .nil), ⟨_, hT2, rfl, _, rfl⟩⟩
    have I1 : Inv X pins σ (upd H s.heap.objs.size (.tup [.int (i : Nat), x])) { s with heap := h'', toks := tk + 1 } :=
      I.turnedNew (ch := [e, it]) (fun b ob hb q => (sb.2 b (fun z => hb (by simp [z]))).trans (hk b ob (fun z => hb (by simp [z])) (fun z => hb (by simp [z])) q)) hf (Nat.le_refl _) new
    refine ⟨.ref s.heap.objs.size, _, I1, rfl, ⟨_, x, rfl, I.hok.fresh (Nat.le_refl _), rfl, fun ys hy => by rw [I.tuple_inj hy hq]; exact hx⟩, ⟨⟨u', ?_⟩, hit'.at fun o q => (sb.2 it (Ne.symm hne)).trans q, hne⟩, fun b hb => ?_⟩
    · have e1 : ((i + 1 : Nat) : Int) = (i : Int) + 1 := by omega
      rw [e1]; exact he'
    · have hb' : b < s.heap.objs.size := by
        have e' : b = e ∨ b = it := by simpa using hb
        rcases e' with z | z
        · rw [z]; exact hel
        · rw [z]; exact hil
      rw [upd_ne (Nat.ne_of_lt hb')]
      exact (hf b hb).1
  done := by
    intro X hP hw hK hc i pins s σ H E I hf st hg
    subst hP hw hK
    obtain ⟨⟨old, he⟩, hit, hne⟩ := st
    obtain ⟨xs, hq, hx⟩ := hg
    obtain ⟨its, rv, p, hz⟩ := I.tuple hq
    obtain ⟨f0, f1, f2, f3, f4, f5⟩ := hf it (by simp)
    have hl := rv.length
    have D := Draws.tuple (prog := X.prog) (w := X.w) (A := X.A.in1) (show X.A.in1.handled = none from I.ok.hd hc) it a hai its.toArray
    have en : i = its.toArray.size := by simp; omega
    rw [en] at hit
    exact wpAny_pyNext_enum_endD D he ⟨hit, p⟩ fun h' eb => ⟨rfl, I.turned (t' := s.toks) (fun b o hb q => eb b o hb q) f0 f1 f3 f4 f5⟩
  self := fun A i s Q E st h => let ⟨⟨_, he⟩, _⟩ := st; wpAny_pyIter_enum he h
def iEnumS (K : PySem.W.Frag) (ta : TA) : TI := fun σ H R => ta σ H fun vs H1 => ∃ a xs, vs = [.ref a] ∧ ((SqL K H1 a xs ∧ R (Ite K a) H1) ∨ (SqT K H1 a xs ∧ R (IteT K a) H1))
theorem pi_enumS {X : Cx} {e : Expr} {ta : TA} {p pos tpos : Pos} {elts : List Expr} {kk : Nat} (hg : Gl X "enumerate") (hm : X.mg "enumerate" = none) (ha : PA X [e] ta) (hs : starEach [e] X.env = [(false, eval e X.env)] := by rfl) :
    PI X (.Tuple elts kk tpos) (.Call (.Name "enumerate" p) [e] [] pos) (iEnumS X.K ta) := by
  refine ⟨fun pins s σ H R I h => ?_⟩
  refine Call_ (ld_blt I hg hm boot_enumerate (PyProof.Rows.callWith_type1 (thn (ha.run pos pins s σ H _ I h) fun us s1 ⟨vs, H1, I1, r1, q1⟩ => ?_) hs rfl))
  obtain ⟨a, xs, ex, q⟩ := q1
  subst ex
  cases r1 with
  | cons r rr =>
    cases rr
    cases r
    have fin : ∀ b ∈ [s1.heap.objs.size + 1, s1.heap.objs.size], s1.heap.objs.size ≤ b := fun b hb => by
      have e' : b = s1.heap.objs.size + 1 ∨ b = s1.heap.objs.size := by simpa using hb
      rcases e' with z | z
      · rw [z]; exact Nat.le_add_right _ _
      · rw [z]; exact Nat.le_refl _
    rcases q with ⟨hq, q⟩ | ⟨hq, q⟩
    · obtain ⟨its, rv, p', hz⟩ := I1.list hq
      refine call_enumerate_list p'.isList fun h' he hit hsz hk => wpAny_pyIter_enum he ?_
      have I2 : Inv X pins σ H1 { s1 with heap := h' } := I1.kept (t' := s1.toks) hk
      refine ⟨s1.heap.objs.size + 1, [s1.heap.objs.size + 1, s1.heap.objs.size], _, _, H1, rfl, I2, turn_enum a (s1.heap.objs.size + 1) s1.heap.objs.size, ⟨⟨.none, he⟩, hit, Nat.succ_ne_self _⟩, fun b hb => ?_, q⟩
      exact I1.fpOk (fin b hb) (I1.hok.fresh (fin b hb))
    · obtain ⟨its, rv, p', hz⟩ := I1.tuple hq
      have hal : a < s1.heap.objs.size := by obtain ⟨_, z, _⟩ := p'; exact Heap.lt_size z
      refine ep_call_enumT (show s1.heap.IsTuple a its.toArray from p') fun h' he hit hsz hk => wpAny_pyIter_enum he ?_
      have I2 : Inv X pins σ H1 { s1 with heap := h' } := I1.kept (t' := s1.toks) hk
      refine ⟨s1.heap.objs.size + 1, [s1.heap.objs.size + 1, s1.heap.objs.size], _, _, H1, rfl, I2, turn_enumT a (s1.heap.objs.size + 1) s1.heap.objs.size (Nat.ne_of_lt (Nat.lt_succ_of_lt hal)) (Nat.ne_of_lt hal), ⟨⟨.none, he⟩, hit, Nat.succ_ne_self _⟩, fun b hb => ?_, q⟩
      exact I1.fpOk (fin b hb) (I1.hok.fresh (fin b hb))
end EP

namespace EP
open PySem L2 PySem.Spec PyProof.Rows
section
variable {X : Cx} {CX : CXT} {k : Nat} {f C : Addr} {fd : FuncData} {ps : List Str} {sp : Sp} {E : L2.St → XK} {x : Str} {p pos : Pos} {e : Expr} {es : List Expr} {t : TA}
/-- C(e, ..), what it raises wished for at the slots -/
def tMakeT (C : Addr) (sp : Sp) (E : L2.St → XK) (t : TA) : TE := fun σ H Q => t σ H fun vs H1 => ∀ x dx, H1 x = none → H1 dx = none → dx ≠ x →
  sp (.ref x :: vs) (upd (upd H1 dx (.own x)) x (.ins C dx [])) (fun v H2 => v = .non ∧ Q (.ref x) H2) (E σ)
theorem run_makeT {pins : List (Addr × Obj)} {σ : L2.St} {H : Hp} {s : Shared} {Q : VK} {us : List Value} {vs : List V} (M : Mk X.K C f) (F : FnOk X.prog X.w X.K X.mg X.base CX k f fd ps sp) (hr : Room (k + 1) X.A) (hb : Binds X.K fd ps [])
    (hx : PassesAt CX X σ (E σ)) (I : Inv X pins σ H s) (r : Vals vs us)
    (h : ∀ x dx, H x = none → H dx = none → dx ≠ x → sp (.ref x :: vs) (upd (upd H dx (.own x)) x (.ins C dx [])) (fun v H2 => v = .non ∧ Q (.ref x) H2) (E σ)) :
    wpAny (model X.prog X.w) X.A (call (.ref C) us) (EP X pins σ Q) X.xe s := by
  have hq := h (s.heap.objs.size + 1) s.heap.objs.size (I.hok.fresh (Nat.le_succ _)) (I.hok.fresh (Nat.le_refl _)) (Nat.ne_of_lt (Nat.lt_succ_self _))
  have I2 := Inv.made (C := C) I
  have r2 : Vals (V.ref (s.heap.objs.size + 1) :: vs) (Value.ref (s.heap.objs.size + 1) :: us) := .cons rfl r
  have hl : (Value.ref (s.heap.objs.size + 1) :: us ++ []).length = ps.length := by
    have e := r2.length
    rw [F.len _ _ _ _ hq] at e
    rw [List.append_nil]
    exact e.symm
  have b := hb _ (Value.ref (s.heap.objs.size + 1) :: us) I2.kIn hl
  rw [List.append_nil] at b
  refine wpAny_call (make_map (f := f) I.kIn M.makes M.init (beq_iff_eq.mp M.fn) (codeAny_mono (F.run _ X.stack _ _ ⟨Value.ref (s.heap.objs.size + 1) :: us, []⟩ (Value.ref (s.heap.objs.size + 1) :: us) _ _ (E σ) (hr.make C us [])
    (I2.env0.make C us []) b r2 hq) fun r s' hq' => ?_))
  cases r with
  | error e => exact hx pins _ _ e s' I2 hq'
  | ok fl =>
    cases fl with
    | ret u =>
      obtain ⟨v, H', I3, rv, ev, q3⟩ := I2.after hq'
      subst ev
      exact ⟨rv, ⟨V.ref (s.heap.objs.size + 1), H', I3, rfl, q3⟩⟩
    | next => exact False.elim hq'
    | brk => exact False.elim hq'
    | cont => exact False.elim hq'
theorem pe_makeT (M : Mk X.K C f) (F : FnOk X.prog X.w X.K X.mg X.base CX k f fd ps sp) (hr : Room (k + 1) X.A) (hg : Gl X x) (hm : X.mg x = some (.ref C)) (hb : Binds X.K fd ps []) (hx : ∀ σ, PassesAt CX X σ (E σ))
    (ha : PA X (e :: es) t) (hdb : (x == ("__debug__" : Str)) = false := by decide) (he : starEach (e :: es) X.env = (false, eval e X.env) :: starEach es X.env := by rfl) (hpl : (backTo pos (starEach es X.env)).any (·.1) = false := by rfl) :
    PE X (.Call (.Name x p) (e :: es) [] pos) (tMakeT C sp E t) := by
  refine ⟨fun pins s σ H Q I h => ?_⟩
  refine wpAny_Call_Name_kw (ld_glob I hg hm ?_ hdb)
  refine PySem.W.callWith_K (h₀ := X.base) I.ok.mod.kin M.kp (thn (ha.run pos pins s σ H _ I h) fun us s1 ⟨vs, H1, I1, r, q⟩ => ⟨I1.kIn, ?_⟩) he hpl
  exact run_makeT M F hr hb (hx σ) I1 r q
end
end EP
/-! Small trees by their lists of parents: chains, branches, middles. Plain mathematics. -/
namespace Tr
def Ok (ps : List Nat) : Prop := ∀ (i p : Nat), ps[i]? = some p → p ≤ i
def par (ps : List Nat) (p : Nat) : Nat := min (ps.getD (p - 1) 0) (p - 1)
theorem par_lt (ps : List Nat) {p : Nat} (h : 1 ≤ p) : par ps p < p := by unfold par; omega
theorem par_eq {ps : List Nat} (o : Ok ps) {p : Nat} (h : 1 ≤ p) (hp : p ≤ ps.length) : ps[p - 1]? = some (par ps p) := by
  have hl : p - 1 < ps.length := by omega
  have e := List.getElem?_eq_getElem hl
  have q := o _ _ e
  unfold par
  rw [e, List.getD_eq_getElem?_getD, e]
  simp only [Option.getD_some]
  congr 1
  omega
/-- the positions from p up to the root, without it -/
def up (ps : List Nat) : Nat → List Nat
  | 0 => []
  | p + 1 => (p + 1) :: up ps (par ps (p + 1))
termination_by p => p
decreasing_by exact par_lt ps (by omega)
theorem up_zero (ps : List Nat) : up ps 0 = [] := by rw [up]
theorem up_pos (ps : List Nat) {p : Nat} (h : 1 ≤ p) : up ps p = p :: up ps (par ps p) := by
  obtain ⟨q, rfl⟩ : ∃ q, p = q + 1 := ⟨p - 1, by omega⟩
  rw [up]
theorem up_le (ps : List Nat) : ∀ (p : Nat) {w : Nat}, w ∈ up ps p → 1 ≤ w ∧ w ≤ p := by
  intro p
  induction p using Nat.strongRecOn with
  | _ p ih =>
    intro w h
    by_cases hp : 1 ≤ p
    · rw [up_pos ps hp, List.mem_cons] at h
      rcases h with rfl | h
      · omega
      · have l := par_lt ps hp
        have q := ih _ l h
        omega
    · obtain rfl : p = 0 := by omega
      rw [up_zero] at h
      cases h
theorem up_self (ps : List Nat) {p : Nat} (h : 1 ≤ p) : p ∈ up ps p := by rw [up_pos ps h]; exact List.mem_cons_self
theorem up_trans (ps : List Nat) : ∀ (p : Nat) {v w : Nat}, v ∈ up ps p → w ∈ up ps v → w ∈ up ps p := by
  intro p
  induction p using Nat.strongRecOn with
  | _ p ih =>
    intro v w h1 h2
    by_cases hp : 1 ≤ p
    · rw [up_pos ps hp, List.mem_cons] at h1
      rcases h1 with rfl | h1
      · exact h2
      · rw [up_pos ps hp]
        exact List.mem_cons_of_mem _ (ih _ (par_lt ps hp) h1 h2)
    · obtain rfl : p = 0 := by omega
      rw [up_zero] at h1
      cases h1
theorem up_cmp (ps : List Nat) : ∀ (p : Nat) {v w : Nat}, v ∈ up ps p → w ∈ up ps p → w ≤ v → w ∈ up ps v := by
  intro p
  induction p using Nat.strongRecOn with
  | _ p ih =>
    intro v w h1 h2 hl
    by_cases hp : 1 ≤ p
    · have h1' := h1
      rw [up_pos ps hp, List.mem_cons] at h1
      rcases h1 with rfl | h1
      · exact h2
      · have lt := par_lt ps hp
        have lv := up_le ps _ h1
        rw [up_pos ps hp, List.mem_cons] at h2
        rcases h2 with rfl | h2
        · omega
        · exact ih _ lt h1 h2 hl
    · obtain rfl : p = 0 := by omega
      rw [up_zero] at h1
      cases h1
/-- position p has side w -/
def has (ps : List Nat) (p w : Nat) : Bool := decide (w ∈ up ps p)
theorem has_iff {ps : List Nat} {p w : Nat} : has ps p w = true ↔ w ∈ up ps p := by unfold has; exact decide_eq_true_iff
theorem same_of {ps : List Nat} {n p q : Nat} (hp : p ≤ n) (hq : q ≤ n) (h : ∀ k, 1 ≤ k → k ≤ n → has ps p k = has ps q k) : p = q := by
  have one : ∀ {a b : Nat}, a ≤ n → (∀ k, 1 ≤ k → k ≤ n → has ps a k = has ps b k) → a ≤ b := by
    intro a b ha h
    by_cases h1 : 1 ≤ a
    · have e := h a h1 ha
      rw [has_iff.mpr (up_self ps h1)] at e
      exact (up_le ps _ (has_iff.mp e.symm)).2
    · omega
  have a := one hp h
  have b := one hq (fun k h1 h2 => (h k h1 h2).symm)
  omega
/-! ### branches as bits -/
/-- q stands in the branch of b, as far as the walls above j are taken over -/
def inB (ps : List Nat) (j b q : Nat) : Prop := q = b ∨ ∃ c, c ∈ up ps q ∧ par ps c = b ∧ j < c
theorem inB_far {ps : List Nat} {n b q : Nat} (hq : q ≤ n) : inB ps n b q ↔ q = b := by
  constructor
  · rintro (h | ⟨c, h1, _, h3⟩)
    · exact h
    · have := up_le ps _ h1; omega
  · exact Or.inl
/-- a child on the way -/
theorem child (ps : List Nat) : ∀ (q : Nat) {w : Nat}, w ∈ up ps q → q ≠ w → ∃ c, c ∈ up ps q ∧ par ps c = w := by
  intro q
  induction q using Nat.strongRecOn with
  | _ q ih =>
    intro w h hne
    by_cases hq : 1 ≤ q
    · rw [up_pos ps hq, List.mem_cons] at h
      rcases h with h | h
      · exact absurd h.symm hne
      · by_cases e : par ps q = w
        · exact ⟨q, up_self ps hq, e⟩
        · obtain ⟨c, h1, h2⟩ := ih _ (par_lt ps hq) h e
          exact ⟨c, by rw [up_pos ps hq]; exact List.mem_cons_of_mem _ h1, h2⟩
    · obtain rfl : q = 0 := by omega
      rw [up_zero] at h
      cases h
theorem par_mem (ps : List Nat) : ∀ (q : Nat) {c : Nat}, c ∈ up ps q → 1 ≤ par ps c → par ps c ∈ up ps q := by
  intro q c h h1
  have hc := (up_le ps _ h).1
  refine up_trans ps q h ?_
  rw [up_pos ps hc]
  exact List.mem_cons_of_mem _ (up_self ps h1)
theorem inB_self {ps : List Nat} {w q : Nat} (hw : 1 ≤ w) : inB ps w w q ↔ w ∈ up ps q := by
  constructor
  · rintro (rfl | ⟨c, h1, h2, _⟩)
    · exact up_self ps hw
    · rw [← h2]; exact par_mem ps q h1 (by omega)
  · intro h
    by_cases e : q = w
    · exact Or.inl e
    · obtain ⟨c, h1, h2⟩ := child ps q h e
      have hc := (up_le ps _ h1).1
      have := par_lt ps hc
      exact Or.inr ⟨c, h1, h2, by omega⟩
theorem inB_all {ps : List Nat} {w q : Nat} (hw : 1 ≤ w) : inB ps 0 w q ↔ w ∈ up ps q := by
  constructor
  · rintro (rfl | ⟨c, h1, h2, _⟩)
    · exact up_self ps hw
    · rw [← h2]; exact par_mem ps q h1 (by omega)
  · intro h
    rcases (inB_self hw).mpr h with e | ⟨c, h1, h2, h3⟩
    · exact Or.inl e
    · exact Or.inr ⟨c, h1, h2, by omega⟩
theorem inB_root (ps : List Nat) : ∀ q : Nat, inB ps 0 0 q := by
  intro q
  induction q using Nat.strongRecOn with
  | _ q ih =>
    by_cases hq : 1 ≤ q
    · by_cases e : par ps q = 0
      · exact Or.inr ⟨q, up_self ps hq, e, hq⟩
      · rcases ih _ (par_lt ps hq) with h | ⟨c, h1, h2, h3⟩
        · exact absurd h e
        · exact Or.inr ⟨c, by rw [up_pos ps hq]; exact List.mem_cons_of_mem _ h1, h2, h3⟩
    · exact Or.inl (by omega)
theorem inB_step {ps : List Nat} {j b q : Nat} : inB ps j b q ↔ inB ps (j + 1) b q ∨ (par ps (j + 1) = b ∧ (j + 1) ∈ up ps q) := by
  constructor
  · rintro (h | ⟨c, h1, h2, h3⟩)
    · exact Or.inl (Or.inl h)
    · by_cases e : c = j + 1
      · subst e; exact Or.inr ⟨h2, h1⟩
      · exact Or.inl (Or.inr ⟨c, h1, h2, by omega⟩)
  · rintro ((h | ⟨c, h1, h2, h3⟩) | ⟨h1, h2⟩)
    · exact Or.inl h
    · exact Or.inr ⟨c, h1, h2, by omega⟩
    · exact Or.inr ⟨j + 1, h2, h1, by omega⟩
/-- m holds the branch of b among the positions up to n -/
def Bits (ps : List Nat) (n j b m : Nat) : Prop := ∀ q, m.testBit q = true ↔ q ≤ n ∧ inB ps j b q
theorem bits_start {ps : List Nat} {n b : Nat} (hb : b ≤ n) : Bits ps n n b (2 ^ b) := by
  intro q
  rw [Nat.testBit_two_pow]
  simp only [decide_eq_true_eq]
  constructor
  · rintro rfl; exact ⟨hb, Or.inl rfl⟩
  · rintro ⟨h1, h2⟩; exact ((inB_far h1).mp h2).symm
theorem bits_or {ps : List Nat} {n j mb mw : Nat} (hb : Bits ps n (j + 1) (par ps (j + 1)) mb) (hw : Bits ps n (j + 1) (j + 1) mw) : Bits ps n j (par ps (j + 1)) (mb ||| mw) := by
  intro q
  rw [Nat.testBit_or, Bool.or_eq_true, hb q, hw q, inB_step (j := j) (b := par ps (j + 1)), inB_self (by omega)]
  constructor
  · rintro (⟨h1, h2⟩ | ⟨h1, h2⟩)
    · exact ⟨h1, Or.inl h2⟩
    · exact ⟨h1, Or.inr ⟨rfl, h2⟩⟩
  · rintro ⟨h1, h2 | ⟨_, h2⟩⟩
    · exact Or.inl ⟨h1, h2⟩
    · exact Or.inr ⟨h1, h2⟩
theorem bits_keep {ps : List Nat} {n j b m : Nat} (h : Bits ps n (j + 1) b m) (hb : par ps (j + 1) ≠ b) : Bits ps n j b m := by
  intro q
  rw [h q, inB_step (j := j) (b := b)]
  constructor
  · rintro ⟨h1, h2⟩; exact ⟨h1, Or.inl h2⟩
  · rintro ⟨h1, h2 | ⟨h2, _⟩⟩
    · exact ⟨h1, h2⟩
    · exact absurd h2 hb
theorem bits_root {ps : List Nat} {n m : Nat} (h : Bits ps n 0 0 m) : m = 2 ^ (n + 1) - 1 := by
  apply Nat.eq_of_testBit_eq
  intro q
  rw [Nat.testBit_two_pow_sub_one]
  by_cases e : q ≤ n
  · rw [(h q).mpr ⟨e, inB_root ps q⟩]
    exact (decide_eq_true (by omega)).symm
  · have z : m.testBit q = false := by
      cases hz : m.testBit q with
      | false => rfl
      | true => exact absurd ((h q).mp hz).1 e
    rw [z]
    exact (decide_eq_false (by omega)).symm
theorem bits_lt {ps : List Nat} {n j b m : Nat} (h : Bits ps n j b m) : m < 2 ^ (n + 1) := by
  apply Nat.lt_pow_two_of_testBit
  intro q hq
  cases hz : m.testBit q with
  | false => rfl
  | true => exact absurd ((h q).mp hz).1 (by omega)
/-- the mask of side w, of side -w -/
theorem mask_pos {ps : List Nat} {n w m p : Nat} (hw : 1 ≤ w) (hp : p ≤ n) (h : Bits ps n 0 w m) : m.testBit p = has ps p w := by
  have e := h p
  rw [inB_all hw] at e
  cases hz : has ps p w with
  | true => exact e.mpr ⟨hp, has_iff.mp hz⟩
  | false =>
    cases hm : m.testBit p with
    | false => rfl
    | true =>
      have := has_iff.mpr (e.mp hm).2
      rw [hz] at this
      cases this
theorem mask_neg {ps : List Nat} {n w m m0 p : Nat} (hw : 1 ≤ w) (hp : p ≤ n) (h : Bits ps n 0 w m) (h0 : Bits ps n 0 0 m0) : (m0 - m).testBit p = !has ps p w := by
  rw [bits_root h0]
  have l := bits_lt h
  have e : 2 ^ (n + 1) - 1 - m = 2 ^ (n + 1) - (m + 1) := by omega
  rw [e, Nat.testBit_two_pow_sub_succ l, mask_pos hw hp h, decide_eq_true (show p < n + 1 by omega)]
  rfl
theorem mask_le {ps : List Nat} {n w m m0 : Nat} (h : Bits ps n 0 w m) (h0 : Bits ps n 0 0 m0) : m ≤ m0 := by
  have l := bits_lt h
  rw [bits_root h0]
  omega
/-! ### the middle of an odd number of positions -/
def maj (ps : List Nat) (l : List Nat) (w : Nat) : Bool := decide (l.length < 2 * l.countP fun p => has ps p w)
/-- the greatest wall up to w whose branch holds more than half of them, or 0 -/
def mid (ps : List Nat) (l : List Nat) : Nat → Nat
  | 0 => 0
  | w + 1 => if maj ps l (w + 1) = true then w + 1 else mid ps l w
theorem mid_le (ps : List Nat) (l : List Nat) : ∀ n, mid ps l n ≤ n
  | 0 => Nat.le_refl 0
  | w + 1 => by
    unfold mid
    split
    · exact Nat.le_refl _
    · have := mid_le ps l w; omega
theorem mid_ge (ps : List Nat) (l : List Nat) : ∀ n {w : Nat}, 1 ≤ w → w ≤ n → maj ps l w = true → w ≤ mid ps l n
  | 0, w, h1, h2, _ => by omega
  | n + 1, w, h1, h2, h => by
    unfold mid
    split
    · exact h2
    · rename_i hn
      by_cases e : w = n + 1
      · subst e; exact absurd h hn
      · exact mid_ge ps l n h1 (by omega) h
theorem mid_maj (ps : List Nat) (l : List Nat) : ∀ n, 1 ≤ mid ps l n → maj ps l (mid ps l n) = true
  | 0, h => by unfold mid at h; omega
  | n + 1, h => by
    unfold mid at h ⊢
    split
    · assumption
    · rename_i hn
      rw [if_neg hn] at h
      exact mid_maj ps l n h
theorem two_maj {α : Type} (f g : α → Bool) : ∀ l : List α, l.length < l.countP f + l.countP g → ∃ x, x ∈ l ∧ f x = true ∧ g x = true
  | [], h => by simp at h
  | x :: l, h => by
    by_cases hx : f x = true ∧ g x = true
    · exact ⟨x, List.mem_cons_self, hx.1, hx.2⟩
    · have h2 : l.length < l.countP f + l.countP g := by
        rw [List.countP_cons, List.countP_cons, List.length_cons] at h
        cases hf : f x <;> cases hg : g x <;> simp [hf, hg] at h hx <;> omega
      obtain ⟨y, hy, h3⟩ := two_maj f g l h2
      exact ⟨y, List.mem_cons_of_mem _ hy, h3⟩
theorem mid_has {ps : List Nat} {l : List Nat} {n k : Nat} (h1 : 1 ≤ k) (hk : k ≤ n) : has ps (mid ps l n) k = maj ps l k := by
  cases hm : maj ps l k with
  | true =>
    have hge := mid_ge ps l n h1 hk hm
    have hmm := mid_maj ps l n (by omega)
    unfold maj at hm hmm
    have a := of_decide_eq_true hm
    have b := of_decide_eq_true hmm
    obtain ⟨x, _, hx1, hx2⟩ := two_maj (fun p => has ps p k) (fun p => has ps p (mid ps l n)) l (by omega)
    exact has_iff.mpr (up_cmp ps x (has_iff.mp hx2) (has_iff.mp hx1) hge)
  | false =>
    cases hh : has ps (mid ps l n) k with
    | false => rfl
    | true =>
      have hu := has_iff.mp hh
      have h2 := up_le ps _ hu
      have hmm := mid_maj ps l n (by omega)
      unfold maj at hm hmm
      have b := of_decide_eq_true hmm
      have a := of_decide_eq_false hm
      have c : l.countP (fun p => has ps p (mid ps l n)) ≤ l.countP fun p => has ps p k := List.countP_mono_left fun x _ hx => has_iff.mpr (up_trans ps x (has_iff.mp hx) hu)
      omega
/-- the sides' numbers that a position has -/
def side (ps : List Nat) (p k : Nat) : Int := if has ps p k = true then (k : Int) else 0 - (k : Int)
theorem side_eq {ps : List Nat} {p q k : Nat} (h : 1 ≤ k) : side ps p k = side ps q k ↔ has ps p k = has ps q k := by
  unfold side
  cases has ps p k <;> cases has ps q k <;> simp <;> omega
/-- between in the law's words -/
def betw (ps : List Nat) (n p a b : Nat) : Prop := ∀ k, 1 ≤ k → k ≤ n → side ps a k = side ps b k → side ps p k = side ps a k
theorem middle3 {ps : List Nat} {n p a b c : Nat} (hp : p ≤ n) : (betw ps n p a b ∧ betw ps n p b c ∧ betw ps n p c a) ↔ p = mid ps [a, b, c] n := by
  have m3 : ∀ k, maj ps [a, b, c] k = ((has ps a k && has ps b k) || (has ps b k && has ps c k) || (has ps c k && has ps a k)) := by
    intro k
    unfold maj
    simp only [List.countP_cons, List.countP_nil, List.length_cons, List.length_nil]
    cases has ps a k <;> cases has ps b k <;> cases has ps c k <;> decide
  constructor
  · rintro ⟨h1, h2, h3⟩
    refine same_of (ps := ps) hp (mid_le ps _ n) fun k k1 k2 => ?_
    rw [mid_has k1 k2, m3]
    have a1 := h1 k k1 k2
    have a2 := h2 k k1 k2
    have a3 := h3 k k1 k2
    rw [side_eq k1, side_eq k1] at a1 a2 a3
    revert a1 a2 a3
    cases has ps a k <;> cases has ps b k <;> cases has ps c k <;> cases has ps p k <;> simp
  · rintro rfl
    refine ⟨?_, ?_, ?_⟩ <;> (intro k k1 k2; rw [side_eq k1, side_eq k1, mid_has k1 k2, m3]; cases has ps a k <;> cases has ps b k <;> cases has ps c k <;> simp)
/-- which order the three stand in makes no difference -/
theorem mid_perm {ps : List Nat} {l l' : List Nat} (h : l.Perm l') : ∀ n, mid ps l n = mid ps l' n
  | 0 => rfl
  | n + 1 => by
    have e : maj ps l (n + 1) = maj ps l' (n + 1) := by
      unfold maj
      rw [h.length_eq, h.countP_eq]
    unfold mid
    rw [e, mid_perm h n]
end Tr
/-! Ways in a small tree. -/
namespace Tr
/-- the positions from p up to the root -/
def ch (ps : List Nat) (p : Nat) : List Nat := up ps p ++ [0]
theorem ch_zero (ps : List Nat) : ch ps 0 = [0] := by unfold ch; rw [up_zero]; rfl
theorem ch_pos (ps : List Nat) {p : Nat} (h : 1 ≤ p) : ch ps p = p :: ch ps (par ps p) := by unfold ch; rw [up_pos ps h]; rfl
theorem ch_le {ps : List Nat} {p x : Nat} (h : x ∈ ch ps p) : x ≤ p := by
  unfold ch at h
  rcases List.mem_append.mp h with h | h
  · exact (up_le ps _ h).2
  · rw [List.mem_singleton.mp h]; omega
theorem ch_head (ps : List Nat) (p : Nat) : ∃ r, ch ps p = p :: r := by
  by_cases h : 1 ≤ p
  · exact ⟨_, ch_pos ps h⟩
  · obtain rfl : p = 0 := by omega
    exact ⟨[], ch_zero ps⟩
theorem mem_ch {ps : List Nat} {p x : Nat} (hx : 1 ≤ x) : x ∈ ch ps p ↔ x ∈ up ps p := by
  unfold ch
  rw [List.mem_append, List.mem_singleton]
  constructor
  · rintro (h | h)
    · exact h
    · omega
  · exact Or.inl
theorem ch_nodup (ps : List Nat) : ∀ p : Nat, (ch ps p).Nodup := by
  intro p
  induction p using Nat.strongRecOn with
  | _ p ih =>
    by_cases h : 1 ≤ p
    · rw [ch_pos ps h]
      refine List.nodup_cons.mpr ⟨fun m => ?_, ih _ (par_lt ps h)⟩
      have := ch_le m
      have := par_lt ps h
      omega
    · obtain rfl : p = 0 := by omega
      rw [ch_zero]
      exact List.nodup_cons.mpr ⟨List.not_mem_nil, List.nodup_nil⟩
/-- where two climbs meet -/
theorem meet (ps : List Nat) : ∀ (s a b : Nat), a + b ≤ s → ∃ A B m, ch ps a = A ++ ch ps m ∧ ch ps b = B ++ ch ps m ∧ (∀ x, x ∈ A → x ∉ ch ps b) ∧ ∀ x, x ∈ B → x ∉ ch ps a := by
  intro s
  induction s with
  | zero =>
    intro a b h
    obtain rfl : a = 0 := by omega
    obtain rfl : b = 0 := by omega
    exact ⟨[], [], 0, rfl, rfl, fun x h => absurd h List.not_mem_nil, fun x h => absurd h List.not_mem_nil⟩
  | succ s ih =>
    intro a b h
    by_cases e : a = b
    · subst e
      exact ⟨[], [], a, rfl, rfl, fun x h => absurd h List.not_mem_nil, fun x h => absurd h List.not_mem_nil⟩
    · by_cases l : b < a
      · have a1 : 1 ≤ a := by omega
        have pl := par_lt ps a1
        obtain ⟨A, B, m, h1, h2, h3, h4⟩ := ih (par ps a) b (by omega)
        refine ⟨a :: A, B, m, by rw [ch_pos ps a1, h1]; rfl, h2, fun x hx => ?_, fun x hx hm => ?_⟩
        · rcases List.mem_cons.mp hx with rfl | hx
          · intro hm
            have := ch_le hm
            omega
          · exact h3 x hx
        · rw [ch_pos ps a1] at hm
          rcases List.mem_cons.mp hm with rfl | hm
          · have : x ∈ ch ps b := by rw [h2]; exact List.mem_append_left _ hx
            have := ch_le this
            omega
          · exact h4 x hx hm
      · have b1 : 1 ≤ b := by omega
        have pl := par_lt ps b1
        obtain ⟨A, B, m, h1, h2, h3, h4⟩ := ih a (par ps b) (by omega)
        refine ⟨A, b :: B, m, h1, by rw [ch_pos ps b1, h2]; rfl, fun x hx hm => ?_, fun x hx => ?_⟩
        · rw [ch_pos ps b1] at hm
          rcases List.mem_cons.mp hm with rfl | hm
          · have : x ∈ ch ps a := by rw [h1]; exact List.mem_append_left _ hx
            have := ch_le this
            omega
          · exact h3 x hx hm
        · rcases List.mem_cons.mp hx with rfl | hx
          · intro hm
            have := ch_le hm
            omega
          · exact h4 x hx
theorem filter_out {α : Type} {f : α → Bool} {A C : List α} (h1 : ∀ x, x ∈ A → f x = true) (h2 : ∀ x, x ∈ C → f x = false) : (A ++ C).filter f = A := by
  rw [List.filter_append, List.filter_eq_self.mpr h1]
  have : C.filter f = [] := List.filter_eq_nil_iff.mpr fun x hx => by rw [h2 x hx]; exact Bool.false_ne_true
  rw [this, List.append_nil]
/-- the way in the program's words -/
def before (ps : List Nat) (a b : Nat) : List Nat := (ch ps a).filter fun x => decide (x ∉ ch ps b)
def way (ps : List Nat) (a b : Nat) : List Nat := before ps a b ++ [(ch ps a).getD (before ps a b).length 0] ++ (before ps b a).reverse
theorem way_is {ps : List Nat} (a b : Nat) : ∃ A B m, ch ps a = A ++ ch ps m ∧ ch ps b = B ++ ch ps m ∧ (∀ x, x ∈ A → x ∉ ch ps b) ∧ (∀ x, x ∈ B → x ∉ ch ps a) ∧ before ps a b = A ∧ before ps b a = B ∧ (ch ps a)[A.length]? = some m ∧ way ps a b = A ++ [m] ++ B.reverse := by
  obtain ⟨A, B, m, h1, h2, h3, h4⟩ := meet ps (a + b) a b (Nat.le_refl _)
  have e1 : before ps a b = A := by
    unfold before
    conv => lhs; rw [h1]
    refine filter_out (fun x hx => decide_eq_true (h3 x hx)) fun x hx => decide_eq_false fun z => z ?_
    rw [h2]
    exact List.mem_append_right _ hx
  have e2 : before ps b a = B := by
    unfold before
    conv => lhs; rw [h2]
    refine filter_out (fun x hx => decide_eq_true (h4 x hx)) fun x hx => decide_eq_false fun z => z ?_
    rw [h1]
    exact List.mem_append_right _ hx
  obtain ⟨r, hr⟩ := ch_head ps m
  have e3 : (ch ps a)[A.length]? = some m := by rw [h1, hr, List.getElem?_append_right (Nat.le_refl _)]; simp
  refine ⟨A, B, m, h1, h2, h3, h4, e1, e2, e3, ?_⟩
  unfold way
  rw [e1, e2, List.getD_eq_getElem?_getD, e3]
  rfl
theorem way_back {ps : List Nat} (a b : Nat) : way ps b a = (way ps a b).reverse := by
  obtain ⟨A, B, m, h1, h2, h3, h4, e1, e2, e3, e⟩ := way_is (ps := ps) a b
  obtain ⟨r, hr⟩ := ch_head ps m
  have e4 : (ch ps b)[B.length]? = some m := by rw [h2, hr, List.getElem?_append_right (Nat.le_refl _)]; simp
  rw [e]
  unfold way
  rw [e1, e2, List.getD_eq_getElem?_getD, e4]
  simp
/-! ### neighbours -/
def Nb (ps : List Nat) (x y : Nat) : Prop := (1 ≤ x ∧ y = par ps x) ∨ (1 ≤ y ∧ x = par ps y)
def Adj (R : Nat → Nat → Prop) : List Nat → Prop
  | [] => True
  | [_] => True
  | x :: y :: l => R x y ∧ Adj R (y :: l)
theorem adj_at {R : Nat → Nat → Prop} : ∀ {l : List Nat} {i x y : Nat}, Adj R l → l[i]? = some x → l[i + 1]? = some y → R x y
  | [], _, _, _, _, h, _ => by simp at h
  | [_], i, _, _, _, _, h => by simp at h
  | a :: b :: l, 0, x, y, h, h1, h2 => by
    simp at h1 h2
    subst h1 h2
    exact h.1
  | a :: b :: l, i + 1, x, y, h, h1, h2 => adj_at (i := i) h.2 (by simpa using h1) (by simpa using h2)
theorem adj_left {R : Nat → Nat → Prop} : ∀ {l r : List Nat}, Adj R (l ++ r) → Adj R l
  | [], _, _ => trivial
  | [_], _, _ => trivial
  | a :: b :: l, r, h => ⟨h.1, adj_left (l := b :: l) (r := r) h.2⟩
theorem adj_join {R : Nat → Nat → Prop} {m : Nat} : ∀ {l r : List Nat}, Adj R (l ++ [m]) → Adj R (m :: r) → Adj R (l ++ m :: r)
  | [], _, _, h => h
  | [a], r, h1, h2 => ⟨h1.1, h2⟩
  | a :: b :: l, r, h1, h2 => ⟨h1.1, adj_join (l := b :: l) h1.2 h2⟩
theorem adj_snoc {R : Nat → Nat → Prop} {x : Nat} : ∀ {l : List Nat} {y : Nat}, Adj R (l ++ [y]) → R y x → Adj R (l ++ [y] ++ [x])
  | [], y, _, h => ⟨h, trivial⟩
  | [a], y, h1, h => ⟨h1.1, h, trivial⟩
  | a :: b :: l, y, h1, h => ⟨h1.1, adj_snoc (l := b :: l) h1.2 h⟩
theorem adj_rev {R : Nat → Nat → Prop} (sy : ∀ x y, R x y → R y x) : ∀ {l : List Nat}, Adj R l → Adj R l.reverse
  | [], _ => trivial
  | [_], _ => trivial
  | a :: b :: l, h => by
    have ih := adj_rev sy (l := b :: l) h.2
    rw [List.reverse_cons, List.reverse_cons] at *
    exact adj_snoc ih (sy _ _ h.1)
theorem adj_ch (ps : List Nat) : ∀ p : Nat, Adj (Nb ps) (ch ps p) := by
  intro p
  induction p using Nat.strongRecOn with
  | _ p ih =>
    by_cases h : 1 ≤ p
    · obtain ⟨r, hr⟩ := ch_head ps (par ps p)
      have i := ih _ (par_lt ps h)
      rw [ch_pos ps h, hr] at *
      exact ⟨Or.inl ⟨h, rfl⟩, i⟩
    · obtain rfl : p = 0 := by omega
      rw [ch_zero]
      trivial
theorem nb_sym {ps : List Nat} (x y : Nat) (h : Nb ps x y) : Nb ps y x := h.elim Or.inr Or.inl
theorem way_adj (ps : List Nat) (a b : Nat) : Adj (Nb ps) (way ps a b) := by
  obtain ⟨A, B, m, h1, h2, h3, h4, e1, e2, e3, e⟩ := way_is (ps := ps) a b
  obtain ⟨r, hr⟩ := ch_head ps m
  rw [e, List.append_assoc]
  have a1 : Adj (Nb ps) (A ++ [m]) := by
    have := adj_ch ps a
    rw [h1, hr, show A ++ m :: r = (A ++ [m]) ++ r by simp] at this
    exact adj_left this
  have b1 : Adj (Nb ps) (B ++ [m]) := by
    have := adj_ch ps b
    rw [h2, hr, show B ++ m :: r = (B ++ [m]) ++ r by simp] at this
    exact adj_left this
  have b2 := adj_rev nb_sym b1
  rw [List.reverse_append] at b2
  exact adj_join a1 b2
theorem way_nodup (ps : List Nat) (a b : Nat) : (way ps a b).Nodup := by
  obtain ⟨A, B, m, h1, h2, h3, h4, e1, e2, e3, e⟩ := way_is (ps := ps) a b
  obtain ⟨r, hr⟩ := ch_head ps m
  have na := ch_nodup ps a
  have nb := ch_nodup ps b
  rw [h1, hr] at na
  rw [h2, hr] at nb
  rw [e, List.append_assoc]
  have mb : m ∈ ch ps b := by rw [h2, hr]; simp
  have ma : m ∈ ch ps a := by rw [h1, hr]; simp
  refine List.nodup_append.mpr ⟨(List.nodup_append.mp na).1, ?_, ?_⟩
  · refine List.nodup_cons.mpr ⟨fun hm => h4 m (List.mem_reverse.mp hm) ma, (List.reverse_perm B).nodup_iff.mpr (List.nodup_append.mp nb).1⟩
  · rintro x hx y hy rfl
    rcases List.mem_cons.mp hy with rfl | hy
    · exact h3 x hx mb
    · refine h3 x hx ?_
      rw [h2]
      exact List.mem_append_left _ (List.mem_reverse.mp hy)
theorem way_le {ps : List Nat} {a b n x : Nat} (ha : a ≤ n) (hb : b ≤ n) (h : x ∈ way ps a b) : x ≤ n := by
  obtain ⟨A, B, m, h1, h2, h3, h4, e1, e2, e3, e⟩ := way_is (ps := ps) a b
  rw [e] at h
  obtain ⟨r, hr⟩ := ch_head ps m
  have ia : ∀ y, y ∈ A ∨ y = m → y ≤ a := fun y hy => ch_le (ps := ps) (by rw [h1, hr]; rcases hy with hy | rfl <;> simp [*])
  have ib : ∀ y, y ∈ B → y ≤ b := fun y hy => ch_le (ps := ps) (by rw [h2]; simp [hy])
  simp only [List.mem_append, List.mem_singleton, List.mem_reverse] at h
  rcases h with (h | h) | h
  · have := ia x (Or.inl h); omega
  · have := ia x (Or.inr h); omega
  · have := ib x h; omega
theorem way_first (ps : List Nat) (a b : Nat) : (way ps a b)[0]? = some a := by
  obtain ⟨A, B, m, h1, h2, h3, h4, e1, e2, e3, e⟩ := way_is (ps := ps) a b
  obtain ⟨r, hr⟩ := ch_head ps m
  obtain ⟨q, hq⟩ := ch_head ps a
  rw [e]
  rw [h1, hr] at hq
  cases A with
  | nil => simp at hq ⊢; exact hq.1
  | cons x A => simp at hq ⊢; exact hq.1
theorem way_last (ps : List Nat) (a b : Nat) : (way ps a b)[(way ps a b).length - 1]? = some b := by
  have e := way_first ps b a
  rw [way_back] at e
  have hl : 0 < (way ps a b).length := by
    cases z : way ps a b with
    | nil => rw [z] at e; simp at e
    | cons x l => simp
  rw [List.getElem?_reverse (by omega)] at e
  exact e
/-- the walls that part a and b -/
def partw (ps : List Nat) (a b k : Nat) : Bool := has ps a k != has ps b k
def parting (ps : List Nat) (a b : Nat) : List Nat := ((List.range ps.length).map (· + 1)).filter fun k => partw ps a b k
theorem parting_nodup (ps : List Nat) (a b : Nat) : (parting ps a b).Nodup := by
  unfold parting
  refine List.Nodup.sublist List.filter_sublist ?_
  exact List.pairwise_map.mpr (List.Pairwise.imp (fun {x y} (h : x ≠ y) => by omega) List.nodup_range)
theorem way_len {ps : List Nat} {a b : Nat} (ha : a ≤ ps.length) (hb : b ≤ ps.length) : (way ps a b).length = (parting ps a b).length + 1 := by
  obtain ⟨A, B, m, h1, h2, h3, h4, e1, e2, e3, e⟩ := way_is (ps := ps) a b
  obtain ⟨r, hr⟩ := ch_head ps m
  have na := ch_nodup ps a
  have nb := ch_nodup ps b
  rw [h1] at na
  rw [h2] at nb
  have nab : (A ++ B).Nodup := by
    refine List.nodup_append.mpr ⟨(List.nodup_append.mp na).1, (List.nodup_append.mp nb).1, ?_⟩
    rintro x hx y hy rfl
    refine h3 x hx ?_
    rw [h2]
    exact List.mem_append_left _ hy
  have za : (0 : Nat) ∈ ch ps a := by unfold ch; simp
  have zb : (0 : Nat) ∈ ch ps b := by unfold ch; simp
  have mem : ∀ k, k ∈ parting ps a b ↔ k ∈ A ++ B := by
    intro k
    unfold parting
    rw [List.mem_filter, List.mem_map, List.mem_append]
    constructor
    · rintro ⟨⟨j, hj, rfl⟩, hp⟩
      unfold partw at hp
      by_cases c : has ps a (j + 1) = true
      · have d : ¬ has ps b (j + 1) = true := by
          intro d
          rw [c, d] at hp
          exact absurd hp (by decide)
        have ma := (mem_ch (ps := ps) (p := a) (x := j + 1) (by omega)).mpr (has_iff.mp c)
        have mb : ¬ (j + 1) ∈ ch ps b := fun z => d (has_iff.mpr ((mem_ch (by omega)).mp z))
        rw [h1] at ma
        rcases List.mem_append.mp ma with h | h
        · exact Or.inl h
        · exact absurd (by rw [h2]; exact List.mem_append_right _ h) mb
      · have d : has ps b (j + 1) = true := by
          cases hb' : has ps b (j + 1) with
          | true => rfl
          | false =>
            have c' : has ps a (j + 1) = false := by simpa using c
            rw [c', hb'] at hp
            exact absurd hp (by decide)
        have mb := (mem_ch (ps := ps) (p := b) (x := j + 1) (by omega)).mpr (has_iff.mp d)
        have ma : ¬ (j + 1) ∈ ch ps a := fun z => c (has_iff.mpr ((mem_ch (by omega)).mp z))
        rw [h2] at mb
        rcases List.mem_append.mp mb with h | h
        · exact Or.inr h
        · exact absurd (by rw [h1]; exact List.mem_append_right _ h) ma
    · intro h
      have one : ∀ x, (x = 0 → False) → 1 ≤ x := fun x hx => by
        by_cases z : x = 0
        · exact (hx z).elim
        · omega
      rcases h with h | h
      · have k1 := one k fun z => h3 k h (by rw [z]; exact zb)
        have ka : k ∈ ch ps a := by rw [h1]; exact List.mem_append_left _ h
        have kl := ch_le ka
        refine ⟨⟨k - 1, List.mem_range.mpr (by omega), by omega⟩, ?_⟩
        have x1 : has ps a k = true := has_iff.mpr ((mem_ch k1).mp ka)
        have x2 : has ps b k = false := by
          cases z : has ps b k with
          | false => rfl
          | true => exact absurd ((mem_ch k1).mpr (has_iff.mp z)) (h3 k h)
        unfold partw
        rw [x1, x2]
        rfl
      · have k1 := one k fun z => h4 k h (by rw [z]; exact za)
        have kb : k ∈ ch ps b := by rw [h2]; exact List.mem_append_left _ h
        have kl := ch_le kb
        refine ⟨⟨k - 1, List.mem_range.mpr (by omega), by omega⟩, ?_⟩
        have x1 : has ps b k = true := has_iff.mpr ((mem_ch k1).mp kb)
        have x2 : has ps a k = false := by
          cases z : has ps a k with
          | false => rfl
          | true => exact absurd ((mem_ch k1).mpr (has_iff.mp z)) (h4 k h)
        unfold partw
        rw [x1, x2]
        rfl
  have pm := (List.perm_ext_iff_of_nodup (parting_nodup ps a b) nab).mpr mem
  rw [pm.length_eq, e]
  simp
  omega
theorem mem_bool (ps : List Nat) (a k : Nat) : decide (k ∈ up ps a) = has ps a k := rfl
end Tr
namespace EP
open PySem L2 PySem.Spec PyProof.Rows
theorem hu64_of {A : Around} {k : Nat} (hr : Room k A) : A.units + 64 < cLine := by have := hr.un; omega
/-! ### a shape's attributes -/
def shf (t d : Addr) (n : Nat) : List (Str × V) := [("parents", .ref t), ("size", .int n), ("_masks", .ref d)]
theorem shf_parents {t d : Addr} {n : Nat} : (shf t d n).lookup ("parents" : Str) = some (.ref t) := by first | rfl | kernel_rfl
theorem shf_size {t d : Addr} {n : Nat} : (shf t d n).lookup ("size" : Str) = some (.int n) := by first | rfl | kernel_rfl
theorem shf_masks {t d : Addr} {n : Nat} : (shf t d n).lookup ("_masks" : Str) = some (.ref d) := by first | rfl | kernel_rfl
def nvs (ps : List Nat) : List V := ps.map (fun (p : Nat) => V.int (p : Int))
/-- side k of a shape of size n -/
def IsSide (n : Nat) (k : Int) : Prop := k ≠ 0 ∧ -(n : Int) ≤ k ∧ k ≤ n
def IsPos (n : Nat) (p : Int) : Prop := 0 ≤ p ∧ p ≤ n
instance (n : Nat) (k : Int) : Decidable (IsSide n k) := by unfold IsSide; exact inferInstance
instance (n : Nat) (p : Int) : Decidable (IsPos n p) := by unfold IsPos; exact inferInstance
/-- position p has side k -/
def hasS (ps : List Nat) (p k : Int) : Bool := if 0 < k then Tr.has ps p.toNat k.toNat else !Tr.has ps p.toNat (-k).toNat
def MasksOk (ps : List Nat) (kvs : List (Key × V)) : Prop := ∀ w, 1 ≤ w → w ≤ ps.length → ∃ m m' : Nat, valV kvs (.inl (w : Int)) = some (.int m) ∧ valV kvs (.inl (-(w : Int))) = some (.int m') ∧
  ∀ p, p ≤ ps.length → m.testBit p = Tr.has ps p w ∧ m'.testBit p = !Tr.has ps p w
theorem bit_is (m p : Nat) : Builtin.bitAnd ((m : Int) / 2 ^ ((p : Int)).toNat) 1 = if m.testBit p = true then 1 else 0 := by
  rw [PyProof.Rows.bitAnd_m1]
  have e : ((m : Int) / 2 ^ ((p : Int)).toNat) = ((m / 2 ^ p : Nat) : Int) := by
    rw [Int.toNat_natCast]
    norm_cast
  rw [e]
  have : m.testBit p = decide (m / 2 ^ p % 2 = 1) := by
    rw [Nat.testBit_eq_decide_div_mod_eq]
  rw [this]
  by_cases h : m / 2 ^ p % 2 = 1
  · rw [if_pos (decide_eq_true h)]; omega
  · rw [if_neg (by simpa using h)]; omega
theorem mask_of {ps : List Nat} {kvs : List (Key × V)} (M : MasksOk ps kvs) {p k : Int} (hp : IsPos ps.length p) (hk : IsSide ps.length k) : ∃ m : Nat, valV kvs (.inl k) = some (.int m) ∧ m.testBit p.toNat = hasS ps p k := by
  obtain ⟨h1, h2, h3⟩ := hk
  obtain ⟨h4, h5⟩ := hp
  unfold hasS
  by_cases h0 : 0 < k
  · obtain ⟨m, m', e1, e2, e3⟩ := M k.toNat (by omega) (by omega)
    rw [show ((k.toNat : Nat) : Int) = k by omega] at e1
    exact ⟨m, e1, by rw [if_pos h0]; exact (e3 p.toNat (by omega)).1⟩
  · obtain ⟨m, m', e1, e2, e3⟩ := M (-k).toNat (by omega) (by omega)
    rw [show -(((-k).toNat : Nat) : Int) = k by omega] at e2
    exact ⟨m', e2, by rw [if_neg h0]; exact (e3 p.toNat (by omega)).2⟩
/-- a Shape of these parents stands at s -/
structure ShapeAt (K : PySem.W.Frag) (C : Addr) (H : Hp) (s : Addr) (ps : List Nat) : Prop where
  ok : Tr.Ok ps
  pos : 1 ≤ ps.length
  small : ps.length ≤ 1000
  at_ : ∃ dx t d kvs, H s = some (.ins C dx (shf t d ps.length)) ∧ SqT K H t (nvs ps) ∧ H d = some (.dK kvs) ∧ MasksOk ps kvs
theorem SqT_same {K : PySem.W.Frag} {H H' : Hp} {a : Addr} {xs : List V} (e : Same H H') (h : SqT K H a xs) : SqT K H' a xs := by
  rcases h with h | h
  · refine Or.inl ?_
    rcases h with h | ⟨o, h⟩
    · exact Or.inl (e a _ h)
    · exact Or.inr ⟨o, e a _ h⟩
  · exact Or.inr h
theorem ShapeAt.same {K : PySem.W.Frag} {C : Addr} {H H' : Hp} {s : Addr} {ps : List Nat} (S : ShapeAt K C H s ps) (e : Same H H') : ShapeAt K C H' s ps := by
  obtain ⟨o, p, sm, dx, t, d, kvs, h1, h2, h3, h4⟩ := S
  exact ⟨o, p, sm, dx, t, d, kvs, e _ _ h1, SqT_same e h2, e _ _ h3, h4⟩
def Small (i : Int) : Prop := i.natAbs < 2 ^ 100
theorem Small.ok {i : Int} (h : Small i) {H : Hp} : IntS (.int i) H := ⟨i, rfl, int_small (Nat.lt_trans h (by decide))⟩
theorem same_new {H : Hp} {d : Addr} {o : HO} (h : H d = none) : Same H (upd H d o) := fun b u e => by
  rw [upd_ne (ne_of_none e h)]
  exact e
end EP
namespace EP
open PySem L2
theorem notIte {A B : Prop} {b : Bool} (ht : b = true → B) (hf : b = false → A) : if (!b) = true then A else B := by
  cases b with
  | true => exact iteF (ht rfl)
  | false => exact iteT (hf rfl)
theorem boolIte {A B : Prop} {b : Bool} (ht : b = true → A) (hf : b = false → B) : if b = true then A else B := by
  cases b with
  | true => exact iteT (ht rfl)
  | false => exact iteF (hf rfl)
theorem ifT {A B : Prop} {b : Bool} (e : b = true) (h : A) : if b = true then A else B := by rw [e]; exact iteT h
theorem ifF {A B : Prop} {b : Bool} (e : b = false) (h : B) : if b = true then A else B := by rw [e]; exact iteF h
theorem shr_ok (m : Nat) (p : Int) : Builtin.bitAnd ((m : Int) / 2 ^ p.toNat) 1 = if m.testBit p.toNat = true then 1 else 0 := by
  have := bit_is m p.toNat
  rw [Int.toNat_natCast] at this
  exact this
end EP
namespace EP
open PySem L2
theorem nvs_len (ps : List Nat) : (nvs ps).length = ps.length := by unfold nvs; rw [List.length_map]
theorem nvs_get {ps : List Nat} {i p : Nat} (h : ps[i]? = some p) : (nvs ps)[i]? = some (V.int (p : Int)) := by unfold nvs; rw [List.getElem?_map, h]; rfl
theorem nvs_set (ps : List Nat) (i m : Nat) : (nvs ps).set i (V.int (m : Int)) = nvs (ps.set i m) := by unfold nvs; rw [List.map_set]
theorem nvs_snoc (ps : List Nat) (m : Nat) : nvs ps ++ [V.int (m : Int)] = nvs (ps ++ [m]) := by unfold nvs; rw [List.map_append]; rfl
theorem nvs_of {ps : List Nat} {i : Nat} {x : V} (h : (nvs ps)[i]? = some x) : ∃ p, ps[i]? = some p ∧ x = V.int (p : Int) := by
  unfold nvs at h
  rw [List.getElem?_map] at h
  cases e : ps[i]? with
  | none => rw [e] at h; cases h
  | some p => rw [e] at h; exact ⟨p, rfl, (Option.some.inj h).symm⟩
theorem ixN_nat {n j : Nat} (h : j < n) : ixN n (j : Int) = some j := by
  unfold ixN
  rw [if_pos (by omega), if_pos (by omega)]
  rfl
theorem size_lt {n : Nat} (h : n ≤ 2000) : n < sizeLine := by rw [sizeLine_eq]; omega
theorem size_le {n : Nat} (h : n ≤ 2000) : n ≤ sizeLine := by rw [sizeLine_eq]; omega
end EP
namespace EP
open PySem L2
theorem putK_len {κ : Type} [DecidableEq κ] (kvs : List (κ × V)) (k : κ) (v : V) : (putK kvs k v).length ≤ kvs.length + 1 := by
  unfold putK
  split
  · rw [List.length_map]; omega
  · rw [List.length_append]; exact Nat.le_refl _
theorem kv_ne {i j : Int} (h : i ≠ j) : ¬ (Sum.inl i : Key) = Sum.inl j := fun e => h (by cases e; rfl)
end EP
namespace EP
open PySem L2
theorem for_enum {K : PySem.W.Frag} {a : Addr} {xs : List V} {g : TG} {tb : TS} {D : Ends} {σ : L2.St} {H : Hp} (Pv : Nat → L2.St → Hp → Prop) (h0 : Pv 0 σ H) (hl : ∀ i σ H, i ≤ xs.length → Pv i σ H → SqL K H a xs)
    (hs : ∀ i x T σ H, xs[i]? = some x → Pv i σ H → H T = none → g (.ref T) σ (upd H T (.tup [.int (i : Nat), x])) fun σ2 H2 => tb { D with nx := Pv (i + 1), ct := Pv (i + 1), bk := D.nx } σ2 H2) (hd : ∀ σ H, Pv xs.length σ H → D.nx σ H) :
    ∃ W : Nat → Nat → L2.St → Hp → Prop, (∃ m, W 0 m σ H) ∧ ∀ i m σ H, W i m σ H →
      ((Ite K a).stop i H ∧ D.nx σ H) ∨ ((Ite K a).go i H ∧ ∃ N : L2.St → Hp → Prop, (∀ σ' H', N σ' H' → ∃ m', m' < m ∧ W (i + 1) m' σ' H') ∧ ∀ x H', (Ite K a).yld i H x H' → g x σ H' fun σ2 H2 => tb { D with nx := N, ct := N, bk := D.nx } σ2 H2) := by
  refine ⟨fun i m σ H => m = xs.length - i ∧ i ≤ xs.length ∧ Pv i σ H, ⟨xs.length, by simp, Nat.zero_le _, h0⟩, fun i m σ H h => ?_⟩
  obtain ⟨rfl, hi, p⟩ := h
  have q := hl i σ H hi p
  by_cases hlt : i < xs.length
  · refine .inr ⟨⟨xs, xs[i], q, List.getElem?_eq_getElem hlt⟩, Pv (i + 1), fun σ' H' p' => ⟨xs.length - (i + 1), by omega, rfl, hlt, p'⟩, fun x H' y => ?_⟩
    obtain ⟨T, x', rfl, hT, rfl, ex⟩ := y
    exact hs i x' T σ H (ex xs q) p hT
  · obtain rfl : i = xs.length := by omega
    exact .inl ⟨⟨xs, q, Nat.le_refl _⟩, hd σ H p⟩
theorem for_enumS {K : PySem.W.Frag} {a : Addr} {xs : List V} {g : TG} {tb : TS} {D : Ends} {σ : L2.St} {H : Hp} (hq : SqL K H a xs ∨ SqT K H a xs) (Pv : Nat → L2.St → Hp → Prop) (h0 : Pv 0 σ H) (hl : ∀ i σ H', i ≤ xs.length → Pv i σ H' → Same H H')
    (hs : ∀ i x T σ H, xs[i]? = some x → Pv i σ H → H T = none → g (.ref T) σ (upd H T (.tup [.int (i : Nat), x])) fun σ2 H2 => tb { D with nx := Pv (i + 1), ct := Pv (i + 1), bk := D.nx } σ2 H2) (hd : ∀ σ H, Pv xs.length σ H → D.nx σ H) :
    (SqL K H a xs ∧ ∃ W : Nat → Nat → L2.St → Hp → Prop, (∃ m, W 0 m σ H) ∧ ∀ i m σ H, W i m σ H →
      ((Ite K a).stop i H ∧ D.nx σ H) ∨ ((Ite K a).go i H ∧ ∃ N : L2.St → Hp → Prop, (∀ σ' H', N σ' H' → ∃ m', m' < m ∧ W (i + 1) m' σ' H') ∧ ∀ x H', (Ite K a).yld i H x H' → g x σ H' fun σ2 H2 => tb { D with nx := N, ct := N, bk := D.nx } σ2 H2)) ∨
    (SqT K H a xs ∧ ∃ W : Nat → Nat → L2.St → Hp → Prop, (∃ m, W 0 m σ H) ∧ ∀ i m σ H, W i m σ H →
      ((IteT K a).stop i H ∧ D.nx σ H) ∨ ((IteT K a).go i H ∧ ∃ N : L2.St → Hp → Prop, (∀ σ' H', N σ' H' → ∃ m', m' < m ∧ W (i + 1) m' σ' H') ∧ ∀ x H', (IteT K a).yld i H x H' → g x σ H' fun σ2 H2 => tb { D with nx := N, ct := N, bk := D.nx } σ2 H2)) := by
  rcases hq with hq | hq
  · exact .inl ⟨hq, for_enum Pv h0 (fun i σ H' hi p => (hl i σ H' hi p).seq hq) hs hd⟩
  refine .inr ⟨hq, fun i m σ H => m = xs.length - i ∧ i ≤ xs.length ∧ Pv i σ H, ⟨xs.length, by simp, Nat.zero_le _, h0⟩, fun i m σ H' h => ?_⟩
  obtain ⟨rfl, hi, p⟩ := h
  have q := SqT_same (hl i σ H' hi p) hq
  by_cases hlt : i < xs.length
  · refine .inr ⟨⟨xs, xs[i], q, List.getElem?_eq_getElem hlt⟩, Pv (i + 1), fun σ' H' p' => ⟨xs.length - (i + 1), by omega, rfl, hlt, p'⟩, fun x H' y => ?_⟩
    obtain ⟨T, x', rfl, hT, rfl, ex⟩ := y
    exact hs i x' T σ _ (ex xs q) p hT
  · obtain rfl : i = xs.length := by omega
    exact .inl ⟨⟨xs, q, rfl⟩, hd σ H' p⟩
theorem SqT_ins {K : PySem.W.Frag} {H : Hp} {a s C dx : Addr} {fs : List (Str × V)} {o : HO} {xs : List V} (hs : H s = some (.ins C dx fs)) (h : SqT K H a xs) : SqT K (upd H s o) a xs := by
  rcases h with h | h
  · refine Or.inl ?_
    rcases h with h | ⟨o', h⟩
    · refine Or.inl ?_
      rw [upd_ne (fun e => by rw [e, hs] at h; cases h)]
      exact h
    · refine Or.inr ⟨o', ?_⟩
      rw [upd_ne (fun e => by rw [e, hs] at h; cases h)]
      exact h
  · exact Or.inr h
theorem tup_of {K : PySem.W.Frag} {H : Hp} {l : Addr} {xs : List V} {G : V → Hp → Prop} (h : SqL K H l xs ∨ SqT K H l xs) (fin : ∀ t H2, Same H H2 → SqT K H2 t xs → G (.ref t) H2) :
    (SqL K H l xs ∧ ∀ p, H p = none → G (.ref p) (upd H p (.tup xs))) ∨ (SqT K H l xs ∧ G (.ref l) H) :=
  h.elim (fun h => .inl ⟨h, fun p hp => fin p _ (same_new hp) (SqT.of upd_same)⟩) (fun h => .inr ⟨h, fin l H (Same.refl _) h⟩)
theorem put_parents {t : Addr} : (putF "parents" (V.ref t) []).lookup ("parents" : Str) = some (.ref t) := by first | rfl | kernel_rfl
theorem put_parents2 {t : Addr} {n : V} : (putF "size" n (putF "parents" (V.ref t) [])).lookup ("parents" : Str) = some (.ref t) := by first | rfl | kernel_rfl
theorem put_shf {t d : Addr} {n : Nat} : putF "_masks" (.ref d) (putF "size" (.int n) (putF "parents" (V.ref t) [])) = shf t d n := by first | rfl | kernel_rfl
/-- the wrong items of a list of parents -/
def Wrong (ns : List Int) (j : Nat) : Prop := ∃ p, ns[j]? = some p ∧ ¬ (0 ≤ p ∧ p ≤ j)
/-- all but s stays -/
def But (s : Addr) (H H' : Hp) : Prop := ∀ b o, b ≠ s → H b = some o → H' b = some o
theorem But.of_same {s : Addr} {H H' : Hp} (e : Same H H') : But s H H' := fun b o _ h => e b o h
theorem But.trans {s : Addr} {H H1 H2 : Hp} (a : But s H H1) (b : But s H1 H2) : But s H H2 := fun c o n h => b c o n (a c o n h)
theorem But.set {s : Addr} {H : Hp} {o : HO} : But s H (upd H s o) := fun b u n h => by rw [upd_ne n]; exact h
theorem ns_nat : ∀ {ns : List Int}, (∀ j, ¬ Wrong ns j) → ∃ ps : List Nat, ns.map V.int = nvs ps ∧ ps.length = ns.length ∧ Tr.Ok ps := by
  intro ns h
  refine ⟨ns.map Int.toNat, ?_, List.length_map .., ?_⟩
  · unfold nvs
    rw [List.map_map]
    refine List.map_congr_left fun p hp => ?_
    obtain ⟨j, hj⟩ := List.getElem?_of_mem hp
    have q : 0 ≤ p := by
      by_cases c : 0 ≤ p
      · exact c
      · exact absurd ⟨p, hj, fun z => c z.1⟩ (h j)
    show V.int p = V.int (p.toNat : Int)
    rw [Int.toNat_of_nonneg q]
  · intro i p hp
    rw [List.getElem?_map] at hp
    cases e : ns[i]? with
    | none => rw [e] at hp; cases hp
    | some q =>
      rw [e] at hp
      obtain rfl : q.toNat = p := Option.some.inj hp
      by_cases c : 0 ≤ q ∧ q ≤ i
      · omega
      · exact absurd ⟨q, e, c⟩ (h i)
end EP
namespace EP
open PySem L2
theorem putF_len (f : Str) (v : V) : ∀ fs : List (Str × V), (putF f v fs).length ≤ fs.length + 1
  | [] => Nat.le_refl 1
  | (g, x) :: r => by
    unfold putF
    split
    · exact Nat.le_succ _
    · have := putF_len f v r
      simp only [List.length_cons]
      omega
theorem put_l1 {f : Str} {v : V} : (putF f v []).length < 1000 := Nat.lt_of_le_of_lt (putF_len f v []) (by decide)
theorem put_l2 {f g : Str} {u v : V} : (putF g u (putF f v [])).length < 1000 := by
  have a := putF_len g u (putF f v [])
  have b := putF_len f v []
  simp only [List.length_nil] at b
  omega
end EP
namespace EP
open PySem L2
theorem shf_no {t d : Addr} {n : Nat} {m : Str} (h1 : ¬ m = "parents") (h2 : ¬ m = "size") (h3 : ¬ m = "_masks") : (shf t d n).lookup m = none := by
  unfold shf
  have e1 : (m == ("parents" : Str)) = false := by simpa using h1
  have e2 : (m == ("size" : Str)) = false := by simpa using h2
  have e3 : (m == ("_masks" : Str)) = false := by simpa using h3
  simp only [List.lookup, e1, e2, e3]
theorem hasS_nat {ps : List Nat} {p w : Nat} (h : 1 ≤ w) : hasS ps (p : Int) (w : Int) = Tr.has ps p w := by
  unfold hasS
  rw [if_pos (by omega), Int.toNat_natCast, Int.toNat_natCast]
theorem hasS_neg {ps : List Nat} {p w : Nat} (h : 1 ≤ w) : hasS ps (p : Int) (-(w : Int)) = !Tr.has ps p w := by
  unfold hasS
  rw [if_neg (by omega), Int.toNat_natCast, show (- -(w : Int)).toNat = w by omega]
/-- the first item that is no position -/
def BadAt (n : Nat) (ns : List Int) (j : Nat) : Prop := (∃ p, ns[j]? = some p ∧ ¬ IsPos n p) ∧ ∀ i p, i < j → ns[i]? = some p → IsPos n p
theorem pos_nat {n : Nat} : ∀ {ns : List Int}, (∀ p, p ∈ ns → IsPos n p) → ∃ L : List Nat, ns.map V.int = nvs L ∧ L.length = ns.length ∧ (∀ p, p ∈ L → p ≤ n) ∧ ns = L.map fun (p : Nat) => (p : Int) := by
  intro ns h
  have e : ns = (ns.map Int.toNat).map fun (p : Nat) => (p : Int) := by
    rw [List.map_map]
    have : ns.map (fun p => p) = ns.map ((fun (p : Nat) => (p : Int)) ∘ Int.toNat) := List.map_congr_left fun p hp => by
      have := (h p hp).1
      show p = (p.toNat : Int)
      omega
    rw [List.map_id'] at this
    exact this
  refine ⟨ns.map Int.toNat, ?_, List.length_map .., fun p hp => ?_, e⟩
  · unfold nvs
    conv => lhs; rw [e]
    rw [List.map_map]
    rfl
  · obtain ⟨q, hq, rfl⟩ := List.mem_map.mp hp
    have := h q hq
    unfold IsPos at this
    omega
theorem ns_get {ns : List Int} {i : Nat} {x : V} (hx : (ns.map V.int)[i]? = some x) : ∃ p, ns[i]? = some p ∧ x = V.int p := by
  rw [List.getElem?_map] at hx
  cases e : ns[i]? with
  | none => rw [e] at hx; cases hx
  | some p => rw [e] at hx; exact ⟨p, rfl, (Option.some.inj hx).symm⟩
end EP

namespace EP
open PySem L2 PySem.Spec PyProof.Rows
/-! ### the rules with the written part named (within a comprehension) -/
section
variable {X : Cx} {K : PySem.W.Frag}
def rLenK (K : PySem.W.Frag) : List V → Hp → VK → Prop := fun xs H Q => ∃ p ys, xs = [.ref p] ∧ (SqL K H p ys ∨ SqT K H p ys) ∧ Q (.int ys.length) H
theorem call_lenK (h : X.K = K := by rfl) : CallR X (.builtin "len") (rLenK K) := h ▸ call_len_seq
theorem ix_listK (h : X.K = K := by rfl) : IxR X (rIxL K) := h ▸ ix_list
theorem ix_tupK (h : X.K = K := by rfl) : IxR X (rIxT K) := h ▸ ix_tup
theorem op_in_seqK (h : X.K = K := by rfl) : OpR X (compareOp .In) (rIn K false) := h ▸ op_in_seq
theorem op_notIn_seqK (h : X.K = K := by rfl) : OpR X (compareOp .NotIn) (rIn K true) := h ▸ op_notIn_seq
theorem pe_fldK {e : Expr} {ta : TE} {f : Str} {pos : Pos} (h : X.K = K) (he : PE X e ta) (hb : attributeBase e f X.env (eval e X.env) = eval e X.env) : PE X (.Attribute e f pos) (tFld K ta f) := by
  subst h
  exact pe_fld he hb
end
end EP

namespace EP
open PySem L2 PySem.Spec PyProof.Rows
section
variable {X : Cx} {CX : CXT} {k : Nat} {f C : Addr} {fd : FuncData} {ps : List Str} {sp : Sp} {E : L2.St → XK} {x m : Str} {p pos apos : Pos} {e o : Expr} {es : List Expr} {ta : TE} {t : TA}
/-- o.m(e, ..), what it raises wished for at the slots -/
def tMethT (C : Addr) (m : Str) (sp : Sp) (E : L2.St → XK) (ta : TE) (t : TA) : TE := fun σ H Q => ta σ H fun x H1 => ∃ a dx fs, x = .ref a ∧ H1 a = some (.ins C dx fs) ∧ fs.lookup m = none ∧ t σ H1 fun vs H2 => sp (x :: vs) H2 Q (E σ)
theorem pe_methT {pl : Sem Bool} (he : PE X o ta) (c : Cls X.K C) (hm : Meth X.K C m f) (F : FnOk X.prog X.w X.K X.mg X.base CX k f fd ps sp) (hr : Room k X.A) (hb : Binds X.K fd ps []) (hx : ∀ σ, PassesAt CX X σ (E σ)) (ha : PA X (e :: es) t)
    (hst : starEach (e :: es) X.env = (false, eval e X.env) :: starEach es X.env := by rfl) (hpl : (backTo pos (starEach es X.env)).any (·.1) = false := by rfl)
    (ht : eval (.Call (.Attribute o m apos) (e :: es) [] pos) X.env = (do
      let ov ← eval o X.env
      standAt apos.atName
      let (g, first) ← holding [ov] (getMethod ov m pl)
      callWith pos g first (backTo pos (starEach (e :: es) X.env)) (backToKw pos (keywordEach [] X.env))) := by rfl) :
    PE X (.Call (.Attribute o m apos) (e :: es) [] pos) (tMethT C m sp E ta t) := by
  refine ⟨fun pins s σ H Q I h => PySem.W.methodCall_KW (pl := pl) (thn (he.run pins s σ H _ I h) fun u s1 z => ?_) ht⟩
  obtain ⟨x, H1, I1, rx, a, dx, fs, rfl, ea, l, q⟩ := z
  obtain rfl : u = Value.ref a := rx
  refine getmeth_ok I1 ea c hm l (PySem.W.callWith_K (first := [.ref a]) (h₀ := X.base) I.ok.mod.kin hm.kp (thn (ha.run pos pins s1 σ H1 _ I1 q) fun us s2 z => ?_) hst hpl)
  obtain ⟨vs, H2, I2, r, q2⟩ := z
  exact ⟨I2.kIn, run_fnS (us := .ref a :: us) (vs := .ref a :: vs) F hr hb (hx σ) I2 (.cons rfl r) q2⟩
end
end EP
namespace EP
open PySem L2
def spIsNum (K : PySem.W.Frag) (C : Addr) : Sp := fun vs H Q _ => ∃ (s : Addr) (ps : List Nat) (k : Int), vs = [.ref s, .int k] ∧ ShapeAt K C H s ps ∧ Q (.bl (decide (IsSide ps.length k))) H
def spChkPos (K : PySem.W.Frag) (C D : Addr) : Sp := fun vs H Q E => ∃ (s : Addr) (ps : List Nat) (p : Int), vs = [.ref s, .int p] ∧ ShapeAt K C H s ps ∧ (IsPos ps.length p → Q .non H) ∧ (¬ IsPos ps.length p → Small p ∧ ∀ d, H d = none → E (.ref D) (some d) (upd H d (.xd [("position", .int p)])))
theorem is_num {Q : VK} {H : Hp} {b : Bool} {n : Nat} {k : Int} (q : Q (.bl (decide (IsSide n k))) H) (h : b = decide (IsSide n k)) : Q (.bl b) H := h ▸ q
end EP
namespace EP
open PySem L2
def spChkSide (K : PySem.W.Frag) (C D : Addr) : Sp := fun vs H Q E => ∃ (s : Addr) (ps : List Nat) (k : Int), vs = [.ref s, .int k] ∧ ShapeAt K C H s ps ∧ (IsSide ps.length k → Q .non H) ∧ (¬ IsSide ps.length k → Small k ∧ ∀ d, H d = none → E (.ref D) (some d) (upd H d (.xd [("side", .int k)])))
def spHas (K : PySem.W.Frag) (C D D2 : Addr) : Sp := fun vs H Q E => ∃ (s : Addr) (ps : List Nat) (p k : Int), vs = [.ref s, .int p, .int k] ∧ ShapeAt K C H s ps ∧ (IsPos ps.length p → IsSide ps.length k → Q (.bl (hasS ps p k)) H) ∧
  (¬ IsPos ps.length p → Small p ∧ ∀ d, H d = none → E (.ref D) (some d) (upd H d (.xd [("position", .int p)]))) ∧ (IsPos ps.length p → ¬ IsSide ps.length k → Small k ∧ ∀ d, H d = none → E (.ref D2) (some d) (upd H d (.xd [("side", .int k)])))
end EP
namespace EP
open PySem L2
def spMasks (K : PySem.W.Frag) : Sp := fun vs H Q _ => ∃ (t : Addr) (ps : List Nat), vs = [.ref t] ∧ SqT K H t (nvs ps) ∧ Tr.Ok ps ∧ ps.length ≤ 1000 ∧ ∀ d kvs H', Same H H' → H d = none → H' d = some (.dK kvs) → MasksOk ps kvs → Q (.ref d) H'
end EP
namespace EP
open PySem L2
def spShape (K : PySem.W.Frag) (C D : Addr) : Sp := fun vs H Q E => ∃ (s dx l : Addr) (ns : List Int), vs = [.ref s, .ref l] ∧ H s = some (.ins C dx []) ∧ (SqL K H l (ns.map V.int) ∨ SqT K H l (ns.map V.int)) ∧ ns.length ≤ 1000 ∧
  (∀ ps H', ns.map V.int = nvs ps → Tr.Ok ps → 1 ≤ ps.length → But s H H' → ShapeAt K C H' s ps → Q .non H') ∧
  (∀ j, Wrong ns j → (∀ i, i < j → ¬ Wrong ns i) → ∀ d H', Same H H' → H d = none → H' d = some (.xd [("place", .int (j : Nat))]) → E (.ref D) (some d) H') ∧
  (ns = [] → ∀ d H', Same H H' → H d = none → H' d = some (.xd [("place", .int 0)]) → E (.ref D) (some d) H')
end EP
namespace EP
open PySem L2
def spOddMid (K : PySem.W.Frag) (C D D2 : Addr) : Sp := fun vs H Q E => ∃ (s l : Addr) (ps : List Nat) (ns : List Int), vs = [.ref s, .ref l] ∧ ShapeAt K C H s ps ∧ SqL K H l (ns.map V.int) ∧ ns.length ≤ 100 ∧
  (∀ L H', ns = L.map (fun (p : Nat) => (p : Int)) → (∀ p, p ∈ L → p ≤ ps.length) → L.length % 2 = 1 → Same H H' → Q (.int (Tr.mid ps L ps.length : Nat)) H') ∧
  (∀ j p, BadAt ps.length ns j → ns[j]? = some p → Small p ∧ ∀ d, H d = none → E (.ref D) (some d) (upd H d (.xd [("position", .int p)]))) ∧
  ((∀ p, p ∈ ns → IsPos ps.length p) → ns.length % 2 = 0 → ∀ d, H d = none → E (.ref D2) (some d) (upd H d (.xd [("number", .int (ns.length : Nat))])))
end EP
namespace EP
open PySem L2
def spMid (K : PySem.W.Frag) (C D : Addr) : Sp := fun vs H Q E => ∃ (s : Addr) (ps : List Nat) (a b c : Int), vs = [.ref s, .int a, .int b, .int c] ∧ ShapeAt K C H s ps ∧
  (∀ (a' b' c' : Nat) H', a = a' → b = b' → c = c' → a' ≤ ps.length → b' ≤ ps.length → c' ≤ ps.length → Same H H' → Q (.int (Tr.mid ps [a', b', c'] ps.length : Nat)) H') ∧
  (∀ p, (∃ j, BadAt ps.length [a, b, c] j ∧ [a, b, c][j]? = some p) → Small p ∧ ∀ d H', Same H H' → H d = none → H' d = some (.xd [("position", .int p)]) → E (.ref D) (some d) H')
end EP

namespace EP
open PySem L2
/-! ### the law's own tape -/
def tp (u : Addr) (i b s c : Int) : List V := [.ref u, .int i, .int b, .int s, .int c]
def Tape (H : Hp) (t u : Addr) : Prop := ∃ (xs : List Int) (i b s c : Int), H t = some (.lst (tp u i b s c)) ∧ H u = some (.lst (xs.map V.int)) ∧ 0 ≤ i
theorem nvs_tp {ps : List Nat} {u : Addr} {i b s c : Int} : nvs ps ≠ tp u i b s c := fun e => by
  cases ps with
  | nil => cases e
  | cons p ps => unfold nvs tp at e; simp at e
theorem ints_tp {ns : List Int} {u : Addr} {i b s c : Int} : ns.map V.int ≠ tp u i b s c := fun e => by
  cases ns with
  | nil => cases e
  | cons p ps => unfold tp at e; simp at e
theorem Tape.ne {H : Hp} {t u l : Addr} {ps : List Nat} (h : Tape H t u) (hl : H l = some (.lst (nvs ps))) : l ≠ t := fun e => by
  obtain ⟨xs, i, b, s, c, h1, _⟩ := h
  rw [← e, hl] at h1
  exact nvs_tp (HO.lst.inj (Option.some.inj h1))
theorem Tape.neI {H : Hp} {t u l : Addr} {ns : List Int} (h : Tape H t u) (hl : H l = some (.lst (ns.map V.int))) : l ≠ t := fun e => by
  obtain ⟨xs, i, b, s, c, h1, _⟩ := h
  rw [← e, hl] at h1
  exact ints_tp (HO.lst.inj (Option.some.inj h1))
theorem Tape.same {H H' : Hp} {t u : Addr} (h : Tape H t u) (e : Same H H') : Tape H' t u := by
  obtain ⟨xs, i, b, s, c, h1, h2, h3⟩ := h
  exact ⟨xs, i, b, s, c, e _ _ h1, e _ _ h2, h3⟩
theorem Tape.new {H : Hp} {t u : Addr} (h : Tape H t u) : H t ≠ none := fun e => by
  obtain ⟨xs, i, b, s, c, h1, _⟩ := h
  rw [h1] at e
  cases e
theorem Tape.newu {H : Hp} {t u : Addr} (h : Tape H t u) : H u ≠ none := fun e => by
  obtain ⟨xs, i, b, s, c, h1, h2, _⟩ := h
  rw [h2] at e
  cases e
theorem But.of_new {t d : Addr} {H : Hp} {o : HO} (h : H d = none) : But t H (upd H d o) := But.of_same (same_new h)
theorem But.free {t l : Addr} {H H' : Hp} (e : But t H H') (hn : l ≠ t) (h : H' l = Option.none) : H l = Option.none := by
  cases z : H l with
  | none => rfl
  | some o => rw [e l o hn z] at h; cases h
theorem But.upd_at {t l : Addr} {H H0 : Hp} {o : HO} (e : But t H0 H) (h0 : H0 l = none) : But t H0 (upd H l o) := fun b v n hb => by
  rw [upd_ne (ne_of_none hb h0)]
  exact e b v n hb
def absI (i : Int) : Int := if i < 0 then -i else i
def spTape (K : PySem.W.Frag) : Sp := fun vs H Q _ => ∃ (a : Addr) (ns : List Int), vs = [.ref a] ∧ SqL K H a (ns.map V.int) ∧ ns.length ≤ 63 ∧ ∀ t u H', Same H H' → H t = none → Tape H' t u → Q (.ref t) H'
def spNext : Sp := fun vs H Q _ => ∃ (t u : Addr) (n : Int), vs = [.ref t, .int n] ∧ 0 < n ∧ n < 2 ^ 60 ∧ Tape H t u ∧ ∀ (r : Nat) H', (r : Int) < n → Tape H' t u → But t H H' → (∀ b, b ≠ t → H' b = H b) → Q (.int r) H'
def spLParents : Sp := fun vs H Q _ => ∃ (t u : Addr) (m : Nat), vs = [.ref t, .int m] ∧ 1 ≤ m ∧ m ≤ 100 ∧ Tape H t u ∧ ∀ l ps H', Tr.Ok ps → 1 ≤ ps.length → ps.length ≤ m → Tape H' t u → But t H H' → H l = none → H' l = some (.lst (nvs ps)) → Q (.ref l) H'
def spAbove (K : PySem.W.Frag) : Sp := fun vs H Q _ => ∃ (l : Addr) (ps : List Nat) (p : Nat), vs = [.ref l, .int p] ∧ SqL K H l (nvs ps) ∧ Tr.Ok ps ∧ ps.length ≤ 1000 ∧ p ≤ ps.length ∧ ∀ r H', Same H H' → H r = none → H' r = some (.lst (nvs (Tr.up ps p))) → Q (.ref r) H'
def spIsNumber : Sp := fun vs H Q _ => ∃ i : Int, vs = [.int i] ∧ Q (.bl true) H
def spFar : Sp := fun vs H Q _ => ∃ t u : Addr, vs = [.ref t] ∧ Tape H t u ∧ ∀ (r : Nat) H', r < 1000000000 → Tape H' t u → But t H H' → (∀ b, b ≠ t → H' b = H b) → Q (.int r) H'
def spBadPos : Sp := fun vs H Q _ => ∃ (t u l : Addr) (ps : List Nat), vs = [.ref t, .ref l] ∧ Tape H t u ∧ H l = some (.lst (nvs ps)) ∧ ps.length ≤ 1000 ∧ ∀ (p : Int) H', ¬ IsPos ps.length p → Small p → Tape H' t u → But t H H' → (∀ b, b ≠ t → H' b = H b) → Q (.int p) H'
def hadL (ps : List Nat) (p : Nat) : List V := (List.range ps.length).map fun k => V.int (Tr.side ps p (k + 1))
def spSidesHad (K : PySem.W.Frag) : Sp := fun vs H Q _ => ∃ (l : Addr) (ps : List Nat) (p : Nat), vs = [.ref l, .int p] ∧ SqL K H l (nvs ps) ∧ Tr.Ok ps ∧ ps.length ≤ 1000 ∧ p ≤ ps.length ∧ ∀ r H', Same H H' → H r = none → H' r = some (.lst (hadL ps p)) → Q (.ref r) H'
/-- at h the list of the lists of the sides of all positions -/
def Had (H : Hp) (h : Addr) (ps : List Nat) : Prop := ∃ rs : List Addr, H h = some (.lst (rs.map V.ref)) ∧ rs.length = ps.length + 1 ∧ ∀ (p : Nat) (r : Addr), rs[p]? = some r → H r = some (.lst (hadL ps p))
theorem Had.same {H H' : Hp} {h : Addr} {ps : List Nat} (a : Had H h ps) (e : Same H H') : Had H' h ps := by
  obtain ⟨rs, h1, h2, h3⟩ := a
  exact ⟨rs, e _ _ h1, h2, fun p r hr => e _ _ (h3 p r hr)⟩
theorem hadL_len (ps : List Nat) (p : Nat) : (hadL ps p).length = ps.length := by unfold hadL; rw [List.length_map, List.length_range]
theorem hadL_get {ps : List Nat} {p k : Nat} (h : k < ps.length) : (hadL ps p)[k]? = some (V.int (Tr.side ps p (k + 1))) := by
  unfold hadL
  rw [List.getElem?_map, List.getElem?_range h]
  rfl
theorem Had.row {H : Hp} {h : Addr} {ps : List Nat} (a : Had H h ps) {p : Nat} (hp : p ≤ ps.length) : ∃ (vs : List V) (r : Addr), H h = some (.lst vs) ∧ vs.length = ps.length + 1 ∧ vs[p]? = some (V.ref r) ∧ H r = some (.lst (hadL ps p)) := by
  obtain ⟨rs, h1, h2, h3⟩ := a
  have e := List.getElem?_eq_getElem (l := rs) (i := p) (by omega)
  exact ⟨_, rs[p], h1, by rw [List.length_map]; exact h2, by rw [List.getElem?_map, e]; rfl, h3 p _ e⟩
def spBetween : Sp := fun vs H Q _ => ∃ (h : Addr) (ps : List Nat) (p a b : Nat), vs = [.ref h, .int p, .int a, .int b] ∧ Had H h ps ∧ ps.length ≤ 1000 ∧ p ≤ ps.length ∧ a ≤ ps.length ∧ b ≤ ps.length ∧ ∀ z : Bool, (z = true ↔ Tr.betw ps ps.length p a b) → Q (.bl z) H
def spOnAll : Sp := fun vs H Q _ => ∃ (h : Addr) (ps : List Nat) (a b c : Nat), vs = [.ref h, .int a, .int b, .int c] ∧ Had H h ps ∧ ps.length ≤ 1000 ∧ a ≤ ps.length ∧ b ≤ ps.length ∧ c ≤ ps.length ∧ ∀ r H', Same H H' → H r = none → H' r = some (.lst (nvs [Tr.mid ps [a, b, c] ps.length])) → Q (.ref r) H'
def spSix (K : PySem.W.Frag) (C : Addr) : Sp := fun vs H Q _ => ∃ (s l th : Addr) (ps : List Nat) (a b c : Nat), vs = [.ref s, .ref l, .ref th] ∧ ShapeAt K C H s ps ∧ H l = some (.lst (nvs ps)) ∧ H th = some (.lst (nvs [a, b, c])) ∧ a ≤ ps.length ∧ b ≤ ps.length ∧ c ≤ ps.length ∧ ∀ H', Same H H' → Q (.bl true) H'
def spMidRef (K : PySem.W.Frag) (C : Addr) : Sp := fun vs H Q _ => ∃ (s : Addr) (ps : List Nat) (a b c p : Int), vs = [.ref s, .int a, .int b, .int c, .int p] ∧ ShapeAt K C H s ps ∧ (∃ j, BadAt ps.length [a, b, c] j ∧ [a, b, c][j]? = some p) ∧ Small p ∧ ∀ H', Same H H' → Q (.bl true) H'
def spLaw (K : PySem.W.Frag) : Sp := fun vs H Q _ => ∃ (a : Addr) (ns : List Int), vs = [.ref a] ∧ SqL K H a (ns.map V.int) ∧ ns.length ≤ 63 ∧ ∀ H', Q (.bl true) H'
end EP

namespace EP
open PySem L2
theorem emod_in {x m : Int} (h : 0 < m) : 0 ≤ x % m ∧ x % m < m := ⟨Int.emod_nonneg _ (by omega), Int.emod_lt_of_pos _ h⟩
end EP

namespace EP
open PySem L2
theorem nvs_flat (ps : List Nat) : (nvs ps).all flatV = true := by
  unfold nvs
  rw [List.all_map, List.all_eq_true]
  intro x _
  rfl
theorem nvs_in {ps : List Nat} {x : Int} {k : Nat} (h : x = (k : Int)) : inV (V.int x) (nvs ps) = decide (k ∈ ps) := by
  subst h
  unfold inV nvs
  rw [List.any_map]
  induction ps with
  | nil => rfl
  | cons p ps ih =>
    rw [List.any_cons, ih]
    show (decide ((p : Int) = (k : Int)) || _) = _
    by_cases e : k = p
    · subst e; simp
    · have : ¬ ((p : Int) = (k : Int)) := by omega
      simp [e, this]
end EP

namespace EP
open PySem L2
theorem same_mut {H H' : Hp} {D : Addr} {o : HO} (e : Same H H') (h : H D = none) : Same H (upd H' D o) := fun b u hb => by
  rw [upd_ne (ne_of_none hb h)]
  exact e b u hb
def toI (L : List Nat) : List Int := L.map fun (p : Nat) => (p : Int)
theorem nvs_toI (L : List Nat) : nvs L = (toI L).map V.int := by unfold nvs toI; rw [List.map_map]; rfl
theorem toI_len (L : List Nat) : (toI L).length = L.length := List.length_map ..
theorem nvs_inj {a b : List Nat} (h : nvs a = nvs b) : a = b := by
  induction a generalizing b with
  | nil => cases b with
    | nil => rfl
    | cons y b => cases h
  | cons x a ih => cases b with
    | nil => cases h
    | cons y b =>
      have h' : V.int (x : Int) :: nvs a = V.int (y : Int) :: nvs b := h
      injection h' with h1 h2
      have := V.int.inj h1
      rw [ih h2, show x = y by omega]
theorem toI_get {L : List Nat} {j : Nat} {x : Int} (h : (toI L)[j]? = some x) : ∃ p, L[j]? = some p ∧ x = (p : Int) := by
  unfold toI at h
  rw [List.getElem?_map] at h
  cases e : L[j]? with
  | none => rw [e] at h; cases h
  | some p => rw [e] at h; exact ⟨p, rfl, (Option.some.inj h).symm⟩
theorem noWrong {ps : List Nat} (ok : Tr.Ok ps) {j : Nat} : ¬ Wrong (toI ps) j := fun ⟨p, hp, c⟩ => by
  obtain ⟨q, hq, rfl⟩ := toI_get hp
  have := ok j q hq
  omega
theorem dp_ints {K : PySem.W.Frag} {H : Hp} : ∀ ns : List Int, DpAll K H (ns.map V.int) (ns.map PyData.int)
  | [] => .nil
  | n :: ns => .cons (.int n) (dp_ints ns)
theorem dp_list {K : PySem.W.Frag} {H : Hp} {a : Addr} {L : List Nat} (h : SqL K H a (nvs L)) : Dp K H (.ref a) (.list ((toI L).map PyData.int)) := .lst h (by rw [nvs_toI]; exact dp_ints _)
theorem eqv_self (ns : List Int) : PyData.eqv (.list (ns.map PyData.int)) (.list (ns.map PyData.int)) = true := by
  show PyData.eqvAll _ _ = true
  rw [PySem.W.ked_eqvAll]
  exact decide_eq_true rfl
theorem BadAt.uniq {n : Nat} {ns : List Int} {i j : Nat} (a : BadAt n ns i) (b : BadAt n ns j) : i = j := by
  obtain ⟨⟨p, hp, cp⟩, fp⟩ := a
  obtain ⟨⟨q, hq, cq⟩, fq⟩ := b
  by_cases h : i < j
  · exact absurd (fq i p h hp) cp
  · by_cases h2 : j < i
    · exact absurd (fp j q h2 hq) cq
    · omega
theorem three_of {a b c : Nat} {i j k : Nat} (h : (i, j, k) ∈ [(0, 1, 2), (0, 2, 1), (1, 0, 2), (1, 2, 0), (2, 0, 1), (2, 1, 0)]) : ∃ x y z : Nat, [a, b, c][i]? = some x ∧ [a, b, c][j]? = some y ∧ [a, b, c][k]? = some z ∧ [x, y, z].Perm [a, b, c] := by
  simp only [List.mem_cons, Prod.mk.injEq, List.not_mem_nil, or_false] at h
  rcases h with ⟨rfl, rfl, rfl⟩ | ⟨rfl, rfl, rfl⟩ | ⟨rfl, rfl, rfl⟩ | ⟨rfl, rfl, rfl⟩ | ⟨rfl, rfl, rfl⟩ | ⟨rfl, rfl, rfl⟩
  · exact ⟨a, b, c, rfl, rfl, rfl, .refl _⟩
  · exact ⟨a, c, b, rfl, rfl, rfl, .cons _ (.swap ..)⟩
  · exact ⟨b, a, c, rfl, rfl, rfl, .swap ..⟩
  · exact ⟨b, c, a, rfl, rfl, rfl, (List.Perm.cons b (.swap a c [])).trans (.swap a b [c])⟩
  · exact ⟨c, a, b, rfl, rfl, rfl, (List.Perm.swap a c [b]).trans (.cons _ (.swap ..))⟩
  · exact ⟨c, b, a, rfl, rfl, rfl, ((List.Perm.swap b c [a]).trans (.cons b (.swap a c []))).trans (.swap a b [c])⟩
end EP

namespace EP
open PySem L2
theorem xd_get {f : Str} {v : V} : List.lookup f [(f, v)] = some v := by simp [List.lookup]
end EP

namespace EP
open PySem L2
theorem ok_snoc {ps : List Nat} {p : Nat} (ok : Tr.Ok ps) (h : p ≤ ps.length) : Tr.Ok (ps ++ [p]) := fun j x hx => by
  rw [List.getElem?_append] at hx
  split at hx
  · exact ok j x hx
  · rename_i hj
    obtain rfl : p = x := by
      cases e : j - ps.length with
      | zero => rw [e] at hx; exact Option.some.inj hx
      | succ z => rw [e] at hx; cases hx
    omega
theorem Tape.upd {H : Hp} {t u l : Addr} {o : HO} (h : Tape H t u) (h1 : t ≠ l) (h2 : u ≠ l) : Tape (L2.upd H l o) t u := by
  obtain ⟨xs, i, b, s, c, a1, a2, a3⟩ := h
  exact ⟨xs, i, b, s, c, by rw [upd_ne h1]; exact a1, by rw [upd_ne h2]; exact a2, a3⟩
/-- a made shape: what stood before stands -/
theorem made {H H' : Hp} {x dx C : Addr} (nx : H x = none) (nd : H dx = none) (k : But x (upd (upd H dx (.own x)) x (.ins C dx [])) H') : Same H H' := fun b o hb =>
  k b o (ne_of_none hb nx) (by rw [upd_ne (ne_of_none hb nx), upd_ne (ne_of_none hb nd)]; exact hb)
theorem made_at {H : Hp} {x dx C l : Addr} {o : HO} (nx : H x = none) (nd : H dx = none) (hl : H l = some o) : (upd (upd H dx (.own x)) x (.ins C dx [])) l = some o := by
  rw [upd_ne (ne_of_none hl nx), upd_ne (ne_of_none hl nd)]
  exact hl
end EP

namespace EP
open PySem L2
/-! ### ways, parting walls, distances -/
theorem cut_to {L : List Nat} {k : Nat} (h : k ≤ L.length) : cutV (nvs L) none (some (k : Int)) = nvs (L.take k) := by
  unfold cutV
  rw [HT.sIx_none, HT.sIx_nat, nvs_len, Nat.min_eq_left h, List.drop_zero, Nat.sub_zero]
  unfold nvs
  rw [List.map_take]
theorem nvs_app (a b : List Nat) : nvs a ++ nvs b = nvs (a ++ b) := by unfold nvs; rw [List.map_append]
theorem nvs_rev (a : List Nat) : (nvs a).reverse = nvs a.reverse := by unfold nvs; rw [List.map_reverse]
theorem last_at (L : List Nat) (x : Nat) : atI (nvs (L ++ [x])) (-1) = some (V.int (x : Int)) := by rw [← nvs_snoc]; exact atI_last _ _
def spClimb (K : PySem.W.Frag) (C : Addr) : Sp := fun vs H Q _ => ∃ (s : Addr) (ps : List Nat) (p : Nat), vs = [.ref s, .int p] ∧ ShapeAt K C H s ps ∧ p ≤ ps.length ∧ ∀ r H', Same H H' → H r = none → H' r = some (.lst (nvs (Tr.ch ps p))) → Q (.ref r) H'
/-- two positions asked of a shape -/
def Two (K : PySem.W.Frag) (C D : Addr) (good : List Nat → Nat → Nat → Hp → Hp → VK → Prop) : Sp := fun vs H Q E => ∃ (s : Addr) (ps : List Nat) (a b : Int), vs = [.ref s, .int a, .int b] ∧ ShapeAt K C H s ps ∧
  (∀ (a' b' : Nat), a = a' → b = b' → a' ≤ ps.length → b' ≤ ps.length → ∀ H', Same H H' → good ps a' b' H H' Q) ∧
  (∀ p, (∃ j, BadAt ps.length [a, b] j ∧ [a, b][j]? = some p) → Small p ∧ ∀ d H', Same H H' → H d = none → H' d = some (.xd [("position", .int p)]) → E (.ref D) (some d) H')
def spWay (K : PySem.W.Frag) (C D : Addr) : Sp := Two K C D fun ps a b H H' Q => ∀ r, H r = none → H' r = some (.lst (nvs (Tr.way ps a b))) → Q (.ref r) H'
def spParting (K : PySem.W.Frag) (C D : Addr) : Sp := Two K C D fun ps a b H H' Q => ∀ r, H r = none → H' r = some (.lst (nvs (Tr.parting ps a b))) → Q (.ref r) H'
def spDistance (K : PySem.W.Frag) (C D : Addr) : Sp := Two K C D fun ps a b H H' Q => Q (.int ((Tr.parting ps a b).length : Nat)) H'
theorem bad2_0 {n : Nat} {a b : Int} (h : ¬ IsPos n a) : ∃ j, BadAt n [a, b] j ∧ [a, b][j]? = some a := ⟨0, ⟨⟨a, rfl, h⟩, fun i p h => absurd h (Nat.not_lt_zero _)⟩, rfl⟩
theorem bad2_1 {n : Nat} {a b : Int} (h0 : IsPos n a) (h : ¬ IsPos n b) : ∃ j, BadAt n [a, b] j ∧ [a, b][j]? = some b := ⟨1, ⟨⟨b, rfl, h⟩, fun i p hi hp => by
  obtain rfl : i = 0 := by omega
  cases hp
  exact h0⟩, rfl⟩
theorem bad2_no {n : Nat} {a b : Int} (ha : IsPos n a) (hb : IsPos n b) {j : Nat} (h : BadAt n [a, b] j) : False := by
  obtain ⟨⟨p, hp, cp⟩, _⟩ := h
  match j, hp with
  | 0, hp => cases hp; exact cp ha
  | 1, hp => cases hp; exact cp hb
  | n + 2, hp => simp at hp
theorem posOf {n : Nat} {a : Int} (h : IsPos n a) : ∃ a' : Nat, a = a' ∧ a' ≤ n := ⟨a.toNat, by unfold IsPos at h; omega, by unfold IsPos at h; omega⟩
def spLParting (K : PySem.W.Frag) : Sp := fun vs H Q _ => ∃ (l : Addr) (ps : List Nat) (a b : Nat), vs = [.ref l, .int a, .int b] ∧ SqL K H l (nvs ps) ∧ Tr.Ok ps ∧ ps.length ≤ 1000 ∧ a ≤ ps.length ∧ b ≤ ps.length ∧ ∀ r H', Same H H' → H r = none → H' r = some (.lst (nvs (Tr.parting ps a b))) → Q (.ref r) H'
def spInts (K : PySem.W.Frag) : Sp := fun vs H Q _ => ∃ (x y : Addr) (L : List Nat), vs = [.ref x, .ref y] ∧ H x = some (.lst (nvs L)) ∧ SqL K H y (nvs L) ∧ L.length ≤ 5000 ∧ Q (.bl true) H
def spIsWay (K : PySem.W.Frag) : Sp := fun vs H Q _ => ∃ (l w : Addr) (ps : List Nat) (a b : Nat), vs = [.ref l, .ref w, .int a, .int b] ∧ SqL K H l (nvs ps) ∧ H w = some (.lst (nvs (Tr.way ps a b))) ∧ Tr.Ok ps ∧ ps.length ≤ 1000 ∧ a ≤ ps.length ∧ b ≤ ps.length ∧ ∀ H', Same H H' → Q (.bl true) H'
def spPair (K : PySem.W.Frag) (C : Addr) : Sp := fun vs H Q _ => ∃ (s l : Addr) (ps : List Nat) (a b : Nat), vs = [.ref s, .ref l, .int a, .int b] ∧ ShapeAt K C H s ps ∧ H l = some (.lst (nvs ps)) ∧ a ≤ ps.length ∧ b ≤ ps.length ∧ ∀ H', Same H H' → Q (.bl true) H'
def spRef2 (K : PySem.W.Frag) (C : Addr) : Sp := fun vs H Q _ => ∃ (s : Addr) (ps : List Nat) (a b p : Int), vs = [.ref s, .int a, .int b, .int p] ∧ ShapeAt K C H s ps ∧ (∃ j, BadAt ps.length [a, b] j ∧ [a, b][j]? = some p) ∧ Small p ∧ ∀ H', Same H H' → Q (.bl true) H'
end EP

namespace EP
open PySem L2
theorem take_one {L : List Nat} {k p : Nat} (h : L[k]? = some p) : L.take (k + 1) = L.take k ++ [p] := by
  have hk := (List.getElem?_eq_some_iff.mp h).1
  rw [List.take_succ_eq_append_getElem hk, (List.getElem?_eq_some_iff.mp h).2]
theorem filt_len (L : List Nat) (k : Nat) (f : Nat → Bool) (h : L.length ≤ 2000) : ((L.take k).filter f).length ≤ 2000 := by
  have a := List.length_filter_le f (L.take k)
  have b : (L.take k).length ≤ L.length := by rw [List.length_take]; omega
  omega
theorem ch_len {ps : List Nat} : ∀ {p n : Nat}, p ≤ ps.length → p ≤ n → (Tr.ch ps p).length ≤ n + 1 := by
  intro p
  induction p using Nat.strongRecOn with
  | _ p ih =>
    intro n hp hn
    by_cases h : 1 ≤ p
    · have l := Tr.par_lt ps h
      have := ih _ l (n := n - 1) (by omega) (by omega)
      rw [Tr.ch_pos ps h, List.length_cons]
      omega
    · obtain rfl : p = 0 := by omega
      rw [Tr.ch_zero]
      show 1 ≤ n + 1
      omega
end EP
namespace EP
open PySem L2
/-! ### == of lists and tuples of ints -/
theorem dpAll_ints {K : PySem.W.Frag} {H : Hp} : ∀ ns : List Int, DpAll K H (ns.map V.int) (ns.map PyData.int)
  | [] => .nil
  | n :: ns => .cons (.int n) (dpAll_ints ns)
theorem dp_lst {K : PySem.W.Frag} {H : Hp} {a : Addr} {ns : List Int} (h : SqL K H a (ns.map V.int)) : Dp K H (.ref a) (.list (ns.map PyData.int)) := .lst h (dpAll_ints ns)
theorem dp_tup {K : PySem.W.Frag} {H : Hp} {a : Addr} {ns : List Int} (h : SqT K H a (ns.map V.int)) : Dp K H (.ref a) (.tuple (ns.map PyData.int)) := .tup h (dpAll_ints ns)
theorem shaped_lst (ns : List Int) : SeqAt.shaped (.list (ns.map PyData.int)) = true := PySem.W.ke_shaped_ints ns
theorem shaped_tup (ns : List Int) : SeqAt.shaped (.tuple (ns.map PyData.int)) = true := by
  simp [SeqAt.shaped, PyData.canLay0, PyData.depth, PySem.W.ke_canLayAll0, PySem.W.ke_depthAll]
theorem eqvAll_ints : ∀ ns ms : List Int, PyData.eqvAll (ns.map PyData.int) (ms.map PyData.int) = decide (ns = ms)
  | [], [] => by simp [PyData.eqvAll]
  | [], _ :: _ => by simp [PyData.eqvAll]
  | _ :: _, [] => by simp [PyData.eqvAll]
  | a :: r, b :: t => by
    simp only [List.map_cons, PyData.eqvAll, PyData.eqv, eqvAll_ints r t]
    by_cases h : a = b <;> by_cases h' : r = t <;> simp [h, h']
theorem eqv_lst (ns ms : List Int) : PyData.eqv (.list (ns.map PyData.int)) (.list (ms.map PyData.int)) = decide (ns = ms) := by simp only [PyData.eqv]; exact eqvAll_ints ns ms
theorem eqv_tup (ns ms : List Int) : PyData.eqv (.tuple (ns.map PyData.int)) (.tuple (ms.map PyData.int)) = decide (ns = ms) := by simp only [PyData.eqv]; exact eqvAll_ints ns ms
theorem toI_inj {a b : List Nat} : toI a = toI b ↔ a = b := ⟨fun h => nvs_inj (by rw [nvs_toI, nvs_toI, h]), fun h => by rw [h]⟩
theorem rgV_nvs (n : Nat) : rgV 0 (n : Int) = nvs (List.range n) := by
  unfold rgV nvs
  rw [show ((n : Int) - 0).toNat = n by omega]
  refine List.map_congr_left fun i _ => ?_
  rw [show (0 : Int) + (i : Int) = (i : Int) by omega]
theorem rgV_neg {n : Int} (h : n < 1) : rgV 0 n = [] := by
  unfold rgV
  rw [show (n - 0).toNat = 0 by omega]
  rfl
theorem ok_range (n : Nat) : Tr.Ok (List.range n) := fun i p h => by
  have hi := (List.getElem?_eq_some_iff.mp h).1
  rw [List.getElem?_range (by simpa using hi)] at h
  cases h
  exact Nat.le_refl _
theorem ok_zeros (n : Nat) : Tr.Ok (List.replicate n 0) := fun i p h => by
  have := List.mem_of_getElem? h
  rw [List.mem_replicate] at this
  omega
/-! ### promises of the shapes' stage -/
def posL (ps : List Nat) (k : Int) : List Nat := (List.range (ps.length + 1)).filter fun p => hasS ps (p : Int) k
def spPosOf (K : PySem.W.Frag) (C D : Addr) : Sp := fun vs H Q E => ∃ (s : Addr) (ps : List Nat) (k : Int), vs = [.ref s, .int k] ∧ ShapeAt K C H s ps ∧
  (IsSide ps.length k → ∀ r H', Same H H' → H r = none → H' r = some (.lst (nvs (posL ps k))) → Q (.ref r) H') ∧
  (¬ IsSide ps.length k → Small k ∧ ∀ d H', Same H H' → H d = none → H' d = some (.xd [("side", .int k)]) → E (.ref D) (some d) H')
def spSidesAt (K : PySem.W.Frag) (C D : Addr) : Sp := fun vs H Q E => ∃ (s : Addr) (ps : List Nat) (p : Int), vs = [.ref s, .int p] ∧ ShapeAt K C H s ps ∧
  (∀ p' : Nat, p = p' → p' ≤ ps.length → ∀ r H', Same H H' → H r = none → H' r = some (.lst (hadL ps p')) → Q (.ref r) H') ∧
  (¬ IsPos ps.length p → Small p ∧ ∀ d H', Same H H' → H d = none → H' d = some (.xd [("position", .int p)]) → E (.ref D) (some d) H')
def spIsLine (K : PySem.W.Frag) (C : Addr) : Sp := fun vs H Q _ => ∃ (s : Addr) (ps : List Nat), vs = [.ref s] ∧ ShapeAt K C H s ps ∧ ∀ H', Same H H' → Q (.bl (decide (ps = List.range ps.length))) H'
/-- a shape of n walls made: of the parents f n -/
def spMade (K : PySem.W.Frag) (C D : Addr) (f : Nat → List Nat) : Sp := fun vs H Q E => ∃ n : Int, vs = [.int n] ∧ -(2 ^ 62) ≤ n ∧ n ≤ 1000 ∧
  (1 ≤ n → ∀ s H', Same H H' → H s = none → ShapeAt K C H' s (f n.toNat) → Q (.ref s) H') ∧
  (n < 1 → ∀ d H', Same H H' → H d = none → H' d = some (.xd [("place", .int 0)]) → E (.ref D) (some d) H')
def spLine (K : PySem.W.Frag) (C D : Addr) : Sp := spMade K C D List.range
def spStar (K : PySem.W.Frag) (C D : Addr) : Sp := spMade K C D fun n => List.replicate n 0
def spEqual (K : PySem.W.Frag) (C : Addr) : Sp := fun vs H Q _ => ∃ (s t : Addr) (ps qs : List Nat), vs = [.ref s, .ref t] ∧ ShapeAt K C H s ps ∧ ShapeAt K C H t qs ∧ Q (.bl (decide (ps = qs))) H
def spYes : Sp := fun vs H Q _ => ∃ a : Bool, vs = [.bl a, .bl a] ∧ Q (.bl true) H
end EP
namespace EP
open PySem L2
theorem rep_one (n : Nat) : (List.replicate n [V.int 0]).flatten = nvs (List.replicate n 0) := by
  unfold nvs
  rw [List.map_replicate]
  induction n with
  | zero => rfl
  | succ n ih => rw [List.replicate_succ, List.flatten_cons, ih, List.replicate_succ]; rfl
end EP
namespace EP
open PySem L2
def spPosOfRef (K : PySem.W.Frag) (C : Addr) : Sp := fun vs H Q _ => ∃ (s : Addr) (ps : List Nat) (k : Int), vs = [.ref s, .int k] ∧ ShapeAt K C H s ps ∧ ¬ IsSide ps.length k ∧ Small k ∧ ∀ H', Same H H' → Q (.bl true) H'
def spSideRef (K : PySem.W.Frag) (C : Addr) : Sp := fun vs H Q _ => ∃ (s : Addr) (ps : List Nat) (p k : Int), vs = [.ref s, .int p, .int k] ∧ ShapeAt K C H s ps ∧ IsPos ps.length p ∧ ¬ IsSide ps.length k ∧ Small k ∧ ∀ H', Same H H' → Q (.bl true) H'
def spPosRef (K : PySem.W.Frag) (C : Addr) : Sp := fun vs H Q _ => ∃ (s : Addr) (ps : List Nat) (p k : Int), vs = [.ref s, .int p, .int k] ∧ ShapeAt K C H s ps ∧ ¬ IsPos ps.length p ∧ Small p ∧ ∀ H', Same H H' → Q (.bl true) H'
def spSidesAtRef (K : PySem.W.Frag) (C : Addr) : Sp := fun vs H Q _ => ∃ (s : Addr) (ps : List Nat) (p : Int), vs = [.ref s, .int p] ∧ ShapeAt K C H s ps ∧ ¬ IsPos ps.length p ∧ Small p ∧ ∀ H', Same H H' → Q (.bl true) H'
def spMadeRef : Sp := fun vs H Q _ => ∃ n : Int, vs = [.int n] ∧ -(2 ^ 62) ≤ n ∧ n < 1 ∧ ∀ H', Same H H' → Q (.bl true) H'
/-- the first wrong item, or 0 if none is wrong -/
def FirstW (ns : List Int) (w : Int) : Prop := (∃ j : Nat, w = (j : Int) ∧ Wrong ns j ∧ ∀ i, i < j → ¬ Wrong ns i) ∨ (w = 0 ∧ ∀ i, ¬ Wrong ns i)
def spFirstWrong (K : PySem.W.Frag) : Sp := fun vs H Q _ => ∃ (l : Addr) (ns : List Int), vs = [.ref l] ∧ SqL K H l (ns.map V.int) ∧ ns.length ≤ 1000 ∧ ∀ w, FirstW ns w → Q (.int w) H
end EP
namespace EP
open PySem L2
theorem ShapeAt.but {K : PySem.W.Frag} {C : Addr} {H H' : Hp} {s t u : Addr} {ps : List Nat} (S : ShapeAt K C H s ps) (hT : Tape H t u) (e : But t H H') : ShapeAt K C H' s ps := by
  obtain ⟨o, p, sm, dx, a, d, kvs, h1, h2, h3, h4⟩ := S
  obtain ⟨xs, i, b, s', c, ht, _⟩ := hT
  refine ⟨o, p, sm, dx, a, d, kvs, e s _ (fun z => by rw [z, ht] at h1; cases h1) h1, ?_, e d _ (fun z => by rw [z, ht] at h3; cases h3) h3, h4⟩
  rcases h2 with h2 | h2
  · rcases h2 with h2 | ⟨o', h2⟩
    · exact .inl (.inl (e a _ (fun z => by rw [z, ht] at h2; cases h2) h2))
    · exact .inl (.inr ⟨o', e a _ (fun z => by rw [z, ht] at h2; cases h2) h2⟩)
  · exact .inr h2
theorem cut_from {L : List Nat} {k : Nat} (h : k ≤ L.length) : cutV (nvs L) (some (k : Int)) none = nvs (L.drop k) := by
  unfold cutV
  rw [HT.sIx_none, HT.sIx_nat, nvs_len, Nat.min_eq_left h]
  unfold nvs
  rw [List.take_of_length_le (by simp), List.map_drop]
theorem ok_set {ps : List Nat} {k r : Nat} (ok : Tr.Ok ps) (hr : r ≤ k) : Tr.Ok (ps.set k r) := fun i p h => by
  rw [List.getElem?_set] at h
  split at h
  · rename_i e
    split at h
    · cases h; omega
    · cases h
  · exact ok i p h
theorem set_split {ps : List Nat} {k r : Nat} (h : k < ps.length) : ps.take k ++ [r] ++ ps.drop (k + 1) = ps.set k r := by
  rw [List.set_eq_take_append_cons_drop, if_pos h, List.append_assoc]
  rfl
theorem ok_take {ps : List Nat} {k : Nat} (ok : Tr.Ok ps) : Tr.Ok (ps.take k) := fun i p h => by
  rw [List.getElem?_take] at h
  split at h
  · exact ok i p h
  · cases h
def spNear : Sp := fun vs H Q _ => ∃ (t u l : Addr) (ps : List Nat), vs = [.ref t, .ref l] ∧ Tape H t u ∧ H l = some (.lst (nvs ps)) ∧ Tr.Ok ps ∧ 1 ≤ ps.length ∧ ps.length ≤ 8 ∧
  ∀ r qs H', Tr.Ok qs → 1 ≤ qs.length → qs.length ≤ 8 → Tape H' t u → But t H H' → H r = none → H' r = some (.lst (nvs qs)) → Q (.ref r) H'
def spSpoilt : Sp := fun vs H Q _ => ∃ (t u l : Addr) (ps : List Nat), vs = [.ref t, .ref l] ∧ Tape H t u ∧ H l = some (.lst (nvs ps)) ∧ 1 ≤ ps.length ∧ ps.length ≤ 8 ∧
  ∀ r ns H', ns.length = ps.length → (∃ j, Wrong ns j) → Tape H' t u → But t H H' → H r = none → H' r = some (.lst (ns.map V.int)) → Q (.ref r) H'
def spRefTold (K : PySem.W.Frag) (C : Addr) : Sp := fun vs H Q _ => ∃ (t u s : Addr) (ps : List Nat), vs = [.ref t, .ref s, .int ps.length] ∧ Tape H t u ∧ ShapeAt K C H s ps ∧ ∀ H', Tape H' t u → But t H H' → Q (.bl true) H'
def spTold (K : PySem.W.Frag) (C : Addr) : Sp := fun vs H Q _ => ∃ (s l : Addr) (ps : List Nat), vs = [.ref s, .ref l] ∧ ShapeAt K C H s ps ∧ SqL K H l (nvs ps) ∧ ∀ H', Same H H' → Q (.bl true) H'
def spEqTold (K : PySem.W.Frag) (C : Addr) : Sp := fun vs H Q _ => ∃ (s t : Addr) (ps qs : List Nat), vs = [.ref s, .ref t, .bl (decide (ps = qs))] ∧ ShapeAt K C H s ps ∧ ShapeAt K C H t qs ∧ Q (.bl true) H
def spLinesStars : Sp := fun vs H Q _ => ∃ n : Nat, vs = [.int n] ∧ n < 1000000000 ∧ ∀ H', Same H H' → Q (.bl true) H'
end EP
namespace EP
open PySem L2
/-- a list of parents that is none -/
def BadL (ns : List Int) : Prop := (∃ j, Wrong ns j) ∨ ns = []
def spCreRef : Sp := fun vs H Q _ => ∃ (l : Addr) (ns : List Int), vs = [.ref l] ∧ H l = some (.lst (ns.map V.int)) ∧ ns.length ≤ 1000 ∧ BadL ns ∧ ∀ H', Same H H' → Q (.bl true) H'
theorem least {p : Nat → Prop} (h : ∃ j, p j) : ∃ j, p j ∧ ∀ i, i < j → ¬ p i := by
  obtain ⟨j, hj⟩ := h
  induction j using Nat.strongRecOn with
  | _ j ih =>
    by_cases c : ∃ i, i < j ∧ p i
    · obtain ⟨i, hi, hp⟩ := c
      exact ih i hi hp
    · exact ⟨j, hj, fun i hi hp => c ⟨i, hi, hp⟩⟩
theorem FirstW.eq {ns : List Int} {w : Int} (h : FirstW ns w) {j : Nat} (hj : Wrong ns j) (hl : ∀ i, i < j → ¬ Wrong ns i) : w = (j : Int) := by
  rcases h with ⟨k, rfl, hk, hm⟩ | ⟨_, no⟩
  · by_cases c : j < k
    · exact absurd hj (hm j c)
    · by_cases c2 : k < j
      · exact absurd hk (hl k c2)
      · have : k = j := by omega
        rw [this]
  · exact absurd hj (no j)
theorem FirstW.nil {w : Int} (h : FirstW [] w) : w = 0 := by
  rcases h with ⟨k, rfl, ⟨p, hp, _⟩, _⟩ | ⟨e, _⟩
  · simp at hp
  · exact e
end EP
namespace EP
open PySem L2
theorem ints_inj {a b : List Int} (h : a.map V.int = b.map V.int) : a = b := by
  induction a generalizing b with
  | nil => cases b with
    | nil => rfl
    | cons y b => simp at h
  | cons x a ih => cases b with
    | nil => simp at h
    | cons y b =>
      rw [List.map_cons, List.map_cons] at h
      obtain ⟨h1, h2⟩ := List.cons.inj h
      rw [V.int.inj h1, ih h2]
theorem BadL.no {ns : List Int} {ps : List Nat} (b : BadL ns) (e : ns.map V.int = nvs ps) (ok : Tr.Ok ps) (pos : 1 ≤ ps.length) : False := by
  have e2 : ns = toI ps := ints_inj (by rw [e, nvs_toI])
  subst e2
  rcases b with ⟨j, hj⟩ | h
  · exact noWrong ok hj
  · have := congrArg List.length h
    rw [toI_len] at this
    simp at this
    rw [this] at pos
    simp at pos
end EP
namespace EP
open PySem L2
theorem tyT {K : PySem.W.Frag} {H : Hp} {a : Addr} {xs : List V} (h : SqT K H a xs) : TyX K H (.ref a) (.type "tuple") := by
  rcases h with (h | ⟨o, h⟩) | ⟨o, its, n, h, hc, _⟩
  · exact .base (.tup h)
  · exact .fTuple h
  · exact .kTuple h hc
theorem Tape.ne_new {H : Hp} {t u a : Addr} (h : Tape H t u) (n : H a = none) : a ≠ t := fun e => h.new (by rw [← e]; exact n)
theorem Tape.ne_newu {H : Hp} {t u a : Addr} (h : Tape H t u) (n : H a = none) : a ≠ u := fun e => h.newu (by rw [← e]; exact n)
end EP
namespace EP
open PySem L2
def spIntsZ (K : PySem.W.Frag) : Sp := fun vs H Q _ => ∃ (x y : Addr) (L : List Int), vs = [.ref x, .ref y] ∧ H x = some (.lst (L.map V.int)) ∧ SqL K H y (L.map V.int) ∧ L.length ≤ 5000 ∧ Q (.bl true) H
def hadI (ps : List Nat) (p : Nat) : List Int := (List.range ps.length).map fun k => Tr.side ps p (k + 1)
theorem hadI_eq (ps : List Nat) (p : Nat) : hadL ps p = (hadI ps p).map V.int := by unfold hadL hadI; rw [List.map_map]; rfl
theorem hadI_len (ps : List Nat) (p : Nat) : (hadI ps p).length = ps.length := by unfold hadI; rw [List.length_map, List.length_range]
theorem hadL_of {ps : List Nat} {p i : Nat} {x : V} (h : (hadL ps p)[i]? = some x) : i < ps.length ∧ x = V.int (Tr.side ps p (i + 1)) := by
  have hi := (List.getElem?_eq_some_iff.mp h).1
  rw [hadL_len] at hi
  rw [hadL_get hi] at h
  exact ⟨hi, (Option.some.inj h).symm⟩
/-- a side that p has, and its opposite -/
theorem side_has {ps : List Nat} {p k : Nat} (h : 1 ≤ k) (hk : k ≤ ps.length) : IsSide ps.length (Tr.side ps p k) ∧ hasS ps (p : Int) (Tr.side ps p k) = true ∧ IsSide ps.length (0 - Tr.side ps p k) ∧ hasS ps (p : Int) (0 - Tr.side ps p k) = false := by
  unfold Tr.side
  by_cases c : Tr.has ps p k = true
  · rw [if_pos c]
    have e := hasS_neg (ps := ps) (p := p) h
    rw [show (0 - (k : Int)) = -(k : Int) by omega, e, hasS_nat h, c]
    exact ⟨⟨by omega, by omega, by omega⟩, rfl, ⟨by omega, by omega, by omega⟩, rfl⟩
  · rw [if_neg c]
    have e := hasS_neg (ps := ps) (p := p) h
    have c' : Tr.has ps p k = false := by simpa using c
    rw [show (0 - (0 - (k : Int))) = (k : Int) by omega, show (0 - (k : Int)) = -(k : Int) by omega, e, hasS_nat h, c']
    exact ⟨⟨by omega, by omega, by omega⟩, rfl, ⟨by omega, by omega, by omega⟩, rfl⟩
/-- the sides that a position has, searched -/
theorem had_in {ps : List Nat} {p : Nat} {s : Int} (hs : IsSide ps.length s) : inV (V.int s) (hadL ps p) = hasS ps (p : Int) s := by
  obtain ⟨h0, h1, h2⟩ := hs
  have key : inV (V.int s) (hadL ps p) = true ↔ hasS ps (p : Int) s = true := by
    unfold inV
    rw [List.any_eq_true]
    constructor
    · rintro ⟨x, hx, e⟩
      obtain ⟨i, hi⟩ := List.getElem?_of_mem hx
      obtain ⟨hi', rfl⟩ := hadL_of hi
      have e' : s = Tr.side ps p (i + 1) := (of_decide_eq_true (p := Tr.side ps p (i + 1) = s) (by simpa [eqV] using e)).symm
      rw [e']
      exact (side_has (by omega) (by omega)).2.1
    · intro h
      by_cases c : 0 < s
      · refine ⟨V.int (Tr.side ps p (s.toNat - 1 + 1)), List.mem_of_getElem? (hadL_get (k := s.toNat - 1) (by omega)), ?_⟩
        have e : s.toNat - 1 + 1 = s.toNat := by omega
        rw [e]
        have h' : Tr.has ps p s.toNat = true := by unfold hasS at h; rw [if_pos c] at h; simpa using h
        unfold Tr.side
        rw [if_pos h']
        show decide (((s.toNat : Nat) : Int) = s) = true
        exact decide_eq_true (by omega)
      · refine ⟨V.int (Tr.side ps p ((-s).toNat - 1 + 1)), List.mem_of_getElem? (hadL_get (k := (-s).toNat - 1) (by omega)), ?_⟩
        have e : (-s).toNat - 1 + 1 = (-s).toNat := by omega
        rw [e]
        have h' : Tr.has ps p (-s).toNat = false := by unfold hasS at h; rw [if_neg c] at h; simpa using h
        unfold Tr.side
        rw [if_neg (by rw [h']; decide)]
        show decide (0 - (((-s).toNat : Nat) : Int) = s) = true
        exact decide_eq_true (by omega)
  cases a : inV (V.int s) (hadL ps p) <;> cases b : hasS ps (p : Int) s
  · rfl
  · rw [a, b] at key; simp at key
  · rw [a, b] at key; simp at key
  · rfl
theorem hadL_flat (ps : List Nat) (p : Nat) : (hadL ps p).all flatV = true := by
  rw [List.all_eq_true]
  intro x hx
  obtain ⟨i, hi⟩ := List.getElem?_of_mem hx
  obtain ⟨_, rfl⟩ := hadL_of hi
  rfl
end EP
namespace EP
open PySem L2
theorem posL_len (ps : List Nat) (k : Int) : (posL ps k).length ≤ ps.length + 1 := by
  unfold posL
  exact Nat.le_trans (List.length_filter_le _ _) (by rw [List.length_range]; exact Nat.le_refl _)
end EP
namespace EP
open PySem L2
theorem ShapeAt.mut {K : PySem.W.Frag} {C : Addr} {H : Hp} {s a : Addr} {o : HO} {xs : List V} {ps : List Nat} (S : ShapeAt K C H s ps) (ha : H a = some (.lst xs)) : ShapeAt K C (upd H a o) s ps := by
  obtain ⟨ok, p, sm, dx, b, d, kvs, h1, h2, h3, h4⟩ := S
  refine ⟨ok, p, sm, dx, b, d, kvs, by rw [upd_ne (fun z => by rw [z, ha] at h1; cases h1)]; exact h1, ?_, by rw [upd_ne (fun z => by rw [z, ha] at h3; cases h3)]; exact h3, h4⟩
  rcases h2 with h2 | h2
  · rcases h2 with h2 | ⟨o', h2⟩
    · exact .inl (.inl (by rw [upd_ne (fun z => by rw [z, ha] at h2; cases h2)]; exact h2))
    · exact .inl (.inr ⟨o', by rw [upd_ne (fun z => by rw [z, ha] at h2; cases h2)]; exact h2⟩)
  · exact .inr h2
def wideN : List Nat := [0, 1, 2, 0, 4, 5, 6, 7, 8, 0]
theorem ok_wide : Tr.Ok wideN := fun i p h => by
  match i, h with
  | 0, h => cases h; decide
  | 1, h => cases h; decide
  | 2, h => cases h; decide
  | 3, h => cases h; decide
  | 4, h => cases h; decide
  | 5, h => cases h; decide
  | 6, h => cases h; decide
  | 7, h => cases h; decide
  | 8, h => cases h; decide
  | 9, h => cases h; decide
  | n + 10, h => simp [wideN] at h
theorem wide_eq : [V.int 0, V.int 1, V.int 2, V.int 0, V.int 4, V.int 5, V.int 6, V.int 7, V.int 8, V.int 0] = (toI wideN).map V.int := rfl
end EP
namespace K01
open PySem L2 EP
open L2H (RoomH roomH_of)
local macro_rules | `(tactic| walk_at "rd") => `(tactic| (repeat (first
  | (refine ⟨_, rfl, ?_⟩) | (refine ⟨_, _, rfl, rfl, ?_⟩) | (refine ⟨rfl, ?_⟩)
  | (refine ⟨_, _, _, _, _, rfl, (by assumption), (by assumption), (by assumption), (by first | exact shf_size | exact shf_parents | exact shf_masks), ?_⟩))))
def top (i : Nat) : Stmt := PySem.Challenge.pw_everypast_k01_sides_of_a_shape.main.body.getD i (.Pass ⟨0, 0, 0, 0⟩)
abbrev s_BadShape_init : Stmt := inClass (top 3) 0
abbrev s_BadPosition_init : Stmt := inClass (top 4) 0
abbrev s_BadSide_init : Stmt := inClass (top 5) 0
abbrev s_side_masks : Stmt := top 7
abbrev s_Shape_init : Stmt := inClass (top 8) 0
abbrev s_Shape_positions_of : Stmt := inClass (top 8) 1
abbrev s_Shape_has : Stmt := inClass (top 8) 2
abbrev s_Shape_sides_at : Stmt := inClass (top 8) 3
abbrev s_Shape_is_line : Stmt := inClass (top 8) 9
abbrev s_line : Stmt := top 9
abbrev s_star : Stmt := top 10
abbrev s_equal_shapes : Stmt := top 11
abbrev s_check_position : Stmt := top 12
abbrev s_check_side : Stmt := top 13
abbrev s_is_number_of_side : Stmt := top 14
abbrev s_l_tape : Stmt := top 16
abbrev s_l_next : Stmt := top 17
abbrev s_l_parents : Stmt := top 18
abbrev s_l_above : Stmt := top 19
abbrev s_l_is_number : Stmt := top 20
abbrev s_l_ints : Stmt := top 21
abbrev s_l_yes_or_no : Stmt := top 22
abbrev s_l_far : Stmt := top 23
abbrev s_l_near_parents : Stmt := top 24
abbrev s_l_spoilt : Stmt := top 25
abbrev s_l_first_wrong : Stmt := top 26
abbrev s_l_creation_refused : Stmt := top 27
abbrev s_l_caught_by_base : Stmt := top 28
abbrev s_l_line_refused : Stmt := top 29
abbrev s_l_star_refused : Stmt := top 30
abbrev s_l_positions_of_refused : Stmt := top 31
abbrev s_l_side_refused : Stmt := top 32
abbrev s_l_position_refused : Stmt := top 33
abbrev s_l_sides_at_refused : Stmt := top 34
abbrev s_l_refusals_told : Stmt := top 35
abbrev s_l_sides_had : Stmt := top 36
abbrev s_l_shape_told : Stmt := top 37
abbrev s_l_positions_told : Stmt := top 38
abbrev s_l_all_told : Stmt := top 39
abbrev s_l_equal_told : Stmt := top 40
abbrev s_l_lines_and_stars_told : Stmt := top 41
abbrev s_law : Stmt := top 42
structure Tx (P : Program) (K : PySem.W.Frag) (mg : Str → Option Value) where
  z_abs : mg "abs" = none
  z_bool : mg "bool" = none
  z_enumerate : mg "enumerate" = none
  z_int : mg "int" = none
  z_isinstance : mg "isinstance" = none
  z_len : mg "len" = none
  z_list : mg "list" = none
  z_range : mg "range" = none
  z_tuple : mg "tuple" = none
  z_ValueError : mg "ValueError" = none
  C_FindsError : Addr
  mg_FindsError : mg "FindsError" = some (.ref C_FindsError)
  x_BadShape : ExT P K mg "BadShape" "BadShape.__init__" "place" s_BadShape_init
  x_BadPosition : ExT P K mg "BadPosition" "BadPosition.__init__" "position" s_BadPosition_init
  x_BadSide : ExT P K mg "BadSide" "BadSide.__init__" "side" s_BadSide_init
  a_side_masks : Addr
  d_side_masks : FuncData
  F_side_masks : Fun K "_side_masks" "_side_masks" s_side_masks a_side_masks d_side_masks
  B_side_masks : Binds K d_side_masks ["parents"] []
  g_side_masks : mg "_side_masks" = some (.ref a_side_masks)
  a_Shape_init : Addr
  d_Shape_init : FuncData
  F_Shape_init : Fun K "__init__" "Shape.__init__" s_Shape_init a_Shape_init d_Shape_init
  B_Shape_init : Binds K d_Shape_init ["self", "parents"] []
  a_Shape_positions_of : Addr
  d_Shape_positions_of : FuncData
  F_Shape_positions_of : Fun K "positions_of" "Shape.positions_of" s_Shape_positions_of a_Shape_positions_of d_Shape_positions_of
  B_Shape_positions_of : Binds K d_Shape_positions_of ["self", "side"] []
  a_Shape_has : Addr
  d_Shape_has : FuncData
  F_Shape_has : Fun K "has" "Shape.has" s_Shape_has a_Shape_has d_Shape_has
  B_Shape_has : Binds K d_Shape_has ["self", "position", "side"] []
  a_Shape_sides_at : Addr
  d_Shape_sides_at : FuncData
  F_Shape_sides_at : Fun K "sides_at" "Shape.sides_at" s_Shape_sides_at a_Shape_sides_at d_Shape_sides_at
  B_Shape_sides_at : Binds K d_Shape_sides_at ["self", "position"] []
  a_Shape_is_line : Addr
  d_Shape_is_line : FuncData
  F_Shape_is_line : Fun K "is_line" "Shape.is_line" s_Shape_is_line a_Shape_is_line d_Shape_is_line
  B_Shape_is_line : Binds K d_Shape_is_line ["self"] []
  a_line : Addr
  d_line : FuncData
  F_line : Fun K "line" "line" s_line a_line d_line
  B_line : Binds K d_line ["size"] []
  g_line : mg "line" = some (.ref a_line)
  a_star : Addr
  d_star : FuncData
  F_star : Fun K "star" "star" s_star a_star d_star
  B_star : Binds K d_star ["size"] []
  g_star : mg "star" = some (.ref a_star)
  a_equal_shapes : Addr
  d_equal_shapes : FuncData
  F_equal_shapes : Fun K "equal_shapes" "equal_shapes" s_equal_shapes a_equal_shapes d_equal_shapes
  B_equal_shapes : Binds K d_equal_shapes ["shape", "other"] []
  g_equal_shapes : mg "equal_shapes" = some (.ref a_equal_shapes)
  a_check_position : Addr
  d_check_position : FuncData
  F_check_position : Fun K "check_position" "check_position" s_check_position a_check_position d_check_position
  B_check_position : Binds K d_check_position ["shape", "position"] []
  g_check_position : mg "check_position" = some (.ref a_check_position)
  a_check_side : Addr
  d_check_side : FuncData
  F_check_side : Fun K "check_side" "check_side" s_check_side a_check_side d_check_side
  B_check_side : Binds K d_check_side ["shape", "side"] []
  g_check_side : mg "check_side" = some (.ref a_check_side)
  a_is_number_of_side : Addr
  d_is_number_of_side : FuncData
  F_is_number_of_side : Fun K "is_number_of_side" "is_number_of_side" s_is_number_of_side a_is_number_of_side d_is_number_of_side
  B_is_number_of_side : Binds K d_is_number_of_side ["shape", "number"] []
  g_is_number_of_side : mg "is_number_of_side" = some (.ref a_is_number_of_side)
  a_l_tape : Addr
  d_l_tape : FuncData
  F_l_tape : Fun K "_law_tape" "_law_tape" s_l_tape a_l_tape d_l_tape
  B_l_tape : Binds K d_l_tape ["_law_script"] []
  g_l_tape : mg "_law_tape" = some (.ref a_l_tape)
  a_l_next : Addr
  d_l_next : FuncData
  F_l_next : Fun K "_law_next" "_law_next" s_l_next a_l_next d_l_next
  B_l_next : Binds K d_l_next ["_law_tape_here", "_law_size"] []
  g_l_next : mg "_law_next" = some (.ref a_l_next)
  a_l_parents : Addr
  d_l_parents : FuncData
  F_l_parents : Fun K "_law_parents" "_law_parents" s_l_parents a_l_parents d_l_parents
  B_l_parents : Binds K d_l_parents ["_law_tape_here", "_law_most"] []
  g_l_parents : mg "_law_parents" = some (.ref a_l_parents)
  a_l_above : Addr
  d_l_above : FuncData
  F_l_above : Fun K "_law_above" "_law_above" s_l_above a_l_above d_l_above
  B_l_above : Binds K d_l_above ["_law_parents_here", "_law_position"] []
  g_l_above : mg "_law_above" = some (.ref a_l_above)
  a_l_is_number : Addr
  d_l_is_number : FuncData
  F_l_is_number : Fun K "_law_is_number" "_law_is_number" s_l_is_number a_l_is_number d_l_is_number
  B_l_is_number : Binds K d_l_is_number ["_law_thing"] []
  g_l_is_number : mg "_law_is_number" = some (.ref a_l_is_number)
  a_l_ints : Addr
  d_l_ints : FuncData
  F_l_ints : Fun K "_law_ints" "_law_ints" s_l_ints a_l_ints d_l_ints
  B_l_ints : Binds K d_l_ints ["_law_told", "_law_due"] []
  g_l_ints : mg "_law_ints" = some (.ref a_l_ints)
  a_l_yes_or_no : Addr
  d_l_yes_or_no : FuncData
  F_l_yes_or_no : Fun K "_law_yes_or_no" "_law_yes_or_no" s_l_yes_or_no a_l_yes_or_no d_l_yes_or_no
  B_l_yes_or_no : Binds K d_l_yes_or_no ["_law_told", "_law_due"] []
  g_l_yes_or_no : mg "_law_yes_or_no" = some (.ref a_l_yes_or_no)
  a_l_far : Addr
  d_l_far : FuncData
  F_l_far : Fun K "_law_far" "_law_far" s_l_far a_l_far d_l_far
  B_l_far : Binds K d_l_far ["_law_tape_here"] []
  g_l_far : mg "_law_far" = some (.ref a_l_far)
  a_l_near_parents : Addr
  d_l_near_parents : FuncData
  F_l_near_parents : Fun K "_law_near_parents" "_law_near_parents" s_l_near_parents a_l_near_parents d_l_near_parents
  B_l_near_parents : Binds K d_l_near_parents ["_law_tape_here", "_law_parents_here"] []
  g_l_near_parents : mg "_law_near_parents" = some (.ref a_l_near_parents)
  a_l_spoilt : Addr
  d_l_spoilt : FuncData
  F_l_spoilt : Fun K "_law_spoilt" "_law_spoilt" s_l_spoilt a_l_spoilt d_l_spoilt
  B_l_spoilt : Binds K d_l_spoilt ["_law_tape_here", "_law_parents_here"] []
  g_l_spoilt : mg "_law_spoilt" = some (.ref a_l_spoilt)
  a_l_first_wrong : Addr
  d_l_first_wrong : FuncData
  F_l_first_wrong : Fun K "_law_first_wrong" "_law_first_wrong" s_l_first_wrong a_l_first_wrong d_l_first_wrong
  B_l_first_wrong : Binds K d_l_first_wrong ["_law_parents_here"] []
  g_l_first_wrong : mg "_law_first_wrong" = some (.ref a_l_first_wrong)
  a_l_creation_refused : Addr
  d_l_creation_refused : FuncData
  F_l_creation_refused : Fun K "_law_creation_refused" "_law_creation_refused" s_l_creation_refused a_l_creation_refused d_l_creation_refused
  B_l_creation_refused : Binds K d_l_creation_refused ["_law_parents_here"] []
  g_l_creation_refused : mg "_law_creation_refused" = some (.ref a_l_creation_refused)
  a_l_caught_by_base : Addr
  d_l_caught_by_base : FuncData
  F_l_caught_by_base : Fun K "_law_caught_by_base" "_law_caught_by_base" s_l_caught_by_base a_l_caught_by_base d_l_caught_by_base
  B_l_caught_by_base : Binds K d_l_caught_by_base ["_law_parents_here"] []
  g_l_caught_by_base : mg "_law_caught_by_base" = some (.ref a_l_caught_by_base)
  a_l_line_refused : Addr
  d_l_line_refused : FuncData
  F_l_line_refused : Fun K "_law_line_refused" "_law_line_refused" s_l_line_refused a_l_line_refused d_l_line_refused
  B_l_line_refused : Binds K d_l_line_refused ["_law_size"] []
  g_l_line_refused : mg "_law_line_refused" = some (.ref a_l_line_refused)
  a_l_star_refused : Addr
  d_l_star_refused : FuncData
  F_l_star_refused : Fun K "_law_star_refused" "_law_star_refused" s_l_star_refused a_l_star_refused d_l_star_refused
  B_l_star_refused : Binds K d_l_star_refused ["_law_size"] []
  g_l_star_refused : mg "_law_star_refused" = some (.ref a_l_star_refused)
  a_l_positions_of_refused : Addr
  d_l_positions_of_refused : FuncData
  F_l_positions_of_refused : Fun K "_law_positions_of_refused" "_law_positions_of_refused" s_l_positions_of_refused a_l_positions_of_refused d_l_positions_of_refused
  B_l_positions_of_refused : Binds K d_l_positions_of_refused ["_law_shape", "_law_side"] []
  g_l_positions_of_refused : mg "_law_positions_of_refused" = some (.ref a_l_positions_of_refused)
  a_l_side_refused : Addr
  d_l_side_refused : FuncData
  F_l_side_refused : Fun K "_law_side_refused" "_law_side_refused" s_l_side_refused a_l_side_refused d_l_side_refused
  B_l_side_refused : Binds K d_l_side_refused ["_law_shape", "_law_position", "_law_side"] []
  g_l_side_refused : mg "_law_side_refused" = some (.ref a_l_side_refused)
  a_l_position_refused : Addr
  d_l_position_refused : FuncData
  F_l_position_refused : Fun K "_law_position_refused" "_law_position_refused" s_l_position_refused a_l_position_refused d_l_position_refused
  B_l_position_refused : Binds K d_l_position_refused ["_law_shape", "_law_position", "_law_side"] []
  g_l_position_refused : mg "_law_position_refused" = some (.ref a_l_position_refused)
  a_l_sides_at_refused : Addr
  d_l_sides_at_refused : FuncData
  F_l_sides_at_refused : Fun K "_law_sides_at_refused" "_law_sides_at_refused" s_l_sides_at_refused a_l_sides_at_refused d_l_sides_at_refused
  B_l_sides_at_refused : Binds K d_l_sides_at_refused ["_law_shape", "_law_position"] []
  g_l_sides_at_refused : mg "_law_sides_at_refused" = some (.ref a_l_sides_at_refused)
  a_l_refusals_told : Addr
  d_l_refusals_told : FuncData
  F_l_refusals_told : Fun K "_law_refusals_told" "_law_refusals_told" s_l_refusals_told a_l_refusals_told d_l_refusals_told
  B_l_refusals_told : Binds K d_l_refusals_told ["_law_tape_here", "_law_shape", "_law_many"] []
  g_l_refusals_told : mg "_law_refusals_told" = some (.ref a_l_refusals_told)
  a_l_sides_had : Addr
  d_l_sides_had : FuncData
  F_l_sides_had : Fun K "_law_sides_had" "_law_sides_had" s_l_sides_had a_l_sides_had d_l_sides_had
  B_l_sides_had : Binds K d_l_sides_had ["_law_parents_here", "_law_position"] []
  g_l_sides_had : mg "_law_sides_had" = some (.ref a_l_sides_had)
  a_l_shape_told : Addr
  d_l_shape_told : FuncData
  F_l_shape_told : Fun K "_law_shape_told" "_law_shape_told" s_l_shape_told a_l_shape_told d_l_shape_told
  B_l_shape_told : Binds K d_l_shape_told ["_law_shape", "_law_parents_here"] []
  g_l_shape_told : mg "_law_shape_told" = some (.ref a_l_shape_told)
  a_l_positions_told : Addr
  d_l_positions_told : FuncData
  F_l_positions_told : Fun K "_law_positions_told" "_law_positions_told" s_l_positions_told a_l_positions_told d_l_positions_told
  B_l_positions_told : Binds K d_l_positions_told ["_law_shape", "_law_parents_here"] []
  g_l_positions_told : mg "_law_positions_told" = some (.ref a_l_positions_told)
  a_l_all_told : Addr
  d_l_all_told : FuncData
  F_l_all_told : Fun K "_law_all_told" "_law_all_told" s_l_all_told a_l_all_told d_l_all_told
  B_l_all_told : Binds K d_l_all_told ["_law_shape", "_law_parents_here"] []
  g_l_all_told : mg "_law_all_told" = some (.ref a_l_all_told)
  a_l_equal_told : Addr
  d_l_equal_told : FuncData
  F_l_equal_told : Fun K "_law_equal_told" "_law_equal_told" s_l_equal_told a_l_equal_told d_l_equal_told
  B_l_equal_told : Binds K d_l_equal_told ["_law_shape", "_law_other", "_law_due"] []
  g_l_equal_told : mg "_law_equal_told" = some (.ref a_l_equal_told)
  a_l_lines_and_stars_told : Addr
  d_l_lines_and_stars_told : FuncData
  F_l_lines_and_stars_told : Fun K "_law_lines_and_stars_told" "_law_lines_and_stars_told" s_l_lines_and_stars_told a_l_lines_and_stars_told d_l_lines_and_stars_told
  B_l_lines_and_stars_told : Binds K d_l_lines_and_stars_told ["_law_far_here"] []
  g_l_lines_and_stars_told : mg "_law_lines_and_stars_told" = some (.ref a_l_lines_and_stars_told)
  a_law : Addr
  d_law : FuncData
  F_law : Fun K "law" "law" s_law a_law d_law
  B_law : Binds K d_law ["_law_script"] []
  g_law : mg "law" = some (.ref a_law)
  C_Shape : Addr
  mg_Shape : mg "Shape" = some (.ref C_Shape)
  cl_Shape : Cls K C_Shape
  M_Shape : Mk K C_Shape a_Shape_init
  n_Shape_masks : NoAttr K C_Shape "_masks"
  n_Shape_parents : NoAttr K C_Shape "parents"
  n_Shape_size : NoAttr K C_Shape "size"
  m_Shape_positions_of : Meth K C_Shape "positions_of" a_Shape_positions_of
  m_Shape_has : Meth K C_Shape "has" a_Shape_has
  m_Shape_sides_at : Meth K C_Shape "sides_at" a_Shape_sides_at
  m_Shape_is_line : Meth K C_Shape "is_line" a_Shape_is_line
  k_BadPosition_BadShape : PySem.W.kitOne K (.ref x_BadPosition.C) (.ref x_BadShape.C) = some false
  k_BadPosition_BadSide : PySem.W.kitOne K (.ref x_BadPosition.C) (.ref x_BadSide.C) = some false
  k_BadPosition_FindsError : PySem.W.kitOne K (.ref x_BadPosition.C) (.ref C_FindsError) = some true
  k_BadPosition_ValueError : PySem.W.kitOne K (.ref x_BadPosition.C) (.type "ValueError") = some true
  k_BadShape_BadShape : PySem.W.kitOne K (.ref x_BadShape.C) (.ref x_BadShape.C) = some true
  k_BadShape_BadSide : PySem.W.kitOne K (.ref x_BadShape.C) (.ref x_BadSide.C) = some false
  k_BadShape_FindsError : PySem.W.kitOne K (.ref x_BadShape.C) (.ref C_FindsError) = some true
  k_BadShape_ValueError : PySem.W.kitOne K (.ref x_BadShape.C) (.type "ValueError") = some true
  k_BadSide_BadPosition : PySem.W.kitOne K (.ref x_BadSide.C) (.ref x_BadPosition.C) = some false
  k_BadSide_BadShape : PySem.W.kitOne K (.ref x_BadSide.C) (.ref x_BadShape.C) = some false
  k_BadSide_FindsError : PySem.W.kitOne K (.ref x_BadSide.C) (.ref C_FindsError) = some true
  k_BadSide_ValueError : PySem.W.kitOne K (.ref x_BadSide.C) (.type "ValueError") = some true
  cb_FindsError : CatchB K C_FindsError
  sb_BadShape_FindsError : PySem.W.subIn K (.ref x_BadShape.C) (.ref C_FindsError) = some true
  sb_BadPosition_FindsError : PySem.W.subIn K (.ref x_BadPosition.C) (.ref C_FindsError) = some true
  sb_BadSide_FindsError : PySem.W.subIn K (.ref x_BadSide.C) (.ref C_FindsError) = some true
  io_Shape : InsC K C_Shape
section
variable {P : Program} {w : World} {K : PySem.W.Frag} {mg : Str → Option Value} {base : Heap}
theorem sc_BadShape_init : ScE ["self", "place"] ["self", "place"] (defScope s_BadShape_init) := ⟨rfl, rfl, rfl, by decide +kernel, rfl, by decide +kernel, by decide +kernel, by decide +kernel, by decide +kernel, by decide +kernel⟩
theorem sc_BadPosition_init : ScE ["self", "position"] ["self", "position"] (defScope s_BadPosition_init) := ⟨rfl, rfl, rfl, by decide +kernel, rfl, by decide +kernel, by decide +kernel, by decide +kernel, by decide +kernel, by decide +kernel⟩
theorem sc_BadSide_init : ScE ["self", "side"] ["self", "side"] (defScope s_BadSide_init) := ⟨rfl, rfl, rfl, by decide +kernel, rfl, by decide +kernel, by decide +kernel, by decide +kernel, by decide +kernel, by decide +kernel⟩
theorem sc_side_masks : FnScope ["parents", "count", "branches", "wall", "parent", "masks", "position"] ["parents"] (defScope s_side_masks) := ⟨rfl, rfl, rfl, by decide +kernel, rfl, by decide +kernel, by decide +kernel⟩
theorem sc_Shape_init : FnScope ["self", "parents", "place", "parent"] ["self", "parents"] (defScope s_Shape_init) := ⟨rfl, rfl, rfl, by decide +kernel, rfl, by decide +kernel, by decide +kernel⟩
theorem sc_Shape_positions_of : FnScope ["self", "side", "position"] ["self", "side"] (defScope s_Shape_positions_of) := ⟨rfl, rfl, rfl, by decide +kernel, rfl, by decide +kernel, by decide +kernel⟩
theorem sc_Shape_has : FnScope ["self", "position", "side"] ["self", "position", "side"] (defScope s_Shape_has) := ⟨rfl, rfl, rfl, by decide +kernel, rfl, by decide +kernel, by decide +kernel⟩
theorem sc_Shape_sides_at : FnScope ["self", "position", "wall"] ["self", "position"] (defScope s_Shape_sides_at) := ⟨rfl, rfl, rfl, by decide +kernel, rfl, by decide +kernel, by decide +kernel⟩
theorem sc_Shape_is_line : FnScope ["self"] ["self"] (defScope s_Shape_is_line) := ⟨rfl, rfl, rfl, by decide +kernel, rfl, by decide +kernel, by decide +kernel⟩
theorem sc_line : FnScope ["size"] ["size"] (defScope s_line) := ⟨rfl, rfl, rfl, by decide +kernel, rfl, by decide +kernel, by decide +kernel⟩
theorem sc_star : FnScope ["size"] ["size"] (defScope s_star) := ⟨rfl, rfl, rfl, by decide +kernel, rfl, by decide +kernel, by decide +kernel⟩
theorem sc_equal_shapes : FnScope ["shape", "other"] ["shape", "other"] (defScope s_equal_shapes) := ⟨rfl, rfl, rfl, by decide +kernel, rfl, by decide +kernel, by decide +kernel⟩
theorem sc_check_position : FnScope ["shape", "position"] ["shape", "position"] (defScope s_check_position) := ⟨rfl, rfl, rfl, by decide +kernel, rfl, by decide +kernel, by decide +kernel⟩
theorem sc_check_side : FnScope ["shape", "side"] ["shape", "side"] (defScope s_check_side) := ⟨rfl, rfl, rfl, by decide +kernel, rfl, by decide +kernel, by decide +kernel⟩
theorem sc_is_number_of_side : FnScope ["shape", "number"] ["shape", "number"] (defScope s_is_number_of_side) := ⟨rfl, rfl, rfl, by decide +kernel, rfl, by decide +kernel, by decide +kernel⟩
theorem sc_l_tape : FnScope ["_law_script", "_law_cell"] ["_law_script"] (defScope s_l_tape) := ⟨rfl, rfl, rfl, by decide +kernel, rfl, by decide +kernel, by decide +kernel⟩
theorem sc_l_next : FnScope ["_law_tape_here", "_law_size", "_law_cell", "_law_digit", "_law_mixed"] ["_law_tape_here", "_law_size"] (defScope s_l_next) := ⟨rfl, rfl, rfl, by decide +kernel, rfl, by decide +kernel, by decide +kernel⟩
theorem sc_l_parents : FnScope ["_law_tape_here", "_law_most", "_law_many", "_law_kind", "_law_parents_here", "_law_k"] ["_law_tape_here", "_law_most"] (defScope s_l_parents) := ⟨rfl, rfl, rfl, by decide +kernel, rfl, by decide +kernel, by decide +kernel⟩
theorem sc_l_above : FnScope ["_law_parents_here", "_law_position", "_law_found", "_law_turn"] ["_law_parents_here", "_law_position"] (defScope s_l_above) := ⟨rfl, rfl, rfl, by decide +kernel, rfl, by decide +kernel, by decide +kernel⟩
theorem sc_l_is_number : FnScope ["_law_thing"] ["_law_thing"] (defScope s_l_is_number) := ⟨rfl, rfl, rfl, by decide +kernel, rfl, by decide +kernel, by decide +kernel⟩
theorem sc_l_ints : FnScope ["_law_told", "_law_due", "_law_at"] ["_law_told", "_law_due"] (defScope s_l_ints) := ⟨rfl, rfl, rfl, by decide +kernel, rfl, by decide +kernel, by decide +kernel⟩
theorem sc_l_yes_or_no : FnScope ["_law_told", "_law_due"] ["_law_told", "_law_due"] (defScope s_l_yes_or_no) := ⟨rfl, rfl, rfl, by decide +kernel, rfl, by decide +kernel, by decide +kernel⟩
theorem sc_l_far : FnScope ["_law_tape_here"] ["_law_tape_here"] (defScope s_l_far) := ⟨rfl, rfl, rfl, by decide +kernel, rfl, by decide +kernel, by decide +kernel⟩
theorem sc_l_near_parents : FnScope ["_law_tape_here", "_law_parents_here", "_law_kind", "_law_at"] ["_law_tape_here", "_law_parents_here"] (defScope s_l_near_parents) := ⟨rfl, rfl, rfl, by decide +kernel, rfl, by decide +kernel, by decide +kernel⟩
theorem sc_l_spoilt : FnScope ["_law_tape_here", "_law_parents_here", "_law_spoilt_here", "_law_turn", "_law_at"] ["_law_tape_here", "_law_parents_here"] (defScope s_l_spoilt) := ⟨rfl, rfl, rfl, by decide +kernel, rfl, by decide +kernel, by decide +kernel⟩
theorem sc_l_first_wrong : FnScope ["_law_parents_here", "_law_at"] ["_law_parents_here"] (defScope s_l_first_wrong) := ⟨rfl, rfl, rfl, by decide +kernel, rfl, by decide +kernel, by decide +kernel⟩
theorem sc_l_creation_refused : FnScope ["_law_parents_here", "_law_handed", "e"] ["_law_parents_here"] (defScope s_l_creation_refused) := ⟨rfl, rfl, rfl, by decide +kernel, rfl, by decide +kernel, by decide +kernel⟩
theorem sc_l_caught_by_base : FnScope ["_law_parents_here", "e"] ["_law_parents_here"] (defScope s_l_caught_by_base) := ⟨rfl, rfl, rfl, by decide +kernel, rfl, by decide +kernel, by decide +kernel⟩
theorem sc_l_line_refused : FnScope ["_law_size", "e"] ["_law_size"] (defScope s_l_line_refused) := ⟨rfl, rfl, rfl, by decide +kernel, rfl, by decide +kernel, by decide +kernel⟩
theorem sc_l_star_refused : FnScope ["_law_size", "e"] ["_law_size"] (defScope s_l_star_refused) := ⟨rfl, rfl, rfl, by decide +kernel, rfl, by decide +kernel, by decide +kernel⟩
theorem sc_l_positions_of_refused : FnScope ["_law_shape", "_law_side", "e"] ["_law_shape", "_law_side"] (defScope s_l_positions_of_refused) := ⟨rfl, rfl, rfl, by decide +kernel, rfl, by decide +kernel, by decide +kernel⟩
theorem sc_l_side_refused : FnScope ["_law_shape", "_law_position", "_law_side", "e"] ["_law_shape", "_law_position", "_law_side"] (defScope s_l_side_refused) := ⟨rfl, rfl, rfl, by decide +kernel, rfl, by decide +kernel, by decide +kernel⟩
theorem sc_l_position_refused : FnScope ["_law_shape", "_law_position", "_law_side", "e"] ["_law_shape", "_law_position", "_law_side"] (defScope s_l_position_refused) := ⟨rfl, rfl, rfl, by decide +kernel, rfl, by decide +kernel, by decide +kernel⟩
theorem sc_l_sides_at_refused : FnScope ["_law_shape", "_law_position", "e"] ["_law_shape", "_law_position"] (defScope s_l_sides_at_refused) := ⟨rfl, rfl, rfl, by decide +kernel, rfl, by decide +kernel, by decide +kernel⟩
theorem sc_l_refusals_told : FnScope ["_law_tape_here", "_law_shape", "_law_many", "_law_good", "_law_number", "_law_sides", "_law_side", "_law_position"] ["_law_tape_here", "_law_shape", "_law_many"] (defScope s_l_refusals_told) := ⟨rfl, rfl, rfl, by decide +kernel, rfl, by decide +kernel, by decide +kernel⟩
theorem sc_l_sides_had : FnScope ["_law_parents_here", "_law_position", "_law_above_here", "_law_had", "_law_k"] ["_law_parents_here", "_law_position"] (defScope s_l_sides_had) := ⟨rfl, rfl, rfl, by decide +kernel, rfl, by decide +kernel, by decide +kernel⟩
theorem sc_l_shape_told : FnScope ["_law_shape", "_law_parents_here"] ["_law_shape", "_law_parents_here"] (defScope s_l_shape_told) := ⟨rfl, rfl, rfl, by decide +kernel, rfl, by decide +kernel, by decide +kernel⟩
theorem sc_l_positions_told : FnScope ["_law_shape", "_law_parents_here", "_law_had", "_law_position", "_law_turn", "_law_told", "_law_side", "_law_k", "_law_due", "_law_here"] ["_law_shape", "_law_parents_here"] (defScope s_l_positions_told) := ⟨rfl, rfl, rfl, by decide +kernel, rfl, by decide +kernel, by decide +kernel⟩
theorem sc_l_all_told : FnScope ["_law_shape", "_law_parents_here"] ["_law_shape", "_law_parents_here"] (defScope s_l_all_told) := ⟨rfl, rfl, rfl, by decide +kernel, rfl, by decide +kernel, by decide +kernel⟩
theorem sc_l_equal_told : FnScope ["_law_shape", "_law_other", "_law_due"] ["_law_shape", "_law_other", "_law_due"] (defScope s_l_equal_told) := ⟨rfl, rfl, rfl, by decide +kernel, rfl, by decide +kernel, by decide +kernel⟩
theorem sc_l_lines_and_stars_told : FnScope ["_law_far_here", "_law_size", "_law_wide", "_law_k"] ["_law_far_here"] (defScope s_l_lines_and_stars_told) := ⟨rfl, rfl, rfl, by decide +kernel, rfl, by decide +kernel, by decide +kernel⟩
theorem sc_law : FnScope ["_law_script", "_law_tape_here", "_law_parents_here", "_law_near", "_law_spoilt_here", "_law_handed", "_law_shape", "_law_other"] ["_law_script"] (defScope s_law) := ⟨rfl, rfl, rfl, by decide +kernel, rfl, by decide +kernel, by decide +kernel⟩
theorem bind_BadShape (T : Tx P K mg) : Binds K T.x_BadShape.fd ["self", "place"] [] := by
  obtain ⟨oc, od, kV, doc, pm, an, ct, osl, e, lk⟩ := T.x_BadShape.lk
  rw [e]
  exact .all fun us hl => match us, hl with | [_, _], _ => rfl
theorem init_BadShape (T : Tx P K mg) : FnOk P w K mg base L2.CX0 1 T.x_BadShape.fa T.x_BadShape.fd ["self", "place"] (spExc T.x_BadShape.C "place" IntS) := by
  obtain ⟨oc, od, kV, doc, pm, an, ct, osl, e, lk⟩ := T.x_BadShape.lk
  rw [e] at lk ⊢
  refine fn_exc lk T.x_BadShape.cod sc_BadShape_init T.x_BadShape.sup rfl rfl (fun vs H Q E h => ?_) (fun A outer s H vs Q E hr h => ?_)
  · obtain ⟨a, v, H0, rfl, _⟩ := h
    rfl
  obtain ⟨a, v, H0, rfl, ha, rfl, ⟨i, rfl, hi⟩, q⟩ := h
  have le0 : Str.empty.length = 0 := by decide +kernel
  have le1 : ("not a shape, at index " : Str).length = 22 := by decide +kernel
  refine ⟨a, [.int i], _, _, rfl, upd_same, pa_cons (pe_joined (.cons pe_str (.cons (pe_fmt (pv 1)) .nil))) pa_nil, pss_one (ps_ost (pv 0) (pv 1)), ?_⟩
  refine ⟨_, rfl, ?_, ?_⟩
  · (simp only [Str.length_append]; first | decide | (have hz := intS_len hi; rw [sizeLine_eq]; omega))
  refine ⟨_, rfl, .inr ⟨i, rfl, Nat.lt_of_lt_of_le hi (by decide), ?_⟩⟩
  refine ⟨_, rfl, ?_, ?_⟩
  · (simp only [Str.length_append]; first | decide | (have hz := intS_len hi; rw [sizeLine_eq]; omega))
  refine ⟨(by show 1 ≤ 1000; decide), upd_same, ?_⟩
  refine ⟨_, rfl, _, rfl, a, T.x_BadShape.C, rfl, T.x_BadShape.sup.oex, T.x_BadShape.xn, .inl ⟨upd_same, fun dx h1 h2 => ?_⟩⟩
  rw [upd_ne h2] at h1
  exact q dx h1 h2
theorem bind_BadPosition (T : Tx P K mg) : Binds K T.x_BadPosition.fd ["self", "position"] [] := by
  obtain ⟨oc, od, kV, doc, pm, an, ct, osl, e, lk⟩ := T.x_BadPosition.lk
  rw [e]
  exact .all fun us hl => match us, hl with | [_, _], _ => rfl
theorem init_BadPosition (T : Tx P K mg) : FnOk P w K mg base L2.CX0 1 T.x_BadPosition.fa T.x_BadPosition.fd ["self", "position"] (spExc T.x_BadPosition.C "position" IntS) := by
  obtain ⟨oc, od, kV, doc, pm, an, ct, osl, e, lk⟩ := T.x_BadPosition.lk
  rw [e] at lk ⊢
  refine fn_exc lk T.x_BadPosition.cod sc_BadPosition_init T.x_BadPosition.sup rfl rfl (fun vs H Q E h => ?_) (fun A outer s H vs Q E hr h => ?_)
  · obtain ⟨a, v, H0, rfl, _⟩ := h
    rfl
  obtain ⟨a, v, H0, rfl, ha, rfl, ⟨i, rfl, hi⟩, q⟩ := h
  have le0 : Str.empty.length = 0 := by decide +kernel
  have le1 : ("not a position: " : Str).length = 16 := by decide +kernel
  refine ⟨a, [.int i], _, _, rfl, upd_same, pa_cons (pe_joined (.cons pe_str (.cons (pe_fmt (pv 1)) .nil))) pa_nil, pss_one (ps_ost (pv 0) (pv 1)), ?_⟩
  refine ⟨_, rfl, ?_, ?_⟩
  · (simp only [Str.length_append]; first | decide | (have hz := intS_len hi; rw [sizeLine_eq]; omega))
  refine ⟨_, rfl, .inr ⟨i, rfl, Nat.lt_of_lt_of_le hi (by decide), ?_⟩⟩
  refine ⟨_, rfl, ?_, ?_⟩
  · (simp only [Str.length_append]; first | decide | (have hz := intS_len hi; rw [sizeLine_eq]; omega))
  refine ⟨(by show 1 ≤ 1000; decide), upd_same, ?_⟩
  refine ⟨_, rfl, _, rfl, a, T.x_BadPosition.C, rfl, T.x_BadPosition.sup.oex, T.x_BadPosition.xn, .inl ⟨upd_same, fun dx h1 h2 => ?_⟩⟩
  rw [upd_ne h2] at h1
  exact q dx h1 h2
theorem bind_BadSide (T : Tx P K mg) : Binds K T.x_BadSide.fd ["self", "side"] [] := by
  obtain ⟨oc, od, kV, doc, pm, an, ct, osl, e, lk⟩ := T.x_BadSide.lk
  rw [e]
  exact .all fun us hl => match us, hl with | [_, _], _ => rfl
theorem init_BadSide (T : Tx P K mg) : FnOk P w K mg base L2.CX0 1 T.x_BadSide.fa T.x_BadSide.fd ["self", "side"] (spExc T.x_BadSide.C "side" IntS) := by
  obtain ⟨oc, od, kV, doc, pm, an, ct, osl, e, lk⟩ := T.x_BadSide.lk
  rw [e] at lk ⊢
  refine fn_exc lk T.x_BadSide.cod sc_BadSide_init T.x_BadSide.sup rfl rfl (fun vs H Q E h => ?_) (fun A outer s H vs Q E hr h => ?_)
  · obtain ⟨a, v, H0, rfl, _⟩ := h
    rfl
  obtain ⟨a, v, H0, rfl, ha, rfl, ⟨i, rfl, hi⟩, q⟩ := h
  have le0 : Str.empty.length = 0 := by decide +kernel
  have le1 : ("not a side here: " : Str).length = 17 := by decide +kernel
  refine ⟨a, [.int i], _, _, rfl, upd_same, pa_cons (pe_joined (.cons pe_str (.cons (pe_fmtR (pv 1)) .nil))) pa_nil, pss_one (ps_ost (pv 0) (pv 1)), ?_⟩
  refine ⟨_, rfl, ?_, ?_⟩
  · (simp only [Str.length_append]; first | decide | (have hz := intS_len hi; rw [sizeLine_eq]; omega))
  refine ⟨_, rfl, .inr ⟨i, rfl, Nat.lt_of_lt_of_le hi (by decide), ?_⟩⟩
  refine ⟨_, rfl, ?_, ?_⟩
  · (simp only [Str.length_append]; first | decide | (have hz := intS_len hi; rw [sizeLine_eq]; omega))
  refine ⟨(by show 1 ≤ 1000; decide), upd_same, ?_⟩
  refine ⟨_, rfl, _, rfl, a, T.x_BadSide.C, rfl, T.x_BadSide.sup.oex, T.x_BadSide.xn, .inl ⟨upd_same, fun dx h1 h2 => ?_⟩⟩
  rw [upd_ne h2] at h1
  exact q dx h1 h2
end
section
variable {P : Program} {w : World} {K : PySem.W.Frag} {mg : Str → Option Value} {base : Heap}
theorem ok_side_masks (T : Tx P K mg) : FnOk P w K mg base L2.CX0 1 T.a_side_masks T.d_side_masks ["parents"] (spMasks K) := by
  refine T.F_side_masks.ok sc_side_masks (fun vs H Q E h => ?_) (fun cdv A outer s H vs Q E hr h => ?_)
  · obtain ⟨t, ps, rfl, _⟩ := h
    rfl
  · obtain ⟨t, ps, rfl, ht, ok, sm, q⟩ := h
    have hl : (nvs ps).length = ps.length := nvs_len ps
    refine ⟨_, (pss_cons (ps_set (i := 1) sc_side_masks.nd rfl (Or.inl rfl) (pe_op op_add (pe_callB (id := "len") call_len_seq (by rfl) T.z_len (by decide +kernel) (pa_cons (pv 0) pa_nil)) pe_int))
          (pss_cons (ps_setLc (i := 2) (own := [("position", 6)]) (g := gName 6) (tt := tYes) rfl sc_side_masks.nd rfl rfl (sw_true rfl rfl rfl (by decide +kernel)) (pi_range1 rfl T.z_range (pa_cons (pv 1) pa_nil)) (blkOk_by (N := ["parents", "count", "branches", "wall", "parent", "masks", "position"]) (sc := defScope s_side_masks) (by decide +kernel)) (fun _ _ _ _ _ => (pg_name (i := 6) sc_side_masks.nd rfl (Or.inl rfl))) (fun _ _ _ _ _ => pts_nil) (fun _ _ _ _ _ => (pe_op op_shl pe_int (pv 6))))
          (pss_cons (ps_for PassesOwn.never rfl (pi_range3 rfl T.z_range (pa_cons (pe_op op_sub (pv 1) pe_int) (pa_cons pe_int (pa_cons (pe_un un_neg pe_int) pa_nil)))) (pg_name (i := 3) sc_side_masks.nd rfl (Or.inl rfl))
          (pss_cons (ps_set (i := 4) sc_side_masks.nd rfl (Or.inl rfl) (pe_ix ix_tup (pv 0) (pe_op op_sub (pv 3) pe_int) (fun _ _ => rfl)))
          (pss_one (ps_asg (pe_op op_or (pe_ix ix_list (pv 2) (pv 4) (fun _ _ => rfl)) (pe_ix ix_list (pv 2) (pv 3) (fun _ _ => rfl))) (pg_sub (pv 2) (pv 4) set_list)))))
          (pss_cons (ps_set (i := 5) sc_side_masks.nd rfl (Or.inl rfl) pe_dnewK)
          (pss_cons (ps_for PassesOwn.never rfl (pi_range2 rfl T.z_range (pa_cons pe_int (pa_cons (pv 1) pa_nil))) (pg_name (i := 3) sc_side_masks.nd rfl (Or.inl rfl))
          (pss_cons (ps_dput (hu_of hr) (pv 5) (pv 3) (pe_ix ix_list (pv 2) (pv 3) (fun _ _ => rfl)) rfl)
          (pss_one (ps_dput (hu_of hr) (pv 5) (pe_un un_neg (pv 3)) (pe_op op_sub (pe_ix ix_list (pv 2) pe_int (fun _ _ => rfl)) (pe_ix ix_list (pv 2) (pv 3) (fun _ _ => rfl))) rfl))))
          (pss_one (ps_ret (pv 5)))))))), ?_⟩
    refine ⟨_, rfl, t, _, rfl, .inr ht, _, _, rfl, rfl, ?_⟩
    refine ⟨_, rfl, _, rfl, by omega, by omega, fun D hD => ?_⟩
    have en : ((((nvs ps).length : Nat) : Int) + 1).toNat = ps.length + 1 := by omega
    rw [en]
    refine lc_range (fun i H' => H' = upd H D (.lst (nvs ((List.range i).map (2 ^ ·))))) rfl ?_ ?_
    · rintro i _ hi rfl
      refine ⟨rfl, ?_⟩
      refine ⟨_, rfl, _, _, rfl, rfl, ⟨by omega, by omega, by decide⟩, _, upd_same, size_lt (by rw [nvs_len, List.length_map, List.length_range]; omega), ?_⟩
      rw [upd_upd, List.range_succ, List.map_append, List.map_cons, List.map_nil, ← nvs_snoc]
      have e : (1 : Int) * 2 ^ (0 + (i : Int)).toNat = ((2 ^ i : Nat) : Int) := by
        rw [show (0 + (i : Int)).toNat = i by omega]
        norm_cast
        omega
      dsimp only
      rw [e]
    · rintro _ rfl
      have b1 : ∀ b, b ≤ ps.length → ∃ m, ((List.range (ps.length + 1)).map (2 ^ ·))[b]? = some m ∧ Tr.Bits ps ps.length (ps.length - 0) b m := fun b hb =>
        ⟨2 ^ b, by rw [List.getElem?_map, List.getElem?_range (by omega)]; rfl, Tr.bits_start hb⟩
      have b0 : ((List.range (ps.length + 1)).map (2 ^ ·)).length = ps.length + 1 := by rw [List.length_map, List.length_range]
      generalize (List.range (ps.length + 1)).map (2 ^ ·) = bs0 at b0 b1 ⊢
      have tt : ∀ x, SqT K (upd H D x) t (nvs ps) := fun x => SqT_same (same_new hD) ht
      refine ⟨_, rfl, _, _, rfl, rfl, _, rfl, _, _, _, _, rfl, RgC.neg (by omega) (by omega) (by decide) (by decide), for_rangeC (fun i σ H' => ∃ (bs : List Nat) (a b : Option V), σ = [some (.ref t), some (.int (((nvs ps).length : Nat) + 1)), some (.ref D), a, b, none, none] ∧ H' = upd H D (.lst (nvs bs)) ∧ bs.length = ps.length + 1 ∧ ∀ b, b ≤ ps.length → ∃ m, bs[b]? = some m ∧ Tr.Bits ps ps.length (ps.length - i) b m)
        ⟨bs0, none, none, rfl, rfl, b0, b1⟩ ?_ ?_⟩
      · rintro i _ _ hi ⟨bs, a, b, rfl, rfl, hb0, hb⟩
        have hi' : i < ps.length := by omega
        obtain ⟨j, hj⟩ : ∃ j, ps.length - i = j + 1 := ⟨ps.length - i - 1, by omega⟩
        have pe := Tr.par_eq ok (p := j + 1) (by omega) (by omega)
        have pl := Tr.par_lt ps (p := j + 1) (by omega)
        obtain ⟨mw, w1, w2⟩ := hb (j + 1) (by omega)
        obtain ⟨mp, p1, p2⟩ := hb (Tr.par ps (j + 1)) (by omega)
        rw [hj] at w2 p2
        refine ⟨_, rfl, _, rfl, _, _, rfl, rfl, t, _, _, _, rfl, rfl, tt _, at_of (j := j) (by omega) (nvs_get pe), ?_⟩
        refine ⟨_, rfl, _, rfl, D, _, _, _, rfl, rfl, SqL.of upd_same, at_of (j := Tr.par ps (j + 1)) rfl (nvs_get p1), _, rfl, _, rfl, D, _, _, _, rfl, rfl, SqL.of upd_same, at_of (j := j + 1) (by omega) (nvs_get w1), _, _, rfl, rfl, ?_⟩
        refine ⟨_, rfl, _, rfl, D, _, _, _, rfl, rfl, upd_same, ixN_nat (by rw [nvs_len]; omega), ?_⟩
        have eo : Builtin.bitOr ((mp : Nat) : Int) ((mw : Nat) : Int) = ((mp ||| mw : Nat) : Int) := by
          have z := L2.bitOr_nn (x := (mp : Int)) (y := (mw : Int)) (by omega) (by omega)
          rw [z, Int.toNat_natCast, Int.toNat_natCast]
        refine ⟨bs.set (Tr.par ps (j + 1)) (mp ||| mw), _, _, rfl, ?_, by rw [List.length_set]; exact hb0, fun c hc => ?_⟩
        · dsimp only
          rw [upd_upd, eo, nvs_set]
        · have ej : ps.length - (i + 1) = j := by omega
          rw [ej]
          by_cases e : Tr.par ps (j + 1) = c
          · subst e
            exact ⟨_, List.getElem?_set_self (by omega), Tr.bits_or p2 w2⟩
          · obtain ⟨m, m1, m2⟩ := hb c hc
            rw [hj] at m2
            exact ⟨m, by rw [List.getElem?_set_ne e]; exact m1, Tr.bits_keep m2 e⟩
      · rintro _ _ ⟨bs, a, b, rfl, rfl, hb0, hb⟩
        have ez : ps.length - ((((nvs ps).length : Nat) : Int) + 1 - 1 - 0).toNat = 0 := by omega
        rw [ez] at hb
        obtain ⟨m0, z1, z2⟩ := hb 0 (by omega)
        intro d hd
        have hDd : D ≠ d := ne_of_none upd_same hd
        have hd0 : H d = Option.none := by
          rw [upd_ne hDd.symm] at hd
          exact hd
        have hDl : ∀ x, (upd (upd H D (.lst (nvs bs))) d x) D = some (.lst (nvs bs)) := fun x => by rw [upd_ne hDd, upd_same]
        refine ⟨_, rfl, _, _, rfl, ⟨by decide, by decide, by omega, by omega⟩, for_range (fun i σ H' => ∃ (kvs : List (Key × V)) (a : Option V), σ = [some (.ref t), some (.int (((nvs ps).length : Nat) + 1)), some (.ref D), a, b, some (.ref d), none] ∧ H' = upd (upd H D (.lst (nvs bs))) d (.dK kvs) ∧ kvs.length ≤ 2 * i ∧
          ∀ w, 1 ≤ w → w ≤ i → ∃ m m' : Nat, valV kvs (.inl (w : Int)) = some (.int m) ∧ valV kvs (.inl (-(w : Int))) = some (.int m') ∧ ∀ p, p ≤ ps.length → m.testBit p = Tr.has ps p w ∧ m'.testBit p = !Tr.has ps p w)
          ⟨[], a, rfl, rfl, by simp, fun w h1 h2 => by omega⟩ ?_ ?_⟩
        · rintro i _ _ hi ⟨kvs, a, rfl, rfl, hk, hv⟩
          have hi' : i < ps.length := by omega
          obtain ⟨mw, w1, w2⟩ := hb (i + 1) (by omega)
          refine ⟨_, rfl, _, rfl, D, _, _, _, rfl, rfl, SqL.of (hDl _), at_of (j := i + 1) (by omega) (nvs_get w1), _, rfl, _, rfl, d, _, rfl, DPut.k (k := Sum.inl (1 + (i : Int))) upd_same (size_lt (by omega)), ?_⟩
          have hk2 := putK_len kvs (Sum.inl (1 + (i : Int))) (V.int (mw : Int))
          refine ⟨_, rfl, D, _, _, _, rfl, rfl, SqL.of (by rw [upd_upd]; exact hDl _), at_of (j := 0) rfl (nvs_get z1), _, rfl, _, rfl, D, _, _, _, rfl, rfl, SqL.of (by rw [upd_upd]; exact hDl _), at_of (j := i + 1) (by omega) (nvs_get w1), _, _, rfl, rfl, _, rfl, _, rfl, _, rfl, d, _, rfl, DPut.k (k := Sum.inl (-(1 + (i : Int)))) upd_same (size_lt (by omega)), ?_⟩
          have ml := Tr.mask_le w2 z2
          have ed : ((m0 : Nat) : Int) - ((mw : Nat) : Int) = ((m0 - mw : Nat) : Int) := by omega
          refine ⟨_, _, rfl, by rw [upd_upd, upd_upd], ?_, fun w h1 h2 => ?_⟩
          · have := putK_len (putK kvs (Sum.inl (1 + (i : Int))) (V.int (mw : Int))) (Sum.inl (-(1 + (i : Int)))) (V.int (((m0 : Nat) : Int) - ((mw : Nat) : Int)))
            dsimp only
            omega
          · rw [valV_put, valV_put, valV_put, valV_put]
            by_cases e : w = i + 1
            · subst e
              refine ⟨mw, m0 - mw, ?_, ?_, fun p hp => ⟨Tr.mask_pos h1 hp w2, Tr.mask_neg h1 hp w2 z2⟩⟩
              · rw [if_neg (kv_ne (by omega)), if_pos (by rw [show ((i + 1 : Nat) : Int) = 1 + (i : Int) by omega])]
              · rw [if_pos (by rw [show ((i + 1 : Nat) : Int) = 1 + (i : Int) by omega])]
                dsimp only
                rw [ed]
            · obtain ⟨m, m', v1, v2, v3⟩ := hv w h1 (by omega)
              refine ⟨m, m', ?_, ?_, v3⟩
              · rw [if_neg (kv_ne (by omega)), if_neg (kv_ne (by omega))]
                exact v1
              · rw [if_neg (kv_ne (by omega)), if_neg (kv_ne (by omega))]
                exact v2
        · rintro _ _ ⟨kvs, a, rfl, rfl, hk, hv⟩
          refine ⟨_, rfl, q d kvs _ ((same_new hD).trans (same_new hd)) hd0 upd_same fun w h1 h2 => hv w h1 (by omega)⟩
theorem ok_Shape_init (T : Tx P K mg) : FnOk P w K mg base (L2N.CX P w) 3 T.a_Shape_init T.d_Shape_init ["self", "parents"] (spShape K T.C_Shape T.x_BadShape.C) := by
  have G_side_masks := ok_side_masks (P := P) (w := w) (base := base) T
  refine EP.Fun.okXN T.F_Shape_init sc_Shape_init (fun vs H Q E h => ?_) (fun cdv A outer s H vs Q E hr h => ?_)
  · obtain ⟨s, dx, l, ns, rfl, _⟩ := h
    rfl
  · obtain ⟨s, dx, l, ns, rfl, hs, hl, sm, good, bad, emp⟩ := h
    have len : (ns.map V.int).length = ns.length := List.length_map ..
    refine ⟨_, (pss_cons (ps_for (passes_of rfl) rfl (pi_enumS rfl T.z_enumerate (pa_cons (pv 1) pa_nil)) (pg_tup rfl (pgs_cons (pg_name (i := 2) sc_Shape_init.nd rfl (Or.inl rfl)) (pgs_cons (pg_name (i := 3) sc_Shape_init.nd rfl (Or.inl rfl)) pgs_nil)))
          (pss_one (ps_if (pt_not (pt_chain op_le op_le pe_int (pv 3) (pv 2)))
          (pss_one (L2N.ps_raise rfl (L2N.takes_of rfl rfl rfl rfl) (pmk_oexN T.x_BadShape.sup.oex T.x_BadShape.iC T.x_BadShape.tI (init_BadShape T) (hr.mono (by decide)) (bind_BadShape T) .nil pass0 rfl T.x_BadShape.mgX (pa_cons (pv 2) pa_nil))))
          pss_nil)))
          (pss_cons (ps_if (pt_cmpR op_eq (pe_callB (id := "len") call_len_seq (by rfl) T.z_len (by decide +kernel) (pa_cons (pv 1) pa_nil)) pe_int (nomark _))
          (pss_one (L2N.ps_raise rfl (L2N.takes_of rfl rfl rfl rfl) (pmk_oexN T.x_BadShape.sup.oex T.x_BadShape.iC T.x_BadShape.tI (init_BadShape T) (hr.mono (by decide)) (bind_BadShape T) .nil pass0 rfl T.x_BadShape.mgX (pa_cons pe_int pa_nil))))
          pss_nil)
          (pss_cons (ps_fld (pv 0) (pe_callTy (T := "tuple") call_tuple_of (by rfl) T.z_tuple (by decide +kernel) (pa_cons (pv 1) pa_nil)) rfl)
          (pss_cons (ps_fld (pv 0) (pe_callB (id := "len") call_len_seq (by rfl) T.z_len (by decide +kernel) (pa_cons (pe_fld (pv 0) rfl) pa_nil)) rfl)
          (pss_one (ps_fld (pv 0) (pe_call G_side_masks (hr.mono (by decide)) rfl T.g_side_masks T.F_side_masks.kp T.B_side_masks .nil pass0 (pa_cons (pe_fld (pv 0) rfl) pa_nil)) rfl)))))), ?_⟩
    refine ⟨_, rfl, l, _, rfl, for_enumS hl (fun i σ H' => ∃ (a b : Option V), σ = [some (.ref s), some (.ref l), a, b] ∧ Same H H' ∧ ∀ j, j < i → ¬ Wrong ns j) ⟨none, none, rfl, Same.refl _, fun j hj => absurd hj (Nat.not_lt_zero _)⟩ (fun i σ H' _ ⟨_, _, _, sa, _⟩ => sa) ?_ ?_⟩
    · rintro i x t _ H1 hx ⟨a, b, rfl, sa, nw⟩ ht
      obtain ⟨p, hp, rfl⟩ : ∃ p, ns[i]? = some p ∧ x = V.int p := by
        rw [List.getElem?_map] at hx
        cases e : ns[i]? with
        | none => rw [e] at hx; cases hx
        | some p => rw [e] at hx; exact ⟨p, rfl, (Option.some.inj hx).symm⟩
      have hi : i < ns.length := (List.getElem?_eq_some_iff.mp hp).1
      have sb : Same H (upd H1 t (.tup [.int (i : Nat), .int p])) := sa.trans (same_new ht)
      have raise : ¬ (0 ≤ p ∧ p ≤ (i : Int)) → ∀ d, (upd H1 t (.tup [.int (i : Nat), .int p])) d = none → E (.ref T.x_BadShape.C) (some d) (upd (upd H1 t (.tup [.int (i : Nat), .int p])) d (.xd [("place", .int (i : Nat))])) := fun c d hd =>
        bad i ⟨p, hp, c⟩ nw d _ (sb.trans (same_new hd)) (sb.free hd) upd_same
      have iS : IntS (.int ((i : Nat) : Int)) (upd H1 t (.tup [.int (i : Nat), .int p])) := Small.ok (by unfold Small; omega)
      refine ⟨t, _, rfl, SqT.of upd_same, rfl, _, _, rfl, _, _, rfl, rfl, ?_⟩
      refine ⟨_, rfl, _, _, rfl, rfl, _, rfl, ?_⟩
      refine ite2 (fun h0 => ?_) (fun h0 => ?_)
      · refine ⟨_, rfl, _, _, rfl, rfl, _, rfl, ?_⟩
        refine notIte (fun e => ?_) (fun e => ?_)
        · refine ⟨_, _, rfl, sb, fun j hj => ?_⟩
          by_cases c : j < i
          · exact nw j c
          · obtain rfl : j = i := by omega
            rintro ⟨p', hp', c'⟩
            rw [hp] at hp'
            cases hp'
            exact c' ⟨of_decide_eq_true h0, of_decide_eq_true e⟩
        · exact ⟨_, rfl, mkO_intro iS (raise fun z => of_decide_eq_false e z.2)⟩
      · refine ⟨_, rfl, ?_⟩
        exact ⟨_, rfl, mkO_intro iS (raise fun z => h0 (decide_eq_true z.1))⟩
    · rintro _ H1 ⟨a, b, rfl, sa, nw⟩
      have hl1 : SqL K H1 l (ns.map V.int) ∨ SqT K H1 l (ns.map V.int) := hl.imp sa.seq (SqT_same sa)
      refine ⟨_, rfl, l, _, rfl, hl1, rfl, _, rfl, ?_⟩
      refine ite2 (fun h0 => ?_) (fun h0 => ?_)
      · have e : ns = [] := by
          have := of_decide_eq_true h0
          have z : ((ns.map V.int).length : Int) = 0 := V.int.inj this
          exact List.eq_nil_of_length_eq_zero (by omega)
        exact mkO_intro (Small.ok (by unfold Small; decide)) (fun d hd => emp e d _ (sa.trans (same_new hd)) (sa.free hd) upd_same)
      · have hne : ns.length ≠ 0 := fun z => h0 (decide_eq_true (by rw [len, z]; rfl))
        obtain ⟨ps, e1, e2, ok⟩ := ns_nat fun j => by
          by_cases c : j < (ns.map V.int).length
          · exact nw j c
          · rintro ⟨p, hp, _⟩
            have := (List.getElem?_eq_some_iff.mp hp).1
            omega
        rw [e1] at hl1
        have hs1 := sa _ _ hs
        refine ⟨_, rfl, l, nvs ps, rfl, ?_⟩
        rcases hl1 with hl1 | hl1
        · refine .inl ⟨hl1, fun t ht0 => ?_⟩
          have s12 : Same H1 (upd H1 t (.tup (nvs ps))) := same_new ht0
          have ht : SqT K (upd H1 t (.tup (nvs ps))) t (nvs ps) := SqT.of upd_same
          have hs2 := s12 _ _ hs1
          refine ⟨_, rfl, s, T.C_Shape, dx, _, rfl, hs2, T.cl_Shape, T.n_Shape_parents, (by decide), ?_⟩
          have ht2 : ∀ o, SqT K (upd (upd H1 t (.tup (nvs ps))) s o) t (nvs ps) := fun o => SqT_ins hs2 ht
          refine ⟨_, rfl, s, T.C_Shape, dx, _, _, rfl, upd_same, T.cl_Shape, T.n_Shape_parents, put_parents, t, _, rfl, .inr (ht2 _), _, rfl, s, T.C_Shape, dx, _, rfl, upd_same, T.cl_Shape, T.n_Shape_size, put_l1, ?_⟩
          rw [upd_upd]
          refine ⟨_, rfl, s, T.C_Shape, dx, _, _, rfl, upd_same, T.cl_Shape, T.n_Shape_parents, put_parents2, t, ps, rfl, ht2 _, ok, by omega, fun d kvs H3 same hd hd2 mk => ?_⟩
          have hs3 := same _ _ upd_same
          have nsd : s ≠ d := ne_of_none upd_same hd
          refine ⟨_, rfl, s, T.C_Shape, dx, _, rfl, hs3, T.cl_Shape, T.n_Shape_masks, put_l2, ?_⟩
          refine good ps _ e1 ok (by omega) ?_ ?_
          · exact ((But.of_same (sa.trans s12)).trans (But.set.trans (But.of_same same))).trans But.set
          · have e3 : (nvs ps).length = ps.length := nvs_len ps
            rw [e3, put_shf]
            exact ⟨ok, by omega, by omega, dx, t, d, kvs, upd_same, SqT_ins hs3 (SqT_same same (ht2 _)), by rw [upd_ne nsd.symm]; exact hd2, mk⟩
        · refine .inr ⟨hl1, ?_⟩
          have s12 : Same H1 H1 := Same.refl _
          have ht : SqT K H1 l (nvs ps) := hl1
          have hs2 := s12 _ _ hs1
          refine ⟨_, rfl, s, T.C_Shape, dx, _, rfl, hs2, T.cl_Shape, T.n_Shape_parents, (by decide), ?_⟩
          have ht2 : ∀ o, SqT K (upd H1 s o) l (nvs ps) := fun o => SqT_ins hs2 ht
          refine ⟨_, rfl, s, T.C_Shape, dx, _, _, rfl, upd_same, T.cl_Shape, T.n_Shape_parents, put_parents, l, _, rfl, .inr (ht2 _), _, rfl, s, T.C_Shape, dx, _, rfl, upd_same, T.cl_Shape, T.n_Shape_size, put_l1, ?_⟩
          rw [upd_upd]
          refine ⟨_, rfl, s, T.C_Shape, dx, _, _, rfl, upd_same, T.cl_Shape, T.n_Shape_parents, put_parents2, l, ps, rfl, ht2 _, ok, by omega, fun d kvs H3 same hd hd2 mk => ?_⟩
          have hs3 := same _ _ upd_same
          have nsd : s ≠ d := ne_of_none upd_same hd
          refine ⟨_, rfl, s, T.C_Shape, dx, _, rfl, hs3, T.cl_Shape, T.n_Shape_masks, put_l2, ?_⟩
          refine good ps _ e1 ok (by omega) ?_ ?_
          · exact ((But.of_same (sa.trans s12)).trans (But.set.trans (But.of_same same))).trans But.set
          · have e3 : (nvs ps).length = ps.length := nvs_len ps
            rw [e3, put_shf]
            exact ⟨ok, by omega, by omega, dx, l, d, kvs, upd_same, SqT_ins hs3 (SqT_same same (ht2 _)), by rw [upd_ne nsd.symm]; exact hd2, mk⟩
theorem ok_is_number_of_side (T : Tx P K mg) : FnOk P w K mg base L2.CX0 1 T.a_is_number_of_side T.d_is_number_of_side ["shape", "number"] (spIsNum K T.C_Shape) := by
  refine T.F_is_number_of_side.ok sc_is_number_of_side (fun vs H Q E h => ?_) (fun cdv A outer s H vs Q E hr h => ?_)
  · obtain ⟨s, ps, p, rfl, _⟩ := h
    rfl
  · obtain ⟨s, ps, k, rfl, S, q⟩ := h
    obtain ⟨dx, t, d, kvs, hs, ht, hd, hM⟩ := S.at_
    have cS := T.cl_Shape
    have nP := T.n_Shape_parents
    have nZ := T.n_Shape_size
    have nM := T.n_Shape_masks
    refine ⟨_, (pss_one (ps_ret (pe_and (pe_cmpR op_ne (pv 1) pe_int (nomark _)) (pe_one (pe_chain op_le op_le (pe_un un_neg (pe_fld (pv 0) rfl)) (pv 1) (pe_fld (pv 0) rfl)))))), ?_⟩
    walk_at "rd"
    refine ite2 (fun h0 => ?_) (fun h0 => ?_)
    · walk_at "rd"
      refine ite2 (fun h1 => ?_) (fun h1 => ?_)
      · walk_at "rd"
        refine is_num q ?_
        simp at h0 h1 ⊢
        unfold IsSide
        omega
      · refine is_num q ?_
        simp at h0 h1 ⊢
        unfold IsSide
        omega
    · refine is_num q ?_
      simp at h0 ⊢
      unfold IsSide
      omega
theorem ok_check_position (T : Tx P K mg) : FnOk P w K mg base (L2N.CX P w) 3 T.a_check_position T.d_check_position ["shape", "position"] (spChkPos K T.C_Shape T.x_BadPosition.C) := by
  refine EP.Fun.okXN T.F_check_position sc_check_position (fun vs H Q E h => ?_) (fun cdv A outer s H vs Q E hr h => ?_)
  · obtain ⟨s, ps, p, rfl, _⟩ := h
    rfl
  · obtain ⟨s, ps, p, rfl, S, q1, q2⟩ := h
    obtain ⟨dx, t, d, kvs, hs, ht, hd, hM⟩ := S.at_
    have cS := T.cl_Shape
    have nP := T.n_Shape_parents
    have nZ := T.n_Shape_size
    have nM := T.n_Shape_masks
    refine ⟨_, (pss_one (ps_if (pt_not (pt_chain op_le op_le pe_int (pv 1) (pe_fld (pv 0) rfl)))
          (pss_one (L2N.ps_raise rfl (L2N.takes_of rfl rfl rfl rfl) (pmk_oexN T.x_BadPosition.sup.oex T.x_BadPosition.iC T.x_BadPosition.tI (init_BadPosition T) (hr.mono (by decide)) (bind_BadPosition T) .nil pass0 rfl T.x_BadPosition.mgX (pa_cons (pv 1) pa_nil))))
          pss_nil)), ?_⟩
    walk_at "rd"
    refine ite2 (fun h0 => ?_) (fun h0 => ?_)
    · walk_at "rd"
      refine notIte (fun e => q1 ⟨of_decide_eq_true h0, of_decide_eq_true e⟩) (fun e => ?_)
      obtain ⟨sm, q2⟩ := q2 fun z => of_decide_eq_false e z.2
      exact ⟨_, rfl, mkO_intro sm.ok q2⟩
    · walk_at "rd"
      obtain ⟨sm, q2⟩ := q2 fun z => h0 (decide_eq_true z.1)
      exact mkO_intro sm.ok q2
theorem ok_check_side (T : Tx P K mg) : FnOk P w K mg base (L2N.CX P w) 3 T.a_check_side T.d_check_side ["shape", "side"] (spChkSide K T.C_Shape T.x_BadSide.C) := by
  have G_is_number_of_side := ok_is_number_of_side (P := P) (w := w) (base := base) T
  refine EP.Fun.okXN T.F_check_side sc_check_side (fun vs H Q E h => ?_) (fun cdv A outer s H vs Q E hr h => ?_)
  · obtain ⟨s, ps, p, rfl, _⟩ := h
    rfl
  · obtain ⟨s, ps, k, rfl, S, q1, q2⟩ := h
    refine ⟨_, (pss_one (ps_if (pt_not (pt_val (pe_call G_is_number_of_side (hr.mono (by decide)) rfl T.g_is_number_of_side T.F_is_number_of_side.kp T.B_is_number_of_side .nil pass0 (pa_cons (pv 0) (pa_cons (pv 1) pa_nil)))))
          (pss_one (L2N.ps_raise rfl (L2N.takes_of rfl rfl rfl rfl) (pmk_oexN T.x_BadSide.sup.oex T.x_BadSide.iC T.x_BadSide.tI (init_BadSide T) (hr.mono (by decide)) (bind_BadSide T) .nil pass0 rfl T.x_BadSide.mgX (pa_cons (pv 1) pa_nil))))
          pss_nil)), ?_⟩
    refine ⟨_, rfl, _, rfl, s, ps, k, rfl, S, _, rfl, ?_⟩
    by_cases c : IsSide ps.length k
    · rw [decide_eq_true c]
      exact iteF (q1 c)
    · rw [decide_eq_false c]
      refine iteT ?_
      obtain ⟨sm, q2⟩ := q2 c
      refine ⟨_, rfl, mkO_intro sm.ok q2⟩
theorem ok_Shape_has (T : Tx P K mg) : FnOk P w K mg base (L2N.CX P w) 4 T.a_Shape_has T.d_Shape_has ["self", "position", "side"] (spHas K T.C_Shape T.x_BadPosition.C T.x_BadSide.C) := by
  have G_check_position := ok_check_position (P := P) (w := w) (base := base) T
  have G_check_side := ok_check_side (P := P) (w := w) (base := base) T
  refine EP.Fun.okXN T.F_Shape_has sc_Shape_has (fun vs H Q E h => ?_) (fun cdv A outer s H vs Q E hr h => ?_)
  · obtain ⟨s, ps, p, k, rfl, _⟩ := h
    rfl
  · obtain ⟨s, ps, p, k, rfl, S, q1, q2, q3⟩ := h
    obtain ⟨dx, t, d, kvs, hs, ht, hd, hM⟩ := S.at_
    have cS := T.cl_Shape
    have nP := T.n_Shape_parents
    have nZ := T.n_Shape_size
    have nM := T.n_Shape_masks
    refine ⟨_, (pss_cons (ps_expr (pe_call G_check_position hr rfl T.g_check_position T.F_check_position.kp T.B_check_position .nil pass_upN (pa_cons (pv 0) (pa_cons (pv 1) pa_nil))))
          (pss_cons (ps_expr (pe_call G_check_side hr rfl T.g_check_side T.F_check_side.kp T.B_check_side .nil pass_upN (pa_cons (pv 0) (pa_cons (pv 2) pa_nil))))
          (pss_one (ps_ret (pe_cmpR op_eq (pe_op op_and (pe_op op_shr (pe_dget (hu_of hr) (pe_fld (pv 0) rfl) (pv 2) (fun _ _ => rfl)) (pv 1)) pe_int) pe_int (nomark _)))))), ?_⟩
    refine ⟨_, rfl, _, rfl, s, ps, p, rfl, S, fun hp => ?_, q2⟩
    refine ⟨_, rfl, _, rfl, s, ps, k, rfl, S, fun hk => ?_, q3 hp⟩
    obtain ⟨m, hm, hb⟩ := mask_of hM hp hk
    walk_at "rd"
    have q := q1 hp hk
    refine ⟨d, .int m, rfl, ?_, ?_⟩
    · rw [← hm]
      exact DGet.k (k := Sum.inl k) hd
    walk_at "rd"
    refine ⟨hp.1, ?_⟩
    walk_at "rd"
    show Q (.bl (decide (V.int (Builtin.bitAnd ((m : Int) / 2 ^ p.toNat) 1) = V.int 1))) H
    rw [shr_ok, hb]
    cases hz : hasS ps p k
    · rw [hz] at q
      exact q
    · rw [hz] at q
      exact q
theorem ok_Shape_positions_of (T : Tx P K mg) : FnOk P w K mg base (L2N.CX P w) 5 T.a_Shape_positions_of T.d_Shape_positions_of ["self", "side"] (spPosOf K T.C_Shape T.x_BadSide.C) := by
  have G_Shape_has := ok_Shape_has (P := P) (w := w) (base := base) T
  have G_check_side := ok_check_side (P := P) (w := w) (base := base) T
  refine EP.Fun.okXN T.F_Shape_positions_of sc_Shape_positions_of (fun vs H Q E h => ?_) (fun cdv A outer s H vs Q E hr h => ?_)
  · obtain ⟨s, ps, k, rfl, _⟩ := h
    rfl
  · obtain ⟨s, ps, k, rfl, S, good, bad⟩ := h
    have sm := S.small
    refine ⟨_, (pss_cons (ps_expr (pe_call G_check_side (hr.mono (by decide)) rfl T.g_check_side T.F_check_side.kp T.B_check_side .nil pass_upN (pa_cons (pv 0) (pa_cons (pv 1) pa_nil))))
          (pss_one (ps_ret (pe_lc (own := [("position", 2)]) (g := gName 2) rfl sc_Shape_positions_of.nd (pi_range1 rfl T.z_range (pa_cons (pe_op op_add (pe_fld (pv 0) rfl) pe_int) pa_nil)) (blkOk_by (N := ["self", "side", "position"]) (sc := defScope s_Shape_positions_of) (by decide +kernel)) (fun _ _ _ _ _ => (pg_name (i := 2) sc_Shape_positions_of.nd rfl (Or.inl rfl))) (fun _ _ _ _ _ => (pts_one (pt_val (pe_meth (pv 0) T.cl_Shape T.m_Shape_has G_Shape_has hr T.B_Shape_has .nil pass_noN (pa_cons (pv 2) (pa_cons (pv 1) pa_nil)))))) (fun _ _ _ _ _ => (pv 2)))))), ?_⟩
    refine ⟨_, rfl, _, rfl, s, ps, k, rfl, S, fun hk => ?_, fun nk => ?_⟩
    rotate_left
    · obtain ⟨sm, q⟩ := bad nk
      exact ⟨sm, fun d hd => q d _ (same_new hd) hd upd_same⟩
    obtain ⟨dx, t, d, kvs, hs, ht, hd, hM⟩ := S.at_
    refine ⟨_, rfl, _, _, _, _, _, rfl, hs, T.cl_Shape, T.n_Shape_size, shf_size, _, _, rfl, rfl, _, rfl, by omega, by omega, fun D hD => ?_⟩
    have en : ((ps.length : Int) + 1).toNat = ps.length + 1 := by omega
    rw [en]
    refine lc_range (fun k' H' => H' = upd H D (.lst (nvs ((List.range k').filter fun p => hasS ps (p : Int) k)))) rfl ?_ ?_
    · rintro i _ hi rfl
      have e0 : (0 : Int) + (i : Int) = (i : Int) := by omega
      have S1 : ShapeAt K T.C_Shape (upd H D (.lst (nvs ((List.range i).filter fun p => hasS ps (p : Int) k)))) s ps := S.same (same_new hD)
      have hs1 := (same_new (o := .lst (nvs ((List.range i).filter fun p => hasS ps (p : Int) k))) hD) _ _ hs
      have ip : IsPos ps.length (0 + (i : Int)) := ⟨by omega, by omega⟩
      refine ⟨rfl, ?_⟩
      refine ⟨_, rfl, s, dx, _, rfl, hs1, shf_no (by decide +kernel) (by decide +kernel) (by decide +kernel), _, rfl, _, rfl, s, ps, _, _, rfl, S1, fun _ _ => ⟨_, rfl, ?_⟩, fun z => absurd ip z, fun _ z => absurd hk z⟩
      rw [e0, List.range_succ, List.filter_append]
      refine boolIte (fun h => ?_) (fun h => ?_)
      · refine ⟨_, rfl, _, upd_same, size_lt (by rw [nvs_len]; exact Nat.le_trans (List.length_filter_le _ _) (by rw [List.length_range]; omega)), ?_⟩
        rw [upd_upd, nvs_snoc]
        simp [h]
      · simp [h]
    rintro _ rfl
    exact good hk D _ (same_new hD) hD upd_same
theorem ok_Shape_sides_at (T : Tx P K mg) : FnOk P w K mg base (L2N.CX P w) 5 T.a_Shape_sides_at T.d_Shape_sides_at ["self", "position"] (spSidesAt K T.C_Shape T.x_BadPosition.C) := by
  have G_Shape_has := ok_Shape_has (P := P) (w := w) (base := base) T
  have G_check_position := ok_check_position (P := P) (w := w) (base := base) T
  refine EP.Fun.okXN T.F_Shape_sides_at sc_Shape_sides_at (fun vs H Q E h => ?_) (fun cdv A outer s H vs Q E hr h => ?_)
  · obtain ⟨s, ps, p, rfl, _⟩ := h
    rfl
  · obtain ⟨s, ps, p, rfl, S, good, bad⟩ := h
    have sm := S.small
    refine ⟨_, (pss_cons (ps_expr (pe_call G_check_position (hr.mono (by decide)) rfl T.g_check_position T.F_check_position.kp T.B_check_position .nil pass_upN (pa_cons (pv 0) (pa_cons (pv 1) pa_nil))))
          (pss_one (ps_ret (pe_lc (own := [("wall", 2)]) (g := gName 2) (tt := tYes) rfl sc_Shape_sides_at.nd (pi_range2 rfl T.z_range (pa_cons pe_int (pa_cons (pe_op op_add (pe_fld (pv 0) rfl) pe_int) pa_nil))) (blkOk_by (N := ["self", "position", "wall"]) (sc := defScope s_Shape_sides_at) (by decide +kernel)) (fun _ _ _ _ _ => (pg_name (i := 2) sc_Shape_sides_at.nd rfl (Or.inl rfl))) (fun _ _ _ _ _ => pts_nil) (fun _ _ _ _ _ => (pe_ifExp (pt_val (pe_meth (pv 0) T.cl_Shape T.m_Shape_has G_Shape_has hr T.B_Shape_has .nil pass_noN (pa_cons (pv 1) (pa_cons (pv 2) pa_nil)))) (pv 2) (pe_un un_neg (pv 2)))))))), ?_⟩
    refine ⟨_, rfl, _, rfl, s, ps, p, rfl, S, fun hp => ?_, fun np => ?_⟩
    rotate_left
    · obtain ⟨sm, q⟩ := bad np
      exact ⟨sm, fun d hd => q d _ (same_new hd) hd upd_same⟩
    obtain ⟨p, rfl, hp'⟩ := posOf hp
    have good := good p rfl hp'
    obtain ⟨dx, t, d, kvs, hs, ht, hd, hM⟩ := S.at_
    refine ⟨_, rfl, _, _, _, _, _, rfl, hs, T.cl_Shape, T.n_Shape_size, shf_size, _, _, rfl, rfl, _, _, rfl, ⟨by decide, by decide, by omega, by omega⟩, fun D hD => ?_⟩
    have en : ((ps.length : Int) + 1 - 1).toNat = ps.length := by omega
    rw [en]
    refine lc_range (fun k' H' => H' = upd H D (.lst ((hadL ps p).take k'))) rfl ?_ ?_
    · rintro i _ hi rfl
      have S1 : ShapeAt K T.C_Shape (upd H D (.lst ((hadL ps p).take i))) s ps := S.same (same_new hD)
      have hs1 := (same_new (o := .lst ((hadL ps p).take i)) hD) _ _ hs
      have ik : IsSide ps.length (1 + (i : Int)) := ⟨by omega, by omega, by omega⟩
      have et : (hadL ps p).take (i + 1) = (hadL ps p).take i ++ [V.int (Tr.side ps p (i + 1))] := by
        have e := hadL_get (ps := ps) (p := p) hi
        have hk := (List.getElem?_eq_some_iff.mp e).1
        rw [List.take_succ_eq_append_getElem hk, (List.getElem?_eq_some_iff.mp e).2]
      have ll : ((hadL ps p).take i).length ≤ 1000 := by rw [List.length_take, hadL_len]; omega
      have ei : (1 + (i : Int)) = ((i + 1 : Nat) : Int) := by omega
      refine ⟨rfl, ?_⟩
      refine ⟨_, rfl, s, dx, _, rfl, hs1, shf_no (by decide +kernel) (by decide +kernel) (by decide +kernel), _, rfl, _, rfl, s, ps, _, _, rfl, S1, fun _ _ => ⟨_, rfl, ?_⟩, fun z => absurd hp z, fun _ z => absurd ik z⟩
      rw [et, ei, hasS_nat (by omega)]
      refine boolIte (fun h => ?_) (fun h => ?_)
      · refine ⟨_, rfl, _, upd_same, size_lt (by omega), ?_⟩
        rw [upd_upd]
        unfold Tr.side
        rw [if_pos h]
      · refine ⟨_, rfl, _, rfl, _, upd_same, size_lt (by omega), ?_⟩
        rw [upd_upd]
        unfold Tr.side
        rw [if_neg (by rw [h]; decide)]
        simp
    rintro _ rfl
    have ee : (hadL ps p).take ps.length = hadL ps p := List.take_of_length_le (by rw [hadL_len]; omega)
    exact good D _ (same_new hD) hD (by rw [upd_same, ee])
theorem ok_Shape_is_line (T : Tx P K mg) : FnOk P w K mg base L2.CX0 1 T.a_Shape_is_line T.d_Shape_is_line ["self"] (spIsLine K T.C_Shape) := by
  refine T.F_Shape_is_line.ok sc_Shape_is_line (fun vs H Q E h => ?_) (fun cdv A outer s H vs Q E hr h => ?_)
  · obtain ⟨s, ps, rfl, _⟩ := h
    rfl
  · obtain ⟨s, ps, rfl, S, q⟩ := h
    have sm := S.small
    obtain ⟨dx, t, d, kvs, hs, ht, hd, hM⟩ := S.at_
    refine ⟨_, (pss_one (ps_ret (pe_cmpR (op_eqD (hu64_of hr)) (pe_fld (pv 0) rfl) (pe_tupRg rfl rfl T.z_tuple (prg_1 rfl T.z_range (pe_fld (pv 0) rfl))) (nomark _)))), ?_⟩
    refine ⟨_, rfl, _, _, _, _, _, rfl, hs, T.cl_Shape, T.n_Shape_parents, shf_parents, _, rfl, _, _, _, _, _, rfl, hs, T.cl_Shape, T.n_Shape_size, shf_size, _, rfl, RgOk.of_le (by decide) (by omega) (by decide) (by omega), fun r hr => ?_⟩
    rw [rgV_nvs]
    have e1 : SqT K (upd H r (.tup (nvs (List.range ps.length)))) t ((toI ps).map V.int) := by rw [← nvs_toI]; exact SqT_same (same_new hr) ht
    have e2 : SqT K (upd H r (.tup (nvs (List.range ps.length)))) r ((toI (List.range ps.length)).map V.int) := by rw [← nvs_toI]; exact SqT.of upd_same
    refine ⟨_, _, dp_tup e1, dp_tup e2, shaped_tup _, shaped_tup _, ?_⟩
    rw [eqv_tup]
    have := q _ (same_new (o := .tup (nvs (List.range ps.length))) hr)
    rw [show decide (toI ps = toI (List.range ps.length)) = decide (ps = List.range ps.length) from decide_eq_decide.mpr toI_inj]
    exact this
theorem ok_line (T : Tx P K mg) : FnOk P w K mg base (L2N.CX P w) 5 T.a_line T.d_line ["size"] (spLine K T.C_Shape T.x_BadShape.C) := by
  have G_Shape_init := ok_Shape_init (P := P) (w := w) (base := base) T
  refine EP.Fun.okXN T.F_line sc_line (fun vs H Q E h => ?_) (fun cdv A outer s H vs Q E hr h => ?_)
  · obtain ⟨n, rfl, _⟩ := h
    rfl
  · obtain ⟨n, rfl, n0, n1, good, bad⟩ := h
    refine ⟨_, (pss_one (ps_ret (pe_make T.M_Shape G_Shape_init hr rfl T.mg_Shape T.B_Shape_init .nil pass_upN (pa_cons (pe_listRg rfl rfl T.z_list (prg_1 rfl T.z_range (pv 0))) pa_nil)))), ?_⟩
    refine ⟨_, rfl, _, rfl, ⟨by decide, by decide, n0, by omega, by omega⟩, fun l hl => ?_⟩
    by_cases c : 1 ≤ n
    · have good := good c
      clear bad
      obtain ⟨m, rfl⟩ : ∃ m : Nat, n = m := ⟨n.toNat, by omega⟩
      rw [rgV_nvs]
      intro x dx nx ndx nex
      have hz : (upd H l (.lst (nvs (List.range m)))) l = some (.lst ((toI (List.range m)).map V.int)) := by rw [upd_same, nvs_toI]
      refine ⟨x, dx, l, toI (List.range m), rfl, upd_same, .inl (SqL.of (made_at nx ndx hz)), by rw [toI_len, List.length_range]; omega, fun ps' H8 e ok' pos' bt S8 => ⟨rfl, ?_⟩, fun j wr => absurd wr (noWrong (ok_range m)), fun e => absurd (congrArg List.length e) (by rw [toI_len, List.length_range]; show ¬ m = 0; omega)⟩
      obtain rfl : List.range m = ps' := nvs_inj (by rw [← e, nvs_toI])
      rw [Int.toNat_natCast] at good
      exact good x H8 ((same_new hl).trans (made nx ndx bt)) ((same_new hl).free nx) S8
    · rw [rgV_neg (by omega)]
      intro x dx nx ndx nex
      have hz : (upd H l (.lst [])) l = some (.lst (([] : List Int).map V.int)) := by rw [upd_same]; rfl
      refine ⟨x, dx, l, [], rfl, upd_same, .inl (SqL.of (made_at nx ndx hz)), by decide, fun ps' H8 e ok' pos' bt S8 => ?_, fun j ⟨p, hp, _⟩ => by simp at hp, fun _ d H8 s8 hd h8 => bad (by omega) d H8 ?_ ?_ h8⟩
      · exfalso
        have := congrArg List.length e
        rw [nvs_len] at this
        simp at this
        omega
      · exact ((same_new hl).trans ((same_new ndx).trans (same_new (by rw [upd_ne nex.symm]; exact nx)))).trans s8
      · exact ((same_new hl).trans ((same_new ndx).trans (same_new (by rw [upd_ne nex.symm]; exact nx)))).free hd
theorem ok_star (T : Tx P K mg) : FnOk P w K mg base (L2N.CX P w) 5 T.a_star T.d_star ["size"] (spStar K T.C_Shape T.x_BadShape.C) := by
  have G_Shape_init := ok_Shape_init (P := P) (w := w) (base := base) T
  refine EP.Fun.okXN T.F_star sc_star (fun vs H Q E h => ?_) (fun cdv A outer s H vs Q E hr h => ?_)
  · obtain ⟨n, rfl, _⟩ := h
    rfl
  · obtain ⟨n, rfl, n0, n1, good, bad⟩ := h
    refine ⟨_, (pss_one (ps_ret (pe_make T.M_Shape G_Shape_init hr rfl T.mg_Shape T.B_Shape_init .nil pass_upN (pa_cons (pe_op op_rep (pe_lst (pa_cons pe_int pa_nil)) (pv 0)) pa_nil)))), ?_⟩
    refine ⟨by decide, fun l0 hl0 => ⟨_, rfl, ?_⟩⟩
    refine ⟨l0, n, _, rfl, rfl, upd_same, by omega, by omega, (by show 1 * _ ≤ _; exact size_le (by omega)), fun l hl => ?_⟩
    rw [rep_one]
    intro x dx nx ndx nex
    have s0 := (same_new (o := .lst [V.int 0]) hl0).trans (same_new (o := .lst (nvs (List.replicate n.toNat 0))) hl)
    by_cases c : 1 ≤ n
    · have good := good c
      have hz : (upd (upd H l0 (.lst [V.int 0])) l (.lst (nvs (List.replicate n.toNat 0)))) l = some (.lst ((toI (List.replicate n.toNat 0)).map V.int)) := by rw [upd_same, nvs_toI]
      refine ⟨x, dx, l, toI (List.replicate n.toNat 0), rfl, upd_same, .inl (SqL.of (made_at nx ndx hz)), by rw [toI_len, List.length_replicate]; omega, fun ps' H8 e ok' pos' bt S8 => ⟨rfl, ?_⟩, fun j wr => absurd wr (noWrong (ok_zeros _)), fun e => absurd (congrArg List.length e) (by rw [toI_len, List.length_replicate]; show ¬ n.toNat = 0; omega)⟩
      obtain rfl : List.replicate n.toNat 0 = ps' := nvs_inj (by rw [← e, nvs_toI])
      exact good x H8 (s0.trans (made nx ndx bt)) (s0.free nx) S8
    · have e0 : n.toNat = 0 := by omega
      rw [e0] at s0 nx ndx ⊢
      have hz : (upd (upd H l0 (.lst [V.int 0])) l (.lst (nvs (List.replicate 0 0)))) l = some (.lst (([] : List Int).map V.int)) := by rw [upd_same]; rfl
      refine ⟨x, dx, l, [], rfl, upd_same, .inl (SqL.of (made_at nx ndx hz)), by decide, fun ps' H8 e ok' pos' bt S8 => ?_, fun j ⟨p, hp, _⟩ => by simp at hp, fun _ d H8 s8 hd h8 => bad (by omega) d H8 ?_ ?_ h8⟩
      · exfalso
        have := congrArg List.length e
        rw [nvs_len] at this
        simp at this
        omega
      · exact (s0.trans ((same_new ndx).trans (same_new (by rw [upd_ne nex.symm]; exact nx)))).trans s8
      · exact (s0.trans ((same_new ndx).trans (same_new (by rw [upd_ne nex.symm]; exact nx)))).free hd
theorem ok_equal_shapes (T : Tx P K mg) : FnOk P w K mg base L2.CX0 1 T.a_equal_shapes T.d_equal_shapes ["shape", "other"] (spEqual K T.C_Shape) := by
  refine T.F_equal_shapes.ok sc_equal_shapes (fun vs H Q E h => ?_) (fun cdv A outer s H vs Q E hr h => ?_)
  · obtain ⟨s, t, ps, qs, rfl, _⟩ := h
    rfl
  · obtain ⟨s, t, ps, qs, rfl, S, S2, q⟩ := h
    obtain ⟨dx, p, d, kvs, hs, hp, hd, hM⟩ := S.at_
    obtain ⟨dx2, p2, d2, kvs2, hs2, hp2, hd2, hM2⟩ := S2.at_
    refine ⟨_, (pss_one (ps_ret (pe_cmpR (op_eqD (hu64_of hr)) (pe_fld (pv 0) rfl) (pe_fld (pv 1) rfl) (nomark _)))), ?_⟩
    refine ⟨_, rfl, _, _, _, _, _, rfl, hs, T.cl_Shape, T.n_Shape_parents, shf_parents, _, rfl, _, _, _, _, _, rfl, hs2, T.cl_Shape, T.n_Shape_parents, shf_parents, ?_⟩
    rw [nvs_toI] at hp hp2
    refine ⟨_, _, dp_tup hp, dp_tup hp2, shaped_tup _, shaped_tup _, ?_⟩
    rw [eqv_tup, show decide (toI ps = toI qs) = decide (ps = qs) from decide_eq_decide.mpr toI_inj]
    exact q
theorem ok_l_yes_or_no (T : Tx P K mg) : FnOk P w K mg base L2.CX0 1 T.a_l_yes_or_no T.d_l_yes_or_no ["_law_told", "_law_due"] (spYes) := by
  refine T.F_l_yes_or_no.ok sc_l_yes_or_no (fun vs H Q E h => ?_) (fun cdv A outer s H vs Q E hr h => ?_)
  · obtain ⟨a, rfl, _⟩ := h
    rfl
  · obtain ⟨a, rfl, q⟩ := h
    refine ⟨_, (pss_cons (ps_if (pt_val (pv 1))
          (pss_one (ps_ret (pe_cmpR op_isBl (pv 0) pe_bl (nomark _))))
          pss_nil)
          (pss_one (ps_ret (pe_cmpR op_isBl (pv 0) pe_bl (nomark _))))), ?_⟩
    refine ⟨_, rfl, _, rfl, ?_⟩
    cases a with
    | true => exact iteT ⟨_, rfl, _, _, rfl, rfl, q⟩
    | false => exact iteF ⟨_, rfl, _, _, rfl, rfl, q⟩
theorem ok_l_is_number (T : Tx P K mg) : FnQ P w K mg base 1 T.a_l_is_number T.d_l_is_number ["_law_thing"] (spIsNumber) := by
  refine EP.Fun.okQ T.F_l_is_number sc_l_is_number (fun vs H Q E h => ?_) (fun cdv A outer s H vs Q hr h => ?_)
  · obtain ⟨i, rfl, _⟩ := h
    rfl
  · obtain ⟨i, rfl, q⟩ := h
    refine ⟨_, (pss_one (ps_ret (pe_and (pe_callB (id := "isinstance") call_isi (by rfl) T.z_isinstance (by decide +kernel) (pa_cons (pv 0) (pa_cons (pe_bltn (v := .ty "int") rfl T.z_int (by decide +kernel) rfl) pa_nil))) (pe_one (pe_not (pe_callB (id := "isinstance") call_isi (by rfl) T.z_isinstance (by decide +kernel) (pa_cons (pv 0) (pa_cons (pe_bltn (v := .ty "bool") rfl T.z_bool (by decide +kernel) rfl) pa_nil)))))))), ?_⟩
    refine ⟨_, rfl, _, _, _, _, _, rfl, .ty "int", .base (.int i), kit_ty (r := true) (by decide +kernel), _, rfl, ?_⟩
    refine iteT ?_
    refine ⟨_, rfl, _, _, _, _, _, rfl, .ty "bool", .base (.int i), kit_ty (r := false) (by decide +kernel), _, rfl, q⟩
theorem ok_l_ints (T : Tx P K mg) : FnOk P w K mg base L2.CX0 2 T.a_l_ints T.d_l_ints ["_law_told", "_law_due"] (spIntsZ K) := by
  have G_l_is_number := ok_l_is_number (P := P) (w := w) (base := base) T
  refine T.F_l_ints.ok sc_l_ints (fun vs H Q E h => ?_) (fun cdv A outer s H vs Q E hr h => ?_)
  · obtain ⟨x, y, L, rfl, _⟩ := h
    rfl
  · obtain ⟨x, y, L, rfl, hx, hy, sm, q⟩ := h
    have len : (L.map V.int).length = L.length := List.length_map ..
    have gt : ∀ {i : Nat} {p : Int}, L[i]? = some p → (L.map V.int)[i]? = some (.int p) := fun hp => by rw [List.getElem?_map, hp]; rfl
    refine ⟨_, (pss_cons (ps_if (PW.pt (pw_or (pt_not (pt_val (pe_callB (id := "isinstance") call_isi (by rfl) T.z_isinstance (by decide +kernel) (pa_cons (pv 0) (pa_cons (pe_bltn (v := .ty "list") rfl T.z_list (by decide +kernel) rfl) pa_nil))))) (pw_or1 (pt_cmpR op_ne (pe_callB (id := "len") call_len_seq (by rfl) T.z_len (by decide +kernel) (pa_cons (pv 0) pa_nil)) (pe_callB (id := "len") call_len_seq (by rfl) T.z_len (by decide +kernel) (pa_cons (pv 1) pa_nil)) (nomark _)))))
          (pss_one (ps_ret pe_bl))
          pss_nil)
          (pss_cons (ps_for PassesOwn.never rfl (pi_range1 rfl T.z_range (pa_cons (pe_callB (id := "len") call_len_seq (by rfl) T.z_len (by decide +kernel) (pa_cons (pv 1) pa_nil)) pa_nil)) (pg_name (i := 2) sc_l_ints.nd rfl (Or.inl rfl))
          (pss_one (ps_if (PW.pt (pw_or (pt_not (pt_val (pe_callQ G_l_is_number ((roomH_of hr).mono (by decide)) rfl T.g_l_is_number T.F_l_is_number.kp T.B_l_is_number (pa_cons (pe_ix ix_list (pv 0) (pv 2) (fun _ _ => rfl)) pa_nil)))) (pw_or1 (pt_cmpR op_ne (pe_ix ix_list (pv 0) (pv 2) (fun _ _ => rfl)) (pe_ix ix_list (pv 1) (pv 2) (fun _ _ => rfl)) (nomark _)))))
          (pss_one (ps_ret pe_bl))
          pss_nil)))
          (pss_one (ps_ret pe_bl)))), ?_⟩
    refine ⟨_, rfl, _, _, _, _, _, rfl, .ty "list", .base (.lst hx), kit_ty (r := true) (by decide +kernel), _, rfl, ?_⟩
    refine iteF ?_
    refine ⟨_, rfl, x, _, rfl, .inl (SqL.of hx), _, rfl, y, _, rfl, .inl hy, rfl, _, rfl, ?_⟩
    refine ifF (by simp) ?_
    refine ⟨_, rfl, y, _, rfl, .inl hy, _, rfl, by omega, by omega, for_range (fun i σ H' => ∃ v : Option V, σ = [some (.ref x), some (.ref y), v] ∧ H' = H) ⟨none, rfl, rfl⟩ ?_ ?_⟩
    · rintro i _ H hi ⟨v, rfl, rfl⟩
      obtain ⟨p, hp⟩ : ∃ p, L[i]? = some p := ⟨L[i]'(by omega), List.getElem?_eq_getElem _⟩
      have e0 : (0 : Int) + (i : Int) = (i : Int) := by omega
      refine ⟨_, rfl, _, rfl, x, _, _, _, rfl, rfl, SqL.of hx, at_of e0 (gt hp), _, rfl, _, rfl, ?_⟩
      refine iteF ?_
      refine ⟨_, rfl, _, rfl, x, _, _, _, rfl, rfl, SqL.of hx, at_of e0 (gt hp), _, rfl, _, rfl, y, _, _, _, rfl, rfl, hy, at_of e0 (gt hp), rfl, _, rfl, ?_⟩
      exact ifF (by simp) ⟨_, rfl, rfl⟩
    · rintro _ H ⟨v, rfl, rfl⟩
      exact q
theorem ok_l_positions_of_refused (T : Tx P K mg) : FnOk P w K mg base L2.CX0 6 T.a_l_positions_of_refused T.d_l_positions_of_refused ["_law_shape", "_law_side"] (spPosOfRef K T.C_Shape) := by
  have G_Shape_positions_of := ok_Shape_positions_of (P := P) (w := w) (base := base) T
  have G_l_is_number := ok_l_is_number (P := P) (w := w) (base := base) T
  refine T.F_l_positions_of_refused.ok sc_l_positions_of_refused (fun vs H Q E h => ?_) (fun cdv A outer s H vs Q E hr h => ?_)
  · obtain ⟨s, ps, k, rfl, _⟩ := h
    rfl
  · obtain ⟨s, ps, k, rfl, S, nk, sm, q⟩ := h
    obtain ⟨dx, t, d, kvs, hs, ht, hd, hM⟩ := S.at_
    refine ⟨_, (pss_cons (L2N.ps_try_as (i := 2) (Wout := fun _ _ _ _ => False) rfl rfl sc_l_positions_of_refused.nd rfl rfl ⟨rfl, by decide, Or.inl T.x_BadSide.mgX⟩ takes0N (fun W pn xe tk _ => (pss_one (ps_expr (pe_methT (pv 0) T.cl_Shape T.m_Shape_positions_of G_Shape_positions_of hr T.B_Shape_positions_of (fun σ => L2N.passAt tk σ) (by exact (pa_cons (pv 1) pa_nil)))))) (fun a oe cls d pn hz hf => (pss_cons (ps_if (PW.pt (pw_or (pt_not (pt_val (pe_callB (id := "isinstance") (call_isG hz.zc hf) (by rfl) T.z_isinstance (by decide +kernel) (pa_cons (pv 2) (pa_cons (pe_glob (v := .ref T.C_FindsError) rfl T.mg_FindsError rfl) pa_nil))))) (pw_or1 (pt_val (pe_callB (id := "isinstance") (call_isG hz.zc hf) (by rfl) T.z_isinstance (by decide +kernel) (pa_cons (pv 2) (pa_cons (pe_glob (v := .ref T.x_BadPosition.C) rfl T.x_BadPosition.mgX rfl) pa_nil)))))))
          (pss_one (ps_ret pe_bl))
          pss_nil)
          (pss_one (ps_ret (pe_and (pe_callQ G_l_is_number (room_mark hr (by decide)) rfl T.g_l_is_number T.F_l_is_number.kp T.B_l_is_number (pa_cons (pe_xf T.x_BadSide.xf T.x_BadSide.xn hz.zc hf (pv 2)) pa_nil)) (pe_one (pe_cmpR op_eq (pe_xf T.x_BadSide.xf T.x_BadSide.xn hz.zc hf (pv 2)) (pv 1) (nomark _)))))))))
          (pss_one (ps_ret pe_bl))), ?_⟩
    refine ⟨_, rfl, s, dx, _, rfl, hs, shf_no (by decide +kernel) (by decide +kernel) (by decide +kernel), _, rfl, s, ps, k, rfl, S, fun hk => absurd hk nk, fun _ => ⟨sm, fun d H' sa nd hd => ?_⟩⟩
    
    refine ⟨true, PySem.W.exm_ref T.x_BadSide.sup.oex.exC T.x_BadSide.xf.hdC T.x_BadSide.sup.oex.tyC T.x_BadSide.sup.sub, fun _ e ne => ?_, fun z => Bool.noConfusion z⟩
    refine ⟨_, rfl, _, d, _, _, _, _, rfl, rfl, hd, T.x_BadSide.ec, rfl, relV_ref, T.k_BadSide_FindsError, _, rfl, ?_⟩
    refine iteF ?_
    refine ⟨_, rfl, _, d, _, _, _, _, rfl, rfl, hd, T.x_BadSide.ec, rfl, relV_ref, T.k_BadSide_BadPosition, _, rfl, ?_⟩
    refine iteF ?_
    refine ⟨_, rfl, rfl, rfl, d, _, _, rfl, hd, xd_get, k, rfl, _, rfl, ?_⟩
    refine iteT ?_
    refine ⟨_, rfl, rfl, rfl, d, _, _, rfl, hd, xd_get, _, rfl, rfl, ?_⟩
    rw [decide_eq_true rfl]
    exact q _ sa
theorem ok_l_side_refused (T : Tx P K mg) : FnOk P w K mg base L2.CX0 5 T.a_l_side_refused T.d_l_side_refused ["_law_shape", "_law_position", "_law_side"] (spSideRef K T.C_Shape) := by
  have G_Shape_has := ok_Shape_has (P := P) (w := w) (base := base) T
  have G_l_is_number := ok_l_is_number (P := P) (w := w) (base := base) T
  refine T.F_l_side_refused.ok sc_l_side_refused (fun vs H Q E h => ?_) (fun cdv A outer s H vs Q E hr h => ?_)
  · obtain ⟨s, ps, p, k, rfl, _⟩ := h
    rfl
  · obtain ⟨s, ps, p, k, rfl, S, hp, nk, sm, q⟩ := h
    obtain ⟨dx, t, d, kvs, hs, ht, hd, hM⟩ := S.at_
    refine ⟨_, (pss_cons (L2N.ps_try_as (i := 3) (Wout := fun _ _ _ _ => False) rfl rfl sc_l_side_refused.nd rfl rfl ⟨rfl, by decide, Or.inl T.x_BadSide.mgX⟩ takes0N (fun W pn xe tk _ => (pss_one (ps_expr (pe_methT (pv 0) T.cl_Shape T.m_Shape_has G_Shape_has hr T.B_Shape_has (fun σ => L2N.passAt tk σ) (by exact (pa_cons (pv 1) (pa_cons (pv 2) pa_nil))))))) (fun a oe cls d pn hz hf => (pss_cons (ps_if (PW.pt (pw_or (pt_not (pt_val (pe_callB (id := "isinstance") (call_isG hz.zc hf) (by rfl) T.z_isinstance (by decide +kernel) (pa_cons (pv 3) (pa_cons (pe_glob (v := .ref T.C_FindsError) rfl T.mg_FindsError rfl) pa_nil))))) (pw_or1 (pt_val (pe_callB (id := "isinstance") (call_isG hz.zc hf) (by rfl) T.z_isinstance (by decide +kernel) (pa_cons (pv 3) (pa_cons (pe_glob (v := .ref T.x_BadPosition.C) rfl T.x_BadPosition.mgX rfl) pa_nil)))))))
          (pss_one (ps_ret pe_bl))
          pss_nil)
          (pss_one (ps_ret (pe_and (pe_callQ G_l_is_number (room_mark hr (by decide)) rfl T.g_l_is_number T.F_l_is_number.kp T.B_l_is_number (pa_cons (pe_xf T.x_BadSide.xf T.x_BadSide.xn hz.zc hf (pv 3)) pa_nil)) (pe_one (pe_cmpR op_eq (pe_xf T.x_BadSide.xf T.x_BadSide.xn hz.zc hf (pv 3)) (pv 2) (nomark _)))))))))
          (pss_one (ps_ret pe_bl))), ?_⟩
    refine ⟨_, rfl, s, dx, _, rfl, hs, shf_no (by decide +kernel) (by decide +kernel) (by decide +kernel), _, rfl, _, rfl, s, ps, p, k, rfl, S, fun _ hk => absurd hk nk, fun np => absurd hp np, fun _ _ => ⟨sm, fun d hd => ?_⟩⟩
    have sa := same_new (o := .xd [("side", V.int k)]) hd
    replace hd : upd H d (.xd [("side", V.int k)]) d = _ := upd_same
    
    refine ⟨true, PySem.W.exm_ref T.x_BadSide.sup.oex.exC T.x_BadSide.xf.hdC T.x_BadSide.sup.oex.tyC T.x_BadSide.sup.sub, fun _ e ne => ?_, fun z => Bool.noConfusion z⟩
    refine ⟨_, rfl, _, d, _, _, _, _, rfl, rfl, hd, T.x_BadSide.ec, rfl, relV_ref, T.k_BadSide_FindsError, _, rfl, ?_⟩
    refine iteF ?_
    refine ⟨_, rfl, _, d, _, _, _, _, rfl, rfl, hd, T.x_BadSide.ec, rfl, relV_ref, T.k_BadSide_BadPosition, _, rfl, ?_⟩
    refine iteF ?_
    refine ⟨_, rfl, rfl, rfl, d, _, _, rfl, hd, xd_get, k, rfl, _, rfl, ?_⟩
    refine iteT ?_
    refine ⟨_, rfl, rfl, rfl, d, _, _, rfl, hd, xd_get, _, rfl, rfl, ?_⟩
    rw [decide_eq_true rfl]
    exact q _ sa
theorem ok_l_position_refused (T : Tx P K mg) : FnOk P w K mg base L2.CX0 5 T.a_l_position_refused T.d_l_position_refused ["_law_shape", "_law_position", "_law_side"] (spPosRef K T.C_Shape) := by
  have G_Shape_has := ok_Shape_has (P := P) (w := w) (base := base) T
  have G_l_is_number := ok_l_is_number (P := P) (w := w) (base := base) T
  refine T.F_l_position_refused.ok sc_l_position_refused (fun vs H Q E h => ?_) (fun cdv A outer s H vs Q E hr h => ?_)
  · obtain ⟨s, ps, p, k, rfl, _⟩ := h
    rfl
  · obtain ⟨s, ps, p, k, rfl, S, np, sm, q⟩ := h
    obtain ⟨dx, t, d, kvs, hs, ht, hd, hM⟩ := S.at_
    refine ⟨_, (pss_cons (L2N.ps_try_as (i := 3) (Wout := fun _ _ _ _ => False) rfl rfl sc_l_position_refused.nd rfl rfl ⟨rfl, by decide, Or.inl T.x_BadPosition.mgX⟩ takes0N (fun W pn xe tk _ => (pss_one (ps_expr (pe_methT (pv 0) T.cl_Shape T.m_Shape_has G_Shape_has hr T.B_Shape_has (fun σ => L2N.passAt tk σ) (by exact (pa_cons (pv 1) (pa_cons (pv 2) pa_nil))))))) (fun a oe cls d pn hz hf => (pss_cons (ps_if (PW.pt (pw_or (pt_not (pt_val (pe_callB (id := "isinstance") (call_isG hz.zc hf) (by rfl) T.z_isinstance (by decide +kernel) (pa_cons (pv 3) (pa_cons (pe_glob (v := .ref T.C_FindsError) rfl T.mg_FindsError rfl) pa_nil))))) (pw_or1 (pt_val (pe_callB (id := "isinstance") (call_isG hz.zc hf) (by rfl) T.z_isinstance (by decide +kernel) (pa_cons (pv 3) (pa_cons (pe_glob (v := .ref T.x_BadSide.C) rfl T.x_BadSide.mgX rfl) pa_nil)))))))
          (pss_one (ps_ret pe_bl))
          pss_nil)
          (pss_one (ps_ret (pe_and (pe_callQ G_l_is_number (room_mark hr (by decide)) rfl T.g_l_is_number T.F_l_is_number.kp T.B_l_is_number (pa_cons (pe_xf T.x_BadPosition.xf T.x_BadPosition.xn hz.zc hf (pv 3)) pa_nil)) (pe_one (pe_cmpR op_eq (pe_xf T.x_BadPosition.xf T.x_BadPosition.xn hz.zc hf (pv 3)) (pv 1) (nomark _)))))))))
          (pss_one (ps_ret pe_bl))), ?_⟩
    refine ⟨_, rfl, s, dx, _, rfl, hs, shf_no (by decide +kernel) (by decide +kernel) (by decide +kernel), _, rfl, _, rfl, s, ps, p, k, rfl, S, fun hp _ => absurd hp np, fun _ => ⟨sm, fun d hd => ?_⟩, fun hp _ => absurd hp np⟩
    have sa := same_new (o := .xd [("position", V.int p)]) hd
    replace hd : upd H d (.xd [("position", V.int p)]) d = _ := upd_same
    
    refine ⟨true, PySem.W.exm_ref T.x_BadPosition.sup.oex.exC T.x_BadPosition.xf.hdC T.x_BadPosition.sup.oex.tyC T.x_BadPosition.sup.sub, fun _ e ne => ?_, fun z => Bool.noConfusion z⟩
    refine ⟨_, rfl, _, d, _, _, _, _, rfl, rfl, hd, T.x_BadPosition.ec, rfl, relV_ref, T.k_BadPosition_FindsError, _, rfl, ?_⟩
    refine iteF ?_
    refine ⟨_, rfl, _, d, _, _, _, _, rfl, rfl, hd, T.x_BadPosition.ec, rfl, relV_ref, T.k_BadPosition_BadSide, _, rfl, ?_⟩
    refine iteF ?_
    refine ⟨_, rfl, rfl, rfl, d, _, _, rfl, hd, xd_get, p, rfl, _, rfl, ?_⟩
    refine iteT ?_
    refine ⟨_, rfl, rfl, rfl, d, _, _, rfl, hd, xd_get, _, rfl, rfl, ?_⟩
    rw [decide_eq_true rfl]
    exact q _ sa
theorem ok_l_sides_at_refused (T : Tx P K mg) : FnOk P w K mg base L2.CX0 6 T.a_l_sides_at_refused T.d_l_sides_at_refused ["_law_shape", "_law_position"] (spSidesAtRef K T.C_Shape) := by
  have G_Shape_sides_at := ok_Shape_sides_at (P := P) (w := w) (base := base) T
  have G_l_is_number := ok_l_is_number (P := P) (w := w) (base := base) T
  refine T.F_l_sides_at_refused.ok sc_l_sides_at_refused (fun vs H Q E h => ?_) (fun cdv A outer s H vs Q E hr h => ?_)
  · obtain ⟨s, ps, p, rfl, _⟩ := h
    rfl
  · obtain ⟨s, ps, p, rfl, S, np, sm, q⟩ := h
    obtain ⟨dx, t, d, kvs, hs, ht, hd, hM⟩ := S.at_
    refine ⟨_, (pss_cons (L2N.ps_try_as (i := 2) (Wout := fun _ _ _ _ => False) rfl rfl sc_l_sides_at_refused.nd rfl rfl ⟨rfl, by decide, Or.inl T.x_BadPosition.mgX⟩ takes0N (fun W pn xe tk _ => (pss_one (ps_expr (pe_methT (pv 0) T.cl_Shape T.m_Shape_sides_at G_Shape_sides_at hr T.B_Shape_sides_at (fun σ => L2N.passAt tk σ) (by exact (pa_cons (pv 1) pa_nil)))))) (fun a oe cls d pn hz hf => (pss_cons (ps_if (PW.pt (pw_or (pt_not (pt_val (pe_callB (id := "isinstance") (call_isG hz.zc hf) (by rfl) T.z_isinstance (by decide +kernel) (pa_cons (pv 2) (pa_cons (pe_glob (v := .ref T.C_FindsError) rfl T.mg_FindsError rfl) pa_nil))))) (pw_or1 (pt_val (pe_callB (id := "isinstance") (call_isG hz.zc hf) (by rfl) T.z_isinstance (by decide +kernel) (pa_cons (pv 2) (pa_cons (pe_glob (v := .ref T.x_BadSide.C) rfl T.x_BadSide.mgX rfl) pa_nil)))))))
          (pss_one (ps_ret pe_bl))
          pss_nil)
          (pss_one (ps_ret (pe_and (pe_callQ G_l_is_number (room_mark hr (by decide)) rfl T.g_l_is_number T.F_l_is_number.kp T.B_l_is_number (pa_cons (pe_xf T.x_BadPosition.xf T.x_BadPosition.xn hz.zc hf (pv 2)) pa_nil)) (pe_one (pe_cmpR op_eq (pe_xf T.x_BadPosition.xf T.x_BadPosition.xn hz.zc hf (pv 2)) (pv 1) (nomark _)))))))))
          (pss_one (ps_ret pe_bl))), ?_⟩
    refine ⟨_, rfl, s, dx, _, rfl, hs, shf_no (by decide +kernel) (by decide +kernel) (by decide +kernel), _, rfl, s, ps, p, rfl, S, fun p' e hp => absurd ⟨by omega, by omega⟩ np, fun _ => ⟨sm, fun d H' sa nd hd => ?_⟩⟩
    
    refine ⟨true, PySem.W.exm_ref T.x_BadPosition.sup.oex.exC T.x_BadPosition.xf.hdC T.x_BadPosition.sup.oex.tyC T.x_BadPosition.sup.sub, fun _ e ne => ?_, fun z => Bool.noConfusion z⟩
    refine ⟨_, rfl, _, d, _, _, _, _, rfl, rfl, hd, T.x_BadPosition.ec, rfl, relV_ref, T.k_BadPosition_FindsError, _, rfl, ?_⟩
    refine iteF ?_
    refine ⟨_, rfl, _, d, _, _, _, _, rfl, rfl, hd, T.x_BadPosition.ec, rfl, relV_ref, T.k_BadPosition_BadSide, _, rfl, ?_⟩
    refine iteF ?_
    refine ⟨_, rfl, rfl, rfl, d, _, _, rfl, hd, xd_get, p, rfl, _, rfl, ?_⟩
    refine iteT ?_
    refine ⟨_, rfl, rfl, rfl, d, _, _, rfl, hd, xd_get, _, rfl, rfl, ?_⟩
    rw [decide_eq_true rfl]
    exact q _ sa
theorem ok_l_line_refused (T : Tx P K mg) : FnOk P w K mg base L2.CX0 6 T.a_l_line_refused T.d_l_line_refused ["_law_size"] (spMadeRef) := by
  have G_l_is_number := ok_l_is_number (P := P) (w := w) (base := base) T
  have G_line := ok_line (P := P) (w := w) (base := base) T
  refine T.F_l_line_refused.ok sc_l_line_refused (fun vs H Q E h => ?_) (fun cdv A outer s H vs Q E hr h => ?_)
  · obtain ⟨n, rfl, _⟩ := h
    rfl
  · obtain ⟨n, rfl, n0, n1, q⟩ := h
    refine ⟨_, (pss_cons (L2N.ps_try_as (i := 1) (Wout := fun _ _ _ _ => False) rfl rfl sc_l_line_refused.nd rfl rfl ⟨rfl, by decide, Or.inl T.x_BadShape.mgX⟩ takes0N (fun W pn xe tk _ => (pss_one (ps_expr (pe_callS G_line hr rfl T.g_line T.F_line.kp T.B_line (fun σ => L2N.passAt tk σ) (by exact (pa_cons (pv 0) pa_nil)))))) (fun a oe cls d pn hz hf => (pss_cons (ps_if (PW.pt (pw_or (pt_not (pt_val (pe_callB (id := "isinstance") (call_isG hz.zc hf) (by rfl) T.z_isinstance (by decide +kernel) (pa_cons (pv 1) (pa_cons (pe_glob (v := .ref T.C_FindsError) rfl T.mg_FindsError rfl) pa_nil))))) (pw_or1 (pt_val (pe_callB (id := "isinstance") (call_isG hz.zc hf) (by rfl) T.z_isinstance (by decide +kernel) (pa_cons (pv 1) (pa_cons (pe_glob (v := .ref T.x_BadSide.C) rfl T.x_BadSide.mgX rfl) pa_nil)))))))
          (pss_one (ps_ret pe_bl))
          pss_nil)
          (pss_one (ps_ret (pe_and (pe_callQ G_l_is_number (room_mark hr (by decide)) rfl T.g_l_is_number T.F_l_is_number.kp T.B_l_is_number (pa_cons (pe_xf T.x_BadShape.xf T.x_BadShape.xn hz.zc hf (pv 1)) pa_nil)) (pe_one (pe_cmpR op_eq (pe_xf T.x_BadShape.xf T.x_BadShape.xn hz.zc hf (pv 1)) pe_int (nomark _)))))))))
          (pss_one (ps_ret pe_bl))), ?_⟩
    refine ⟨_, rfl, n, rfl, by omega, by omega, fun c => absurd c (by omega), fun _ d H' sa nd hd => ?_⟩
    
    refine ⟨true, PySem.W.exm_ref T.x_BadShape.sup.oex.exC T.x_BadShape.xf.hdC T.x_BadShape.sup.oex.tyC T.x_BadShape.sup.sub, fun _ e ne => ?_, fun z => Bool.noConfusion z⟩
    refine ⟨_, rfl, _, d, _, _, _, _, rfl, rfl, hd, T.x_BadShape.ec, rfl, relV_ref, T.k_BadShape_FindsError, _, rfl, ?_⟩
    refine iteF ?_
    refine ⟨_, rfl, _, d, _, _, _, _, rfl, rfl, hd, T.x_BadShape.ec, rfl, relV_ref, T.k_BadShape_BadSide, _, rfl, ?_⟩
    refine iteF ?_
    refine ⟨_, rfl, rfl, rfl, d, _, _, rfl, hd, xd_get, 0, rfl, _, rfl, ?_⟩
    refine iteT ?_
    refine ⟨_, rfl, rfl, rfl, d, _, _, rfl, hd, xd_get, rfl, ?_⟩
    rw [decide_eq_true rfl]
    exact q _ sa
theorem ok_l_star_refused (T : Tx P K mg) : FnOk P w K mg base L2.CX0 6 T.a_l_star_refused T.d_l_star_refused ["_law_size"] (spMadeRef) := by
  have G_l_is_number := ok_l_is_number (P := P) (w := w) (base := base) T
  have G_star := ok_star (P := P) (w := w) (base := base) T
  refine T.F_l_star_refused.ok sc_l_star_refused (fun vs H Q E h => ?_) (fun cdv A outer s H vs Q E hr h => ?_)
  · obtain ⟨n, rfl, _⟩ := h
    rfl
  · obtain ⟨n, rfl, n0, n1, q⟩ := h
    refine ⟨_, (pss_cons (L2N.ps_try_as (i := 1) (Wout := fun _ _ _ _ => False) rfl rfl sc_l_star_refused.nd rfl rfl ⟨rfl, by decide, Or.inl T.x_BadShape.mgX⟩ takes0N (fun W pn xe tk _ => (pss_one (ps_expr (pe_callS G_star hr rfl T.g_star T.F_star.kp T.B_star (fun σ => L2N.passAt tk σ) (by exact (pa_cons (pv 0) pa_nil)))))) (fun a oe cls d pn hz hf => (pss_cons (ps_if (PW.pt (pw_or (pt_not (pt_val (pe_callB (id := "isinstance") (call_isG hz.zc hf) (by rfl) T.z_isinstance (by decide +kernel) (pa_cons (pv 1) (pa_cons (pe_glob (v := .ref T.C_FindsError) rfl T.mg_FindsError rfl) pa_nil))))) (pw_or1 (pt_val (pe_callB (id := "isinstance") (call_isG hz.zc hf) (by rfl) T.z_isinstance (by decide +kernel) (pa_cons (pv 1) (pa_cons (pe_glob (v := .ref T.x_BadSide.C) rfl T.x_BadSide.mgX rfl) pa_nil)))))))
          (pss_one (ps_ret pe_bl))
          pss_nil)
          (pss_one (ps_ret (pe_and (pe_callQ G_l_is_number (room_mark hr (by decide)) rfl T.g_l_is_number T.F_l_is_number.kp T.B_l_is_number (pa_cons (pe_xf T.x_BadShape.xf T.x_BadShape.xn hz.zc hf (pv 1)) pa_nil)) (pe_one (pe_cmpR op_eq (pe_xf T.x_BadShape.xf T.x_BadShape.xn hz.zc hf (pv 1)) pe_int (nomark _)))))))))
          (pss_one (ps_ret pe_bl))), ?_⟩
    refine ⟨_, rfl, n, rfl, by omega, by omega, fun c => absurd c (by omega), fun _ d H' sa nd hd => ?_⟩
    
    refine ⟨true, PySem.W.exm_ref T.x_BadShape.sup.oex.exC T.x_BadShape.xf.hdC T.x_BadShape.sup.oex.tyC T.x_BadShape.sup.sub, fun _ e ne => ?_, fun z => Bool.noConfusion z⟩
    refine ⟨_, rfl, _, d, _, _, _, _, rfl, rfl, hd, T.x_BadShape.ec, rfl, relV_ref, T.k_BadShape_FindsError, _, rfl, ?_⟩
    refine iteF ?_
    refine ⟨_, rfl, _, d, _, _, _, _, rfl, rfl, hd, T.x_BadShape.ec, rfl, relV_ref, T.k_BadShape_BadSide, _, rfl, ?_⟩
    refine iteF ?_
    refine ⟨_, rfl, rfl, rfl, d, _, _, rfl, hd, xd_get, 0, rfl, _, rfl, ?_⟩
    refine iteT ?_
    refine ⟨_, rfl, rfl, rfl, d, _, _, rfl, hd, xd_get, rfl, ?_⟩
    rw [decide_eq_true rfl]
    exact q _ sa
theorem ok_l_first_wrong (T : Tx P K mg) : L2H.FnH P w K mg base L2.CX0 1 T.a_l_first_wrong T.d_l_first_wrong ["_law_parents_here"] (spFirstWrong K) := by
  refine EP.Fun.okH T.F_l_first_wrong sc_l_first_wrong (fun vs H Q E h => ?_) (fun cdv A outer s H vs Q E p0 hot hr h => ?_)
  · obtain ⟨l, ns, rfl, _⟩ := h
    rfl
  · obtain ⟨l, ns, rfl, hl, sm, q⟩ := h
    have len : (ns.map V.int).length = ns.length := List.length_map ..
    refine ⟨_, (pss_cons (L2H.ps_forH (passes_of rfl) (hot_def hot) (L2H.pi_range1H rfl T.z_range (pa_cons (pe_callB (id := "len") call_len_seq (by rfl) T.z_len (by decide +kernel) (pa_cons (pv 0) pa_nil)) pa_nil)) (pg_name (i := 1) sc_l_first_wrong.nd rfl (Or.inl rfl))
          (pss_one (ps_if (PW.pt (pw_or (pt_cmpR op_lt (pe_ix ix_list (pv 0) (pv 1) (fun _ _ => rfl)) pe_int (nomark _)) (pw_or1 (pt_cmpR op_gt (pe_ix ix_list (pv 0) (pv 1) (fun _ _ => rfl)) (pv 1) (nomark _)))))
          (pss_one (ps_ret (pv 1)))
          pss_nil)))
          (pss_one (ps_ret pe_int))), ?_⟩
    refine ⟨_, rfl, l, _, rfl, .inl hl, _, rfl, by omega, by omega, for_range (fun i σ H' => ∃ v : Option V, σ = [some (.ref l), v] ∧ H' = H ∧ ∀ j, j < i → ¬ Wrong ns j) ⟨none, rfl, rfl, fun j hj => absurd hj (Nat.not_lt_zero _)⟩ ?_ ?_⟩
    · rintro i _ H' hi ⟨v, rfl, rfl, nw⟩
      rw [len] at hi
      obtain ⟨p, hp⟩ : ∃ p, ns[i]? = some p := ⟨ns[i]'(by omega), List.getElem?_eq_getElem _⟩
      have hv : (ns.map V.int)[i]? = some (.int p) := by rw [List.getElem?_map, hp]; rfl
      have e0 : (0 : Int) + (i : Int) = (i : Int) := by omega
      refine ⟨_, rfl, _, rfl, l, _, _, _, rfl, rfl, hl, at_of e0 hv, _, _, rfl, rfl, _, rfl, ?_⟩
      refine boolIte (fun h1 => ?_) (fun h1 => ?_)
      · exact ⟨_, rfl, q _ (.inl ⟨i, e0, ⟨p, hp, fun z => by have := of_decide_eq_true h1; omega⟩, nw⟩)⟩
      refine ⟨_, rfl, _, rfl, l, _, _, _, rfl, rfl, hl, at_of e0 hv, _, rfl, _, _, rfl, rfl, _, rfl, ?_⟩
      refine boolIte (fun h2 => ?_) (fun h2 => ?_)
      · exact ⟨_, rfl, q _ (.inl ⟨i, e0, ⟨p, hp, fun z => by have := of_decide_eq_true h2; omega⟩, nw⟩)⟩
      refine ⟨_, rfl, rfl, fun j hj => ?_⟩
      by_cases c : j < i
      · exact nw j c
      · obtain rfl : j = i := by omega
        rintro ⟨p', hp', c'⟩
        rw [hp] at hp'
        cases hp'
        have := of_decide_eq_false h1
        have := of_decide_eq_false h2
        exact c' ⟨by omega, by omega⟩
    · rintro _ H' ⟨v, rfl, rfl, nw⟩
      refine q _ (.inr ⟨rfl, fun j => ?_⟩)
      by_cases c : j < ns.length
      · exact nw j (by rw [len]; omega)
      · rintro ⟨p, hp, _⟩
        have := (List.getElem?_eq_some_iff.mp hp).1
        omega
theorem ok_l_creation_refused (T : Tx P K mg) : FnOk P w K mg base L2.CX0 5 T.a_l_creation_refused T.d_l_creation_refused ["_law_parents_here"] (spCreRef) := by
  have G_Shape_init := ok_Shape_init (P := P) (w := w) (base := base) T
  have G_l_first_wrong := ok_l_first_wrong (P := P) (w := w) (base := base) T
  have G_l_is_number := ok_l_is_number (P := P) (w := w) (base := base) T
  refine T.F_l_creation_refused.ok sc_l_creation_refused (fun vs H Q E h => ?_) (fun cdv A outer s H vs Q E hr h => ?_)
  · obtain ⟨l, ns, rfl, _⟩ := h
    rfl
  · obtain ⟨l, ns, rfl, hl, sm, bd, q⟩ := h
    refine ⟨_, (pss_cons (ps_set (i := 1) sc_l_creation_refused.nd rfl (Or.inl rfl) (pe_callTy (T := "list") call_list_of (by rfl) T.z_list (by decide +kernel) (pa_cons (pv 0) pa_nil)))
          (pss_cons (L2N.ps_try_as (i := 2) (Wout := fun _ _ _ _ => False) rfl rfl sc_l_creation_refused.nd rfl rfl ⟨rfl, by decide, Or.inl T.x_BadShape.mgX⟩ takes0N (fun W pn xe tk _ => (pss_one (ps_expr (pe_makeT T.M_Shape G_Shape_init hr rfl T.mg_Shape T.B_Shape_init (fun σ => L2N.passAt tk σ) (by exact (pa_cons (pv 1) pa_nil)))))) (fun a oe cls d pn hz hf => (pss_cons (ps_if (PW.pt (pw_or (pt_not (pt_val (pe_callB (id := "isinstance") (call_isG hz.zc hf) (by rfl) T.z_isinstance (by decide +kernel) (pa_cons (pv 2) (pa_cons (pe_glob (v := .ref T.C_FindsError) rfl T.mg_FindsError rfl) pa_nil))))) (pw_or1 (pt_val (pe_callB (id := "isinstance") (call_isG hz.zc hf) (by rfl) T.z_isinstance (by decide +kernel) (pa_cons (pv 2) (pa_cons (pe_glob (v := .ref T.x_BadSide.C) rfl T.x_BadSide.mgX rfl) pa_nil)))))))
          (pss_one (ps_ret pe_bl))
          pss_nil)
          (pss_one (ps_ret (pe_and (pe_callQ G_l_is_number (room_mark hr (by decide)) rfl T.g_l_is_number T.F_l_is_number.kp T.B_l_is_number (pa_cons (pe_xf T.x_BadShape.xf T.x_BadShape.xn hz.zc hf (pv 2)) pa_nil)) (pe_and (pe_cmpR op_eq (pe_xf T.x_BadShape.xf T.x_BadShape.xn hz.zc hf (pv 2)) (pe_callHQ G_l_first_wrong (room_mark hr (by decide)) (hot_suite hz hf) rfl T.g_l_first_wrong T.F_l_first_wrong.kp T.B_l_first_wrong (pa_cons (pv 0) pa_nil)) (nomark _)) (pe_one (pe_cmpR (op_eqDK (K := K) (hu64_mark hr)) (pv 1) (pv 0) (nomark _))))))))))
          (pss_one (ps_ret pe_bl)))), ?_⟩
    refine ⟨_, rfl, l, _, rfl, .inl (SqL.of hl), fun l2 n2 => ?_⟩
    have hl2 : ∀ o, (upd H l2 o) l = some (.lst (ns.map V.int)) := fun o => by rw [upd_ne (ne_of_none hl n2)]; exact hl
    refine ⟨_, rfl, fun x dx nx ndx nex => ?_⟩
    have sx : Same H (upd (upd (upd H l2 (.lst (ns.map V.int))) dx (.own x)) x (.ins T.C_Shape dx [])) := (same_new n2).trans ((same_new ndx).trans (same_new (by rw [upd_ne nex.symm]; exact nx)))
    have hz := made_at (C := T.C_Shape) nx ndx (upd_same (H := H) (a := l2) (o := .lst (ns.map V.int)))
    refine ⟨x, dx, l2, ns, rfl, upd_same, .inl (SqL.of hz), sm, fun ps' H8 e ok' pos' bt S8 => (bd.no e ok' pos').elim, fun j hj hm d H8 s8 nd hd => ?_, fun en d H8 s8 nd hd => ?_⟩
    · refine ⟨true, PySem.W.exm_ref T.x_BadShape.sup.oex.exC T.x_BadShape.xf.hdC T.x_BadShape.sup.oex.tyC T.x_BadShape.sup.sub, fun _ e ne => ?_, fun z => Bool.noConfusion z⟩
      refine ⟨_, rfl, _, d, _, _, _, _, rfl, rfl, hd, T.x_BadShape.ec, rfl, relV_ref, T.k_BadShape_FindsError, _, rfl, ?_⟩
      refine iteF ?_
      refine ⟨_, rfl, _, d, _, _, _, _, rfl, rfl, hd, T.x_BadShape.ec, rfl, relV_ref, T.k_BadShape_BadSide, _, rfl, ?_⟩
      refine iteF ?_
      refine ⟨_, rfl, rfl, rfl, d, _, _, rfl, hd, xd_get, _, rfl, _, rfl, ?_⟩
      refine iteT ?_
      refine ⟨_, rfl, rfl, rfl, d, _, _, rfl, hd, xd_get, _, rfl, l, ns, rfl, SqL.of (s8 _ _ (sx _ _ hl)), sm, fun w hw => ?_⟩
      obtain rfl := hw.eq hj hm
      refine ⟨rfl, _, rfl, ?_⟩
      refine ifT (decide_eq_true rfl) ?_
      refine ⟨_, rfl, _, rfl, _, _, dp_lst (SqL.of (s8 _ _ hz)), dp_lst (SqL.of (s8 _ _ (sx _ _ hl))), shaped_lst _, shaped_lst _, ?_⟩
      rw [eqv_lst, decide_eq_true rfl]
      exact q _ (sx.trans s8)
    · refine ⟨true, PySem.W.exm_ref T.x_BadShape.sup.oex.exC T.x_BadShape.xf.hdC T.x_BadShape.sup.oex.tyC T.x_BadShape.sup.sub, fun _ e ne => ?_, fun z => Bool.noConfusion z⟩
      refine ⟨_, rfl, _, d, _, _, _, _, rfl, rfl, hd, T.x_BadShape.ec, rfl, relV_ref, T.k_BadShape_FindsError, _, rfl, ?_⟩
      refine iteF ?_
      refine ⟨_, rfl, _, d, _, _, _, _, rfl, rfl, hd, T.x_BadShape.ec, rfl, relV_ref, T.k_BadShape_BadSide, _, rfl, ?_⟩
      refine iteF ?_
      refine ⟨_, rfl, rfl, rfl, d, _, _, rfl, hd, xd_get, _, rfl, _, rfl, ?_⟩
      refine iteT ?_
      refine ⟨_, rfl, rfl, rfl, d, _, _, rfl, hd, xd_get, _, rfl, l, ns, rfl, SqL.of (s8 _ _ (sx _ _ hl)), sm, fun w hw => ?_⟩
      obtain rfl := (show FirstW [] w from en ▸ hw).nil
      refine ⟨rfl, _, rfl, ?_⟩
      refine ifT (decide_eq_true rfl) ?_
      refine ⟨_, rfl, _, rfl, _, _, dp_lst (SqL.of (s8 _ _ hz)), dp_lst (SqL.of (s8 _ _ (sx _ _ hl))), shaped_lst _, shaped_lst _, ?_⟩
      rw [eqv_lst, decide_eq_true rfl]
      exact q _ (sx.trans s8)
theorem ok_l_tape (T : Tx P K mg) : FnOk P w K mg base L2.CX0 1 T.a_l_tape T.d_l_tape ["_law_script"] (spTape K) := by
  refine T.F_l_tape.ok sc_l_tape (fun vs H Q E h => ?_) (fun cdv A outer s H vs Q E hr h => ?_)
  · obtain ⟨a, ns, rfl, _⟩ := h
    rfl
  · obtain ⟨a, ns, rfl, hl, sm, q⟩ := h
    have len : (ns.map V.int).length = ns.length := List.length_map ..
    refine ⟨_, (pss_one (ps_ret (pe_lst (pa_cons (pe_lc (own := [("_law_cell", 1)]) (g := gName 1) (tt := tYes) rfl sc_l_tape.nd (pi_list (pv 0)) (blkOk_by (N := ["_law_script", "_law_cell"]) (sc := defScope s_l_tape) (by decide +kernel)) (fun _ _ _ _ _ => (pg_name (i := 1) sc_l_tape.nd rfl (Or.inl rfl))) (fun _ _ _ _ _ => pts_nil) (fun _ _ _ _ _ => (pe_callB (id := "abs") call_abs (by rfl) T.z_abs (by decide +kernel) (pa_cons (pe_callTy (T := "int") call_int1 (by rfl) T.z_int (by decide +kernel) (pa_cons (pv 1) pa_nil)) pa_nil)))) (pa_cons pe_int (pa_cons pe_int (pa_cons pe_int (pa_cons pe_int pa_nil)))))))), ?_⟩
    refine ⟨_, rfl, a, rfl, ⟨_, hl⟩, fun D hD => ?_⟩
    have hl2 : ∀ x, SqL K (upd H D x) a (ns.map V.int) := fun x => (same_new hD).seq hl
    refine lc_list (K := K) (a := a) (xs := ns.map V.int) (fun k H' => H' = upd H D (.lst ((((ns.take k).map absI).map V.int)))) rfl (fun k H' _ e => by rw [e]; exact hl2 _) ?_ ?_
    · rintro k x _ hx rfl
      obtain ⟨p, hp, rfl⟩ := ns_get hx
      refine ⟨rfl, ?_⟩
      refine ⟨_, rfl, .inl ⟨_, rfl, _, rfl, _, upd_same, size_lt ?_, ?_⟩⟩
      · rw [List.length_map, List.length_map, List.length_take]
        omega
      · rw [upd_upd]
        have hk := (List.getElem?_eq_some_iff.mp hp).1
        rw [List.take_succ_eq_append_getElem hk, (List.getElem?_eq_some_iff.mp hp).2, List.map_append, List.map_append]
        rfl
    · rintro _ rfl
      refine ⟨(by show 5 ≤ sizeLine; exact size_le (by omega)), fun t ht => ?_⟩
      have nt : D ≠ t := ne_of_none upd_same ht
      refine q t D _ ((same_new hD).trans (same_new ht)) ((same_new hD).free ht) ⟨(ns.take (ns.map V.int).length).map absI, 0, 0, 0, 0, upd_same, by rw [upd_ne nt]; exact upd_same, Int.le_refl 0⟩
theorem ok_l_next (T : Tx P K mg) : FnOk P w K mg base L2.CX0 1 T.a_l_next T.d_l_next ["_law_tape_here", "_law_size"] (spNext) := by
  refine T.F_l_next.ok sc_l_next (fun vs H Q E h => ?_) (fun cdv A outer s H vs Q E hr h => ?_)
  · obtain ⟨t, u, n, rfl, _⟩ := h
    rfl
  · obtain ⟨t, u, n, rfl, n0, n1, ⟨xs, i, b, sm, c, ht, hu, hi⟩, q⟩ := h
    have nut : u ≠ t := fun e => by
      rw [e, ht] at hu
      exact ints_tp (HO.lst.inj (Option.some.inj hu)).symm
    have wn : CDivW 0 n := wide_div (b := 60) n0 (by omega) (by decide) (by decide)
    refine ⟨_, (pss_cons (ps_asg (pe_op op_add (pe_ix ix_list (pv 0) pe_int (fun _ _ => rfl)) pe_int) (pg_sub (pv 0) pe_int set_list))
          (C8.pss_cut (ps_if (PW.pt (pw_and (pt_cmpR op_eq (pe_ix ix_list (pv 0) pe_int (fun _ _ => rfl)) pe_int (nomark _)) (pw_and (pt_cmpR op_lt (pe_ix ix_list (pv 0) pe_int (fun _ _ => rfl)) (pe_callB (id := "len") call_len_seq (by rfl) T.z_len (by decide +kernel) (pa_cons (pe_ix ix_list (pv 0) pe_int (fun _ _ => rfl)) pa_nil)) (nomark _)) (pw_and1 (pt_cmpR op_eq (pe_op op_mod (pe_callTy (T := "int") call_int1 (by rfl) T.z_int (by decide +kernel) (pa_cons (pe_ix ix_list (pv 0) pe_int (fun _ _ => rfl)) pa_nil)) pe_int) pe_int (nomark _))))))
          (pss_cons (ps_set (i := 2) sc_l_next.nd rfl (Or.inl rfl) (pe_ix ix_list (pe_ix ix_list (pv 0) pe_int (fun _ _ => rfl)) (pe_ix ix_list (pv 0) pe_int (fun _ _ => rfl)) (fun _ _ => rfl)))
          (pss_cons (ps_asg (pe_op op_add (pe_ix ix_list (pv 0) pe_int (fun _ _ => rfl)) pe_int) (pg_sub (pv 0) pe_int set_list))
          (pss_one (ps_if (pt_cmpR op_ge (pv 2) (pe_op op_pow pe_int pe_int) (nomark _))
          (pss_one (ps_asg (pv 2) (pg_sub (pv 0) pe_int set_list)))
          (pss_one (ps_asg (pv 2) (pg_sub (pv 0) pe_int set_list)))))))
          pss_nil)
          (pss_cons (ps_if (pt_cmpR op_gt (pe_ix ix_list (pv 0) pe_int (fun _ _ => rfl)) pe_int (nomark _))
          (pss_cons (ps_set (i := 3) sc_l_next.nd rfl (Or.inl rfl) (pe_op op_mod (pe_callTy (T := "int") call_int1 (by rfl) T.z_int (by decide +kernel) (pa_cons (pe_ix ix_list (pv 0) pe_int (fun _ _ => rfl)) pa_nil)) (pv 1)))
          (pss_cons (ps_asg (pe_op op_fdivW (pe_ix ix_list (pv 0) pe_int (fun _ _ => rfl)) (pv 1)) (pg_sub (pv 0) pe_int set_list))
          (pss_one (ps_ret (pv 3)))))
          pss_nil)
          (pss_cons (ps_set (i := 4) sc_l_next.nd rfl (Or.inl rfl) (pe_op op_mod (pe_callTy (T := "int") call_int1 (by rfl) T.z_int (by decide +kernel) (pa_cons (pe_op op_add (pe_op op_add (pe_ix ix_list (pv 0) pe_int (fun _ _ => rfl)) (pe_op op_mul pe_int (pe_ix ix_list (pv 0) pe_int (fun _ _ => rfl)))) pe_int) pa_nil)) pe_int))
          (pss_cons (ps_set (i := 4) sc_l_next.nd rfl (Or.inl rfl) (pe_op op_mod (pe_callTy (T := "int") call_int1 (by rfl) T.z_int (by decide +kernel) (pa_cons (pe_op op_mul (pv 4) (pe_op op_add (pv 4) pe_int)) pa_nil)) pe_int))
          (pss_cons (ps_set (i := 4) sc_l_next.nd rfl (Or.inl rfl) (pe_op op_mod (pe_callTy (T := "int") call_int1 (by rfl) T.z_int (by decide +kernel) (pa_cons (pe_op op_add (pe_op op_mul (pv 4) (pe_op op_add (pv 4) pe_int)) (pe_op op_mul pe_int (pe_ix ix_list (pv 0) pe_int (fun _ _ => rfl)))) pa_nil)) pe_int))
          (pss_one (ps_ret (pe_op op_mod (pe_callTy (T := "int") call_int1 (by rfl) T.z_int (by decide +kernel) (pa_cons (pe_op op_fdivW (pv 4) pe_int) pa_nil)) (pv 1)))))))))), ?_⟩
    refine ⟨_, rfl, t, tp u i b sm c, _, _, rfl, rfl, SqL.of ht, rfl, _, _, rfl, rfl, ?_⟩
    refine ⟨_, rfl, t, tp u i b sm c, _, _, rfl, rfl, ht, rfl, ?_⟩
    refine ⟨fun σ H' => ∃ (v : Option V) (i b sm c : Int), 0 ≤ i ∧ σ = [some (.ref t), some (.int n), v, none, none] ∧ H' = upd H t (.lst (tp u i b sm c)), ?_, ?_⟩
    · have hH : ∀ o, (upd H t o) u = some (.lst (xs.map V.int)) := fun o => by rw [upd_ne nut]; exact hu
      have no : ∃ (v : Option V) (i' b' sm' c' : Int), 0 ≤ i' ∧ ([some (.ref t), some (.int n), none, none, none] : List (Option V)) = [some (.ref t), some (.int n), v, none, none] ∧ upd H t (.lst (tp u i b sm (c + 1))) = upd H t (.lst (tp u i' b' sm' c')) := ⟨none, i, b, sm, c + 1, hi, rfl, rfl⟩
      refine ⟨_, rfl, _, _, _, _, rfl, rfl, SqL.of upd_same, rfl, rfl, _, rfl, ?_⟩
      refine boolIte (fun h1 => ?_) (fun h1 => no)
      refine ⟨_, rfl, _, _, _, _, rfl, rfl, SqL.of upd_same, rfl, _, rfl, _, _, _, _, rfl, rfl, SqL.of upd_same, rfl, u, _, rfl, .inl (SqL.of (hH _)), _, _, rfl, rfl, _, rfl, ?_⟩
      refine boolIte (fun h2 => ?_) (fun h2 => no)
      refine ⟨_, rfl, _, _, _, _, rfl, rfl, SqL.of upd_same, rfl, .inl ⟨_, rfl, _, _, rfl, rfl, (by show (0 : Int) < 4; decide), rfl, _, rfl, ?_⟩⟩
      refine boolIte (fun h3 => ?_) (fun h3 => no)
      have hlt : i < (((xs.map V.int).length : Nat) : Int) := of_decide_eq_true h2
      rw [List.length_map] at hlt
      obtain ⟨x, hx⟩ : ∃ x, xs[i.toNat]? = some x := ⟨xs[i.toNat]'(by omega), List.getElem?_eq_getElem _⟩
      refine ⟨_, rfl, _, _, _, _, rfl, rfl, SqL.of upd_same, rfl, _, rfl, _, _, _, _, rfl, rfl, SqL.of upd_same, rfl, u, _, _, _, rfl, rfl, SqL.of (hH _), at_of (j := i.toNat) (v := V.int x) (by omega) (by rw [List.getElem?_map, hx]; rfl), ?_⟩
      refine ⟨_, rfl, _, _, _, _, rfl, rfl, SqL.of upd_same, rfl, _, _, rfl, rfl, ?_⟩
      refine ⟨_, rfl, t, _, _, _, rfl, rfl, upd_same, rfl, ?_⟩
      rw [upd_upd]
      refine ⟨_, rfl, _, _, rfl, rfl, ⟨by decide, by decide, by decide⟩, _, _, rfl, rfl, _, rfl, ?_⟩
      refine boolIte (fun h4 => ?_) (fun h4 => ?_)
      · refine ⟨_, rfl, _, rfl, t, _, _, _, rfl, rfl, upd_same, rfl, ?_⟩
        rw [upd_upd]
        exact ⟨_, i + 1, x, sm, c + 1, by omega, rfl, rfl⟩
      · refine ⟨_, rfl, _, rfl, t, _, _, _, rfl, rfl, upd_same, rfl, ?_⟩
        rw [upd_upd]
        exact ⟨_, i + 1, b, x, c + 1, by omega, rfl, rfl⟩
    · rintro _ _ ⟨v, i, b, sm, c, hi, rfl, rfl⟩
      have hH : ∀ o, (upd H t o) u = some (.lst (xs.map V.int)) := fun o => by rw [upd_ne nut]; exact hu
      have fin : ∀ (r : Int) (i b sm c : Int), 0 ≤ i → 0 ≤ r → r < n → Q (.int r) (upd H t (.lst (tp u i b sm c))) := fun r i b sm c hi r0 r1 => by
        have := q r.toNat (upd H t (.lst (tp u i b sm c))) (by omega) ⟨xs, i, b, sm, c, upd_same, hH _, hi⟩ But.set (fun b hb => upd_ne hb)
        rw [show ((r.toNat : Nat) : Int) = r by omega] at this
        exact this
      refine ⟨_, rfl, _, _, _, _, rfl, rfl, SqL.of upd_same, rfl, _, _, rfl, rfl, _, rfl, ?_⟩
      refine boolIte (fun h1 => ?_) (fun h1 => ?_)
      · refine ⟨_, rfl, _, _, _, _, rfl, rfl, SqL.of upd_same, rfl, .inl ⟨_, rfl, _, rfl, _, _, rfl, rfl, n0, ?_⟩⟩
        refine ⟨_, rfl, _, _, _, _, rfl, rfl, SqL.of upd_same, rfl, _, rfl, _, _, rfl, rfl, wn, ?_⟩
        refine ⟨_, rfl, t, _, _, _, rfl, rfl, upd_same, rfl, ?_⟩
        refine ⟨_, rfl, ?_⟩
        rw [upd_upd]
        exact fin _ i _ sm c hi (Int.emod_nonneg _ (by omega)) (Int.emod_lt_of_pos _ n0)
      · refine ⟨_, rfl, _, _, _, _, rfl, rfl, SqL.of upd_same, rfl, _, rfl, _, _, _, _, rfl, rfl, SqL.of upd_same, rfl, _, _, rfl, rfl, .inl ⟨by decide, by decide⟩, _, _, rfl, rfl, _, _, rfl, rfl, .inl ⟨_, rfl, _, _, rfl, rfl, (by show (0 : Int) < 2147483647; decide), ?_⟩⟩
        have b1 := emod_in (x := sm + 7919 * c + 13) (m := 2147483647) (by decide)
        dsimp only
        generalize (sm + 7919 * c + 13) % 2147483647 = m1 at b1 ⊢
        refine ⟨_, rfl, _, rfl, _, _, rfl, rfl, _, _, rfl, rfl, .inl ⟨by omega, by omega⟩, .inl ⟨_, rfl, _, _, rfl, rfl, (by show (0 : Int) < 2147483629; decide), ?_⟩⟩
        have b2 := emod_in (x := m1 * (m1 + 48271)) (m := 2147483629) (by decide)
        dsimp only
        generalize m1 * (m1 + 48271) % 2147483629 = m2 at b2 ⊢
        refine ⟨_, rfl, _, rfl, _, _, rfl, rfl, _, _, rfl, rfl, .inl ⟨by omega, by omega⟩, _, rfl, _, _, _, _, rfl, rfl, SqL.of upd_same, rfl, _, _, rfl, rfl, .inl ⟨by decide, by decide⟩, _, _, rfl, rfl, .inl ⟨_, rfl, _, _, rfl, rfl, (by show (0 : Int) < 2147483647; decide), ?_⟩⟩
        refine ⟨_, rfl, _, _, rfl, rfl, wide_div (b := 4) (by decide) (by decide) (by decide) (by decide), .inl ⟨_, rfl, _, rfl, _, _, rfl, rfl, n0, ?_⟩⟩
        exact fin _ i b sm c hi (Int.emod_nonneg _ (by omega)) (Int.emod_lt_of_pos _ n0)
theorem ok_l_parents (T : Tx P K mg) : FnOk P w K mg base L2.CX0 2 T.a_l_parents T.d_l_parents ["_law_tape_here", "_law_most"] (spLParents) := by
  have G_l_next := ok_l_next (P := P) (w := w) (base := base) T
  refine T.F_l_parents.ok sc_l_parents (fun vs H Q E h => ?_) (fun cdv A outer s H vs Q E hr h => ?_)
  · obtain ⟨t, u, m, rfl, _⟩ := h
    rfl
  · obtain ⟨t, u, m, rfl, m1, m2, hT, q⟩ := h
    refine ⟨_, (pss_cons (ps_set (i := 2) sc_l_parents.nd rfl (Or.inl rfl) (pe_op op_add pe_int (pe_call G_l_next hr rfl T.g_l_next T.F_l_next.kp T.B_l_next .nil pass0 (pa_cons (pv 0) (pa_cons (pv 1) pa_nil)))))
          (pss_cons (ps_set (i := 3) sc_l_parents.nd rfl (Or.inl rfl) (pe_call G_l_next hr rfl T.g_l_next T.F_l_next.kp T.B_l_next .nil pass0 (pa_cons (pv 0) (pa_cons pe_int pa_nil))))
          (pss_cons (ps_set (i := 4) sc_l_parents.nd rfl (Or.inl rfl) (pe_lst pa_nil))
          (pss_cons (ps_for PassesOwn.never rfl (pi_range1 rfl T.z_range (pa_cons (pv 2) pa_nil)) (pg_name (i := 5) sc_l_parents.nd rfl (Or.inl rfl))
          (pss_one (ps_if (pt_cmpR op_eq (pv 3) pe_int (nomark _))
          (pss_one (ps_expr (pe_bm PySem.F.plainAttrs_list PySem.F.slot_list_append PySem.F.type_list_append mt_append (pv 4) (pa_cons (pv 5) pa_nil))))
          (pss_one (ps_expr (pe_bm PySem.F.plainAttrs_list PySem.F.slot_list_append PySem.F.type_list_append mt_append (pv 4) (pa_cons (pe_call G_l_next hr rfl T.g_l_next T.F_l_next.kp T.B_l_next .nil pass0 (pa_cons (pv 0) (pa_cons (pe_op op_add (pv 5) pe_int) pa_nil))) pa_nil)))))))
          (pss_one (ps_ret (pv 4))))))), ?_⟩
    refine ⟨_, rfl, _, rfl, t, u, (m : Int), rfl, by omega, by omega, hT, fun r H1 hr hT1 k1 _ => ?_⟩
    refine ⟨_, _, rfl, rfl, ?_⟩
    refine ⟨_, rfl, t, u, 3, rfl, by decide, by decide, hT1, fun kd H2 _ hT2 k2 _ => ?_⟩
    refine ⟨Nat.zero_le _, fun l hl => ?_⟩
    have k3 := k1.trans k2
    have hlt : l ≠ t := fun e => hT2.new (by rw [← e]; exact hl)
    have hlu : u ≠ l := fun e => hT2.newu (by rw [e]; exact hl)
    have hl0 : H l = Option.none := k3.free hlt hl
    refine ⟨_, rfl, _, rfl, by omega, by omega, for_range (fun i σ H' => ∃ (ps : List Nat) (v : Option V), σ = [some (.ref t), some (.int m), some (.int (1 + (r : Int))), some (.int (kd : Int)), some (.ref l), v] ∧ Tr.Ok ps ∧ ps.length = i ∧ Tape H' t u ∧ But t H H' ∧ H' l = some (.lst (nvs ps)))
      ⟨[], none, rfl, fun i p h => by simp at h, rfl, hT2.same (same_new hl), k3.trans (But.of_new hl), upd_same⟩ ?_ ?_⟩
    · rintro i _ H3 hi ⟨ps, v, rfl, ok, hlen, hT3, k4, h3⟩
      have add : ∀ (p : Nat) (H4 : Hp), p ≤ i → Tape H4 t u → But t H H4 → H4 l = some (.lst (nvs ps)) → ∃ (ps' : List Nat) (v : Option V), ([some (.ref t), some (.int m), some (.int (1 + (r : Int))), some (.int (kd : Int)), some (.ref l), some (.int (0 + (i : Int)))] : List (Option V)) = [some (.ref t), some (.int m), some (.int (1 + (r : Int))), some (.int (kd : Int)), some (.ref l), v] ∧ Tr.Ok ps' ∧ ps'.length = i + 1 ∧ Tape (upd H4 l (.lst (nvs ps ++ [V.int (p : Int)]))) t u ∧ But t H (upd H4 l (.lst (nvs ps ++ [V.int (p : Int)]))) ∧ (upd H4 l (.lst (nvs ps ++ [V.int (p : Int)]))) l = some (.lst (nvs ps')) := fun p H4 hp hT4 k5 h4 => by
        refine ⟨ps ++ [p], _, rfl, ?_, by rw [List.length_append, hlen]; rfl, ?_, k5.upd_at hl0, by rw [upd_same, nvs_snoc]⟩
        · intro j x hx
          rw [List.getElem?_append] at hx
          split at hx
          · exact ok j x hx
          · rename_i hj
            obtain rfl : p = x := by
              cases e : j - ps.length with
              | zero => rw [e] at hx; exact Option.some.inj hx
              | succ z => rw [e] at hx; cases hx
            omega
        · obtain ⟨xs, i', b', s', c', a1, a2, a3⟩ := hT4
          exact ⟨xs, i', b', s', c', by rw [upd_ne hlt.symm]; exact a1, by rw [upd_ne hlu]; exact a2, a3⟩
      refine ⟨_, rfl, rfl, _, rfl, ?_⟩
      refine boolIte (fun h1 => ?_) (fun h1 => ?_)
      · refine ⟨_, rfl, .inl ⟨rfl, _, SqL.of h3⟩, _, rfl, l, _, _, rfl, rfl, h3, size_lt (by rw [nvs_len]; omega), ?_⟩
        have := add i H3 (Nat.le_refl _) hT3 k4 h3
        rw [show ((0 : Int) + (i : Int)) = (i : Int) by omega] at this ⊢
        exact this
      · refine ⟨_, rfl, .inl ⟨rfl, _, SqL.of h3⟩, _, rfl, _, rfl, _, _, rfl, rfl, t, u, (0 + (i : Int) + 1), rfl, by omega, by omega, hT3, fun p H4 hp hT4 k5 same5 => ?_⟩
        have h4 : H4 l = some (.lst (nvs ps)) := k5 l _ hlt h3
        refine ⟨l, _, _, rfl, rfl, h4, size_lt (by rw [nvs_len]; omega), ?_⟩
        exact add p H4 (by omega) hT4 (k4.trans k5) h4
    · rintro _ H3 ⟨ps, v, rfl, ok, hlen, hT3, k4, h3⟩
      refine ⟨_, rfl, q l ps H3 ok (by omega) (by omega) hT3 k4 hl0 h3⟩
theorem ok_l_above (T : Tx P K mg) : FnOk P w K mg base L2.CX0 1 T.a_l_above T.d_l_above ["_law_parents_here", "_law_position"] (spAbove K) := by
  refine T.F_l_above.ok sc_l_above (fun vs H Q E h => ?_) (fun cdv A outer s H vs Q E hr h => ?_)
  · obtain ⟨l, ps, p, rfl, _⟩ := h
    rfl
  · obtain ⟨l, ps, p, rfl, hl, ok, sm, hp, q⟩ := h
    have len := nvs_len ps
    refine ⟨_, (pss_cons (ps_set (i := 2) sc_l_above.nd rfl (Or.inl rfl) (pe_lst pa_nil))
          (pss_cons (ps_for PassesOwn.never rfl (pi_range1 rfl T.z_range (pa_cons (pe_op op_add (pe_callB (id := "len") call_len_seq (by rfl) T.z_len (by decide +kernel) (pa_cons (pv 0) pa_nil)) pe_int) pa_nil)) (pg_name (i := 3) sc_l_above.nd rfl (Or.inl rfl))
          (pss_cons (ps_if (pt_cmpR op_le (pv 1) pe_int (nomark _))
          (pss_one ps_break)
          pss_nil)
          (pss_cons (ps_expr (pe_bm PySem.F.plainAttrs_list PySem.F.slot_list_append PySem.F.type_list_append mt_append (pv 2) (pa_cons (pv 1) pa_nil)))
          (pss_one (ps_set (i := 1) sc_l_above.nd rfl (Or.inl rfl) (pe_ix ix_list (pv 0) (pe_op op_sub (pv 1) pe_int) (fun _ _ => rfl)))))))
          (pss_one (ps_ret (pv 2))))), ?_⟩
    refine ⟨Nat.zero_le _, fun r hr => ?_⟩
    have hl1 : ∀ x, SqL K (upd H r x) l (nvs ps) := fun x => (same_new hr).seq hl
    have fin : ∀ done, done ++ Tr.up ps 0 = Tr.up ps p → Q (.ref r) (upd H r (.lst (nvs done))) := fun done e => by
      rw [Tr.up_zero, List.append_nil] at e
      exact q r _ (same_new hr) hr (by rw [upd_same, e])
    refine ⟨_, rfl, l, _, rfl, .inl (hl1 _), _, _, rfl, rfl, _, rfl, by omega, by omega, for_range (fun i σ H' => ∃ (done : List Nat) (x : Nat) (v : Option V), σ = [some (.ref l), some (.int (x : Int)), some (.ref r), v] ∧ H' = upd H r (.lst (nvs done)) ∧ done ++ Tr.up ps x = Tr.up ps p ∧ x + i ≤ p ∧ done.length ≤ i)
      ⟨[], p, none, rfl, rfl, rfl, Nat.le_refl _, Nat.le_refl _⟩ ?_ ?_⟩
    · rintro i _ _ hi ⟨done, x, v, rfl, rfl, e, hx, hd⟩
      refine ⟨_, rfl, _, _, rfl, rfl, _, rfl, ?_⟩
      refine boolIte (fun h1 => ?_) (fun h1 => ?_)
      · obtain rfl : x = 0 := by
          have := of_decide_eq_true h1
          omega
        exact ⟨_, rfl, fin done e⟩
      · have x1 : 1 ≤ x := by
          have := of_decide_eq_false h1
          omega
        have pe := Tr.par_eq ok x1 (by omega)
        have pl := Tr.par_lt ps x1
        refine ⟨_, rfl, .inl ⟨rfl, _, SqL.of upd_same⟩, _, rfl, r, _, _, rfl, rfl, upd_same, size_lt (by rw [nvs_len]; omega), ?_⟩
        refine ⟨_, rfl, _, rfl, _, _, rfl, rfl, l, _, _, _, rfl, rfl, by rw [upd_upd]; exact hl1 _, at_of (j := x - 1) (by omega) (nvs_get pe), ?_⟩
        refine ⟨done ++ [x], Tr.par ps x, _, rfl, by rw [upd_upd, nvs_snoc], ?_, by omega, by rw [List.length_append]; exact Nat.add_le_add_right hd 1⟩
        rw [List.append_assoc, ← e]
        conv => rhs; rw [Tr.up_pos ps x1]
        rfl
    · rintro _ _ ⟨done, x, v, rfl, rfl, e, hx, hd⟩
      omega
theorem ok_l_far (T : Tx P K mg) : FnOk P w K mg base L2.CX0 2 T.a_l_far T.d_l_far ["_law_tape_here"] (spFar) := by
  have G_l_next := ok_l_next (P := P) (w := w) (base := base) T
  refine T.F_l_far.ok sc_l_far (fun vs H Q E h => ?_) (fun cdv A outer s H vs Q E hr h => ?_)
  · obtain ⟨t, u, rfl, _⟩ := h
    rfl
  · obtain ⟨t, u, rfl, hT, q⟩ := h
    refine ⟨_, (pss_cons (ps_if (pt_cmpR op_eq (pe_call G_l_next hr rfl T.g_l_next T.F_l_next.kp T.B_l_next .nil pass0 (pa_cons (pv 0) (pa_cons pe_int pa_nil))) pe_int (nomark _))
          (pss_one (ps_ret pe_int))
          pss_nil)
          (pss_one (ps_ret (pe_call G_l_next hr rfl T.g_l_next T.F_l_next.kp T.B_l_next .nil pass0 (pa_cons (pv 0) (pa_cons pe_int pa_nil)))))), ?_⟩
    refine ⟨_, rfl, t, u, 2, rfl, by decide, by decide, hT, fun r H1 hr hT1 k1 s1 => ?_⟩
    refine ⟨rfl, _, rfl, ?_⟩
    refine boolIte (fun h1 => ?_) (fun h1 => ?_)
    · exact q 0 H1 (by decide) hT1 k1 s1
    · refine ⟨_, rfl, t, u, 999999900, rfl, by decide, by decide, hT1, fun r2 H2 hr2 hT2 k2 s2 => ?_⟩
      exact q r2 H2 (by omega) hT2 (k1.trans k2) fun b hb => (s2 b hb).trans (s1 b hb)
theorem ok_l_sides_had (T : Tx P K mg) : FnOk P w K mg base L2.CX0 2 T.a_l_sides_had T.d_l_sides_had ["_law_parents_here", "_law_position"] (spSidesHad K) := by
  have G_l_above := ok_l_above (P := P) (w := w) (base := base) T
  refine T.F_l_sides_had.ok sc_l_sides_had (fun vs H Q E h => ?_) (fun cdv A outer s H vs Q E hr h => ?_)
  · obtain ⟨l, ps, p, rfl, _⟩ := h
    rfl
  · obtain ⟨l, ps, p, rfl, hl, ok, sm, hp, q⟩ := h
    have len := nvs_len ps
    refine ⟨_, (pss_cons (ps_set (i := 2) sc_l_sides_had.nd rfl (Or.inl rfl) (pe_call G_l_above hr rfl T.g_l_above T.F_l_above.kp T.B_l_above .nil pass0 (pa_cons (pv 0) (pa_cons (pv 1) pa_nil))))
          (pss_cons (ps_set (i := 3) sc_l_sides_had.nd rfl (Or.inl rfl) (pe_lst pa_nil))
          (pss_cons (ps_for PassesOwn.never rfl (pi_range2 rfl T.z_range (pa_cons pe_int (pa_cons (pe_op op_add (pe_callB (id := "len") call_len_seq (by rfl) T.z_len (by decide +kernel) (pa_cons (pv 0) pa_nil)) pe_int) pa_nil))) (pg_name (i := 4) sc_l_sides_had.nd rfl (Or.inl rfl))
          (pss_one (ps_if (pt_cmpR op_in_seq (pv 4) (pv 2) (by rfl))
          (pss_one (ps_expr (pe_bm PySem.F.plainAttrs_list PySem.F.slot_list_append PySem.F.type_list_append mt_append (pv 3) (pa_cons (pv 4) pa_nil))))
          (pss_one (ps_expr (pe_bm PySem.F.plainAttrs_list PySem.F.slot_list_append PySem.F.type_list_append mt_append (pv 3) (pa_cons (pe_op op_sub pe_int (pv 4)) pa_nil)))))))
          (pss_one (ps_ret (pv 3)))))), ?_⟩
    refine ⟨_, rfl, _, rfl, l, ps, p, rfl, hl, ok, sm, hp, fun a H1 sa na ha => ?_⟩
    refine ⟨Nat.zero_le _, fun r hr => ?_⟩
    have hl1 : ∀ x, SqL K (upd H1 r x) l (nvs ps) := fun x => (same_new hr).seq (sa.seq hl)
    have har : a ≠ r := ne_of_none ha hr
    have ha1 : ∀ x, (upd H1 r x) a = some (.lst (nvs (Tr.up ps p))) := fun x => by rw [upd_ne har]; exact ha
    refine ⟨_, rfl, l, _, rfl, .inl (hl1 _), _, _, rfl, rfl, _, _, rfl, ⟨by decide, by decide, by omega, by omega⟩, for_range (fun i σ H' => ∃ v : Option V, σ = [some (.ref l), some (.int (p : Int)), some (.ref a), some (.ref r), v] ∧ H' = upd H1 r (.lst ((hadL ps p).take i)))
      ⟨none, rfl, rfl⟩ ?_ ?_⟩
    · rintro i _ _ hi ⟨v, rfl, rfl⟩
      have hi' : i < ps.length := by omega
      have et : (hadL ps p).take (i + 1) = (hadL ps p).take i ++ [V.int (Tr.side ps p (i + 1))] := by
        have e := hadL_get (ps := ps) (p := p) hi'
        have hk := (List.getElem?_eq_some_iff.mp e).1
        rw [List.take_succ_eq_append_getElem hk, (List.getElem?_eq_some_iff.mp e).2]
      have ll : ((hadL ps p).take i).length ≤ 1000 := by rw [List.length_take, hadL_len]; omega
      have hin : inV (V.int (1 + (i : Int))) (nvs (Tr.up ps p)) = Tr.has ps p (i + 1) := by
        unfold Tr.has
        rw [nvs_in (k := i + 1) (by omega)]
      refine ⟨_, rfl, _, rfl, a, _, rfl, .inl (SqL.of (ha1 _)), rfl, nvs_flat _, _, rfl, ?_⟩
      refine boolIte (fun h1 => ?_) (fun h1 => ?_)
      · have h2 : Tr.has ps p (i + 1) = true := by rw [← hin]; exact h1
        refine ⟨_, rfl, .inl ⟨rfl, _, SqL.of upd_same⟩, _, rfl, r, _, _, rfl, rfl, upd_same, size_lt (by omega), ?_⟩
        refine ⟨_, rfl, ?_⟩
        rw [upd_upd, et]
        unfold Tr.side
        rw [if_pos h2, show (1 + (i : Int)) = ((i + 1 : Nat) : Int) by omega]
      · have h2 : ¬ Tr.has ps p (i + 1) = true := by rw [← hin, show inV (V.int (1 + (i : Int))) (nvs (Tr.up ps p)) = false from h1]; decide
        refine ⟨_, rfl, .inl ⟨rfl, _, SqL.of upd_same⟩, _, rfl, _, _, rfl, rfl, r, _, _, rfl, rfl, upd_same, size_lt (by omega), ?_⟩
        refine ⟨_, rfl, ?_⟩
        rw [upd_upd, et]
        unfold Tr.side
        dsimp only
        rw [if_neg h2, show (0 - (1 + (i : Int))) = 0 - ((i + 1 : Nat) : Int) by omega]
    · rintro _ _ ⟨v, rfl, rfl⟩
      have ee : (hadL ps p).take ((((nvs ps).length : Nat) : Int) + 1 - 1).toNat = hadL ps p := List.take_of_length_le (by rw [hadL_len]; omega)
      rw [ee]
      exact ⟨_, rfl, q r _ (sa.trans (same_new hr)) (sa.free hr) upd_same⟩
theorem ok_l_caught_by_base (T : Tx P K mg) : FnOk P w K mg base L2.CX0 5 T.a_l_caught_by_base T.d_l_caught_by_base ["_law_parents_here"] (spCreRef) := by
  have G_Shape_init := ok_Shape_init (P := P) (w := w) (base := base) T
  refine T.F_l_caught_by_base.ok sc_l_caught_by_base (fun vs H Q E h => ?_) (fun cdv A outer s H vs Q E hr h => ?_)
  · obtain ⟨l, ns, rfl, _⟩ := h
    rfl
  · obtain ⟨l, ns, rfl, hl, sm, bd, q⟩ := h
    refine ⟨_, (pss_cons (L2N.ps_try_as (i := 1) (Wout := fun _ _ _ _ => False) rfl rfl sc_l_caught_by_base.nd rfl rfl ⟨rfl, by decide, Or.inl T.mg_FindsError⟩ takes0N (fun W pn xe tk _ => (pss_one (ps_expr (pe_makeT T.M_Shape G_Shape_init hr rfl T.mg_Shape T.B_Shape_init (fun σ => L2N.passAt tk σ) (by exact (pa_cons (pe_callTy (T := "tuple") (call_tuple_ofK (K := K)) (by rfl) T.z_tuple (by decide +kernel) (pa_cons (pv 0) pa_nil)) pa_nil)))))) (fun a oe cls d pn hz hf => (pss_one (ps_ret (pe_and (pe_callB (id := "isinstance") (call_isG hz.zc hf) (by rfl) T.z_isinstance (by decide +kernel) (pa_cons (pv 1) (pa_cons (pe_bltn (v := .ty "ValueError") rfl T.z_ValueError (by decide +kernel) rfl) pa_nil))) (pe_one (pe_callB (id := "isinstance") (call_isG hz.zc hf) (by rfl) T.z_isinstance (by decide +kernel) (pa_cons (pv 1) (pa_cons (pe_glob (v := .ref T.x_BadShape.C) rfl T.x_BadShape.mgX rfl) pa_nil)))))))))
          (pss_one (ps_ret pe_bl))), ?_⟩
    refine ⟨_, rfl, l, _, rfl, .inl ⟨SqL.of hl, fun l2 n2 => ?_⟩⟩
    intro x dx nx ndx nex
    have sx : Same H (upd (upd (upd H l2 (.tup (ns.map V.int))) dx (.own x)) x (.ins T.C_Shape dx [])) := (same_new n2).trans ((same_new ndx).trans (same_new (by rw [upd_ne nex.symm]; exact nx)))
    have hz := made_at (C := T.C_Shape) nx ndx (upd_same (H := H) (a := l2) (o := .tup (ns.map V.int)))
    refine ⟨x, dx, l2, ns, rfl, upd_same, .inr (SqT.of hz), sm, fun ps' H8 e ok' pos' bt S8 => (bd.no e ok' pos').elim, fun j hj hm d H8 s8 nd hd => ?_, fun en d H8 s8 nd hd => ?_⟩
    all_goals
      refine ⟨true, PySem.W.exm_ref T.cb_FindsError.exC T.cb_FindsError.hdC T.cb_FindsError.tyC T.sb_BadShape_FindsError, fun _ e ne => ?_, fun z => Bool.noConfusion z⟩
      refine ⟨_, rfl, _, d, _, _, _, _, rfl, rfl, hd, T.x_BadShape.ec, rfl, (fun _ h => h), T.k_BadShape_ValueError, _, rfl, ?_⟩
      refine iteT ?_
      exact ⟨_, rfl, _, d, _, _, _, _, rfl, rfl, hd, T.x_BadShape.ec, rfl, relV_ref, T.k_BadShape_BadShape, q _ (sx.trans s8)⟩
theorem ok_l_near_parents (T : Tx P K mg) : FnOk P w K mg base L2.CX0 3 T.a_l_near_parents T.d_l_near_parents ["_law_tape_here", "_law_parents_here"] (spNear) := by
  have G_l_next := ok_l_next (P := P) (w := w) (base := base) T
  have G_l_parents := ok_l_parents (P := P) (w := w) (base := base) T
  refine T.F_l_near_parents.ok sc_l_near_parents (fun vs H Q E h => ?_) (fun cdv A outer s H vs Q E hr h => ?_)
  · obtain ⟨t, u, l, ps, rfl, _⟩ := h
    rfl
  · obtain ⟨t, u, l, ps, rfl, hT, hl, ok, p1, p8, q⟩ := h
    have hlt := hT.ne hl
    have len := nvs_len ps
    refine ⟨_, (pss_cons (ps_set (i := 2) sc_l_near_parents.nd rfl (Or.inl rfl) (pe_call G_l_next (hr.mono (by decide)) rfl T.g_l_next T.F_l_next.kp T.B_l_next .nil pass0 (pa_cons (pv 0) (pa_cons pe_int pa_nil))))
          (C8.pss_cut (ps_if (PW.pt (pw_and (pt_cmpR op_eq (pv 2) pe_int (nomark _)) (pw_and1 (pt_cmpR op_lt (pe_callB (id := "len") call_len_seq (by rfl) T.z_len (by decide +kernel) (pa_cons (pv 1) pa_nil)) pe_int (nomark _)))))
          (pss_one (ps_ret (pe_op op_cat (pv 1) (pe_lst (pa_cons (pe_call G_l_next (hr.mono (by decide)) rfl T.g_l_next T.F_l_next.kp T.B_l_next .nil pass0 (pa_cons (pv 0) (pa_cons (pe_op op_add (pe_callB (id := "len") call_len_seq (by rfl) T.z_len (by decide +kernel) (pa_cons (pv 1) pa_nil)) pe_int) pa_nil))) pa_nil)))))
          pss_nil)
          (C8.pss_cut (ps_if (PW.pt (pw_and (pt_cmpR op_eq (pv 2) pe_int (nomark _)) (pw_and1 (pt_cmpR op_gt (pe_callB (id := "len") call_len_seq (by rfl) T.z_len (by decide +kernel) (pa_cons (pv 1) pa_nil)) pe_int (nomark _)))))
          (pss_one (ps_ret (pe_slice sl_list (pv 1) po_none (po_some (pe_op op_sub (pe_callB (id := "len") call_len_seq (by rfl) T.z_len (by decide +kernel) (pa_cons (pv 1) pa_nil)) pe_int)))))
          pss_nil)
          (pss_cons (ps_if (pt_cmpR op_eq (pv 2) pe_int (nomark _))
          (pss_one (ps_ret (pe_call G_l_parents hr rfl T.g_l_parents T.F_l_parents.kp T.B_l_parents .nil pass0 (pa_cons (pv 0) (pa_cons pe_int pa_nil)))))
          pss_nil)
          (pss_cons (ps_set (i := 3) sc_l_near_parents.nd rfl (Or.inl rfl) (pe_call G_l_next (hr.mono (by decide)) rfl T.g_l_next T.F_l_next.kp T.B_l_next .nil pass0 (pa_cons (pv 0) (pa_cons (pe_callB (id := "len") call_len_seq (by rfl) T.z_len (by decide +kernel) (pa_cons (pv 1) pa_nil)) pa_nil))))
          (pss_one (ps_ret (pe_op op_cat (pe_op op_cat (pe_slice sl_list (pv 1) po_none (po_some (pv 3))) (pe_lst (pa_cons (pe_call G_l_next (hr.mono (by decide)) rfl T.g_l_next T.F_l_next.kp T.B_l_next .nil pass0 (pa_cons (pv 0) (pa_cons (pe_op op_add (pv 3) pe_int) pa_nil))) pa_nil))) (pe_slice sl_list (pv 1) (po_some (pe_op op_add (pv 3) pe_int)) po_none))))))))), ?_⟩
    refine ⟨_, rfl, t, u, 4, rfl, by decide, by decide, hT, fun k H1 hk hT1 k1 s1 => ?_⟩
    have hl1 := k1 l _ hlt hl
    have fin : ∀ (z : Addr) (qs : List Nat) (H2 H3 : Hp), Tr.Ok qs → 1 ≤ qs.length → qs.length ≤ 8 → Tape H2 t u → But t H1 H2 → Same H2 H3 → H3 z = none → Q (.ref z) (upd H3 z (.lst (nvs qs))) := fun z qs H2 H3 okq l1 l8 hT2 k2 s3 nz =>
      q z qs _ okq l1 l8 (Tape.same (hT2.same s3) (same_new nz)) (k1.trans (k2.trans (But.of_same (s3.trans (same_new nz))))) ((k1.trans (k2.trans (But.of_same s3))).free (Tape.ne_new (hT2.same s3) nz) nz) upd_same
    refine ⟨fun σ H' => σ = [some (.ref t), some (.ref l), some (.int (k : Int)), none] ∧ H' = H1, ?_, ?_⟩
    · refine ⟨_, rfl, rfl, _, rfl, ?_⟩
      refine boolIte (fun a1 => ?_) (fun _ => ⟨rfl, rfl⟩)
      refine ⟨_, rfl, l, _, rfl, .inl (SqL.of hl1), _, _, rfl, rfl, _, rfl, ?_⟩
      refine boolIte (fun a2 => ?_) (fun _ => ⟨rfl, rfl⟩)
      have a2' := of_decide_eq_true a2
      refine ⟨_, rfl, _, rfl, _, rfl, l, _, rfl, .inl (SqL.of hl1), _, _, rfl, rfl, t, u, _, rfl, by omega, by omega, hT1, fun r H2 hr hT2 k2 s2 => ?_⟩
      refine ⟨(by show 1 ≤ sizeLine; exact size_le (by omega)), fun o n => ?_⟩
      refine ⟨l, o, nvs ps, [V.int (r : Int)], rfl, rfl, (same_new n) _ _ (k2 l _ hlt hl1), upd_same, size_le (by show (nvs ps).length + 1 ≤ 2000; omega), fun z nz => ?_⟩
      rw [nvs_snoc]
      exact fin z _ H2 _ (ok_snoc ok (by omega)) (by rw [List.length_append]; show 1 ≤ _ + 1; omega) (by rw [List.length_append]; show _ + 1 ≤ 8; omega) hT2 k2 (same_new n) nz
    rintro _ H' ⟨rfl, e⟩
    rw [e]
    clear e H'
    refine ⟨fun σ H' => σ = [some (.ref t), some (.ref l), some (.int (k : Int)), none] ∧ H' = H1, ?_, ?_⟩
    · refine ⟨_, rfl, rfl, _, rfl, ?_⟩
      refine boolIte (fun a1 => ?_) (fun _ => ⟨rfl, rfl⟩)
      refine ⟨_, rfl, l, _, rfl, .inl (SqL.of hl1), _, _, rfl, rfl, _, rfl, ?_⟩
      refine boolIte (fun a2 => ?_) (fun _ => ⟨rfl, rfl⟩)
      have a2' := of_decide_eq_true a2
      refine ⟨_, rfl, _, rfl, l, _, rfl, .inl (SqL.of hl1), _, _, rfl, rfl, _, rfl, l, _, rfl, SqL.of hl1, fun z nz => ?_⟩
      rw [show (((nvs ps).length : Nat) : Int) - 1 = ((ps.length - 1 : Nat) : Int) by omega, cut_to (by omega)]
      exact fin z (ps.take (ps.length - 1)) H1 H1 (ok_take ok) (by rw [List.length_take]; omega) (by rw [List.length_take]; omega) hT1 (But.of_same (Same.refl _)) (Same.refl _) nz
    rintro _ H' ⟨rfl, e⟩
    rw [e]
    clear e H'
    refine ⟨_, rfl, rfl, _, rfl, ?_⟩
    refine boolIte (fun _ => ?_) (fun _ => ?_)
    · refine ⟨_, rfl, t, u, 8, rfl, by omega, by omega, hT1, fun z qs H2 okq l1 l8 hT2 k2 nz hz => ?_⟩
      exact q z qs H2 okq l1 l8 hT2 (k1.trans k2) (k1.free (hT1.ne_new nz) nz) hz
    refine ⟨_, rfl, _, rfl, l, _, rfl, .inl (SqL.of hl1), t, u, _, rfl, by omega, by omega, hT1, fun at_ H2 ha hT2 k2 s2 => ?_⟩
    have hl2 := k2 l _ hlt hl1
    refine ⟨_, rfl, _, rfl, _, rfl, l, _, rfl, SqL.of hl2, fun z1 n1 => ?_⟩
    rw [cut_to (by omega)]
    have hz1t := hT2.ne_new n1
    refine ⟨_, rfl, _, rfl, _, _, rfl, rfl, t, u, _, rfl, by omega, by omega, hT2.same (same_new n1), fun r H4 hr hT4 k4 s4 => ?_⟩
    refine ⟨(by show 1 ≤ sizeLine; exact size_le (by omega)), fun o n => ?_⟩
    have k14 := k2.trans ((But.of_new n1).trans k4)
    have hl4 := k14 l _ hlt hl1
    have hz4 := k4 z1 _ hz1t upd_same
    refine ⟨z1, o, _, _, rfl, rfl, (same_new n) _ _ hz4, upd_same, size_le (by rw [nvs_len, List.length_take]; show _ + 1 ≤ 2000; omega), fun z2 n2 => ?_⟩
    have s12 := (same_new (o := .lst [V.int (r : Int)]) n).trans (same_new (o := .lst (nvs (ps.take at_) ++ [V.int (r : Int)])) n2)
    refine ⟨_, rfl, _, rfl, _, _, rfl, rfl, _, rfl, l, _, rfl, SqL.of (s12 _ _ hl4), fun z3 n3 => ?_⟩
    rw [show ((at_ : Int) + 1) = ((at_ + 1 : Nat) : Int) by omega, cut_from (by omega)]
    refine ⟨z2, z3, _, _, rfl, rfl, (same_new n3) _ _ upd_same, upd_same, size_le (by rw [List.length_append, nvs_len, nvs_len, List.length_take, List.length_drop]; show _ + 1 + _ ≤ 2000; omega), fun z nz => ?_⟩
    rw [nvs_snoc, nvs_app, set_split (by omega)]
    rw [nvs_snoc] at s12 n3 nz
    exact fin z (ps.set at_ r) H4 _ (ok_set ok (by omega)) (by rw [List.length_set]; exact p1) (by rw [List.length_set]; exact p8) hT4 k14 ((s12.trans (same_new n3))) nz
theorem ok_l_spoilt (T : Tx P K mg) : FnOk P w K mg base L2.CX0 3 T.a_l_spoilt T.d_l_spoilt ["_law_tape_here", "_law_parents_here"] (spSpoilt) := by
  have G_l_far := ok_l_far (P := P) (w := w) (base := base) T
  have G_l_next := ok_l_next (P := P) (w := w) (base := base) T
  refine T.F_l_spoilt.ok sc_l_spoilt (fun vs H Q E h => ?_) (fun cdv A outer s H vs Q E hr h => ?_)
  · obtain ⟨t, u, l, ps, rfl, _⟩ := h
    rfl
  · obtain ⟨t, u, l, ps, rfl, hT, hl, p1, p8, q⟩ := h
    have hlt := hT.ne hl
    have len := nvs_len ps
    refine ⟨_, (pss_cons (ps_set (i := 2) sc_l_spoilt.nd rfl (Or.inl rfl) (pe_callTy (T := "list") call_list_of (by rfl) T.z_list (by decide +kernel) (pa_cons (pv 1) pa_nil)))
          (pss_cons (ps_for PassesOwn.never rfl (pi_range1 rfl T.z_range (pa_cons (pe_op op_add pe_int (pe_call G_l_next (hr.mono (by decide)) rfl T.g_l_next T.F_l_next.kp T.B_l_next .nil pass0 (pa_cons (pv 0) (pa_cons pe_int pa_nil)))) pa_nil)) (pg_name (i := 3) sc_l_spoilt.nd rfl (Or.inl rfl))
          (pss_cons (ps_set (i := 4) sc_l_spoilt.nd rfl (Or.inl rfl) (pe_call G_l_next (hr.mono (by decide)) rfl T.g_l_next T.F_l_next.kp T.B_l_next .nil pass0 (pa_cons (pv 0) (pa_cons (pe_callB (id := "len") call_len_seq (by rfl) T.z_len (by decide +kernel) (pa_cons (pv 1) pa_nil)) pa_nil))))
          (pss_one (ps_if (pt_cmpR op_eq (pe_call G_l_next (hr.mono (by decide)) rfl T.g_l_next T.F_l_next.kp T.B_l_next .nil pass0 (pa_cons (pv 0) (pa_cons pe_int pa_nil))) pe_int (nomark _))
          (pss_one (ps_asg (pe_op op_add (pe_op op_add (pv 4) pe_int) (pe_call G_l_far hr rfl T.g_l_far T.F_l_far.kp T.B_l_far .nil pass0 (pa_cons (pv 0) pa_nil))) (pg_sub (pv 2) (pv 4) set_list)))
          (pss_one (ps_asg (pe_op op_sub (pe_op op_sub pe_int pe_int) (pe_call G_l_far hr rfl T.g_l_far T.F_l_far.kp T.B_l_far .nil pass0 (pa_cons (pv 0) pa_nil))) (pg_sub (pv 2) (pv 4) set_list)))))))
          (pss_one (ps_ret (pv 2))))), ?_⟩
    refine ⟨_, rfl, l, _, rfl, .inl (SqL.of hl), fun D hD => ?_⟩
    have hDt := hT.ne_new hD
    have hDu := hT.ne_newu hD
    refine ⟨_, rfl, t, u, 2, rfl, by decide, by decide, hT.same (same_new hD), fun r H1 hr hT1 k1 s1 => ?_⟩
    have hD1 := k1 D _ hDt upd_same
    refine ⟨_, _, rfl, rfl, _, rfl, by omega, by omega, for_range (fun i σ H' => ∃ (ns : List Int) (a b : Option V), σ = [some (.ref t), some (.ref l), some (.ref D), a, b] ∧ ns.length = ps.length ∧ (1 ≤ i → ∃ j, Wrong ns j) ∧ H' D = some (.lst (ns.map V.int)) ∧ Tape H' t u ∧ But t H H') ⟨toI ps, none, none, rfl, toI_len _, fun h => absurd h (by decide), by rw [← nvs_toI]; exact hD1, hT1, (But.of_new hD).trans k1⟩ ?_ ?_⟩
    · rintro i _ H2 hi ⟨ns, a, b, rfl, ln, _, hD2, hT2, k2⟩
      have hl2 := k2 l _ hlt hl
      refine ⟨_, rfl, _, rfl, l, _, rfl, .inl (SqL.of hl2), t, u, _, rfl, by omega, by omega, hT2, fun at_ H3 ha hT3 k3 s3 => ?_⟩
      have hD3 := k3 D _ hDt hD2
      have fin : ∀ (v : Int) (H5 : Hp), ¬ (0 ≤ v ∧ v ≤ (at_ : Int)) → H5 D = some (.lst (ns.map V.int)) → Tape H5 t u → But t H H5 → ∃ (ns' : List Int) (a b : Option V), ([some (.ref t), some (.ref l), some (.ref D), some (.int (0 + (i : Int))), some (.int (at_ : Int))] : List (Option V)) = [some (.ref t), some (.ref l), some (.ref D), a, b] ∧ ns'.length = ps.length ∧ (1 ≤ i + 1 → ∃ j, Wrong ns' j) ∧ (upd H5 D (.lst ((ns.map V.int).set at_ (.int v)))) D = some (.lst (ns'.map V.int)) ∧ Tape (upd H5 D (.lst ((ns.map V.int).set at_ (.int v)))) t u ∧ But t H (upd H5 D (.lst ((ns.map V.int).set at_ (.int v)))) := fun v H5 hv hD5 hT5 k5 =>
        ⟨ns.set at_ v, _, _, rfl, by rw [List.length_set]; exact ln, fun _ => ⟨at_, v, by rw [List.getElem?_set_self (by omega)], hv⟩, by rw [upd_same, List.map_set], hT5.upd hDt.symm hDu.symm, k5.upd_at hD⟩
      have ix : ixN (ns.map V.int).length (at_ : Int) = some at_ := ixN_nat (by rw [List.length_map]; omega)
      refine ⟨_, rfl, t, u, 2, rfl, by decide, by decide, hT3, fun c H4 hc hT4 k4 s4 => ⟨rfl, _, rfl, ?_⟩⟩
      have hD4 := k4 D _ hDt hD3
      refine boolIte (fun _ => ?_) (fun _ => ?_)
      · refine ⟨_, rfl, _, _, rfl, rfl, _, rfl, t, u, rfl, hT4, fun f H5 hf hT5 k5 s5 => ?_⟩
        refine ⟨_, _, rfl, rfl, _, rfl, _, rfl, D, _, _, at_, rfl, rfl, k5 D _ hDt hD4, ix, ?_⟩
        exact fin _ H5 (by omega) (k5 D _ hDt hD4) hT5 (k2.trans (k3.trans (k4.trans k5)))
      · refine ⟨_, _, rfl, rfl, _, rfl, t, u, rfl, hT4, fun f H5 hf hT5 k5 s5 => ?_⟩
        refine ⟨_, _, rfl, rfl, _, rfl, _, rfl, D, _, _, at_, rfl, rfl, k5 D _ hDt hD4, ix, ?_⟩
        exact fin _ H5 (by omega) (k5 D _ hDt hD4) hT5 (k2.trans (k3.trans (k4.trans k5)))
    · rintro _ H2 ⟨ns, a, b, rfl, ln, wr, hD2, hT2, k2⟩
      exact ⟨_, rfl, q D ns H2 ln (wr (by omega)) hT2 k2 hD hD2⟩
theorem ok_l_shape_told (T : Tx P K mg) : FnOk P w K mg base L2.CX0 3 T.a_l_shape_told T.d_l_shape_told ["_law_shape", "_law_parents_here"] (spTold K T.C_Shape) := by
  have G_Shape_is_line := ok_Shape_is_line (P := P) (w := w) (base := base) T
  have G_l_ints := ok_l_ints (P := P) (w := w) (base := base) T
  have G_l_is_number := ok_l_is_number (P := P) (w := w) (base := base) T
  have G_l_yes_or_no := ok_l_yes_or_no (P := P) (w := w) (base := base) T
  refine T.F_l_shape_told.ok sc_l_shape_told (fun vs H Q E h => ?_) (fun cdv A outer s H vs Q E hr h => ?_)
  · obtain ⟨s, l, ps, rfl, _⟩ := h
    rfl
  · obtain ⟨s, l, ps, rfl, S, hl, q⟩ := h
    have len := nvs_len ps
    have sm := S.small
    obtain ⟨dx, tp, d, kvs, hs, ht, hd, hM⟩ := S.at_
    refine ⟨_, (pss_cons (ps_if (PW.pt (pw_or (pt_not (pt_val (pe_callB (id := "isinstance") call_isi (by rfl) T.z_isinstance (by decide +kernel) (pa_cons (pv 0) (pa_cons (pe_glob (v := .ref T.C_Shape) rfl T.mg_Shape rfl) pa_nil))))) (pw_or1 (pt_not (pt_val (pe_callB (id := "isinstance") call_isi (by rfl) T.z_isinstance (by decide +kernel) (pa_cons (pe_fld (pv 0) rfl) (pa_cons (pe_bltn (v := .ty "tuple") rfl T.z_tuple (by decide +kernel) rfl) pa_nil))))))))
          (pss_one (ps_ret pe_bl))
          pss_nil)
          (pss_cons (ps_if (pt_not (pt_val (pe_call G_l_ints hr rfl T.g_l_ints T.F_l_ints.kp T.B_l_ints .nil pass0 (pa_cons (pe_callTy (T := "list") call_list_of (by rfl) T.z_list (by decide +kernel) (pa_cons (pe_fld (pv 0) rfl) pa_nil)) (pa_cons (pv 1) pa_nil)))))
          (pss_one (ps_ret pe_bl))
          pss_nil)
          (pss_cons (ps_if (PW.pt (pw_or (pt_not (pt_val (pe_callQ G_l_is_number ((roomH_of hr).mono (by decide)) rfl T.g_l_is_number T.F_l_is_number.kp T.B_l_is_number (pa_cons (pe_fld (pv 0) rfl) pa_nil)))) (pw_or1 (pt_cmpR op_ne (pe_fld (pv 0) rfl) (pe_callB (id := "len") call_len_seq (by rfl) T.z_len (by decide +kernel) (pa_cons (pv 1) pa_nil)) (nomark _)))))
          (pss_one (ps_ret pe_bl))
          pss_nil)
          (pss_one (ps_ret (pe_call G_l_yes_or_no (hr.mono (by decide)) rfl T.g_l_yes_or_no T.F_l_yes_or_no.kp T.B_l_yes_or_no .nil pass0 (pa_cons (pe_meth0 (pv 0) T.cl_Shape T.m_Shape_is_line G_Shape_is_line (hr.mono (by decide)) T.B_Shape_is_line .nil pass0) (pa_cons (pe_cmpR (op_eqD (hu64_of hr)) (pv 1) (pe_listRg rfl rfl T.z_list (prg_1 rfl T.z_range (pe_callB (id := "len") call_len_seq (by rfl) T.z_len (by decide +kernel) (pa_cons (pv 1) pa_nil)))) (nomark _)) pa_nil)))))))), ?_⟩
    refine ⟨_, rfl, _, _, _, _, _, rfl, .own _, T.io_Shape.ty hs, T.io_Shape.hk, _, rfl, ?_⟩
    refine iteF ?_
    refine ⟨_, rfl, _, _, _, _, _, rfl, hs, T.cl_Shape, T.n_Shape_parents, shf_parents, _, _, _, _, _, rfl, .ty "tuple", tyT ht, kit_ty (r := true) (by decide +kernel), _, rfl, ?_⟩
    refine iteF ?_
    refine ⟨_, rfl, _, _, _, _, _, rfl, hs, T.cl_Shape, T.n_Shape_parents, shf_parents, tp, _, rfl, .inr ht, fun r hr => ?_⟩
    have s1 := same_new (o := .lst (nvs ps)) hr
    have hs1 := s1 _ _ hs
    refine ⟨_, rfl, r, l, toI ps, rfl, by rw [← nvs_toI]; exact upd_same, by rw [← nvs_toI]; exact s1.seq hl, by rw [toI_len]; omega, _, rfl, ?_⟩
    refine iteF ?_
    refine ⟨_, rfl, _, _, _, _, _, rfl, hs1, T.cl_Shape, T.n_Shape_size, shf_size, _, rfl, _, rfl, ?_⟩
    refine iteF ?_
    refine ⟨_, rfl, _, _, _, _, _, rfl, hs1, T.cl_Shape, T.n_Shape_size, shf_size, _, rfl, l, _, rfl, .inl (s1.seq hl), rfl, _, rfl, ?_⟩
    refine ifF (by rw [nvs_len]; simp) ?_
    refine ⟨_, rfl, s, dx, _, rfl, hs1, shf_no (by decide +kernel) (by decide +kernel) (by decide +kernel), s, ps, rfl, S.same s1, fun H2 s2 => ?_⟩
    have hl2 := (s1.trans s2).seq hl
    refine ⟨_, rfl, _, rfl, l, _, rfl, .inl hl2, _, rfl, RgOk.of_le (by decide) (by omega) (by decide) (by omega), fun r2 hr2 => ?_⟩
    rw [len, rgV_nvs]
    have s3 := same_new (o := .lst (nvs (List.range ps.length))) hr2
    have e1 : SqL K (upd H2 r2 (.lst (nvs (List.range ps.length)))) l ((toI ps).map V.int) := by rw [← nvs_toI]; exact s3.seq hl2
    have e2 : SqL K (upd H2 r2 (.lst (nvs (List.range ps.length)))) r2 ((toI (List.range ps.length)).map V.int) := by rw [← nvs_toI]; exact SqL.of upd_same
    refine ⟨_, _, dp_lst e1, dp_lst e2, shaped_lst _, shaped_lst _, ?_⟩
    rw [eqv_lst, show decide (toI ps = toI (List.range ps.length)) = decide (ps = List.range ps.length) from decide_eq_decide.mpr toI_inj]
    exact ⟨_, rfl, q _ (s1.trans (s2.trans s3))⟩
theorem ok_l_refusals_told (T : Tx P K mg) : FnOk P w K mg base L2.CX0 7 T.a_l_refusals_told T.d_l_refusals_told ["_law_tape_here", "_law_shape", "_law_many"] (spRefTold K T.C_Shape) := by
  have G_l_far := ok_l_far (P := P) (w := w) (base := base) T
  have G_l_next := ok_l_next (P := P) (w := w) (base := base) T
  have G_l_position_refused := ok_l_position_refused (P := P) (w := w) (base := base) T
  have G_l_positions_of_refused := ok_l_positions_of_refused (P := P) (w := w) (base := base) T
  have G_l_side_refused := ok_l_side_refused (P := P) (w := w) (base := base) T
  have G_l_sides_at_refused := ok_l_sides_at_refused (P := P) (w := w) (base := base) T
  refine T.F_l_refusals_told.ok sc_l_refusals_told (fun vs H Q E h => ?_) (fun cdv A outer s H vs Q E hr h => ?_)
  · obtain ⟨t, u, s, ps, rfl, _⟩ := h
    rfl
  · obtain ⟨t, u, s, ps, rfl, hT, S, q⟩ := h
    have sm := S.small
    have p1 := S.pos
    refine ⟨_, (pss_cons (ps_set (i := 3) sc_l_refusals_told.nd rfl (Or.inl rfl) (pe_call G_l_next (hr.mono (by decide)) rfl T.g_l_next T.F_l_next.kp T.B_l_next .nil pass0 (pa_cons (pv 0) (pa_cons (pe_op op_add (pv 2) pe_int) pa_nil))))
          (pss_cons (ps_set (i := 4) sc_l_refusals_told.nd rfl (Or.inl rfl) (pe_op op_add pe_int (pe_call G_l_next (hr.mono (by decide)) rfl T.g_l_next T.F_l_next.kp T.B_l_next .nil pass0 (pa_cons (pv 0) (pa_cons (pv 2) pa_nil)))))
          (pss_cons (ps_set (i := 5) sc_l_refusals_told.nd rfl (Or.inl rfl) (pe_lst (pa_cons pe_int (pa_cons (pe_op op_add (pe_op op_add (pv 2) pe_int) (pe_call G_l_far (hr.mono (by decide)) rfl T.g_l_far T.F_l_far.kp T.B_l_far .nil pass0 (pa_cons (pv 0) pa_nil))) (pa_cons (pe_op op_sub (pe_op op_sub (pe_op op_sub pe_int (pv 2)) pe_int) (pe_call G_l_far (hr.mono (by decide)) rfl T.g_l_far T.F_l_far.kp T.B_l_far .nil pass0 (pa_cons (pv 0) pa_nil))) pa_nil)))))
          (pss_cons (ps_for PassesOwn.never rfl (pi_list (pv 5)) (pg_name (i := 6) sc_l_refusals_told.nd rfl (Or.inl rfl))
          (pss_one (ps_if (PW.pt (pw_or (pt_not (pt_val (pe_call G_l_positions_of_refused hr rfl T.g_l_positions_of_refused T.F_l_positions_of_refused.kp T.B_l_positions_of_refused .nil pass0 (pa_cons (pv 1) (pa_cons (pv 6) pa_nil))))) (pw_or1 (pt_not (pt_val (pe_call G_l_side_refused (hr.mono (by decide)) rfl T.g_l_side_refused T.F_l_side_refused.kp T.B_l_side_refused .nil pass0 (pa_cons (pv 1) (pa_cons (pv 3) (pa_cons (pv 6) pa_nil)))))))))
          (pss_one (ps_ret pe_bl))
          pss_nil)))
          (pss_cons (ps_for PassesOwn.never rfl (pi_list (pe_lst (pa_cons (pe_op op_add (pe_op op_add (pv 2) pe_int) (pe_call G_l_far (hr.mono (by decide)) rfl T.g_l_far T.F_l_far.kp T.B_l_far .nil pass0 (pa_cons (pv 0) pa_nil))) (pa_cons (pe_op op_sub (pe_op op_sub pe_int pe_int) (pe_call G_l_far (hr.mono (by decide)) rfl T.g_l_far T.F_l_far.kp T.B_l_far .nil pass0 (pa_cons (pv 0) pa_nil))) pa_nil)))) (pg_name (i := 7) sc_l_refusals_told.nd rfl (Or.inl rfl))
          (pss_cons (ps_if (pt_not (pt_val (pe_call G_l_sides_at_refused hr rfl T.g_l_sides_at_refused T.F_l_sides_at_refused.kp T.B_l_sides_at_refused .nil pass0 (pa_cons (pv 1) (pa_cons (pv 7) pa_nil)))))
          (pss_one (ps_ret pe_bl))
          pss_nil)
          (pss_one (ps_for PassesOwn.never rfl (pi_list (pe_op op_cat (pv 5) (pe_lst (pa_cons (pv 4) (pa_cons (pe_op op_sub pe_int (pv 4)) pa_nil))))) (pg_name (i := 6) sc_l_refusals_told.nd rfl (Or.inl rfl))
          (pss_one (ps_if (pt_not (pt_val (pe_call G_l_position_refused (hr.mono (by decide)) rfl T.g_l_position_refused T.F_l_position_refused.kp T.B_l_position_refused .nil pass0 (pa_cons (pv 1) (pa_cons (pv 7) (pa_cons (pv 6) pa_nil))))))
          (pss_one (ps_ret pe_bl))
          pss_nil))))))
          (pss_one (ps_ret pe_bl))))))), ?_⟩
    refine ⟨_, rfl, _, rfl, _, _, rfl, rfl, t, u, _, rfl, by omega, by omega, hT, fun g H1 hg hT1 k1 s1 => ?_⟩
    refine ⟨_, rfl, _, rfl, t, u, _, rfl, by omega, by omega, hT1, fun b H2 hb hT2 k2 s2 => ?_⟩
    refine ⟨_, _, rfl, rfl, ?_⟩
    refine ⟨_, rfl, _, _, rfl, rfl, _, rfl, t, u, rfl, hT2, fun f1 H3 hf1 hT3 k3 s3 => ?_⟩
    refine ⟨_, _, rfl, rfl, _, rfl, _, _, rfl, rfl, _, _, rfl, rfl, _, rfl, t, u, rfl, hT3, fun f2 H4 hf2 hT4 k4 s4 => ?_⟩
    refine ⟨_, _, rfl, rfl, (by show 3 ≤ sizeLine; exact size_le (by omega)), fun D nD => ?_⟩
    have k14 := k1.trans (k2.trans (k3.trans k4))
    have S4 := S.but hT k14
    have hDt := hT4.ne_new nD
    have gp : IsPos ps.length (g : Int) := ⟨by omega, by omega⟩
    generalize hL : [V.int 0, V.int ((ps.length : Int) + 1 + (f1 : Int)), V.int (0 - (ps.length : Int) - 1 - (f2 : Int))] = L3
    have all3 : ∀ (i : Nat) (x : V), L3[i]? = some x → ∃ k : Int, x = .int k ∧ ¬ IsSide ps.length k ∧ Small k := by
      subst hL
      intro i x hx
      match i, hx with
      | 0, hx => cases hx; exact ⟨_, rfl, fun z => z.1 rfl, by unfold Small; decide⟩
      | 1, hx => cases hx; exact ⟨_, rfl, fun z => by have := z.2.2; omega, by unfold Small; omega⟩
      | 2, hx => cases hx; exact ⟨_, rfl, fun z => by have := z.2.1; omega, by unfold Small; omega⟩
      | n + 3, hx => simp at hx
    have l3 : L3.length = 3 := by rw [← hL]; rfl
    have S5 := S4.same (same_new (o := .lst L3) nD)
    refine ⟨_, rfl, D, rfl, ⟨_, SqL.of upd_same⟩, for_list (K := K) (a := D) (xs := L3) (fun i σ H' => ∃ v : Option V, σ = [some (.ref t), some (.ref s), some (.int ps.length), some (.int (g : Int)), some (.int (1 + (b : Int))), some (.ref D), v, none] ∧ Same (upd H4 D (.lst L3)) H') ⟨none, rfl, Same.refl _⟩ (fun i σ H' _ ⟨_, _, sa⟩ => sa.seq (SqL.of upd_same)) ?_ ?_⟩
    · rintro i x _ H' hx ⟨v, rfl, sa⟩
      obtain ⟨k, rfl, nk, sk⟩ := all3 i x hx
      refine ⟨_, rfl, _, rfl, s, ps, k, rfl, S5.same sa, nk, sk, fun H6 s6 => ⟨_, rfl, ?_⟩⟩
      refine iteF ?_
      refine ⟨_, rfl, _, rfl, _, rfl, s, ps, g, k, rfl, S5.same (sa.trans s6), gp, nk, sk, fun H7 s7 => ⟨_, rfl, ?_⟩⟩
      refine iteF ?_
      exact ⟨_, rfl, sa.trans (s6.trans s7)⟩
    rintro _ H6 ⟨v, rfl, s6⟩
    have hT5 : Tape (upd H4 D (.lst L3)) t u := hT4.same (same_new nD)
    have hT6 : Tape H6 t u := hT5.same s6
    refine ⟨_, rfl, _, _, rfl, rfl, _, rfl, t, u, rfl, hT6, fun f3 H7 hf3 hT7 k7 s7 => ?_⟩
    refine ⟨_, _, rfl, rfl, _, _, rfl, rfl, _, rfl, t, u, rfl, hT7, fun f4 H8 hf4 hT8 k8 s8 => ?_⟩
    refine ⟨_, _, rfl, rfl, (by show 2 ≤ sizeLine; exact size_le (by omega)), fun G nG => ?_⟩
    generalize hL2 : [V.int ((ps.length : Int) + 1 + (f3 : Int)), V.int (0 - 1 - (f4 : Int))] = L2'
    have all2 : ∀ (i : Nat) (x : V), L2'[i]? = some x → ∃ k : Int, x = .int k ∧ ¬ IsPos ps.length k ∧ Small k := by
      subst hL2
      intro i x hx
      match i, hx with
      | 0, hx => cases hx; exact ⟨_, rfl, fun z => by have := z.2; omega, by unfold Small; omega⟩
      | 1, hx => cases hx; exact ⟨_, rfl, fun z => by have := z.1; omega, by unfold Small; omega⟩
      | n + 2, hx => simp at hx
    have S8 := ((S5.same s6).but hT6 (k7.trans k8))
    have hD8 : H8 D = some (.lst L3) := k8 D _ hDt (k7 D _ hDt (s6 _ _ upd_same))
    have S9 := S8.same (same_new (o := .lst L2') nG)
    have hD9 : (upd H8 G (.lst L2')) D = some (.lst L3) := (same_new nG) _ _ hD8
    refine ⟨G, rfl, ⟨_, SqL.of upd_same⟩, for_list (K := K) (a := G) (xs := L2') (fun i σ H' => ∃ v w : Option V, σ = [some (.ref t), some (.ref s), some (.int ps.length), some (.int (g : Int)), some (.int (1 + (b : Int))), some (.ref D), v, w] ∧ Same (upd H8 G (.lst L2')) H') ⟨_, _, rfl, Same.refl _⟩ (fun i σ H' _ ⟨_, _, _, sa⟩ => sa.seq (SqL.of upd_same)) ?_ ?_⟩
    · rintro i x _ H' hx ⟨v, w, rfl, sa⟩
      obtain ⟨k, rfl, nk, sk⟩ := all2 i x hx
      refine ⟨_, rfl, _, rfl, s, ps, k, rfl, S9.same sa, nk, sk, fun H10 s10 => ⟨_, rfl, ?_⟩⟩
      refine iteF ?_
      have sb := sa.trans s10
      refine ⟨_, rfl, _, rfl, _, rfl, _, _, rfl, rfl, (by show 2 ≤ sizeLine; exact size_le (by omega)), fun o no => ?_⟩
      have hD10 := (same_new (o := .lst [V.int (1 + (b : Int)), V.int (0 - (1 + (b : Int)))]) no) _ _ (sb _ _ hD9)
      refine ⟨D, o, _, _, rfl, rfl, hD10, upd_same, size_le (by rw [l3]; show 3 + 2 ≤ 2000; omega), fun z nz => ?_⟩
      have sc := sb.trans ((same_new (o := .lst [V.int (1 + (b : Int)), V.int (0 - (1 + (b : Int)))]) no).trans (same_new (o := .lst (L3 ++ [V.int (1 + (b : Int)), V.int (0 - (1 + (b : Int)))])) nz))
      have all5 : ∀ (i : Nat) (x : V), (L3 ++ [V.int (1 + (b : Int)), V.int (0 - (1 + (b : Int)))])[i]? = some x → ∃ k : Int, x = .int k := by
        intro i x hx
        rcases List.mem_append.mp (List.mem_of_getElem? hx) with h | h
        · obtain ⟨j, hj⟩ := List.getElem?_of_mem h
          obtain ⟨k, e, _⟩ := all3 j x hj
          exact ⟨k, e⟩
        · rcases List.mem_cons.mp h with h | h
          · exact ⟨_, h⟩
          · exact ⟨_, List.mem_singleton.mp h⟩
      refine ⟨z, rfl, ⟨_, SqL.of upd_same⟩, for_list (K := K) (a := z) (xs := L3 ++ [V.int (1 + (b : Int)), V.int (0 - (1 + (b : Int)))]) (fun i σ H'' => ∃ v : Option V, σ = [some (.ref t), some (.ref s), some (.int ps.length), some (.int (g : Int)), some (.int (1 + (b : Int))), some (.ref D), v, some (.int k)] ∧ Same (upd (upd H10 o (.lst [V.int (1 + (b : Int)), V.int (0 - (1 + (b : Int)))])) z (.lst (L3 ++ [V.int (1 + (b : Int)), V.int (0 - (1 + (b : Int)))]))) H'') ⟨_, rfl, Same.refl _⟩ (fun i σ H' _ ⟨_, _, sa⟩ => sa.seq (SqL.of upd_same)) ?_ ?_⟩
      · rintro j y _ H11 hy ⟨v, rfl, s11⟩
        obtain ⟨k2, rfl⟩ := all5 j y hy
        refine ⟨_, rfl, _, rfl, _, rfl, s, ps, k, k2, rfl, S9.same (sc.trans s11), nk, sk, fun H12 s12 => ⟨_, rfl, ?_⟩⟩
        refine iteF ?_
        exact ⟨_, rfl, s11.trans s12⟩
      · rintro _ H11 ⟨v, rfl, s11⟩
        exact ⟨_, _, rfl, sc.trans s11⟩
    · rintro _ H10 ⟨v, w, rfl, sa⟩
      exact q _ ((hT8.same (same_new nG)).same sa) (k14.trans (((But.of_new nD).trans (But.of_same s6)).trans ((k7.trans k8).trans ((But.of_new nG).trans (But.of_same sa)))))
theorem ok_l_positions_told (T : Tx P K mg) : FnOk P w K mg base L2.CX0 6 T.a_l_positions_told T.d_l_positions_told ["_law_shape", "_law_parents_here"] (spTold K T.C_Shape) := by
  have G_Shape_has := ok_Shape_has (P := P) (w := w) (base := base) T
  have G_Shape_positions_of := ok_Shape_positions_of (P := P) (w := w) (base := base) T
  have G_Shape_sides_at := ok_Shape_sides_at (P := P) (w := w) (base := base) T
  have G_l_ints := ok_l_ints (P := P) (w := w) (base := base) T
  have G_l_sides_had := ok_l_sides_had (P := P) (w := w) (base := base) T
  refine T.F_l_positions_told.ok sc_l_positions_told (fun vs H Q E h => ?_) (fun cdv A outer s H vs Q E hr h => ?_)
  · obtain ⟨s, l, ps, rfl, _⟩ := h
    rfl
  · obtain ⟨s, l, ps, rfl, S, hl, q⟩ := h
    have len := nvs_len ps
    have sm := S.small
    have p1 := S.pos
    obtain ⟨dx, tp, d, kvs, hs, ht, hd, hM⟩ := S.at_
    have no : ∀ {m : Str}, ¬ m = "parents" → ¬ m = "size" → ¬ m = "_masks" → (shf tp d ps.length).lookup m = Option.none := fun h1 h2 h3 => shf_no h1 h2 h3
    refine ⟨_, (pss_cons (ps_set (i := 2) sc_l_positions_told.nd rfl (Or.inr rfl) (pe_lc (own := [("_law_here", 9)]) (g := gName 9) (tt := tYes) rfl sc_l_positions_told.nd (pi_range1 rfl T.z_range (pa_cons (pe_op op_add (pe_callB (id := "len") call_len_seq (by rfl) T.z_len (by decide +kernel) (pa_cons (pv 1) pa_nil)) pe_int) pa_nil)) (blkOk_by (N := ["_law_shape", "_law_parents_here", "_law_had", "_law_position", "_law_turn", "_law_told", "_law_side", "_law_k", "_law_due", "_law_here"]) (sc := defScope s_l_positions_told) (by decide +kernel)) (fun _ _ _ _ _ => (pg_name (i := 9) sc_l_positions_told.nd rfl (Or.inl rfl))) (fun _ _ _ _ _ => pts_nil) (fun _ _ _ _ _ => (pe_call G_l_sides_had (hr.mono (by decide)) rfl T.g_l_sides_had T.F_l_sides_had.kp T.B_l_sides_had .nil pass0 (pa_cons (pv 1) (pa_cons (pv 9) pa_nil))))))
          (pss_cons (ps_for PassesOwn.never rfl (pi_range1 rfl T.z_range (pa_cons (pe_callB (id := "len") call_len_seq (by rfl) T.z_len (by decide +kernel) (pa_cons (pv 2) pa_nil)) pa_nil)) (pg_name (i := 3) sc_l_positions_told.nd rfl (Or.inl rfl))
          (pss_cons (ps_for PassesOwn.never rfl (pi_range1 rfl T.z_range (pa_cons pe_int pa_nil)) (pg_name (i := 4) sc_l_positions_told.nd rfl (Or.inl rfl))
          (pss_cons (ps_set (i := 5) sc_l_positions_told.nd rfl (Or.inl rfl) (pe_meth (pv 0) T.cl_Shape T.m_Shape_sides_at G_Shape_sides_at hr T.B_Shape_sides_at .nil pass_noN (pa_cons (pv 3) pa_nil)))
          (pss_cons (ps_if (pt_not (pt_val (pe_call G_l_ints (hr.mono (by decide)) rfl T.g_l_ints T.F_l_ints.kp T.B_l_ints .nil pass0 (pa_cons (pv 5) (pa_cons (pe_ix ix_list (pv 2) (pv 3) (fun _ _ => rfl)) pa_nil)))))
          (pss_one (ps_ret pe_bl))
          pss_nil)
          (pss_cons (ps_expr (pe_bm PySem.F.plainAttrs_list PySem.F.slot_list_append PySem.F.type_list_append mt_append (pv 5) (pa_cons pe_int pa_nil)))
          (pss_one (ps_asg pe_int (pg_sub (pv 5) pe_int set_list)))))))
          (pss_one (ps_for PassesOwn.never rfl (pi_list (pe_ix ix_list (pv 2) (pv 3) (fun _ _ => rfl))) (pg_name (i := 6) sc_l_positions_told.nd rfl (Or.inr rfl))
          (pss_one (ps_if (PW.pt (pw_or (pt_cmpR op_notBl (pe_meth (pv 0) T.cl_Shape T.m_Shape_has G_Shape_has (hr.mono (by decide)) T.B_Shape_has .nil pass_noN (pa_cons (pv 3) (pa_cons (pv 6) pa_nil))) pe_bl (nomark _)) (pw_or1 (pt_cmpR op_notBl (pe_meth (pv 0) T.cl_Shape T.m_Shape_has G_Shape_has (hr.mono (by decide)) T.B_Shape_has .nil pass_noN (pa_cons (pv 3) (pa_cons (pe_op op_sub pe_int (pv 6)) pa_nil))) pe_bl (nomark _)))))
          (pss_one (ps_ret pe_bl))
          pss_nil))))))
          (pss_cons (ps_for PassesOwn.never rfl (pi_range2 rfl T.z_range (pa_cons pe_int (pa_cons (pe_op op_add (pe_callB (id := "len") call_len_seq (by rfl) T.z_len (by decide +kernel) (pa_cons (pv 1) pa_nil)) pe_int) pa_nil))) (pg_name (i := 7) sc_l_positions_told.nd rfl (Or.inl rfl))
          (pss_one (ps_for PassesOwn.never rfl (pi_list (pe_lst (pa_cons (pv 7) (pa_cons (pe_op op_sub pe_int (pv 7)) pa_nil)))) (pg_name (i := 6) sc_l_positions_told.nd rfl (Or.inr rfl))
          (pss_cons (ps_setLc (i := 8) (own := [("_law_here", 9)]) (g := gName 9) rfl sc_l_positions_told.nd rfl rfl (sw_true rfl rfl rfl (by decide +kernel)) (pi_range1 rfl T.z_range (pa_cons (pe_callB (id := "len") call_len_seq (by rfl) T.z_len (by decide +kernel) (pa_cons (pv 2) pa_nil)) pa_nil)) (blkOk_by (N := ["_law_shape", "_law_parents_here", "_law_had", "_law_position", "_law_turn", "_law_told", "_law_side", "_law_k", "_law_due", "_law_here"]) (sc := defScope s_l_positions_told) (by decide +kernel)) (fun _ _ _ _ _ => (pg_name (i := 9) sc_l_positions_told.nd rfl (Or.inl rfl))) (fun _ _ _ _ _ => (pts_one (pt_cmpR (op_in_seqK (K := K)) (pv 6) (pe_ix (ix_listK (K := K)) (pv 2) (pv 9) (fun _ _ => rfl)) (by rfl)))) (fun _ _ _ _ _ => (pv 9)))
          (pss_one (ps_for PassesOwn.never rfl (pi_range1 rfl T.z_range (pa_cons pe_int pa_nil)) (pg_name (i := 4) sc_l_positions_told.nd rfl (Or.inl rfl))
          (pss_cons (ps_set (i := 5) sc_l_positions_told.nd rfl (Or.inl rfl) (pe_meth (pv 0) T.cl_Shape T.m_Shape_positions_of G_Shape_positions_of hr T.B_Shape_positions_of .nil pass_noN (pa_cons (pv 6) pa_nil)))
          (pss_cons (ps_if (pt_not (pt_val (pe_call G_l_ints (hr.mono (by decide)) rfl T.g_l_ints T.F_l_ints.kp T.B_l_ints .nil pass0 (pa_cons (pv 5) (pa_cons (pv 8) pa_nil)))))
          (pss_one (ps_ret pe_bl))
          pss_nil)
          (pss_cons (ps_expr (pe_bm PySem.F.plainAttrs_list PySem.F.slot_list_append PySem.F.type_list_append mt_append (pv 5) (pa_cons pe_int pa_nil)))
          (pss_one (ps_asg (pe_op op_sub pe_int pe_int) (pg_sub (pv 5) pe_int set_list))))))))))))
          (pss_one (ps_ret pe_bl))))), ?_⟩
    refine ⟨_, rfl, l, _, rfl, .inl hl, _, _, rfl, rfl, _, rfl, by omega, by omega, fun D hD => ?_⟩
    refine lc_range (fun k H' => ∃ rs : List Addr, rs.length = k ∧ H' D = some (.lst (rs.map V.ref)) ∧ Same H H' ∧ ∀ (p : Nat) (r : Addr), rs[p]? = some r → r ≠ D ∧ H' r = some (.lst (hadL ps p))) ⟨[], rfl, upd_same, same_new hD, fun p r hr => by simp at hr⟩ ?_ ?_
    · rintro i H1 hi ⟨rs, r1, r2, sa, r3⟩
      have e0 : (0 : Int) + (i : Int) = (i : Int) := by omega
      refine ⟨rfl, ?_⟩
      refine ⟨_, rfl, _, rfl, l, ps, i, congrArg (fun z => [V.ref l, V.int z]) e0, sa.seq hl, S.ok, sm, by omega, fun r H2 sb nr hr => ?_⟩
      have hrD : r ≠ D := (ne_of_none r2 nr).symm
      refine ⟨_, sb _ _ r2, size_lt (by rw [List.length_map]; omega), rs ++ [r], by rw [List.length_append, r1]; rfl, by rw [upd_same, List.map_append]; rfl, same_mut (sa.trans sb) hD, fun p r' hr' => ?_⟩
      rw [List.getElem?_append] at hr'
      split at hr'
      · obtain ⟨x1, x2⟩ := r3 p r' hr'
        exact ⟨x1, by rw [upd_ne x1]; exact sb _ _ x2⟩
      · rename_i hp
        cases e : p - rs.length with
        | zero =>
          rw [e] at hr'
          obtain rfl : r = r' := Option.some.inj hr'
          obtain rfl : p = i := by omega
          exact ⟨hrD, by rw [upd_ne hrD]; exact hr⟩
        | succ z => rw [e] at hr'; cases hr'
    rintro H1 ⟨rs, r1, r2, sa, r3⟩
    have hHad : Had H1 D ps := ⟨rs, r2, by omega, fun p r hr => (r3 p r hr).2⟩
    have row : ∀ p, p ≤ ps.length → ∃ r, (rs.map V.ref)[p]? = some (.ref r) ∧ H1 r = some (.lst (hadL ps p)) := fun p hp => by
      obtain ⟨r, hr⟩ : ∃ r, rs[p]? = some r := ⟨rs[p]'(by omega), List.getElem?_eq_getElem _⟩
      exact ⟨r, by rw [List.getElem?_map, hr]; rfl, (r3 p r hr).2⟩
    have lr : (rs.map V.ref).length = ps.length + 1 := by rw [List.length_map]; omega
    refine ⟨_, rfl, D, _, rfl, .inl (SqL.of r2), _, rfl, by omega, by omega, for_range (fun i σ H' => ∃ (a b c e f g w : Option V), σ = [some (.ref s), some (.ref l), some (.ref D), a, b, c, e, f, g, w] ∧ Same H1 H') ⟨_, _, _, _, _, _, _, rfl, Same.refl _⟩ ?_ ?_⟩
    · rintro i _ H2 hi ⟨a, b, c, e, f, g, w, rfl, s2⟩
      have hi' : i ≤ ps.length := by omega
      have e0 : (0 : Int) + (i : Int) = (i : Int) := by omega
      rw [e0]
      obtain ⟨ri, v3, v4⟩ := row i hi'
      have ip : IsPos ps.length (i : Int) := ⟨by omega, by omega⟩
      refine ⟨_, rfl, by decide, by decide, for_range (fun j σ H' => ∃ (b c : Option V), σ = [some (.ref s), some (.ref l), some (.ref D), some (.int (i : Int)), b, c, e, f, g, w] ∧ Same H2 H') ⟨b, c, rfl, Same.refl _⟩ ?_ ?_⟩
      · rintro j _ H3 hj ⟨b, c, rfl, s3⟩
        have s13 := s2.trans s3
        refine ⟨_, rfl, s, dx, _, rfl, s13 _ _ (sa _ _ hs), no (by decide +kernel) (by decide +kernel) (by decide +kernel), _, rfl, s, ps, _, rfl, S.same (sa.trans s13), fun p' e' hp' r H4 s4 nr hr => ?_, fun z => absurd ip z⟩
        obtain rfl : p' = i := by omega
        have s14 := s13.trans s4
        refine ⟨_, rfl, _, rfl, _, rfl, D, _, _, _, rfl, rfl, SqL.of (s14 _ _ r2), at_of (j := p') rfl v3, r, ri, hadI ps p', rfl, by rw [← hadI_eq]; exact hr, by rw [← hadI_eq]; exact SqL.of (s14 _ _ v4), by rw [hadI_len]; omega, _, rfl, ?_⟩
        refine iteF ?_
        refine ⟨_, rfl, .inl ⟨rfl, _, SqL.of hr⟩, r, _, _, rfl, rfl, hr, size_lt (by rw [hadL_len]; omega), ?_⟩
        refine ⟨_, rfl, r, _, _, 0, rfl, rfl, upd_same, ixN_nat (j := 0) (by rw [List.length_append, hadL_len]; show 0 < _ + 1; omega), ?_⟩
        rw [upd_upd]
        exact ⟨_, _, rfl, same_mut (s3.trans s4) (s3.free nr)⟩
      rintro _ H3 ⟨b, c, rfl, s3⟩
      have s13 := s2.trans s3
      refine ⟨_, rfl, _, rfl, D, _, _, _, rfl, rfl, SqL.of (s13 _ _ r2), at_of (j := i) rfl v3, ri, rfl, ⟨_, SqL.of (s13 _ _ v4)⟩, for_list (K := K) (a := ri) (xs := hadL ps i) (fun j σ H' => ∃ (v : Option V), σ = [some (.ref s), some (.ref l), some (.ref D), some (.int (i : Int)), b, c, v, f, g, w] ∧ Same H3 H') ⟨e, rfl, Same.refl _⟩ (fun j σ H' _ ⟨_, _, s4⟩ => s4.seq (SqL.of (s13 _ _ v4))) ?_ ?_⟩
      · rintro j x _ H4 hx ⟨v, rfl, s4⟩
        obtain ⟨hj, rfl⟩ := hadL_of hx
        obtain ⟨k1, k2, k3, k4⟩ := side_has (ps := ps) (p := i) (k := j + 1) (by omega) (by omega)
        have s14 := sa.trans (s13.trans s4)
        refine ⟨_, rfl, s, dx, _, rfl, s14 _ _ hs, no (by decide +kernel) (by decide +kernel) (by decide +kernel), _, rfl, _, rfl, s, ps, _, _, rfl, S.same s14, fun _ _ => ?_, fun z => absurd ip z, fun _ z => absurd k1 z⟩
        refine ⟨_, _, rfl, rfl, _, rfl, ?_⟩
        refine ifF (by rw [k2]; rfl) ?_
        refine ⟨_, rfl, s, dx, _, rfl, s14 _ _ hs, no (by decide +kernel) (by decide +kernel) (by decide +kernel), _, rfl, _, rfl, _, _, rfl, rfl, s, ps, _, _, rfl, S.same s14, fun _ _ => ?_, fun z => absurd ip z, fun _ z => absurd k3 z⟩
        refine ⟨_, _, rfl, rfl, _, rfl, ?_⟩
        exact ifF (by rw [k4]; rfl) ⟨_, rfl, s4⟩
      · rintro _ H4 ⟨v, rfl, s4⟩
        exact ⟨_, _, _, _, _, _, _, rfl, s13.trans s4⟩
    rintro _ H2 ⟨a, b, c, e, f, g, w, rfl, s2⟩
    refine ⟨_, rfl, l, _, rfl, .inl ((sa.trans s2).seq hl), _, _, rfl, rfl, _, _, rfl, ⟨by decide, by decide, by omega, by omega⟩, for_range (fun i σ H' => ∃ (a b c e f g w : Option V), σ = [some (.ref s), some (.ref l), some (.ref D), a, b, c, e, f, g, w] ∧ Same H1 H') ⟨_, _, _, _, _, _, _, rfl, s2⟩ ?_ ?_⟩
    · rintro i _ H3 hi ⟨a, b, c, e, f, g, w, rfl, s3⟩
      have ik : IsSide ps.length (1 + (i : Int)) := ⟨by omega, by omega, by omega⟩
      have ik2 : IsSide ps.length (0 - (1 + (i : Int))) := ⟨by omega, by omega, by omega⟩
      refine ⟨_, rfl, _, rfl, _, _, rfl, rfl, (by show 2 ≤ sizeLine; exact size_le (by omega)), fun o n0 => ?_⟩
      have s34 := s3.trans (same_new (o := .lst [V.int (1 + (i : Int)), V.int (0 - (1 + (i : Int)))]) n0)
      refine ⟨o, rfl, ⟨_, SqL.of upd_same⟩, for_list (K := K) (a := o) (xs := [V.int (1 + (i : Int)), V.int (0 - (1 + (i : Int)))]) (fun j σ H' => ∃ (a b c e f g w : Option V), σ = [some (.ref s), some (.ref l), some (.ref D), a, b, c, e, f, g, w] ∧ Same (upd H3 o (.lst [V.int (1 + (i : Int)), V.int (0 - (1 + (i : Int)))])) H') ⟨_, _, _, _, _, _, _, rfl, Same.refl _⟩ (fun j σ H' _ ⟨_, _, _, _, _, _, _, _, s4⟩ => s4.seq (SqL.of upd_same)) ?_ ?_⟩
      · rintro j x _ H4 hx ⟨a, b, c, e, f, g, w, rfl, s4⟩
        obtain ⟨k, rfl, hk⟩ : ∃ k : Int, x = .int k ∧ IsSide ps.length k := by
          rcases List.mem_cons.mp (List.mem_of_getElem? hx) with h | h
          · exact ⟨_, h, ik⟩
          · exact ⟨_, List.mem_singleton.mp h, ik2⟩
        have s14 := s34.trans s4
        refine ⟨_, rfl, D, _, rfl, .inl (SqL.of (s14 _ _ r2)), _, rfl, by omega, by omega, fun G nG => ?_⟩
        have el : ((((rs.map V.ref).length : Nat) : Int)).toNat = ps.length + 1 := by omega
        rw [el]
        refine lc_range (fun m H' => H' = upd H4 G (.lst (nvs ((List.range m).filter fun p => hasS ps (p : Int) k)))) rfl ?_ ?_
        · rintro m _ hm rfl
          have e1 : (0 : Int) + (m : Int) = (m : Int) := by omega
          obtain ⟨rm, w3, w4⟩ := row m (by omega)
          have s15 := s14.trans (same_new (o := .lst (nvs ((List.range m).filter fun p => hasS ps (p : Int) k))) nG)
          refine ⟨rfl, ?_⟩
          refine ⟨_, rfl, _, rfl, _, rfl, D, _, _, _, rfl, rfl, SqL.of (s15 _ _ r2), at_of e1 w3, rm, _, rfl, .inl (SqL.of (s15 _ _ w4)), rfl, hadL_flat _ _, _, rfl, ?_⟩
          rw [had_in hk, e1, List.range_succ, List.filter_append]
          refine boolIte (fun h => ?_) (fun h => ?_)
          · refine ⟨_, rfl, _, upd_same, size_lt (by rw [nvs_len]; exact Nat.le_trans (List.length_filter_le _ _) (by rw [List.length_range]; omega)), ?_⟩
            rw [upd_upd, nvs_snoc]
            replace h : hasS ps (m : Int) k = true := h
            simp [h]
          · replace h : hasS ps (m : Int) k = false := h
            simp [h]
        rintro _ rfl
        have s5 := same_new (o := .lst (nvs (posL ps k))) nG
        have s15 := s14.trans s5
        refine ⟨_, rfl, by decide, by decide, for_range (fun j σ H' => ∃ (b c : Option V), σ = [some (.ref s), some (.ref l), some (.ref D), a, b, c, some (.int k), f, some (.ref G), w] ∧ Same (upd H4 G (.lst (nvs (posL ps k)))) H') ⟨b, c, rfl, Same.refl _⟩ ?_ ?_⟩
        · rintro j2 _ H6 hj2 ⟨b, c, rfl, s6⟩
          have s16 := sa.trans (s15.trans s6)
          refine ⟨_, rfl, s, dx, _, rfl, s16 _ _ hs, no (by decide +kernel) (by decide +kernel) (by decide +kernel), _, rfl, s, ps, k, rfl, S.same s16, fun _ r H7 s7 nr hr => ?_, fun z => absurd hk z⟩
          refine ⟨_, rfl, _, rfl, r, G, toI (posL ps k), rfl, by rw [← nvs_toI]; exact hr, by rw [← nvs_toI]; exact SqL.of (s7 _ _ (s6 _ _ upd_same)), by rw [toI_len]; have := posL_len ps k; omega, _, rfl, ?_⟩
          refine iteF ?_
          have pl := posL_len ps k
          refine ⟨_, rfl, .inl ⟨rfl, _, SqL.of hr⟩, r, _, _, rfl, rfl, hr, size_lt (by rw [nvs_len]; omega), ?_⟩
          refine ⟨_, _, rfl, rfl, _, rfl, r, _, _, 0, rfl, rfl, upd_same, ixN_nat (j := 0) (by rw [List.length_append]; show 0 < _ + 1; omega), ?_⟩
          rw [upd_upd]
          exact ⟨_, _, rfl, same_mut (s6.trans s7) (s6.free nr)⟩
        · rintro _ H6 ⟨b, c, rfl, s6⟩
          exact ⟨_, _, _, _, _, _, _, rfl, s4.trans (s5.trans s6)⟩
      · rintro _ H4 ⟨a, b, c, e, f, g, w, rfl, s4⟩
        exact ⟨_, _, _, _, _, _, _, rfl, s34.trans s4⟩
    · rintro _ H3 ⟨a, b, c, e, f, g, w, rfl, s3⟩
      exact q _ (sa.trans s3)
theorem ok_l_equal_told (T : Tx P K mg) : FnOk P w K mg base L2.CX0 2 T.a_l_equal_told T.d_l_equal_told ["_law_shape", "_law_other", "_law_due"] (spEqTold K T.C_Shape) := by
  have G_equal_shapes := ok_equal_shapes (P := P) (w := w) (base := base) T
  have G_l_yes_or_no := ok_l_yes_or_no (P := P) (w := w) (base := base) T
  refine T.F_l_equal_told.ok sc_l_equal_told (fun vs H Q E h => ?_) (fun cdv A outer s H vs Q E hr h => ?_)
  · obtain ⟨s, t, ps, qs, rfl, _⟩ := h
    rfl
  · obtain ⟨s, t, ps, qs, rfl, S, S2, q⟩ := h
    have e : decide (qs = ps) = decide (ps = qs) := decide_eq_decide.mpr eq_comm
    refine ⟨_, (pss_one (ps_ret (pe_and (pe_call G_l_yes_or_no hr rfl T.g_l_yes_or_no T.F_l_yes_or_no.kp T.B_l_yes_or_no .nil pass0 (pa_cons (pe_call G_equal_shapes hr rfl T.g_equal_shapes T.F_equal_shapes.kp T.B_equal_shapes .nil pass0 (pa_cons (pv 0) (pa_cons (pv 1) pa_nil))) (pa_cons (pv 2) pa_nil))) (pe_one (pe_call G_l_yes_or_no hr rfl T.g_l_yes_or_no T.F_l_yes_or_no.kp T.B_l_yes_or_no .nil pass0 (pa_cons (pe_call G_equal_shapes hr rfl T.g_equal_shapes T.F_equal_shapes.kp T.B_equal_shapes .nil pass0 (pa_cons (pv 1) (pa_cons (pv 0) pa_nil))) (pa_cons (pv 2) pa_nil))))))), ?_⟩
    refine ⟨_, rfl, _, rfl, s, t, ps, qs, rfl, S, S2, _, rfl, _, rfl, _, rfl, ?_⟩
    refine ⟨_, rfl, _, rfl, t, s, qs, ps, rfl, S2, S, _, rfl, decide (ps = qs), by rw [e]; rfl, q⟩
theorem ok_l_all_told (T : Tx P K mg) : FnOk P w K mg base L2.CX0 7 T.a_l_all_told T.d_l_all_told ["_law_shape", "_law_parents_here"] (spTold K T.C_Shape) := by
  have G_l_positions_told := ok_l_positions_told (P := P) (w := w) (base := base) T
  have G_l_shape_told := ok_l_shape_told (P := P) (w := w) (base := base) T
  refine T.F_l_all_told.ok sc_l_all_told (fun vs H Q E h => ?_) (fun cdv A outer s H vs Q E hr h => ?_)
  · obtain ⟨s, l, ps, rfl, _⟩ := h
    rfl
  · obtain ⟨s, l, ps, rfl, S, hl, q⟩ := h
    refine ⟨_, (pss_one (ps_ret (pe_and (pe_call G_l_shape_told (hr.mono (by decide)) rfl T.g_l_shape_told T.F_l_shape_told.kp T.B_l_shape_told .nil pass0 (pa_cons (pv 0) (pa_cons (pv 1) pa_nil))) (pe_one (pe_call G_l_positions_told hr rfl T.g_l_positions_told T.F_l_positions_told.kp T.B_l_positions_told .nil pass0 (pa_cons (pv 0) (pa_cons (pv 1) pa_nil))))))), ?_⟩
    refine ⟨_, rfl, _, rfl, s, l, ps, rfl, S, hl, fun H1 s1 => ⟨_, rfl, ?_⟩⟩
    exact ⟨_, rfl, _, rfl, s, l, ps, rfl, S.same s1, s1.seq hl, fun H2 s2 => q _ (s1.trans s2)⟩
theorem ok_l_lines_and_stars_told (T : Tx P K mg) : FnOk P w K mg base L2.CX0 8 T.a_l_lines_and_stars_told T.d_l_lines_and_stars_told ["_law_far_here"] (spLinesStars) := by
  have G_Shape_init := ok_Shape_init (P := P) (w := w) (base := base) T
  have G_l_all_told := ok_l_all_told (P := P) (w := w) (base := base) T
  have G_l_line_refused := ok_l_line_refused (P := P) (w := w) (base := base) T
  have G_l_shape_told := ok_l_shape_told (P := P) (w := w) (base := base) T
  have G_l_star_refused := ok_l_star_refused (P := P) (w := w) (base := base) T
  have G_line := ok_line (P := P) (w := w) (base := base) T
  have G_star := ok_star (P := P) (w := w) (base := base) T
  refine T.F_l_lines_and_stars_told.ok sc_l_lines_and_stars_told (fun vs H Q E h => ?_) (fun cdv A outer s H vs Q E hr h => ?_)
  · obtain ⟨n, rfl, _⟩ := h
    rfl
  · obtain ⟨n, rfl, hn, q⟩ := h
    refine ⟨_, (pss_cons (ps_for PassesOwn.never rfl (pi_range2 rfl T.z_range (pa_cons pe_int (pa_cons pe_int pa_nil))) (pg_name (i := 1) sc_l_lines_and_stars_told.nd rfl (Or.inl rfl))
          (pss_cons (ps_if (pt_not (pt_val (pe_call G_l_shape_told (hr.mono (by decide)) rfl T.g_l_shape_told T.F_l_shape_told.kp T.B_l_shape_told .nil pass0 (pa_cons (pe_call G_line (hr.mono (by decide)) rfl T.g_line T.F_line.kp T.B_line .nil pass_noN (pa_cons (pv 1) pa_nil)) (pa_cons (pe_listRg rfl rfl T.z_list (prg_1 rfl T.z_range (pv 1))) pa_nil)))))
          (pss_one (ps_ret pe_bl))
          pss_nil)
          (pss_one (ps_if (pt_not (pt_val (pe_call G_l_shape_told (hr.mono (by decide)) rfl T.g_l_shape_told T.F_l_shape_told.kp T.B_l_shape_told .nil pass0 (pa_cons (pe_call G_star (hr.mono (by decide)) rfl T.g_star T.F_star.kp T.B_star .nil pass_noN (pa_cons (pv 1) pa_nil)) (pa_cons (pe_lc (own := [("_law_k", 3)]) (g := gName 3) (tt := tYes) rfl sc_l_lines_and_stars_told.nd (pi_range1 rfl T.z_range (pa_cons (pv 1) pa_nil)) (blkOk_by (N := ["_law_far_here", "_law_size", "_law_wide", "_law_k"]) (sc := defScope s_l_lines_and_stars_told) (by decide +kernel)) (fun _ _ _ _ _ => (pg_name (i := 3) sc_l_lines_and_stars_told.nd rfl (Or.inl rfl))) (fun _ _ _ _ _ => pts_nil) (fun _ _ _ _ _ => pe_int)) pa_nil)))))
          (pss_one (ps_ret pe_bl))
          pss_nil))))
          (pss_cons (ps_for PassesOwn.never rfl (pi_list (pe_lst (pa_cons pe_int (pa_cons (pe_op op_sub pe_int pe_int) (pa_cons (pe_op op_sub (pe_op op_sub pe_int pe_int) (pv 0)) pa_nil))))) (pg_name (i := 1) sc_l_lines_and_stars_told.nd rfl (Or.inl rfl))
          (pss_one (ps_if (PW.pt (pw_or (pt_not (pt_val (pe_call G_l_line_refused (hr.mono (by decide)) rfl T.g_l_line_refused T.F_l_line_refused.kp T.B_l_line_refused .nil pass0 (pa_cons (pv 1) pa_nil)))) (pw_or1 (pt_not (pt_val (pe_call G_l_star_refused (hr.mono (by decide)) rfl T.g_l_star_refused T.F_l_star_refused.kp T.B_l_star_refused .nil pass0 (pa_cons (pv 1) pa_nil)))))))
          (pss_one (ps_ret pe_bl))
          pss_nil)))
          (pss_cons (ps_set (i := 2) sc_l_lines_and_stars_told.nd rfl (Or.inl rfl) (pe_lst (pa_cons pe_int (pa_cons pe_int (pa_cons pe_int (pa_cons pe_int (pa_cons pe_int (pa_cons pe_int (pa_cons pe_int (pa_cons pe_int (pa_cons pe_int (pa_cons pe_int pa_nil))))))))))))
          (pss_cons (ps_if (PW.pt (pw_or (pt_not (pt_val (pe_call G_l_shape_told (hr.mono (by decide)) rfl T.g_l_shape_told T.F_l_shape_told.kp T.B_l_shape_told .nil pass0 (pa_cons (pe_call G_line (hr.mono (by decide)) rfl T.g_line T.F_line.kp T.B_line .nil pass_noN (pa_cons pe_int pa_nil)) (pa_cons (pe_listRg rfl rfl T.z_list (prg_1 rfl T.z_range pe_int)) pa_nil))))) (pw_or1 (pt_not (pt_val (pe_call G_l_shape_told (hr.mono (by decide)) rfl T.g_l_shape_told T.F_l_shape_told.kp T.B_l_shape_told .nil pass0 (pa_cons (pe_call G_star (hr.mono (by decide)) rfl T.g_star T.F_star.kp T.B_star .nil pass_noN (pa_cons pe_int pa_nil)) (pa_cons (pe_lc (own := [("_law_k", 3)]) (g := gName 3) (tt := tYes) rfl sc_l_lines_and_stars_told.nd (pi_range1 rfl T.z_range (pa_cons pe_int pa_nil)) (blkOk_by (N := ["_law_far_here", "_law_size", "_law_wide", "_law_k"]) (sc := defScope s_l_lines_and_stars_told) (by decide +kernel)) (fun _ _ _ _ _ => (pg_name (i := 3) sc_l_lines_and_stars_told.nd rfl (Or.inl rfl))) (fun _ _ _ _ _ => pts_nil) (fun _ _ _ _ _ => pe_int)) pa_nil))))))))
          (pss_one (ps_ret pe_bl))
          pss_nil)
          (pss_one (ps_ret (pe_call G_l_all_told hr rfl T.g_l_all_told T.F_l_all_told.kp T.B_l_all_told .nil pass0 (pa_cons (pe_make T.M_Shape G_Shape_init (hr.mono (by decide)) rfl T.mg_Shape T.B_Shape_init .nil pass_noN (pa_cons (pv 2) pa_nil)) (pa_cons (pv 2) pa_nil))))))))), ?_⟩
    refine ⟨_, _, rfl, ⟨by decide, by decide, by decide, by decide⟩, for_range (fun i σ H' => ∃ (a b : Option V), σ = [some (.int n), a, none, b] ∧ Same H H') ⟨none, none, rfl, Same.refl _⟩ ?_ ?_⟩
    · rintro i _ H1 hi ⟨a, b, rfl, s1⟩
      have hi' : i < 8 := hi
      have et : (1 + (i : Int)).toNat = i + 1 := by omega
      have er : rgV 0 (1 + (i : Int)) = nvs (List.range (i + 1)) := by rw [show (1 + (i : Int)) = ((i + 1 : Nat) : Int) by omega, rgV_nvs]
      refine ⟨_, rfl, 1 + (i : Int), rfl, by omega, by omega, fun _ s H2 s2 ns S => ?_, fun c => absurd c (by omega)⟩
      rw [et] at S
      refine ⟨_, rfl, _, rfl, RgOk.of_le (by decide) (by omega) (by decide) (by omega), fun r nr => ?_⟩
      rw [er]
      have s3 := same_new (o := .lst (nvs (List.range (i + 1)))) nr
      refine ⟨s, r, List.range (i + 1), rfl, S.same s3, SqL.of upd_same, fun H4 s4 => ⟨_, rfl, ?_⟩⟩
      refine iteF ?_
      refine ⟨_, rfl, 1 + (i : Int), rfl, by omega, by omega, fun _ s' H5 s5 ns' S' => ?_, fun c => absurd c (by omega)⟩
      rw [et] at S'
      refine ⟨_, rfl, _, rfl, by omega, by omega, fun D nD => ?_⟩
      rw [et]
      refine lc_range (fun k H' => H' = upd H5 D (.lst (nvs (List.replicate k 0)))) rfl ?_ ?_
      · rintro k _ hk rfl
        refine ⟨rfl, _, upd_same, size_lt (by rw [nvs_len, List.length_replicate]; omega), ?_⟩
        rw [upd_upd, List.replicate_succ']
        exact congrArg (fun z => upd H5 D (.lst z)) (nvs_snoc _ 0)
      rintro _ rfl
      refine ⟨s', D, List.replicate (i + 1) 0, rfl, S'.same (same_new nD), SqL.of upd_same, fun H7 s7 => ⟨_, rfl, ?_⟩⟩
      refine iteF ?_
      exact ⟨_, _, rfl, s1.trans (s2.trans (s3.trans (s4.trans (s5.trans ((same_new nD).trans s7)))))⟩
    rintro _ H1 ⟨a, b, rfl, s1⟩
    refine ⟨_, _, rfl, rfl, _, _, rfl, rfl, _, rfl, _, _, rfl, rfl, (by show 3 ≤ sizeLine; exact size_le (by omega)), fun o no => ?_⟩
    refine ⟨o, rfl, ⟨_, SqL.of upd_same⟩, for_list (K := K) (a := o) (xs := [V.int 0, V.int (0 - 1), V.int (0 - 1 - (n : Int))]) (fun j σ H' => ∃ (a : Option V), σ = [some (.int n), a, none, b] ∧ Same (upd H1 o (.lst [V.int 0, V.int (0 - 1), V.int (0 - 1 - (n : Int))])) H') ⟨a, rfl, Same.refl _⟩ (fun j σ H' _ ⟨_, _, s2⟩ => s2.seq (SqL.of upd_same)) ?_ ?_⟩
    · rintro j x _ H2 hx ⟨a, rfl, s2⟩
      obtain ⟨k, rfl, k1, k2⟩ : ∃ k : Int, x = .int k ∧ -(2 ^ 62) ≤ k ∧ k < 1 := by
        match j, hx with
        | 0, hx => cases hx; exact ⟨_, rfl, by omega, by omega⟩
        | 1, hx => cases hx; exact ⟨_, rfl, by omega, by omega⟩
        | 2, hx => cases hx; exact ⟨_, rfl, by omega, by omega⟩
        | n + 3, hx => simp at hx
      refine ⟨_, rfl, k, rfl, k1, k2, fun H3 s3 => ⟨_, rfl, ?_⟩⟩
      refine iteF ?_
      refine ⟨_, rfl, k, rfl, k1, k2, fun H4 s4 => ⟨_, rfl, ?_⟩⟩
      refine iteF ?_
      exact ⟨_, rfl, s2.trans (s3.trans s4)⟩
    rintro _ H2 ⟨a, rfl, s2⟩
    have s12 := s1.trans ((same_new no).trans s2)
    refine ⟨(by show 10 ≤ sizeLine; exact size_le (by omega)), fun W nW => ?_⟩
    have sW := same_new (o := .lst [V.int 0, V.int 1, V.int 2, V.int 0, V.int 4, V.int 5, V.int 6, V.int 7, V.int 8, V.int 0]) nW
    refine ⟨9, rfl, by omega, by omega, fun _ s H3 s3 ns S => ?_, fun c => absurd c (by omega)⟩
    have e9 : rgV 0 9 = nvs (List.range 9) := rgV_nvs 9
    refine ⟨_, rfl, RgOk.of_le (by decide) (by omega) (by decide) (by omega), fun r nr => ?_⟩
    rw [e9]
    have s4 := same_new (o := .lst (nvs (List.range 9))) nr
    refine ⟨s, r, List.range 9, rfl, S.same s4, SqL.of upd_same, fun H5 s5 => ⟨_, rfl, ?_⟩⟩
    refine iteF ?_
    refine ⟨12, rfl, by omega, by omega, fun _ s' H6 s6 ns' S' => ?_, fun c => absurd c (by omega)⟩
    refine ⟨_, rfl, by omega, by omega, fun D nD => ?_⟩
    refine lc_range (n := 12) (fun k H' => H' = upd H6 D (.lst (nvs (List.replicate k 0)))) rfl ?_ ?_
    · rintro k _ hk rfl
      refine ⟨rfl, _, upd_same, size_lt (by rw [nvs_len, List.length_replicate]; omega), ?_⟩
      rw [upd_upd, List.replicate_succ']
      exact congrArg (fun z => upd H6 D (.lst z)) (nvs_snoc _ 0)
    rintro _ rfl
    refine ⟨s', D, List.replicate 12 0, rfl, S'.same (same_new nD), SqL.of upd_same, fun H7 s7 => ⟨_, rfl, ?_⟩⟩
    refine iteF ?_
    have s37 := s3.trans (s4.trans (s5.trans (s6.trans ((same_new nD).trans s7))))
    have hW : H7 W = some (.lst ((toI wideN).map V.int)) := by rw [← wide_eq]; exact s37 _ _ upd_same
    refine ⟨_, rfl, ?_⟩
    intro x dx nx ndx nex
    have hz := made_at (C := T.C_Shape) nx ndx hW
    refine ⟨x, dx, W, toI wideN, rfl, upd_same, .inl (SqL.of hz), by decide, fun ps' H8 e ok' pos' bt S8 => ⟨rfl, ?_⟩, fun j wr => absurd wr (noWrong ok_wide), fun e => absurd (congrArg List.length e) (by rw [toI_len]; decide)⟩
    obtain rfl : wideN = ps' := nvs_inj (by rw [← e, nvs_toI])
    have s8 := made nx ndx bt
    refine ⟨_, rfl, x, W, wideN, rfl, S8, SqL.of (by rw [s8 _ _ hW, nvs_toI]), fun H9 s9 => q _ (s12.trans (sW.trans (s37.trans (s8.trans s9))))⟩
theorem ok_law (T : Tx P K mg) : FnOk P w K mg base L2.CX0 9 T.a_law T.d_law ["_law_script"] (spLaw K) := by
  have G_Shape_init := ok_Shape_init (P := P) (w := w) (base := base) T
  have G_l_all_told := ok_l_all_told (P := P) (w := w) (base := base) T
  have G_l_caught_by_base := ok_l_caught_by_base (P := P) (w := w) (base := base) T
  have G_l_creation_refused := ok_l_creation_refused (P := P) (w := w) (base := base) T
  have G_l_equal_told := ok_l_equal_told (P := P) (w := w) (base := base) T
  have G_l_far := ok_l_far (P := P) (w := w) (base := base) T
  have G_l_lines_and_stars_told := ok_l_lines_and_stars_told (P := P) (w := w) (base := base) T
  have G_l_near_parents := ok_l_near_parents (P := P) (w := w) (base := base) T
  have G_l_parents := ok_l_parents (P := P) (w := w) (base := base) T
  have G_l_refusals_told := ok_l_refusals_told (P := P) (w := w) (base := base) T
  have G_l_spoilt := ok_l_spoilt (P := P) (w := w) (base := base) T
  have G_l_tape := ok_l_tape (P := P) (w := w) (base := base) T
  refine T.F_law.ok sc_law (fun vs H Q E h => ?_) (fun cdv A outer s H vs Q E hr h => ?_)
  · obtain ⟨a0, ns, rfl, _⟩ := h
    rfl
  · obtain ⟨a0, ns, rfl, hS, hlen, q⟩ := h
    refine ⟨_, (pss_cons (ps_set (i := 1) sc_law.nd rfl (Or.inl rfl) (pe_call G_l_tape (hr.mono (by decide)) rfl T.g_l_tape T.F_l_tape.kp T.B_l_tape .nil pass0 (pa_cons (pv 0) pa_nil)))
          (pss_cons (ps_set (i := 2) sc_law.nd rfl (Or.inl rfl) (pe_call G_l_parents (hr.mono (by decide)) rfl T.g_l_parents T.F_l_parents.kp T.B_l_parents .nil pass0 (pa_cons (pv 1) (pa_cons pe_int pa_nil))))
          (pss_cons (ps_set (i := 3) sc_law.nd rfl (Or.inl rfl) (pe_call G_l_near_parents (hr.mono (by decide)) rfl T.g_l_near_parents T.F_l_near_parents.kp T.B_l_near_parents .nil pass0 (pa_cons (pv 1) (pa_cons (pv 2) pa_nil))))
          (pss_cons (ps_set (i := 4) sc_law.nd rfl (Or.inl rfl) (pe_call G_l_spoilt (hr.mono (by decide)) rfl T.g_l_spoilt T.F_l_spoilt.kp T.B_l_spoilt .nil pass0 (pa_cons (pv 1) (pa_cons (pv 2) pa_nil))))
          (pss_cons (ps_set (i := 5) sc_law.nd rfl (Or.inl rfl) (pe_callTy (T := "list") call_list_of (by rfl) T.z_list (by decide +kernel) (pa_cons (pv 2) pa_nil)))
          (pss_cons (ps_set (i := 6) sc_law.nd rfl (Or.inl rfl) (pe_make T.M_Shape G_Shape_init (hr.mono (by decide)) rfl T.mg_Shape T.B_Shape_init .nil pass_noN (pa_cons (pv 5) pa_nil)))
          (pss_cons (ps_set (i := 7) sc_law.nd rfl (Or.inl rfl) (pe_make T.M_Shape G_Shape_init (hr.mono (by decide)) rfl T.mg_Shape T.B_Shape_init .nil pass_noN (pa_cons (pe_callTy (T := "tuple") call_tuple_of (by rfl) T.z_tuple (by decide +kernel) (pa_cons (pv 3) pa_nil)) pa_nil)))
          (pss_cons (ps_if (PW.pt (pw_or (pt_cmpR (op_neD (hu64_of hr)) (pv 5) (pv 2) (nomark _)) (pw_or (pt_not (pt_val (pe_call G_l_creation_refused (hr.mono (by decide)) rfl T.g_l_creation_refused T.F_l_creation_refused.kp T.B_l_creation_refused .nil pass0 (pa_cons (pv 4) pa_nil)))) (pw_or1 (pt_not (pt_val (pe_call G_l_creation_refused (hr.mono (by decide)) rfl T.g_l_creation_refused T.F_l_creation_refused.kp T.B_l_creation_refused .nil pass0 (pa_cons (pe_lst pa_nil) pa_nil))))))))
          (pss_one (ps_ret pe_bl))
          pss_nil)
          (pss_cons (ps_if (PW.pt (pw_or (pt_not (pt_val (pe_call G_l_caught_by_base (hr.mono (by decide)) rfl T.g_l_caught_by_base T.F_l_caught_by_base.kp T.B_l_caught_by_base .nil pass0 (pa_cons (pv 4) pa_nil)))) (pw_or1 (pt_not (pt_val (pe_call G_l_caught_by_base (hr.mono (by decide)) rfl T.g_l_caught_by_base T.F_l_caught_by_base.kp T.B_l_caught_by_base .nil pass0 (pa_cons (pe_lst pa_nil) pa_nil)))))))
          (pss_one (ps_ret pe_bl))
          pss_nil)
          (pss_cons (ps_expr (pe_bm PySem.F.plainAttrs_list PySem.F.slot_list_append PySem.F.type_list_append mt_append (pv 5) (pa_cons pe_int pa_nil)))
          (pss_cons (ps_asg pe_int (pg_sub (pv 5) pe_int set_list))
          (pss_cons (ps_if (PW.pt (pw_or (pt_not (pt_val (pe_call G_l_all_told (hr.mono (by decide)) rfl T.g_l_all_told T.F_l_all_told.kp T.B_l_all_told .nil pass0 (pa_cons (pv 6) (pa_cons (pv 2) pa_nil))))) (pw_or1 (pt_not (pt_val (pe_call G_l_all_told (hr.mono (by decide)) rfl T.g_l_all_told T.F_l_all_told.kp T.B_l_all_told .nil pass0 (pa_cons (pv 7) (pa_cons (pv 3) pa_nil))))))))
          (pss_one (ps_ret pe_bl))
          pss_nil)
          (pss_cons (ps_if (PW.pt (pw_or (pt_not (pt_val (pe_call G_l_refusals_told (hr.mono (by decide)) rfl T.g_l_refusals_told T.F_l_refusals_told.kp T.B_l_refusals_told .nil pass0 (pa_cons (pv 1) (pa_cons (pv 6) (pa_cons (pe_callB (id := "len") call_len_seq (by rfl) T.z_len (by decide +kernel) (pa_cons (pv 2) pa_nil)) pa_nil)))))) (pw_or1 (pt_not (pt_val (pe_call G_l_refusals_told (hr.mono (by decide)) rfl T.g_l_refusals_told T.F_l_refusals_told.kp T.B_l_refusals_told .nil pass0 (pa_cons (pv 1) (pa_cons (pv 7) (pa_cons (pe_callB (id := "len") call_len_seq (by rfl) T.z_len (by decide +kernel) (pa_cons (pv 3) pa_nil)) pa_nil)))))))))
          (pss_one (ps_ret pe_bl))
          pss_nil)
          (pss_cons (ps_if (pt_not (pt_val (pe_call G_l_equal_told (hr.mono (by decide)) rfl T.g_l_equal_told T.F_l_equal_told.kp T.B_l_equal_told .nil pass0 (pa_cons (pv 6) (pa_cons (pv 7) (pa_cons (pe_cmpR (op_eqD (hu64_of hr)) (pv 2) (pv 3) (nomark _)) pa_nil))))))
          (pss_one (ps_ret pe_bl))
          pss_nil)
          (pss_cons (ps_if (pt_not (pt_val (pe_call G_l_equal_told (hr.mono (by decide)) rfl T.g_l_equal_told T.F_l_equal_told.kp T.B_l_equal_told .nil pass0 (pa_cons (pv 6) (pa_cons (pe_make T.M_Shape G_Shape_init (hr.mono (by decide)) rfl T.mg_Shape T.B_Shape_init .nil pass_noN (pa_cons (pe_callTy (T := "list") call_list_of (by rfl) T.z_list (by decide +kernel) (pa_cons (pv 2) pa_nil)) pa_nil)) (pa_cons pe_bl pa_nil))))))
          (pss_one (ps_ret pe_bl))
          pss_nil)
          (pss_one (ps_ret (pe_and (pe_call G_l_lines_and_stars_told hr rfl T.g_l_lines_and_stars_told T.F_l_lines_and_stars_told.kp T.B_l_lines_and_stars_told .nil pass0 (pa_cons (pe_call G_l_far (hr.mono (by decide)) rfl T.g_l_far T.F_l_far.kp T.B_l_far .nil pass0 (pa_cons (pv 1) pa_nil)) pa_nil)) (pe_one (pe_call G_l_all_told (hr.mono (by decide)) rfl T.g_l_all_told T.F_l_all_told.kp T.B_l_all_told .nil pass0 (pa_cons (pv 6) (pa_cons (pv 2) pa_nil)))))))))))))))))))))), ?_⟩
    refine ⟨_, rfl, a0, ns, rfl, hS, hlen, fun t u H1 s1 nt hT1 => ?_⟩
    refine ⟨_, rfl, t, u, 8, rfl, by omega, by omega, hT1, fun l ps H2 ok p1 p8 hT2 k2 nl hl2 => ?_⟩
    have hlt : l ≠ t := hT2.ne hl2
    have len := nvs_len ps
    refine ⟨_, rfl, _, rfl, t, u, l, ps, rfl, hT2, hl2, ok, p1, p8, fun D qs H3 okq q1 q8 hT3 k3 nD hD3 => ?_⟩
    have hDt : D ≠ t := hT3.ne hD3
    have lenq := nvs_len qs
    have hl3 := k3 l _ hlt hl2
    refine ⟨_, rfl, _, rfl, t, u, l, ps, rfl, hT3, hl3, p1, p8, fun B bs H4 lb wb hT4 k4 nB hB4 => ?_⟩
    have hl4 := k4 l _ hlt hl3
    have hD4 := k4 D _ hDt hD3
    refine ⟨_, rfl, l, _, rfl, .inl (SqL.of hl4), fun l2 n2 => ?_⟩
    have h2t := hT4.ne_new n2
    have h2u := hT4.ne_newu n2
    refine ⟨_, rfl, ?_⟩
    intro x dx nx ndx nex
    have hz : (upd H4 l2 (.lst (nvs ps))) l2 = some (.lst ((toI ps).map V.int)) := by rw [upd_same, nvs_toI]
    refine ⟨x, dx, l2, toI ps, rfl, upd_same, .inl (SqL.of (made_at nx ndx hz)), by rw [toI_len]; omega, fun ps' H8 e ok' pos' bt S8 => ⟨rfl, ?_⟩, fun j wr => absurd wr (noWrong ok), fun e => absurd (congrArg List.length e) (by rw [toI_len]; show ¬ ps.length = 0; omega)⟩
    obtain rfl : ps = ps' := nvs_inj (by rw [← e, nvs_toI])
    have m8 := made nx ndx bt
    have s8 := (same_new n2).trans m8
    have h28 : H8 l2 = some (.lst (nvs ps)) := m8 _ _ upd_same
    have hD8 := s8 _ _ hD4
    refine ⟨_, rfl, D, _, rfl, .inl ⟨SqL.of hD8, fun l3 n3 => ?_⟩⟩
    intro y dy ny ndy ney
    have hz2 : (upd H8 l3 (.tup (nvs qs))) l3 = some (.tup ((toI qs).map V.int)) := by rw [upd_same, nvs_toI]
    refine ⟨y, dy, l3, toI qs, rfl, upd_same, .inr (SqT.of (made_at ny ndy hz2)), by rw [toI_len]; omega, fun qs' H9 e2 ok2 pos2 bt2 S9 => ⟨rfl, ?_⟩, fun j wr => absurd wr (noWrong okq), fun e => absurd (congrArg List.length e) (by rw [toI_len]; show ¬ qs.length = 0; omega)⟩
    obtain rfl : qs = qs' := nvs_inj (by rw [← e2, nvs_toI])
    have s9 := (same_new n3).trans (made ny ndy bt2)
    have S8' := S8.same s9
    have s49 := s8.trans s9
    have h29 := s9 _ _ h28
    have hl9 := s49 _ _ hl4
    have toL : ∀ {H' : Hp} {a : Addr} {L : List Nat}, H' a = some (.lst (nvs L)) → SqL K H' a ((toI L).map V.int) := fun h => by rw [← nvs_toI]; exact SqL.of h
    refine ⟨_, rfl, _, rfl, _, _, dp_lst (toL h29), dp_lst (toL hl9), shaped_lst _, shaped_lst _, _, rfl, ?_⟩
    refine ifF (by rw [eqv_lst]; simp) ?_
    refine ⟨_, rfl, B, bs, rfl, s49 _ _ hB4, by omega, .inl wb, fun Ha sa => ⟨_, rfl, ?_⟩⟩
    refine iteF ?_
    refine ⟨Nat.zero_le _, fun e1 ne1 => ?_⟩
    refine ⟨e1, [], rfl, upd_same, by decide, .inr rfl, fun Hb sb => ⟨_, rfl, ?_⟩⟩
    refine iteF ?_
    have sB := sa.trans ((same_new ne1).trans sb)
    refine ⟨_, rfl, B, bs, rfl, sB _ _ (s49 _ _ hB4), by omega, .inl wb, fun Hc sc => ⟨_, rfl, ?_⟩⟩
    refine iteF ?_
    refine ⟨Nat.zero_le _, fun e3 ne3 => ?_⟩
    refine ⟨e3, [], rfl, upd_same, by decide, .inr rfl, fun Hd sd => ⟨_, rfl, ?_⟩⟩
    refine iteF ?_
    have sD := sB.trans (sc.trans ((same_new ne3).trans sd))
    have h2D := sD _ _ h29
    have sT := s49.trans sD
    refine ⟨_, rfl, .inl ⟨rfl, _, SqL.of h2D⟩, l2, _, _, rfl, rfl, h2D, size_lt (by omega), ?_⟩
    refine ⟨_, rfl, l2, _, _, 0, rfl, rfl, upd_same, ixN_nat (j := 0) (by rw [List.length_append]; show 0 < _ + 1; omega), ?_⟩
    rw [upd_upd]
    have ne2 : ∀ {a : Addr} {o : HO}, H4 a = some o → a ≠ l2 := fun h => ne_of_none h n2
    have hTE : Tape (upd Hd l2 (.lst ((nvs ps ++ [V.int 0]).set 0 (.int 1)))) t u := Tape.upd ((hT4.same sT)) h2t.symm h2u.symm
    have SxE : ShapeAt K T.C_Shape (upd Hd l2 (.lst ((nvs ps ++ [V.int 0]).set 0 (.int 1)))) x ps := (S8'.same sD).mut h2D
    have SyE : ShapeAt K T.C_Shape (upd Hd l2 (.lst ((nvs ps ++ [V.int 0]).set 0 (.int 1)))) y qs := (S9.same sD).mut h2D
    have hlE : (upd Hd l2 (.lst ((nvs ps ++ [V.int 0]).set 0 (.int 1)))) l = some (.lst (nvs ps)) := by rw [upd_ne (ne2 hl4)]; exact sT _ _ hl4
    have hDE : (upd Hd l2 (.lst ((nvs ps ++ [V.int 0]).set 0 (.int 1)))) D = some (.lst (nvs qs)) := by rw [upd_ne (ne2 hD4)]; exact sT _ _ hD4
    generalize upd Hd l2 (.lst ((nvs ps ++ [V.int 0]).set 0 (.int 1))) = HE at hTE SxE SyE hlE hDE
    refine ⟨_, rfl, _, rfl, x, l, ps, rfl, SxE, SqL.of hlE, fun Hf sf => ⟨_, rfl, ?_⟩⟩
    refine iteF ?_
    refine ⟨_, rfl, _, rfl, y, D, qs, rfl, SyE.same sf, SqL.of (sf _ _ hDE), fun Hg sg => ⟨_, rfl, ?_⟩⟩
    refine iteF ?_
    have sG := sf.trans sg
    have hTG := hTE.same sG
    refine ⟨_, rfl, _, rfl, _, rfl, l, _, rfl, .inl (SqL.of (sG _ _ hlE)), t, u, x, ps, by rw [len]; rfl, hTG, SxE.same sG, fun Hh hTh kh => ⟨_, rfl, ?_⟩⟩
    refine iteF ?_
    have hlH := kh l _ hlt (sG _ _ hlE)
    have hDH := kh D _ hDt (sG _ _ hDE)
    have SxH := (SxE.same sG).but hTG kh
    have SyH := (SyE.same sG).but hTG kh
    refine ⟨_, rfl, _, rfl, _, rfl, D, _, rfl, .inl (SqL.of hDH), t, u, y, qs, by rw [lenq]; rfl, hTh, SyH, fun Hi hTi ki => ⟨_, rfl, ?_⟩⟩
    refine iteF ?_
    have hlI := ki l _ hlt hlH
    have hDI := ki D _ hDt hDH
    have SxI := SxH.but hTh ki
    have SyI := SyH.but hTh ki
    refine ⟨_, rfl, _, rfl, _, rfl, _, rfl, _, _, dp_lst (toL hlI), dp_lst (toL hDI), shaped_lst _, shaped_lst _, ?_⟩
    rw [eqv_lst, show decide (toI ps = toI qs) = decide (ps = qs) from decide_eq_decide.mpr toI_inj]
    refine ⟨x, y, ps, qs, rfl, SxI, SyI, _, rfl, ?_⟩
    refine iteF ?_
    refine ⟨_, rfl, _, rfl, l, _, rfl, .inl (SqL.of hlI), fun l4 n4 => ?_⟩
    intro z dz nz ndz nez
    have hz4 : (upd Hi l4 (.lst (nvs ps))) l4 = some (.lst ((toI ps).map V.int)) := by rw [upd_same, nvs_toI]
    refine ⟨z, dz, l4, toI ps, rfl, upd_same, .inl (SqL.of (made_at nz ndz hz4)), by rw [toI_len]; omega, fun ps' Hj e4 ok4 pos4 bt4 Sz => ⟨rfl, ?_⟩, fun j wr => absurd wr (noWrong ok), fun e => absurd (congrArg List.length e) (by rw [toI_len]; show ¬ ps.length = 0; omega)⟩
    obtain rfl : ps = ps' := nvs_inj (by rw [← e4, nvs_toI])
    have sj := (same_new n4).trans (made nz ndz bt4)
    refine ⟨x, z, ps, ps, by rw [decide_eq_true (rfl : ps = ps)]; rfl, SxI.same sj, Sz, _, rfl, ?_⟩
    refine iteF ?_
    have hTj := hTi.same sj
    refine ⟨_, rfl, t, u, rfl, hTj, fun f Hk hf hTk kk sk => ?_⟩
    refine ⟨f, rfl, hf, fun Hl sl => ⟨_, rfl, ?_⟩⟩
    exact ⟨_, rfl, _, rfl, x, l, ps, rfl, ((SxI.same sj).but hTj kk).same sl, SqL.of (sl _ _ (kk l _ hlt (sj _ _ hlI))), fun Hm sm => q _⟩
end
theorem all_mk {P : Program} {K : PySem.W.Frag} {h : Heap} {mg : Str → Option Value} {fa : Addr} (X : K.In h) (G : h.Ns mainGlobals mg) (hfa : mg "law" = some (.ref fa))
    {C_FindsError : Addr}
    {C_BadShape f_BadShape cc_BadShape cda_BadShape N_BadShape : Addr} {nm_BadShape q_BadShape file_BadShape : Str} {bs_BadShape sub_BadShape : List Value} {sn_BadShape : List Str} {ab_BadShape : Bool} {col_BadShape : Option Bool} {dd_BadShape od_BadShape an_BadShape cld_BadShape cdd_BadShape : Option Addr} {m0_BadShape m1_BadShape m2_BadShape m3_BadShape m5_BadShape : Option Value} {oc_BadShape kV_BadShape dc_BadShape pm_BadShape ct_BadShape cl_BadShape ccl_BadShape : Value} {sl_BadShape csl_BadShape ccs_BadShape : Array (Option Value)} {vs_BadShape : Array Value} {tf_BadShape : Tok}
    {C_BadPosition f_BadPosition cc_BadPosition cda_BadPosition N_BadPosition : Addr} {nm_BadPosition q_BadPosition file_BadPosition : Str} {bs_BadPosition sub_BadPosition : List Value} {sn_BadPosition : List Str} {ab_BadPosition : Bool} {col_BadPosition : Option Bool} {dd_BadPosition od_BadPosition an_BadPosition cld_BadPosition cdd_BadPosition : Option Addr} {m0_BadPosition m1_BadPosition m2_BadPosition m3_BadPosition m5_BadPosition : Option Value} {oc_BadPosition kV_BadPosition dc_BadPosition pm_BadPosition ct_BadPosition cl_BadPosition ccl_BadPosition : Value} {sl_BadPosition csl_BadPosition ccs_BadPosition : Array (Option Value)} {vs_BadPosition : Array Value} {tf_BadPosition : Tok}
    {C_BadSide f_BadSide cc_BadSide cda_BadSide N_BadSide : Addr} {nm_BadSide q_BadSide file_BadSide : Str} {bs_BadSide sub_BadSide : List Value} {sn_BadSide : List Str} {ab_BadSide : Bool} {col_BadSide : Option Bool} {dd_BadSide od_BadSide an_BadSide cld_BadSide cdd_BadSide : Option Addr} {m0_BadSide m1_BadSide m2_BadSide m3_BadSide m5_BadSide : Option Value} {oc_BadSide kV_BadSide dc_BadSide pm_BadSide ct_BadSide cl_BadSide ccl_BadSide : Value} {sl_BadSide csl_BadSide ccs_BadSide : Array (Option Value)} {vs_BadSide : Array Value} {tf_BadSide : Tok}
    {C_Shape : Addr}
    {f_side_masks : Addr} {od_side_masks an_side_masks : Option Addr} {sl_side_masks : Array (Option Value)} {oc_side_masks kV_side_masks dc_side_masks pm_side_masks cd_side_masks ct_side_masks : Value}
    {f_Shape_init : Addr} {od_Shape_init an_Shape_init : Option Addr} {sl_Shape_init : Array (Option Value)} {oc_Shape_init kV_Shape_init dc_Shape_init pm_Shape_init cd_Shape_init ct_Shape_init : Value}
    {f_Shape_positions_of : Addr} {od_Shape_positions_of an_Shape_positions_of : Option Addr} {sl_Shape_positions_of : Array (Option Value)} {oc_Shape_positions_of kV_Shape_positions_of dc_Shape_positions_of pm_Shape_positions_of cd_Shape_positions_of ct_Shape_positions_of : Value}
    {f_Shape_has : Addr} {od_Shape_has an_Shape_has : Option Addr} {sl_Shape_has : Array (Option Value)} {oc_Shape_has kV_Shape_has dc_Shape_has pm_Shape_has cd_Shape_has ct_Shape_has : Value}
    {f_Shape_sides_at : Addr} {od_Shape_sides_at an_Shape_sides_at : Option Addr} {sl_Shape_sides_at : Array (Option Value)} {oc_Shape_sides_at kV_Shape_sides_at dc_Shape_sides_at pm_Shape_sides_at cd_Shape_sides_at ct_Shape_sides_at : Value}
    {f_Shape_is_line : Addr} {od_Shape_is_line an_Shape_is_line : Option Addr} {sl_Shape_is_line : Array (Option Value)} {oc_Shape_is_line kV_Shape_is_line dc_Shape_is_line pm_Shape_is_line cd_Shape_is_line ct_Shape_is_line : Value}
    {f_line : Addr} {od_line an_line : Option Addr} {sl_line : Array (Option Value)} {oc_line kV_line dc_line pm_line cd_line ct_line : Value}
    {f_star : Addr} {od_star an_star : Option Addr} {sl_star : Array (Option Value)} {oc_star kV_star dc_star pm_star cd_star ct_star : Value}
    {f_equal_shapes : Addr} {od_equal_shapes an_equal_shapes : Option Addr} {sl_equal_shapes : Array (Option Value)} {oc_equal_shapes kV_equal_shapes dc_equal_shapes pm_equal_shapes cd_equal_shapes ct_equal_shapes : Value}
    {f_check_position : Addr} {od_check_position an_check_position : Option Addr} {sl_check_position : Array (Option Value)} {oc_check_position kV_check_position dc_check_position pm_check_position cd_check_position ct_check_position : Value}
    {f_check_side : Addr} {od_check_side an_check_side : Option Addr} {sl_check_side : Array (Option Value)} {oc_check_side kV_check_side dc_check_side pm_check_side cd_check_side ct_check_side : Value}
    {f_is_number_of_side : Addr} {od_is_number_of_side an_is_number_of_side : Option Addr} {sl_is_number_of_side : Array (Option Value)} {oc_is_number_of_side kV_is_number_of_side dc_is_number_of_side pm_is_number_of_side cd_is_number_of_side ct_is_number_of_side : Value}
    {f_l_tape : Addr} {od_l_tape an_l_tape : Option Addr} {sl_l_tape : Array (Option Value)} {oc_l_tape kV_l_tape dc_l_tape pm_l_tape cd_l_tape ct_l_tape : Value}
    {f_l_next : Addr} {od_l_next an_l_next : Option Addr} {sl_l_next : Array (Option Value)} {oc_l_next kV_l_next dc_l_next pm_l_next cd_l_next ct_l_next : Value}
    {f_l_parents : Addr} {od_l_parents an_l_parents : Option Addr} {sl_l_parents : Array (Option Value)} {oc_l_parents kV_l_parents dc_l_parents pm_l_parents cd_l_parents ct_l_parents : Value}
    {f_l_above : Addr} {od_l_above an_l_above : Option Addr} {sl_l_above : Array (Option Value)} {oc_l_above kV_l_above dc_l_above pm_l_above cd_l_above ct_l_above : Value}
    {f_l_is_number : Addr} {od_l_is_number an_l_is_number : Option Addr} {sl_l_is_number : Array (Option Value)} {oc_l_is_number kV_l_is_number dc_l_is_number pm_l_is_number cd_l_is_number ct_l_is_number : Value}
    {f_l_ints : Addr} {od_l_ints an_l_ints : Option Addr} {sl_l_ints : Array (Option Value)} {oc_l_ints kV_l_ints dc_l_ints pm_l_ints cd_l_ints ct_l_ints : Value}
    {f_l_yes_or_no : Addr} {od_l_yes_or_no an_l_yes_or_no : Option Addr} {sl_l_yes_or_no : Array (Option Value)} {oc_l_yes_or_no kV_l_yes_or_no dc_l_yes_or_no pm_l_yes_or_no cd_l_yes_or_no ct_l_yes_or_no : Value}
    {f_l_far : Addr} {od_l_far an_l_far : Option Addr} {sl_l_far : Array (Option Value)} {oc_l_far kV_l_far dc_l_far pm_l_far cd_l_far ct_l_far : Value}
    {f_l_near_parents : Addr} {od_l_near_parents an_l_near_parents : Option Addr} {sl_l_near_parents : Array (Option Value)} {oc_l_near_parents kV_l_near_parents dc_l_near_parents pm_l_near_parents cd_l_near_parents ct_l_near_parents : Value}
    {f_l_spoilt : Addr} {od_l_spoilt an_l_spoilt : Option Addr} {sl_l_spoilt : Array (Option Value)} {oc_l_spoilt kV_l_spoilt dc_l_spoilt pm_l_spoilt cd_l_spoilt ct_l_spoilt : Value}
    {f_l_first_wrong : Addr} {od_l_first_wrong an_l_first_wrong : Option Addr} {sl_l_first_wrong : Array (Option Value)} {oc_l_first_wrong kV_l_first_wrong dc_l_first_wrong pm_l_first_wrong cd_l_first_wrong ct_l_first_wrong : Value}
    {f_l_creation_refused : Addr} {od_l_creation_refused an_l_creation_refused : Option Addr} {sl_l_creation_refused : Array (Option Value)} {oc_l_creation_refused kV_l_creation_refused dc_l_creation_refused pm_l_creation_refused cd_l_creation_refused ct_l_creation_refused : Value}
    {f_l_caught_by_base : Addr} {od_l_caught_by_base an_l_caught_by_base : Option Addr} {sl_l_caught_by_base : Array (Option Value)} {oc_l_caught_by_base kV_l_caught_by_base dc_l_caught_by_base pm_l_caught_by_base cd_l_caught_by_base ct_l_caught_by_base : Value}
    {f_l_line_refused : Addr} {od_l_line_refused an_l_line_refused : Option Addr} {sl_l_line_refused : Array (Option Value)} {oc_l_line_refused kV_l_line_refused dc_l_line_refused pm_l_line_refused cd_l_line_refused ct_l_line_refused : Value}
    {f_l_star_refused : Addr} {od_l_star_refused an_l_star_refused : Option Addr} {sl_l_star_refused : Array (Option Value)} {oc_l_star_refused kV_l_star_refused dc_l_star_refused pm_l_star_refused cd_l_star_refused ct_l_star_refused : Value}
    {f_l_positions_of_refused : Addr} {od_l_positions_of_refused an_l_positions_of_refused : Option Addr} {sl_l_positions_of_refused : Array (Option Value)} {oc_l_positions_of_refused kV_l_positions_of_refused dc_l_positions_of_refused pm_l_positions_of_refused cd_l_positions_of_refused ct_l_positions_of_refused : Value}
    {f_l_side_refused : Addr} {od_l_side_refused an_l_side_refused : Option Addr} {sl_l_side_refused : Array (Option Value)} {oc_l_side_refused kV_l_side_refused dc_l_side_refused pm_l_side_refused cd_l_side_refused ct_l_side_refused : Value}
    {f_l_position_refused : Addr} {od_l_position_refused an_l_position_refused : Option Addr} {sl_l_position_refused : Array (Option Value)} {oc_l_position_refused kV_l_position_refused dc_l_position_refused pm_l_position_refused cd_l_position_refused ct_l_position_refused : Value}
    {f_l_sides_at_refused : Addr} {od_l_sides_at_refused an_l_sides_at_refused : Option Addr} {sl_l_sides_at_refused : Array (Option Value)} {oc_l_sides_at_refused kV_l_sides_at_refused dc_l_sides_at_refused pm_l_sides_at_refused cd_l_sides_at_refused ct_l_sides_at_refused : Value}
    {f_l_refusals_told : Addr} {od_l_refusals_told an_l_refusals_told : Option Addr} {sl_l_refusals_told : Array (Option Value)} {oc_l_refusals_told kV_l_refusals_told dc_l_refusals_told pm_l_refusals_told cd_l_refusals_told ct_l_refusals_told : Value}
    {f_l_sides_had : Addr} {od_l_sides_had an_l_sides_had : Option Addr} {sl_l_sides_had : Array (Option Value)} {oc_l_sides_had kV_l_sides_had dc_l_sides_had pm_l_sides_had cd_l_sides_had ct_l_sides_had : Value}
    {f_l_shape_told : Addr} {od_l_shape_told an_l_shape_told : Option Addr} {sl_l_shape_told : Array (Option Value)} {oc_l_shape_told kV_l_shape_told dc_l_shape_told pm_l_shape_told cd_l_shape_told ct_l_shape_told : Value}
    {f_l_positions_told : Addr} {od_l_positions_told an_l_positions_told : Option Addr} {sl_l_positions_told : Array (Option Value)} {oc_l_positions_told kV_l_positions_told dc_l_positions_told pm_l_positions_told cd_l_positions_told ct_l_positions_told : Value}
    {f_l_all_told : Addr} {od_l_all_told an_l_all_told : Option Addr} {sl_l_all_told : Array (Option Value)} {oc_l_all_told kV_l_all_told dc_l_all_told pm_l_all_told cd_l_all_told ct_l_all_told : Value}
    {f_l_equal_told : Addr} {od_l_equal_told an_l_equal_told : Option Addr} {sl_l_equal_told : Array (Option Value)} {oc_l_equal_told kV_l_equal_told dc_l_equal_told pm_l_equal_told cd_l_equal_told ct_l_equal_told : Value}
    {f_l_lines_and_stars_told : Addr} {od_l_lines_and_stars_told an_l_lines_and_stars_told : Option Addr} {sl_l_lines_and_stars_told : Array (Option Value)} {oc_l_lines_and_stars_told kV_l_lines_and_stars_told dc_l_lines_and_stars_told pm_l_lines_and_stars_told cd_l_lines_and_stars_told ct_l_lines_and_stars_told : Value}
    {f_law : Addr} {od_law an_law : Option Addr} {sl_law : Array (Option Value)} {oc_law kV_law dc_law pm_law cd_law ct_law : Value}
    (z_abs : PySem.W.nsIn K mainGlobals "abs" = some none)
    (z_bool : PySem.W.nsIn K mainGlobals "bool" = some none)
    (z_enumerate : PySem.W.nsIn K mainGlobals "enumerate" = some none)
    (z_int : PySem.W.nsIn K mainGlobals "int" = some none)
    (z_isinstance : PySem.W.nsIn K mainGlobals "isinstance" = some none)
    (z_len : PySem.W.nsIn K mainGlobals "len" = some none)
    (z_list : PySem.W.nsIn K mainGlobals "list" = some none)
    (z_range : PySem.W.nsIn K mainGlobals "range" = some none)
    (z_tuple : PySem.W.nsIn K mainGlobals "tuple" = some none)
    (z_ValueError : PySem.W.nsIn K mainGlobals "ValueError" = some none)
    (z_super : PySem.W.nsIn K mainGlobals "super" = some none)
    (top_ : (P.main.scope.names.lookup ("super" : Str)).isSome = false)
    (thp : PySem.W.nsIn K cStatics "thirdparty.any" = some none)
    (hn_ : PySem.W.specialIn K (.builtin "object.__class__") "__get__" = some (some (.builtin "getset_descriptor.__get__")))
    (ht_ : PySem.W.takesIn K (.builtin "object.__class__") = some true)
    (a_FindsError : PySem.W.nsIn K mainGlobals "FindsError" = some (some (.ref C_FindsError)))
    (a_BadShape : PySem.W.nsIn K mainGlobals "BadShape" = some (some (.ref C_BadShape)))
    (x_BadShape : K.lookup C_BadShape = some (excClassObj nm_BadShape q_BadShape C_BadShape N_BadShape bs_BadShape [.ref C_FindsError, .type "ValueError", .type "Exception", .type "BaseException", .type "object"] true sn_BadShape sub_BadShape ab_BadShape col_BadShape dd_BadShape m0_BadShape m1_BadShape m2_BadShape m3_BadShape m5_BadShape "ValueError.__new__"))
    (sa_BadShape : PySem.W.findIn K (.ref C_BadShape) "__setattr__" = some (some (.builtin "object.__setattr__")))
    (eC_BadShape : PySem.W.subIn K (.ref C_BadShape) (.type "BaseException") = some true)
    (sV_BadShape : PySem.W.subIn K (.ref C_BadShape) (.type "ValueError") = some true)
    (tC_BadShape : PySem.W.typeIn K (.ref C_BadShape) = some (.type "type"))
    (kC_BadShape : PySem.W.keepIn K (.ref C_BadShape) = true)
    (i_BadShape : PySem.W.findIn K (.ref C_BadShape) "__init__" = some (some (.ref f_BadShape)))
    (tI_BadShape : PySem.W.typeIn K (.ref f_BadShape) = some (.type "function"))
    (l_BadShape : K.lookup f_BadShape = some ⟨oc_BadShape, od_BadShape, .func (PySem.W.ksFn "__init__" "BadShape.__init__" (defArgs s_BadShape_init) (defBody s_BadShape_init) (defScope s_BadShape_init) .none kV_BadShape dc_BadShape pm_BadShape an_BadShape (.ref cda_BadShape) ct_BadShape cc_BadShape), sl_BadShape⟩)
    (c_BadShape : PySem.W.codeIn K (.ref cda_BadShape) "BadShape.__init__" = true)
    (ce_BadShape : K.lookup cc_BadShape = some ⟨cl_BadShape, cld_BadShape, .cell (some (.ref C_BadShape)), csl_BadShape⟩)
    (co_BadShape : K.lookup cda_BadShape = some ⟨ccl_BadShape, cdd_BadShape, .fields vs_BadShape, ccs_BadShape⟩)
    (v2_BadShape : vs_BadShape[2]? = some (.str file_BadShape tf_BadShape))
    (fi_BadShape : ((P.main.file : Str) == file_BadShape) = true)
    (su_BadShape : PySem.W.mroIn K C_BadShape (.ref C_BadShape) = some true)
    (mo_BadShape : PySem.W.mroIn K C_BadShape (.type "object") = some true)
    (ks_BadShape : PySem.W.ks_superIn K C_BadShape C_BadShape "__init__" = some (some (.builtin "ValueError.__init__")))
    (ga_BadShape : PySem.W.findIn K (.ref C_BadShape) "__getattribute__" = some (some (.builtin "BaseException.__getattribute__")))
    (gg_BadShape : PySem.W.findIn K (.ref C_BadShape) "__getattr__" = some none)
    (hd_BadShape : PySem.W.hasDictIn K C_BadShape = true)
    (xn_BadShape : PySem.W.findIn K (.ref C_BadShape) "place" = some none)
    (hc_BadShape : PySem.W.findIn K (.ref C_BadShape) "__class__" = some (some (.builtin "object.__class__")))
    (a_BadPosition : PySem.W.nsIn K mainGlobals "BadPosition" = some (some (.ref C_BadPosition)))
    (x_BadPosition : K.lookup C_BadPosition = some (excClassObj nm_BadPosition q_BadPosition C_BadPosition N_BadPosition bs_BadPosition [.ref C_FindsError, .type "ValueError", .type "Exception", .type "BaseException", .type "object"] true sn_BadPosition sub_BadPosition ab_BadPosition col_BadPosition dd_BadPosition m0_BadPosition m1_BadPosition m2_BadPosition m3_BadPosition m5_BadPosition "ValueError.__new__"))
    (sa_BadPosition : PySem.W.findIn K (.ref C_BadPosition) "__setattr__" = some (some (.builtin "object.__setattr__")))
    (eC_BadPosition : PySem.W.subIn K (.ref C_BadPosition) (.type "BaseException") = some true)
    (sV_BadPosition : PySem.W.subIn K (.ref C_BadPosition) (.type "ValueError") = some true)
    (tC_BadPosition : PySem.W.typeIn K (.ref C_BadPosition) = some (.type "type"))
    (kC_BadPosition : PySem.W.keepIn K (.ref C_BadPosition) = true)
    (i_BadPosition : PySem.W.findIn K (.ref C_BadPosition) "__init__" = some (some (.ref f_BadPosition)))
    (tI_BadPosition : PySem.W.typeIn K (.ref f_BadPosition) = some (.type "function"))
    (l_BadPosition : K.lookup f_BadPosition = some ⟨oc_BadPosition, od_BadPosition, .func (PySem.W.ksFn "__init__" "BadPosition.__init__" (defArgs s_BadPosition_init) (defBody s_BadPosition_init) (defScope s_BadPosition_init) .none kV_BadPosition dc_BadPosition pm_BadPosition an_BadPosition (.ref cda_BadPosition) ct_BadPosition cc_BadPosition), sl_BadPosition⟩)
    (c_BadPosition : PySem.W.codeIn K (.ref cda_BadPosition) "BadPosition.__init__" = true)
    (ce_BadPosition : K.lookup cc_BadPosition = some ⟨cl_BadPosition, cld_BadPosition, .cell (some (.ref C_BadPosition)), csl_BadPosition⟩)
    (co_BadPosition : K.lookup cda_BadPosition = some ⟨ccl_BadPosition, cdd_BadPosition, .fields vs_BadPosition, ccs_BadPosition⟩)
    (v2_BadPosition : vs_BadPosition[2]? = some (.str file_BadPosition tf_BadPosition))
    (fi_BadPosition : ((P.main.file : Str) == file_BadPosition) = true)
    (su_BadPosition : PySem.W.mroIn K C_BadPosition (.ref C_BadPosition) = some true)
    (mo_BadPosition : PySem.W.mroIn K C_BadPosition (.type "object") = some true)
    (ks_BadPosition : PySem.W.ks_superIn K C_BadPosition C_BadPosition "__init__" = some (some (.builtin "ValueError.__init__")))
    (ga_BadPosition : PySem.W.findIn K (.ref C_BadPosition) "__getattribute__" = some (some (.builtin "BaseException.__getattribute__")))
    (gg_BadPosition : PySem.W.findIn K (.ref C_BadPosition) "__getattr__" = some none)
    (hd_BadPosition : PySem.W.hasDictIn K C_BadPosition = true)
    (xn_BadPosition : PySem.W.findIn K (.ref C_BadPosition) "position" = some none)
    (hc_BadPosition : PySem.W.findIn K (.ref C_BadPosition) "__class__" = some (some (.builtin "object.__class__")))
    (a_BadSide : PySem.W.nsIn K mainGlobals "BadSide" = some (some (.ref C_BadSide)))
    (x_BadSide : K.lookup C_BadSide = some (excClassObj nm_BadSide q_BadSide C_BadSide N_BadSide bs_BadSide [.ref C_FindsError, .type "ValueError", .type "Exception", .type "BaseException", .type "object"] true sn_BadSide sub_BadSide ab_BadSide col_BadSide dd_BadSide m0_BadSide m1_BadSide m2_BadSide m3_BadSide m5_BadSide "ValueError.__new__"))
    (sa_BadSide : PySem.W.findIn K (.ref C_BadSide) "__setattr__" = some (some (.builtin "object.__setattr__")))
    (eC_BadSide : PySem.W.subIn K (.ref C_BadSide) (.type "BaseException") = some true)
    (sV_BadSide : PySem.W.subIn K (.ref C_BadSide) (.type "ValueError") = some true)
    (tC_BadSide : PySem.W.typeIn K (.ref C_BadSide) = some (.type "type"))
    (kC_BadSide : PySem.W.keepIn K (.ref C_BadSide) = true)
    (i_BadSide : PySem.W.findIn K (.ref C_BadSide) "__init__" = some (some (.ref f_BadSide)))
    (tI_BadSide : PySem.W.typeIn K (.ref f_BadSide) = some (.type "function"))
    (l_BadSide : K.lookup f_BadSide = some ⟨oc_BadSide, od_BadSide, .func (PySem.W.ksFn "__init__" "BadSide.__init__" (defArgs s_BadSide_init) (defBody s_BadSide_init) (defScope s_BadSide_init) .none kV_BadSide dc_BadSide pm_BadSide an_BadSide (.ref cda_BadSide) ct_BadSide cc_BadSide), sl_BadSide⟩)
    (c_BadSide : PySem.W.codeIn K (.ref cda_BadSide) "BadSide.__init__" = true)
    (ce_BadSide : K.lookup cc_BadSide = some ⟨cl_BadSide, cld_BadSide, .cell (some (.ref C_BadSide)), csl_BadSide⟩)
    (co_BadSide : K.lookup cda_BadSide = some ⟨ccl_BadSide, cdd_BadSide, .fields vs_BadSide, ccs_BadSide⟩)
    (v2_BadSide : vs_BadSide[2]? = some (.str file_BadSide tf_BadSide))
    (fi_BadSide : ((P.main.file : Str) == file_BadSide) = true)
    (su_BadSide : PySem.W.mroIn K C_BadSide (.ref C_BadSide) = some true)
    (mo_BadSide : PySem.W.mroIn K C_BadSide (.type "object") = some true)
    (ks_BadSide : PySem.W.ks_superIn K C_BadSide C_BadSide "__init__" = some (some (.builtin "ValueError.__init__")))
    (ga_BadSide : PySem.W.findIn K (.ref C_BadSide) "__getattribute__" = some (some (.builtin "BaseException.__getattribute__")))
    (gg_BadSide : PySem.W.findIn K (.ref C_BadSide) "__getattr__" = some none)
    (hd_BadSide : PySem.W.hasDictIn K C_BadSide = true)
    (xn_BadSide : PySem.W.findIn K (.ref C_BadSide) "side" = some none)
    (hc_BadSide : PySem.W.findIn K (.ref C_BadSide) "__class__" = some (some (.builtin "object.__class__")))
    (k_BadPosition_BadShape : PySem.W.kitOne K (.ref C_BadPosition) (.ref C_BadShape) = some false)
    (k_BadPosition_BadSide : PySem.W.kitOne K (.ref C_BadPosition) (.ref C_BadSide) = some false)
    (k_BadPosition_FindsError : PySem.W.kitOne K (.ref C_BadPosition) (.ref C_FindsError) = some true)
    (k_BadPosition_ValueError : PySem.W.kitOne K (.ref C_BadPosition) (.type "ValueError") = some true)
    (k_BadShape_BadShape : PySem.W.kitOne K (.ref C_BadShape) (.ref C_BadShape) = some true)
    (k_BadShape_BadSide : PySem.W.kitOne K (.ref C_BadShape) (.ref C_BadSide) = some false)
    (k_BadShape_FindsError : PySem.W.kitOne K (.ref C_BadShape) (.ref C_FindsError) = some true)
    (k_BadShape_ValueError : PySem.W.kitOne K (.ref C_BadShape) (.type "ValueError") = some true)
    (k_BadSide_BadPosition : PySem.W.kitOne K (.ref C_BadSide) (.ref C_BadPosition) = some false)
    (k_BadSide_BadShape : PySem.W.kitOne K (.ref C_BadSide) (.ref C_BadShape) = some false)
    (k_BadSide_FindsError : PySem.W.kitOne K (.ref C_BadSide) (.ref C_FindsError) = some true)
    (k_BadSide_ValueError : PySem.W.kitOne K (.ref C_BadSide) (.type "ValueError") = some true)
    (cbe_FindsError : PySem.W.subIn K (.ref C_FindsError) (.type "BaseException") = some true)
    (cbd_FindsError : PySem.W.hasDictIn K C_FindsError = true)
    (cbt_FindsError : PySem.W.typeIn K (.ref C_FindsError) = some (.type "type"))
    (sb_BadShape_FindsError : PySem.W.subIn K (.ref C_BadShape) (.ref C_FindsError) = some true)
    (sb_BadPosition_FindsError : PySem.W.subIn K (.ref C_BadPosition) (.ref C_FindsError) = some true)
    (sb_BadSide_FindsError : PySem.W.subIn K (.ref C_BadSide) (.ref C_FindsError) = some true)
    (a_Shape : PySem.W.nsIn K mainGlobals "Shape" = some (some (.ref C_Shape)))
    (a_side_masks : PySem.W.nsIn K mainGlobals "_side_masks" = some (some (.ref f_side_masks)))
    (l_side_masks : K.lookup f_side_masks = some ⟨oc_side_masks, od_side_masks, .func (PySem.W.fnOf "_side_masks" "_side_masks" (defArgs s_side_masks) (defBody s_side_masks) (defScope s_side_masks) .none kV_side_masks dc_side_masks pm_side_masks an_side_masks cd_side_masks ct_side_masks), sl_side_masks⟩)
    (c_side_masks : PySem.W.codeIn K cd_side_masks "_side_masks" = true)
    (k_side_masks : PySem.W.keepIn K (.ref f_side_masks) = true)
    (a_Shape_init : PySem.W.findIn K (.ref C_Shape) "__init__" = some (some (.ref f_Shape_init)))
    (i_Shape_init : PySem.W.isFn K (.ref f_Shape_init) = true)
    (l_Shape_init : K.lookup f_Shape_init = some ⟨oc_Shape_init, od_Shape_init, .func (PySem.W.fnOf "__init__" "Shape.__init__" (defArgs s_Shape_init) (defBody s_Shape_init) (defScope s_Shape_init) .none kV_Shape_init dc_Shape_init pm_Shape_init an_Shape_init cd_Shape_init ct_Shape_init), sl_Shape_init⟩)
    (c_Shape_init : PySem.W.codeIn K cd_Shape_init "Shape.__init__" = true)
    (k_Shape_init : PySem.W.keepIn K (.ref f_Shape_init) = true)
    (a_Shape_positions_of : PySem.W.findIn K (.ref C_Shape) "positions_of" = some (some (.ref f_Shape_positions_of)))
    (i_Shape_positions_of : PySem.W.isFn K (.ref f_Shape_positions_of) = true)
    (l_Shape_positions_of : K.lookup f_Shape_positions_of = some ⟨oc_Shape_positions_of, od_Shape_positions_of, .func (PySem.W.fnOf "positions_of" "Shape.positions_of" (defArgs s_Shape_positions_of) (defBody s_Shape_positions_of) (defScope s_Shape_positions_of) .none kV_Shape_positions_of dc_Shape_positions_of pm_Shape_positions_of an_Shape_positions_of cd_Shape_positions_of ct_Shape_positions_of), sl_Shape_positions_of⟩)
    (c_Shape_positions_of : PySem.W.codeIn K cd_Shape_positions_of "Shape.positions_of" = true)
    (k_Shape_positions_of : PySem.W.keepIn K (.ref f_Shape_positions_of) = true)
    (a_Shape_has : PySem.W.findIn K (.ref C_Shape) "has" = some (some (.ref f_Shape_has)))
    (i_Shape_has : PySem.W.isFn K (.ref f_Shape_has) = true)
    (l_Shape_has : K.lookup f_Shape_has = some ⟨oc_Shape_has, od_Shape_has, .func (PySem.W.fnOf "has" "Shape.has" (defArgs s_Shape_has) (defBody s_Shape_has) (defScope s_Shape_has) .none kV_Shape_has dc_Shape_has pm_Shape_has an_Shape_has cd_Shape_has ct_Shape_has), sl_Shape_has⟩)
    (c_Shape_has : PySem.W.codeIn K cd_Shape_has "Shape.has" = true)
    (k_Shape_has : PySem.W.keepIn K (.ref f_Shape_has) = true)
    (a_Shape_sides_at : PySem.W.findIn K (.ref C_Shape) "sides_at" = some (some (.ref f_Shape_sides_at)))
    (i_Shape_sides_at : PySem.W.isFn K (.ref f_Shape_sides_at) = true)
    (l_Shape_sides_at : K.lookup f_Shape_sides_at = some ⟨oc_Shape_sides_at, od_Shape_sides_at, .func (PySem.W.fnOf "sides_at" "Shape.sides_at" (defArgs s_Shape_sides_at) (defBody s_Shape_sides_at) (defScope s_Shape_sides_at) .none kV_Shape_sides_at dc_Shape_sides_at pm_Shape_sides_at an_Shape_sides_at cd_Shape_sides_at ct_Shape_sides_at), sl_Shape_sides_at⟩)
    (c_Shape_sides_at : PySem.W.codeIn K cd_Shape_sides_at "Shape.sides_at" = true)
    (k_Shape_sides_at : PySem.W.keepIn K (.ref f_Shape_sides_at) = true)
    (a_Shape_is_line : PySem.W.findIn K (.ref C_Shape) "is_line" = some (some (.ref f_Shape_is_line)))
    (i_Shape_is_line : PySem.W.isFn K (.ref f_Shape_is_line) = true)
    (l_Shape_is_line : K.lookup f_Shape_is_line = some ⟨oc_Shape_is_line, od_Shape_is_line, .func (PySem.W.fnOf "is_line" "Shape.is_line" (defArgs s_Shape_is_line) (defBody s_Shape_is_line) (defScope s_Shape_is_line) .none kV_Shape_is_line dc_Shape_is_line pm_Shape_is_line an_Shape_is_line cd_Shape_is_line ct_Shape_is_line), sl_Shape_is_line⟩)
    (c_Shape_is_line : PySem.W.codeIn K cd_Shape_is_line "Shape.is_line" = true)
    (k_Shape_is_line : PySem.W.keepIn K (.ref f_Shape_is_line) = true)
    (a_line : PySem.W.nsIn K mainGlobals "line" = some (some (.ref f_line)))
    (l_line : K.lookup f_line = some ⟨oc_line, od_line, .func (PySem.W.fnOf "line" "line" (defArgs s_line) (defBody s_line) (defScope s_line) .none kV_line dc_line pm_line an_line cd_line ct_line), sl_line⟩)
    (c_line : PySem.W.codeIn K cd_line "line" = true)
    (k_line : PySem.W.keepIn K (.ref f_line) = true)
    (a_star : PySem.W.nsIn K mainGlobals "star" = some (some (.ref f_star)))
    (l_star : K.lookup f_star = some ⟨oc_star, od_star, .func (PySem.W.fnOf "star" "star" (defArgs s_star) (defBody s_star) (defScope s_star) .none kV_star dc_star pm_star an_star cd_star ct_star), sl_star⟩)
    (c_star : PySem.W.codeIn K cd_star "star" = true)
    (k_star : PySem.W.keepIn K (.ref f_star) = true)
    (a_equal_shapes : PySem.W.nsIn K mainGlobals "equal_shapes" = some (some (.ref f_equal_shapes)))
    (l_equal_shapes : K.lookup f_equal_shapes = some ⟨oc_equal_shapes, od_equal_shapes, .func (PySem.W.fnOf "equal_shapes" "equal_shapes" (defArgs s_equal_shapes) (defBody s_equal_shapes) (defScope s_equal_shapes) .none kV_equal_shapes dc_equal_shapes pm_equal_shapes an_equal_shapes cd_equal_shapes ct_equal_shapes), sl_equal_shapes⟩)
    (c_equal_shapes : PySem.W.codeIn K cd_equal_shapes "equal_shapes" = true)
    (k_equal_shapes : PySem.W.keepIn K (.ref f_equal_shapes) = true)
    (a_check_position : PySem.W.nsIn K mainGlobals "check_position" = some (some (.ref f_check_position)))
    (l_check_position : K.lookup f_check_position = some ⟨oc_check_position, od_check_position, .func (PySem.W.fnOf "check_position" "check_position" (defArgs s_check_position) (defBody s_check_position) (defScope s_check_position) .none kV_check_position dc_check_position pm_check_position an_check_position cd_check_position ct_check_position), sl_check_position⟩)
    (c_check_position : PySem.W.codeIn K cd_check_position "check_position" = true)
    (k_check_position : PySem.W.keepIn K (.ref f_check_position) = true)
    (a_check_side : PySem.W.nsIn K mainGlobals "check_side" = some (some (.ref f_check_side)))
    (l_check_side : K.lookup f_check_side = some ⟨oc_check_side, od_check_side, .func (PySem.W.fnOf "check_side" "check_side" (defArgs s_check_side) (defBody s_check_side) (defScope s_check_side) .none kV_check_side dc_check_side pm_check_side an_check_side cd_check_side ct_check_side), sl_check_side⟩)
    (c_check_side : PySem.W.codeIn K cd_check_side "check_side" = true)
    (k_check_side : PySem.W.keepIn K (.ref f_check_side) = true)
    (a_is_number_of_side : PySem.W.nsIn K mainGlobals "is_number_of_side" = some (some (.ref f_is_number_of_side)))
    (l_is_number_of_side : K.lookup f_is_number_of_side = some ⟨oc_is_number_of_side, od_is_number_of_side, .func (PySem.W.fnOf "is_number_of_side" "is_number_of_side" (defArgs s_is_number_of_side) (defBody s_is_number_of_side) (defScope s_is_number_of_side) .none kV_is_number_of_side dc_is_number_of_side pm_is_number_of_side an_is_number_of_side cd_is_number_of_side ct_is_number_of_side), sl_is_number_of_side⟩)
    (c_is_number_of_side : PySem.W.codeIn K cd_is_number_of_side "is_number_of_side" = true)
    (k_is_number_of_side : PySem.W.keepIn K (.ref f_is_number_of_side) = true)
    (a_l_tape : PySem.W.nsIn K mainGlobals "_law_tape" = some (some (.ref f_l_tape)))
    (l_l_tape : K.lookup f_l_tape = some ⟨oc_l_tape, od_l_tape, .func (PySem.W.fnOf "_law_tape" "_law_tape" (defArgs s_l_tape) (defBody s_l_tape) (defScope s_l_tape) .none kV_l_tape dc_l_tape pm_l_tape an_l_tape cd_l_tape ct_l_tape), sl_l_tape⟩)
    (c_l_tape : PySem.W.codeIn K cd_l_tape "_law_tape" = true)
    (k_l_tape : PySem.W.keepIn K (.ref f_l_tape) = true)
    (a_l_next : PySem.W.nsIn K mainGlobals "_law_next" = some (some (.ref f_l_next)))
    (l_l_next : K.lookup f_l_next = some ⟨oc_l_next, od_l_next, .func (PySem.W.fnOf "_law_next" "_law_next" (defArgs s_l_next) (defBody s_l_next) (defScope s_l_next) .none kV_l_next dc_l_next pm_l_next an_l_next cd_l_next ct_l_next), sl_l_next⟩)
    (c_l_next : PySem.W.codeIn K cd_l_next "_law_next" = true)
    (k_l_next : PySem.W.keepIn K (.ref f_l_next) = true)
    (a_l_parents : PySem.W.nsIn K mainGlobals "_law_parents" = some (some (.ref f_l_parents)))
    (l_l_parents : K.lookup f_l_parents = some ⟨oc_l_parents, od_l_parents, .func (PySem.W.fnOf "_law_parents" "_law_parents" (defArgs s_l_parents) (defBody s_l_parents) (defScope s_l_parents) .none kV_l_parents dc_l_parents pm_l_parents an_l_parents cd_l_parents ct_l_parents), sl_l_parents⟩)
    (c_l_parents : PySem.W.codeIn K cd_l_parents "_law_parents" = true)
    (k_l_parents : PySem.W.keepIn K (.ref f_l_parents) = true)
    (a_l_above : PySem.W.nsIn K mainGlobals "_law_above" = some (some (.ref f_l_above)))
    (l_l_above : K.lookup f_l_above = some ⟨oc_l_above, od_l_above, .func (PySem.W.fnOf "_law_above" "_law_above" (defArgs s_l_above) (defBody s_l_above) (defScope s_l_above) .none kV_l_above dc_l_above pm_l_above an_l_above cd_l_above ct_l_above), sl_l_above⟩)
    (c_l_above : PySem.W.codeIn K cd_l_above "_law_above" = true)
    (k_l_above : PySem.W.keepIn K (.ref f_l_above) = true)
    (a_l_is_number : PySem.W.nsIn K mainGlobals "_law_is_number" = some (some (.ref f_l_is_number)))
    (l_l_is_number : K.lookup f_l_is_number = some ⟨oc_l_is_number, od_l_is_number, .func (PySem.W.fnOf "_law_is_number" "_law_is_number" (defArgs s_l_is_number) (defBody s_l_is_number) (defScope s_l_is_number) .none kV_l_is_number dc_l_is_number pm_l_is_number an_l_is_number cd_l_is_number ct_l_is_number), sl_l_is_number⟩)
    (c_l_is_number : PySem.W.codeIn K cd_l_is_number "_law_is_number" = true)
    (k_l_is_number : PySem.W.keepIn K (.ref f_l_is_number) = true)
    (a_l_ints : PySem.W.nsIn K mainGlobals "_law_ints" = some (some (.ref f_l_ints)))
    (l_l_ints : K.lookup f_l_ints = some ⟨oc_l_ints, od_l_ints, .func (PySem.W.fnOf "_law_ints" "_law_ints" (defArgs s_l_ints) (defBody s_l_ints) (defScope s_l_ints) .none kV_l_ints dc_l_ints pm_l_ints an_l_ints cd_l_ints ct_l_ints), sl_l_ints⟩)
    (c_l_ints : PySem.W.codeIn K cd_l_ints "_law_ints" = true)
    (k_l_ints : PySem.W.keepIn K (.ref f_l_ints) = true)
    (a_l_yes_or_no : PySem.W.nsIn K mainGlobals "_law_yes_or_no" = some (some (.ref f_l_yes_or_no)))
    (l_l_yes_or_no : K.lookup f_l_yes_or_no = some ⟨oc_l_yes_or_no, od_l_yes_or_no, .func (PySem.W.fnOf "_law_yes_or_no" "_law_yes_or_no" (defArgs s_l_yes_or_no) (defBody s_l_yes_or_no) (defScope s_l_yes_or_no) .none kV_l_yes_or_no dc_l_yes_or_no pm_l_yes_or_no an_l_yes_or_no cd_l_yes_or_no ct_l_yes_or_no), sl_l_yes_or_no⟩)
    (c_l_yes_or_no : PySem.W.codeIn K cd_l_yes_or_no "_law_yes_or_no" = true)
    (k_l_yes_or_no : PySem.W.keepIn K (.ref f_l_yes_or_no) = true)
    (a_l_far : PySem.W.nsIn K mainGlobals "_law_far" = some (some (.ref f_l_far)))
    (l_l_far : K.lookup f_l_far = some ⟨oc_l_far, od_l_far, .func (PySem.W.fnOf "_law_far" "_law_far" (defArgs s_l_far) (defBody s_l_far) (defScope s_l_far) .none kV_l_far dc_l_far pm_l_far an_l_far cd_l_far ct_l_far), sl_l_far⟩)
    (c_l_far : PySem.W.codeIn K cd_l_far "_law_far" = true)
    (k_l_far : PySem.W.keepIn K (.ref f_l_far) = true)
    (a_l_near_parents : PySem.W.nsIn K mainGlobals "_law_near_parents" = some (some (.ref f_l_near_parents)))
    (l_l_near_parents : K.lookup f_l_near_parents = some ⟨oc_l_near_parents, od_l_near_parents, .func (PySem.W.fnOf "_law_near_parents" "_law_near_parents" (defArgs s_l_near_parents) (defBody s_l_near_parents) (defScope s_l_near_parents) .none kV_l_near_parents dc_l_near_parents pm_l_near_parents an_l_near_parents cd_l_near_parents ct_l_near_parents), sl_l_near_parents⟩)
    (c_l_near_parents : PySem.W.codeIn K cd_l_near_parents "_law_near_parents" = true)
    (k_l_near_parents : PySem.W.keepIn K (.ref f_l_near_parents) = true)
    (a_l_spoilt : PySem.W.nsIn K mainGlobals "_law_spoilt" = some (some (.ref f_l_spoilt)))
    (l_l_spoilt : K.lookup f_l_spoilt = some ⟨oc_l_spoilt, od_l_spoilt, .func (PySem.W.fnOf "_law_spoilt" "_law_spoilt" (defArgs s_l_spoilt) (defBody s_l_spoilt) (defScope s_l_spoilt) .none kV_l_spoilt dc_l_spoilt pm_l_spoilt an_l_spoilt cd_l_spoilt ct_l_spoilt), sl_l_spoilt⟩)
    (c_l_spoilt : PySem.W.codeIn K cd_l_spoilt "_law_spoilt" = true)
    (k_l_spoilt : PySem.W.keepIn K (.ref f_l_spoilt) = true)
    (a_l_first_wrong : PySem.W.nsIn K mainGlobals "_law_first_wrong" = some (some (.ref f_l_first_wrong)))
    (l_l_first_wrong : K.lookup f_l_first_wrong = some ⟨oc_l_first_wrong, od_l_first_wrong, .func (PySem.W.fnOf "_law_first_wrong" "_law_first_wrong" (defArgs s_l_first_wrong) (defBody s_l_first_wrong) (defScope s_l_first_wrong) .none kV_l_first_wrong dc_l_first_wrong pm_l_first_wrong an_l_first_wrong cd_l_first_wrong ct_l_first_wrong), sl_l_first_wrong⟩)
    (c_l_first_wrong : PySem.W.codeIn K cd_l_first_wrong "_law_first_wrong" = true)
    (k_l_first_wrong : PySem.W.keepIn K (.ref f_l_first_wrong) = true)
    (a_l_creation_refused : PySem.W.nsIn K mainGlobals "_law_creation_refused" = some (some (.ref f_l_creation_refused)))
    (l_l_creation_refused : K.lookup f_l_creation_refused = some ⟨oc_l_creation_refused, od_l_creation_refused, .func (PySem.W.fnOf "_law_creation_refused" "_law_creation_refused" (defArgs s_l_creation_refused) (defBody s_l_creation_refused) (defScope s_l_creation_refused) .none kV_l_creation_refused dc_l_creation_refused pm_l_creation_refused an_l_creation_refused cd_l_creation_refused ct_l_creation_refused), sl_l_creation_refused⟩)
    (c_l_creation_refused : PySem.W.codeIn K cd_l_creation_refused "_law_creation_refused" = true)
    (k_l_creation_refused : PySem.W.keepIn K (.ref f_l_creation_refused) = true)
    (a_l_caught_by_base : PySem.W.nsIn K mainGlobals "_law_caught_by_base" = some (some (.ref f_l_caught_by_base)))
    (l_l_caught_by_base : K.lookup f_l_caught_by_base = some ⟨oc_l_caught_by_base, od_l_caught_by_base, .func (PySem.W.fnOf "_law_caught_by_base" "_law_caught_by_base" (defArgs s_l_caught_by_base) (defBody s_l_caught_by_base) (defScope s_l_caught_by_base) .none kV_l_caught_by_base dc_l_caught_by_base pm_l_caught_by_base an_l_caught_by_base cd_l_caught_by_base ct_l_caught_by_base), sl_l_caught_by_base⟩)
    (c_l_caught_by_base : PySem.W.codeIn K cd_l_caught_by_base "_law_caught_by_base" = true)
    (k_l_caught_by_base : PySem.W.keepIn K (.ref f_l_caught_by_base) = true)
    (a_l_line_refused : PySem.W.nsIn K mainGlobals "_law_line_refused" = some (some (.ref f_l_line_refused)))
    (l_l_line_refused : K.lookup f_l_line_refused = some ⟨oc_l_line_refused, od_l_line_refused, .func (PySem.W.fnOf "_law_line_refused" "_law_line_refused" (defArgs s_l_line_refused) (defBody s_l_line_refused) (defScope s_l_line_refused) .none kV_l_line_refused dc_l_line_refused pm_l_line_refused an_l_line_refused cd_l_line_refused ct_l_line_refused), sl_l_line_refused⟩)
    (c_l_line_refused : PySem.W.codeIn K cd_l_line_refused "_law_line_refused" = true)
    (k_l_line_refused : PySem.W.keepIn K (.ref f_l_line_refused) = true)
    (a_l_star_refused : PySem.W.nsIn K mainGlobals "_law_star_refused" = some (some (.ref f_l_star_refused)))
    (l_l_star_refused : K.lookup f_l_star_refused = some ⟨oc_l_star_refused, od_l_star_refused, .func (PySem.W.fnOf "_law_star_refused" "_law_star_refused" (defArgs s_l_star_refused) (defBody s_l_star_refused) (defScope s_l_star_refused) .none kV_l_star_refused dc_l_star_refused pm_l_star_refused an_l_star_refused cd_l_star_refused ct_l_star_refused), sl_l_star_refused⟩)
    (c_l_star_refused : PySem.W.codeIn K cd_l_star_refused "_law_star_refused" = true)
    (k_l_star_refused : PySem.W.keepIn K (.ref f_l_star_refused) = true)
    (a_l_positions_of_refused : PySem.W.nsIn K mainGlobals "_law_positions_of_refused" = some (some (.ref f_l_positions_of_refused)))
    (l_l_positions_of_refused : K.lookup f_l_positions_of_refused = some ⟨oc_l_positions_of_refused, od_l_positions_of_refused, .func (PySem.W.fnOf "_law_positions_of_refused" "_law_positions_of_refused" (defArgs s_l_positions_of_refused) (defBody s_l_positions_of_refused) (defScope s_l_positions_of_refused) .none kV_l_positions_of_refused dc_l_positions_of_refused pm_l_positions_of_refused an_l_positions_of_refused cd_l_positions_of_refused ct_l_positions_of_refused), sl_l_positions_of_refused⟩)
    (c_l_positions_of_refused : PySem.W.codeIn K cd_l_positions_of_refused "_law_positions_of_refused" = true)
    (k_l_positions_of_refused : PySem.W.keepIn K (.ref f_l_positions_of_refused) = true)
    (a_l_side_refused : PySem.W.nsIn K mainGlobals "_law_side_refused" = some (some (.ref f_l_side_refused)))
    (l_l_side_refused : K.lookup f_l_side_refused = some ⟨oc_l_side_refused, od_l_side_refused, .func (PySem.W.fnOf "_law_side_refused" "_law_side_refused" (defArgs s_l_side_refused) (defBody s_l_side_refused) (defScope s_l_side_refused) .none kV_l_side_refused dc_l_side_refused pm_l_side_refused an_l_side_refused cd_l_side_refused ct_l_side_refused), sl_l_side_refused⟩)
    (c_l_side_refused : PySem.W.codeIn K cd_l_side_refused "_law_side_refused" = true)
    (k_l_side_refused : PySem.W.keepIn K (.ref f_l_side_refused) = true)
    (a_l_position_refused : PySem.W.nsIn K mainGlobals "_law_position_refused" = some (some (.ref f_l_position_refused)))
    (l_l_position_refused : K.lookup f_l_position_refused = some ⟨oc_l_position_refused, od_l_position_refused, .func (PySem.W.fnOf "_law_position_refused" "_law_position_refused" (defArgs s_l_position_refused) (defBody s_l_position_refused) (defScope s_l_position_refused) .none kV_l_position_refused dc_l_position_refused pm_l_position_refused an_l_position_refused cd_l_position_refused ct_l_position_refused), sl_l_position_refused⟩)
    (c_l_position_refused : PySem.W.codeIn K cd_l_position_refused "_law_position_refused" = true)
    (k_l_position_refused : PySem.W.keepIn K (.ref f_l_position_refused) = true)
    (a_l_sides_at_refused : PySem.W.nsIn K mainGlobals "_law_sides_at_refused" = some (some (.ref f_l_sides_at_refused)))
    (l_l_sides_at_refused : K.lookup f_l_sides_at_refused = some ⟨oc_l_sides_at_refused, od_l_sides_at_refused, .func (PySem.W.fnOf "_law_sides_at_refused" "_law_sides_at_refused" (defArgs s_l_sides_at_refused) (defBody s_l_sides_at_refused) (defScope s_l_sides_at_refused) .none kV_l_sides_at_refused dc_l_sides_at_refused pm_l_sides_at_refused an_l_sides_at_refused cd_l_sides_at_refused ct_l_sides_at_refused), sl_l_sides_at_refused⟩)
    (c_l_sides_at_refused : PySem.W.codeIn K cd_l_sides_at_refused "_law_sides_at_refused" = true)
    (k_l_sides_at_refused : PySem.W.keepIn K (.ref f_l_sides_at_refused) = true)
    (a_l_refusals_told : PySem.W.nsIn K mainGlobals "_law_refusals_told" = some (some (.ref f_l_refusals_told)))
    (l_l_refusals_told : K.lookup f_l_refusals_told = some ⟨oc_l_refusals_told, od_l_refusals_told, .func (PySem.W.fnOf "_law_refusals_told" "_law_refusals_told" (defArgs s_l_refusals_told) (defBody s_l_refusals_told) (defScope s_l_refusals_told) .none kV_l_refusals_told dc_l_refusals_told pm_l_refusals_told an_l_refusals_told cd_l_refusals_told ct_l_refusals_told), sl_l_refusals_told⟩)
    (c_l_refusals_told : PySem.W.codeIn K cd_l_refusals_told "_law_refusals_told" = true)
    (k_l_refusals_told : PySem.W.keepIn K (.ref f_l_refusals_told) = true)
    (a_l_sides_had : PySem.W.nsIn K mainGlobals "_law_sides_had" = some (some (.ref f_l_sides_had)))
    (l_l_sides_had : K.lookup f_l_sides_had = some ⟨oc_l_sides_had, od_l_sides_had, .func (PySem.W.fnOf "_law_sides_had" "_law_sides_had" (defArgs s_l_sides_had) (defBody s_l_sides_had) (defScope s_l_sides_had) .none kV_l_sides_had dc_l_sides_had pm_l_sides_had an_l_sides_had cd_l_sides_had ct_l_sides_had), sl_l_sides_had⟩)
    (c_l_sides_had : PySem.W.codeIn K cd_l_sides_had "_law_sides_had" = true)
    (k_l_sides_had : PySem.W.keepIn K (.ref f_l_sides_had) = true)
    (a_l_shape_told : PySem.W.nsIn K mainGlobals "_law_shape_told" = some (some (.ref f_l_shape_told)))
    (l_l_shape_told : K.lookup f_l_shape_told = some ⟨oc_l_shape_told, od_l_shape_told, .func (PySem.W.fnOf "_law_shape_told" "_law_shape_told" (defArgs s_l_shape_told) (defBody s_l_shape_told) (defScope s_l_shape_told) .none kV_l_shape_told dc_l_shape_told pm_l_shape_told an_l_shape_told cd_l_shape_told ct_l_shape_told), sl_l_shape_told⟩)
    (c_l_shape_told : PySem.W.codeIn K cd_l_shape_told "_law_shape_told" = true)
    (k_l_shape_told : PySem.W.keepIn K (.ref f_l_shape_told) = true)
    (a_l_positions_told : PySem.W.nsIn K mainGlobals "_law_positions_told" = some (some (.ref f_l_positions_told)))
    (l_l_positions_told : K.lookup f_l_positions_told = some ⟨oc_l_positions_told, od_l_positions_told, .func (PySem.W.fnOf "_law_positions_told" "_law_positions_told" (defArgs s_l_positions_told) (defBody s_l_positions_told) (defScope s_l_positions_told) .none kV_l_positions_told dc_l_positions_told pm_l_positions_told an_l_positions_told cd_l_positions_told ct_l_positions_told), sl_l_positions_told⟩)
    (c_l_positions_told : PySem.W.codeIn K cd_l_positions_told "_law_positions_told" = true)
    (k_l_positions_told : PySem.W.keepIn K (.ref f_l_positions_told) = true)
    (a_l_all_told : PySem.W.nsIn K mainGlobals "_law_all_told" = some (some (.ref f_l_all_told)))
    (l_l_all_told : K.lookup f_l_all_told = some ⟨oc_l_all_told, od_l_all_told, .func (PySem.W.fnOf "_law_all_told" "_law_all_told" (defArgs s_l_all_told) (defBody s_l_all_told) (defScope s_l_all_told) .none kV_l_all_told dc_l_all_told pm_l_all_told an_l_all_told cd_l_all_told ct_l_all_told), sl_l_all_told⟩)
    (c_l_all_told : PySem.W.codeIn K cd_l_all_told "_law_all_told" = true)
    (k_l_all_told : PySem.W.keepIn K (.ref f_l_all_told) = true)
    (a_l_equal_told : PySem.W.nsIn K mainGlobals "_law_equal_told" = some (some (.ref f_l_equal_told)))
    (l_l_equal_told : K.lookup f_l_equal_told = some ⟨oc_l_equal_told, od_l_equal_told, .func (PySem.W.fnOf "_law_equal_told" "_law_equal_told" (defArgs s_l_equal_told) (defBody s_l_equal_told) (defScope s_l_equal_told) .none kV_l_equal_told dc_l_equal_told pm_l_equal_told an_l_equal_told cd_l_equal_told ct_l_equal_told), sl_l_equal_told⟩)
    (c_l_equal_told : PySem.W.codeIn K cd_l_equal_told "_law_equal_told" = true)
    (k_l_equal_told : PySem.W.keepIn K (.ref f_l_equal_told) = true)
    (a_l_lines_and_stars_told : PySem.W.nsIn K mainGlobals "_law_lines_and_stars_told" = some (some (.ref f_l_lines_and_stars_told)))
    (l_l_lines_and_stars_told : K.lookup f_l_lines_and_stars_told = some ⟨oc_l_lines_and_stars_told, od_l_lines_and_stars_told, .func (PySem.W.fnOf "_law_lines_and_stars_told" "_law_lines_and_stars_told" (defArgs s_l_lines_and_stars_told) (defBody s_l_lines_and_stars_told) (defScope s_l_lines_and_stars_told) .none kV_l_lines_and_stars_told dc_l_lines_and_stars_told pm_l_lines_and_stars_told an_l_lines_and_stars_told cd_l_lines_and_stars_told ct_l_lines_and_stars_told), sl_l_lines_and_stars_told⟩)
    (c_l_lines_and_stars_told : PySem.W.codeIn K cd_l_lines_and_stars_told "_law_lines_and_stars_told" = true)
    (k_l_lines_and_stars_told : PySem.W.keepIn K (.ref f_l_lines_and_stars_told) = true)
    (a_law : PySem.W.nsIn K mainGlobals "law" = some (some (.ref f_law)))
    (l_law : K.lookup f_law = some ⟨oc_law, od_law, .func (PySem.W.fnOf "law" "law" (defArgs s_law) (defBody s_law) (defScope s_law) .none kV_law dc_law pm_law an_law cd_law ct_law), sl_law⟩)
    (c_law : PySem.W.codeIn K cd_law "law" = true)
    (k_law : PySem.W.keepIn K (.ref f_law) = true)
    (pg_Shape : PySem.W.plainGet K C_Shape Str.empty = true)
    (hd_Shape : PySem.W.hasDictIn K C_Shape = true)
    (po_Shape : PySem.W.plainOver K C_Shape = true)
    (sa_Shape : PySem.W.findIn K (.ref C_Shape) "__setattr__" = some (some (.builtin "object.__setattr__")))
    (mk_Shape : PySem.W.makesIn K C_Shape = true)
    (kc_Shape : PySem.W.keepIn K (.ref C_Shape) = true)
    (ioc_Shape : PySem.W.findIn K (.ref C_Shape) "__class__" = some (some (.builtin "object.__class__")))
    (iom_Shape : PySem.W.mroIn K C_Shape (.type "object") = some true)
    (iok_Shape : PySem.W.kitOne K (.ref C_Shape) (.ref C_Shape) = some true)
    (n_Shape_masks : PySem.W.findIn K (.ref C_Shape) "_masks" = some none)
    (n_Shape_parents : PySem.W.findIn K (.ref C_Shape) "parents" = some none)
    (n_Shape_size : PySem.W.findIn K (.ref C_Shape) "size" = some none) : ∃ T : Tx P K mg, T.a_law = fa := by
  have e := hfa.symm.trans (PySem.W.mg_of X G a_law)
  exact ⟨{
    z_abs := PySem.W.mg_none_of X G z_abs,
    z_bool := PySem.W.mg_none_of X G z_bool,
    z_enumerate := PySem.W.mg_none_of X G z_enumerate,
    z_int := PySem.W.mg_none_of X G z_int,
    z_isinstance := PySem.W.mg_none_of X G z_isinstance,
    z_len := PySem.W.mg_none_of X G z_len,
    z_list := PySem.W.mg_none_of X G z_list,
    z_range := PySem.W.mg_none_of X G z_range,
    z_tuple := PySem.W.mg_none_of X G z_tuple,
    z_ValueError := PySem.W.mg_none_of X G z_ValueError,
    C_FindsError := C_FindsError,
    mg_FindsError := PySem.W.mg_of X G a_FindsError,
    x_BadShape := { C := C_BadShape, fa := f_BadShape, cc := cc_BadShape, cda := cda_BadShape, fd := _, mgX := PySem.W.mg_of X G a_BadShape, sup := { oex := ⟨⟨_, _, _, _, _, _, _, _, _, _, _, _, _, _, _, x_BadShape, rfl⟩, sa_BadShape, eC_BadShape, tC_BadShape, kC_BadShape⟩, cel := ⟨_, _, _, ce_BadShape⟩, cod := ⟨_, _, _, _, _, _, co_BadShape, v2_BadShape, fi_BadShape⟩, sub := su_BadShape, subV := sV_BadShape, op := thp, sup := ks_BadShape, mgS := PySem.W.mg_none_of X G z_super, top := top_ }, lk := ⟨_, _, _, _, _, _, _, _, rfl, l_BadShape⟩, cod := c_BadShape, iC := i_BadShape, tI := tI_BadShape, xf := ⟨ga_BadShape, gg_BadShape, eC_BadShape, hd_BadShape⟩, xn := xn_BadShape, ec := ⟨ga_BadShape, gg_BadShape, eC_BadShape, hd_BadShape, hc_BadShape, hn_, ht_, mo_BadShape⟩ },
    x_BadPosition := { C := C_BadPosition, fa := f_BadPosition, cc := cc_BadPosition, cda := cda_BadPosition, fd := _, mgX := PySem.W.mg_of X G a_BadPosition, sup := { oex := ⟨⟨_, _, _, _, _, _, _, _, _, _, _, _, _, _, _, x_BadPosition, rfl⟩, sa_BadPosition, eC_BadPosition, tC_BadPosition, kC_BadPosition⟩, cel := ⟨_, _, _, ce_BadPosition⟩, cod := ⟨_, _, _, _, _, _, co_BadPosition, v2_BadPosition, fi_BadPosition⟩, sub := su_BadPosition, subV := sV_BadPosition, op := thp, sup := ks_BadPosition, mgS := PySem.W.mg_none_of X G z_super, top := top_ }, lk := ⟨_, _, _, _, _, _, _, _, rfl, l_BadPosition⟩, cod := c_BadPosition, iC := i_BadPosition, tI := tI_BadPosition, xf := ⟨ga_BadPosition, gg_BadPosition, eC_BadPosition, hd_BadPosition⟩, xn := xn_BadPosition, ec := ⟨ga_BadPosition, gg_BadPosition, eC_BadPosition, hd_BadPosition, hc_BadPosition, hn_, ht_, mo_BadPosition⟩ },
    x_BadSide := { C := C_BadSide, fa := f_BadSide, cc := cc_BadSide, cda := cda_BadSide, fd := _, mgX := PySem.W.mg_of X G a_BadSide, sup := { oex := ⟨⟨_, _, _, _, _, _, _, _, _, _, _, _, _, _, _, x_BadSide, rfl⟩, sa_BadSide, eC_BadSide, tC_BadSide, kC_BadSide⟩, cel := ⟨_, _, _, ce_BadSide⟩, cod := ⟨_, _, _, _, _, _, co_BadSide, v2_BadSide, fi_BadSide⟩, sub := su_BadSide, subV := sV_BadSide, op := thp, sup := ks_BadSide, mgS := PySem.W.mg_none_of X G z_super, top := top_ }, lk := ⟨_, _, _, _, _, _, _, _, rfl, l_BadSide⟩, cod := c_BadSide, iC := i_BadSide, tI := tI_BadSide, xf := ⟨ga_BadSide, gg_BadSide, eC_BadSide, hd_BadSide⟩, xn := xn_BadSide, ec := ⟨ga_BadSide, gg_BadSide, eC_BadSide, hd_BadSide, hc_BadSide, hn_, ht_, mo_BadSide⟩ },
    k_BadPosition_BadShape := k_BadPosition_BadShape,
    k_BadPosition_BadSide := k_BadPosition_BadSide,
    k_BadPosition_FindsError := k_BadPosition_FindsError,
    k_BadPosition_ValueError := k_BadPosition_ValueError,
    k_BadShape_BadShape := k_BadShape_BadShape,
    k_BadShape_BadSide := k_BadShape_BadSide,
    k_BadShape_FindsError := k_BadShape_FindsError,
    k_BadShape_ValueError := k_BadShape_ValueError,
    k_BadSide_BadPosition := k_BadSide_BadPosition,
    k_BadSide_BadShape := k_BadSide_BadShape,
    k_BadSide_FindsError := k_BadSide_FindsError,
    k_BadSide_ValueError := k_BadSide_ValueError,
    cb_FindsError := ⟨cbe_FindsError, cbd_FindsError, cbt_FindsError⟩,
    sb_BadShape_FindsError := sb_BadShape_FindsError,
    sb_BadPosition_FindsError := sb_BadPosition_FindsError,
    sb_BadSide_FindsError := sb_BadSide_FindsError,
    a_side_masks := f_side_masks,
    d_side_masks := _,
    F_side_masks := fun_mk (st := s_side_masks) l_side_masks c_side_masks k_side_masks,
    B_side_masks := (fun_mk (st := s_side_masks) l_side_masks c_side_masks k_side_masks).binds (ps := ["parents"]) (fun _ _ _ _ _ _ us hl => match us, hl with | [_], _ => rfl),
    g_side_masks := PySem.W.mg_of X G a_side_masks,
    a_Shape_init := f_Shape_init,
    d_Shape_init := _,
    F_Shape_init := fun_mk (st := s_Shape_init) l_Shape_init c_Shape_init k_Shape_init,
    B_Shape_init := (fun_mk (st := s_Shape_init) l_Shape_init c_Shape_init k_Shape_init).binds (ps := ["self", "parents"]) (fun _ _ _ _ _ _ us hl => match us, hl with | [_, _], _ => rfl),
    a_Shape_positions_of := f_Shape_positions_of,
    d_Shape_positions_of := _,
    F_Shape_positions_of := fun_mk (st := s_Shape_positions_of) l_Shape_positions_of c_Shape_positions_of k_Shape_positions_of,
    B_Shape_positions_of := (fun_mk (st := s_Shape_positions_of) l_Shape_positions_of c_Shape_positions_of k_Shape_positions_of).binds (ps := ["self", "side"]) (fun _ _ _ _ _ _ us hl => match us, hl with | [_, _], _ => rfl),
    a_Shape_has := f_Shape_has,
    d_Shape_has := _,
    F_Shape_has := fun_mk (st := s_Shape_has) l_Shape_has c_Shape_has k_Shape_has,
    B_Shape_has := (fun_mk (st := s_Shape_has) l_Shape_has c_Shape_has k_Shape_has).binds (ps := ["self", "position", "side"]) (fun _ _ _ _ _ _ us hl => match us, hl with | [_, _, _], _ => rfl),
    a_Shape_sides_at := f_Shape_sides_at,
    d_Shape_sides_at := _,
    F_Shape_sides_at := fun_mk (st := s_Shape_sides_at) l_Shape_sides_at c_Shape_sides_at k_Shape_sides_at,
    B_Shape_sides_at := (fun_mk (st := s_Shape_sides_at) l_Shape_sides_at c_Shape_sides_at k_Shape_sides_at).binds (ps := ["self", "position"]) (fun _ _ _ _ _ _ us hl => match us, hl with | [_, _], _ => rfl),
    a_Shape_is_line := f_Shape_is_line,
    d_Shape_is_line := _,
    F_Shape_is_line := fun_mk (st := s_Shape_is_line) l_Shape_is_line c_Shape_is_line k_Shape_is_line,
    B_Shape_is_line := (fun_mk (st := s_Shape_is_line) l_Shape_is_line c_Shape_is_line k_Shape_is_line).binds (ps := ["self"]) (fun _ _ _ _ _ _ us hl => match us, hl with | [_], _ => rfl),
    a_line := f_line,
    d_line := _,
    F_line := fun_mk (st := s_line) l_line c_line k_line,
    B_line := (fun_mk (st := s_line) l_line c_line k_line).binds (ps := ["size"]) (fun _ _ _ _ _ _ us hl => match us, hl with | [_], _ => rfl),
    g_line := PySem.W.mg_of X G a_line,
    a_star := f_star,
    d_star := _,
    F_star := fun_mk (st := s_star) l_star c_star k_star,
    B_star := (fun_mk (st := s_star) l_star c_star k_star).binds (ps := ["size"]) (fun _ _ _ _ _ _ us hl => match us, hl with | [_], _ => rfl),
    g_star := PySem.W.mg_of X G a_star,
    a_equal_shapes := f_equal_shapes,
    d_equal_shapes := _,
    F_equal_shapes := fun_mk (st := s_equal_shapes) l_equal_shapes c_equal_shapes k_equal_shapes,
    B_equal_shapes := (fun_mk (st := s_equal_shapes) l_equal_shapes c_equal_shapes k_equal_shapes).binds (ps := ["shape", "other"]) (fun _ _ _ _ _ _ us hl => match us, hl with | [_, _], _ => rfl),
    g_equal_shapes := PySem.W.mg_of X G a_equal_shapes,
    a_check_position := f_check_position,
    d_check_position := _,
    F_check_position := fun_mk (st := s_check_position) l_check_position c_check_position k_check_position,
    B_check_position := (fun_mk (st := s_check_position) l_check_position c_check_position k_check_position).binds (ps := ["shape", "position"]) (fun _ _ _ _ _ _ us hl => match us, hl with | [_, _], _ => rfl),
    g_check_position := PySem.W.mg_of X G a_check_position,
    a_check_side := f_check_side,
    d_check_side := _,
    F_check_side := fun_mk (st := s_check_side) l_check_side c_check_side k_check_side,
    B_check_side := (fun_mk (st := s_check_side) l_check_side c_check_side k_check_side).binds (ps := ["shape", "side"]) (fun _ _ _ _ _ _ us hl => match us, hl with | [_, _], _ => rfl),
    g_check_side := PySem.W.mg_of X G a_check_side,
    a_is_number_of_side := f_is_number_of_side,
    d_is_number_of_side := _,
    F_is_number_of_side := fun_mk (st := s_is_number_of_side) l_is_number_of_side c_is_number_of_side k_is_number_of_side,
    B_is_number_of_side := (fun_mk (st := s_is_number_of_side) l_is_number_of_side c_is_number_of_side k_is_number_of_side).binds (ps := ["shape", "number"]) (fun _ _ _ _ _ _ us hl => match us, hl with | [_, _], _ => rfl),
    g_is_number_of_side := PySem.W.mg_of X G a_is_number_of_side,
    a_l_tape := f_l_tape,
    d_l_tape := _,
    F_l_tape := fun_mk (st := s_l_tape) l_l_tape c_l_tape k_l_tape,
    B_l_tape := (fun_mk (st := s_l_tape) l_l_tape c_l_tape k_l_tape).binds (ps := ["_law_script"]) (fun _ _ _ _ _ _ us hl => match us, hl with | [_], _ => rfl),
    g_l_tape := PySem.W.mg_of X G a_l_tape,
    a_l_next := f_l_next,
    d_l_next := _,
    F_l_next := fun_mk (st := s_l_next) l_l_next c_l_next k_l_next,
    B_l_next := (fun_mk (st := s_l_next) l_l_next c_l_next k_l_next).binds (ps := ["_law_tape_here", "_law_size"]) (fun _ _ _ _ _ _ us hl => match us, hl with | [_, _], _ => rfl),
    g_l_next := PySem.W.mg_of X G a_l_next,
    a_l_parents := f_l_parents,
    d_l_parents := _,
    F_l_parents := fun_mk (st := s_l_parents) l_l_parents c_l_parents k_l_parents,
    B_l_parents := (fun_mk (st := s_l_parents) l_l_parents c_l_parents k_l_parents).binds (ps := ["_law_tape_here", "_law_most"]) (fun _ _ _ _ _ _ us hl => match us, hl with | [_, _], _ => rfl),
    g_l_parents := PySem.W.mg_of X G a_l_parents,
    a_l_above := f_l_above,
    d_l_above := _,
    F_l_above := fun_mk (st := s_l_above) l_l_above c_l_above k_l_above,
    B_l_above := (fun_mk (st := s_l_above) l_l_above c_l_above k_l_above).binds (ps := ["_law_parents_here", "_law_position"]) (fun _ _ _ _ _ _ us hl => match us, hl with | [_, _], _ => rfl),
    g_l_above := PySem.W.mg_of X G a_l_above,
    a_l_is_number := f_l_is_number,
    d_l_is_number := _,
    F_l_is_number := fun_mk (st := s_l_is_number) l_l_is_number c_l_is_number k_l_is_number,
    B_l_is_number := (fun_mk (st := s_l_is_number) l_l_is_number c_l_is_number k_l_is_number).binds (ps := ["_law_thing"]) (fun _ _ _ _ _ _ us hl => match us, hl with | [_], _ => rfl),
    g_l_is_number := PySem.W.mg_of X G a_l_is_number,
    a_l_ints := f_l_ints,
    d_l_ints := _,
    F_l_ints := fun_mk (st := s_l_ints) l_l_ints c_l_ints k_l_ints,
    B_l_ints := (fun_mk (st := s_l_ints) l_l_ints c_l_ints k_l_ints).binds (ps := ["_law_told", "_law_due"]) (fun _ _ _ _ _ _ us hl => match us, hl with | [_, _], _ => rfl),
    g_l_ints := PySem.W.mg_of X G a_l_ints,
    a_l_yes_or_no := f_l_yes_or_no,
    d_l_yes_or_no := _,
    F_l_yes_or_no := fun_mk (st := s_l_yes_or_no) l_l_yes_or_no c_l_yes_or_no k_l_yes_or_no,
    B_l_yes_or_no := (fun_mk (st := s_l_yes_or_no) l_l_yes_or_no c_l_yes_or_no k_l_yes_or_no).binds (ps := ["_law_told", "_law_due"]) (fun _ _ _ _ _ _ us hl => match us, hl with | [_, _], _ => rfl),
    g_l_yes_or_no := PySem.W.mg_of X G a_l_yes_or_no,
    a_l_far := f_l_far,
    d_l_far := _,
    F_l_far := fun_mk (st := s_l_far) l_l_far c_l_far k_l_far,
    B_l_far := (fun_mk (st := s_l_far) l_l_far c_l_far k_l_far).binds (ps := ["_law_tape_here"]) (fun _ _ _ _ _ _ us hl => match us, hl with | [_], _ => rfl),
    g_l_far := PySem.W.mg_of X G a_l_far,
    a_l_near_parents := f_l_near_parents,
    d_l_near_parents := _,
    F_l_near_parents := fun_mk (st := s_l_near_parents) l_l_near_parents c_l_near_parents k_l_near_parents,
    B_l_near_parents := (fun_mk (st := s_l_near_parents) l_l_near_parents c_l_near_parents k_l_near_parents).binds (ps := ["_law_tape_here", "_law_parents_here"]) (fun _ _ _ _ _ _ us hl => match us, hl with | [_, _], _ => rfl),
    g_l_near_parents := PySem.W.mg_of X G a_l_near_parents,
    a_l_spoilt := f_l_spoilt,
    d_l_spoilt := _,
    F_l_spoilt := fun_mk (st := s_l_spoilt) l_l_spoilt c_l_spoilt k_l_spoilt,
    B_l_spoilt := (fun_mk (st := s_l_spoilt) l_l_spoilt c_l_spoilt k_l_spoilt).binds (ps := ["_law_tape_here", "_law_parents_here"]) (fun _ _ _ _ _ _ us hl => match us, hl with | [_, _], _ => rfl),
    g_l_spoilt := PySem.W.mg_of X G a_l_spoilt,
    a_l_first_wrong := f_l_first_wrong,
    d_l_first_wrong := _,
    F_l_first_wrong := fun_mk (st := s_l_first_wrong) l_l_first_wrong c_l_first_wrong k_l_first_wrong,
    B_l_first_wrong := (fun_mk (st := s_l_first_wrong) l_l_first_wrong c_l_first_wrong k_l_first_wrong).binds (ps := ["_law_parents_here"]) (fun _ _ _ _ _ _ us hl => match us, hl with | [_], _ => rfl),
    g_l_first_wrong := PySem.W.mg_of X G a_l_first_wrong,
    a_l_creation_refused := f_l_creation_refused,
    d_l_creation_refused := _,
    F_l_creation_refused := fun_mk (st := s_l_creation_refused) l_l_creation_refused c_l_creation_refused k_l_creation_refused,
    B_l_creation_refused := (fun_mk (st := s_l_creation_refused) l_l_creation_refused c_l_creation_refused k_l_creation_refused).binds (ps := ["_law_parents_here"]) (fun _ _ _ _ _ _ us hl => match us, hl with | [_], _ => rfl),
    g_l_creation_refused := PySem.W.mg_of X G a_l_creation_refused,
    a_l_caught_by_base := f_l_caught_by_base,
    d_l_caught_by_base := _,
    F_l_caught_by_base := fun_mk (st := s_l_caught_by_base) l_l_caught_by_base c_l_caught_by_base k_l_caught_by_base,
    B_l_caught_by_base := (fun_mk (st := s_l_caught_by_base) l_l_caught_by_base c_l_caught_by_base k_l_caught_by_base).binds (ps := ["_law_parents_here"]) (fun _ _ _ _ _ _ us hl => match us, hl with | [_], _ => rfl),
    g_l_caught_by_base := PySem.W.mg_of X G a_l_caught_by_base,
    a_l_line_refused := f_l_line_refused,
    d_l_line_refused := _,
    F_l_line_refused := fun_mk (st := s_l_line_refused) l_l_line_refused c_l_line_refused k_l_line_refused,
    B_l_line_refused := (fun_mk (st := s_l_line_refused) l_l_line_refused c_l_line_refused k_l_line_refused).binds (ps := ["_law_size"]) (fun _ _ _ _ _ _ us hl => match us, hl with | [_], _ => rfl),
    g_l_line_refused := PySem.W.mg_of X G a_l_line_refused,
    a_l_star_refused := f_l_star_refused,
    d_l_star_refused := _,
    F_l_star_refused := fun_mk (st := s_l_star_refused) l_l_star_refused c_l_star_refused k_l_star_refused,
    B_l_star_refused := (fun_mk (st := s_l_star_refused) l_l_star_refused c_l_star_refused k_l_star_refused).binds (ps := ["_law_size"]) (fun _ _ _ _ _ _ us hl => match us, hl with | [_], _ => rfl),
    g_l_star_refused := PySem.W.mg_of X G a_l_star_refused,
    a_l_positions_of_refused := f_l_positions_of_refused,
    d_l_positions_of_refused := _,
    F_l_positions_of_refused := fun_mk (st := s_l_positions_of_refused) l_l_positions_of_refused c_l_positions_of_refused k_l_positions_of_refused,
    B_l_positions_of_refused := (fun_mk (st := s_l_positions_of_refused) l_l_positions_of_refused c_l_positions_of_refused k_l_positions_of_refused).binds (ps := ["_law_shape", "_law_side"]) (fun _ _ _ _ _ _ us hl => match us, hl with | [_, _], _ => rfl),
    g_l_positions_of_refused := PySem.W.mg_of X G a_l_positions_of_refused,
    a_l_side_refused := f_l_side_refused,
    d_l_side_refused := _,
    F_l_side_refused := fun_mk (st := s_l_side_refused) l_l_side_refused c_l_side_refused k_l_side_refused,
    B_l_side_refused := (fun_mk (st := s_l_side_refused) l_l_side_refused c_l_side_refused k_l_side_refused).binds (ps := ["_law_shape", "_law_position", "_law_side"]) (fun _ _ _ _ _ _ us hl => match us, hl with | [_, _, _], _ => rfl),
    g_l_side_refused := PySem.W.mg_of X G a_l_side_refused,
    a_l_position_refused := f_l_position_refused,
    d_l_position_refused := _,
    F_l_position_refused := fun_mk (st := s_l_position_refused) l_l_position_refused c_l_position_refused k_l_position_refused,
    B_l_position_refused := (fun_mk (st := s_l_position_refused) l_l_position_refused c_l_position_refused k_l_position_refused).binds (ps := ["_law_shape", "_law_position", "_law_side"]) (fun _ _ _ _ _ _ us hl => match us, hl with | [_, _, _], _ => rfl),
    g_l_position_refused := PySem.W.mg_of X G a_l_position_refused,
    a_l_sides_at_refused := f_l_sides_at_refused,
    d_l_sides_at_refused := _,
    F_l_sides_at_refused := fun_mk (st := s_l_sides_at_refused) l_l_sides_at_refused c_l_sides_at_refused k_l_sides_at_refused,
    B_l_sides_at_refused := (fun_mk (st := s_l_sides_at_refused) l_l_sides_at_refused c_l_sides_at_refused k_l_sides_at_refused).binds (ps := ["_law_shape", "_law_position"]) (fun _ _ _ _ _ _ us hl => match us, hl with | [_, _], _ => rfl),
    g_l_sides_at_refused := PySem.W.mg_of X G a_l_sides_at_refused,
    a_l_refusals_told := f_l_refusals_told,
    d_l_refusals_told := _,
    F_l_refusals_told := fun_mk (st := s_l_refusals_told) l_l_refusals_told c_l_refusals_told k_l_refusals_told,
    B_l_refusals_told := (fun_mk (st := s_l_refusals_told) l_l_refusals_told c_l_refusals_told k_l_refusals_told).binds (ps := ["_law_tape_here", "_law_shape", "_law_many"]) (fun _ _ _ _ _ _ us hl => match us, hl with | [_, _, _], _ => rfl),
    g_l_refusals_told := PySem.W.mg_of X G a_l_refusals_told,
    a_l_sides_had := f_l_sides_had,
    d_l_sides_had := _,
    F_l_sides_had := fun_mk (st := s_l_sides_had) l_l_sides_had c_l_sides_had k_l_sides_had,
    B_l_sides_had := (fun_mk (st := s_l_sides_had) l_l_sides_had c_l_sides_had k_l_sides_had).binds (ps := ["_law_parents_here", "_law_position"]) (fun _ _ _ _ _ _ us hl => match us, hl with | [_, _], _ => rfl),
    g_l_sides_had := PySem.W.mg_of X G a_l_sides_had,
    a_l_shape_told := f_l_shape_told,
    d_l_shape_told := _,
    F_l_shape_told := fun_mk (st := s_l_shape_told) l_l_shape_told c_l_shape_told k_l_shape_told,
    B_l_shape_told := (fun_mk (st := s_l_shape_told) l_l_shape_told c_l_shape_told k_l_shape_told).binds (ps := ["_law_shape", "_law_parents_here"]) (fun _ _ _ _ _ _ us hl => match us, hl with | [_, _], _ => rfl),
    g_l_shape_told := PySem.W.mg_of X G a_l_shape_told,
    a_l_positions_told := f_l_positions_told,
    d_l_positions_told := _,
    F_l_positions_told := fun_mk (st := s_l_positions_told) l_l_positions_told c_l_positions_told k_l_positions_told,
    B_l_positions_told := (fun_mk (st := s_l_positions_told) l_l_positions_told c_l_positions_told k_l_positions_told).binds (ps := ["_law_shape", "_law_parents_here"]) (fun _ _ _ _ _ _ us hl => match us, hl with | [_, _], _ => rfl),
    g_l_positions_told := PySem.W.mg_of X G a_l_positions_told,
    a_l_all_told := f_l_all_told,
    d_l_all_told := _,
    F_l_all_told := fun_mk (st := s_l_all_told) l_l_all_told c_l_all_told k_l_all_told,
    B_l_all_told := (fun_mk (st := s_l_all_told) l_l_all_told c_l_all_told k_l_all_told).binds (ps := ["_law_shape", "_law_parents_here"]) (fun _ _ _ _ _ _ us hl => match us, hl with | [_, _], _ => rfl),
    g_l_all_told := PySem.W.mg_of X G a_l_all_told,
    a_l_equal_told := f_l_equal_told,
    d_l_equal_told := _,
    F_l_equal_told := fun_mk (st := s_l_equal_told) l_l_equal_told c_l_equal_told k_l_equal_told,
    B_l_equal_told := (fun_mk (st := s_l_equal_told) l_l_equal_told c_l_equal_told k_l_equal_told).binds (ps := ["_law_shape", "_law_other", "_law_due"]) (fun _ _ _ _ _ _ us hl => match us, hl with | [_, _, _], _ => rfl),
    g_l_equal_told := PySem.W.mg_of X G a_l_equal_told,
    a_l_lines_and_stars_told := f_l_lines_and_stars_told,
    d_l_lines_and_stars_told := _,
    F_l_lines_and_stars_told := fun_mk (st := s_l_lines_and_stars_told) l_l_lines_and_stars_told c_l_lines_and_stars_told k_l_lines_and_stars_told,
    B_l_lines_and_stars_told := (fun_mk (st := s_l_lines_and_stars_told) l_l_lines_and_stars_told c_l_lines_and_stars_told k_l_lines_and_stars_told).binds (ps := ["_law_far_here"]) (fun _ _ _ _ _ _ us hl => match us, hl with | [_], _ => rfl),
    g_l_lines_and_stars_told := PySem.W.mg_of X G a_l_lines_and_stars_told,
    a_law := f_law,
    d_law := _,
    F_law := fun_mk (st := s_law) l_law c_law k_law,
    B_law := (fun_mk (st := s_law) l_law c_law k_law).binds (ps := ["_law_script"]) (fun _ _ _ _ _ _ us hl => match us, hl with | [_], _ => rfl),
    g_law := PySem.W.mg_of X G a_law,
    C_Shape := C_Shape,
    mg_Shape := PySem.W.mg_of X G a_Shape,
    cl_Shape := ⟨pg_Shape, hd_Shape, po_Shape, sa_Shape⟩,
    M_Shape := ⟨mk_Shape, a_Shape_init, i_Shape_init, kc_Shape⟩,
    io_Shape := ⟨⟨pg_Shape, hd_Shape, po_Shape, sa_Shape⟩, ioc_Shape, hn_, ht_, iom_Shape, iok_Shape⟩,
    n_Shape_masks := n_Shape_masks,
    n_Shape_parents := n_Shape_parents,
    n_Shape_size := n_Shape_size,
    m_Shape_positions_of := ⟨a_Shape_positions_of, i_Shape_positions_of, k_Shape_positions_of⟩,
    m_Shape_has := ⟨a_Shape_has, i_Shape_has, k_Shape_has⟩,
    m_Shape_sides_at := ⟨a_Shape_sides_at, i_Shape_sides_at, k_Shape_sides_at⟩,
    m_Shape_is_line := ⟨a_Shape_is_line, i_Shape_is_line, k_Shape_is_line⟩ }, by cases e; rfl⟩
theorem walk {l : PySem.W.OpenLaw} {q : Program} {loose : List Str} {XP : (Str → Option Value) → Heap → Prop} {YP : World → Heap → Prop} {d : DefRec} {K : Params → PySem.W.Frag} (hn : l.most = some 63) (hdf : d.params.defaults = [])
    (hY : ∀ (w : World) (h : Heap), YP w h → (K w.params).In h)
    (F : ∀ (w : World) (mg : Str → Option Value) (fa : Addr) (h : Heap), (K w.params).In h → h.Ns mainGlobals mg → mg d.name = some (.ref fa) → ∃ T : Tx l.prog (K w.params) mg, T.a_law = fa) (hname : d.name = "law") :
    PySem.W.WalkO q loose XP YP l.row.toRowW d [] (fun f vs => PySem.call f vs) :=
  L2.walk_of (n := 63) (k := 9) (x := "_law_script") (CX := fun _ => L2.CX0) (sp := fun w => spLaw (K w.params)) hn (by decide) hdf ⟨rfl, by decide, by decide⟩ hY
    (fun w mg fa h X G hm => by
      obtain ⟨T, rfl⟩ := F w mg fa h X G hm
      exact ⟨T.d_law, fun s u => by
        have b := T.B_law
        obtain ⟨oc, od, kV, doc, pm, an, cdv, ct, osl, e, lk, hcd⟩ := T.F_law.ex
        rw [e]
        exact .of_eq rfl, fun base _ _ => ok_law T⟩) (fun _ _ a ns hl _ hS => ⟨a, ns, rfl, hS, hl, fun _ => rfl⟩) fun _ _ _ _ _ z => z
end K01
open PySem PySem.W PyProof.Rows in
set_option maxRecDepth 100000 in
set_option maxHeartbeats 0 in
theorem PySem.Challenge.cw_everypast_k01_sides_of_a_shape_holds : PySem.Challenge.rw_everypast_k01_sides_of_a_shape.Holds := by
  w_on; o_law; k_head; (case hw => w_witness2)
  k_fill
  refine K01.walk (l := PySem.Challenge.rw_everypast_k01_sides_of_a_shape) rfl rfl (fun w h Y => PySem.W.kIn_of Y) ?F rfl
  case F =>
    intro w mg fa h KX G hmg
    refine' K01.all_mk KX G hmg ?z_abs ?z_bool ?z_enumerate ?z_int ?z_isinstance ?z_len ?z_list ?z_range ?z_tuple ?z_ValueError ?z_super ?top_ ?thp ?hn_ ?ht_ ?a_FindsError ?a_BadShape ?x_BadShape ?sa_BadShape ?eC_BadShape ?sV_BadShape ?tC_BadShape ?kC_BadShape ?i_BadShape ?tI_BadShape ?l_BadShape ?c_BadShape ?ce_BadShape ?co_BadShape ?v2_BadShape ?fi_BadShape ?su_BadShape ?mo_BadShape ?ks_BadShape ?ga_BadShape ?gg_BadShape ?hd_BadShape ?xn_BadShape ?hc_BadShape ?a_BadPosition ?x_BadPosition ?sa_BadPosition ?eC_BadPosition ?sV_BadPosition ?tC_BadPosition ?kC_BadPosition ?i_BadPosition ?tI_BadPosition ?l_BadPosition ?c_BadPosition ?ce_BadPosition ?co_BadPosition ?v2_BadPosition ?fi_BadPosition ?su_BadPosition ?mo_BadPosition ?ks_BadPosition ?ga_BadPosition ?gg_BadPosition ?hd_BadPosition ?xn_BadPosition ?hc_BadPosition ?a_BadSide ?x_BadSide ?sa_BadSide ?eC_BadSide ?sV_BadSide ?tC_BadSide ?kC_BadSide ?i_BadSide ?tI_BadSide ?l_BadSide ?c_BadSide ?ce_BadSide ?co_BadSide ?v2_BadSide ?fi_BadSide ?su_BadSide ?mo_BadSide ?ks_BadSide ?ga_BadSide ?gg_BadSide ?hd_BadSide ?xn_BadSide ?hc_BadSide ?k_BadPosition_BadShape ?k_BadPosition_BadSide ?k_BadPosition_FindsError ?k_BadPosition_ValueError ?k_BadShape_BadShape ?k_BadShape_BadSide ?k_BadShape_FindsError ?k_BadShape_ValueError ?k_BadSide_BadPosition ?k_BadSide_BadShape ?k_BadSide_FindsError ?k_BadSide_ValueError ?cbe_FindsError ?cbd_FindsError ?cbt_FindsError ?sb_BadShape_FindsError ?sb_BadPosition_FindsError ?sb_BadSide_FindsError ?a_Shape ?a_side_masks ?l_side_masks ?c_side_masks ?k_side_masks ?a_Shape_init ?i_Shape_init ?l_Shape_init ?c_Shape_init ?k_Shape_init ?a_Shape_positions_of ?i_Shape_positions_of ?l_Shape_positions_of ?c_Shape_positions_of ?k_Shape_positions_of ?a_Shape_has ?i_Shape_has ?l_Shape_has ?c_Shape_has ?k_Shape_has ?a_Shape_sides_at ?i_Shape_sides_at ?l_Shape_sides_at ?c_Shape_sides_at ?k_Shape_sides_at ?a_Shape_is_line ?i_Shape_is_line ?l_Shape_is_line ?c_Shape_is_line ?k_Shape_is_line ?a_line ?l_line ?c_line ?k_line ?a_star ?l_star ?c_star ?k_star ?a_equal_shapes ?l_equal_shapes ?c_equal_shapes ?k_equal_shapes ?a_check_position ?l_check_position ?c_check_position ?k_check_position ?a_check_side ?l_check_side ?c_check_side ?k_check_side ?a_is_number_of_side ?l_is_number_of_side ?c_is_number_of_side ?k_is_number_of_side ?a_l_tape ?l_l_tape ?c_l_tape ?k_l_tape ?a_l_next ?l_l_next ?c_l_next ?k_l_next ?a_l_parents ?l_l_parents ?c_l_parents ?k_l_parents ?a_l_above ?l_l_above ?c_l_above ?k_l_above ?a_l_is_number ?l_l_is_number ?c_l_is_number ?k_l_is_number ?a_l_ints ?l_l_ints ?c_l_ints ?k_l_ints ?a_l_yes_or_no ?l_l_yes_or_no ?c_l_yes_or_no ?k_l_yes_or_no ?a_l_far ?l_l_far ?c_l_far ?k_l_far ?a_l_near_parents ?l_l_near_parents ?c_l_near_parents ?k_l_near_parents ?a_l_spoilt ?l_l_spoilt ?c_l_spoilt ?k_l_spoilt ?a_l_first_wrong ?l_l_first_wrong ?c_l_first_wrong ?k_l_first_wrong ?a_l_creation_refused ?l_l_creation_refused ?c_l_creation_refused ?k_l_creation_refused ?a_l_caught_by_base ?l_l_caught_by_base ?c_l_caught_by_base ?k_l_caught_by_base ?a_l_line_refused ?l_l_line_refused ?c_l_line_refused ?k_l_line_refused ?a_l_star_refused ?l_l_star_refused ?c_l_star_refused ?k_l_star_refused ?a_l_positions_of_refused ?l_l_positions_of_refused ?c_l_positions_of_refused ?k_l_positions_of_refused ?a_l_side_refused ?l_l_side_refused ?c_l_side_refused ?k_l_side_refused ?a_l_position_refused ?l_l_position_refused ?c_l_position_refused ?k_l_position_refused ?a_l_sides_at_refused ?l_l_sides_at_refused ?c_l_sides_at_refused ?k_l_sides_at_refused ?a_l_refusals_told ?l_l_refusals_told ?c_l_refusals_told ?k_l_refusals_told ?a_l_sides_had ?l_l_sides_had ?c_l_sides_had ?k_l_sides_had ?a_l_shape_told ?l_l_shape_told ?c_l_shape_told ?k_l_shape_told ?a_l_positions_told ?l_l_positions_told ?c_l_positions_told ?k_l_positions_told ?a_l_all_told ?l_l_all_told ?c_l_all_told ?k_l_all_told ?a_l_equal_told ?l_l_equal_told ?c_l_equal_told ?k_l_equal_told ?a_l_lines_and_stars_told ?l_l_lines_and_stars_told ?c_l_lines_and_stars_told ?k_l_lines_and_stars_told ?a_law ?l_law ?c_law ?k_law ?pg_Shape ?hd_Shape ?po_Shape ?sa_Shape ?mk_Shape ?kc_Shape ?ioc_Shape ?iom_Shape ?iok_Shape ?n_Shape_masks ?n_Shape_parents ?n_Shape_size
    (case z_abs => first | k_is | ks_is | rfl | kernel_rfl | decide +kernel)
    (case z_bool => first | k_is | ks_is | rfl | kernel_rfl | decide +kernel)
    (case z_enumerate => first | k_is | ks_is | rfl | kernel_rfl | decide +kernel)
    (case z_int => first | k_is | ks_is | rfl | kernel_rfl | decide +kernel)
    (case z_isinstance => first | k_is | ks_is | rfl | kernel_rfl | decide +kernel)
    (case z_len => first | k_is | ks_is | rfl | kernel_rfl | decide +kernel)
    (case z_list => first | k_is | ks_is | rfl | kernel_rfl | decide +kernel)
    (case z_range => first | k_is | ks_is | rfl | kernel_rfl | decide +kernel)
    (case z_tuple => first | k_is | ks_is | rfl | kernel_rfl | decide +kernel)
    (case z_ValueError => first | k_is | ks_is | rfl | kernel_rfl | decide +kernel)
    (case z_super => first | k_is | ks_is | rfl | kernel_rfl | decide +kernel)
    (case top_ => first | k_is | ks_is | rfl | kernel_rfl | decide +kernel)
    (case thp => first | k_is | ks_is | rfl | kernel_rfl | decide +kernel)
    (case hn_ => first | k_is | ks_is | rfl | kernel_rfl | decide +kernel)
    (case ht_ => first | k_is | ks_is | rfl | kernel_rfl | decide +kernel)
    (case a_FindsError => first | k_is | ks_is | rfl | kernel_rfl | decide +kernel)
    (case a_BadShape => first | k_is | ks_is | rfl | kernel_rfl | decide +kernel)
    (case x_BadShape => first | k_is | ks_is | rfl | kernel_rfl | decide +kernel)
    (case sa_BadShape => first | k_is | ks_is | rfl | kernel_rfl | decide +kernel)
    (case eC_BadShape => first | k_is | ks_is | rfl | kernel_rfl | decide +kernel)
    (case sV_BadShape => first | k_is | ks_is | rfl | kernel_rfl | decide +kernel)
    (case tC_BadShape => first | k_is | ks_is | rfl | kernel_rfl | decide +kernel)
    (case kC_BadShape => first | k_is | ks_is | rfl | kernel_rfl | decide +kernel)
    (case i_BadShape => first | k_is | ks_is | rfl | kernel_rfl | decide +kernel)
    (case tI_BadShape => first | k_is | ks_is | rfl | kernel_rfl | decide +kernel)
    (case l_BadShape => first | k_is | ks_is | rfl | kernel_rfl | decide +kernel)
    (case c_BadShape => first | k_is | ks_is | rfl | kernel_rfl | decide +kernel)
    (case ce_BadShape => first | k_is | ks_is | rfl | kernel_rfl | decide +kernel)
    (case co_BadShape => first | k_is | ks_is | rfl | kernel_rfl | decide +kernel)
    (case v2_BadShape => first | k_is | ks_is | rfl | kernel_rfl | decide +kernel)
    (case fi_BadShape => first | k_is | ks_is | rfl | kernel_rfl | decide +kernel)
    (case su_BadShape => first | k_is | ks_is | rfl | kernel_rfl | decide +kernel)
    (case mo_BadShape => first | k_is | ks_is | rfl | kernel_rfl | decide +kernel)
    (case ks_BadShape => first | k_is | ks_is | rfl | kernel_rfl | decide +kernel)
    (case ga_BadShape => first | k_is | ks_is | rfl | kernel_rfl | decide +kernel)
    (case gg_BadShape => first | k_is | ks_is | rfl | kernel_rfl | decide +kernel)
    (case hd_BadShape => first | k_is | ks_is | rfl | kernel_rfl | decide +kernel)
    (case xn_BadShape => first | k_is | ks_is | rfl | kernel_rfl | decide +kernel)
    (case hc_BadShape => first | k_is | ks_is | rfl | kernel_rfl | decide +kernel)
    (case a_BadPosition => first | k_is | ks_is | rfl | kernel_rfl | decide +kernel)
    (case x_BadPosition => first | k_is | ks_is | rfl | kernel_rfl | decide +kernel)
    (case sa_BadPosition => first | k_is | ks_is | rfl | kernel_rfl | decide +kernel)
    (case eC_BadPosition => first | k_is | ks_is | rfl | kernel_rfl | decide +kernel)
    (case sV_BadPosition => first | k_is | ks_is | rfl | kernel_rfl | decide +kernel)
    (case tC_BadPosition => first | k_is | ks_is | rfl | kernel_rfl | decide +kernel)
    (case kC_BadPosition => first | k_is | ks_is | rfl | kernel_rfl | decide +kernel)
    (case i_BadPosition => first | k_is | ks_is | rfl | kernel_rfl | decide +kernel)
    (case tI_BadPosition => first | k_is | ks_is | rfl | kernel_rfl | decide +kernel)
    (case l_BadPosition => first | k_is | ks_is | rfl | kernel_rfl | decide +kernel)
    (case c_BadPosition => first | k_is | ks_is | rfl | kernel_rfl | decide +kernel)
    (case ce_BadPosition => first | k_is | ks_is | rfl | kernel_rfl | decide +kernel)
    (case co_BadPosition => first | k_is | ks_is | rfl | kernel_rfl | decide +kernel)
    (case v2_BadPosition => first | k_is | ks_is | rfl | kernel_rfl | decide +kernel)
    (case fi_BadPosition => first | k_is | ks_is | rfl | kernel_rfl | decide +kernel)
    (case su_BadPosition => first | k_is | ks_is | rfl | kernel_rfl | decide +kernel)
    (case mo_BadPosition => first | k_is | ks_is | rfl | kernel_rfl | decide +kernel)
    (case ks_BadPosition => first | k_is | ks_is | rfl | kernel_rfl | decide +kernel)
    (case ga_BadPosition => first | k_is | ks_is | rfl | kernel_rfl | decide +kernel)
    (case gg_BadPosition => first | k_is | ks_is | rfl | kernel_rfl | decide +kernel)
    (case hd_BadPosition => first | k_is | ks_is | rfl | kernel_rfl | decide +kernel)
    (case xn_BadPosition => first | k_is | ks_is | rfl | kernel_rfl | decide +kernel)
    (case hc_BadPosition => first | k_is | ks_is | rfl | kernel_rfl | decide +kernel)
    (case a_BadSide => first | k_is | ks_is | rfl | kernel_rfl | decide +kernel)
    (case x_BadSide => first | k_is | ks_is | rfl | kernel_rfl | decide +kernel)
    (case sa_BadSide => first | k_is | ks_is | rfl | kernel_rfl | decide +kernel)
    (case eC_BadSide => first | k_is | ks_is | rfl | kernel_rfl | decide +kernel)
    (case sV_BadSide => first | k_is | ks_is | rfl | kernel_rfl | decide +kernel)
    (case tC_BadSide => first | k_is | ks_is | rfl | kernel_rfl | decide +kernel)
    (case kC_BadSide => first | k_is | ks_is | rfl | kernel_rfl | decide +kernel)
    (case i_BadSide => first | k_is | ks_is | rfl | kernel_rfl | decide +kernel)
    (case tI_BadSide => first | k_is | ks_is | rfl | kernel_rfl | decide +kernel)
    (case l_BadSide => first | k_is | ks_is | rfl | kernel_rfl | decide +kernel)
    (case c_BadSide => first | k_is | ks_is | rfl | kernel_rfl | decide +kernel)
    (case ce_BadSide => first | k_is | ks_is | rfl | kernel_rfl | decide +kernel)
    (case co_BadSide => first | k_is | ks_is | rfl | kernel_rfl | decide +kernel)
    (case v2_BadSide => first | k_is | ks_is | rfl | kernel_rfl | decide +kernel)
    (case fi_BadSide => first | k_is | ks_is | rfl | kernel_rfl | decide +kernel)
    (case su_BadSide => first | k_is | ks_is | rfl | kernel_rfl | decide +kernel)
    (case mo_BadSide => first | k_is | ks_is | rfl | kernel_rfl | decide +kernel)
    (case ks_BadSide => first | k_is | ks_is | rfl | kernel_rfl | decide +kernel)
    (case ga_BadSide => first | k_is | ks_is | rfl | kernel_rfl | decide +kernel)
    (case gg_BadSide => first | k_is | ks_is | rfl | kernel_rfl | decide +kernel)
    (case hd_BadSide => first | k_is | ks_is | rfl | kernel_rfl | decide +kernel)
    (case xn_BadSide => first | k_is | ks_is | rfl | kernel_rfl | decide +kernel)
    (case hc_BadSide => first | k_is | ks_is | rfl | kernel_rfl | decide +kernel)
    (case k_BadPosition_BadShape => first | k_is | ks_is | rfl | kernel_rfl | decide +kernel)
    (case k_BadPosition_BadSide => first | k_is | ks_is | rfl | kernel_rfl | decide +kernel)
    (case k_BadPosition_FindsError => first | k_is | ks_is | rfl | kernel_rfl | decide +kernel)
    (case k_BadPosition_ValueError => first | k_is | ks_is | rfl | kernel_rfl | decide +kernel)
    (case k_BadShape_BadShape => first | k_is | ks_is | rfl | kernel_rfl | decide +kernel)
    (case k_BadShape_BadSide => first | k_is | ks_is | rfl | kernel_rfl | decide +kernel)
    (case k_BadShape_FindsError => first | k_is | ks_is | rfl | kernel_rfl | decide +kernel)
    (case k_BadShape_ValueError => first | k_is | ks_is | rfl | kernel_rfl | decide +kernel)
    (case k_BadSide_BadPosition => first | k_is | ks_is | rfl | kernel_rfl | decide +kernel)
    (case k_BadSide_BadShape => first | k_is | ks_is | rfl | kernel_rfl | decide +kernel)
    (case k_BadSide_FindsError => first | k_is | ks_is | rfl | kernel_rfl | decide +kernel)
    (case k_BadSide_ValueError => first | k_is | ks_is | rfl | kernel_rfl | decide +kernel)
    (case cbe_FindsError => first | k_is | ks_is | rfl | kernel_rfl | decide +kernel)
    (case cbd_FindsError => first | k_is | ks_is | rfl | kernel_rfl | decide +kernel)
    (case cbt_FindsError => first | k_is | ks_is | rfl | kernel_rfl | decide +kernel)
    (case sb_BadShape_FindsError => first | k_is | ks_is | rfl | kernel_rfl | decide +kernel)
    (case sb_BadPosition_FindsError => first | k_is | ks_is | rfl | kernel_rfl | decide +kernel)
    (case sb_BadSide_FindsError => first | k_is | ks_is | rfl | kernel_rfl | decide +kernel)
    (case a_Shape => first | k_is | ks_is | rfl | kernel_rfl | decide +kernel)
    (case a_side_masks => first | k_is | ks_is | rfl | kernel_rfl | decide +kernel)
    (case l_side_masks => first | k_is | ks_is | rfl | kernel_rfl | decide +kernel)
    (case c_side_masks => first | k_is | ks_is | rfl | kernel_rfl | decide +kernel)
    (case k_side_masks => first | k_is | ks_is | rfl | kernel_rfl | decide +kernel)
    (case a_Shape_init => first | k_is | ks_is | rfl | kernel_rfl | decide +kernel)
    (case i_Shape_init => first | k_is | ks_is | rfl | kernel_rfl | decide +kernel)
    (case l_Shape_init => first | k_is | ks_is | rfl | kernel_rfl | decide +kernel)
    (case c_Shape_init => first | k_is | ks_is | rfl | kernel_rfl | decide +kernel)
    (case k_Shape_init => first | k_is | ks_is | rfl | kernel_rfl | decide +kernel)
    (case a_Shape_positions_of => first | k_is | ks_is | rfl | kernel_rfl | decide +kernel)
    (case i_Shape_positions_of => first | k_is | ks_is | rfl | kernel_rfl | decide +kernel)
    (case l_Shape_positions_of => first | k_is | ks_is | rfl | kernel_rfl | decide +kernel)
    (case c_Shape_positions_of => first | k_is | ks_is | rfl | kernel_rfl | decide +kernel)
    (case k_Shape_positions_of => first | k_is | ks_is | rfl | kernel_rfl | decide +kernel)
    (case a_Shape_has => first | k_is | ks_is | rfl | kernel_rfl | decide +kernel)
    (case i_Shape_has => first | k_is | ks_is | rfl | kernel_rfl | decide +kernel)
    (case l_Shape_has => first | k_is | ks_is | rfl | kernel_rfl | decide +kernel)
    (case c_Shape_has => first | k_is | ks_is | rfl | kernel_rfl | decide +kernel)
    (case k_Shape_has => first | k_is | ks_is | rfl | kernel_rfl | decide +kernel)
    (case a_Shape_sides_at => first | k_is | ks_is | rfl | kernel_rfl | decide +kernel)
    (case i_Shape_sides_at => first | k_is | ks_is | rfl | kernel_rfl | decide +kernel)
    (case l_Shape_sides_at => first | k_is | ks_is | rfl | kernel_rfl | decide +kernel)
    (case c_Shape_sides_at => first | k_is | ks_is | rfl | kernel_rfl | decide +kernel)
    (case k_Shape_sides_at => first | k_is | ks_is | rfl | kernel_rfl | decide +kernel)
    (case a_Shape_is_line => first | k_is | ks_is | rfl | kernel_rfl | decide +kernel)
    (case i_Shape_is_line => first | k_is | ks_is | rfl | kernel_rfl | decide +kernel)
    (case l_Shape_is_line => first | k_is | ks_is | rfl | kernel_rfl | decide +kernel)
    (case c_Shape_is_line => first | k_is | ks_is | rfl | kernel_rfl | decide +kernel)
    (case k_Shape_is_line => first | k_is | ks_is | rfl | kernel_rfl | decide +kernel)
    (case a_line => first | k_is | ks_is | rfl | kernel_rfl | decide +kernel)
    (case l_line => first | k_is | ks_is | rfl | kernel_rfl | decide +kernel)
    (case c_line => first | k_is | ks_is | rfl | kernel_rfl | decide +kernel)
    (case k_line => first | k_is | ks_is | rfl | kernel_rfl | decide +kernel)
    (case a_star => first | k_is | ks_is | rfl | kernel_rfl | decide +kernel)
    (case l_star => first | k_is | ks_is | rfl | kernel_rfl | decide +kernel)
    (case c_star => first | k_is | ks_is | rfl | kernel_rfl | decide +kernel)
    (case k_star => first | k_is | ks_is | rfl | kernel_rfl | decide +kernel)
    (case a_equal_shapes => first | k_is | ks_is | rfl | kernel_rfl | decide +kernel)
    (case l_equal_shapes => first | k_is | ks_is | rfl | kernel_rfl | decide +kernel)
    (case c_equal_shapes => first | k_is | ks_is | rfl | kernel_rfl | decide +kernel)
    (case k_equal_shapes => first | k_is | ks_is | rfl | kernel_rfl | decide +kernel)
    (case a_check_position => first | k_is | ks_is | rfl | kernel_rfl | decide +kernel)
    (case l_check_position => first | k_is | ks_is | rfl | kernel_rfl | decide +kernel)
    (case c_check_position => first | k_is | ks_is | rfl | kernel_rfl | decide +kernel)
    (case k_check_position => first | k_is | ks_is | rfl | kernel_rfl | decide +kernel)
    (case a_check_side => first | k_is | ks_is | rfl | kernel_rfl | decide +kernel)
    (case l_check_side => first | k_is | ks_is | rfl | kernel_rfl | decide +kernel)
    (case c_check_side => first | k_is | ks_is | rfl | kernel_rfl | decide +kernel)
    (case k_check_side => first | k_is | ks_is | rfl | kernel_rfl | decide +kernel)
    (case a_is_number_of_side => first | k_is | ks_is | rfl | kernel_rfl | decide +kernel)
    (case l_is_number_of_side => first | k_is | ks_is | rfl | kernel_rfl | decide +kernel)
    (case c_is_number_of_side => first | k_is | ks_is | rfl | kernel_rfl | decide +kernel)
    (case k_is_number_of_side => first | k_is | ks_is | rfl | kernel_rfl | decide +kernel)
    (case a_l_tape => first | k_is | ks_is | rfl | kernel_rfl | decide +kernel)
    (case l_l_tape => first | k_is | ks_is | rfl | kernel_rfl | decide +kernel)
    (case c_l_tape => first | k_is | ks_is | rfl | kernel_rfl | decide +kernel)
    (case k_l_tape => first | k_is | ks_is | rfl | kernel_rfl | decide +kernel)
    (case a_l_next => first | k_is | ks_is | rfl | kernel_rfl | decide +kernel)
    (case l_l_next => first | k_is | ks_is | rfl | kernel_rfl | decide +kernel)
    (case c_l_next => first | k_is | ks_is | rfl | kernel_rfl | decide +kernel)
    (case k_l_next => first | k_is | ks_is | rfl | kernel_rfl | decide +kernel)
    (case a_l_parents => first | k_is | ks_is | rfl | kernel_rfl | decide +kernel)
    (case l_l_parents => first | k_is | ks_is | rfl | kernel_rfl | decide +kernel)
    (case c_l_parents => first | k_is | ks_is | rfl | kernel_rfl | decide +kernel)
    (case k_l_parents => first | k_is | ks_is | rfl | kernel_rfl | decide +kernel)
    (case a_l_above => first | k_is | ks_is | rfl | kernel_rfl | decide +kernel)
    (case l_l_above => first | k_is | ks_is | rfl | kernel_rfl | decide +kernel)
    (case c_l_above => first | k_is | ks_is | rfl | kernel_rfl | decide +kernel)
    (case k_l_above => first | k_is | ks_is | rfl | kernel_rfl | decide +kernel)
    (case a_l_is_number => first | k_is | ks_is | rfl | kernel_rfl | decide +kernel)
    (case l_l_is_number => first | k_is | ks_is | rfl | kernel_rfl | decide +kernel)
    (case c_l_is_number => first | k_is | ks_is | rfl | kernel_rfl | decide +kernel)
    (case k_l_is_number => first | k_is | ks_is | rfl | kernel_rfl | decide +kernel)
    (case a_l_ints => first | k_is | ks_is | rfl | kernel_rfl | decide +kernel)
    (case l_l_ints => first | k_is | ks_is | rfl | kernel_rfl | decide +kernel)
    (case c_l_ints => first | k_is | ks_is | rfl | kernel_rfl | decide +kernel)
    (case k_l_ints => first | k_is | ks_is | rfl | kernel_rfl | decide +kernel)
    (case a_l_yes_or_no => first | k_is | ks_is | rfl | kernel_rfl | decide +kernel)
    (case l_l_yes_or_no => first | k_is | ks_is | rfl | kernel_rfl | decide +kernel)
    (case c_l_yes_or_no => first | k_is | ks_is | rfl | kernel_rfl | decide +kernel)
    (case k_l_yes_or_no => first | k_is | ks_is | rfl | kernel_rfl | decide +kernel)
    (case a_l_far => first | k_is | ks_is | rfl | kernel_rfl | decide +kernel)
    (case l_l_far => first | k_is | ks_is | rfl | kernel_rfl | decide +kernel)
    (case c_l_far => first | k_is | ks_is | rfl | kernel_rfl | decide +kernel)
    (case k_l_far => first | k_is | ks_is | rfl | kernel_rfl | decide +kernel)
    (case a_l_near_parents => first | k_is | ks_is | rfl | kernel_rfl | decide +kernel)
    (case l_l_near_parents => first | k_is | ks_is | rfl | kernel_rfl | decide +kernel)
    (case c_l_near_parents => first | k_is | ks_is | rfl | kernel_rfl | decide +kernel)
    (case k_l_near_parents => first | k_is | ks_is | rfl | kernel_rfl | decide +kernel)
    (case a_l_spoilt => first | k_is | ks_is | rfl | kernel_rfl | decide +kernel)
    (case l_l_spoilt => first | k_is | ks_is | rfl | kernel_rfl | decide +kernel)
    (case c_l_spoilt => first | k_is | ks_is | rfl | kernel_rfl | decide +kernel)
    (case k_l_spoilt => first | k_is | ks_is | rfl | kernel_rfl | decide +kernel)
    (case a_l_first_wrong => first | k_is | ks_is | rfl | kernel_rfl | decide +kernel)
    (case l_l_first_wrong => first | k_is | ks_is | rfl | kernel_rfl | decide +kernel)
    (case c_l_first_wrong => first | k_is | ks_is | rfl | kernel_rfl | decide +kernel)
    (case k_l_first_wrong => first | k_is | ks_is | rfl | kernel_rfl | decide +kernel)
    (case a_l_creation_refused => first | k_is | ks_is | rfl | kernel_rfl | decide +kernel)
    (case l_l_creation_refused => first | k_is | ks_is | rfl | kernel_rfl | decide +kernel)
    (case c_l_creation_refused => first | k_is | ks_is | rfl | kernel_rfl | decide +kernel)
    (case k_l_creation_refused => first | k_is | ks_is | rfl | kernel_rfl | decide +kernel)
    (case a_l_caught_by_base => first | k_is | ks_is | rfl | kernel_rfl | decide +kernel)
    (case l_l_caught_by_base => first | k_is | ks_is | rfl | kernel_rfl | decide +kernel)
    (case c_l_caught_by_base => first | k_is | ks_is | rfl | kernel_rfl | decide +kernel)
    (case k_l_caught_by_base => first | k_is | ks_is | rfl | kernel_rfl | decide +kernel)
    (case a_l_line_refused => first | k_is | ks_is | rfl | kernel_rfl | decide +kernel)
    (case l_l_line_refused => first | k_is | ks_is | rfl | kernel_rfl | decide +kernel)
    (case c_l_line_refused => first | k_is | ks_is | rfl | kernel_rfl | decide +kernel)
    (case k_l_line_refused => first | k_is | ks_is | rfl | kernel_rfl | decide +kernel)
    (case a_l_star_refused => first | k_is | ks_is | rfl | kernel_rfl | decide +kernel)
    (case l_l_star_refused => first | k_is | ks_is | rfl | kernel_rfl | decide +kernel)
    (case c_l_star_refused => first | k_is | ks_is | rfl | kernel_rfl | decide +kernel)
    (case k_l_star_refused => first | k_is | ks_is | rfl | kernel_rfl | decide +kernel)
    (case a_l_positions_of_refused => first | k_is | ks_is | rfl | kernel_rfl | decide +kernel)
    (case l_l_positions_of_refused => first | k_is | ks_is | rfl | kernel_rfl | decide +kernel)
    (case c_l_positions_of_refused => first | k_is | ks_is | rfl | kernel_rfl | decide +kernel)
    (case k_l_positions_of_refused => first | k_is | ks_is | rfl | kernel_rfl | decide +kernel)
    (case a_l_side_refused => first | k_is | ks_is | rfl | kernel_rfl | decide +kernel)
    (case l_l_side_refused => first | k_is | ks_is | rfl | kernel_rfl | decide +kernel)
    (case c_l_side_refused => first | k_is | ks_is | rfl | kernel_rfl | decide +kernel)
    (case k_l_side_refused => first | k_is | ks_is | rfl | kernel_rfl | decide +kernel)
    (case a_l_position_refused => first | k_is | ks_is | rfl | kernel_rfl | decide +kernel)
    (case l_l_position_refused => first | k_is | ks_is | rfl | kernel_rfl | decide +kernel)
    (case c_l_position_refused => first | k_is | ks_is | rfl | kernel_rfl | decide +kernel)
    (case k_l_position_refused => first | k_is | ks_is | rfl | kernel_rfl | decide +kernel)
    (case a_l_sides_at_refused => first | k_is | ks_is | rfl | kernel_rfl | decide +kernel)
    (case l_l_sides_at_refused => first | k_is | ks_is | rfl | kernel_rfl | decide +kernel)
    (case c_l_sides_at_refused => first | k_is | ks_is | rfl | kernel_rfl | decide +kernel)
    (case k_l_sides_at_refused => first | k_is | ks_is | rfl | kernel_rfl | decide +kernel)
    (case a_l_refusals_told => first | k_is | ks_is | rfl | kernel_rfl | decide +kernel)
    (case l_l_refusals_told => first | k_is | ks_is | rfl | kernel_rfl | decide +kernel)
    (case c_l_refusals_told => first | k_is | ks_is | rfl | kernel_rfl | decide +kernel)
    (case k_l_refusals_told => first | k_is | ks_is | rfl | kernel_rfl | decide +kernel)
    (case a_l_sides_had => first | k_is | ks_is | rfl | kernel_rfl | decide +kernel)
    (case l_l_sides_had => first | k_is | ks_is | rfl | kernel_rfl | decide +kernel)
    (case c_l_sides_had => first | k_is | ks_is | rfl | kernel_rfl | decide +kernel)
    (case k_l_sides_had => first | k_is | ks_is | rfl | kernel_rfl | decide +kernel)
    (case a_l_shape_told => first | k_is | ks_is | rfl | kernel_rfl | decide +kernel)
    (case l_l_shape_told => first | k_is | ks_is | rfl | kernel_rfl | decide +kernel)
    (case c_l_shape_told => first | k_is | ks_is | rfl | kernel_rfl | decide +kernel)
    (case k_l_shape_told => first | k_is | ks_is | rfl | kernel_rfl | decide +kernel)
    (case a_l_positions_told => first | k_is | ks_is | rfl | kernel_rfl | decide +kernel)
    (case l_l_positions_told => first | k_is | ks_is | rfl | kernel_rfl | decide +kernel)
    (case c_l_positions_told => first | k_is | ks_is | rfl | kernel_rfl | decide +kernel)
    (case k_l_positions_told => first | k_is | ks_is | rfl | kernel_rfl | decide +kernel)
    (case a_l_all_told => first | k_is | ks_is | rfl | kernel_rfl | decide +kernel)
    (case l_l_all_told => first | k_is | ks_is | rfl | kernel_rfl | decide +kernel)
    (case c_l_all_told => first | k_is | ks_is | rfl | kernel_rfl | decide +kernel)
    (case k_l_all_told => first | k_is | ks_is | rfl | kernel_rfl | decide +kernel)
    (case a_l_equal_told => first | k_is | ks_is | rfl | kernel_rfl | decide +kernel)
    (case l_l_equal_told => first | k_is | ks_is | rfl | kernel_rfl | decide +kernel)
    (case c_l_equal_told => first | k_is | ks_is | rfl | kernel_rfl | decide +kernel)
    (case k_l_equal_told => first | k_is | ks_is | rfl | kernel_rfl | decide +kernel)
    (case a_l_lines_and_stars_told => first | k_is | ks_is | rfl | kernel_rfl | decide +kernel)
    (case l_l_lines_and_stars_told => first | k_is | ks_is | rfl | kernel_rfl | decide +kernel)
    (case c_l_lines_and_stars_told => first | k_is | ks_is | rfl | kernel_rfl | decide +kernel)
    (case k_l_lines_and_stars_told => first | k_is | ks_is | rfl | kernel_rfl | decide +kernel)
    (case a_law => first | k_is | ks_is | rfl | kernel_rfl | decide +kernel)
    (case l_law => first | k_is | ks_is | rfl | kernel_rfl | decide +kernel)
    (case c_law => first | k_is | ks_is | rfl | kernel_rfl | decide +kernel)
    (case k_law => first | k_is | ks_is | rfl | kernel_rfl | decide +kernel)
    (case pg_Shape => first | k_is | ks_is | rfl | kernel_rfl | decide +kernel)
    (case hd_Shape => first | k_is | ks_is | rfl | kernel_rfl | decide +kernel)
    (case po_Shape => first | k_is | ks_is | rfl | kernel_rfl | decide +kernel)
    (case sa_Shape => first | k_is | ks_is | rfl | kernel_rfl | decide +kernel)
    (case mk_Shape => first | k_is | ks_is | rfl | kernel_rfl | decide +kernel)
    (case kc_Shape => first | k_is | ks_is | rfl | kernel_rfl | decide +kernel)
    (case ioc_Shape => first | k_is | ks_is | rfl | kernel_rfl | decide +kernel)
    (case iom_Shape => first | k_is | ks_is | rfl | kernel_rfl | decide +kernel)
    (case iok_Shape => first | k_is | ks_is | rfl | kernel_rfl | decide +kernel)
    (case n_Shape_masks => first | k_is | ks_is | rfl | kernel_rfl | decide +kernel)
    (case n_Shape_parents => first | k_is | ks_is | rfl | kernel_rfl | decide +kernel)
    (case n_Shape_size => first | k_is | ks_is | rfl | kernel_rfl | decide +kernel)
