import PyProof.Rows.All
import Wide.All
import OpenK.AllK
import Wide.FinOn
import HandS.ForMost
import HandS.Exc
import HandS.TryOnly
import HandS.ExcOwn
import HandS.WordsExc
import HandS.ExcInit
import HandS.ExcIs
import HandS.ExcField
import KE.KExcSuper
import HandS.FStr
import HandS.HotCalls
import KE.KExcIs
import HandS.IsInst
import HandS.Wide
import HandS.Style
import KE.BitLaws
import HandS.WideBits
import HandS.Codes
import KE.KEqDeep
import KE.KEqSeq
import PySem.Challenge.RW_everypast_k02_ways_and_distances
set_option Elab.async false
set_option linter.all false
set_option maxRecDepth 100000
set_option maxHeartbeats 4000000
/-! An own exception class whose __init__ begins with super().__init__(..): its __init__ as a def of the layer. -/
namespace EP
open PySem L2 PySem.Spec PyProof.Rows
open PySem.W (ksFn ksEnv)

theorem lookup_rev_zip : ∀ {ps : List Str} {us : List Value} {i : Nat} {x : Str} {u : Value}, ps.Nodup → ps[i]? = some x → us[i]? = some u → (ps.zip us).reverse.lookup x = some u
  | [], _, _, _, _, _, h, _ => by simp at h
  | _ :: _, [], _, _, _, _, _, h => by simp at h
  | p :: ps, w :: us, 0, x, u, nd, h1, h2 => by
    simp at h1 h2; subst h1; subst h2
    rw [List.zip_cons_cons, List.reverse_cons, List.lookup_append]
    have hn : (ps.zip us).reverse.lookup p = none := by
      cases e : (ps.zip us).reverse.lookup p with
      | none => rfl
      | some v =>
        have q := PySem.mem_of_lookup e
        exact absurd (List.of_mem_zip (List.mem_reverse.mp q)).1 (List.nodup_cons.mp nd).1
    rw [hn]
    simp [List.lookup]
  | p :: ps, w :: us, i + 1, x, u, nd, h1, h2 => by
    rw [List.zip_cons_cons, List.reverse_cons, List.lookup_append]
    rw [lookup_rev_zip (i := i) (List.nodup_cons.mp nd).2 (by simpa using h1) (by simpa using h2)]
    rfl

/-- the scope of such an __init__ -/
structure ScE (N P : List Str) (sc : Scope) : Prop where
  kind : sc.kind = .function
  co : sc.isCoroutine = false
  gen : sc.isGenerator = false
  nd : N.Nodup
  pre : N.take P.length = P
  par : ∀ x ∈ P, sc.names.lookup x = some .local
  nocell : ∀ y ∈ sc.names, y.2 ≠ .cell
  free : ∀ y ∈ sc.names, y.2 = .free → y.1 = "__class__"
  sup : sc.names.lookup ("super" : Str) = some .globalImplicit
  cls : sc.names.lookup ("__class__" : Str) = some .free

/-- the context of its body -/
def cxE (CX : CXT) (P : Program) (w : World) (K : PySem.W.Frag) (mg : Str → Option Value) (base : Heap) (N : List Str) (qual : Str) (scope : Scope) (f : Addr) (cd : Value) (cc : Addr) (A : Around) (outer : List Env) (s : Shared) (H : Hp) (E : XK) : Cx where
  prog := P
  w := w
  K := K
  mg := mg
  base := base
  A := A.deeper (ksEnv qual scope s.heap.objs.size f cd cc)
  N := N
  s_0 := s
  H_0 := H
  env := ksEnv qual scope s.heap.objs.size f cd cc
  outer := outer
  stack := ksEnv qual scope s.heap.objs.size f cd cc :: outer
  ex := []
  calm := true
  fn := fun y => decide (y ≠ "__class__")
  pn := []
  xe := fun e s' => wpAny (model P w) (A.deeper (ksEnv qual scope s.heap.objs.size f cd cc)) (leaving (ksEnv qual scope s.heap.objs.size f cd cc) e) (fun _ s'' => CX outer H s E e s'') (fun e' s'' => CX outer H s E e' s'') s'

theorem cells1 {cc : Addr} {y : Str} {c : Addr} (h : List.lookup y [(("__class__" : Str), cc)] = some c) : y = "__class__" ∧ c = cc := by
  by_cases e : y = "__class__"
  · subst e
    have q : List.lookup ("__class__" : Str) [(("__class__" : Str), cc)] = some cc := by simp [List.lookup]
    rw [q] at h
    exact ⟨rfl, (Option.some.inj h).symm⟩
  · have q : (y == ("__class__" : Str)) = false := by simpa using e
    simp [List.lookup, q] at h

theorem inv_startE {CX : CXT} {P : Program} {w : World} {K : PySem.W.Frag} {mg : Str → Option Value} {base : Heap} {N ps : List Str} {qual : Str} {scope : Scope} {f cc : Addr} {cd : Value} {A : Around} {outer : List Env} {s : Shared} {h1 : Heap} {tk : Nat} {H : Hp} {E : XK} {us : List Value} {vs : List V}
    {D : Addr} {cl : Value} {cld : Option Addr} {csl : Array (Option Value)}
    (S : ScE N ps scope) (hd : A.handled = none) (e0 : Env0 P w K mg base A outer s H) (hl : vs.length = ps.length) (r : Vals vs us)
    (hcell : K.lookup cc = some ⟨cl, cld, .cell (some (.ref D)), csl⟩)
    (hns : h1.Ns s.heap.objs.size (fun x => (ps.zip us).reverse.lookup x)) (hk : ∀ b o, s.heap.get? b = some o → h1.get? b = some o) :
    Inv (cxE CX P w K mg base N qual scope f cd cc A outer s H E) [] (L2.start N vs) H { s with heap := h1, toks := tk } := by
  have hpl : ps.length ≤ N.length := by have := congrArg List.length S.pre; rw [List.length_take] at this; omega
  have noA : ∀ b : Addr, b ∉ (cxE CX P w K mg base N qual scope f cd cc A outer s H E).ex := fun b z => absurd (show b ∈ ([] : List Addr) from z) (by simp)
  have hb : base.get? cc = some ⟨cl, cld, .cell (some (.ref D)), csl⟩ := e0.mod.kin _ _ hcell
  refine ⟨⟨e0.mod, S.kind, rfl, rfl, Nat.le_refl _, fun y z c h1 h2 => ?_, fun y hy => ?_, fun y c hf h => ?_, fun _ => hd, Around.frames_deeper e0.frames, .inr ⟨rfl, rfl⟩, fun b z => absurd z (noA b), e0.bs, e0.bsz, fun b _ _ => noA b, fun b z => absurd z (noA b), e0.funs, e0.frf⟩,
    rfl, e0.bare, Un.kept hk, ⟨_, hns, fun i y v h1 h2 h3 => ?_⟩, fun y c h => ?_, e0.hok.fresh (Nat.le_refl _), fun y c h => ?_, fun p hp => absurd (show p ∈ ([] : List (Addr × Obj)) from hp) (by simp), e0.hok.kept hk, ?_⟩
  · rw [(cells1 h1).1, (cells1 h2).1]
  · have hy : scope.names.lookup y = some .cell ∨ scope.names.lookup y = some .free := hy
    rcases hy with hy | hy
    · exact absurd rfl (S.nocell _ (PySem.mem_of_lookup hy))
    · have e := S.free _ (PySem.mem_of_lookup hy) rfl
      refine ⟨cc, ?_⟩
      have e' : y = "__class__" := e
      rw [e']
      show List.lookup ("__class__" : Str) [(("__class__" : Str), cc)] = some cc
      simp [List.lookup]
  · have e := (cells1 h).1
    subst e
    have hf' : decide (("__class__" : Str) ≠ "__class__") = true := hf
    simp at hf'
  · have hi : i < vs.length := by
      unfold L2.start at h2
      by_cases hi : i < vs.length
      · exact hi
      · rw [List.getElem?_append_right (by simpa using hi)] at h2
        rw [List.getElem?_replicate] at h2
        split at h2 <;> cases h2
    have ha : vs[i]? = some v := by
      unfold L2.start at h2
      rw [List.getElem?_append_left (by simpa using hi), List.getElem?_map] at h2
      cases e : vs[i]? with
      | none => rw [e] at h2; cases h2
      | some a => rw [e] at h2; cases h2; rfl
    obtain ⟨u, hu, rv⟩ := r.get ha
    have hp : ps[i]? = some y := by
      rw [← S.pre, List.getElem?_take_of_lt (by omega)]; exact h1
    have ndP : ps.Nodup := by rw [← S.pre]; exact S.nd.sublist (List.take_sublist _ _)
    refine ⟨u, rv, .inl ⟨S.par y (List.mem_of_getElem? hp), lookup_rev_zip ndP hp hu⟩⟩
  · have e := (cells1 h).2
    subst e
    exact ⟨_, _, hk _ _ (e0.bs _ _ hb).1, rfl⟩
  · have e := (cells1 h).2
    subst e
    exact (e0.bs _ _ hb).2
  · unfold L2.start
    show _ = N.length
    rw [List.length_append, List.length_map, List.length_replicate]
    omega

/-- what the text and the written part say of an own exception class at C, its __init__ at f, its class cell at cc -/
structure SupC (P : Program) (K : PySem.W.Frag) (mg : Str → Option Value) (C cc cda : Addr) : Prop where
  oex : OexC K C
  cel : ∃ cl cld csl, K.lookup cc = some ⟨cl, cld, .cell (some (.ref C)), csl⟩
  cod : ∃ ccl cdd vs ccs file tf, K.lookup cda = some ⟨ccl, cdd, .fields vs, ccs⟩ ∧ vs[2]? = some (.str file tf) ∧ ((P.main.file : Str) == file) = true
  sub : PySem.W.mroIn K C (.ref C) = some true
  subV : PySem.W.subIn K (.ref C) (.type "ValueError") = some true
  op : PySem.W.nsIn K cStatics "thirdparty.any" = some none
  sup : PySem.W.ks_superIn K C C "__init__" = some (some (.builtin "ValueError.__init__"))
  mgS : mg "super" = none
  top : (P.main.scope.names.lookup ("super" : Str)).isSome = false

section
variable {P : Program} {w : World} {M : Model} {A : Around} {E : Value → Shared → Prop} {s : Shared}
theorem callWith_mw {pos : Pos} {u x : Addr} {env : Env} {e : Expr} {rest : List Expr} {Q : Value → Shared → Prop}
    (h : wpAny M A (spliced (backTo pos (starEach (e :: rest) env))) (fun vs s₁ => PySem.W.KxsAt "ValueError.__init__" u x s₁.heap ∧ wpAny M A (call (.ref u) vs) Q E s₁) E s)
    (he : starEach (e :: rest) env = (false, eval e env) :: starEach rest env := by rfl) (hplain : (backTo pos (starEach rest env)).any (·.1) = false := by rfl) :
    wpAny M A (callWith pos (.ref u) [] (backTo pos (starEach (e :: rest) env)) []) Q E s := by
  rw [he] at h ⊢
  refine PySem.W.kxs_callWith (i := "ValueError.__init__") (x := x) (by show (false || (backTo pos (starEach rest env)).any (·.1)) = false; rw [hplain]; rfl) ?_
  exact Calls.evalArgs_plain h
end
section
variable {P : Program} {w : World} {A : Around} {E : Value → Shared → Prop} {h : Heap} {g : Array GenState} {d : Drawn} {t : Nat} {os : OsState}
variable {nm q : Str} {C N : Addr} {bs bm : List Value} {hdct : Bool} {sn : List Str} {sub : List Value} {ab : Bool} {col : Option Bool} {dd : Option Addr} {k0 k1 k2 k3 k5 : Option Value}
theorem call_mw {u e t0 : Addr} {rest : List Value} {Q : Value → Shared → Prop}
    (hC : h.get? C = some (excClassObj nm q C N bs bm hdct sn sub ab col dd k0 k1 k2 k3 k5 "ValueError.__new__")) (he : h.get? e = some (PySem.HandSPX.excO C t0)) (hu : h.get? u = some (PySem.W.kxs_mw "ValueError.__init__" e)) (hrest : rest.length ≤ sizeLine)
    (hq : ∀ h' t1, (∀ b o, b ≠ e → h.get? b = some o → h'.get? b = some o) → h'.get? e = some (PySem.HandSPX.excO C t1) → Q .none ⟨h', g, d, t, os⟩) :
    wpAny (model P w) A (call (.ref u) rest) Q E ⟨h, g, d, t, os⟩ := by
  refine wpAny_call (codeAny_of_tree ?_)
  show wpAny _ A.in1 (callAny (.ref u) ⟨rest, []⟩) _ _ _
  simp only [callAny]
  refine wpAny_bind (wpAny_load hu ?_)
  simp only [PySem.W.kxs_mw, show (Value.type "method-wrapper" == Value.type "method" || Value.type "method-wrapper" == Value.type "builtin_function_or_method" || Value.type "method-wrapper" == Value.type "method-wrapper") = true by decide, if_true]
  refine PySem.W.KFB.if_so (by decide) ?_
  refine wpAny_bind (PySem.W.check_bound_init F.excBase_ValueError.toExcCallFacts hC he rfl ?_)
  refine wpAny_bind (wpAny_pure (wpAny_pure ?_))
  refine ⟨Code.quiet_builtin _ (by decide +kernel), codeAny_builtin F.excBase_ValueError.initEntry ?_⟩
  rw [Around.under_plainId F.excBase_ValueError.init.plain _]
  wp_walk
  refine hq _ h.objs.size (fun b o hb ho => ?_) ?_
  · rw [Heap.get?_update_other _ _ (Ne.symm hb)]
    exact Heap.get?_push_of_some _ ho
  · rw [Heap.get?_update_self _ (Heap.get?_push_of_some _ he) rfl]
    rfl
end

theorem fn_exc {CX : CXT} {P : Program} {w : World} {K : PySem.W.Frag} {mg : Str → Option Value} {base : Heap} {k : Nat} {f cc cda C : Addr} {name qual : Str} {params : Arguments} {e : Expr} {es : List Expr} {rest : List Stmt} {scope : Scope} {dV kV doc pm ct oc : Value} {an od : Option Addr}
    {osl : Array (Option Value)} {N ps : List Str} {sp : Sp} {p0 p1 p2 p3 p4 : Pos} {ar : Arg} {ps' : List Str} {pl : Addr → Sem Bool}
    (lk : K.lookup f = some ⟨oc, od, .func (ksFn name qual params (.Expr (.Call (.Attribute (.Call (.Name "super" p0) [] [] p1) "__init__" p2) (e :: es) [] p3) p4 :: rest) scope dV kV doc pm an (.ref cda) ct cc), osl⟩)
    (hcd : PySem.W.codeIn K (.ref cda) qual = true) (S : ScE N ps scope) (T : SupC P K mg C cc cda)
    (hp : (params.posonlyargs ++ params.args).head? = some ar) (hps : ps = ar.arg :: ps')
    (len : ∀ vs H Q E, sp vs H Q E → vs.length = ps.length)
    (hbody : ∀ (A : Around) (outer : List Env) (s : Shared) (H : Hp) (vs : List V) (Q : VK) (E : XK), Room k (A.deeper (ksEnv qual scope s.heap.objs.size f (.ref cda) cc)) → sp vs H Q E →
      ∃ (a : Addr) (vs' : List V) (ta : TA) (t : TS), vs = .ref a :: vs' ∧ H a = some (exo a C none) ∧ PA (cxE CX P w K mg base N qual scope f (.ref cda) cc A outer s H E) (e :: es) ta ∧ PSs (cxE CX P w K mg base N qual scope f (.ref cda) cc A outer s H E) rest t ∧
        ta (L2.start N vs) H fun ws H1 => ws.length ≤ 1000 ∧ H1 a = some (exo a C none) ∧ t { nx := fun _ H' => Q .non H', rt := Q } (L2.start N vs) H1)
    (hc : ∀ (L : Addr), eval (.Call (.Attribute (.Call (.Name "super" p0) [] [] p1) "__init__" p2) (e :: es) [] p3) (ksEnv qual scope L f (.ref cda) cc) = (do
      let ov ← attributeBase (.Call (.Name "super" p0) [] [] p1) "__init__" (ksEnv qual scope L f (.ref cda) cc) (eval (.Call (.Name "super" p0) [] [] p1) (ksEnv qual scope L f (.ref cda) cc))
      standAt p2.atName
      let (g, first) ← holding [ov] (getMethod ov "__init__" (pl L))
      callWith p3 g first (backTo p3 (starEach (e :: es) (ksEnv qual scope L f (.ref cda) cc))) []) := by intro L; rfl)
    (hs : ∀ (L : Addr), swapsWith (.Call (.Attribute (.Call (.Name "super" p0) [] [] p1) "__init__" p2) (e :: es) [] p3) none p4.line (ksEnv qual scope L f (.ref cda) cc) = pure false := by intro L; rfl)
    (he : ∀ (L : Addr), starEach (e :: es) (ksEnv qual scope L f (.ref cda) cc) = (false, eval e (ksEnv qual scope L f (.ref cda) cc)) :: starEach es (ksEnv qual scope L f (.ref cda) cc) := by intro L; rfl)
    (hpl : ∀ (L : Addr), (backTo p3 (starEach es (ksEnv qual scope L f (.ref cda) cc))).any (·.1) = false := by intro L; rfl) :
    FnOk P w K mg base CX (k + 1) f (ksFn name qual params (.Expr (.Call (.Attribute (.Call (.Name "super" p0) [] [] p1) "__init__" p2) (e :: es) [] p3) p4 :: rest) scope dV kV doc pm an (.ref cda) ct cc) ps sp := by
  refine ⟨len, fun A outer s H args us vs Q E hr e0 hb r hsp => ?_⟩
  have hl := len _ _ _ _ hsp
  have KX : K.In s.heap := e0.mod.kin.keeps fun b o e => (e0.bs b o e).1
  have lim : s.heap.NoLimit := e0.mod.nolimit.keeps fun b o e => (e0.bs b o e).1
  obtain ⟨cl, cld, csl, hcell⟩ := T.cel
  obtain ⟨ccl, cdd, cvs, ccs, file, tf, hcode, hvs, hfile⟩ := T.cod
  have hloc : ∀ y ∈ ps.zip us, scope.names.lookup y.1 = some .local := fun ⟨n, v⟩ hy => S.par n (List.of_mem_zip hy).1
  refine PySem.ks_codeAny_call_defAt (fd := ksFn name qual params (.Expr (.Call (.Attribute (.Call (.Name "super" p0) [] [] p1) "__init__" p2) (e :: es) [] p3) p4 :: rest) scope dV kV doc pm an (.ref cda) ct cc) hr.depth (KX _ _ lk) rfl lim (PySem.W.codeRec_of KX hcd) rfl hb S.nocell hloc (fun h₁ hns hk₁ => ?_) S.co S.gen S.kind
  obtain ⟨a, vs', ta, t, rfl, ha, hA, ht, hq⟩ := hbody A outer s H vs Q E (hr.deeper _) hsp
  have I : Inv (cxE CX P w K mg base N qual scope f (.ref cda) cc A outer s H E) [] (L2.start N (.ref a :: vs')) H { s with heap := h₁, toks := s.toks + (ps.zip us).length } := inv_startE S hr.hd e0 hl r hcell hns hk₁
  cases r with
  | @cons _ u0 _ us' ra r' =>
  obtain rfl : u0 = Value.ref a := ra
  subst hps
  obtain ⟨t1, hoe⟩ := exo_at I.hok ha
  obtain ⟨nm, q, Nn, bs, bm, sn, sub, ab, col, dd, k0, k1, k2, k3, k5, hC, hbm⟩ := T.oex.cls
  have hclC : PySem.W.clsIn K C = some { name := nm, bases := bs, mro := .ref C :: bm, ns := Nn, qualname := q, hasDict := true, slotNames := sn, subclasses := sub, abstract := ab, collection := col, hasDel := false } := by unfold PySem.W.clsIn; rw [hC] <;> rfl
  have XI : K.In h₁ := I.kIn
  have J0 : PySem.W.InstAt h₁ a (PySem.HandSPX.excO C t1) C none := ⟨hoe, rfl, rfl, trivial⟩
  have hne := PySem.W.ks_ne XI J0 hclC
  have hclH : ∃ cdC, K.lookup C = some ⟨_, _, .cls cdC, _⟩ := ⟨_, hC⟩
  refine PySem.ks_wpAt_execs_cons (PySem.ks_wpAt_Expr_any (PySem.ks_wpAt_MethodCall (pl := pl _) ?_ (hc _)) I.quiet (hs _))
  refine PySem.ks_wpAt_super_base (f := f) (cc := cda) (fd := ksFn name qual params (.Expr (.Call (.Attribute (.Call (.Name "super" p0) [] [] p1) "__init__" p2) (e :: es) [] p3) p4 :: rest) scope dV kV doc pm an (.ref cda) ct cc) (ar := ar) S.sup S.cls (by decide) rfl (XI _ _ lk) rfl hp rfl (XI _ _ hcode) rfl hvs hfile T.top ?_
  obtain ⟨mb, hb1, hb2⟩ := I.mod.blt
  refine PySem.W.ks_loadName_global S.kind S.sup (Calls.loadGlobal_builtin (I.mod.glob.keeps I.bk) T.mgS (hb1.keeps I.bk) ((hb2 _ (by decide)).trans (by first | rfl | decide +kernel)) ⟨rfl, ?_⟩)
  refine wpAny_loadName_free S.kind S.cls rfl ⟨_, XI _ _ hcell, rfl⟩ ?_
  refine wpAny_loadName_local S.kind (S.par _ List.mem_cons_self) hns (v := .ref a) (lookup_rev_zip (i := 0) (by rw [← S.pre]; exact S.nd.sublist (List.take_sublist _ _)) rfl rfl) ?_
  have hDC := XI _ _ hC
  refine PySem.ks_wpAny_isType_cls hDC rfl ⟨rfl, ?_⟩
  refine PySem.ks_wpAny_call_super hDC rfl hoe rfl (fun c z => nomatch z) (PySem.W.looks_mroIn XI T.sub) (fun h₂ hso k₂ => ?_)
  have I2 := I.kept (t' := s.toks + (((ar.arg :: ps').zip (Value.ref a :: us')).length)) k₂
  have XI2 : K.In h₂ := I2.kIn
  have hsup := T.sup
  unfold PySem.W.ks_superIn at hsup
  rw [hclC] at hsup
  have J2 : PySem.W.InstAt h₂ a (PySem.HandSPX.excO C t1) C none := ⟨k₂ _ _ hoe, rfl, rfl, trivial⟩
  refine PySem.W.kxs_getMethod PySem.W.kxs_ValueError hso (PySem.W.looks_opaque XI2 T.op) (l₀ := .ref C :: bm) ?_ rfl XI2 hsup (J2.type.andThen (PySem.W.looks_subIn XI2 T.subV)) hne (by decide) ?_
  · exact fun A Q E s k q => wpAny_bind ((PySem.W.looks_clsIn XI2 hclC) A _ E s k (wpAny_pure q))
  have k₃ : ∀ b o, h₂.get? b = some o → (h₂.push (PySem.W.kxs_mw "ValueError.__init__" a)).get? b = some o := fun b o z => Heap.get?_push_of_some _ z
  have hu : (h₂.push (PySem.W.kxs_mw "ValueError.__init__" a)).get? h₂.objs.size = some (PySem.W.kxs_mw "ValueError.__init__" a) := Heap.get?_push_at rfl rfl
  have hfr : H h₂.objs.size = none := I2.hok.fresh (Nat.le_refl _)
  have I3 := (I2.kept (t' := s.toks + (((ar.arg :: ps').zip (Value.ref a :: us')).length) + 1) k₃)
  have I4 := I3.pins_of (pins' := [(h₂.objs.size, PySem.W.kxs_mw "ValueError.__init__" a)]) (fun p hp => by
    rw [List.mem_singleton] at hp
    subst hp
    refine ⟨hu, hfr, fun z => ?_, ?_, fun v z => nomatch z⟩
    · have := I2.lt
      rw [← z] at this
      exact absurd this (Nat.lt_irrefl _)
    · exact I2.nofs (Nat.le_refl _))
  refine callWith_mw (x := a) (thn (hA.run p3 _ _ (L2.start N (.ref a :: vs')) H _ I4 hq) fun wsv s1 ⟨ws, H1, I5, r5, hwl, ha1, q5⟩ => ⟨(I5.pin _ (List.mem_append_right _ List.mem_cons_self)).1, ?_⟩) (he _) (hpl _)
  obtain ⟨t5, ho5⟩ := exo_at I5.hok ha1
  have hu5 := (I5.pin _ (List.mem_append_right _ List.mem_cons_self)).1
  have XI5 := I5.kIn
  have hlen : wsv.length ≤ sizeLine := by
    rw [← Paired.length r5, sizeLine_eq]
    omega
  obtain ⟨hp5, g5, d5, tk5, os5⟩ := s1
  refine call_mw (XI5 _ _ hC) ho5 hu5 hlen fun h6 t6 k6 hx6 => ?_
  have I5' := I5.unpinned (pins := []) (pl := [(h₂.objs.size, PySem.W.kxs_mw "ValueError.__init__" a)])
  have J := I5'.write (t' := tk5) (x := a) (e := a) (o := exo a C none) (by rw [ha1]; exact True.intro) (.inl rfl) k6 ⟨_, hx6⟩ (exo_ok hx6)
  have eu : upd H1 a (exo a C none) = H1 := by
    funext b
    by_cases hb : b = a
    · rw [hb, upd_same, ha1]
    · rw [upd_ne hb]
  rw [eu] at J
  show _root_.PySem.wpAt _ _ _ (execs rest _) _ _ _
  refine wpAt_of_wpAny (wpAny_mono (ht.run [] _ (L2.start N (.ref a :: vs')) H1 _ J q5) (fun fl s' hs => ?_) fun e s' hs => hs)
  have fin : ∀ {σ' : L2.St} {H' : Hp} {v : V} {u : Value}, Inv (cxE CX P w K mg base N qual scope f (.ref cda) cc A outer s H E) [] σ' H' s' → RelV v u → Q v H' → CE outer P w H s Q u s' :=
    fun {σ' H' v u} J rv q => ⟨v, H', J.os, J.bare, J.base, J.hok, rv, q⟩
  cases fl with
  | ret u =>
    obtain ⟨v, σ', H', J, rv, q⟩ := hs
    exact fin J rv q
  | next =>
    obtain ⟨σ', H', J, q⟩ := hs
    exact fin (v := V.non) (u := Value.none) J rfl q
  | brk =>
    obtain ⟨_, _, _, q⟩ := hs
    exact False.elim q
  | cont =>
    obtain ⟨_, _, _, q⟩ := hs
    exact False.elim q
end EP
namespace EP
open PySem L2 PySem.Spec PyProof.Rows
open PySem.W (ksFn ksEnv)
open L2H (RoomH roomH_of)

/-! ### a def that may raise, called where it does not -/
theorem pass_no {X : Cx} : Passes (L2.CX X.prog X.w) X E0 := fun _ _ _ _ _ _ _ h => by
  obtain ⟨_, _, _, _, _, _, _, _, _, _, _, _, z⟩ := h
  exact z.elim

/-! ### making an exception -/
theorem pmk_imp {X : Cx} {e : Expr} {t t' : L2.St → Hp → XK → Prop} (h : PMk X e t) (i : ∀ σ H Q, t' σ H Q → t σ H Q) : PMk X e t' := fun pins s σ H Q I q => h pins s σ H Q I (i _ _ _ q)
/-- C(e): the made exception has one attribute, the value -/
def tMkS (C : Addr) (f : Str) (ok : V → Hp → Prop) (ta : TA) : L2.St → Hp → XK → Prop := fun σ H Q => ta σ H fun vs H1 => ∃ v, vs = [v] ∧ ok v H1 ∧ ∀ d, H1 d = none → Q (.ref C) (some d) (upd H1 d (.xd [(f, v)]))
/-- what such an __init__ promises -/
def spExc (C : Addr) (f : Str) (ok : V → Hp → Prop) : Sp := fun vs H Q _ => ∃ (a : Addr) (v : V) (H0 : Hp), vs = [.ref a, v] ∧ H0 a = none ∧ H = upd H0 a (exo a C none) ∧ ok v H0 ∧ ∀ d, H0 d = none → d ≠ a → Q .non (upd (upd H d (exd d [(f, v)])) a (exo a C (some d)))
theorem mkS_of {C : Addr} {f : Str} {ok : V → Hp → Prop} {ta : TA} (mono : ∀ σ H (Q Q' : List V → Hp → Prop), (∀ vs H1, Q vs H1 → Q' vs H1) → ta σ H Q → ta σ H Q') {σ : L2.St} {H : Hp} {Q : XK} (h : tMkS C f ok ta σ H Q) : tMkO C (spExc C f ok) [] ta σ H Q := by
  refine mono σ H _ _ (fun vs H1 q => ?_) h
  obtain ⟨v, rfl, hv, q⟩ := q
  refine ⟨(by show 1 ≤ 1000; decide), fun a ha => ?_⟩
  refine ⟨a, v, H1, rfl, ha, rfl, hv, fun d hd hda => ⟨rfl, d, [(f, v)], upd_same, ?_, hd, ?_⟩⟩
  · rw [upd_ne hda, upd_same]
  · have e : upd (L2.del (upd (upd (upd H1 a (exo a C none)) d (exd d [(f, v)])) a (exo a C (some d))) a) d (.xd [(f, v)]) = upd H1 d (.xd [(f, v)]) := by
      funext b
      by_cases hb : b = d
      · rw [hb, upd_same, upd_same]
      · rw [upd_ne hb, upd_ne hb]
        by_cases hba : b = a
        · rw [hba, del_same, ha]
        · rw [del_ne hba, upd_ne hba, upd_ne hb, upd_ne hba]
    rw [e]
    exact q d hd

/-! ### isinstance of a caught exception with attributes -/
theorem call_isD {X : Cx} {a D : Addr} {oe : Obj} {d : Addr} {pn : List (Addr × Obj)} (C : ExcC X.K D) (hz : Zc (.ref D) (some d) oe) (hf : ∃ vs, oe.data = .fields vs) :
    CallR (X.suite a ((a, oe) :: pn)) (.builtin "isinstance") (fun xs H Q => (∃ fs, H d = some (.xd fs)) ∧ rIsE X.K D a xs H Q) := by
  intro pins s σ H xs us Q I r h
  obtain ⟨⟨fs, hd⟩, c, cv, b, rfl, hcv, e, q⟩ := h
  cases r with
  | cons rx rr =>
    cases rr with
    | cons rt rr =>
      cases rr
      cases rx
      have ec := hcv _ rt
      subst ec
      obtain ⟨hget, _⟩ := I.pin (a, oe) (List.mem_append.mpr (.inl List.mem_cons_self))
      obtain ⟨vs, hv⟩ := hf
      have hx : ObjOk X.prog X.w H s.heap d (.xd fs) := I.hok d _ hd
      obtain ⟨mA, hns, hr⟩ := hx
      obtain ⟨od, ho, hl⟩ := lookIn_ns hns
      have J : PySem.W.InstAt s.heap a oe D (some od) := ⟨hget, hz.1, by unfold PySem.W.notCls; rw [hv] <;> rfl, by rw [hz.2]; exact ho⟩
      have hcl : (PySem.W.clsIn X.K D).isSome = true := by
        obtain ⟨cd, hc, _⟩ := PySem.W.any_some C.hd
        rw [hc]; rfl
      exact PySem.W.kia_one (PySem.W.kitx_exc hcl C.hg C.hk C.hs C.ha C.hn C.ht C.hm) I.kIn J e (fun z => nomatch z) fun tk => ⟨.bl b, H, I.kept (t' := tk) fun _ _ z => z, rfl, q⟩

theorem room_mark {A : Around} {k j : Nat} {x : Option Value} (hr : Room k A) (h : j ≤ k) : RoomH j (A.mark x) := L2H.RoomH.mono (k := k) ⟨hr.dp, hr.un⟩ h
/-! ### a def that is called within an except suite and raises nothing -/
structure FnQ (P : Program) (w : World) (K : PySem.W.Frag) (mg : Str → Option Value) (base : Heap) (k : Nat) (f : Addr) (fd : FuncData) (ps : List Str) (sp : Sp) : Prop where
  len : ∀ vs H Q E, sp vs H Q E → vs.length = ps.length
  run : ∀ (A : Around) (outer : List Env) (s : Shared) (H : Hp) (args : Args) (us : List Value) (vs : List V) (Q : VK), RoomH k A → Env0 P w K mg base A outer s H → BindsTo s fd args (ps.zip us) → Vals vs us → sp vs H Q E0 →
    codeAny (model P w) A (.call (.ref f) args) (CR L2.CX0 outer P w H s Q E0) s
theorem FnQ.ok {P : Program} {w : World} {K : PySem.W.Frag} {mg : Str → Option Value} {base : Heap} {k : Nat} {f : Addr} {fd : FuncData} {ps : List Str} {sp sp' : Sp} (F : FnQ P w K mg base k f fd ps sp) (h : ∀ vs H Q E, sp' vs H Q E → sp vs H Q E0) : FnOk P w K mg base L2.CX0 k f fd ps sp' :=
  ⟨fun vs H Q E q => F.len vs H Q E0 (h _ _ _ _ q), fun A outer s H args us vs Q E hr e0 hb r q => codeAny_mono (F.run A outer s H args us vs Q (roomH_of hr) e0 hb r (h _ _ _ _ q)) fun r s' z => by
    cases r with
    | error e => exact (show False from z).elim
    | ok fl => cases fl <;> exact z⟩
def cxQ (P : Program) (w : World) (K : PySem.W.Frag) (mg : Str → Option Value) (base : Heap) (N : List Str) (qual : Str) (scope : Scope) (f : Addr) (cd : Value) (A : Around) (outer : List Env) (s : Shared) (H : Hp) : Cx :=
  { cxOf L2.CX0 P w K mg base N qual scope f cd A outer s H E0 with calm := false }
theorem fn_ofQ {P : Program} {w : World} {K : PySem.W.Frag} {mg : Str → Option Value} {base : Heap} {k : Nat} {f : Addr} {name qual : Str} {params : Arguments} {body : List Stmt} {scope : Scope} {dV kV doc pm cdv ct oc : Value} {an od : Option Addr}
    {osl : Array (Option Value)} {N ps : List Str} {sp : Sp} (lk : K.lookup f = some ⟨oc, od, .func (PySem.W.fnOf name qual params body scope dV kV doc pm an cdv ct), osl⟩) (hcd : PySem.W.codeIn K cdv qual = true) (S : FnScope N ps scope)
    (len : ∀ vs H Q E, sp vs H Q E → vs.length = ps.length)
    (hbody : ∀ (A : Around) (outer : List Env) (s : Shared) (H : Hp) (vs : List V) (Q : VK), RoomH k (A.deeper (envOfC qual scope s.heap.objs.size f cdv)) → sp vs H Q E0 →
      ∃ t, PSs (cxQ P w K mg base N qual scope f cdv A outer s H) body t ∧ t { nx := fun _ H' => Q .non H', rt := Q } (L2.start N vs) H) :
    FnQ P w K mg base (k + 1) f (PySem.W.fnOf name qual params body scope dV kV doc pm an cdv ct) ps sp := by
  refine ⟨len, fun A outer s H args us vs Q hr e0 hb r hsp => ?_⟩
  have hl := len _ _ _ _ hsp
  have KX : K.In s.heap := e0.mod.kin.keeps fun b o e => (e0.bs b o e).1
  have lim : s.heap.NoLimit := e0.mod.nolimit.keeps fun b o e => (e0.bs b o e).1
  have hkind : ∀ y ∈ ps.zip us, scope.names.lookup y.1 = some .local ∨ (scope.names.lookup y.1 = some .cell ∧ ((cellsFrom (s.heap.objs.size + 1) scope.names []).lookup y.1).isSome = true) := fun ⟨n, v⟩ hy =>
    (S.par n (List.of_mem_zip hy).1).imp id fun q => ⟨q, PySem.W.cellsFrom_some _ _ _ (.inl q)⟩
  refine codeAny_call_function hr.depth (KX _ _ lk) rfl S.co S.gen rfl (PySem.W.codeRec_of KX hcd) (hb _ _ _ _ ?_)
  refine wpAny_newFunctionEnv_cells S.kind hkind fun env he s1 x => ?_
  subst he
  refine ⟨lim.keeps x.toInCall.keep, codeAny_func ?_⟩
  obtain ⟨t, ht, hq⟩ := hbody A outer s H vs Q (hr.deeper _) hsp
  have I : Inv (cxQ P w K mg base N qual scope f cdv A outer s H) [] (L2.start N vs) H s1 := by
    have A' : Around := { A with handled := none }
    have I0 : Inv (cxOf L2.CX0 P w K mg base N qual scope f cdv { A with handled := none } outer s H E0) [] (L2.start N vs) H s1 :=
      inv_start (A := { A with handled := none }) S rfl ⟨e0.frames, e0.mod, e0.bs, e0.bsz, e0.funs, e0.frf, e0.hok, e0.bare⟩ hl r x
    have o := I0.ok
    exact ⟨⟨o.mod, o.kind, o.glob, o.blt, o.above, o.inj, o.has, o.cab, fun z => Bool.noConfusion z, Around.frames_deeper e0.frames, o.stk, o.exf, o.bs, o.bsz, o.noex, o.exfs, o.funs, o.frf⟩, I0.os, I0.bare, I0.base, I0.loc, I0.cell, I0.free, I0.freeC, I0.pin, I0.hok, I0.len⟩
  refine wpAny_mono (ht.run [] s1 (L2.start N vs) H _ I hq) (fun fl s' hs => ?_) fun e s' hs => hs
  have fin : ∀ {σ' : L2.St} {H' : Hp} {v : V} {u : Value}, Inv (cxQ P w K mg base N qual scope f cdv A outer s H) [] σ' H' s' → RelV v u → Q v H' → CE outer P w H s Q u s' :=
    fun {σ' H' v u} J rv q => ⟨v, H', J.os, J.bare, J.base, J.hok, rv, q⟩
  cases fl with
  | ret u =>
    obtain ⟨v, σ', H', J, rv, q⟩ := hs
    exact fin J rv q
  | next =>
    obtain ⟨σ', H', J, q⟩ := hs
    exact fin (v := V.non) (u := Value.none) J rfl q
  | brk => exact hs.elim fun _ z => z.elim fun _ z => z.2.elim
  | cont => exact hs.elim fun _ z => z.elim fun _ z => z.2.elim
theorem Fun.okQ {P : Program} {w : World} {K : PySem.W.Frag} {mg : Str → Option Value} {base : Heap} {x qual : Str} {st : Stmt} {f : Addr} {fd : FuncData} {N ps : List Str} {k : Nat} {sp : Sp} (F : L2.Fun K x qual st f fd) (S : FnScope N ps (defScope st)) (len : ∀ vs H Q E, sp vs H Q E → vs.length = ps.length)
    (hbody : ∀ (cdv : Value) (A : Around) (outer : List Env) (s : Shared) (H : Hp) (vs : List V) (Q : VK), RoomH k (A.deeper (envOfC qual (defScope st) s.heap.objs.size f cdv)) → sp vs H Q E0 →
      ∃ t, PSs (cxQ P w K mg base N qual (defScope st) f cdv A outer s H) (defBody st) t ∧ t { nx := fun _ H' => Q .non H', rt := Q } (L2.start N vs) H) : FnQ P w K mg base (k + 1) f fd ps sp := by
  obtain ⟨oc, od, kV, doc, pm, an, cdv, ct, osl, rfl, lk, hcd⟩ := F.ex
  exact fn_ofQ lk hcd S len fun A outer s H vs Q hr hsp => hbody cdv A outer s H vs Q hr hsp
section
variable {X : Cx} {k : Nat} {f : Addr} {fd : FuncData} {ps : List Str} {sp : Sp} {x : Str} {p pos : Pos} {e : Expr} {es : List Expr} {t : TA}
def tCallQ (sp : Sp) (t : TA) : TE := fun σ H Q => t σ H fun vs H1 => sp vs H1 Q E0
theorem pe_callQ (F : FnQ X.prog X.w X.K X.mg X.base k f fd ps sp) (hr : RoomH k X.A) (hg : Gl X x) (hm : X.mg x = some (.ref f)) (hk : PySem.W.keepIn X.K (.ref f) = true) (hb : Binds X.K fd ps [])
    (ha : PA X (e :: es) t) (hdb : (x == ("__debug__" : Str)) = false := by decide) (he : starEach (e :: es) X.env = (false, eval e X.env) :: starEach es X.env := by rfl) (hpl : (backTo pos (starEach es X.env)).any (·.1) = false := by rfl) :
    PE X (.Call (.Name x p) (e :: es) [] pos) (tCallQ sp t) := by
  refine ⟨fun pins s σ H Q I h => ?_⟩
  refine wpAny_Call_Name_kw (ld_glob I hg hm ?_ hdb)
  refine PySem.W.callWith_K (h₀ := X.base) I.ok.mod.kin hk (thn (ha.run pos pins s σ H _ I h) fun us s1 ⟨vs, H1, I1, r, q⟩ => ⟨I1.kIn, ?_⟩) he hpl
  have hl : us.length = ps.length := by rw [← r.length]; exact F.len _ _ _ _ q
  have b := hb s1 us I1.kIn (by rw [List.append_nil]; exact hl)
  rw [List.append_nil] at b
  refine wpAny_call (codeAny_mono (F.run X.A X.stack s1 H1 ⟨us, []⟩ us vs Q hr I1.env0 b r q) fun r s' hq => ?_)
  cases r with
  | error e => exact (show False from hq).elim
  | ok fl =>
    cases fl with
    | ret u => exact I1.after hq
    | next => exact False.elim hq
    | brk => exact False.elim hq
    | cont => exact False.elim hq
end
end EP
namespace EP
open PySem L2 PySem.Spec PyProof.Rows
open PySem.W (ksFn ksEnv)
open L2H (RoomH roomH_of)
/-- an own exception class as the top has made it: its name, its __init__'s long name, its attribute, its text -/
structure ExT (P : Program) (K : PySem.W.Frag) (mg : Str → Option Value) (x qual fld : Str) (st : Stmt) where
  C : Addr
  fa : Addr
  cc : Addr
  cda : Addr
  fd : FuncData
  mgX : mg x = some (.ref C)
  sup : SupC P K mg C cc cda
  lk : ∃ oc od kV doc pm an ct osl, fd = ksFn "__init__" qual (defArgs st) (defBody st) (defScope st) .none kV doc pm an (.ref cda) ct cc ∧ K.lookup fa = some ⟨oc, od, .func fd, osl⟩
  cod : PySem.W.codeIn K (.ref cda) qual = true
  iC : PySem.W.findIn K (.ref C) "__init__" = some (some (.ref fa))
  tI : PySem.W.typeIn K (.ref fa) = some (.type "function")
  xf : XfC K C
  xn : PySem.W.findIn K (.ref C) fld = some none
  ec : ExcC K C
/-- a raise's exception, once its argument is there -/
theorem mkO_intro {C : Addr} {f : Str} {ok : V → Hp → Prop} {v : V} {H1 : Hp} {Q : XK} (hv : ok v H1) (q : ∀ d, H1 d = none → Q (.ref C) (some d) (upd H1 d (.xd [(f, v)]))) :
    [v].length ≤ 1000 ∧ ∀ a, H1 a = none → spExc C f ok (.ref a :: ([v] ++ [])) (upd H1 a (exo a C none)) (fun v H2 => v = .non ∧ ∃ (d : Addr) (fs : List (Str × V)), H2 a = some (exo a C (some d)) ∧ H2 d = some (exd d fs) ∧ H1 d = none ∧ Q (.ref C) (some d) (upd (L2.del H2 a) d (.xd fs))) (fun _ _ _ => False) := by
  have h : tMkS C f ok (fun _ H Q => Q [v] H) [] H1 Q := ⟨v, rfl, hv, q⟩
  have z := mkS_of (σ := []) (H := H1) (ta := fun _ H Q => Q [v] H) (fun _ _ _ _ i z => i _ _ z) h
  exact z
/-- isinstance(e, ..) in the suite, e's class and dict told by the reading -/
def rIsG (K : PySem.W.Frag) (a : Addr) (cls : Value) (d : Option Addr) : List V → Hp → VK → Prop := fun xs H Q => ∃ (D dd : Addr) (fs : List (Str × V)) (c : V) (cv : Value) (b : Bool),
  cls = .ref D ∧ d = some dd ∧ H dd = some (.xd fs) ∧ ExcC K D ∧ xs = [.ref a, c] ∧ (∀ u, RelV c u → u = cv) ∧ PySem.W.kitOne K (.ref D) cv = some b ∧ Q (.bl b) H
theorem call_isG {X : Cx} {a : Addr} {oe : Obj} {cls : Value} {d : Option Addr} {pn : List (Addr × Obj)} (hz : Zc cls d oe) (hf : ∃ vs, oe.data = .fields vs) : CallR (X.suite a ((a, oe) :: pn)) (.builtin "isinstance") (rIsG X.K a cls d) := by
  intro pins s σ H xs us Q I r h
  obtain ⟨D, dd, fs, c, cv, b, rfl, rfl, hd, ec, rfl, hcv, e, q⟩ := h
  exact call_isD ec hz hf pins s σ H _ us Q I r ⟨⟨fs, hd⟩, c, cv, b, rfl, hcv, e, q⟩
theorem relV_ref {C : Addr} (u : Value) (h : RelV (.ref C) u) : u = .ref C := h
/-- an attribute's text in an f-string, and the bound that it wants -/
def IntS (v : V) (_ : Hp) : Prop := ∃ i : Int, v = .int i ∧ i.natAbs.log2 < 1900
theorem intS_len {i : Int} (h : i.natAbs.log2 < 1900) : (Str.ofString (toString i)).length ≤ 1901 := by
  have e := int_text_length_le (k := 1900) (by decide) h
  rw [PySem.ofString_length]
  exact e
theorem int_small {i : Int} (h : i.natAbs < 2 ^ 200) : i.natAbs.log2 < 1900 := Nat.lt_of_lt_of_le (PySem.Flt.log2_lt_of (by decide) h) (by decide)
/-- what a callee may let out is let out -/
theorem pass_up {X : Cx} {E : XK} {E₁ : Value → Shared → Prop} (hs : X.stack = X.env :: X.outer := by rfl) (hf : X.env.frame = some X.env.locals := by rfl) (hex : X.ex = [] := by rfl)
    (hx : X.xe = fun e s' => wpAny (model X.prog X.w) X.A (leaving X.env e) (fun _ s'' => L2.CX X.prog X.w X.outer X.H_0 X.s_0 E e s'') E₁ s' := by rfl) : Passes (L2.CX X.prog X.w) X E :=
  passes_call (takes_of (E := E) hs hf hex hx) fun _ _ _ _ h => h
end EP
/-! Small trees by their lists of parents: chains, branches, middles. Plain mathematics. -/
namespace Tr
def Ok (ps : List Nat) : Prop := ∀ (i p : Nat), ps[i]? = some p → p ≤ i
def par (ps : List Nat) (p : Nat) : Nat := min (ps.getD (p - 1) 0) (p - 1)
theorem par_lt (ps : List Nat) {p : Nat} (h : 1 ≤ p) : par ps p < p := by unfold par; omega
theorem par_eq {ps : List Nat} (o : Ok ps) {p : Nat} (h : 1 ≤ p) (hp : p ≤ ps.length) : ps[p - 1]? = some (par ps p) := by
  have hl : p - 1 < ps.length := by omega
  have e := List.getElem?_eq_getElem hl
  have q := o _ _ e
  unfold par
  rw [e, List.getD_eq_getElem?_getD, e]
  simp only [Option.getD_some]
  congr 1
  omega
/-- the positions from p up to the root, without it -/
def up (ps : List Nat) : Nat → List Nat
  | 0 => []
  | p + 1 => (p + 1) :: up ps (par ps (p + 1))
termination_by p => p
decreasing_by exact par_lt ps (by omega)
theorem up_zero (ps : List Nat) : up ps 0 = [] := by rw [up]
theorem up_pos (ps : List Nat) {p : Nat} (h : 1 ≤ p) : up ps p = p :: up ps (par ps p) := by
  obtain ⟨q, rfl⟩ : ∃ q, p = q + 1 := ⟨p - 1, by omega⟩
  rw [up]
theorem up_le (ps : List Nat) : ∀ (p : Nat) {w : Nat}, w ∈ up ps p → 1 ≤ w ∧ w ≤ p := by
  intro p
  induction p using Nat.strongRecOn with
  | _ p ih =>
    intro w h
    by_cases hp : 1 ≤ p
    · rw [up_pos ps hp, List.mem_cons] at h
      rcases h with rfl | h
      · omega
      · have l := par_lt ps hp
        have q := ih _ l h
        omega
    · obtain rfl : p = 0 := by omega
      rw [up_zero] at h
      cases h
theorem up_self (ps : List Nat) {p : Nat} (h : 1 ≤ p) : p ∈ up ps p := by rw [up_pos ps h]; exact List.mem_cons_self
theorem up_trans (ps : List Nat) : ∀ (p : Nat) {v w : Nat}, v ∈ up ps p → w ∈ up ps v → w ∈ up ps p := by
  intro p
  induction p using Nat.strongRecOn with
  | _ p ih =>
    intro v w h1 h2
    by_cases hp : 1 ≤ p
    · rw [up_pos ps hp, List.mem_cons] at h1
      rcases h1 with rfl | h1
      · exact h2
      · rw [up_pos ps hp]
        exact List.mem_cons_of_mem _ (ih _ (par_lt ps hp) h1 h2)
    · obtain rfl : p = 0 := by omega
      rw [up_zero] at h1
      cases h1
theorem up_cmp (ps : List Nat) : ∀ (p : Nat) {v w : Nat}, v ∈ up ps p → w ∈ up ps p → w ≤ v → w ∈ up ps v := by
  intro p
  induction p using Nat.strongRecOn with
  | _ p ih =>
    intro v w h1 h2 hl
    by_cases hp : 1 ≤ p
    · have h1' := h1
      rw [up_pos ps hp, List.mem_cons] at h1
      rcases h1 with rfl | h1
      · exact h2
      · have lt := par_lt ps hp
        have lv := up_le ps _ h1
        rw [up_pos ps hp, List.mem_cons] at h2
        rcases h2 with rfl | h2
        · omega
        · exact ih _ lt h1 h2 hl
    · obtain rfl : p = 0 := by omega
      rw [up_zero] at h1
      cases h1
/-- position p has side w -/
def has (ps : List Nat) (p w : Nat) : Bool := decide (w ∈ up ps p)
theorem has_iff {ps : List Nat} {p w : Nat} : has ps p w = true ↔ w ∈ up ps p := by unfold has; exact decide_eq_true_iff
theorem same_of {ps : List Nat} {n p q : Nat} (hp : p ≤ n) (hq : q ≤ n) (h : ∀ k, 1 ≤ k → k ≤ n → has ps p k = has ps q k) : p = q := by
  have one : ∀ {a b : Nat}, a ≤ n → (∀ k, 1 ≤ k → k ≤ n → has ps a k = has ps b k) → a ≤ b := by
    intro a b ha h
    by_cases h1 : 1 ≤ a
    · have e := h a h1 ha
      rw [has_iff.mpr (up_self ps h1)] at e
      exact (up_le ps _ (has_iff.mp e.symm)).2
    · omega
  have a := one hp h
  have b := one hq (fun k h1 h2 => (h k h1 h2).symm)
  omega
/-! ### branches as bits -/
/-- q stands in the branch of b, as far as the walls above j are taken over -/
def inB (ps : List Nat) (j b q : Nat) : Prop := q = b ∨ ∃ c, c ∈ up ps q ∧ par ps c = b ∧ j < c
theorem inB_far {ps : List Nat} {n b q : Nat} (hq : q ≤ n) : inB ps n b q ↔ q = b := by
  constructor
  · rintro (h | ⟨c, h1, _, h3⟩)
    · exact h
    · have := up_le ps _ h1; omega
  · exact Or.inl
/-- a child on the way -/
theorem child (ps : List Nat) : ∀ (q : Nat) {w : Nat}, w ∈ up ps q → q ≠ w → ∃ c, c ∈ up ps q ∧ par ps c = w := by
  intro q
  induction q using Nat.strongRecOn with
  | _ q ih =>
    intro w h hne
    by_cases hq : 1 ≤ q
    · rw [up_pos ps hq, List.mem_cons] at h
      rcases h with h | h
      · exact absurd h.symm hne
      · by_cases e : par ps q = w
        · exact ⟨q, up_self ps hq, e⟩
        · obtain ⟨c, h1, h2⟩ := ih _ (par_lt ps hq) h e
          exact ⟨c, by rw [up_pos ps hq]; exact List.mem_cons_of_mem _ h1, h2⟩
    · obtain rfl : q = 0 := by omega
      rw [up_zero] at h
      cases h
theorem par_mem (ps : List Nat) : ∀ (q : Nat) {c : Nat}, c ∈ up ps q → 1 ≤ par ps c → par ps c ∈ up ps q := by
  intro q c h h1
  have hc := (up_le ps _ h).1
  refine up_trans ps q h ?_
  rw [up_pos ps hc]
  exact List.mem_cons_of_mem _ (up_self ps h1)
theorem inB_self {ps : List Nat} {w q : Nat} (hw : 1 ≤ w) : inB ps w w q ↔ w ∈ up ps q := by
  constructor
  · rintro (rfl | ⟨c, h1, h2, _⟩)
    · exact up_self ps hw
    · rw [← h2]; exact par_mem ps q h1 (by omega)
  · intro h
    by_cases e : q = w
    · exact Or.inl e
    · obtain ⟨c, h1, h2⟩ := child ps q h e
      have hc := (up_le ps _ h1).1
      have := par_lt ps hc
      exact Or.inr ⟨c, h1, h2, by omega⟩
theorem inB_all {ps : List Nat} {w q : Nat} (hw : 1 ≤ w) : inB ps 0 w q ↔ w ∈ up ps q := by
  constructor
  · rintro (rfl | ⟨c, h1, h2, _⟩)
    · exact up_self ps hw
    · rw [← h2]; exact par_mem ps q h1 (by omega)
  · intro h
    rcases (inB_self hw).mpr h with e | ⟨c, h1, h2, h3⟩
    · exact Or.inl e
    · exact Or.inr ⟨c, h1, h2, by omega⟩
theorem inB_root (ps : List Nat) : ∀ q : Nat, inB ps 0 0 q := by
  intro q
  induction q using Nat.strongRecOn with
  | _ q ih =>
    by_cases hq : 1 ≤ q
    · by_cases e : par ps q = 0
      · exact Or.inr ⟨q, up_self ps hq, e, hq⟩
      · rcases ih _ (par_lt ps hq) with h | ⟨c, h1, h2, h3⟩
        · exact absurd h e
        · exact Or.inr ⟨c, by rw [up_pos ps hq]; exact List.mem_cons_of_mem _ h1, h2, h3⟩
    · exact Or.inl (by omega)
theorem inB_step {ps : List Nat} {j b q : Nat} : inB ps j b q ↔ inB ps (j + 1) b q ∨ (par ps (j + 1) = b ∧ (j + 1) ∈ up ps q) := by
  constructor
  · rintro (h | ⟨c, h1, h2, h3⟩)
    · exact Or.inl (Or.inl h)
    · by_cases e : c = j + 1
      · subst e; exact Or.inr ⟨h2, h1⟩
      · exact Or.inl (Or.inr ⟨c, h1, h2, by omega⟩)
  · rintro ((h | ⟨c, h1, h2, h3⟩) | ⟨h1, h2⟩)
    · exact Or.inl h
    · exact Or.inr ⟨c, h1, h2, by omega⟩
    · exact Or.inr ⟨j + 1, h2, h1, by omega⟩
/-- m holds the branch of b among the positions up to n -/
def Bits (ps : List Nat) (n j b m : Nat) : Prop := ∀ q, m.testBit q = true ↔ q ≤ n ∧ inB ps j b q
theorem bits_start {ps : List Nat} {n b : Nat} (hb : b ≤ n) : Bits ps n n b (2 ^ b) := by
  intro q
  rw [Nat.testBit_two_pow]
  simp only [decide_eq_true_eq]
  constructor
  · rintro rfl; exact ⟨hb, Or.inl rfl⟩
  · rintro ⟨h1, h2⟩; exact ((inB_far h1).mp h2).symm
theorem bits_or {ps : List Nat} {n j mb mw : Nat} (hb : Bits ps n (j + 1) (par ps (j + 1)) mb) (hw : Bits ps n (j + 1) (j + 1) mw) : Bits ps n j (par ps (j + 1)) (mb ||| mw) := by
  intro q
  rw [Nat.testBit_or, Bool.or_eq_true, hb q, hw q, inB_step (j := j) (b := par ps (j + 1)), inB_self (by omega)]
  constructor
  · rintro (⟨h1, h2⟩ | ⟨h1, h2⟩)
    · exact ⟨h1, Or.inl h2⟩
    · exact ⟨h1, Or.inr ⟨rfl, h2⟩⟩
  · rintro ⟨h1, h2 | ⟨_, h2⟩⟩
    · exact Or.inl ⟨h1, h2⟩
    · exact Or.inr ⟨h1, h2⟩
theorem bits_keep {ps : List Nat} {n j b m : Nat} (h : Bits ps n (j + 1) b m) (hb : par ps (j + 1) ≠ b) : Bits ps n j b m := by
  intro q
  rw [h q, inB_step (j := j) (b := b)]
  constructor
  · rintro ⟨h1, h2⟩; exact ⟨h1, Or.inl h2⟩
  · rintro ⟨h1, h2 | ⟨h2, _⟩⟩
    · exact ⟨h1, h2⟩
    · exact absurd h2 hb
theorem bits_root {ps : List Nat} {n m : Nat} (h : Bits ps n 0 0 m) : m = 2 ^ (n + 1) - 1 := by
  apply Nat.eq_of_testBit_eq
  intro q
  rw [Nat.testBit_two_pow_sub_one]
  by_cases e : q ≤ n
  · rw [(h q).mpr ⟨e, inB_root ps q⟩]
    exact (decide_eq_true (by omega)).symm
  · have z : m.testBit q = false := by
      cases hz : m.testBit q with
      | false => rfl
      | true => exact absurd ((h q).mp hz).1 e
    rw [z]
    exact (decide_eq_false (by omega)).symm
theorem bits_lt {ps : List Nat} {n j b m : Nat} (h : Bits ps n j b m) : m < 2 ^ (n + 1) := by
  apply Nat.lt_pow_two_of_testBit
  intro q hq
  cases hz : m.testBit q with
  | false => rfl
  | true => exact absurd ((h q).mp hz).1 (by omega)
/-- the mask of side w, of side -w -/
theorem mask_pos {ps : List Nat} {n w m p : Nat} (hw : 1 ≤ w) (hp : p ≤ n) (h : Bits ps n 0 w m) : m.testBit p = has ps p w := by
  have e := h p
  rw [inB_all hw] at e
  cases hz : has ps p w with
  | true => exact e.mpr ⟨hp, has_iff.mp hz⟩
  | false =>
    cases hm : m.testBit p with
    | false => rfl
    | true =>
      have := has_iff.mpr (e.mp hm).2
      rw [hz] at this
      cases this
theorem mask_neg {ps : List Nat} {n w m m0 p : Nat} (hw : 1 ≤ w) (hp : p ≤ n) (h : Bits ps n 0 w m) (h0 : Bits ps n 0 0 m0) : (m0 - m).testBit p = !has ps p w := by
  rw [bits_root h0]
  have l := bits_lt h
  have e : 2 ^ (n + 1) - 1 - m = 2 ^ (n + 1) - (m + 1) := by omega
  rw [e, Nat.testBit_two_pow_sub_succ l, mask_pos hw hp h, decide_eq_true (show p < n + 1 by omega)]
  rfl
theorem mask_le {ps : List Nat} {n w m m0 : Nat} (h : Bits ps n 0 w m) (h0 : Bits ps n 0 0 m0) : m ≤ m0 := by
  have l := bits_lt h
  rw [bits_root h0]
  omega
/-! ### the middle of an odd number of positions -/
def maj (ps : List Nat) (l : List Nat) (w : Nat) : Bool := decide (l.length < 2 * l.countP fun p => has ps p w)
/-- the greatest wall up to w whose branch holds more than half of them, or 0 -/
def mid (ps : List Nat) (l : List Nat) : Nat → Nat
  | 0 => 0
  | w + 1 => if maj ps l (w + 1) = true then w + 1 else mid ps l w
theorem mid_le (ps : List Nat) (l : List Nat) : ∀ n, mid ps l n ≤ n
  | 0 => Nat.le_refl 0
  | w + 1 => by
    unfold mid
    split
    · exact Nat.le_refl _
    · have := mid_le ps l w; omega
theorem mid_ge (ps : List Nat) (l : List Nat) : ∀ n {w : Nat}, 1 ≤ w → w ≤ n → maj ps l w = true → w ≤ mid ps l n
  | 0, w, h1, h2, _ => by omega
  | n + 1, w, h1, h2, h => by
    unfold mid
    split
    · exact h2
    · rename_i hn
      by_cases e : w = n + 1
      · subst e; exact absurd h hn
      · exact mid_ge ps l n h1 (by omega) h
theorem mid_maj (ps : List Nat) (l : List Nat) : ∀ n, 1 ≤ mid ps l n → maj ps l (mid ps l n) = true
  | 0, h => by unfold mid at h; omega
  | n + 1, h => by
    unfold mid at h ⊢
    split
    · assumption
    · rename_i hn
      rw [if_neg hn] at h
      exact mid_maj ps l n h
theorem two_maj {α : Type} (f g : α → Bool) : ∀ l : List α, l.length < l.countP f + l.countP g → ∃ x, x ∈ l ∧ f x = true ∧ g x = true
  | [], h => by simp at h
  | x :: l, h => by
    by_cases hx : f x = true ∧ g x = true
    · exact ⟨x, List.mem_cons_self, hx.1, hx.2⟩
    · have h2 : l.length < l.countP f + l.countP g := by
        rw [List.countP_cons, List.countP_cons, List.length_cons] at h
        cases hf : f x <;> cases hg : g x <;> simp [hf, hg] at h hx <;> omega
      obtain ⟨y, hy, h3⟩ := two_maj f g l h2
      exact ⟨y, List.mem_cons_of_mem _ hy, h3⟩
theorem mid_has {ps : List Nat} {l : List Nat} {n k : Nat} (h1 : 1 ≤ k) (hk : k ≤ n) : has ps (mid ps l n) k = maj ps l k := by
  cases hm : maj ps l k with
  | true =>
    have hge := mid_ge ps l n h1 hk hm
    have hmm := mid_maj ps l n (by omega)
    unfold maj at hm hmm
    have a := of_decide_eq_true hm
    have b := of_decide_eq_true hmm
    obtain ⟨x, _, hx1, hx2⟩ := two_maj (fun p => has ps p k) (fun p => has ps p (mid ps l n)) l (by omega)
    exact has_iff.mpr (up_cmp ps x (has_iff.mp hx2) (has_iff.mp hx1) hge)
  | false =>
    cases hh : has ps (mid ps l n) k with
    | false => rfl
    | true =>
      have hu := has_iff.mp hh
      have h2 := up_le ps _ hu
      have hmm := mid_maj ps l n (by omega)
      unfold maj at hm hmm
      have b := of_decide_eq_true hmm
      have a := of_decide_eq_false hm
      have c : l.countP (fun p => has ps p (mid ps l n)) ≤ l.countP fun p => has ps p k := List.countP_mono_left fun x _ hx => has_iff.mpr (up_trans ps x (has_iff.mp hx) hu)
      omega
/-- the sides' numbers that a position has -/
def side (ps : List Nat) (p k : Nat) : Int := if has ps p k = true then (k : Int) else 0 - (k : Int)
theorem side_eq {ps : List Nat} {p q k : Nat} (h : 1 ≤ k) : side ps p k = side ps q k ↔ has ps p k = has ps q k := by
  unfold side
  cases has ps p k <;> cases has ps q k <;> simp <;> omega
/-- between in the law's words -/
def betw (ps : List Nat) (n p a b : Nat) : Prop := ∀ k, 1 ≤ k → k ≤ n → side ps a k = side ps b k → side ps p k = side ps a k
theorem middle3 {ps : List Nat} {n p a b c : Nat} (hp : p ≤ n) : (betw ps n p a b ∧ betw ps n p b c ∧ betw ps n p c a) ↔ p = mid ps [a, b, c] n := by
  have m3 : ∀ k, maj ps [a, b, c] k = ((has ps a k && has ps b k) || (has ps b k && has ps c k) || (has ps c k && has ps a k)) := by
    intro k
    unfold maj
    simp only [List.countP_cons, List.countP_nil, List.length_cons, List.length_nil]
    cases has ps a k <;> cases has ps b k <;> cases has ps c k <;> decide
  constructor
  · rintro ⟨h1, h2, h3⟩
    refine same_of (ps := ps) hp (mid_le ps _ n) fun k k1 k2 => ?_
    rw [mid_has k1 k2, m3]
    have a1 := h1 k k1 k2
    have a2 := h2 k k1 k2
    have a3 := h3 k k1 k2
    rw [side_eq k1, side_eq k1] at a1 a2 a3
    revert a1 a2 a3
    cases has ps a k <;> cases has ps b k <;> cases has ps c k <;> cases has ps p k <;> simp
  · rintro rfl
    refine ⟨?_, ?_, ?_⟩ <;> (intro k k1 k2; rw [side_eq k1, side_eq k1, mid_has k1 k2, m3]; cases has ps a k <;> cases has ps b k <;> cases has ps c k <;> simp)
/-- which order the three stand in makes no difference -/
theorem mid_perm {ps : List Nat} {l l' : List Nat} (h : l.Perm l') : ∀ n, mid ps l n = mid ps l' n
  | 0 => rfl
  | n + 1 => by
    have e : maj ps l (n + 1) = maj ps l' (n + 1) := by
      unfold maj
      rw [h.length_eq, h.countP_eq]
    unfold mid
    rw [e, mid_perm h n]
end Tr
/-! Ways in a small tree. -/
namespace Tr
/-- the positions from p up to the root -/
def ch (ps : List Nat) (p : Nat) : List Nat := up ps p ++ [0]
theorem ch_zero (ps : List Nat) : ch ps 0 = [0] := by unfold ch; rw [up_zero]; rfl
theorem ch_pos (ps : List Nat) {p : Nat} (h : 1 ≤ p) : ch ps p = p :: ch ps (par ps p) := by unfold ch; rw [up_pos ps h]; rfl
theorem ch_le {ps : List Nat} {p x : Nat} (h : x ∈ ch ps p) : x ≤ p := by
  unfold ch at h
  rcases List.mem_append.mp h with h | h
  · exact (up_le ps _ h).2
  · rw [List.mem_singleton.mp h]; omega
theorem ch_head (ps : List Nat) (p : Nat) : ∃ r, ch ps p = p :: r := by
  by_cases h : 1 ≤ p
  · exact ⟨_, ch_pos ps h⟩
  · obtain rfl : p = 0 := by omega
    exact ⟨[], ch_zero ps⟩
theorem mem_ch {ps : List Nat} {p x : Nat} (hx : 1 ≤ x) : x ∈ ch ps p ↔ x ∈ up ps p := by
  unfold ch
  rw [List.mem_append, List.mem_singleton]
  constructor
  · rintro (h | h)
    · exact h
    · omega
  · exact Or.inl
theorem ch_nodup (ps : List Nat) : ∀ p : Nat, (ch ps p).Nodup := by
  intro p
  induction p using Nat.strongRecOn with
  | _ p ih =>
    by_cases h : 1 ≤ p
    · rw [ch_pos ps h]
      refine List.nodup_cons.mpr ⟨fun m => ?_, ih _ (par_lt ps h)⟩
      have := ch_le m
      have := par_lt ps h
      omega
    · obtain rfl : p = 0 := by omega
      rw [ch_zero]
      exact List.nodup_cons.mpr ⟨List.not_mem_nil, List.nodup_nil⟩
/-- where two climbs meet -/
theorem meet (ps : List Nat) : ∀ (s a b : Nat), a + b ≤ s → ∃ A B m, ch ps a = A ++ ch ps m ∧ ch ps b = B ++ ch ps m ∧ (∀ x, x ∈ A → x ∉ ch ps b) ∧ ∀ x, x ∈ B → x ∉ ch ps a := by
  intro s
  induction s with
  | zero =>
    intro a b h
    obtain rfl : a = 0 := by omega
    obtain rfl : b = 0 := by omega
    exact ⟨[], [], 0, rfl, rfl, fun x h => absurd h List.not_mem_nil, fun x h => absurd h List.not_mem_nil⟩
  | succ s ih =>
    intro a b h
    by_cases e : a = b
    · subst e
      exact ⟨[], [], a, rfl, rfl, fun x h => absurd h List.not_mem_nil, fun x h => absurd h List.not_mem_nil⟩
    · by_cases l : b < a
      · have a1 : 1 ≤ a := by omega
        have pl := par_lt ps a1
        obtain ⟨A, B, m, h1, h2, h3, h4⟩ := ih (par ps a) b (by omega)
        refine ⟨a :: A, B, m, by rw [ch_pos ps a1, h1]; rfl, h2, fun x hx => ?_, fun x hx hm => ?_⟩
        · rcases List.mem_cons.mp hx with rfl | hx
          · intro hm
            have := ch_le hm
            omega
          · exact h3 x hx
        · rw [ch_pos ps a1] at hm
          rcases List.mem_cons.mp hm with rfl | hm
          · have : x ∈ ch ps b := by rw [h2]; exact List.mem_append_left _ hx
            have := ch_le this
            omega
          · exact h4 x hx hm
      · have b1 : 1 ≤ b := by omega
        have pl := par_lt ps b1
        obtain ⟨A, B, m, h1, h2, h3, h4⟩ := ih a (par ps b) (by omega)
        refine ⟨A, b :: B, m, h1, by rw [ch_pos ps b1, h2]; rfl, fun x hx hm => ?_, fun x hx => ?_⟩
        · rw [ch_pos ps b1] at hm
          rcases List.mem_cons.mp hm with rfl | hm
          · have : x ∈ ch ps a := by rw [h1]; exact List.mem_append_left _ hx
            have := ch_le this
            omega
          · exact h3 x hx hm
        · rcases List.mem_cons.mp hx with rfl | hx
          · intro hm
            have := ch_le hm
            omega
          · exact h4 x hx
theorem filter_out {α : Type} {f : α → Bool} {A C : List α} (h1 : ∀ x, x ∈ A → f x = true) (h2 : ∀ x, x ∈ C → f x = false) : (A ++ C).filter f = A := by
  rw [List.filter_append, List.filter_eq_self.mpr h1]
  have : C.filter f = [] := List.filter_eq_nil_iff.mpr fun x hx => by rw [h2 x hx]; exact Bool.false_ne_true
  rw [this, List.append_nil]
/-- the way in the program's words -/
def before (ps : List Nat) (a b : Nat) : List Nat := (ch ps a).filter fun x => decide (x ∉ ch ps b)
def way (ps : List Nat) (a b : Nat) : List Nat := before ps a b ++ [(ch ps a).getD (before ps a b).length 0] ++ (before ps b a).reverse
theorem way_is {ps : List Nat} (a b : Nat) : ∃ A B m, ch ps a = A ++ ch ps m ∧ ch ps b = B ++ ch ps m ∧ (∀ x, x ∈ A → x ∉ ch ps b) ∧ (∀ x, x ∈ B → x ∉ ch ps a) ∧ before ps a b = A ∧ before ps b a = B ∧ (ch ps a)[A.length]? = some m ∧ way ps a b = A ++ [m] ++ B.reverse := by
  obtain ⟨A, B, m, h1, h2, h3, h4⟩ := meet ps (a + b) a b (Nat.le_refl _)
  have e1 : before ps a b = A := by
    unfold before
    conv => lhs; rw [h1]
    refine filter_out (fun x hx => decide_eq_true (h3 x hx)) fun x hx => decide_eq_false fun z => z ?_
    rw [h2]
    exact List.mem_append_right _ hx
  have e2 : before ps b a = B := by
    unfold before
    conv => lhs; rw [h2]
    refine filter_out (fun x hx => decide_eq_true (h4 x hx)) fun x hx => decide_eq_false fun z => z ?_
    rw [h1]
    exact List.mem_append_right _ hx
  obtain ⟨r, hr⟩ := ch_head ps m
  have e3 : (ch ps a)[A.length]? = some m := by rw [h1, hr, List.getElem?_append_right (Nat.le_refl _)]; simp
  refine ⟨A, B, m, h1, h2, h3, h4, e1, e2, e3, ?_⟩
  unfold way
  rw [e1, e2, List.getD_eq_getElem?_getD, e3]
  rfl
theorem way_back {ps : List Nat} (a b : Nat) : way ps b a = (way ps a b).reverse := by
  obtain ⟨A, B, m, h1, h2, h3, h4, e1, e2, e3, e⟩ := way_is (ps := ps) a b
  obtain ⟨r, hr⟩ := ch_head ps m
  have e4 : (ch ps b)[B.length]? = some m := by rw [h2, hr, List.getElem?_append_right (Nat.le_refl _)]; simp
  rw [e]
  unfold way
  rw [e1, e2, List.getD_eq_getElem?_getD, e4]
  simp
/-! ### neighbours -/
def Nb (ps : List Nat) (x y : Nat) : Prop := (1 ≤ x ∧ y = par ps x) ∨ (1 ≤ y ∧ x = par ps y)
def Adj (R : Nat → Nat → Prop) : List Nat → Prop
  | [] => True
  | [_] => True
  | x :: y :: l => R x y ∧ Adj R (y :: l)
theorem adj_at {R : Nat → Nat → Prop} : ∀ {l : List Nat} {i x y : Nat}, Adj R l → l[i]? = some x → l[i + 1]? = some y → R x y
  | [], _, _, _, _, h, _ => by simp at h
  | [_], i, _, _, _, _, h => by simp at h
  | a :: b :: l, 0, x, y, h, h1, h2 => by
    simp at h1 h2
    subst h1 h2
    exact h.1
  | a :: b :: l, i + 1, x, y, h, h1, h2 => adj_at (i := i) h.2 (by simpa using h1) (by simpa using h2)
theorem adj_left {R : Nat → Nat → Prop} : ∀ {l r : List Nat}, Adj R (l ++ r) → Adj R l
  | [], _, _ => trivial
  | [_], _, _ => trivial
  | a :: b :: l, r, h => ⟨h.1, adj_left (l := b :: l) (r := r) h.2⟩
theorem adj_join {R : Nat → Nat → Prop} {m : Nat} : ∀ {l r : List Nat}, Adj R (l ++ [m]) → Adj R (m :: r) → Adj R (l ++ m :: r)
  | [], _, _, h => h
  | [a], r, h1, h2 => ⟨h1.1, h2⟩
  | a :: b :: l, r, h1, h2 => ⟨h1.1, adj_join (l := b :: l) h1.2 h2⟩
theorem adj_snoc {R : Nat → Nat → Prop} {x : Nat} : ∀ {l : List Nat} {y : Nat}, Adj R (l ++ [y]) → R y x → Adj R (l ++ [y] ++ [x])
  | [], y, _, h => ⟨h, trivial⟩
  | [a], y, h1, h => ⟨h1.1, h, trivial⟩
  | a :: b :: l, y, h1, h => ⟨h1.1, adj_snoc (l := b :: l) h1.2 h⟩
theorem adj_rev {R : Nat → Nat → Prop} (sy : ∀ x y, R x y → R y x) : ∀ {l : List Nat}, Adj R l → Adj R l.reverse
  | [], _ => trivial
  | [_], _ => trivial
  | a :: b :: l, h => by
    have ih := adj_rev sy (l := b :: l) h.2
    rw [List.reverse_cons, List.reverse_cons] at *
    exact adj_snoc ih (sy _ _ h.1)
theorem adj_ch (ps : List Nat) : ∀ p : Nat, Adj (Nb ps) (ch ps p) := by
  intro p
  induction p using Nat.strongRecOn with
  | _ p ih =>
    by_cases h : 1 ≤ p
    · obtain ⟨r, hr⟩ := ch_head ps (par ps p)
      have i := ih _ (par_lt ps h)
      rw [ch_pos ps h, hr] at *
      exact ⟨Or.inl ⟨h, rfl⟩, i⟩
    · obtain rfl : p = 0 := by omega
      rw [ch_zero]
      trivial
theorem nb_sym {ps : List Nat} (x y : Nat) (h : Nb ps x y) : Nb ps y x := h.elim Or.inr Or.inl
theorem way_adj (ps : List Nat) (a b : Nat) : Adj (Nb ps) (way ps a b) := by
  obtain ⟨A, B, m, h1, h2, h3, h4, e1, e2, e3, e⟩ := way_is (ps := ps) a b
  obtain ⟨r, hr⟩ := ch_head ps m
  rw [e, List.append_assoc]
  have a1 : Adj (Nb ps) (A ++ [m]) := by
    have := adj_ch ps a
    rw [h1, hr, show A ++ m :: r = (A ++ [m]) ++ r by simp] at this
    exact adj_left this
  have b1 : Adj (Nb ps) (B ++ [m]) := by
    have := adj_ch ps b
    rw [h2, hr, show B ++ m :: r = (B ++ [m]) ++ r by simp] at this
    exact adj_left this
  have b2 := adj_rev nb_sym b1
  rw [List.reverse_append] at b2
  exact adj_join a1 b2
theorem way_nodup (ps : List Nat) (a b : Nat) : (way ps a b).Nodup := by
  obtain ⟨A, B, m, h1, h2, h3, h4, e1, e2, e3, e⟩ := way_is (ps := ps) a b
  obtain ⟨r, hr⟩ := ch_head ps m
  have na := ch_nodup ps a
  have nb := ch_nodup ps b
  rw [h1, hr] at na
  rw [h2, hr] at nb
  rw [e, List.append_assoc]
  have mb : m ∈ ch ps b := by rw [h2, hr]; simp
  have ma : m ∈ ch ps a := by rw [h1, hr]; simp
  refine List.nodup_append.mpr ⟨(List.nodup_append.mp na).1, ?_, ?_⟩
  · refine List.nodup_cons.mpr ⟨fun hm => h4 m (List.mem_reverse.mp hm) ma, (List.reverse_perm B).nodup_iff.mpr (List.nodup_append.mp nb).1⟩
  · rintro x hx y hy rfl
    rcases List.mem_cons.mp hy with rfl | hy
    · exact h3 x hx mb
    · refine h3 x hx ?_
      rw [h2]
      exact List.mem_append_left _ (List.mem_reverse.mp hy)
theorem way_le {ps : List Nat} {a b n x : Nat} (ha : a ≤ n) (hb : b ≤ n) (h : x ∈ way ps a b) : x ≤ n := by
  obtain ⟨A, B, m, h1, h2, h3, h4, e1, e2, e3, e⟩ := way_is (ps := ps) a b
  rw [e] at h
  obtain ⟨r, hr⟩ := ch_head ps m
  have ia : ∀ y, y ∈ A ∨ y = m → y ≤ a := fun y hy => ch_le (ps := ps) (by rw [h1, hr]; rcases hy with hy | rfl <;> simp [*])
  have ib : ∀ y, y ∈ B → y ≤ b := fun y hy => ch_le (ps := ps) (by rw [h2]; simp [hy])
  simp only [List.mem_append, List.mem_singleton, List.mem_reverse] at h
  rcases h with (h | h) | h
  · have := ia x (Or.inl h); omega
  · have := ia x (Or.inr h); omega
  · have := ib x h; omega
theorem way_first (ps : List Nat) (a b : Nat) : (way ps a b)[0]? = some a := by
  obtain ⟨A, B, m, h1, h2, h3, h4, e1, e2, e3, e⟩ := way_is (ps := ps) a b
  obtain ⟨r, hr⟩ := ch_head ps m
  obtain ⟨q, hq⟩ := ch_head ps a
  rw [e]
  rw [h1, hr] at hq
  cases A with
  | nil => simp at hq ⊢; exact hq.1
  | cons x A => simp at hq ⊢; exact hq.1
theorem way_last (ps : List Nat) (a b : Nat) : (way ps a b)[(way ps a b).length - 1]? = some b := by
  have e := way_first ps b a
  rw [way_back] at e
  have hl : 0 < (way ps a b).length := by
    cases z : way ps a b with
    | nil => rw [z] at e; simp at e
    | cons x l => simp
  rw [List.getElem?_reverse (by omega)] at e
  exact e
/-- the walls that part a and b -/
def partw (ps : List Nat) (a b k : Nat) : Bool := has ps a k != has ps b k
def parting (ps : List Nat) (a b : Nat) : List Nat := ((List.range ps.length).map (· + 1)).filter fun k => partw ps a b k
theorem parting_nodup (ps : List Nat) (a b : Nat) : (parting ps a b).Nodup := by
  unfold parting
  refine List.Nodup.sublist List.filter_sublist ?_
  exact List.pairwise_map.mpr (List.Pairwise.imp (fun {x y} (h : x ≠ y) => by omega) List.nodup_range)
theorem way_len {ps : List Nat} {a b : Nat} (ha : a ≤ ps.length) (hb : b ≤ ps.length) : (way ps a b).length = (parting ps a b).length + 1 := by
  obtain ⟨A, B, m, h1, h2, h3, h4, e1, e2, e3, e⟩ := way_is (ps := ps) a b
  obtain ⟨r, hr⟩ := ch_head ps m
  have na := ch_nodup ps a
  have nb := ch_nodup ps b
  rw [h1] at na
  rw [h2] at nb
  have nab : (A ++ B).Nodup := by
    refine List.nodup_append.mpr ⟨(List.nodup_append.mp na).1, (List.nodup_append.mp nb).1, ?_⟩
    rintro x hx y hy rfl
    refine h3 x hx ?_
    rw [h2]
    exact List.mem_append_left _ hy
  have za : (0 : Nat) ∈ ch ps a := by unfold ch; simp
  have zb : (0 : Nat) ∈ ch ps b := by unfold ch; simp
  have mem : ∀ k, k ∈ parting ps a b ↔ k ∈ A ++ B := by
    intro k
    unfold parting
    rw [List.mem_filter, List.mem_map, List.mem_append]
    constructor
    · rintro ⟨⟨j, hj, rfl⟩, hp⟩
      unfold partw at hp
      by_cases c : has ps a (j + 1) = true
      · have d : ¬ has ps b (j + 1) = true := by
          intro d
          rw [c, d] at hp
          exact absurd hp (by decide)
        have ma := (mem_ch (ps := ps) (p := a) (x := j + 1) (by omega)).mpr (has_iff.mp c)
        have mb : ¬ (j + 1) ∈ ch ps b := fun z => d (has_iff.mpr ((mem_ch (by omega)).mp z))
        rw [h1] at ma
        rcases List.mem_append.mp ma with h | h
        · exact Or.inl h
        · exact absurd (by rw [h2]; exact List.mem_append_right _ h) mb
      · have d : has ps b (j + 1) = true := by
          cases hb' : has ps b (j + 1) with
          | true => rfl
          | false =>
            have c' : has ps a (j + 1) = false := by simpa using c
            rw [c', hb'] at hp
            exact absurd hp (by decide)
        have mb := (mem_ch (ps := ps) (p := b) (x := j + 1) (by omega)).mpr (has_iff.mp d)
        have ma : ¬ (j + 1) ∈ ch ps a := fun z => c (has_iff.mpr ((mem_ch (by omega)).mp z))
        rw [h2] at mb
        rcases List.mem_append.mp mb with h | h
        · exact Or.inr h
        · exact absurd (by rw [h1]; exact List.mem_append_right _ h) ma
    · intro h
      have one : ∀ x, (x = 0 → False) → 1 ≤ x := fun x hx => by
        by_cases z : x = 0
        · exact (hx z).elim
        · omega
      rcases h with h | h
      · have k1 := one k fun z => h3 k h (by rw [z]; exact zb)
        have ka : k ∈ ch ps a := by rw [h1]; exact List.mem_append_left _ h
        have kl := ch_le ka
        refine ⟨⟨k - 1, List.mem_range.mpr (by omega), by omega⟩, ?_⟩
        have x1 : has ps a k = true := has_iff.mpr ((mem_ch k1).mp ka)
        have x2 : has ps b k = false := by
          cases z : has ps b k with
          | false => rfl
          | true => exact absurd ((mem_ch k1).mpr (has_iff.mp z)) (h3 k h)
        unfold partw
        rw [x1, x2]
        rfl
      · have k1 := one k fun z => h4 k h (by rw [z]; exact za)
        have kb : k ∈ ch ps b := by rw [h2]; exact List.mem_append_left _ h
        have kl := ch_le kb
        refine ⟨⟨k - 1, List.mem_range.mpr (by omega), by omega⟩, ?_⟩
        have x1 : has ps b k = true := has_iff.mpr ((mem_ch k1).mp kb)
        have x2 : has ps a k = false := by
          cases z : has ps a k with
          | false => rfl
          | true => exact absurd ((mem_ch k1).mpr (has_iff.mp z)) (h4 k h)
        unfold partw
        rw [x1, x2]
        rfl
  have pm := (List.perm_ext_iff_of_nodup (parting_nodup ps a b) nab).mpr mem
  rw [pm.length_eq, e]
  simp
  omega
theorem mem_bool (ps : List Nat) (a k : Nat) : decide (k ∈ up ps a) = has ps a k := rfl
end Tr
namespace EP
open PySem L2 PySem.Spec PyProof.Rows
theorem hu64_of {A : Around} {k : Nat} (hr : Room k A) : A.units + 64 < cLine := by have := hr.un; omega
/-! ### a shape's attributes -/
def shf (t d : Addr) (n : Nat) : List (Str × V) := [("parents", .ref t), ("size", .int n), ("_masks", .ref d)]
theorem shf_parents {t d : Addr} {n : Nat} : (shf t d n).lookup ("parents" : Str) = some (.ref t) := by first | rfl | kernel_rfl
theorem shf_size {t d : Addr} {n : Nat} : (shf t d n).lookup ("size" : Str) = some (.int n) := by first | rfl | kernel_rfl
theorem shf_masks {t d : Addr} {n : Nat} : (shf t d n).lookup ("_masks" : Str) = some (.ref d) := by first | rfl | kernel_rfl
def nvs (ps : List Nat) : List V := ps.map (fun (p : Nat) => V.int (p : Int))
/-- side k of a shape of size n -/
def IsSide (n : Nat) (k : Int) : Prop := k ≠ 0 ∧ -(n : Int) ≤ k ∧ k ≤ n
def IsPos (n : Nat) (p : Int) : Prop := 0 ≤ p ∧ p ≤ n
instance (n : Nat) (k : Int) : Decidable (IsSide n k) := by unfold IsSide; exact inferInstance
instance (n : Nat) (p : Int) : Decidable (IsPos n p) := by unfold IsPos; exact inferInstance
/-- position p has side k -/
def hasS (ps : List Nat) (p k : Int) : Bool := if 0 < k then Tr.has ps p.toNat k.toNat else !Tr.has ps p.toNat (-k).toNat
def MasksOk (ps : List Nat) (kvs : List (Key × V)) : Prop := ∀ w, 1 ≤ w → w ≤ ps.length → ∃ m m' : Nat, valV kvs (.inl (w : Int)) = some (.int m) ∧ valV kvs (.inl (-(w : Int))) = some (.int m') ∧
  ∀ p, p ≤ ps.length → m.testBit p = Tr.has ps p w ∧ m'.testBit p = !Tr.has ps p w
theorem bit_is (m p : Nat) : Builtin.bitAnd ((m : Int) / 2 ^ ((p : Int)).toNat) 1 = if m.testBit p = true then 1 else 0 := by
  rw [PyProof.Rows.bitAnd_m1]
  have e : ((m : Int) / 2 ^ ((p : Int)).toNat) = ((m / 2 ^ p : Nat) : Int) := by
    rw [Int.toNat_natCast]
    norm_cast
  rw [e]
  have : m.testBit p = decide (m / 2 ^ p % 2 = 1) := by
    rw [Nat.testBit_eq_decide_div_mod_eq]
  rw [this]
  by_cases h : m / 2 ^ p % 2 = 1
  · rw [if_pos (decide_eq_true h)]; omega
  · rw [if_neg (by simpa using h)]; omega
theorem mask_of {ps : List Nat} {kvs : List (Key × V)} (M : MasksOk ps kvs) {p k : Int} (hp : IsPos ps.length p) (hk : IsSide ps.length k) : ∃ m : Nat, valV kvs (.inl k) = some (.int m) ∧ m.testBit p.toNat = hasS ps p k := by
  obtain ⟨h1, h2, h3⟩ := hk
  obtain ⟨h4, h5⟩ := hp
  unfold hasS
  by_cases h0 : 0 < k
  · obtain ⟨m, m', e1, e2, e3⟩ := M k.toNat (by omega) (by omega)
    rw [show ((k.toNat : Nat) : Int) = k by omega] at e1
    exact ⟨m, e1, by rw [if_pos h0]; exact (e3 p.toNat (by omega)).1⟩
  · obtain ⟨m, m', e1, e2, e3⟩ := M (-k).toNat (by omega) (by omega)
    rw [show -(((-k).toNat : Nat) : Int) = k by omega] at e2
    exact ⟨m', e2, by rw [if_neg h0]; exact (e3 p.toNat (by omega)).2⟩
/-- a Shape of these parents stands at s -/
structure ShapeAt (K : PySem.W.Frag) (C : Addr) (H : Hp) (s : Addr) (ps : List Nat) : Prop where
  ok : Tr.Ok ps
  pos : 1 ≤ ps.length
  small : ps.length ≤ 1000
  at_ : ∃ dx t d kvs, H s = some (.ins C dx (shf t d ps.length)) ∧ SqT K H t (nvs ps) ∧ H d = some (.dK kvs) ∧ MasksOk ps kvs
theorem SqT_same {K : PySem.W.Frag} {H H' : Hp} {a : Addr} {xs : List V} (e : Same H H') (h : SqT K H a xs) : SqT K H' a xs := by
  rcases h with h | h
  · refine Or.inl ?_
    rcases h with h | ⟨o, h⟩
    · exact Or.inl (e a _ h)
    · exact Or.inr ⟨o, e a _ h⟩
  · exact Or.inr h
theorem ShapeAt.same {K : PySem.W.Frag} {C : Addr} {H H' : Hp} {s : Addr} {ps : List Nat} (S : ShapeAt K C H s ps) (e : Same H H') : ShapeAt K C H' s ps := by
  obtain ⟨o, p, sm, dx, t, d, kvs, h1, h2, h3, h4⟩ := S
  exact ⟨o, p, sm, dx, t, d, kvs, e _ _ h1, SqT_same e h2, e _ _ h3, h4⟩
def Small (i : Int) : Prop := i.natAbs < 2 ^ 100
theorem Small.ok {i : Int} (h : Small i) {H : Hp} : IntS (.int i) H := ⟨i, rfl, int_small (Nat.lt_trans h (by decide))⟩
theorem same_new {H : Hp} {d : Addr} {o : HO} (h : H d = none) : Same H (upd H d o) := fun b u e => by
  rw [upd_ne (ne_of_none e h)]
  exact e
end EP
namespace EP
open PySem L2
theorem notIte {A B : Prop} {b : Bool} (ht : b = true → B) (hf : b = false → A) : if (!b) = true then A else B := by
  cases b with
  | true => exact iteF (ht rfl)
  | false => exact iteT (hf rfl)
theorem boolIte {A B : Prop} {b : Bool} (ht : b = true → A) (hf : b = false → B) : if b = true then A else B := by
  cases b with
  | true => exact iteT (ht rfl)
  | false => exact iteF (hf rfl)
theorem ifT {A B : Prop} {b : Bool} (e : b = true) (h : A) : if b = true then A else B := by rw [e]; exact iteT h
theorem ifF {A B : Prop} {b : Bool} (e : b = false) (h : B) : if b = true then A else B := by rw [e]; exact iteF h
theorem shr_ok (m : Nat) (p : Int) : Builtin.bitAnd ((m : Int) / 2 ^ p.toNat) 1 = if m.testBit p.toNat = true then 1 else 0 := by
  have := bit_is m p.toNat
  rw [Int.toNat_natCast] at this
  exact this
end EP
namespace EP
open PySem L2
theorem nvs_len (ps : List Nat) : (nvs ps).length = ps.length := by unfold nvs; rw [List.length_map]
theorem nvs_get {ps : List Nat} {i p : Nat} (h : ps[i]? = some p) : (nvs ps)[i]? = some (V.int (p : Int)) := by unfold nvs; rw [List.getElem?_map, h]; rfl
theorem nvs_set (ps : List Nat) (i m : Nat) : (nvs ps).set i (V.int (m : Int)) = nvs (ps.set i m) := by unfold nvs; rw [List.map_set]
theorem nvs_snoc (ps : List Nat) (m : Nat) : nvs ps ++ [V.int (m : Int)] = nvs (ps ++ [m]) := by unfold nvs; rw [List.map_append]; rfl
theorem nvs_of {ps : List Nat} {i : Nat} {x : V} (h : (nvs ps)[i]? = some x) : ∃ p, ps[i]? = some p ∧ x = V.int (p : Int) := by
  unfold nvs at h
  rw [List.getElem?_map] at h
  cases e : ps[i]? with
  | none => rw [e] at h; cases h
  | some p => rw [e] at h; exact ⟨p, rfl, (Option.some.inj h).symm⟩
theorem ixN_nat {n j : Nat} (h : j < n) : ixN n (j : Int) = some j := by
  unfold ixN
  rw [if_pos (by omega), if_pos (by omega)]
  rfl
theorem size_lt {n : Nat} (h : n ≤ 2000) : n < sizeLine := by rw [sizeLine_eq]; omega
theorem size_le {n : Nat} (h : n ≤ 2000) : n ≤ sizeLine := by rw [sizeLine_eq]; omega
end EP
namespace EP
open PySem L2
theorem putK_len {κ : Type} [DecidableEq κ] (kvs : List (κ × V)) (k : κ) (v : V) : (putK kvs k v).length ≤ kvs.length + 1 := by
  unfold putK
  split
  · rw [List.length_map]; omega
  · rw [List.length_append]; exact Nat.le_refl _
theorem kv_ne {i j : Int} (h : i ≠ j) : ¬ (Sum.inl i : Key) = Sum.inl j := fun e => h (by cases e; rfl)
end EP
namespace EP
open PySem L2
theorem for_enum {K : PySem.W.Frag} {a : Addr} {xs : List V} {g : TG} {tb : TS} {D : Ends} {σ : L2.St} {H : Hp} (Pv : Nat → L2.St → Hp → Prop) (h0 : Pv 0 σ H) (hl : ∀ i σ H, i ≤ xs.length → Pv i σ H → SqL K H a xs)
    (hs : ∀ i x T σ H, xs[i]? = some x → Pv i σ H → H T = none → g (.ref T) σ (upd H T (.tup [.int (i : Nat), x])) fun σ2 H2 => tb { D with nx := Pv (i + 1), ct := Pv (i + 1), bk := D.nx } σ2 H2) (hd : ∀ σ H, Pv xs.length σ H → D.nx σ H) :
    ∃ W : Nat → Nat → L2.St → Hp → Prop, (∃ m, W 0 m σ H) ∧ ∀ i m σ H, W i m σ H →
      ((Ite K a).stop i H ∧ D.nx σ H) ∨ ((Ite K a).go i H ∧ ∃ N : L2.St → Hp → Prop, (∀ σ' H', N σ' H' → ∃ m', m' < m ∧ W (i + 1) m' σ' H') ∧ ∀ x H', (Ite K a).yld i H x H' → g x σ H' fun σ2 H2 => tb { D with nx := N, ct := N, bk := D.nx } σ2 H2) := by
  refine ⟨fun i m σ H => m = xs.length - i ∧ i ≤ xs.length ∧ Pv i σ H, ⟨xs.length, by simp, Nat.zero_le _, h0⟩, fun i m σ H h => ?_⟩
  obtain ⟨rfl, hi, p⟩ := h
  have q := hl i σ H hi p
  by_cases hlt : i < xs.length
  · refine .inr ⟨⟨xs, xs[i], q, List.getElem?_eq_getElem hlt⟩, Pv (i + 1), fun σ' H' p' => ⟨xs.length - (i + 1), by omega, rfl, hlt, p'⟩, fun x H' y => ?_⟩
    obtain ⟨T, x', rfl, hT, rfl, ex⟩ := y
    exact hs i x' T σ H (ex xs q) p hT
  · obtain rfl : i = xs.length := by omega
    exact .inl ⟨⟨xs, q, Nat.le_refl _⟩, hd σ H p⟩
theorem put_parents {t : Addr} : (putF "parents" (V.ref t) []).lookup ("parents" : Str) = some (.ref t) := by first | rfl | kernel_rfl
theorem put_parents2 {t : Addr} {n : V} : (putF "size" n (putF "parents" (V.ref t) [])).lookup ("parents" : Str) = some (.ref t) := by first | rfl | kernel_rfl
theorem put_shf {t d : Addr} {n : Nat} : putF "_masks" (.ref d) (putF "size" (.int n) (putF "parents" (V.ref t) [])) = shf t d n := by first | rfl | kernel_rfl
/-- the wrong items of a list of parents -/
def Wrong (ns : List Int) (j : Nat) : Prop := ∃ p, ns[j]? = some p ∧ ¬ (0 ≤ p ∧ p ≤ j)
/-- all but s stays -/
def But (s : Addr) (H H' : Hp) : Prop := ∀ b o, b ≠ s → H b = some o → H' b = some o
theorem But.of_same {s : Addr} {H H' : Hp} (e : Same H H') : But s H H' := fun b o _ h => e b o h
theorem But.trans {s : Addr} {H H1 H2 : Hp} (a : But s H H1) (b : But s H1 H2) : But s H H2 := fun c o n h => b c o n (a c o n h)
theorem But.set {s : Addr} {H : Hp} {o : HO} : But s H (upd H s o) := fun b u n h => by rw [upd_ne n]; exact h
theorem ns_nat : ∀ {ns : List Int}, (∀ j, ¬ Wrong ns j) → ∃ ps : List Nat, ns.map V.int = nvs ps ∧ ps.length = ns.length ∧ Tr.Ok ps := by
  intro ns h
  refine ⟨ns.map Int.toNat, ?_, List.length_map .., ?_⟩
  · unfold nvs
    rw [List.map_map]
    refine List.map_congr_left fun p hp => ?_
    obtain ⟨j, hj⟩ := List.getElem?_of_mem hp
    have q : 0 ≤ p := by
      by_cases c : 0 ≤ p
      · exact c
      · exact absurd ⟨p, hj, fun z => c z.1⟩ (h j)
    show V.int p = V.int (p.toNat : Int)
    rw [Int.toNat_of_nonneg q]
  · intro i p hp
    rw [List.getElem?_map] at hp
    cases e : ns[i]? with
    | none => rw [e] at hp; cases hp
    | some q =>
      rw [e] at hp
      obtain rfl : q.toNat = p := Option.some.inj hp
      by_cases c : 0 ≤ q ∧ q ≤ i
      · omega
      · exact absurd ⟨q, e, c⟩ (h i)
end EP
namespace EP
open PySem L2
theorem putF_len (f : Str) (v : V) : ∀ fs : List (Str × V), (putF f v fs).length ≤ fs.length + 1
  | [] => Nat.le_refl 1
  | (g, x) :: r => by
    unfold putF
    split
    · exact Nat.le_succ _
    · have := putF_len f v r
      simp only [List.length_cons]
      omega
theorem put_l1 {f : Str} {v : V} : (putF f v []).length < 1000 := Nat.lt_of_le_of_lt (putF_len f v []) (by decide)
theorem put_l2 {f g : Str} {u v : V} : (putF g u (putF f v [])).length < 1000 := by
  have a := putF_len g u (putF f v [])
  have b := putF_len f v []
  simp only [List.length_nil] at b
  omega
end EP
namespace EP
open PySem L2
theorem shf_no {t d : Addr} {n : Nat} {m : Str} (h1 : ¬ m = "parents") (h2 : ¬ m = "size") (h3 : ¬ m = "_masks") : (shf t d n).lookup m = none := by
  unfold shf
  have e1 : (m == ("parents" : Str)) = false := by simpa using h1
  have e2 : (m == ("size" : Str)) = false := by simpa using h2
  have e3 : (m == ("_masks" : Str)) = false := by simpa using h3
  simp only [List.lookup, e1, e2, e3]
theorem hasS_nat {ps : List Nat} {p w : Nat} (h : 1 ≤ w) : hasS ps (p : Int) (w : Int) = Tr.has ps p w := by
  unfold hasS
  rw [if_pos (by omega), Int.toNat_natCast, Int.toNat_natCast]
theorem hasS_neg {ps : List Nat} {p w : Nat} (h : 1 ≤ w) : hasS ps (p : Int) (-(w : Int)) = !Tr.has ps p w := by
  unfold hasS
  rw [if_neg (by omega), Int.toNat_natCast, show (- -(w : Int)).toNat = w by omega]
/-- the first item that is no position -/
def BadAt (n : Nat) (ns : List Int) (j : Nat) : Prop := (∃ p, ns[j]? = some p ∧ ¬ IsPos n p) ∧ ∀ i p, i < j → ns[i]? = some p → IsPos n p
theorem pos_nat {n : Nat} : ∀ {ns : List Int}, (∀ p, p ∈ ns → IsPos n p) → ∃ L : List Nat, ns.map V.int = nvs L ∧ L.length = ns.length ∧ (∀ p, p ∈ L → p ≤ n) ∧ ns = L.map fun (p : Nat) => (p : Int) := by
  intro ns h
  have e : ns = (ns.map Int.toNat).map fun (p : Nat) => (p : Int) := by
    rw [List.map_map]
    have : ns.map (fun p => p) = ns.map ((fun (p : Nat) => (p : Int)) ∘ Int.toNat) := List.map_congr_left fun p hp => by
      have := (h p hp).1
      show p = (p.toNat : Int)
      omega
    rw [List.map_id'] at this
    exact this
  refine ⟨ns.map Int.toNat, ?_, List.length_map .., fun p hp => ?_, e⟩
  · unfold nvs
    conv => lhs; rw [e]
    rw [List.map_map]
    rfl
  · obtain ⟨q, hq, rfl⟩ := List.mem_map.mp hp
    have := h q hq
    unfold IsPos at this
    omega
theorem ns_get {ns : List Int} {i : Nat} {x : V} (hx : (ns.map V.int)[i]? = some x) : ∃ p, ns[i]? = some p ∧ x = V.int p := by
  rw [List.getElem?_map] at hx
  cases e : ns[i]? with
  | none => rw [e] at hx; cases hx
  | some p => rw [e] at hx; exact ⟨p, rfl, (Option.some.inj hx).symm⟩
end EP

namespace EP
open PySem L2 PySem.Spec PyProof.Rows
/-! ### the rules with the written part named (within a comprehension) -/
section
variable {X : Cx} {K : PySem.W.Frag}
def rLenK (K : PySem.W.Frag) : List V → Hp → VK → Prop := fun xs H Q => ∃ p ys, xs = [.ref p] ∧ (SqL K H p ys ∨ SqT K H p ys) ∧ Q (.int ys.length) H
theorem call_lenK (h : X.K = K := by rfl) : CallR X (.builtin "len") (rLenK K) := h ▸ call_len_seq
theorem ix_listK (h : X.K = K := by rfl) : IxR X (rIxL K) := h ▸ ix_list
theorem ix_tupK (h : X.K = K := by rfl) : IxR X (rIxT K) := h ▸ ix_tup
theorem op_in_seqK (h : X.K = K := by rfl) : OpR X (compareOp .In) (rIn K false) := h ▸ op_in_seq
theorem op_notIn_seqK (h : X.K = K := by rfl) : OpR X (compareOp .NotIn) (rIn K true) := h ▸ op_notIn_seq
theorem pe_fldK {e : Expr} {ta : TE} {f : Str} {pos : Pos} (h : X.K = K) (he : PE X e ta) (hb : attributeBase e f X.env (eval e X.env) = eval e X.env) : PE X (.Attribute e f pos) (tFld K ta f) := by
  subst h
  exact pe_fld he hb
end
end EP

namespace EP
open PySem L2 PySem.Spec PyProof.Rows
section
variable {X : Cx} {CX : CXT} {k : Nat} {f C : Addr} {fd : FuncData} {ps : List Str} {sp : Sp} {E : L2.St → XK} {x m : Str} {p pos apos : Pos} {e o : Expr} {es : List Expr} {ta : TE} {t : TA}
/-- o.m(e, ..), what it raises wished for at the slots -/
def tMethT (C : Addr) (m : Str) (sp : Sp) (E : L2.St → XK) (ta : TE) (t : TA) : TE := fun σ H Q => ta σ H fun x H1 => ∃ a dx fs, x = .ref a ∧ H1 a = some (.ins C dx fs) ∧ fs.lookup m = none ∧ t σ H1 fun vs H2 => sp (x :: vs) H2 Q (E σ)
theorem pe_methT {pl : Sem Bool} (he : PE X o ta) (c : Cls X.K C) (hm : Meth X.K C m f) (F : FnOk X.prog X.w X.K X.mg X.base CX k f fd ps sp) (hr : Room k X.A) (hb : Binds X.K fd ps []) (hx : ∀ σ, PassesAt CX X σ (E σ)) (ha : PA X (e :: es) t)
    (hst : starEach (e :: es) X.env = (false, eval e X.env) :: starEach es X.env := by rfl) (hpl : (backTo pos (starEach es X.env)).any (·.1) = false := by rfl)
    (ht : eval (.Call (.Attribute o m apos) (e :: es) [] pos) X.env = (do
      let ov ← eval o X.env
      standAt apos.atName
      let (g, first) ← holding [ov] (getMethod ov m pl)
      callWith pos g first (backTo pos (starEach (e :: es) X.env)) (backToKw pos (keywordEach [] X.env))) := by rfl) :
    PE X (.Call (.Attribute o m apos) (e :: es) [] pos) (tMethT C m sp E ta t) := by
  refine ⟨fun pins s σ H Q I h => PySem.W.methodCall_KW (pl := pl) (thn (he.run pins s σ H _ I h) fun u s1 z => ?_) ht⟩
  obtain ⟨x, H1, I1, rx, a, dx, fs, rfl, ea, l, q⟩ := z
  obtain rfl : u = Value.ref a := rx
  refine getmeth_ok I1 ea c hm l (PySem.W.callWith_K (first := [.ref a]) (h₀ := X.base) I.ok.mod.kin hm.kp (thn (ha.run pos pins s1 σ H1 _ I1 q) fun us s2 z => ?_) hst hpl)
  obtain ⟨vs, H2, I2, r, q2⟩ := z
  exact ⟨I2.kIn, run_fnS (us := .ref a :: us) (vs := .ref a :: vs) F hr hb (hx σ) I2 (.cons rfl r) q2⟩
end
end EP
namespace EP
open PySem L2
def spIsNum (K : PySem.W.Frag) (C : Addr) : Sp := fun vs H Q _ => ∃ (s : Addr) (ps : List Nat) (k : Int), vs = [.ref s, .int k] ∧ ShapeAt K C H s ps ∧ Q (.bl (decide (IsSide ps.length k))) H
def spChkPos (K : PySem.W.Frag) (C D : Addr) : Sp := fun vs H Q E => ∃ (s : Addr) (ps : List Nat) (p : Int), vs = [.ref s, .int p] ∧ ShapeAt K C H s ps ∧ (IsPos ps.length p → Q .non H) ∧ (¬ IsPos ps.length p → Small p ∧ ∀ d, H d = none → E (.ref D) (some d) (upd H d (.xd [("position", .int p)])))
theorem is_num {Q : VK} {H : Hp} {b : Bool} {n : Nat} {k : Int} (q : Q (.bl (decide (IsSide n k))) H) (h : b = decide (IsSide n k)) : Q (.bl b) H := h ▸ q
end EP
namespace EP
open PySem L2
def spChkSide (K : PySem.W.Frag) (C D : Addr) : Sp := fun vs H Q E => ∃ (s : Addr) (ps : List Nat) (k : Int), vs = [.ref s, .int k] ∧ ShapeAt K C H s ps ∧ (IsSide ps.length k → Q .non H) ∧ (¬ IsSide ps.length k → Small k ∧ ∀ d, H d = none → E (.ref D) (some d) (upd H d (.xd [("side", .int k)])))
def spHas (K : PySem.W.Frag) (C D D2 : Addr) : Sp := fun vs H Q E => ∃ (s : Addr) (ps : List Nat) (p k : Int), vs = [.ref s, .int p, .int k] ∧ ShapeAt K C H s ps ∧ (IsPos ps.length p → IsSide ps.length k → Q (.bl (hasS ps p k)) H) ∧
  (¬ IsPos ps.length p → Small p ∧ ∀ d, H d = none → E (.ref D) (some d) (upd H d (.xd [("position", .int p)]))) ∧ (IsPos ps.length p → ¬ IsSide ps.length k → Small k ∧ ∀ d, H d = none → E (.ref D2) (some d) (upd H d (.xd [("side", .int k)])))
end EP
namespace EP
open PySem L2
def spMasks (K : PySem.W.Frag) : Sp := fun vs H Q _ => ∃ (t : Addr) (ps : List Nat), vs = [.ref t] ∧ SqT K H t (nvs ps) ∧ Tr.Ok ps ∧ ps.length ≤ 1000 ∧ ∀ d kvs H', Same H H' → H d = none → H' d = some (.dK kvs) → MasksOk ps kvs → Q (.ref d) H'
end EP
namespace EP
open PySem L2
def spShape (K : PySem.W.Frag) (C D : Addr) : Sp := fun vs H Q E => ∃ (s dx l : Addr) (ns : List Int), vs = [.ref s, .ref l] ∧ H s = some (.ins C dx []) ∧ SqL K H l (ns.map V.int) ∧ ns.length ≤ 1000 ∧
  (∀ ps H', ns.map V.int = nvs ps → Tr.Ok ps → 1 ≤ ps.length → But s H H' → ShapeAt K C H' s ps → Q .non H') ∧
  (∀ j, Wrong ns j → (∀ i, i < j → ¬ Wrong ns i) → ∀ d H', Same H H' → H d = none → H' d = some (.xd [("place", .int (j : Nat))]) → E (.ref D) (some d) H') ∧
  (ns = [] → ∀ d H', Same H H' → H d = none → H' d = some (.xd [("place", .int 0)]) → E (.ref D) (some d) H')
end EP
namespace EP
open PySem L2
def spOddMid (K : PySem.W.Frag) (C D D2 : Addr) : Sp := fun vs H Q E => ∃ (s l : Addr) (ps : List Nat) (ns : List Int), vs = [.ref s, .ref l] ∧ ShapeAt K C H s ps ∧ SqL K H l (ns.map V.int) ∧ ns.length ≤ 100 ∧
  (∀ L H', ns = L.map (fun (p : Nat) => (p : Int)) → (∀ p, p ∈ L → p ≤ ps.length) → L.length % 2 = 1 → Same H H' → Q (.int (Tr.mid ps L ps.length : Nat)) H') ∧
  (∀ j p, BadAt ps.length ns j → ns[j]? = some p → Small p ∧ ∀ d, H d = none → E (.ref D) (some d) (upd H d (.xd [("position", .int p)]))) ∧
  ((∀ p, p ∈ ns → IsPos ps.length p) → ns.length % 2 = 0 → ∀ d, H d = none → E (.ref D2) (some d) (upd H d (.xd [("number", .int (ns.length : Nat))])))
end EP
namespace EP
open PySem L2
def spMid (K : PySem.W.Frag) (C D : Addr) : Sp := fun vs H Q E => ∃ (s : Addr) (ps : List Nat) (a b c : Int), vs = [.ref s, .int a, .int b, .int c] ∧ ShapeAt K C H s ps ∧
  (∀ (a' b' c' : Nat) H', a = a' → b = b' → c = c' → a' ≤ ps.length → b' ≤ ps.length → c' ≤ ps.length → Same H H' → Q (.int (Tr.mid ps [a', b', c'] ps.length : Nat)) H') ∧
  (∀ p, (∃ j, BadAt ps.length [a, b, c] j ∧ [a, b, c][j]? = some p) → Small p ∧ ∀ d H', Same H H' → H d = none → H' d = some (.xd [("position", .int p)]) → E (.ref D) (some d) H')
end EP

namespace EP
open PySem L2
/-! ### the law's own tape -/
def tp (u : Addr) (i b s c : Int) : List V := [.ref u, .int i, .int b, .int s, .int c]
def Tape (H : Hp) (t u : Addr) : Prop := ∃ (xs : List Int) (i b s c : Int), H t = some (.lst (tp u i b s c)) ∧ H u = some (.lst (xs.map V.int)) ∧ 0 ≤ i
theorem nvs_tp {ps : List Nat} {u : Addr} {i b s c : Int} : nvs ps ≠ tp u i b s c := fun e => by
  cases ps with
  | nil => cases e
  | cons p ps => unfold nvs tp at e; simp at e
theorem ints_tp {ns : List Int} {u : Addr} {i b s c : Int} : ns.map V.int ≠ tp u i b s c := fun e => by
  cases ns with
  | nil => cases e
  | cons p ps => unfold tp at e; simp at e
theorem Tape.ne {H : Hp} {t u l : Addr} {ps : List Nat} (h : Tape H t u) (hl : H l = some (.lst (nvs ps))) : l ≠ t := fun e => by
  obtain ⟨xs, i, b, s, c, h1, _⟩ := h
  rw [← e, hl] at h1
  exact nvs_tp (HO.lst.inj (Option.some.inj h1))
theorem Tape.neI {H : Hp} {t u l : Addr} {ns : List Int} (h : Tape H t u) (hl : H l = some (.lst (ns.map V.int))) : l ≠ t := fun e => by
  obtain ⟨xs, i, b, s, c, h1, _⟩ := h
  rw [← e, hl] at h1
  exact ints_tp (HO.lst.inj (Option.some.inj h1))
theorem Tape.same {H H' : Hp} {t u : Addr} (h : Tape H t u) (e : Same H H') : Tape H' t u := by
  obtain ⟨xs, i, b, s, c, h1, h2, h3⟩ := h
  exact ⟨xs, i, b, s, c, e _ _ h1, e _ _ h2, h3⟩
theorem Tape.new {H : Hp} {t u : Addr} (h : Tape H t u) : H t ≠ none := fun e => by
  obtain ⟨xs, i, b, s, c, h1, _⟩ := h
  rw [h1] at e
  cases e
theorem Tape.newu {H : Hp} {t u : Addr} (h : Tape H t u) : H u ≠ none := fun e => by
  obtain ⟨xs, i, b, s, c, h1, h2, _⟩ := h
  rw [h2] at e
  cases e
theorem But.of_new {t d : Addr} {H : Hp} {o : HO} (h : H d = none) : But t H (upd H d o) := But.of_same (same_new h)
theorem But.free {t l : Addr} {H H' : Hp} (e : But t H H') (hn : l ≠ t) (h : H' l = Option.none) : H l = Option.none := by
  cases z : H l with
  | none => rfl
  | some o => rw [e l o hn z] at h; cases h
theorem But.upd_at {t l : Addr} {H H0 : Hp} {o : HO} (e : But t H0 H) (h0 : H0 l = none) : But t H0 (upd H l o) := fun b v n hb => by
  rw [upd_ne (ne_of_none hb h0)]
  exact e b v n hb
def absI (i : Int) : Int := if i < 0 then -i else i
def spTape (K : PySem.W.Frag) : Sp := fun vs H Q _ => ∃ (a : Addr) (ns : List Int), vs = [.ref a] ∧ SqL K H a (ns.map V.int) ∧ ns.length ≤ 63 ∧ ∀ t u H', Same H H' → H t = none → Tape H' t u → Q (.ref t) H'
def spNext : Sp := fun vs H Q _ => ∃ (t u : Addr) (n : Int), vs = [.ref t, .int n] ∧ 0 < n ∧ n < 2 ^ 60 ∧ Tape H t u ∧ ∀ (r : Nat) H', (r : Int) < n → Tape H' t u → But t H H' → (∀ b, b ≠ t → H' b = H b) → Q (.int r) H'
def spLParents : Sp := fun vs H Q _ => ∃ (t u : Addr) (m : Nat), vs = [.ref t, .int m] ∧ 1 ≤ m ∧ m ≤ 100 ∧ Tape H t u ∧ ∀ l ps H', Tr.Ok ps → 1 ≤ ps.length → ps.length ≤ m → Tape H' t u → But t H H' → H l = none → H' l = some (.lst (nvs ps)) → Q (.ref l) H'
def spAbove (K : PySem.W.Frag) : Sp := fun vs H Q _ => ∃ (l : Addr) (ps : List Nat) (p : Nat), vs = [.ref l, .int p] ∧ SqL K H l (nvs ps) ∧ Tr.Ok ps ∧ ps.length ≤ 1000 ∧ p ≤ ps.length ∧ ∀ r H', Same H H' → H r = none → H' r = some (.lst (nvs (Tr.up ps p))) → Q (.ref r) H'
def spIsNumber : Sp := fun vs H Q _ => ∃ i : Int, vs = [.int i] ∧ Q (.bl true) H
def spFar : Sp := fun vs H Q _ => ∃ t u : Addr, vs = [.ref t] ∧ Tape H t u ∧ ∀ (r : Nat) H', r < 1000000000 → Tape H' t u → But t H H' → (∀ b, b ≠ t → H' b = H b) → Q (.int r) H'
def spBadPos : Sp := fun vs H Q _ => ∃ (t u l : Addr) (ps : List Nat), vs = [.ref t, .ref l] ∧ Tape H t u ∧ H l = some (.lst (nvs ps)) ∧ ps.length ≤ 1000 ∧ ∀ (p : Int) H', ¬ IsPos ps.length p → Small p → Tape H' t u → But t H H' → (∀ b, b ≠ t → H' b = H b) → Q (.int p) H'
def hadL (ps : List Nat) (p : Nat) : List V := (List.range ps.length).map fun k => V.int (Tr.side ps p (k + 1))
def spSidesHad (K : PySem.W.Frag) : Sp := fun vs H Q _ => ∃ (l : Addr) (ps : List Nat) (p : Nat), vs = [.ref l, .int p] ∧ SqL K H l (nvs ps) ∧ Tr.Ok ps ∧ ps.length ≤ 1000 ∧ p ≤ ps.length ∧ ∀ r H', Same H H' → H r = none → H' r = some (.lst (hadL ps p)) → Q (.ref r) H'
/-- at h the list of the lists of the sides of all positions -/
def Had (H : Hp) (h : Addr) (ps : List Nat) : Prop := ∃ rs : List Addr, H h = some (.lst (rs.map V.ref)) ∧ rs.length = ps.length + 1 ∧ ∀ (p : Nat) (r : Addr), rs[p]? = some r → H r = some (.lst (hadL ps p))
theorem Had.same {H H' : Hp} {h : Addr} {ps : List Nat} (a : Had H h ps) (e : Same H H') : Had H' h ps := by
  obtain ⟨rs, h1, h2, h3⟩ := a
  exact ⟨rs, e _ _ h1, h2, fun p r hr => e _ _ (h3 p r hr)⟩
theorem hadL_len (ps : List Nat) (p : Nat) : (hadL ps p).length = ps.length := by unfold hadL; rw [List.length_map, List.length_range]
theorem hadL_get {ps : List Nat} {p k : Nat} (h : k < ps.length) : (hadL ps p)[k]? = some (V.int (Tr.side ps p (k + 1))) := by
  unfold hadL
  rw [List.getElem?_map, List.getElem?_range h]
  rfl
theorem Had.row {H : Hp} {h : Addr} {ps : List Nat} (a : Had H h ps) {p : Nat} (hp : p ≤ ps.length) : ∃ (vs : List V) (r : Addr), H h = some (.lst vs) ∧ vs.length = ps.length + 1 ∧ vs[p]? = some (V.ref r) ∧ H r = some (.lst (hadL ps p)) := by
  obtain ⟨rs, h1, h2, h3⟩ := a
  have e := List.getElem?_eq_getElem (l := rs) (i := p) (by omega)
  exact ⟨_, rs[p], h1, by rw [List.length_map]; exact h2, by rw [List.getElem?_map, e]; rfl, h3 p _ e⟩
def spBetween : Sp := fun vs H Q _ => ∃ (h : Addr) (ps : List Nat) (p a b : Nat), vs = [.ref h, .int p, .int a, .int b] ∧ Had H h ps ∧ ps.length ≤ 1000 ∧ p ≤ ps.length ∧ a ≤ ps.length ∧ b ≤ ps.length ∧ ∀ z : Bool, (z = true ↔ Tr.betw ps ps.length p a b) → Q (.bl z) H
def spOnAll : Sp := fun vs H Q _ => ∃ (h : Addr) (ps : List Nat) (a b c : Nat), vs = [.ref h, .int a, .int b, .int c] ∧ Had H h ps ∧ ps.length ≤ 1000 ∧ a ≤ ps.length ∧ b ≤ ps.length ∧ c ≤ ps.length ∧ ∀ r H', Same H H' → H r = none → H' r = some (.lst (nvs [Tr.mid ps [a, b, c] ps.length])) → Q (.ref r) H'
def spSix (K : PySem.W.Frag) (C : Addr) : Sp := fun vs H Q _ => ∃ (s l th : Addr) (ps : List Nat) (a b c : Nat), vs = [.ref s, .ref l, .ref th] ∧ ShapeAt K C H s ps ∧ H l = some (.lst (nvs ps)) ∧ H th = some (.lst (nvs [a, b, c])) ∧ a ≤ ps.length ∧ b ≤ ps.length ∧ c ≤ ps.length ∧ ∀ H', Same H H' → Q (.bl true) H'
def spMidRef (K : PySem.W.Frag) (C : Addr) : Sp := fun vs H Q _ => ∃ (s : Addr) (ps : List Nat) (a b c p : Int), vs = [.ref s, .int a, .int b, .int c, .int p] ∧ ShapeAt K C H s ps ∧ (∃ j, BadAt ps.length [a, b, c] j ∧ [a, b, c][j]? = some p) ∧ Small p ∧ ∀ H', Same H H' → Q (.bl true) H'
def spLaw (K : PySem.W.Frag) : Sp := fun vs H Q _ => ∃ (a : Addr) (ns : List Int), vs = [.ref a] ∧ SqL K H a (ns.map V.int) ∧ ns.length ≤ 63 ∧ ∀ H', Q (.bl true) H'
end EP

namespace EP
open PySem L2
theorem emod_in {x m : Int} (h : 0 < m) : 0 ≤ x % m ∧ x % m < m := ⟨Int.emod_nonneg _ (by omega), Int.emod_lt_of_pos _ h⟩
end EP

namespace EP
open PySem L2
theorem nvs_flat (ps : List Nat) : (nvs ps).all flatV = true := by
  unfold nvs
  rw [List.all_map, List.all_eq_true]
  intro x _
  rfl
theorem nvs_in {ps : List Nat} {x : Int} {k : Nat} (h : x = (k : Int)) : inV (V.int x) (nvs ps) = decide (k ∈ ps) := by
  subst h
  unfold inV nvs
  rw [List.any_map]
  induction ps with
  | nil => rfl
  | cons p ps ih =>
    rw [List.any_cons, ih]
    show (decide ((p : Int) = (k : Int)) || _) = _
    by_cases e : k = p
    · subst e; simp
    · have : ¬ ((p : Int) = (k : Int)) := by omega
      simp [e, this]
end EP

namespace EP
open PySem L2
theorem same_mut {H H' : Hp} {D : Addr} {o : HO} (e : Same H H') (h : H D = none) : Same H (upd H' D o) := fun b u hb => by
  rw [upd_ne (ne_of_none hb h)]
  exact e b u hb
def toI (L : List Nat) : List Int := L.map fun (p : Nat) => (p : Int)
theorem nvs_toI (L : List Nat) : nvs L = (toI L).map V.int := by unfold nvs toI; rw [List.map_map]; rfl
theorem toI_len (L : List Nat) : (toI L).length = L.length := List.length_map ..
theorem nvs_inj {a b : List Nat} (h : nvs a = nvs b) : a = b := by
  induction a generalizing b with
  | nil => cases b with
    | nil => rfl
    | cons y b => cases h
  | cons x a ih => cases b with
    | nil => cases h
    | cons y b =>
      have h' : V.int (x : Int) :: nvs a = V.int (y : Int) :: nvs b := h
      injection h' with h1 h2
      have := V.int.inj h1
      rw [ih h2, show x = y by omega]
theorem toI_get {L : List Nat} {j : Nat} {x : Int} (h : (toI L)[j]? = some x) : ∃ p, L[j]? = some p ∧ x = (p : Int) := by
  unfold toI at h
  rw [List.getElem?_map] at h
  cases e : L[j]? with
  | none => rw [e] at h; cases h
  | some p => rw [e] at h; exact ⟨p, rfl, (Option.some.inj h).symm⟩
theorem noWrong {ps : List Nat} (ok : Tr.Ok ps) {j : Nat} : ¬ Wrong (toI ps) j := fun ⟨p, hp, c⟩ => by
  obtain ⟨q, hq, rfl⟩ := toI_get hp
  have := ok j q hq
  omega
theorem dp_ints {K : PySem.W.Frag} {H : Hp} : ∀ ns : List Int, DpAll K H (ns.map V.int) (ns.map PyData.int)
  | [] => .nil
  | n :: ns => .cons (.int n) (dp_ints ns)
theorem dp_list {K : PySem.W.Frag} {H : Hp} {a : Addr} {L : List Nat} (h : SqL K H a (nvs L)) : Dp K H (.ref a) (.list ((toI L).map PyData.int)) := .lst h (by rw [nvs_toI]; exact dp_ints _)
theorem eqv_self (ns : List Int) : PyData.eqv (.list (ns.map PyData.int)) (.list (ns.map PyData.int)) = true := by
  show PyData.eqvAll _ _ = true
  rw [PySem.W.ked_eqvAll]
  exact decide_eq_true rfl
theorem BadAt.uniq {n : Nat} {ns : List Int} {i j : Nat} (a : BadAt n ns i) (b : BadAt n ns j) : i = j := by
  obtain ⟨⟨p, hp, cp⟩, fp⟩ := a
  obtain ⟨⟨q, hq, cq⟩, fq⟩ := b
  by_cases h : i < j
  · exact absurd (fq i p h hp) cp
  · by_cases h2 : j < i
    · exact absurd (fp j q h2 hq) cq
    · omega
theorem three_of {a b c : Nat} {i j k : Nat} (h : (i, j, k) ∈ [(0, 1, 2), (0, 2, 1), (1, 0, 2), (1, 2, 0), (2, 0, 1), (2, 1, 0)]) : ∃ x y z : Nat, [a, b, c][i]? = some x ∧ [a, b, c][j]? = some y ∧ [a, b, c][k]? = some z ∧ [x, y, z].Perm [a, b, c] := by
  simp only [List.mem_cons, Prod.mk.injEq, List.not_mem_nil, or_false] at h
  rcases h with ⟨rfl, rfl, rfl⟩ | ⟨rfl, rfl, rfl⟩ | ⟨rfl, rfl, rfl⟩ | ⟨rfl, rfl, rfl⟩ | ⟨rfl, rfl, rfl⟩ | ⟨rfl, rfl, rfl⟩
  · exact ⟨a, b, c, rfl, rfl, rfl, .refl _⟩
  · exact ⟨a, c, b, rfl, rfl, rfl, .cons _ (.swap ..)⟩
  · exact ⟨b, a, c, rfl, rfl, rfl, .swap ..⟩
  · exact ⟨b, c, a, rfl, rfl, rfl, (List.Perm.cons b (.swap a c [])).trans (.swap a b [c])⟩
  · exact ⟨c, a, b, rfl, rfl, rfl, (List.Perm.swap a c [b]).trans (.cons _ (.swap ..))⟩
  · exact ⟨c, b, a, rfl, rfl, rfl, ((List.Perm.swap b c [a]).trans (.cons b (.swap a c []))).trans (.swap a b [c])⟩
end EP

namespace EP
open PySem L2
theorem xd_get {f : Str} {v : V} : List.lookup f [(f, v)] = some v := by simp [List.lookup]
end EP

namespace EP
open PySem L2
theorem ok_snoc {ps : List Nat} {p : Nat} (ok : Tr.Ok ps) (h : p ≤ ps.length) : Tr.Ok (ps ++ [p]) := fun j x hx => by
  rw [List.getElem?_append] at hx
  split at hx
  · exact ok j x hx
  · rename_i hj
    obtain rfl : p = x := by
      cases e : j - ps.length with
      | zero => rw [e] at hx; exact Option.some.inj hx
      | succ z => rw [e] at hx; cases hx
    omega
theorem Tape.upd {H : Hp} {t u l : Addr} {o : HO} (h : Tape H t u) (h1 : t ≠ l) (h2 : u ≠ l) : Tape (L2.upd H l o) t u := by
  obtain ⟨xs, i, b, s, c, a1, a2, a3⟩ := h
  exact ⟨xs, i, b, s, c, by rw [upd_ne h1]; exact a1, by rw [upd_ne h2]; exact a2, a3⟩
/-- a made shape: what stood before stands -/
theorem made {H H' : Hp} {x dx C : Addr} (nx : H x = none) (nd : H dx = none) (k : But x (upd (upd H dx (.own x)) x (.ins C dx [])) H') : Same H H' := fun b o hb =>
  k b o (ne_of_none hb nx) (by rw [upd_ne (ne_of_none hb nx), upd_ne (ne_of_none hb nd)]; exact hb)
theorem made_at {H : Hp} {x dx C l : Addr} {o : HO} (nx : H x = none) (nd : H dx = none) (hl : H l = some o) : (upd (upd H dx (.own x)) x (.ins C dx [])) l = some o := by
  rw [upd_ne (ne_of_none hl nx), upd_ne (ne_of_none hl nd)]
  exact hl
end EP

namespace EP
open PySem L2
/-! ### ways, parting walls, distances -/
theorem cut_to {L : List Nat} {k : Nat} (h : k ≤ L.length) : cutV (nvs L) none (some (k : Int)) = nvs (L.take k) := by
  unfold cutV
  rw [HT.sIx_none, HT.sIx_nat, nvs_len, Nat.min_eq_left h, List.drop_zero, Nat.sub_zero]
  unfold nvs
  rw [List.map_take]
theorem nvs_app (a b : List Nat) : nvs a ++ nvs b = nvs (a ++ b) := by unfold nvs; rw [List.map_append]
theorem nvs_rev (a : List Nat) : (nvs a).reverse = nvs a.reverse := by unfold nvs; rw [List.map_reverse]
theorem last_at (L : List Nat) (x : Nat) : atI (nvs (L ++ [x])) (-1) = some (V.int (x : Int)) := by rw [← nvs_snoc]; exact atI_last _ _
def spClimb (K : PySem.W.Frag) (C : Addr) : Sp := fun vs H Q _ => ∃ (s : Addr) (ps : List Nat) (p : Nat), vs = [.ref s, .int p] ∧ ShapeAt K C H s ps ∧ p ≤ ps.length ∧ ∀ r H', Same H H' → H r = none → H' r = some (.lst (nvs (Tr.ch ps p))) → Q (.ref r) H'
/-- two positions asked of a shape -/
def Two (K : PySem.W.Frag) (C D : Addr) (good : List Nat → Nat → Nat → Hp → Hp → VK → Prop) : Sp := fun vs H Q E => ∃ (s : Addr) (ps : List Nat) (a b : Int), vs = [.ref s, .int a, .int b] ∧ ShapeAt K C H s ps ∧
  (∀ (a' b' : Nat), a = a' → b = b' → a' ≤ ps.length → b' ≤ ps.length → ∀ H', Same H H' → good ps a' b' H H' Q) ∧
  (∀ p, (∃ j, BadAt ps.length [a, b] j ∧ [a, b][j]? = some p) → Small p ∧ ∀ d H', Same H H' → H d = none → H' d = some (.xd [("position", .int p)]) → E (.ref D) (some d) H')
def spWay (K : PySem.W.Frag) (C D : Addr) : Sp := Two K C D fun ps a b H H' Q => ∀ r, H r = none → H' r = some (.lst (nvs (Tr.way ps a b))) → Q (.ref r) H'
def spParting (K : PySem.W.Frag) (C D : Addr) : Sp := Two K C D fun ps a b H H' Q => ∀ r, H r = none → H' r = some (.lst (nvs (Tr.parting ps a b))) → Q (.ref r) H'
def spDistance (K : PySem.W.Frag) (C D : Addr) : Sp := Two K C D fun ps a b H H' Q => Q (.int ((Tr.parting ps a b).length : Nat)) H'
theorem bad2_0 {n : Nat} {a b : Int} (h : ¬ IsPos n a) : ∃ j, BadAt n [a, b] j ∧ [a, b][j]? = some a := ⟨0, ⟨⟨a, rfl, h⟩, fun i p h => absurd h (Nat.not_lt_zero _)⟩, rfl⟩
theorem bad2_1 {n : Nat} {a b : Int} (h0 : IsPos n a) (h : ¬ IsPos n b) : ∃ j, BadAt n [a, b] j ∧ [a, b][j]? = some b := ⟨1, ⟨⟨b, rfl, h⟩, fun i p hi hp => by
  obtain rfl : i = 0 := by omega
  cases hp
  exact h0⟩, rfl⟩
theorem bad2_no {n : Nat} {a b : Int} (ha : IsPos n a) (hb : IsPos n b) {j : Nat} (h : BadAt n [a, b] j) : False := by
  obtain ⟨⟨p, hp, cp⟩, _⟩ := h
  match j, hp with
  | 0, hp => cases hp; exact cp ha
  | 1, hp => cases hp; exact cp hb
  | n + 2, hp => simp at hp
theorem posOf {n : Nat} {a : Int} (h : IsPos n a) : ∃ a' : Nat, a = a' ∧ a' ≤ n := ⟨a.toNat, by unfold IsPos at h; omega, by unfold IsPos at h; omega⟩
def spLParting (K : PySem.W.Frag) : Sp := fun vs H Q _ => ∃ (l : Addr) (ps : List Nat) (a b : Nat), vs = [.ref l, .int a, .int b] ∧ SqL K H l (nvs ps) ∧ Tr.Ok ps ∧ ps.length ≤ 1000 ∧ a ≤ ps.length ∧ b ≤ ps.length ∧ ∀ r H', Same H H' → H r = none → H' r = some (.lst (nvs (Tr.parting ps a b))) → Q (.ref r) H'
def spInts (K : PySem.W.Frag) : Sp := fun vs H Q _ => ∃ (x y : Addr) (L : List Nat), vs = [.ref x, .ref y] ∧ H x = some (.lst (nvs L)) ∧ SqL K H y (nvs L) ∧ L.length ≤ 5000 ∧ Q (.bl true) H
def spIsWay (K : PySem.W.Frag) : Sp := fun vs H Q _ => ∃ (l w : Addr) (ps : List Nat) (a b : Nat), vs = [.ref l, .ref w, .int a, .int b] ∧ SqL K H l (nvs ps) ∧ H w = some (.lst (nvs (Tr.way ps a b))) ∧ Tr.Ok ps ∧ ps.length ≤ 1000 ∧ a ≤ ps.length ∧ b ≤ ps.length ∧ ∀ H', Same H H' → Q (.bl true) H'
def spPair (K : PySem.W.Frag) (C : Addr) : Sp := fun vs H Q _ => ∃ (s l : Addr) (ps : List Nat) (a b : Nat), vs = [.ref s, .ref l, .int a, .int b] ∧ ShapeAt K C H s ps ∧ H l = some (.lst (nvs ps)) ∧ a ≤ ps.length ∧ b ≤ ps.length ∧ ∀ H', Same H H' → Q (.bl true) H'
def spRef2 (K : PySem.W.Frag) (C : Addr) : Sp := fun vs H Q _ => ∃ (s : Addr) (ps : List Nat) (a b p : Int), vs = [.ref s, .int a, .int b, .int p] ∧ ShapeAt K C H s ps ∧ (∃ j, BadAt ps.length [a, b] j ∧ [a, b][j]? = some p) ∧ Small p ∧ ∀ H', Same H H' → Q (.bl true) H'
end EP

namespace EP
open PySem L2
theorem take_one {L : List Nat} {k p : Nat} (h : L[k]? = some p) : L.take (k + 1) = L.take k ++ [p] := by
  have hk := (List.getElem?_eq_some_iff.mp h).1
  rw [List.take_succ_eq_append_getElem hk, (List.getElem?_eq_some_iff.mp h).2]
theorem filt_len (L : List Nat) (k : Nat) (f : Nat → Bool) (h : L.length ≤ 2000) : ((L.take k).filter f).length ≤ 2000 := by
  have a := List.length_filter_le f (L.take k)
  have b : (L.take k).length ≤ L.length := by rw [List.length_take]; omega
  omega
theorem ch_len {ps : List Nat} : ∀ {p n : Nat}, p ≤ ps.length → p ≤ n → (Tr.ch ps p).length ≤ n + 1 := by
  intro p
  induction p using Nat.strongRecOn with
  | _ p ih =>
    intro n hp hn
    by_cases h : 1 ≤ p
    · have l := Tr.par_lt ps h
      have := ih _ l (n := n - 1) (by omega) (by omega)
      rw [Tr.ch_pos ps h, List.length_cons]
      omega
    · obtain rfl : p = 0 := by omega
      rw [Tr.ch_zero]
      show 1 ≤ n + 1
      omega
end EP
namespace K02
open PySem L2 EP
open L2H (RoomH roomH_of)
local macro_rules | `(tactic| walk_at "rd") => `(tactic| (repeat (first
  | (refine ⟨_, rfl, ?_⟩) | (refine ⟨_, _, rfl, rfl, ?_⟩) | (refine ⟨rfl, ?_⟩)
  | (refine ⟨_, _, _, _, _, rfl, (by assumption), (by assumption), (by assumption), (by first | exact shf_size | exact shf_parents | exact shf_masks), ?_⟩))))
def top (i : Nat) : Stmt := PySem.Challenge.pw_everypast_k02_ways_and_distances.main.body.getD i (.Pass ⟨0, 0, 0, 0⟩)
abbrev s_BadShape_init : Stmt := inClass (top 3) 0
abbrev s_BadPosition_init : Stmt := inClass (top 4) 0
abbrev s_BadSide_init : Stmt := inClass (top 5) 0
abbrev s_side_masks : Stmt := top 7
abbrev s_Shape_init : Stmt := inClass (top 8) 0
abbrev s_Shape_has : Stmt := inClass (top 8) 2
abbrev s_Shape_way : Stmt := inClass (top 8) 5
abbrev s_Shape_climb : Stmt := inClass (top 8) 6
abbrev s_Shape_parting : Stmt := inClass (top 8) 7
abbrev s_Shape_distance : Stmt := inClass (top 8) 8
abbrev s_check_position : Stmt := top 9
abbrev s_check_side : Stmt := top 10
abbrev s_is_number_of_side : Stmt := top 11
abbrev s_l_tape : Stmt := top 13
abbrev s_l_next : Stmt := top 14
abbrev s_l_parents : Stmt := top 15
abbrev s_l_above : Stmt := top 16
abbrev s_l_parting : Stmt := top 17
abbrev s_l_is_number : Stmt := top 18
abbrev s_l_ints : Stmt := top 19
abbrev s_l_far : Stmt := top 20
abbrev s_l_bad_position : Stmt := top 21
abbrev s_l_is_way : Stmt := top 22
abbrev s_l_pair_told : Stmt := top 23
abbrev s_l_way_refused : Stmt := top 24
abbrev s_l_parting_refused : Stmt := top 25
abbrev s_l_distance_refused : Stmt := top 26
abbrev s_l_all_refused : Stmt := top 27
abbrev s_law : Stmt := top 28
structure Tx (P : Program) (K : PySem.W.Frag) (mg : Str → Option Value) where
  z_abs : mg "abs" = none
  z_bool : mg "bool" = none
  z_enumerate : mg "enumerate" = none
  z_int : mg "int" = none
  z_isinstance : mg "isinstance" = none
  z_len : mg "len" = none
  z_list : mg "list" = none
  z_max : mg "max" = none
  z_min : mg "min" = none
  z_range : mg "range" = none
  z_tuple : mg "tuple" = none
  C_FindsError : Addr
  mg_FindsError : mg "FindsError" = some (.ref C_FindsError)
  x_BadShape : ExT P K mg "BadShape" "BadShape.__init__" "place" s_BadShape_init
  x_BadPosition : ExT P K mg "BadPosition" "BadPosition.__init__" "position" s_BadPosition_init
  x_BadSide : ExT P K mg "BadSide" "BadSide.__init__" "side" s_BadSide_init
  a_side_masks : Addr
  d_side_masks : FuncData
  F_side_masks : Fun K "_side_masks" "_side_masks" s_side_masks a_side_masks d_side_masks
  B_side_masks : Binds K d_side_masks ["parents"] []
  g_side_masks : mg "_side_masks" = some (.ref a_side_masks)
  a_Shape_init : Addr
  d_Shape_init : FuncData
  F_Shape_init : Fun K "__init__" "Shape.__init__" s_Shape_init a_Shape_init d_Shape_init
  B_Shape_init : Binds K d_Shape_init ["self", "parents"] []
  a_Shape_has : Addr
  d_Shape_has : FuncData
  F_Shape_has : Fun K "has" "Shape.has" s_Shape_has a_Shape_has d_Shape_has
  B_Shape_has : Binds K d_Shape_has ["self", "position", "side"] []
  a_Shape_way : Addr
  d_Shape_way : FuncData
  F_Shape_way : Fun K "way" "Shape.way" s_Shape_way a_Shape_way d_Shape_way
  B_Shape_way : Binds K d_Shape_way ["self", "start", "goal"] []
  a_Shape_climb : Addr
  d_Shape_climb : FuncData
  F_Shape_climb : Fun K "_climb" "Shape._climb" s_Shape_climb a_Shape_climb d_Shape_climb
  B_Shape_climb : Binds K d_Shape_climb ["self", "position"] []
  a_Shape_parting : Addr
  d_Shape_parting : FuncData
  F_Shape_parting : Fun K "parting" "Shape.parting" s_Shape_parting a_Shape_parting d_Shape_parting
  B_Shape_parting : Binds K d_Shape_parting ["self", "first", "second"] []
  a_Shape_distance : Addr
  d_Shape_distance : FuncData
  F_Shape_distance : Fun K "distance" "Shape.distance" s_Shape_distance a_Shape_distance d_Shape_distance
  B_Shape_distance : Binds K d_Shape_distance ["self", "first", "second"] []
  a_check_position : Addr
  d_check_position : FuncData
  F_check_position : Fun K "check_position" "check_position" s_check_position a_check_position d_check_position
  B_check_position : Binds K d_check_position ["shape", "position"] []
  g_check_position : mg "check_position" = some (.ref a_check_position)
  a_check_side : Addr
  d_check_side : FuncData
  F_check_side : Fun K "check_side" "check_side" s_check_side a_check_side d_check_side
  B_check_side : Binds K d_check_side ["shape", "side"] []
  g_check_side : mg "check_side" = some (.ref a_check_side)
  a_is_number_of_side : Addr
  d_is_number_of_side : FuncData
  F_is_number_of_side : Fun K "is_number_of_side" "is_number_of_side" s_is_number_of_side a_is_number_of_side d_is_number_of_side
  B_is_number_of_side : Binds K d_is_number_of_side ["shape", "number"] []
  g_is_number_of_side : mg "is_number_of_side" = some (.ref a_is_number_of_side)
  a_l_tape : Addr
  d_l_tape : FuncData
  F_l_tape : Fun K "_law_tape" "_law_tape" s_l_tape a_l_tape d_l_tape
  B_l_tape : Binds K d_l_tape ["_law_script"] []
  g_l_tape : mg "_law_tape" = some (.ref a_l_tape)
  a_l_next : Addr
  d_l_next : FuncData
  F_l_next : Fun K "_law_next" "_law_next" s_l_next a_l_next d_l_next
  B_l_next : Binds K d_l_next ["_law_tape_here", "_law_size"] []
  g_l_next : mg "_law_next" = some (.ref a_l_next)
  a_l_parents : Addr
  d_l_parents : FuncData
  F_l_parents : Fun K "_law_parents" "_law_parents" s_l_parents a_l_parents d_l_parents
  B_l_parents : Binds K d_l_parents ["_law_tape_here", "_law_most"] []
  g_l_parents : mg "_law_parents" = some (.ref a_l_parents)
  a_l_above : Addr
  d_l_above : FuncData
  F_l_above : Fun K "_law_above" "_law_above" s_l_above a_l_above d_l_above
  B_l_above : Binds K d_l_above ["_law_parents_here", "_law_position"] []
  g_l_above : mg "_law_above" = some (.ref a_l_above)
  a_l_parting : Addr
  d_l_parting : FuncData
  F_l_parting : Fun K "_law_parting" "_law_parting" s_l_parting a_l_parting d_l_parting
  B_l_parting : Binds K d_l_parting ["_law_parents_here", "_law_first", "_law_second"] []
  g_l_parting : mg "_law_parting" = some (.ref a_l_parting)
  a_l_is_number : Addr
  d_l_is_number : FuncData
  F_l_is_number : Fun K "_law_is_number" "_law_is_number" s_l_is_number a_l_is_number d_l_is_number
  B_l_is_number : Binds K d_l_is_number ["_law_thing"] []
  g_l_is_number : mg "_law_is_number" = some (.ref a_l_is_number)
  a_l_ints : Addr
  d_l_ints : FuncData
  F_l_ints : Fun K "_law_ints" "_law_ints" s_l_ints a_l_ints d_l_ints
  B_l_ints : Binds K d_l_ints ["_law_told", "_law_due"] []
  g_l_ints : mg "_law_ints" = some (.ref a_l_ints)
  a_l_far : Addr
  d_l_far : FuncData
  F_l_far : Fun K "_law_far" "_law_far" s_l_far a_l_far d_l_far
  B_l_far : Binds K d_l_far ["_law_tape_here"] []
  g_l_far : mg "_law_far" = some (.ref a_l_far)
  a_l_bad_position : Addr
  d_l_bad_position : FuncData
  F_l_bad_position : Fun K "_law_bad_position" "_law_bad_position" s_l_bad_position a_l_bad_position d_l_bad_position
  B_l_bad_position : Binds K d_l_bad_position ["_law_tape_here", "_law_parents_here"] []
  g_l_bad_position : mg "_law_bad_position" = some (.ref a_l_bad_position)
  a_l_is_way : Addr
  d_l_is_way : FuncData
  F_l_is_way : Fun K "_law_is_way" "_law_is_way" s_l_is_way a_l_is_way d_l_is_way
  B_l_is_way : Binds K d_l_is_way ["_law_parents_here", "_law_told", "_law_begin", "_law_target"] []
  g_l_is_way : mg "_law_is_way" = some (.ref a_l_is_way)
  a_l_pair_told : Addr
  d_l_pair_told : FuncData
  F_l_pair_told : Fun K "_law_pair_told" "_law_pair_told" s_l_pair_told a_l_pair_told d_l_pair_told
  B_l_pair_told : Binds K d_l_pair_told ["_law_shape", "_law_parents_here", "_law_first", "_law_second"] []
  g_l_pair_told : mg "_law_pair_told" = some (.ref a_l_pair_told)
  a_l_way_refused : Addr
  d_l_way_refused : FuncData
  F_l_way_refused : Fun K "_law_way_refused" "_law_way_refused" s_l_way_refused a_l_way_refused d_l_way_refused
  B_l_way_refused : Binds K d_l_way_refused ["_law_shape", "_law_first", "_law_second", "_law_bad"] []
  g_l_way_refused : mg "_law_way_refused" = some (.ref a_l_way_refused)
  a_l_parting_refused : Addr
  d_l_parting_refused : FuncData
  F_l_parting_refused : Fun K "_law_parting_refused" "_law_parting_refused" s_l_parting_refused a_l_parting_refused d_l_parting_refused
  B_l_parting_refused : Binds K d_l_parting_refused ["_law_shape", "_law_first", "_law_second", "_law_bad"] []
  g_l_parting_refused : mg "_law_parting_refused" = some (.ref a_l_parting_refused)
  a_l_distance_refused : Addr
  d_l_distance_refused : FuncData
  F_l_distance_refused : Fun K "_law_distance_refused" "_law_distance_refused" s_l_distance_refused a_l_distance_refused d_l_distance_refused
  B_l_distance_refused : Binds K d_l_distance_refused ["_law_shape", "_law_first", "_law_second", "_law_bad"] []
  g_l_distance_refused : mg "_law_distance_refused" = some (.ref a_l_distance_refused)
  a_l_all_refused : Addr
  d_l_all_refused : FuncData
  F_l_all_refused : Fun K "_law_all_refused" "_law_all_refused" s_l_all_refused a_l_all_refused d_l_all_refused
  B_l_all_refused : Binds K d_l_all_refused ["_law_shape", "_law_first", "_law_second", "_law_bad"] []
  g_l_all_refused : mg "_law_all_refused" = some (.ref a_l_all_refused)
  a_law : Addr
  d_law : FuncData
  F_law : Fun K "law" "law" s_law a_law d_law
  B_law : Binds K d_law ["_law_script"] []
  g_law : mg "law" = some (.ref a_law)
  C_Shape : Addr
  mg_Shape : mg "Shape" = some (.ref C_Shape)
  cl_Shape : Cls K C_Shape
  M_Shape : Mk K C_Shape a_Shape_init
  n_Shape_masks : NoAttr K C_Shape "_masks"
  n_Shape_parents : NoAttr K C_Shape "parents"
  n_Shape_size : NoAttr K C_Shape "size"
  m_Shape_has : Meth K C_Shape "has" a_Shape_has
  m_Shape_way : Meth K C_Shape "way" a_Shape_way
  m_Shape_climb : Meth K C_Shape "_climb" a_Shape_climb
  m_Shape_parting : Meth K C_Shape "parting" a_Shape_parting
  m_Shape_distance : Meth K C_Shape "distance" a_Shape_distance
  k_BadPosition_BadSide : PySem.W.kitOne K (.ref x_BadPosition.C) (.ref x_BadSide.C) = some false
  k_BadPosition_FindsError : PySem.W.kitOne K (.ref x_BadPosition.C) (.ref C_FindsError) = some true
section
variable {P : Program} {w : World} {K : PySem.W.Frag} {mg : Str → Option Value} {base : Heap}
theorem sc_BadShape_init : ScE ["self", "place"] ["self", "place"] (defScope s_BadShape_init) := ⟨rfl, rfl, rfl, by decide +kernel, rfl, by decide +kernel, by decide +kernel, by decide +kernel, by decide +kernel, by decide +kernel⟩
theorem sc_BadPosition_init : ScE ["self", "position"] ["self", "position"] (defScope s_BadPosition_init) := ⟨rfl, rfl, rfl, by decide +kernel, rfl, by decide +kernel, by decide +kernel, by decide +kernel, by decide +kernel, by decide +kernel⟩
theorem sc_BadSide_init : ScE ["self", "side"] ["self", "side"] (defScope s_BadSide_init) := ⟨rfl, rfl, rfl, by decide +kernel, rfl, by decide +kernel, by decide +kernel, by decide +kernel, by decide +kernel, by decide +kernel⟩
theorem sc_side_masks : FnScope ["parents", "count", "branches", "wall", "parent", "masks", "position"] ["parents"] (defScope s_side_masks) := ⟨rfl, rfl, rfl, by decide +kernel, rfl, by decide +kernel, by decide +kernel⟩
theorem sc_Shape_init : FnScope ["self", "parents", "place", "parent"] ["self", "parents"] (defScope s_Shape_init) := ⟨rfl, rfl, rfl, by decide +kernel, rfl, by decide +kernel, by decide +kernel⟩
theorem sc_Shape_has : FnScope ["self", "position", "side"] ["self", "position", "side"] (defScope s_Shape_has) := ⟨rfl, rfl, rfl, by decide +kernel, rfl, by decide +kernel, by decide +kernel⟩
theorem sc_Shape_way : FnScope ["self", "start", "goal", "climb", "descent", "before", "after", "position"] ["self", "start", "goal"] (defScope s_Shape_way) := ⟨rfl, rfl, rfl, by decide +kernel, rfl, by decide +kernel, by decide +kernel⟩
theorem sc_Shape_climb : FnScope ["self", "position", "climb"] ["self", "position"] (defScope s_Shape_climb) := ⟨rfl, rfl, rfl, by decide +kernel, rfl, by decide +kernel, by decide +kernel⟩
theorem sc_Shape_parting : FnScope ["self", "first", "second", "wall"] ["self", "first", "second"] (defScope s_Shape_parting) := ⟨rfl, rfl, rfl, by decide +kernel, rfl, by decide +kernel, by decide +kernel⟩
theorem sc_Shape_distance : FnScope ["self", "first", "second"] ["self", "first", "second"] (defScope s_Shape_distance) := ⟨rfl, rfl, rfl, by decide +kernel, rfl, by decide +kernel, by decide +kernel⟩
theorem sc_check_position : FnScope ["shape", "position"] ["shape", "position"] (defScope s_check_position) := ⟨rfl, rfl, rfl, by decide +kernel, rfl, by decide +kernel, by decide +kernel⟩
theorem sc_check_side : FnScope ["shape", "side"] ["shape", "side"] (defScope s_check_side) := ⟨rfl, rfl, rfl, by decide +kernel, rfl, by decide +kernel, by decide +kernel⟩
theorem sc_is_number_of_side : FnScope ["shape", "number"] ["shape", "number"] (defScope s_is_number_of_side) := ⟨rfl, rfl, rfl, by decide +kernel, rfl, by decide +kernel, by decide +kernel⟩
theorem sc_l_tape : FnScope ["_law_script", "_law_cell"] ["_law_script"] (defScope s_l_tape) := ⟨rfl, rfl, rfl, by decide +kernel, rfl, by decide +kernel, by decide +kernel⟩
theorem sc_l_next : FnScope ["_law_tape_here", "_law_size", "_law_cell", "_law_digit", "_law_mixed"] ["_law_tape_here", "_law_size"] (defScope s_l_next) := ⟨rfl, rfl, rfl, by decide +kernel, rfl, by decide +kernel, by decide +kernel⟩
theorem sc_l_parents : FnScope ["_law_tape_here", "_law_most", "_law_many", "_law_kind", "_law_parents_here", "_law_k"] ["_law_tape_here", "_law_most"] (defScope s_l_parents) := ⟨rfl, rfl, rfl, by decide +kernel, rfl, by decide +kernel, by decide +kernel⟩
theorem sc_l_above : FnScope ["_law_parents_here", "_law_position", "_law_found", "_law_turn"] ["_law_parents_here", "_law_position"] (defScope s_l_above) := ⟨rfl, rfl, rfl, by decide +kernel, rfl, by decide +kernel, by decide +kernel⟩
theorem sc_l_parting : FnScope ["_law_parents_here", "_law_first", "_law_second", "_law_one", "_law_two", "_law_k"] ["_law_parents_here", "_law_first", "_law_second"] (defScope s_l_parting) := ⟨rfl, rfl, rfl, by decide +kernel, rfl, by decide +kernel, by decide +kernel⟩
theorem sc_l_is_number : FnScope ["_law_thing"] ["_law_thing"] (defScope s_l_is_number) := ⟨rfl, rfl, rfl, by decide +kernel, rfl, by decide +kernel, by decide +kernel⟩
theorem sc_l_ints : FnScope ["_law_told", "_law_due", "_law_at"] ["_law_told", "_law_due"] (defScope s_l_ints) := ⟨rfl, rfl, rfl, by decide +kernel, rfl, by decide +kernel, by decide +kernel⟩
theorem sc_l_far : FnScope ["_law_tape_here"] ["_law_tape_here"] (defScope s_l_far) := ⟨rfl, rfl, rfl, by decide +kernel, rfl, by decide +kernel, by decide +kernel⟩
theorem sc_l_bad_position : FnScope ["_law_tape_here", "_law_parents_here", "_law_far_here"] ["_law_tape_here", "_law_parents_here"] (defScope s_l_bad_position) := ⟨rfl, rfl, rfl, by decide +kernel, rfl, by decide +kernel, by decide +kernel⟩
theorem sc_l_is_way : FnScope ["_law_parents_here", "_law_told", "_law_begin", "_law_target", "_law_position", "_law_at", "_law_upper", "_law_lower"] ["_law_parents_here", "_law_told", "_law_begin", "_law_target"] (defScope s_l_is_way) := ⟨rfl, rfl, rfl, by decide +kernel, rfl, by decide +kernel, by decide +kernel⟩
theorem sc_l_pair_told : FnScope ["_law_shape", "_law_parents_here", "_law_first", "_law_second", "_law_due", "_law_turn", "_law_told", "_law_back", "_law_parted", "_law_many"] ["_law_shape", "_law_parents_here", "_law_first", "_law_second"] (defScope s_l_pair_told) := ⟨rfl, rfl, rfl, by decide +kernel, rfl, by decide +kernel, by decide +kernel⟩
theorem sc_l_way_refused : FnScope ["_law_shape", "_law_first", "_law_second", "_law_bad", "e"] ["_law_shape", "_law_first", "_law_second", "_law_bad"] (defScope s_l_way_refused) := ⟨rfl, rfl, rfl, by decide +kernel, rfl, by decide +kernel, by decide +kernel⟩
theorem sc_l_parting_refused : FnScope ["_law_shape", "_law_first", "_law_second", "_law_bad", "e"] ["_law_shape", "_law_first", "_law_second", "_law_bad"] (defScope s_l_parting_refused) := ⟨rfl, rfl, rfl, by decide +kernel, rfl, by decide +kernel, by decide +kernel⟩
theorem sc_l_distance_refused : FnScope ["_law_shape", "_law_first", "_law_second", "_law_bad", "e"] ["_law_shape", "_law_first", "_law_second", "_law_bad"] (defScope s_l_distance_refused) := ⟨rfl, rfl, rfl, by decide +kernel, rfl, by decide +kernel, by decide +kernel⟩
theorem sc_l_all_refused : FnScope ["_law_shape", "_law_first", "_law_second", "_law_bad"] ["_law_shape", "_law_first", "_law_second", "_law_bad"] (defScope s_l_all_refused) := ⟨rfl, rfl, rfl, by decide +kernel, rfl, by decide +kernel, by decide +kernel⟩
theorem sc_law : FnScope ["_law_script", "_law_tape_here", "_law_parents_here", "_law_others", "_law_first", "_law_second", "_law_one", "_law_two", "_law_bad", "_law_worse", "_law_shape", "_law_other"] ["_law_script"] (defScope s_law) := ⟨rfl, rfl, rfl, by decide +kernel, rfl, by decide +kernel, by decide +kernel⟩
theorem bind_BadShape (T : Tx P K mg) : Binds K T.x_BadShape.fd ["self", "place"] [] := by
  obtain ⟨oc, od, kV, doc, pm, an, ct, osl, e, lk⟩ := T.x_BadShape.lk
  rw [e]
  exact .all fun us hl => match us, hl with | [_, _], _ => rfl
theorem init_BadShape (T : Tx P K mg) : FnOk P w K mg base L2.CX0 1 T.x_BadShape.fa T.x_BadShape.fd ["self", "place"] (spExc T.x_BadShape.C "place" IntS) := by
  obtain ⟨oc, od, kV, doc, pm, an, ct, osl, e, lk⟩ := T.x_BadShape.lk
  rw [e] at lk ⊢
  refine fn_exc lk T.x_BadShape.cod sc_BadShape_init T.x_BadShape.sup rfl rfl (fun vs H Q E h => ?_) (fun A outer s H vs Q E hr h => ?_)
  · obtain ⟨a, v, H0, rfl, _⟩ := h
    rfl
  obtain ⟨a, v, H0, rfl, ha, rfl, ⟨i, rfl, hi⟩, q⟩ := h
  have le0 : Str.empty.length = 0 := by decide +kernel
  have le1 : ("not a shape, at index " : Str).length = 22 := by decide +kernel
  refine ⟨a, [.int i], _, _, rfl, upd_same, pa_cons (pe_joined (.cons pe_str (.cons (pe_fmt (pv 1)) .nil))) pa_nil, pss_one (ps_ost (pv 0) (pv 1)), ?_⟩
  refine ⟨_, rfl, ?_, ?_⟩
  · (simp only [Str.length_append]; first | decide | (have hz := intS_len hi; rw [sizeLine_eq]; omega))
  refine ⟨_, rfl, .inr ⟨i, rfl, Nat.lt_of_lt_of_le hi (by decide), ?_⟩⟩
  refine ⟨_, rfl, ?_, ?_⟩
  · (simp only [Str.length_append]; first | decide | (have hz := intS_len hi; rw [sizeLine_eq]; omega))
  refine ⟨(by show 1 ≤ 1000; decide), upd_same, ?_⟩
  refine ⟨_, rfl, _, rfl, a, T.x_BadShape.C, rfl, T.x_BadShape.sup.oex, T.x_BadShape.xn, .inl ⟨upd_same, fun dx h1 h2 => ?_⟩⟩
  rw [upd_ne h2] at h1
  exact q dx h1 h2
theorem bind_BadPosition (T : Tx P K mg) : Binds K T.x_BadPosition.fd ["self", "position"] [] := by
  obtain ⟨oc, od, kV, doc, pm, an, ct, osl, e, lk⟩ := T.x_BadPosition.lk
  rw [e]
  exact .all fun us hl => match us, hl with | [_, _], _ => rfl
theorem init_BadPosition (T : Tx P K mg) : FnOk P w K mg base L2.CX0 1 T.x_BadPosition.fa T.x_BadPosition.fd ["self", "position"] (spExc T.x_BadPosition.C "position" IntS) := by
  obtain ⟨oc, od, kV, doc, pm, an, ct, osl, e, lk⟩ := T.x_BadPosition.lk
  rw [e] at lk ⊢
  refine fn_exc lk T.x_BadPosition.cod sc_BadPosition_init T.x_BadPosition.sup rfl rfl (fun vs H Q E h => ?_) (fun A outer s H vs Q E hr h => ?_)
  · obtain ⟨a, v, H0, rfl, _⟩ := h
    rfl
  obtain ⟨a, v, H0, rfl, ha, rfl, ⟨i, rfl, hi⟩, q⟩ := h
  have le0 : Str.empty.length = 0 := by decide +kernel
  have le1 : ("not a position: " : Str).length = 16 := by decide +kernel
  refine ⟨a, [.int i], _, _, rfl, upd_same, pa_cons (pe_joined (.cons pe_str (.cons (pe_fmt (pv 1)) .nil))) pa_nil, pss_one (ps_ost (pv 0) (pv 1)), ?_⟩
  refine ⟨_, rfl, ?_, ?_⟩
  · (simp only [Str.length_append]; first | decide | (have hz := intS_len hi; rw [sizeLine_eq]; omega))
  refine ⟨_, rfl, .inr ⟨i, rfl, Nat.lt_of_lt_of_le hi (by decide), ?_⟩⟩
  refine ⟨_, rfl, ?_, ?_⟩
  · (simp only [Str.length_append]; first | decide | (have hz := intS_len hi; rw [sizeLine_eq]; omega))
  refine ⟨(by show 1 ≤ 1000; decide), upd_same, ?_⟩
  refine ⟨_, rfl, _, rfl, a, T.x_BadPosition.C, rfl, T.x_BadPosition.sup.oex, T.x_BadPosition.xn, .inl ⟨upd_same, fun dx h1 h2 => ?_⟩⟩
  rw [upd_ne h2] at h1
  exact q dx h1 h2
theorem bind_BadSide (T : Tx P K mg) : Binds K T.x_BadSide.fd ["self", "side"] [] := by
  obtain ⟨oc, od, kV, doc, pm, an, ct, osl, e, lk⟩ := T.x_BadSide.lk
  rw [e]
  exact .all fun us hl => match us, hl with | [_, _], _ => rfl
theorem init_BadSide (T : Tx P K mg) : FnOk P w K mg base L2.CX0 1 T.x_BadSide.fa T.x_BadSide.fd ["self", "side"] (spExc T.x_BadSide.C "side" IntS) := by
  obtain ⟨oc, od, kV, doc, pm, an, ct, osl, e, lk⟩ := T.x_BadSide.lk
  rw [e] at lk ⊢
  refine fn_exc lk T.x_BadSide.cod sc_BadSide_init T.x_BadSide.sup rfl rfl (fun vs H Q E h => ?_) (fun A outer s H vs Q E hr h => ?_)
  · obtain ⟨a, v, H0, rfl, _⟩ := h
    rfl
  obtain ⟨a, v, H0, rfl, ha, rfl, ⟨i, rfl, hi⟩, q⟩ := h
  have le0 : Str.empty.length = 0 := by decide +kernel
  have le1 : ("not a side here: " : Str).length = 17 := by decide +kernel
  refine ⟨a, [.int i], _, _, rfl, upd_same, pa_cons (pe_joined (.cons pe_str (.cons (pe_fmtR (pv 1)) .nil))) pa_nil, pss_one (ps_ost (pv 0) (pv 1)), ?_⟩
  refine ⟨_, rfl, ?_, ?_⟩
  · (simp only [Str.length_append]; first | decide | (have hz := intS_len hi; rw [sizeLine_eq]; omega))
  refine ⟨_, rfl, .inr ⟨i, rfl, Nat.lt_of_lt_of_le hi (by decide), ?_⟩⟩
  refine ⟨_, rfl, ?_, ?_⟩
  · (simp only [Str.length_append]; first | decide | (have hz := intS_len hi; rw [sizeLine_eq]; omega))
  refine ⟨(by show 1 ≤ 1000; decide), upd_same, ?_⟩
  refine ⟨_, rfl, _, rfl, a, T.x_BadSide.C, rfl, T.x_BadSide.sup.oex, T.x_BadSide.xn, .inl ⟨upd_same, fun dx h1 h2 => ?_⟩⟩
  rw [upd_ne h2] at h1
  exact q dx h1 h2
end
section
variable {P : Program} {w : World} {K : PySem.W.Frag} {mg : Str → Option Value} {base : Heap}
theorem ok_side_masks (T : Tx P K mg) : FnOk P w K mg base L2.CX0 1 T.a_side_masks T.d_side_masks ["parents"] (spMasks K) := by
  refine T.F_side_masks.ok sc_side_masks (fun vs H Q E h => ?_) (fun cdv A outer s H vs Q E hr h => ?_)
  · obtain ⟨t, ps, rfl, _⟩ := h
    rfl
  · obtain ⟨t, ps, rfl, ht, ok, sm, q⟩ := h
    have hl : (nvs ps).length = ps.length := nvs_len ps
    refine ⟨_, (pss_cons (ps_set (i := 1) sc_side_masks.nd rfl (Or.inl rfl) (pe_op op_add (pe_callB (id := "len") call_len_seq (by rfl) T.z_len (by decide +kernel) (pa_cons (pv 0) pa_nil)) pe_int))
          (pss_cons (ps_setLc (i := 2) (own := [("position", 6)]) (g := gName 6) (tt := tYes) rfl sc_side_masks.nd rfl rfl (sw_true rfl rfl rfl (by decide +kernel)) (pi_range1 rfl T.z_range (pa_cons (pv 1) pa_nil)) (blkOk_by (N := ["parents", "count", "branches", "wall", "parent", "masks", "position"]) (sc := defScope s_side_masks) (by decide +kernel)) (fun _ _ _ _ _ => (pg_name (i := 6) sc_side_masks.nd rfl (Or.inl rfl))) (fun _ _ _ _ _ => pts_nil) (fun _ _ _ _ _ => (pe_op op_shl pe_int (pv 6))))
          (pss_cons (ps_for PassesOwn.never rfl (pi_range3 rfl T.z_range (pa_cons (pe_op op_sub (pv 1) pe_int) (pa_cons pe_int (pa_cons (pe_un un_neg pe_int) pa_nil)))) (pg_name (i := 3) sc_side_masks.nd rfl (Or.inl rfl))
          (pss_cons (ps_set (i := 4) sc_side_masks.nd rfl (Or.inl rfl) (pe_ix ix_tup (pv 0) (pe_op op_sub (pv 3) pe_int) (fun _ _ => rfl)))
          (pss_one (ps_asg (pe_op op_or (pe_ix ix_list (pv 2) (pv 4) (fun _ _ => rfl)) (pe_ix ix_list (pv 2) (pv 3) (fun _ _ => rfl))) (pg_sub (pv 2) (pv 4) set_list)))))
          (pss_cons (ps_set (i := 5) sc_side_masks.nd rfl (Or.inl rfl) pe_dnewK)
          (pss_cons (ps_for PassesOwn.never rfl (pi_range2 rfl T.z_range (pa_cons pe_int (pa_cons (pv 1) pa_nil))) (pg_name (i := 3) sc_side_masks.nd rfl (Or.inl rfl))
          (pss_cons (ps_dput (hu_of hr) (pv 5) (pv 3) (pe_ix ix_list (pv 2) (pv 3) (fun _ _ => rfl)) rfl)
          (pss_one (ps_dput (hu_of hr) (pv 5) (pe_un un_neg (pv 3)) (pe_op op_sub (pe_ix ix_list (pv 2) pe_int (fun _ _ => rfl)) (pe_ix ix_list (pv 2) (pv 3) (fun _ _ => rfl))) rfl))))
          (pss_one (ps_ret (pv 5)))))))), ?_⟩
    refine ⟨_, rfl, t, _, rfl, .inr ht, _, _, rfl, rfl, ?_⟩
    refine ⟨_, rfl, _, rfl, by omega, by omega, fun D hD => ?_⟩
    have en : ((((nvs ps).length : Nat) : Int) + 1).toNat = ps.length + 1 := by omega
    rw [en]
    refine lc_range (fun i H' => H' = upd H D (.lst (nvs ((List.range i).map (2 ^ ·))))) rfl ?_ ?_
    · rintro i _ hi rfl
      refine ⟨rfl, ?_⟩
      refine ⟨_, rfl, _, _, rfl, rfl, ⟨by omega, by omega, by decide⟩, _, upd_same, size_lt (by rw [nvs_len, List.length_map, List.length_range]; omega), ?_⟩
      rw [upd_upd, List.range_succ, List.map_append, List.map_cons, List.map_nil, ← nvs_snoc]
      have e : (1 : Int) * 2 ^ (0 + (i : Int)).toNat = ((2 ^ i : Nat) : Int) := by
        rw [show (0 + (i : Int)).toNat = i by omega]
        norm_cast
        omega
      dsimp only
      rw [e]
    · rintro _ rfl
      have b1 : ∀ b, b ≤ ps.length → ∃ m, ((List.range (ps.length + 1)).map (2 ^ ·))[b]? = some m ∧ Tr.Bits ps ps.length (ps.length - 0) b m := fun b hb =>
        ⟨2 ^ b, by rw [List.getElem?_map, List.getElem?_range (by omega)]; rfl, Tr.bits_start hb⟩
      have b0 : ((List.range (ps.length + 1)).map (2 ^ ·)).length = ps.length + 1 := by rw [List.length_map, List.length_range]
      generalize (List.range (ps.length + 1)).map (2 ^ ·) = bs0 at b0 b1 ⊢
      have tt : ∀ x, SqT K (upd H D x) t (nvs ps) := fun x => SqT_same (same_new hD) ht
      refine ⟨_, rfl, _, _, rfl, rfl, _, rfl, _, _, _, _, rfl, RgC.neg (by omega) (by omega) (by decide) (by decide), for_rangeC (fun i σ H' => ∃ (bs : List Nat) (a b : Option V), σ = [some (.ref t), some (.int (((nvs ps).length : Nat) + 1)), some (.ref D), a, b, none, none] ∧ H' = upd H D (.lst (nvs bs)) ∧ bs.length = ps.length + 1 ∧ ∀ b, b ≤ ps.length → ∃ m, bs[b]? = some m ∧ Tr.Bits ps ps.length (ps.length - i) b m)
        ⟨bs0, none, none, rfl, rfl, b0, b1⟩ ?_ ?_⟩
      · rintro i _ _ hi ⟨bs, a, b, rfl, rfl, hb0, hb⟩
        have hi' : i < ps.length := by omega
        obtain ⟨j, hj⟩ : ∃ j, ps.length - i = j + 1 := ⟨ps.length - i - 1, by omega⟩
        have pe := Tr.par_eq ok (p := j + 1) (by omega) (by omega)
        have pl := Tr.par_lt ps (p := j + 1) (by omega)
        obtain ⟨mw, w1, w2⟩ := hb (j + 1) (by omega)
        obtain ⟨mp, p1, p2⟩ := hb (Tr.par ps (j + 1)) (by omega)
        rw [hj] at w2 p2
        refine ⟨_, rfl, _, rfl, _, _, rfl, rfl, t, _, _, _, rfl, rfl, tt _, at_of (j := j) (by omega) (nvs_get pe), ?_⟩
        refine ⟨_, rfl, _, rfl, D, _, _, _, rfl, rfl, SqL.of upd_same, at_of (j := Tr.par ps (j + 1)) rfl (nvs_get p1), _, rfl, _, rfl, D, _, _, _, rfl, rfl, SqL.of upd_same, at_of (j := j + 1) (by omega) (nvs_get w1), _, _, rfl, rfl, ?_⟩
        refine ⟨_, rfl, _, rfl, D, _, _, _, rfl, rfl, upd_same, ixN_nat (by rw [nvs_len]; omega), ?_⟩
        have eo : Builtin.bitOr ((mp : Nat) : Int) ((mw : Nat) : Int) = ((mp ||| mw : Nat) : Int) := by
          have z := L2.bitOr_nn (x := (mp : Int)) (y := (mw : Int)) (by omega) (by omega)
          rw [z, Int.toNat_natCast, Int.toNat_natCast]
        refine ⟨bs.set (Tr.par ps (j + 1)) (mp ||| mw), _, _, rfl, ?_, by rw [List.length_set]; exact hb0, fun c hc => ?_⟩
        · dsimp only
          rw [upd_upd, eo, nvs_set]
        · have ej : ps.length - (i + 1) = j := by omega
          rw [ej]
          by_cases e : Tr.par ps (j + 1) = c
          · subst e
            exact ⟨_, List.getElem?_set_self (by omega), Tr.bits_or p2 w2⟩
          · obtain ⟨m, m1, m2⟩ := hb c hc
            rw [hj] at m2
            exact ⟨m, by rw [List.getElem?_set_ne e]; exact m1, Tr.bits_keep m2 e⟩
      · rintro _ _ ⟨bs, a, b, rfl, rfl, hb0, hb⟩
        have ez : ps.length - ((((nvs ps).length : Nat) : Int) + 1 - 1 - 0).toNat = 0 := by omega
        rw [ez] at hb
        obtain ⟨m0, z1, z2⟩ := hb 0 (by omega)
        intro d hd
        have hDd : D ≠ d := ne_of_none upd_same hd
        have hd0 : H d = Option.none := by
          rw [upd_ne hDd.symm] at hd
          exact hd
        have hDl : ∀ x, (upd (upd H D (.lst (nvs bs))) d x) D = some (.lst (nvs bs)) := fun x => by rw [upd_ne hDd, upd_same]
        refine ⟨_, rfl, _, _, rfl, ⟨by decide, by decide, by omega, by omega⟩, for_range (fun i σ H' => ∃ (kvs : List (Key × V)) (a : Option V), σ = [some (.ref t), some (.int (((nvs ps).length : Nat) + 1)), some (.ref D), a, b, some (.ref d), none] ∧ H' = upd (upd H D (.lst (nvs bs))) d (.dK kvs) ∧ kvs.length ≤ 2 * i ∧
          ∀ w, 1 ≤ w → w ≤ i → ∃ m m' : Nat, valV kvs (.inl (w : Int)) = some (.int m) ∧ valV kvs (.inl (-(w : Int))) = some (.int m') ∧ ∀ p, p ≤ ps.length → m.testBit p = Tr.has ps p w ∧ m'.testBit p = !Tr.has ps p w)
          ⟨[], a, rfl, rfl, by simp, fun w h1 h2 => by omega⟩ ?_ ?_⟩
        · rintro i _ _ hi ⟨kvs, a, rfl, rfl, hk, hv⟩
          have hi' : i < ps.length := by omega
          obtain ⟨mw, w1, w2⟩ := hb (i + 1) (by omega)
          refine ⟨_, rfl, _, rfl, D, _, _, _, rfl, rfl, SqL.of (hDl _), at_of (j := i + 1) (by omega) (nvs_get w1), _, rfl, _, rfl, d, _, rfl, DPut.k (k := Sum.inl (1 + (i : Int))) upd_same (size_lt (by omega)), ?_⟩
          have hk2 := putK_len kvs (Sum.inl (1 + (i : Int))) (V.int (mw : Int))
          refine ⟨_, rfl, D, _, _, _, rfl, rfl, SqL.of (by rw [upd_upd]; exact hDl _), at_of (j := 0) rfl (nvs_get z1), _, rfl, _, rfl, D, _, _, _, rfl, rfl, SqL.of (by rw [upd_upd]; exact hDl _), at_of (j := i + 1) (by omega) (nvs_get w1), _, _, rfl, rfl, _, rfl, _, rfl, _, rfl, d, _, rfl, DPut.k (k := Sum.inl (-(1 + (i : Int)))) upd_same (size_lt (by omega)), ?_⟩
          have ml := Tr.mask_le w2 z2
          have ed : ((m0 : Nat) : Int) - ((mw : Nat) : Int) = ((m0 - mw : Nat) : Int) := by omega
          refine ⟨_, _, rfl, by rw [upd_upd, upd_upd], ?_, fun w h1 h2 => ?_⟩
          · have := putK_len (putK kvs (Sum.inl (1 + (i : Int))) (V.int (mw : Int))) (Sum.inl (-(1 + (i : Int)))) (V.int (((m0 : Nat) : Int) - ((mw : Nat) : Int)))
            dsimp only
            omega
          · rw [valV_put, valV_put, valV_put, valV_put]
            by_cases e : w = i + 1
            · subst e
              refine ⟨mw, m0 - mw, ?_, ?_, fun p hp => ⟨Tr.mask_pos h1 hp w2, Tr.mask_neg h1 hp w2 z2⟩⟩
              · rw [if_neg (kv_ne (by omega)), if_pos (by rw [show ((i + 1 : Nat) : Int) = 1 + (i : Int) by omega])]
              · rw [if_pos (by rw [show ((i + 1 : Nat) : Int) = 1 + (i : Int) by omega])]
                dsimp only
                rw [ed]
            · obtain ⟨m, m', v1, v2, v3⟩ := hv w h1 (by omega)
              refine ⟨m, m', ?_, ?_, v3⟩
              · rw [if_neg (kv_ne (by omega)), if_neg (kv_ne (by omega))]
                exact v1
              · rw [if_neg (kv_ne (by omega)), if_neg (kv_ne (by omega))]
                exact v2
        · rintro _ _ ⟨kvs, a, rfl, rfl, hk, hv⟩
          refine ⟨_, rfl, q d kvs _ ((same_new hD).trans (same_new hd)) hd0 upd_same fun w h1 h2 => hv w h1 (by omega)⟩
theorem ok_Shape_init (T : Tx P K mg) : FnOk P w K mg base (L2.CX P w) 3 T.a_Shape_init T.d_Shape_init ["self", "parents"] (spShape K T.C_Shape T.x_BadShape.C) := by
  have G_side_masks := ok_side_masks (P := P) (w := w) (base := base) T
  refine T.F_Shape_init.okX sc_Shape_init (fun vs H Q E h => ?_) (fun cdv A outer s H vs Q E hr h => ?_)
  · obtain ⟨s, dx, l, ns, rfl, _⟩ := h
    rfl
  · obtain ⟨s, dx, l, ns, rfl, hs, hl, sm, good, bad, emp⟩ := h
    have len : (ns.map V.int).length = ns.length := List.length_map ..
    refine ⟨_, (pss_cons (ps_for (passes_of rfl) rfl (pi_enum rfl T.z_enumerate (pa_cons (pv 1) pa_nil)) (pg_tup rfl (pgs_cons (pg_name (i := 2) sc_Shape_init.nd rfl (Or.inl rfl)) (pgs_cons (pg_name (i := 3) sc_Shape_init.nd rfl (Or.inl rfl)) pgs_nil)))
          (pss_one (ps_if (pt_not (pt_chain op_le op_le pe_int (pv 3) (pv 2)))
          (pss_one (ps_raise rfl (takes_of rfl rfl rfl rfl) (pmk_oex T.x_BadShape.sup.oex T.x_BadShape.iC T.x_BadShape.tI (init_BadShape T) (hr.mono (by decide)) (bind_BadShape T) .nil pass0 rfl T.x_BadShape.mgX (pa_cons (pv 2) pa_nil))))
          pss_nil)))
          (pss_cons (ps_if (pt_cmpR op_eq (pe_callB (id := "len") call_len_seq (by rfl) T.z_len (by decide +kernel) (pa_cons (pv 1) pa_nil)) pe_int (nomark _))
          (pss_one (ps_raise rfl (takes_of rfl rfl rfl rfl) (pmk_oex T.x_BadShape.sup.oex T.x_BadShape.iC T.x_BadShape.tI (init_BadShape T) (hr.mono (by decide)) (bind_BadShape T) .nil pass0 rfl T.x_BadShape.mgX (pa_cons pe_int pa_nil))))
          pss_nil)
          (pss_cons (ps_fld (pv 0) (pe_callTy (T := "tuple") call_tuple_of (by rfl) T.z_tuple (by decide +kernel) (pa_cons (pv 1) pa_nil)) rfl)
          (pss_cons (ps_fld (pv 0) (pe_callB (id := "len") call_len_seq (by rfl) T.z_len (by decide +kernel) (pa_cons (pe_fld (pv 0) rfl) pa_nil)) rfl)
          (pss_one (ps_fld (pv 0) (pe_call G_side_masks (hr.mono (by decide)) rfl T.g_side_masks T.F_side_masks.kp T.B_side_masks .nil pass0 (pa_cons (pe_fld (pv 0) rfl) pa_nil)) rfl)))))), ?_⟩
    refine ⟨_, rfl, l, _, rfl, hl, for_enum (fun i σ H' => ∃ (a b : Option V), σ = [some (.ref s), some (.ref l), a, b] ∧ Same H H' ∧ ∀ j, j < i → ¬ Wrong ns j) ⟨none, none, rfl, Same.refl _, fun j hj => absurd hj (Nat.not_lt_zero _)⟩ (fun i σ H' _ ⟨_, _, _, sa, _⟩ => sa.seq hl) ?_ ?_⟩
    · rintro i x t _ H1 hx ⟨a, b, rfl, sa, nw⟩ ht
      obtain ⟨p, hp, rfl⟩ : ∃ p, ns[i]? = some p ∧ x = V.int p := by
        rw [List.getElem?_map] at hx
        cases e : ns[i]? with
        | none => rw [e] at hx; cases hx
        | some p => rw [e] at hx; exact ⟨p, rfl, (Option.some.inj hx).symm⟩
      have hi : i < ns.length := (List.getElem?_eq_some_iff.mp hp).1
      have sb : Same H (upd H1 t (.tup [.int (i : Nat), .int p])) := sa.trans (same_new ht)
      have raise : ¬ (0 ≤ p ∧ p ≤ (i : Int)) → ∀ d, (upd H1 t (.tup [.int (i : Nat), .int p])) d = none → E (.ref T.x_BadShape.C) (some d) (upd (upd H1 t (.tup [.int (i : Nat), .int p])) d (.xd [("place", .int (i : Nat))])) := fun c d hd =>
        bad i ⟨p, hp, c⟩ nw d _ (sb.trans (same_new hd)) (sb.free hd) upd_same
      have iS : IntS (.int ((i : Nat) : Int)) (upd H1 t (.tup [.int (i : Nat), .int p])) := Small.ok (by unfold Small; omega)
      refine ⟨t, _, rfl, SqT.of upd_same, rfl, _, _, rfl, _, _, rfl, rfl, ?_⟩
      refine ⟨_, rfl, _, _, rfl, rfl, _, rfl, ?_⟩
      refine ite2 (fun h0 => ?_) (fun h0 => ?_)
      · refine ⟨_, rfl, _, _, rfl, rfl, _, rfl, ?_⟩
        refine notIte (fun e => ?_) (fun e => ?_)
        · refine ⟨_, _, rfl, sb, fun j hj => ?_⟩
          by_cases c : j < i
          · exact nw j c
          · obtain rfl : j = i := by omega
            rintro ⟨p', hp', c'⟩
            rw [hp] at hp'
            cases hp'
            exact c' ⟨of_decide_eq_true h0, of_decide_eq_true e⟩
        · exact ⟨_, rfl, mkO_intro iS (raise fun z => of_decide_eq_false e z.2)⟩
      · refine ⟨_, rfl, ?_⟩
        exact ⟨_, rfl, mkO_intro iS (raise fun z => h0 (decide_eq_true z.1))⟩
    · rintro _ H1 ⟨a, b, rfl, sa, nw⟩
      have hl1 := sa.seq hl
      refine ⟨_, rfl, l, _, rfl, .inl hl1, rfl, _, rfl, ?_⟩
      refine ite2 (fun h0 => ?_) (fun h0 => ?_)
      · have e : ns = [] := by
          have := of_decide_eq_true h0
          have z : ((ns.map V.int).length : Int) = 0 := V.int.inj this
          exact List.eq_nil_of_length_eq_zero (by omega)
        exact mkO_intro (Small.ok (by unfold Small; decide)) (fun d hd => emp e d _ (sa.trans (same_new hd)) (sa.free hd) upd_same)
      · have hne : ns.length ≠ 0 := fun z => h0 (decide_eq_true (by rw [len, z]; rfl))
        obtain ⟨ps, e1, e2, ok⟩ := ns_nat fun j => by
          by_cases c : j < (ns.map V.int).length
          · exact nw j c
          · rintro ⟨p, hp, _⟩
            have := (List.getElem?_eq_some_iff.mp hp).1
            omega
        rw [e1] at hl1
        have hs1 := sa _ _ hs
        refine ⟨_, rfl, l, _, rfl, .inl ⟨hl1, fun t ht => ?_⟩⟩
        have nst : s ≠ t := ne_of_none hs1 ht
        have hs2 : (upd H1 t (.tup (nvs ps))) s = some (.ins T.C_Shape dx []) := by rw [upd_ne nst]; exact hs1
        refine ⟨_, rfl, s, T.C_Shape, dx, _, rfl, hs2, T.cl_Shape, T.n_Shape_parents, (by decide), ?_⟩
        have ht2 : ∀ o, (upd (upd H1 t (.tup (nvs ps))) s o) t = some (.tup (nvs ps)) := fun o => by rw [upd_ne nst.symm, upd_same]
        refine ⟨_, rfl, s, T.C_Shape, dx, _, _, rfl, upd_same, T.cl_Shape, T.n_Shape_parents, put_parents, t, _, rfl, .inr (SqT.of (ht2 _)), _, rfl, s, T.C_Shape, dx, _, rfl, upd_same, T.cl_Shape, T.n_Shape_size, put_l1, ?_⟩
        rw [upd_upd]
        refine ⟨_, rfl, s, T.C_Shape, dx, _, _, rfl, upd_same, T.cl_Shape, T.n_Shape_parents, put_parents2, t, ps, rfl, SqT.of (ht2 _), ok, by omega, fun d kvs H2 same hd hd2 mk => ?_⟩
        have hs3 := same _ _ upd_same
        have nsd : s ≠ d := ne_of_none upd_same hd
        refine ⟨_, rfl, s, T.C_Shape, dx, _, rfl, hs3, T.cl_Shape, T.n_Shape_masks, put_l2, ?_⟩
        refine good ps _ e1 ok (by omega) ?_ ?_
        · exact ((But.of_same (sa.trans (same_new ht))).trans (But.set.trans (But.of_same same))).trans But.set
        · have e3 : (nvs ps).length = ps.length := nvs_len ps
          rw [e3, put_shf]
          refine ⟨ok, by omega, by omega, dx, t, d, kvs, upd_same, SqT.of ?_, by rw [upd_ne nsd.symm]; exact hd2, mk⟩
          rw [upd_ne nst.symm]
          exact same _ _ (ht2 _)
theorem ok_is_number_of_side (T : Tx P K mg) : FnOk P w K mg base L2.CX0 1 T.a_is_number_of_side T.d_is_number_of_side ["shape", "number"] (spIsNum K T.C_Shape) := by
  refine T.F_is_number_of_side.ok sc_is_number_of_side (fun vs H Q E h => ?_) (fun cdv A outer s H vs Q E hr h => ?_)
  · obtain ⟨s, ps, p, rfl, _⟩ := h
    rfl
  · obtain ⟨s, ps, k, rfl, S, q⟩ := h
    obtain ⟨dx, t, d, kvs, hs, ht, hd, hM⟩ := S.at_
    have cS := T.cl_Shape
    have nP := T.n_Shape_parents
    have nZ := T.n_Shape_size
    have nM := T.n_Shape_masks
    refine ⟨_, (pss_one (ps_ret (pe_and (pe_cmpR op_ne (pv 1) pe_int (nomark _)) (pe_one (pe_chain op_le op_le (pe_un un_neg (pe_fld (pv 0) rfl)) (pv 1) (pe_fld (pv 0) rfl)))))), ?_⟩
    walk_at "rd"
    refine ite2 (fun h0 => ?_) (fun h0 => ?_)
    · walk_at "rd"
      refine ite2 (fun h1 => ?_) (fun h1 => ?_)
      · walk_at "rd"
        refine is_num q ?_
        simp at h0 h1 ⊢
        unfold IsSide
        omega
      · refine is_num q ?_
        simp at h0 h1 ⊢
        unfold IsSide
        omega
    · refine is_num q ?_
      simp at h0 ⊢
      unfold IsSide
      omega
theorem ok_check_position (T : Tx P K mg) : FnOk P w K mg base (L2.CX P w) 3 T.a_check_position T.d_check_position ["shape", "position"] (spChkPos K T.C_Shape T.x_BadPosition.C) := by
  refine T.F_check_position.okX sc_check_position (fun vs H Q E h => ?_) (fun cdv A outer s H vs Q E hr h => ?_)
  · obtain ⟨s, ps, p, rfl, _⟩ := h
    rfl
  · obtain ⟨s, ps, p, rfl, S, q1, q2⟩ := h
    obtain ⟨dx, t, d, kvs, hs, ht, hd, hM⟩ := S.at_
    have cS := T.cl_Shape
    have nP := T.n_Shape_parents
    have nZ := T.n_Shape_size
    have nM := T.n_Shape_masks
    refine ⟨_, (pss_one (ps_if (pt_not (pt_chain op_le op_le pe_int (pv 1) (pe_fld (pv 0) rfl)))
          (pss_one (ps_raise rfl (takes_of rfl rfl rfl rfl) (pmk_oex T.x_BadPosition.sup.oex T.x_BadPosition.iC T.x_BadPosition.tI (init_BadPosition T) (hr.mono (by decide)) (bind_BadPosition T) .nil pass0 rfl T.x_BadPosition.mgX (pa_cons (pv 1) pa_nil))))
          pss_nil)), ?_⟩
    walk_at "rd"
    refine ite2 (fun h0 => ?_) (fun h0 => ?_)
    · walk_at "rd"
      refine notIte (fun e => q1 ⟨of_decide_eq_true h0, of_decide_eq_true e⟩) (fun e => ?_)
      obtain ⟨sm, q2⟩ := q2 fun z => of_decide_eq_false e z.2
      exact ⟨_, rfl, mkO_intro sm.ok q2⟩
    · walk_at "rd"
      obtain ⟨sm, q2⟩ := q2 fun z => h0 (decide_eq_true z.1)
      exact mkO_intro sm.ok q2
theorem ok_check_side (T : Tx P K mg) : FnOk P w K mg base (L2.CX P w) 3 T.a_check_side T.d_check_side ["shape", "side"] (spChkSide K T.C_Shape T.x_BadSide.C) := by
  have G_is_number_of_side := ok_is_number_of_side (P := P) (w := w) (base := base) T
  refine T.F_check_side.okX sc_check_side (fun vs H Q E h => ?_) (fun cdv A outer s H vs Q E hr h => ?_)
  · obtain ⟨s, ps, p, rfl, _⟩ := h
    rfl
  · obtain ⟨s, ps, k, rfl, S, q1, q2⟩ := h
    refine ⟨_, (pss_one (ps_if (pt_not (pt_val (pe_call G_is_number_of_side (hr.mono (by decide)) rfl T.g_is_number_of_side T.F_is_number_of_side.kp T.B_is_number_of_side .nil pass0 (pa_cons (pv 0) (pa_cons (pv 1) pa_nil)))))
          (pss_one (ps_raise rfl (takes_of rfl rfl rfl rfl) (pmk_oex T.x_BadSide.sup.oex T.x_BadSide.iC T.x_BadSide.tI (init_BadSide T) (hr.mono (by decide)) (bind_BadSide T) .nil pass0 rfl T.x_BadSide.mgX (pa_cons (pv 1) pa_nil))))
          pss_nil)), ?_⟩
    refine ⟨_, rfl, _, rfl, s, ps, k, rfl, S, _, rfl, ?_⟩
    by_cases c : IsSide ps.length k
    · rw [decide_eq_true c]
      exact iteF (q1 c)
    · rw [decide_eq_false c]
      refine iteT ?_
      obtain ⟨sm, q2⟩ := q2 c
      refine ⟨_, rfl, mkO_intro sm.ok q2⟩
theorem ok_Shape_has (T : Tx P K mg) : FnOk P w K mg base (L2.CX P w) 4 T.a_Shape_has T.d_Shape_has ["self", "position", "side"] (spHas K T.C_Shape T.x_BadPosition.C T.x_BadSide.C) := by
  have G_check_position := ok_check_position (P := P) (w := w) (base := base) T
  have G_check_side := ok_check_side (P := P) (w := w) (base := base) T
  refine T.F_Shape_has.okX sc_Shape_has (fun vs H Q E h => ?_) (fun cdv A outer s H vs Q E hr h => ?_)
  · obtain ⟨s, ps, p, k, rfl, _⟩ := h
    rfl
  · obtain ⟨s, ps, p, k, rfl, S, q1, q2, q3⟩ := h
    obtain ⟨dx, t, d, kvs, hs, ht, hd, hM⟩ := S.at_
    have cS := T.cl_Shape
    have nP := T.n_Shape_parents
    have nZ := T.n_Shape_size
    have nM := T.n_Shape_masks
    refine ⟨_, (pss_cons (ps_expr (pe_call G_check_position hr rfl T.g_check_position T.F_check_position.kp T.B_check_position .nil pass_up (pa_cons (pv 0) (pa_cons (pv 1) pa_nil))))
          (pss_cons (ps_expr (pe_call G_check_side hr rfl T.g_check_side T.F_check_side.kp T.B_check_side .nil pass_up (pa_cons (pv 0) (pa_cons (pv 2) pa_nil))))
          (pss_one (ps_ret (pe_cmpR op_eq (pe_op op_and (pe_op op_shr (pe_dget (hu_of hr) (pe_fld (pv 0) rfl) (pv 2) (fun _ _ => rfl)) (pv 1)) pe_int) pe_int (nomark _)))))), ?_⟩
    refine ⟨_, rfl, _, rfl, s, ps, p, rfl, S, fun hp => ?_, q2⟩
    refine ⟨_, rfl, _, rfl, s, ps, k, rfl, S, fun hk => ?_, q3 hp⟩
    obtain ⟨m, hm, hb⟩ := mask_of hM hp hk
    walk_at "rd"
    have q := q1 hp hk
    refine ⟨d, .int m, rfl, ?_, ?_⟩
    · rw [← hm]
      exact DGet.k (k := Sum.inl k) hd
    walk_at "rd"
    refine ⟨hp.1, ?_⟩
    walk_at "rd"
    show Q (.bl (decide (V.int (Builtin.bitAnd ((m : Int) / 2 ^ p.toNat) 1) = V.int 1))) H
    rw [shr_ok, hb]
    cases hz : hasS ps p k
    · rw [hz] at q
      exact q
    · rw [hz] at q
      exact q
theorem ok_l_tape (T : Tx P K mg) : FnOk P w K mg base L2.CX0 1 T.a_l_tape T.d_l_tape ["_law_script"] (spTape K) := by
  refine T.F_l_tape.ok sc_l_tape (fun vs H Q E h => ?_) (fun cdv A outer s H vs Q E hr h => ?_)
  · obtain ⟨a, ns, rfl, _⟩ := h
    rfl
  · obtain ⟨a, ns, rfl, hl, sm, q⟩ := h
    have len : (ns.map V.int).length = ns.length := List.length_map ..
    refine ⟨_, (pss_one (ps_ret (pe_lst (pa_cons (pe_lc (own := [("_law_cell", 1)]) (g := gName 1) (tt := tYes) rfl sc_l_tape.nd (pi_list (pv 0)) (blkOk_by (N := ["_law_script", "_law_cell"]) (sc := defScope s_l_tape) (by decide +kernel)) (fun _ _ _ _ _ => (pg_name (i := 1) sc_l_tape.nd rfl (Or.inl rfl))) (fun _ _ _ _ _ => pts_nil) (fun _ _ _ _ _ => (pe_callB (id := "abs") call_abs (by rfl) T.z_abs (by decide +kernel) (pa_cons (pe_callTy (T := "int") call_int1 (by rfl) T.z_int (by decide +kernel) (pa_cons (pv 1) pa_nil)) pa_nil)))) (pa_cons pe_int (pa_cons pe_int (pa_cons pe_int (pa_cons pe_int pa_nil)))))))), ?_⟩
    refine ⟨_, rfl, a, rfl, ⟨_, hl⟩, fun D hD => ?_⟩
    have hl2 : ∀ x, SqL K (upd H D x) a (ns.map V.int) := fun x => (same_new hD).seq hl
    refine lc_list (K := K) (a := a) (xs := ns.map V.int) (fun k H' => H' = upd H D (.lst ((((ns.take k).map absI).map V.int)))) rfl (fun k H' _ e => by rw [e]; exact hl2 _) ?_ ?_
    · rintro k x _ hx rfl
      obtain ⟨p, hp, rfl⟩ := ns_get hx
      refine ⟨rfl, ?_⟩
      refine ⟨_, rfl, .inl ⟨_, rfl, _, rfl, _, upd_same, size_lt ?_, ?_⟩⟩
      · rw [List.length_map, List.length_map, List.length_take]
        omega
      · rw [upd_upd]
        have hk := (List.getElem?_eq_some_iff.mp hp).1
        rw [List.take_succ_eq_append_getElem hk, (List.getElem?_eq_some_iff.mp hp).2, List.map_append, List.map_append]
        rfl
    · rintro _ rfl
      refine ⟨(by show 5 ≤ sizeLine; exact size_le (by omega)), fun t ht => ?_⟩
      have nt : D ≠ t := ne_of_none upd_same ht
      refine q t D _ ((same_new hD).trans (same_new ht)) ((same_new hD).free ht) ⟨(ns.take (ns.map V.int).length).map absI, 0, 0, 0, 0, upd_same, by rw [upd_ne nt]; exact upd_same, Int.le_refl 0⟩
theorem ok_l_next (T : Tx P K mg) : FnOk P w K mg base L2.CX0 1 T.a_l_next T.d_l_next ["_law_tape_here", "_law_size"] (spNext) := by
  refine T.F_l_next.ok sc_l_next (fun vs H Q E h => ?_) (fun cdv A outer s H vs Q E hr h => ?_)
  · obtain ⟨t, u, n, rfl, _⟩ := h
    rfl
  · obtain ⟨t, u, n, rfl, n0, n1, ⟨xs, i, b, sm, c, ht, hu, hi⟩, q⟩ := h
    have nut : u ≠ t := fun e => by
      rw [e, ht] at hu
      exact ints_tp (HO.lst.inj (Option.some.inj hu)).symm
    have wn : CDivW 0 n := wide_div (b := 60) n0 (by omega) (by decide) (by decide)
    refine ⟨_, (pss_cons (ps_asg (pe_op op_add (pe_ix ix_list (pv 0) pe_int (fun _ _ => rfl)) pe_int) (pg_sub (pv 0) pe_int set_list))
          (C8.pss_cut (ps_if (PW.pt (pw_and (pt_cmpR op_eq (pe_ix ix_list (pv 0) pe_int (fun _ _ => rfl)) pe_int (nomark _)) (pw_and (pt_cmpR op_lt (pe_ix ix_list (pv 0) pe_int (fun _ _ => rfl)) (pe_callB (id := "len") call_len_seq (by rfl) T.z_len (by decide +kernel) (pa_cons (pe_ix ix_list (pv 0) pe_int (fun _ _ => rfl)) pa_nil)) (nomark _)) (pw_and1 (pt_cmpR op_eq (pe_op op_mod (pe_callTy (T := "int") call_int1 (by rfl) T.z_int (by decide +kernel) (pa_cons (pe_ix ix_list (pv 0) pe_int (fun _ _ => rfl)) pa_nil)) pe_int) pe_int (nomark _))))))
          (pss_cons (ps_set (i := 2) sc_l_next.nd rfl (Or.inl rfl) (pe_ix ix_list (pe_ix ix_list (pv 0) pe_int (fun _ _ => rfl)) (pe_ix ix_list (pv 0) pe_int (fun _ _ => rfl)) (fun _ _ => rfl)))
          (pss_cons (ps_asg (pe_op op_add (pe_ix ix_list (pv 0) pe_int (fun _ _ => rfl)) pe_int) (pg_sub (pv 0) pe_int set_list))
          (pss_one (ps_if (pt_cmpR op_ge (pv 2) (pe_op op_pow pe_int pe_int) (nomark _))
          (pss_one (ps_asg (pv 2) (pg_sub (pv 0) pe_int set_list)))
          (pss_one (ps_asg (pv 2) (pg_sub (pv 0) pe_int set_list)))))))
          pss_nil)
          (pss_cons (ps_if (pt_cmpR op_gt (pe_ix ix_list (pv 0) pe_int (fun _ _ => rfl)) pe_int (nomark _))
          (pss_cons (ps_set (i := 3) sc_l_next.nd rfl (Or.inl rfl) (pe_op op_mod (pe_callTy (T := "int") call_int1 (by rfl) T.z_int (by decide +kernel) (pa_cons (pe_ix ix_list (pv 0) pe_int (fun _ _ => rfl)) pa_nil)) (pv 1)))
          (pss_cons (ps_asg (pe_op op_fdivW (pe_ix ix_list (pv 0) pe_int (fun _ _ => rfl)) (pv 1)) (pg_sub (pv 0) pe_int set_list))
          (pss_one (ps_ret (pv 3)))))
          pss_nil)
          (pss_cons (ps_set (i := 4) sc_l_next.nd rfl (Or.inl rfl) (pe_op op_mod (pe_callTy (T := "int") call_int1 (by rfl) T.z_int (by decide +kernel) (pa_cons (pe_op op_add (pe_op op_add (pe_ix ix_list (pv 0) pe_int (fun _ _ => rfl)) (pe_op op_mul pe_int (pe_ix ix_list (pv 0) pe_int (fun _ _ => rfl)))) pe_int) pa_nil)) pe_int))
          (pss_cons (ps_set (i := 4) sc_l_next.nd rfl (Or.inl rfl) (pe_op op_mod (pe_callTy (T := "int") call_int1 (by rfl) T.z_int (by decide +kernel) (pa_cons (pe_op op_mul (pv 4) (pe_op op_add (pv 4) pe_int)) pa_nil)) pe_int))
          (pss_cons (ps_set (i := 4) sc_l_next.nd rfl (Or.inl rfl) (pe_op op_mod (pe_callTy (T := "int") call_int1 (by rfl) T.z_int (by decide +kernel) (pa_cons (pe_op op_add (pe_op op_mul (pv 4) (pe_op op_add (pv 4) pe_int)) (pe_op op_mul pe_int (pe_ix ix_list (pv 0) pe_int (fun _ _ => rfl)))) pa_nil)) pe_int))
          (pss_one (ps_ret (pe_op op_mod (pe_callTy (T := "int") call_int1 (by rfl) T.z_int (by decide +kernel) (pa_cons (pe_op op_fdivW (pv 4) pe_int) pa_nil)) (pv 1)))))))))), ?_⟩
    refine ⟨_, rfl, t, tp u i b sm c, _, _, rfl, rfl, SqL.of ht, rfl, _, _, rfl, rfl, ?_⟩
    refine ⟨_, rfl, t, tp u i b sm c, _, _, rfl, rfl, ht, rfl, ?_⟩
    refine ⟨fun σ H' => ∃ (v : Option V) (i b sm c : Int), 0 ≤ i ∧ σ = [some (.ref t), some (.int n), v, none, none] ∧ H' = upd H t (.lst (tp u i b sm c)), ?_, ?_⟩
    · have hH : ∀ o, (upd H t o) u = some (.lst (xs.map V.int)) := fun o => by rw [upd_ne nut]; exact hu
      have no : ∃ (v : Option V) (i' b' sm' c' : Int), 0 ≤ i' ∧ ([some (.ref t), some (.int n), none, none, none] : List (Option V)) = [some (.ref t), some (.int n), v, none, none] ∧ upd H t (.lst (tp u i b sm (c + 1))) = upd H t (.lst (tp u i' b' sm' c')) := ⟨none, i, b, sm, c + 1, hi, rfl, rfl⟩
      refine ⟨_, rfl, _, _, _, _, rfl, rfl, SqL.of upd_same, rfl, rfl, _, rfl, ?_⟩
      refine boolIte (fun h1 => ?_) (fun h1 => no)
      refine ⟨_, rfl, _, _, _, _, rfl, rfl, SqL.of upd_same, rfl, _, rfl, _, _, _, _, rfl, rfl, SqL.of upd_same, rfl, u, _, rfl, .inl (SqL.of (hH _)), _, _, rfl, rfl, _, rfl, ?_⟩
      refine boolIte (fun h2 => ?_) (fun h2 => no)
      refine ⟨_, rfl, _, _, _, _, rfl, rfl, SqL.of upd_same, rfl, .inl ⟨_, rfl, _, _, rfl, rfl, (by show (0 : Int) < 4; decide), rfl, _, rfl, ?_⟩⟩
      refine boolIte (fun h3 => ?_) (fun h3 => no)
      have hlt : i < (((xs.map V.int).length : Nat) : Int) := of_decide_eq_true h2
      rw [List.length_map] at hlt
      obtain ⟨x, hx⟩ : ∃ x, xs[i.toNat]? = some x := ⟨xs[i.toNat]'(by omega), List.getElem?_eq_getElem _⟩
      refine ⟨_, rfl, _, _, _, _, rfl, rfl, SqL.of upd_same, rfl, _, rfl, _, _, _, _, rfl, rfl, SqL.of upd_same, rfl, u, _, _, _, rfl, rfl, SqL.of (hH _), at_of (j := i.toNat) (v := V.int x) (by omega) (by rw [List.getElem?_map, hx]; rfl), ?_⟩
      refine ⟨_, rfl, _, _, _, _, rfl, rfl, SqL.of upd_same, rfl, _, _, rfl, rfl, ?_⟩
      refine ⟨_, rfl, t, _, _, _, rfl, rfl, upd_same, rfl, ?_⟩
      rw [upd_upd]
      refine ⟨_, rfl, _, _, rfl, rfl, ⟨by decide, by decide, by decide⟩, _, _, rfl, rfl, _, rfl, ?_⟩
      refine boolIte (fun h4 => ?_) (fun h4 => ?_)
      · refine ⟨_, rfl, _, rfl, t, _, _, _, rfl, rfl, upd_same, rfl, ?_⟩
        rw [upd_upd]
        exact ⟨_, i + 1, x, sm, c + 1, by omega, rfl, rfl⟩
      · refine ⟨_, rfl, _, rfl, t, _, _, _, rfl, rfl, upd_same, rfl, ?_⟩
        rw [upd_upd]
        exact ⟨_, i + 1, b, x, c + 1, by omega, rfl, rfl⟩
    · rintro _ _ ⟨v, i, b, sm, c, hi, rfl, rfl⟩
      have hH : ∀ o, (upd H t o) u = some (.lst (xs.map V.int)) := fun o => by rw [upd_ne nut]; exact hu
      have fin : ∀ (r : Int) (i b sm c : Int), 0 ≤ i → 0 ≤ r → r < n → Q (.int r) (upd H t (.lst (tp u i b sm c))) := fun r i b sm c hi r0 r1 => by
        have := q r.toNat (upd H t (.lst (tp u i b sm c))) (by omega) ⟨xs, i, b, sm, c, upd_same, hH _, hi⟩ But.set (fun b hb => upd_ne hb)
        rw [show ((r.toNat : Nat) : Int) = r by omega] at this
        exact this
      refine ⟨_, rfl, _, _, _, _, rfl, rfl, SqL.of upd_same, rfl, _, _, rfl, rfl, _, rfl, ?_⟩
      refine boolIte (fun h1 => ?_) (fun h1 => ?_)
      · refine ⟨_, rfl, _, _, _, _, rfl, rfl, SqL.of upd_same, rfl, .inl ⟨_, rfl, _, rfl, _, _, rfl, rfl, n0, ?_⟩⟩
        refine ⟨_, rfl, _, _, _, _, rfl, rfl, SqL.of upd_same, rfl, _, rfl, _, _, rfl, rfl, wn, ?_⟩
        refine ⟨_, rfl, t, _, _, _, rfl, rfl, upd_same, rfl, ?_⟩
        refine ⟨_, rfl, ?_⟩
        rw [upd_upd]
        exact fin _ i _ sm c hi (Int.emod_nonneg _ (by omega)) (Int.emod_lt_of_pos _ n0)
      · refine ⟨_, rfl, _, _, _, _, rfl, rfl, SqL.of upd_same, rfl, _, rfl, _, _, _, _, rfl, rfl, SqL.of upd_same, rfl, _, _, rfl, rfl, .inl ⟨by decide, by decide⟩, _, _, rfl, rfl, _, _, rfl, rfl, .inl ⟨_, rfl, _, _, rfl, rfl, (by show (0 : Int) < 2147483647; decide), ?_⟩⟩
        have b1 := emod_in (x := sm + 7919 * c + 13) (m := 2147483647) (by decide)
        dsimp only
        generalize (sm + 7919 * c + 13) % 2147483647 = m1 at b1 ⊢
        refine ⟨_, rfl, _, rfl, _, _, rfl, rfl, _, _, rfl, rfl, .inl ⟨by omega, by omega⟩, .inl ⟨_, rfl, _, _, rfl, rfl, (by show (0 : Int) < 2147483629; decide), ?_⟩⟩
        have b2 := emod_in (x := m1 * (m1 + 48271)) (m := 2147483629) (by decide)
        dsimp only
        generalize m1 * (m1 + 48271) % 2147483629 = m2 at b2 ⊢
        refine ⟨_, rfl, _, rfl, _, _, rfl, rfl, _, _, rfl, rfl, .inl ⟨by omega, by omega⟩, _, rfl, _, _, _, _, rfl, rfl, SqL.of upd_same, rfl, _, _, rfl, rfl, .inl ⟨by decide, by decide⟩, _, _, rfl, rfl, .inl ⟨_, rfl, _, _, rfl, rfl, (by show (0 : Int) < 2147483647; decide), ?_⟩⟩
        refine ⟨_, rfl, _, _, rfl, rfl, wide_div (b := 4) (by decide) (by decide) (by decide) (by decide), .inl ⟨_, rfl, _, rfl, _, _, rfl, rfl, n0, ?_⟩⟩
        exact fin _ i b sm c hi (Int.emod_nonneg _ (by omega)) (Int.emod_lt_of_pos _ n0)
theorem ok_l_parents (T : Tx P K mg) : FnOk P w K mg base L2.CX0 2 T.a_l_parents T.d_l_parents ["_law_tape_here", "_law_most"] (spLParents) := by
  have G_l_next := ok_l_next (P := P) (w := w) (base := base) T
  refine T.F_l_parents.ok sc_l_parents (fun vs H Q E h => ?_) (fun cdv A outer s H vs Q E hr h => ?_)
  · obtain ⟨t, u, m, rfl, _⟩ := h
    rfl
  · obtain ⟨t, u, m, rfl, m1, m2, hT, q⟩ := h
    refine ⟨_, (pss_cons (ps_set (i := 2) sc_l_parents.nd rfl (Or.inl rfl) (pe_op op_add pe_int (pe_call G_l_next hr rfl T.g_l_next T.F_l_next.kp T.B_l_next .nil pass0 (pa_cons (pv 0) (pa_cons (pv 1) pa_nil)))))
          (pss_cons (ps_set (i := 3) sc_l_parents.nd rfl (Or.inl rfl) (pe_call G_l_next hr rfl T.g_l_next T.F_l_next.kp T.B_l_next .nil pass0 (pa_cons (pv 0) (pa_cons pe_int pa_nil))))
          (pss_cons (ps_set (i := 4) sc_l_parents.nd rfl (Or.inl rfl) (pe_lst pa_nil))
          (pss_cons (ps_for PassesOwn.never rfl (pi_range1 rfl T.z_range (pa_cons (pv 2) pa_nil)) (pg_name (i := 5) sc_l_parents.nd rfl (Or.inl rfl))
          (pss_one (ps_if (pt_cmpR op_eq (pv 3) pe_int (nomark _))
          (pss_one (ps_expr (pe_bm PySem.F.plainAttrs_list PySem.F.slot_list_append PySem.F.type_list_append mt_append (pv 4) (pa_cons (pv 5) pa_nil))))
          (pss_one (ps_expr (pe_bm PySem.F.plainAttrs_list PySem.F.slot_list_append PySem.F.type_list_append mt_append (pv 4) (pa_cons (pe_call G_l_next hr rfl T.g_l_next T.F_l_next.kp T.B_l_next .nil pass0 (pa_cons (pv 0) (pa_cons (pe_op op_add (pv 5) pe_int) pa_nil))) pa_nil)))))))
          (pss_one (ps_ret (pv 4))))))), ?_⟩
    refine ⟨_, rfl, _, rfl, t, u, (m : Int), rfl, by omega, by omega, hT, fun r H1 hr hT1 k1 _ => ?_⟩
    refine ⟨_, _, rfl, rfl, ?_⟩
    refine ⟨_, rfl, t, u, 3, rfl, by decide, by decide, hT1, fun kd H2 _ hT2 k2 _ => ?_⟩
    refine ⟨Nat.zero_le _, fun l hl => ?_⟩
    have k3 := k1.trans k2
    have hlt : l ≠ t := fun e => hT2.new (by rw [← e]; exact hl)
    have hlu : u ≠ l := fun e => hT2.newu (by rw [e]; exact hl)
    have hl0 : H l = Option.none := k3.free hlt hl
    refine ⟨_, rfl, _, rfl, by omega, by omega, for_range (fun i σ H' => ∃ (ps : List Nat) (v : Option V), σ = [some (.ref t), some (.int m), some (.int (1 + (r : Int))), some (.int (kd : Int)), some (.ref l), v] ∧ Tr.Ok ps ∧ ps.length = i ∧ Tape H' t u ∧ But t H H' ∧ H' l = some (.lst (nvs ps)))
      ⟨[], none, rfl, fun i p h => by simp at h, rfl, hT2.same (same_new hl), k3.trans (But.of_new hl), upd_same⟩ ?_ ?_⟩
    · rintro i _ H3 hi ⟨ps, v, rfl, ok, hlen, hT3, k4, h3⟩
      have add : ∀ (p : Nat) (H4 : Hp), p ≤ i → Tape H4 t u → But t H H4 → H4 l = some (.lst (nvs ps)) → ∃ (ps' : List Nat) (v : Option V), ([some (.ref t), some (.int m), some (.int (1 + (r : Int))), some (.int (kd : Int)), some (.ref l), some (.int (0 + (i : Int)))] : List (Option V)) = [some (.ref t), some (.int m), some (.int (1 + (r : Int))), some (.int (kd : Int)), some (.ref l), v] ∧ Tr.Ok ps' ∧ ps'.length = i + 1 ∧ Tape (upd H4 l (.lst (nvs ps ++ [V.int (p : Int)]))) t u ∧ But t H (upd H4 l (.lst (nvs ps ++ [V.int (p : Int)]))) ∧ (upd H4 l (.lst (nvs ps ++ [V.int (p : Int)]))) l = some (.lst (nvs ps')) := fun p H4 hp hT4 k5 h4 => by
        refine ⟨ps ++ [p], _, rfl, ?_, by rw [List.length_append, hlen]; rfl, ?_, k5.upd_at hl0, by rw [upd_same, nvs_snoc]⟩
        · intro j x hx
          rw [List.getElem?_append] at hx
          split at hx
          · exact ok j x hx
          · rename_i hj
            obtain rfl : p = x := by
              cases e : j - ps.length with
              | zero => rw [e] at hx; exact Option.some.inj hx
              | succ z => rw [e] at hx; cases hx
            omega
        · obtain ⟨xs, i', b', s', c', a1, a2, a3⟩ := hT4
          exact ⟨xs, i', b', s', c', by rw [upd_ne hlt.symm]; exact a1, by rw [upd_ne hlu]; exact a2, a3⟩
      refine ⟨_, rfl, rfl, _, rfl, ?_⟩
      refine boolIte (fun h1 => ?_) (fun h1 => ?_)
      · refine ⟨_, rfl, .inl ⟨rfl, _, SqL.of h3⟩, _, rfl, l, _, _, rfl, rfl, h3, size_lt (by rw [nvs_len]; omega), ?_⟩
        have := add i H3 (Nat.le_refl _) hT3 k4 h3
        rw [show ((0 : Int) + (i : Int)) = (i : Int) by omega] at this ⊢
        exact this
      · refine ⟨_, rfl, .inl ⟨rfl, _, SqL.of h3⟩, _, rfl, _, rfl, _, _, rfl, rfl, t, u, (0 + (i : Int) + 1), rfl, by omega, by omega, hT3, fun p H4 hp hT4 k5 same5 => ?_⟩
        have h4 : H4 l = some (.lst (nvs ps)) := k5 l _ hlt h3
        refine ⟨l, _, _, rfl, rfl, h4, size_lt (by rw [nvs_len]; omega), ?_⟩
        exact add p H4 (by omega) hT4 (k4.trans k5) h4
    · rintro _ H3 ⟨ps, v, rfl, ok, hlen, hT3, k4, h3⟩
      refine ⟨_, rfl, q l ps H3 ok (by omega) (by omega) hT3 k4 hl0 h3⟩
theorem ok_l_above (T : Tx P K mg) : FnOk P w K mg base L2.CX0 1 T.a_l_above T.d_l_above ["_law_parents_here", "_law_position"] (spAbove K) := by
  refine T.F_l_above.ok sc_l_above (fun vs H Q E h => ?_) (fun cdv A outer s H vs Q E hr h => ?_)
  · obtain ⟨l, ps, p, rfl, _⟩ := h
    rfl
  · obtain ⟨l, ps, p, rfl, hl, ok, sm, hp, q⟩ := h
    have len := nvs_len ps
    refine ⟨_, (pss_cons (ps_set (i := 2) sc_l_above.nd rfl (Or.inl rfl) (pe_lst pa_nil))
          (pss_cons (ps_for PassesOwn.never rfl (pi_range1 rfl T.z_range (pa_cons (pe_op op_add (pe_callB (id := "len") call_len_seq (by rfl) T.z_len (by decide +kernel) (pa_cons (pv 0) pa_nil)) pe_int) pa_nil)) (pg_name (i := 3) sc_l_above.nd rfl (Or.inl rfl))
          (pss_cons (ps_if (pt_cmpR op_le (pv 1) pe_int (nomark _))
          (pss_one ps_break)
          pss_nil)
          (pss_cons (ps_expr (pe_bm PySem.F.plainAttrs_list PySem.F.slot_list_append PySem.F.type_list_append mt_append (pv 2) (pa_cons (pv 1) pa_nil)))
          (pss_one (ps_set (i := 1) sc_l_above.nd rfl (Or.inl rfl) (pe_ix ix_list (pv 0) (pe_op op_sub (pv 1) pe_int) (fun _ _ => rfl)))))))
          (pss_one (ps_ret (pv 2))))), ?_⟩
    refine ⟨Nat.zero_le _, fun r hr => ?_⟩
    have hl1 : ∀ x, SqL K (upd H r x) l (nvs ps) := fun x => (same_new hr).seq hl
    have fin : ∀ done, done ++ Tr.up ps 0 = Tr.up ps p → Q (.ref r) (upd H r (.lst (nvs done))) := fun done e => by
      rw [Tr.up_zero, List.append_nil] at e
      exact q r _ (same_new hr) hr (by rw [upd_same, e])
    refine ⟨_, rfl, l, _, rfl, .inl (hl1 _), _, _, rfl, rfl, _, rfl, by omega, by omega, for_range (fun i σ H' => ∃ (done : List Nat) (x : Nat) (v : Option V), σ = [some (.ref l), some (.int (x : Int)), some (.ref r), v] ∧ H' = upd H r (.lst (nvs done)) ∧ done ++ Tr.up ps x = Tr.up ps p ∧ x + i ≤ p ∧ done.length ≤ i)
      ⟨[], p, none, rfl, rfl, rfl, Nat.le_refl _, Nat.le_refl _⟩ ?_ ?_⟩
    · rintro i _ _ hi ⟨done, x, v, rfl, rfl, e, hx, hd⟩
      refine ⟨_, rfl, _, _, rfl, rfl, _, rfl, ?_⟩
      refine boolIte (fun h1 => ?_) (fun h1 => ?_)
      · obtain rfl : x = 0 := by
          have := of_decide_eq_true h1
          omega
        exact ⟨_, rfl, fin done e⟩
      · have x1 : 1 ≤ x := by
          have := of_decide_eq_false h1
          omega
        have pe := Tr.par_eq ok x1 (by omega)
        have pl := Tr.par_lt ps x1
        refine ⟨_, rfl, .inl ⟨rfl, _, SqL.of upd_same⟩, _, rfl, r, _, _, rfl, rfl, upd_same, size_lt (by rw [nvs_len]; omega), ?_⟩
        refine ⟨_, rfl, _, rfl, _, _, rfl, rfl, l, _, _, _, rfl, rfl, by rw [upd_upd]; exact hl1 _, at_of (j := x - 1) (by omega) (nvs_get pe), ?_⟩
        refine ⟨done ++ [x], Tr.par ps x, _, rfl, by rw [upd_upd, nvs_snoc], ?_, by omega, by rw [List.length_append]; exact Nat.add_le_add_right hd 1⟩
        rw [List.append_assoc, ← e]
        conv => rhs; rw [Tr.up_pos ps x1]
        rfl
    · rintro _ _ ⟨done, x, v, rfl, rfl, e, hx, hd⟩
      omega
theorem ok_l_is_number (T : Tx P K mg) : FnQ P w K mg base 1 T.a_l_is_number T.d_l_is_number ["_law_thing"] (spIsNumber) := by
  refine EP.Fun.okQ T.F_l_is_number sc_l_is_number (fun vs H Q E h => ?_) (fun cdv A outer s H vs Q hr h => ?_)
  · obtain ⟨i, rfl, _⟩ := h
    rfl
  · obtain ⟨i, rfl, q⟩ := h
    refine ⟨_, (pss_one (ps_ret (pe_and (pe_callB (id := "isinstance") call_isi (by rfl) T.z_isinstance (by decide +kernel) (pa_cons (pv 0) (pa_cons (pe_bltn (v := .ty "int") rfl T.z_int (by decide +kernel) rfl) pa_nil))) (pe_one (pe_not (pe_callB (id := "isinstance") call_isi (by rfl) T.z_isinstance (by decide +kernel) (pa_cons (pv 0) (pa_cons (pe_bltn (v := .ty "bool") rfl T.z_bool (by decide +kernel) rfl) pa_nil)))))))), ?_⟩
    refine ⟨_, rfl, _, _, _, _, _, rfl, .ty "int", .base (.int i), kit_ty (r := true) (by decide +kernel), _, rfl, ?_⟩
    refine iteT ?_
    refine ⟨_, rfl, _, _, _, _, _, rfl, .ty "bool", .base (.int i), kit_ty (r := false) (by decide +kernel), _, rfl, q⟩
theorem ok_l_far (T : Tx P K mg) : FnOk P w K mg base L2.CX0 2 T.a_l_far T.d_l_far ["_law_tape_here"] (spFar) := by
  have G_l_next := ok_l_next (P := P) (w := w) (base := base) T
  refine T.F_l_far.ok sc_l_far (fun vs H Q E h => ?_) (fun cdv A outer s H vs Q E hr h => ?_)
  · obtain ⟨t, u, rfl, _⟩ := h
    rfl
  · obtain ⟨t, u, rfl, hT, q⟩ := h
    refine ⟨_, (pss_cons (ps_if (pt_cmpR op_eq (pe_call G_l_next hr rfl T.g_l_next T.F_l_next.kp T.B_l_next .nil pass0 (pa_cons (pv 0) (pa_cons pe_int pa_nil))) pe_int (nomark _))
          (pss_one (ps_ret pe_int))
          pss_nil)
          (pss_one (ps_ret (pe_call G_l_next hr rfl T.g_l_next T.F_l_next.kp T.B_l_next .nil pass0 (pa_cons (pv 0) (pa_cons pe_int pa_nil)))))), ?_⟩
    refine ⟨_, rfl, t, u, 2, rfl, by decide, by decide, hT, fun r H1 hr hT1 k1 s1 => ?_⟩
    refine ⟨rfl, _, rfl, ?_⟩
    refine boolIte (fun h1 => ?_) (fun h1 => ?_)
    · exact q 0 H1 (by decide) hT1 k1 s1
    · refine ⟨_, rfl, t, u, 999999900, rfl, by decide, by decide, hT1, fun r2 H2 hr2 hT2 k2 s2 => ?_⟩
      exact q r2 H2 (by omega) hT2 (k1.trans k2) fun b hb => (s2 b hb).trans (s1 b hb)
theorem ok_l_bad_position (T : Tx P K mg) : FnOk P w K mg base L2.CX0 3 T.a_l_bad_position T.d_l_bad_position ["_law_tape_here", "_law_parents_here"] (spBadPos) := by
  have G_l_far := ok_l_far (P := P) (w := w) (base := base) T
  have G_l_next := ok_l_next (P := P) (w := w) (base := base) T
  refine T.F_l_bad_position.ok sc_l_bad_position (fun vs H Q E h => ?_) (fun cdv A outer s H vs Q E hr h => ?_)
  · obtain ⟨t, u, l, ps, rfl, _⟩ := h
    rfl
  · obtain ⟨t, u, l, ps, rfl, hT, hl, sm, q⟩ := h
    have hlt := hT.ne hl
    have len := nvs_len ps
    refine ⟨_, (pss_cons (ps_set (i := 2) sc_l_bad_position.nd rfl (Or.inl rfl) (pe_call G_l_far hr rfl T.g_l_far T.F_l_far.kp T.B_l_far .nil pass0 (pa_cons (pv 0) pa_nil)))
          (pss_cons (ps_if (pt_cmpR op_eq (pe_call G_l_next (hr.mono (by decide)) rfl T.g_l_next T.F_l_next.kp T.B_l_next .nil pass0 (pa_cons (pv 0) (pa_cons pe_int pa_nil))) pe_int (nomark _))
          (pss_one (ps_ret (pe_op op_add (pe_op op_add (pe_callB (id := "len") call_len_seq (by rfl) T.z_len (by decide +kernel) (pa_cons (pv 1) pa_nil)) pe_int) (pv 2))))
          pss_nil)
          (pss_one (ps_ret (pe_op op_sub (pe_op op_sub pe_int pe_int) (pv 2)))))), ?_⟩
    refine ⟨_, rfl, t, u, rfl, hT, fun r H1 hr hT1 k1 s1 => ?_⟩
    refine ⟨_, rfl, t, u, 2, rfl, by decide, by decide, hT1, fun r2 H2 hr2 hT2 k2 s2 => ?_⟩
    have s3 : ∀ b, b ≠ t → H2 b = H b := fun b hb => (s2 b hb).trans (s1 b hb)
    have hl2 : H2 l = some (.lst (nvs ps)) := (s3 l hlt).trans hl
    refine ⟨rfl, _, rfl, ?_⟩
    refine boolIte (fun h1 => ?_) (fun h1 => ?_)
    · refine ⟨_, rfl, l, _, rfl, .inl (SqL.of hl2), _, _, rfl, rfl, _, rfl, _, _, rfl, rfl, ?_⟩
      exact q _ H2 (fun z => by unfold IsPos at z; omega) (by unfold Small; omega) hT2 (k1.trans k2) s3
    · refine ⟨_, _, rfl, rfl, _, rfl, _, _, rfl, rfl, ?_⟩
      exact q _ H2 (fun z => by unfold IsPos at z; omega) (by unfold Small; omega) hT2 (k1.trans k2) s3
theorem ok_Shape_climb (T : Tx P K mg) : FnOk P w K mg base L2.CX0 1 T.a_Shape_climb T.d_Shape_climb ["self", "position"] (spClimb K T.C_Shape) := by
  refine T.F_Shape_climb.ok sc_Shape_climb (fun vs H Q E h => ?_) (fun cdv A outer s H vs Q E hr h => ?_)
  · obtain ⟨s, ps, p, rfl, _⟩ := h
    rfl
  · obtain ⟨s, ps, p, rfl, S, hp, q⟩ := h
    obtain ⟨dx, t, d, kvs, hs, ht, hd, hM⟩ := S.at_
    have sm := S.small
    refine ⟨_, (pss_cons (ps_set (i := 2) sc_Shape_climb.nd rfl (Or.inl rfl) (pe_lst (pa_cons (pv 1) pa_nil)))
          (pss_cons (ps_while PassesOwn.never (pt_cmpR op_gt (pe_ix ix_list (pv 2) (pe_un un_neg pe_int) (fun _ _ => rfl)) pe_int (nomark _))
          (pss_one (ps_expr (pe_bm PySem.F.plainAttrs_list PySem.F.slot_list_append PySem.F.type_list_append mt_append (pv 2) (pa_cons (pe_ix ix_tup (pe_fld (pv 0) rfl) (pe_op op_sub (pe_ix ix_list (pv 2) (pe_un un_neg pe_int) (fun _ _ => rfl)) pe_int) (fun _ _ => rfl)) pa_nil)))))
          (pss_one (ps_ret (pv 2))))), ?_⟩
    refine ⟨_, rfl, (by show 1 ≤ sizeLine; exact size_le (by omega)), fun r hr => ?_⟩
    have hs1 : ∀ x, (upd H r x) s = some (.ins T.C_Shape dx (shf t d ps.length)) := fun x => (same_new hr) _ _ hs
    have ht1 : ∀ x, SqT K (upd H r x) t (nvs ps) := fun x => SqT_same (same_new hr) ht
    refine ⟨fun m σ H' => ∃ (done : List Nat) (x : Nat), m = x ∧ σ = [some (.ref s), some (.int (p : Int)), some (.ref r)] ∧ H' = upd H r (.lst (nvs (done ++ [x]))) ∧ done ++ Tr.ch ps x = Tr.ch ps p ∧ done.length + x ≤ p, ⟨p, [], p, rfl, rfl, rfl, rfl, by simp⟩, ?_⟩
    rintro m _ _ ⟨done, x, rfl, rfl, rfl, e, hl⟩
    refine ⟨_, rfl, _, rfl, r, _, _, _, rfl, rfl, SqL.of upd_same, last_at done m, _, _, rfl, rfl, _, rfl, ?_⟩
    refine boolIte (fun h1 => ?_) (fun h1 => ?_)
    · have m1 : 1 ≤ m := by
        have := of_decide_eq_true h1
        omega
      have pe := Tr.par_eq S.ok m1 (by omega)
      have pl := Tr.par_lt ps m1
      refine ⟨fun σ' H' => ∃ m', m' < m ∧ ∃ (done : List Nat) (x : Nat), m' = x ∧ σ' = [some (.ref s), some (.int (p : Int)), some (.ref r)] ∧ H' = upd H r (.lst (nvs (done ++ [x]))) ∧ done ++ Tr.ch ps x = Tr.ch ps p ∧ done.length + x ≤ p, fun σ' H' h => h, ?_⟩
      refine ⟨_, rfl, .inl ⟨rfl, _, SqL.of upd_same⟩, _, rfl, s, T.C_Shape, dx, _, _, rfl, hs1 _, T.cl_Shape, T.n_Shape_parents, shf_parents, _, rfl, _, rfl, r, _, _, _, rfl, rfl, SqL.of upd_same, last_at done m, _, _, rfl, rfl, t, _, _, _, rfl, rfl, ht1 _, at_of (j := m - 1) (by omega) (nvs_get pe), r, _, _, rfl, rfl, upd_same, size_lt (by rw [nvs_len, List.length_append, List.length_singleton]; omega), ?_⟩
      refine ⟨Tr.par ps m, pl, done ++ [m], Tr.par ps m, rfl, rfl, by rw [upd_upd, nvs_snoc], ?_, by rw [List.length_append, List.length_singleton]; omega⟩
      rw [List.append_assoc, ← e, Tr.ch_pos ps m1]
      rfl
    · obtain rfl : m = 0 := by
        have := of_decide_eq_false h1
        omega
      rw [Tr.ch_zero] at e
      exact ⟨_, rfl, q r _ (same_new hr) hr (by rw [upd_same, e])⟩
theorem ok_Shape_way (T : Tx P K mg) : FnOk P w K mg base (L2.CX P w) 4 T.a_Shape_way T.d_Shape_way ["self", "start", "goal"] (spWay K T.C_Shape T.x_BadPosition.C) := by
  have G_Shape_climb := ok_Shape_climb (P := P) (w := w) (base := base) T
  have G_check_position := ok_check_position (P := P) (w := w) (base := base) T
  refine T.F_Shape_way.okX sc_Shape_way (fun vs H Q E h => ?_) (fun cdv A outer s H vs Q E hr h => ?_)
  · obtain ⟨s, ps, a, b, rfl, _⟩ := h
    rfl
  · obtain ⟨s, ps, a, b, rfl, S, good, bad⟩ := h
    have sm := S.small
    refine ⟨_, (pss_cons (ps_expr (pe_call G_check_position hr rfl T.g_check_position T.F_check_position.kp T.B_check_position .nil pass_up (pa_cons (pv 0) (pa_cons (pv 1) pa_nil))))
          (pss_cons (ps_expr (pe_call G_check_position hr rfl T.g_check_position T.F_check_position.kp T.B_check_position .nil pass_up (pa_cons (pv 0) (pa_cons (pv 2) pa_nil))))
          (pss_cons (ps_set (i := 3) sc_Shape_way.nd rfl (Or.inr rfl) (pe_meth (pv 0) T.cl_Shape T.m_Shape_climb G_Shape_climb (hr.mono (by decide)) T.B_Shape_climb .nil pass0 (pa_cons (pv 1) pa_nil)))
          (pss_cons (ps_set (i := 4) sc_Shape_way.nd rfl (Or.inr rfl) (pe_meth (pv 0) T.cl_Shape T.m_Shape_climb G_Shape_climb (hr.mono (by decide)) T.B_Shape_climb .nil pass0 (pa_cons (pv 2) pa_nil)))
          (pss_cons (ps_setLc (i := 5) (own := [("position", 7)]) (g := gName 7) rfl sc_Shape_way.nd rfl rfl (sw_true rfl rfl rfl (by decide +kernel)) (pi_list (pv 3)) (blkOk_by (N := ["self", "start", "goal", "climb", "descent", "before", "after", "position"]) (sc := defScope s_Shape_way) (by decide +kernel)) (fun _ _ _ _ _ => (pg_name (i := 7) sc_Shape_way.nd rfl (Or.inl rfl))) (fun _ _ _ _ _ => (pts_one (pt_cmpR (op_notIn_seqK (K := K)) (pv 7) (pv 4) (by rfl)))) (fun _ _ _ _ _ => (pv 7)))
          (pss_cons (ps_setLc (i := 6) (own := [("position", 7)]) (g := gName 7) rfl sc_Shape_way.nd rfl rfl (sw_true rfl rfl rfl (by decide +kernel)) (pi_list (pv 4)) (blkOk_by (N := ["self", "start", "goal", "climb", "descent", "before", "after", "position"]) (sc := defScope s_Shape_way) (by decide +kernel)) (fun _ _ _ _ _ => (pg_name (i := 7) sc_Shape_way.nd rfl (Or.inl rfl))) (fun _ _ _ _ _ => (pts_one (pt_cmpR (op_notIn_seqK (K := K)) (pv 7) (pv 3) (by rfl)))) (fun _ _ _ _ _ => (pv 7)))
          (pss_one (ps_ret (pe_op op_cat (pe_op op_cat (pv 5) (pe_lst (pa_cons (pe_ix ix_list (pv 3) (pe_callB (id := "len") call_len_seq (by rfl) T.z_len (by decide +kernel) (pa_cons (pv 5) pa_nil)) (fun _ _ => rfl)) pa_nil))) (pe_revL (pv 6))))))))))), ?_⟩
    refine ⟨_, rfl, _, rfl, s, ps, a, rfl, S, fun ha => ?_, fun na => ?_⟩
    rotate_left
    · obtain ⟨sm, q⟩ := bad a (bad2_0 na)
      exact ⟨sm, fun d hd => q d _ (same_new hd) hd upd_same⟩
    refine ⟨_, rfl, _, rfl, s, ps, b, rfl, S, fun hb => ?_, fun nb => ?_⟩
    rotate_left
    · obtain ⟨sm, q⟩ := bad b (bad2_1 ha nb)
      exact ⟨sm, fun d hd => q d _ (same_new hd) hd upd_same⟩
    obtain ⟨a', rfl, ha'⟩ := posOf ha
    obtain ⟨b', rfl, hb'⟩ := posOf hb
    have good := good a' b' rfl rfl ha' hb'
    clear bad
    
    obtain ⟨dx, t, d, kvs, hs, ht, hd, hM⟩ := S.at_
    refine ⟨_, rfl, s, dx, _, rfl, hs, shf_no (by decide +kernel) (by decide +kernel) (by decide +kernel), _, rfl, s, ps, a', rfl, S, ha', fun c1 H1 s1 n1 h1 => ?_⟩
    refine ⟨_, rfl, s, dx, _, rfl, s1 _ _ hs, shf_no (by decide +kernel) (by decide +kernel) (by decide +kernel), _, rfl, s, ps, b', rfl, S.same s1, hb', fun c2 H2 s2 n2 h2 => ?_⟩
    have h1' := s2 _ _ h1
    have sz : ∀ {p : Nat}, p ≤ ps.length → (Tr.ch ps p).length ≤ 1001 := fun {p} hp => ch_len hp (by omega)
    have za := sz ha'
    have zb := sz hb'
    refine ⟨_, rfl, c1, rfl, ⟨_, SqL.of h1'⟩, fun D hD => ?_⟩
    have f1 : ∀ x, SqL K (upd H2 D x) c1 (nvs (Tr.ch ps a')) := fun x => SqL.of ((same_new hD) _ _ h1')
    have f2 : ∀ x, SqL K (upd H2 D x) c2 (nvs (Tr.ch ps b')) := fun x => SqL.of ((same_new hD) _ _ h2)
    refine lc_list (K := K) (a := c1) (xs := nvs (Tr.ch ps a')) (fun k H' => H' = upd H2 D (.lst (nvs (((Tr.ch ps a').take k).filter fun x => decide (x ∉ Tr.ch ps b'))))) rfl (fun k H' _ e => by rw [e]; exact f1 _) ?_ ?_
    · rintro k x _ hx rfl
      obtain ⟨p, hp, rfl⟩ := nvs_of hx
      refine ⟨rfl, ?_⟩
      refine ⟨_, rfl, _, rfl, c2, _, rfl, .inl (f2 _), rfl, nvs_flat _, _, rfl, ?_⟩
      rw [nvs_in (k := p) rfl]
      have et := take_one hp
      refine boolIte (fun h => ?_) (fun h => ?_)
      · refine ⟨_, rfl, _, upd_same, size_lt (by rw [nvs_len]; exact filt_len _ _ _ (by omega)), ?_⟩
        rw [upd_upd, et, List.filter_append, nvs_snoc]
        have h' : p ∉ Tr.ch ps b' := by simpa using h
        simp [h']
      · have h' : p ∈ Tr.ch ps b' := by simpa using h
        rw [et, List.filter_append]
        simp [h']
    rintro _ rfl
    have e1 : ((Tr.ch ps a').take (nvs (Tr.ch ps a')).length).filter (fun x => decide (x ∉ Tr.ch ps b')) = Tr.before ps a' b' := by
      rw [nvs_len, List.take_length]
      rfl
    rw [e1]
    have s3 : Same H2 (upd H2 D (.lst (nvs (Tr.before ps a' b')))) := same_new hD
    refine ⟨_, rfl, c2, rfl, ⟨_, f2 _⟩, fun G hG => ?_⟩
    have g1 : ∀ x, SqL K (upd (upd H2 D (.lst (nvs (Tr.before ps a' b')))) G x) c1 (nvs (Tr.ch ps a')) := fun x => (same_new hG).seq (f1 _)
    have g2 : ∀ x, SqL K (upd (upd H2 D (.lst (nvs (Tr.before ps a' b')))) G x) c2 (nvs (Tr.ch ps b')) := fun x => (same_new hG).seq (f2 _)
    refine lc_list (K := K) (a := c2) (xs := nvs (Tr.ch ps b')) (fun k H' => H' = upd (upd H2 D (.lst (nvs (Tr.before ps a' b')))) G (.lst (nvs (((Tr.ch ps b').take k).filter fun x => decide (x ∉ Tr.ch ps a'))))) rfl (fun k H' _ e => by rw [e]; exact g2 _) ?_ ?_
    · rintro k x _ hx rfl
      obtain ⟨p, hp, rfl⟩ := nvs_of hx
      refine ⟨rfl, ?_⟩
      refine ⟨_, rfl, _, rfl, c1, _, rfl, .inl (g1 _), rfl, nvs_flat _, _, rfl, ?_⟩
      rw [nvs_in (k := p) rfl]
      have et := take_one hp
      refine boolIte (fun h => ?_) (fun h => ?_)
      · refine ⟨_, rfl, _, upd_same, size_lt (by rw [nvs_len]; exact filt_len _ _ _ (by omega)), ?_⟩
        rw [upd_upd, et, List.filter_append, nvs_snoc]
        have h' : p ∉ Tr.ch ps a' := by simpa using h
        simp [h']
      · have h' : p ∈ Tr.ch ps a' := by simpa using h
        rw [et, List.filter_append]
        simp [h']
    rintro _ rfl
    have e2 : ((Tr.ch ps b').take (nvs (Tr.ch ps b')).length).filter (fun x => decide (x ∉ Tr.ch ps a')) = Tr.before ps b' a' := by
      rw [nvs_len, List.take_length]
      rfl
    rw [e2]
    have s4 : Same (upd H2 D (.lst (nvs (Tr.before ps a' b')))) (upd (upd H2 D (.lst (nvs (Tr.before ps a' b')))) G (.lst (nvs (Tr.before ps b' a')))) := same_new hG
    obtain ⟨A, B, m, w1, w2, w3, w4, w5, w6, w7, w8⟩ := Tr.way_is (ps := ps) a' b'
    have ba : (Tr.before ps a' b').length ≤ 1001 := by
      have := congrArg List.length w1
      rw [List.length_append] at this
      rw [w5]
      omega
    have bb : (Tr.before ps b' a').length ≤ 1001 := by
      have := congrArg List.length w2
      rw [List.length_append] at this
      rw [w6]
      omega
    have k1 := s4 _ _ (upd_same (H := H2) (a := D) (o := .lst (nvs (Tr.before ps a' b'))))
    refine ⟨_, rfl, _, rfl, _, rfl, D, _, rfl, .inl (SqL.of k1), c1, _, _, _, rfl, rfl, g1 _, at_of (j := A.length) (by rw [nvs_len, w5]) (nvs_get w7), (by show 1 ≤ sizeLine; exact size_le (by omega)), fun e he => ?_⟩
    have s5 := same_new (o := .lst [V.int (m : Nat)]) he
    refine ⟨D, e, _, _, rfl, rfl, s5 _ _ k1, upd_same, size_le (by rw [nvs_len]; show _ + 1 ≤ 2000; omega), fun f hf => ?_⟩
    have s6 := same_new (o := .lst (nvs (Tr.before ps a' b') ++ [V.int (m : Nat)])) hf
    refine ⟨_, rfl, G, _, rfl, SqL.of (s6 _ _ (s5 _ _ upd_same)), fun g hg => ?_⟩
    have s7 := same_new (o := .lst (nvs (Tr.before ps b' a')).reverse) hg
    refine ⟨f, g, _, _, rfl, rfl, s7 _ _ upd_same, upd_same, ?_, fun z hz => ?_⟩
    · rw [sizeLine_eq, List.length_append, List.length_reverse, nvs_len, nvs_len]
      show _ + 1 + _ ≤ 16777216
      omega
    · have all := (s1.trans (s2.trans (s3.trans (s4.trans (s5.trans (s6.trans s7))))))
      refine good _ (all.trans (same_new hz)) z (all.free hz) ?_
      rw [upd_same, nvs_snoc, nvs_rev, nvs_app, w8, w5, w6]
theorem ok_Shape_parting (T : Tx P K mg) : FnOk P w K mg base (L2.CX P w) 5 T.a_Shape_parting T.d_Shape_parting ["self", "first", "second"] (spParting K T.C_Shape T.x_BadPosition.C) := by
  have G_Shape_has := ok_Shape_has (P := P) (w := w) (base := base) T
  have G_check_position := ok_check_position (P := P) (w := w) (base := base) T
  refine T.F_Shape_parting.okX sc_Shape_parting (fun vs H Q E h => ?_) (fun cdv A outer s H vs Q E hr h => ?_)
  · obtain ⟨s, ps, a, b, rfl, _⟩ := h
    rfl
  · obtain ⟨s, ps, a, b, rfl, S, good, bad⟩ := h
    have sm := S.small
    refine ⟨_, (pss_cons (ps_expr (pe_call G_check_position (hr.mono (by decide)) rfl T.g_check_position T.F_check_position.kp T.B_check_position .nil pass_up (pa_cons (pv 0) (pa_cons (pv 1) pa_nil))))
          (pss_cons (ps_expr (pe_call G_check_position (hr.mono (by decide)) rfl T.g_check_position T.F_check_position.kp T.B_check_position .nil pass_up (pa_cons (pv 0) (pa_cons (pv 2) pa_nil))))
          (pss_one (ps_ret (pe_lc (own := [("wall", 3)]) (g := gName 3) rfl sc_Shape_parting.nd (pi_range2 rfl T.z_range (pa_cons pe_int (pa_cons (pe_op op_add (pe_fld (pv 0) rfl) pe_int) pa_nil))) (blkOk_by (N := ["self", "first", "second", "wall"]) (sc := defScope s_Shape_parting) (by decide +kernel)) (fun _ _ _ _ _ => (pg_name (i := 3) sc_Shape_parting.nd rfl (Or.inl rfl))) (fun _ _ _ _ _ => (pts_one (pt_cmpR op_ne (pe_meth (pv 0) T.cl_Shape T.m_Shape_has G_Shape_has hr T.B_Shape_has .nil pass_no (pa_cons (pv 1) (pa_cons (pv 3) pa_nil))) (pe_meth (pv 0) T.cl_Shape T.m_Shape_has G_Shape_has hr T.B_Shape_has .nil pass_no (pa_cons (pv 2) (pa_cons (pv 3) pa_nil))) (nomark _)))) (fun _ _ _ _ _ => (pv 3))))))), ?_⟩
    refine ⟨_, rfl, _, rfl, s, ps, a, rfl, S, fun ha => ?_, fun na => ?_⟩
    rotate_left
    · obtain ⟨sm, q⟩ := bad a (bad2_0 na)
      exact ⟨sm, fun d hd => q d _ (same_new hd) hd upd_same⟩
    refine ⟨_, rfl, _, rfl, s, ps, b, rfl, S, fun hb => ?_, fun nb => ?_⟩
    rotate_left
    · obtain ⟨sm, q⟩ := bad b (bad2_1 ha nb)
      exact ⟨sm, fun d hd => q d _ (same_new hd) hd upd_same⟩
    obtain ⟨a', rfl, ha'⟩ := posOf ha
    obtain ⟨b', rfl, hb'⟩ := posOf hb
    have good := good a' b' rfl rfl ha' hb'
    clear bad
    
    obtain ⟨dx, t, d, kvs, hs, ht, hd, hM⟩ := S.at_
    refine ⟨_, rfl, _, _, _, _, _, rfl, hs, T.cl_Shape, T.n_Shape_size, shf_size, _, _, rfl, rfl, _, _, rfl, ⟨by decide, by decide, by omega, by omega⟩, fun D hD => ?_⟩
    have en : ((ps.length : Int) + 1 - 1).toNat = ps.length := by omega
    rw [en]
    refine lc_range (fun k H' => H' = upd H D (.lst (nvs (((List.range k).map (· + 1)).filter fun w => Tr.partw ps a' b' w)))) rfl ?_ ?_
    · rintro i _ hi rfl
      have S1 : ShapeAt K T.C_Shape (upd H D (.lst (nvs (((List.range i).map (· + 1)).filter fun w => Tr.partw ps a' b' w)))) s ps := S.same (same_new hD)
      have hs1 := (same_new (o := .lst (nvs (((List.range i).map (· + 1)).filter fun w => Tr.partw ps a' b' w))) hD) _ _ hs
      have ik : IsSide ps.length (1 + (i : Int)) := ⟨by omega, by omega, by omega⟩
      refine ⟨rfl, ?_⟩
      refine ⟨_, rfl, s, dx, _, rfl, hs1, shf_no (by decide +kernel) (by decide +kernel) (by decide +kernel), _, rfl, _, rfl, s, ps, _, _, rfl, S1, fun _ _ => ?_, fun z => absurd ha z, fun _ z => absurd ik z⟩
      refine ⟨_, rfl, s, dx, _, rfl, hs1, shf_no (by decide +kernel) (by decide +kernel) (by decide +kernel), _, rfl, _, rfl, s, ps, _, _, rfl, S1, fun _ _ => ⟨rfl, _, rfl, ?_⟩, fun z => absurd hb z, fun _ z => absurd ik z⟩
      have eb : (!decide (V.bl (hasS ps (a' : Int) (1 + (i : Int))) = V.bl (hasS ps (b' : Int) (1 + (i : Int))))) = Tr.partw ps a' b' (i + 1) := by
        rw [show (1 + (i : Int)) = ((i + 1 : Nat) : Int) by omega, hasS_nat (by omega), hasS_nat (by omega), dec_bl]
        rfl
      rw [eb, List.range_succ, List.map_append, List.filter_append]
      refine boolIte (fun h => ?_) (fun h => ?_)
      · refine ⟨_, rfl, _, upd_same, size_lt (by rw [nvs_len]; exact Nat.le_trans (List.length_filter_le _ _) (by rw [List.length_map, List.length_range]; omega)), ?_⟩
        rw [upd_upd, show (1 + (i : Int)) = ((i + 1 : Nat) : Int) by omega, nvs_snoc]
        simp [h]
      · simp [h]
    rintro _ rfl
    exact good _ (same_new hD) D hD upd_same
theorem ok_Shape_distance (T : Tx P K mg) : FnOk P w K mg base (L2.CX P w) 6 T.a_Shape_distance T.d_Shape_distance ["self", "first", "second"] (spDistance K T.C_Shape T.x_BadPosition.C) := by
  have G_Shape_parting := ok_Shape_parting (P := P) (w := w) (base := base) T
  refine T.F_Shape_distance.okX sc_Shape_distance (fun vs H Q E h => ?_) (fun cdv A outer s H vs Q E hr h => ?_)
  · obtain ⟨s, ps, a, b, rfl, _⟩ := h
    rfl
  · obtain ⟨s, ps, a, b, rfl, S, good, bad⟩ := h
    obtain ⟨dx, t, d, kvs, hs, ht, hd, hM⟩ := S.at_
    refine ⟨_, (pss_one (ps_ret (pe_callB (id := "len") call_len_seq (by rfl) T.z_len (by decide +kernel) (pa_cons (pe_meth (pv 0) T.cl_Shape T.m_Shape_parting G_Shape_parting hr T.B_Shape_parting .nil pass_up (pa_cons (pv 1) (pa_cons (pv 2) pa_nil))) pa_nil)))), ?_⟩
    refine ⟨_, rfl, s, dx, _, rfl, hs, shf_no (by decide +kernel) (by decide +kernel) (by decide +kernel), _, rfl, _, rfl, s, ps, a, b, rfl, S, fun a' b' ea eb ha hb H' sa r nr hr => ?_, bad⟩
    refine ⟨r, _, rfl, .inl (SqL.of hr), ?_⟩
    have := good a' b' ea eb ha hb H' sa
    rw [nvs_len]
    exact this
theorem ok_l_parting (T : Tx P K mg) : FnOk P w K mg base L2.CX0 2 T.a_l_parting T.d_l_parting ["_law_parents_here", "_law_first", "_law_second"] (spLParting K) := by
  have G_l_above := ok_l_above (P := P) (w := w) (base := base) T
  refine T.F_l_parting.ok sc_l_parting (fun vs H Q E h => ?_) (fun cdv A outer s H vs Q E hr h => ?_)
  · obtain ⟨l, ps, a, b, rfl, _⟩ := h
    rfl
  · obtain ⟨l, ps, a, b, rfl, hl, ok, sm, ha, hb, q⟩ := h
    have len := nvs_len ps
    refine ⟨_, (pss_cons (ps_set (i := 3) sc_l_parting.nd rfl (Or.inr rfl) (pe_call G_l_above hr rfl T.g_l_above T.F_l_above.kp T.B_l_above .nil pass0 (pa_cons (pv 0) (pa_cons (pv 1) pa_nil))))
          (pss_cons (ps_set (i := 4) sc_l_parting.nd rfl (Or.inr rfl) (pe_call G_l_above hr rfl T.g_l_above T.F_l_above.kp T.B_l_above .nil pass0 (pa_cons (pv 0) (pa_cons (pv 2) pa_nil))))
          (pss_one (ps_ret (pe_lc (own := [("_law_k", 5)]) (g := gName 5) rfl sc_l_parting.nd (pi_range2 rfl T.z_range (pa_cons pe_int (pa_cons (pe_op op_add (pe_callB (id := "len") call_len_seq (by rfl) T.z_len (by decide +kernel) (pa_cons (pv 0) pa_nil)) pe_int) pa_nil))) (blkOk_by (N := ["_law_parents_here", "_law_first", "_law_second", "_law_one", "_law_two", "_law_k"]) (sc := defScope s_l_parting) (by decide +kernel)) (fun _ _ _ _ _ => (pg_name (i := 5) sc_l_parting.nd rfl (Or.inl rfl))) (fun _ _ _ _ _ => (pts_one (pt_cmpR op_ne (pe_cmpR (op_in_seqK (K := K)) (pv 5) (pv 3) (by rfl)) (pe_cmpR (op_in_seqK (K := K)) (pv 5) (pv 4) (by rfl)) (nomark _)))) (fun _ _ _ _ _ => (pv 5))))))), ?_⟩
    refine ⟨_, rfl, _, rfl, l, ps, a, rfl, hl, ok, sm, ha, fun r1 H1 s1 n1 h1 => ?_⟩
    refine ⟨_, rfl, _, rfl, l, ps, b, rfl, s1.seq hl, ok, sm, hb, fun r2 H2 s2 n2 h2 => ?_⟩
    have h1' := s2 _ _ h1
    refine ⟨_, rfl, l, _, rfl, .inl (s2.seq (s1.seq hl)), _, _, rfl, rfl, _, _, rfl, ⟨by decide, by decide, by omega, by omega⟩, fun D hD => ?_⟩
    have en : ((((nvs ps).length : Nat) : Int) + 1 - 1).toNat = ps.length := by omega
    rw [en]
    refine lc_range (fun k H' => H' = upd H2 D (.lst (nvs (((List.range k).map (· + 1)).filter fun w => Tr.partw ps a b w)))) rfl ?_ ?_
    · rintro i _ hi rfl
      have f1 : ∀ x, SqL K (upd H2 D x) r1 (nvs (Tr.up ps a)) := fun x => SqL.of ((same_new hD) _ _ h1')
      have f2 : ∀ x, SqL K (upd H2 D x) r2 (nvs (Tr.up ps b)) := fun x => SqL.of ((same_new hD) _ _ h2)
      refine ⟨rfl, ?_⟩
      refine ⟨_, rfl, _, rfl, r1, _, rfl, .inl (f1 _), rfl, nvs_flat _, _, rfl, _, rfl, r2, _, rfl, .inl (f2 _), rfl, nvs_flat _, rfl, _, rfl, ?_⟩
      have eb : (!decide (V.bl (inV (V.int (1 + (i : Int))) (nvs (Tr.up ps a))) = V.bl (inV (V.int (1 + (i : Int))) (nvs (Tr.up ps b))))) = Tr.partw ps a b (i + 1) := by
        rw [nvs_in (k := i + 1) (by omega), nvs_in (k := i + 1) (by omega), dec_bl]
        rfl
      refine boolIte (fun h => ?_) (fun h => ?_)
      · have h' := eb.symm.trans h
        refine ⟨_, rfl, _, upd_same, size_lt (by rw [nvs_len]; exact Nat.le_trans (List.length_filter_le _ _) (by rw [List.length_map, List.length_range]; omega)), ?_⟩
        rw [List.range_succ, List.map_append, List.filter_append, upd_upd, show (1 + (i : Int)) = ((i + 1 : Nat) : Int) by omega, nvs_snoc]
        simp [h']
      · have h' := eb.symm.trans h
        rw [List.range_succ, List.map_append, List.filter_append]
        simp [h']
    rintro _ rfl
    exact q D _ (s1.trans (s2.trans (same_new hD))) ((s1.trans s2).free hD) upd_same
theorem ok_l_ints (T : Tx P K mg) : FnOk P w K mg base L2.CX0 2 T.a_l_ints T.d_l_ints ["_law_told", "_law_due"] (spInts K) := by
  have G_l_is_number := ok_l_is_number (P := P) (w := w) (base := base) T
  refine T.F_l_ints.ok sc_l_ints (fun vs H Q E h => ?_) (fun cdv A outer s H vs Q E hr h => ?_)
  · obtain ⟨x, y, L, rfl, _⟩ := h
    rfl
  · obtain ⟨x, y, L, rfl, hx, hy, sm, q⟩ := h
    have len := nvs_len L
    refine ⟨_, (pss_cons (ps_if (PW.pt (pw_or (pt_not (pt_val (pe_callB (id := "isinstance") call_isi (by rfl) T.z_isinstance (by decide +kernel) (pa_cons (pv 0) (pa_cons (pe_bltn (v := .ty "list") rfl T.z_list (by decide +kernel) rfl) pa_nil))))) (pw_or1 (pt_cmpR op_ne (pe_callB (id := "len") call_len_seq (by rfl) T.z_len (by decide +kernel) (pa_cons (pv 0) pa_nil)) (pe_callB (id := "len") call_len_seq (by rfl) T.z_len (by decide +kernel) (pa_cons (pv 1) pa_nil)) (nomark _)))))
          (pss_one (ps_ret pe_bl))
          pss_nil)
          (pss_cons (ps_for PassesOwn.never rfl (pi_range1 rfl T.z_range (pa_cons (pe_callB (id := "len") call_len_seq (by rfl) T.z_len (by decide +kernel) (pa_cons (pv 1) pa_nil)) pa_nil)) (pg_name (i := 2) sc_l_ints.nd rfl (Or.inl rfl))
          (pss_one (ps_if (PW.pt (pw_or (pt_not (pt_val (pe_callQ G_l_is_number ((roomH_of hr).mono (by decide)) rfl T.g_l_is_number T.F_l_is_number.kp T.B_l_is_number (pa_cons (pe_ix ix_list (pv 0) (pv 2) (fun _ _ => rfl)) pa_nil)))) (pw_or1 (pt_cmpR op_ne (pe_ix ix_list (pv 0) (pv 2) (fun _ _ => rfl)) (pe_ix ix_list (pv 1) (pv 2) (fun _ _ => rfl)) (nomark _)))))
          (pss_one (ps_ret pe_bl))
          pss_nil)))
          (pss_one (ps_ret pe_bl)))), ?_⟩
    refine ⟨_, rfl, _, _, _, _, _, rfl, .ty "list", .base (.lst hx), kit_ty (r := true) (by decide +kernel), _, rfl, ?_⟩
    refine iteF ?_
    refine ⟨_, rfl, x, _, rfl, .inl (SqL.of hx), _, rfl, y, _, rfl, .inl hy, rfl, _, rfl, ?_⟩
    refine ifF (by simp) ?_
    refine ⟨_, rfl, y, _, rfl, .inl hy, _, rfl, by omega, by omega, for_range (fun i σ H' => ∃ v : Option V, σ = [some (.ref x), some (.ref y), v] ∧ H' = H) ⟨none, rfl, rfl⟩ ?_ ?_⟩
    · rintro i _ H hi ⟨v, rfl, rfl⟩
      obtain ⟨p, hp⟩ : ∃ p, L[i]? = some p := ⟨L[i]'(by omega), List.getElem?_eq_getElem _⟩
      have e0 : (0 : Int) + (i : Int) = (i : Int) := by omega
      refine ⟨_, rfl, _, rfl, x, _, _, _, rfl, rfl, SqL.of hx, at_of e0 (nvs_get hp), _, rfl, _, rfl, ?_⟩
      refine iteF ?_
      refine ⟨_, rfl, _, rfl, x, _, _, _, rfl, rfl, SqL.of hx, at_of e0 (nvs_get hp), _, rfl, _, rfl, y, _, _, _, rfl, rfl, hy, at_of e0 (nvs_get hp), rfl, _, rfl, ?_⟩
      exact ifF (by simp) ⟨_, rfl, rfl⟩
    · rintro _ H ⟨v, rfl, rfl⟩
      exact q
theorem ok_l_is_way (T : Tx P K mg) : FnOk P w K mg base L2.CX0 2 T.a_l_is_way T.d_l_is_way ["_law_parents_here", "_law_told", "_law_begin", "_law_target"] (spIsWay K) := by
  have G_l_is_number := ok_l_is_number (P := P) (w := w) (base := base) T
  refine T.F_l_is_way.ok sc_l_is_way (fun vs H Q E h => ?_) (fun cdv A outer s H vs Q E hr h => ?_)
  · obtain ⟨l, w, ps, a, b, rfl, _⟩ := h
    rfl
  · obtain ⟨l, w, ps, a, b, rfl, hl, hw, ok, sm, ha, hb, q⟩ := h
    have len := nvs_len ps
    have lw := nvs_len (Tr.way ps a b)
    have first := Tr.way_first ps a b
    have last := Tr.way_last ps a b
    have wadj := Tr.way_adj ps a b
    have wnd := Tr.way_nodup ps a b
    have wle := fun x => Tr.way_le (ps := ps) (x := x) ha hb
    have wl : (Tr.way ps a b).length ≤ 1500000 := by
      rw [Tr.way_len ha hb]
      have := List.length_filter_le (fun k => Tr.partw ps a b k) ((List.range ps.length).map (· + 1))
      rw [List.length_map, List.length_range] at this
      show (Tr.parting ps a b).length + 1 ≤ _
      unfold Tr.parting
      omega
    have wl2 : (Tr.way ps a b).length ≤ 1001 := by
      rw [Tr.way_len ha hb]
      have := List.length_filter_le (fun k => Tr.partw ps a b k) ((List.range ps.length).map (· + 1))
      rw [List.length_map, List.length_range] at this
      show (Tr.parting ps a b).length + 1 ≤ _
      unfold Tr.parting
      omega
    have w0 : 0 < (Tr.way ps a b).length := by
      cases z : Tr.way ps a b with
      | nil => rw [z] at first; simp at first
      | cons x l => simp
    generalize Tr.way ps a b = W at hw lw first last wadj wnd wle wl wl2 w0
    refine ⟨_, (pss_cons (ps_if (PW.pt (pw_or (pt_not (pt_val (pe_callB (id := "isinstance") call_isi (by rfl) T.z_isinstance (by decide +kernel) (pa_cons (pv 1) (pa_cons (pe_bltn (v := .ty "list") rfl T.z_list (by decide +kernel) rfl) pa_nil))))) (pw_or1 (pt_not (pt_truth (pv 1) (by intro _; rfl))))))
          (pss_one (ps_ret pe_bl))
          pss_nil)
          (pss_cons (ps_for PassesOwn.never rfl (pi_list (pv 1)) (pg_name (i := 4) sc_l_is_way.nd rfl (Or.inl rfl))
          (pss_one (ps_if (PW.pt (pw_or (pt_not (pt_val (pe_callQ G_l_is_number ((roomH_of hr).mono (by decide)) rfl T.g_l_is_number T.F_l_is_number.kp T.B_l_is_number (pa_cons (pv 4) pa_nil)))) (pw_or (pt_cmpR op_lt (pv 4) pe_int (nomark _)) (pw_or1 (pt_cmpR op_gt (pv 4) (pe_callB (id := "len") call_len_seq (by rfl) T.z_len (by decide +kernel) (pa_cons (pv 0) pa_nil)) (nomark _))))))
          (pss_one (ps_ret pe_bl))
          pss_nil)))
          (pss_cons (ps_for PassesOwn.never rfl (pi_range2 rfl T.z_range (pa_cons pe_int (pa_cons (pe_callB (id := "len") call_len_seq (by rfl) T.z_len (by decide +kernel) (pa_cons (pv 1) pa_nil)) pa_nil))) (pg_name (i := 5) sc_l_is_way.nd rfl (Or.inl rfl))
          (pss_cons (ps_set (i := 6) sc_l_is_way.nd rfl (Or.inl rfl) (pe_callB (id := "min") (call_min2 rfl) (by rfl) T.z_min (by decide +kernel) (pa_cons (pe_ix ix_list (pv 1) (pe_op op_sub (pv 5) pe_int) (fun _ _ => rfl)) (pa_cons (pe_ix ix_list (pv 1) (pv 5) (fun _ _ => rfl)) pa_nil))))
          (pss_cons (ps_set (i := 7) sc_l_is_way.nd rfl (Or.inl rfl) (pe_callB (id := "max") (call_max2 rfl) (by rfl) T.z_max (by decide +kernel) (pa_cons (pe_ix ix_list (pv 1) (pe_op op_sub (pv 5) pe_int) (fun _ _ => rfl)) (pa_cons (pe_ix ix_list (pv 1) (pv 5) (fun _ _ => rfl)) pa_nil))))
          (pss_one (ps_if (PW.pt (pw_or (pt_cmpR op_eq (pv 7) pe_int (nomark _)) (pw_or (pt_cmpR op_ne (pe_ix ix_list (pv 0) (pe_op op_sub (pv 7) pe_int) (fun _ _ => rfl)) (pv 6) (nomark _)) (pw_or1 (pt_cmpR op_in_seq (pe_ix ix_list (pv 1) (pv 5) (fun _ _ => rfl)) (pe_slice sl_list (pv 1) po_none (po_some (pv 5))) (by rfl))))))
          (pss_one (ps_ret pe_bl))
          pss_nil)))))
          (pss_one (ps_ret (pe_and (pe_cmpR op_eq (pe_ix ix_list (pv 1) pe_int (fun _ _ => rfl)) (pv 2) (nomark _)) (pe_one (pe_cmpR op_eq (pe_ix ix_list (pv 1) (pe_op op_sub (pe_callB (id := "len") call_len_seq (by rfl) T.z_len (by decide +kernel) (pa_cons (pv 1) pa_nil)) pe_int) (fun _ _ => rfl)) (pv 3) (nomark _))))))))), ?_⟩
    refine ⟨_, rfl, _, _, _, _, _, rfl, .ty "list", .base (.lst hw), kit_ty (r := true) (by decide +kernel), _, rfl, ?_⟩
    refine iteF ?_
    refine ⟨_, rfl, true, .inl ⟨_, SqL.of hw, ?_⟩, ?_⟩
    · cases W with
      | nil => simp at w0
      | cons x W => rfl
    refine ⟨_, rfl, w, rfl, ⟨_, SqL.of hw⟩, for_list (K := K) (a := w) (xs := nvs W) (fun i σ H' => ∃ v : Option V, σ = [some (.ref l), some (.ref w), some (.int (a : Int)), some (.int (b : Int)), v, none, none, none] ∧ H' = H) ⟨none, rfl, rfl⟩ (fun i σ H' _ ⟨_, _, e⟩ => by rw [e]; exact SqL.of hw) ?_ ?_⟩
    · rintro i x _ H hx ⟨v, rfl, rfl⟩
      obtain ⟨p, hp, rfl⟩ := nvs_of hx
      have pn := wle p (List.mem_of_getElem? hp)
      refine ⟨_, rfl, _, rfl, _, rfl, ?_⟩
      refine iteF ?_
      refine ⟨_, rfl, _, _, rfl, rfl, _, rfl, ?_⟩
      refine ifF (decide_eq_false (by omega)) ?_
      refine ⟨_, rfl, _, rfl, l, _, rfl, .inl hl, _, _, rfl, rfl, _, rfl, ?_⟩
      exact ifF (decide_eq_false (by omega)) ⟨_, rfl, rfl⟩
    rintro _ H ⟨v, rfl, rfl⟩
    refine ⟨_, rfl, w, _, rfl, .inl (SqL.of hw), _, _, rfl, ⟨by decide, by decide, by omega, by omega⟩, for_range (fun i σ H' => ∃ (x y z : Option V), σ = [some (.ref l), some (.ref w), some (.int (a : Int)), some (.int (b : Int)), v, x, y, z] ∧ Same H H') ⟨none, none, none, rfl, Same.refl _⟩ ?_ ?_⟩
    · rintro i _ H1 hi ⟨_, _, _, rfl, s1⟩
      have hi' : i + 1 < W.length := by omega
      obtain ⟨x, hx⟩ : ∃ x, W[i]? = some x := ⟨W[i]'(by omega), List.getElem?_eq_getElem _⟩
      obtain ⟨y, hy⟩ : ∃ y, W[i + 1]? = some y := ⟨W[i + 1]'(by omega), List.getElem?_eq_getElem _⟩
      have nb := Tr.adj_at wadj hx hy
      have xn := wle x (List.mem_of_getElem? hx)
      have yn := wle y (List.mem_of_getElem? hy)
      have hw1 := s1 _ _ hw
      have hl1 := s1.seq hl
      have ex : (1 + (i : Int) - 1) = ((i : Nat) : Int) := by omega
      have ey : (1 + (i : Int)) = ((i + 1 : Nat) : Int) := by omega
      have mx : ∀ (z : Nat), (1 ≤ x ∧ y = Tr.par ps x → z = x) → (1 ≤ y ∧ x = Tr.par ps y → z = y) → 1 ≤ z ∧ z ≤ ps.length ∧ (if (y : Int) < (x : Int) then (y : Int) else (x : Int)) = ((Tr.par ps z : Nat) : Int) ∧ (if (y : Int) > (x : Int) then (y : Int) else (x : Int)) = (z : Int) := fun z z1 z2 => by
        rcases nb with ⟨n1, n2⟩ | ⟨n1, n2⟩
        · obtain rfl := z1 ⟨n1, n2⟩
          have := Tr.par_lt ps n1
          refine ⟨n1, xn, ?_, ?_⟩
          · rw [if_pos (by omega), n2]
          · rw [if_neg (by omega)]
        · obtain rfl := z2 ⟨n1, n2⟩
          have := Tr.par_lt ps n1
          refine ⟨n1, yn, ?_, ?_⟩
          · rw [if_neg (by omega), n2]
          · rw [if_pos (by omega)]
      obtain ⟨z, z1, zn, zmin, zmax⟩ : ∃ z : Nat, 1 ≤ z ∧ z ≤ ps.length ∧ (if (y : Int) < (x : Int) then (y : Int) else (x : Int)) = ((Tr.par ps z : Nat) : Int) ∧ (if (y : Int) > (x : Int) then (y : Int) else (x : Int)) = (z : Int) := by
        rcases nb with ⟨n1, n2⟩ | ⟨n1, n2⟩
        · have := Tr.par_lt ps n1
          exact ⟨x, mx x (fun _ => rfl) fun h => by have := Tr.par_lt ps h.1; omega⟩
        · have := Tr.par_lt ps n1
          exact ⟨y, mx y (fun h => by have := Tr.par_lt ps h.1; omega) fun _ => rfl⟩
      have pe := Tr.par_eq ok z1 zn
      refine ⟨_, rfl, _, rfl, _, _, rfl, rfl, w, _, _, _, rfl, rfl, SqL.of hw1, at_of ex (nvs_get hx), _, rfl, _, rfl, w, _, _, _, rfl, rfl, SqL.of hw1, at_of ey (nvs_get hy), _, _, rfl, ?_⟩
      refine ⟨_, rfl, _, rfl, _, _, rfl, rfl, w, _, _, _, rfl, rfl, SqL.of hw1, at_of ex (nvs_get hx), _, rfl, _, rfl, w, _, _, _, rfl, rfl, SqL.of hw1, at_of ey (nvs_get hy), _, _, rfl, ?_⟩
      rw [zmin, zmax]
      refine ⟨_, rfl, rfl, _, rfl, ?_⟩
      refine ifF (decide_eq_false fun e => by have := V.int.inj e; omega) ?_
      refine ⟨_, rfl, _, rfl, _, _, rfl, rfl, l, _, _, _, rfl, rfl, hl1, at_of (j := z - 1) (by omega) (nvs_get pe), _, rfl, rfl, _, rfl, ?_⟩
      refine ifF (by simp) ?_
      refine ⟨_, rfl, _, rfl, w, _, _, _, rfl, rfl, SqL.of hw1, at_of ey (nvs_get hy), _, rfl, _, rfl, _, rfl, w, _, rfl, SqL.of hw1, fun e he => ?_⟩
      rw [ey, cut_to (by omega)]
      refine ⟨e, _, rfl, .inl (SqL.of upd_same), rfl, nvs_flat _, _, rfl, ?_⟩
      rw [nvs_in (k := y) rfl]
      refine ifF (decide_eq_false fun hm => ?_) ⟨_, _, _, rfl, s1.trans (same_new he)⟩
      obtain ⟨j, hj⟩ := List.getElem?_of_mem hm
      rw [List.getElem?_take] at hj
      split at hj
      · rename_i hlt
        have := nd_ix wnd hj hy
        omega
      · cases hj
    rintro _ H1 ⟨_, _, _, rfl, s1⟩
    have hw1 := s1 _ _ hw
    refine ⟨_, rfl, w, _, _, _, rfl, rfl, SqL.of hw1, at_of (j := 0) rfl (nvs_get first), _, rfl, rfl, _, rfl, ?_⟩
    refine ifT (decide_eq_true rfl) ?_
    refine ⟨_, rfl, _, rfl, w, _, rfl, .inl (SqL.of hw1), _, _, rfl, rfl, w, _, _, _, rfl, rfl, SqL.of hw1, at_of (j := W.length - 1) (by omega) (nvs_get last), _, rfl, rfl, ?_⟩
    rw [decide_eq_true rfl]
    exact q _ s1
theorem ok_l_pair_told (T : Tx P K mg) : FnOk P w K mg base L2.CX0 7 T.a_l_pair_told T.d_l_pair_told ["_law_shape", "_law_parents_here", "_law_first", "_law_second"] (spPair K T.C_Shape) := by
  have G_Shape_distance := ok_Shape_distance (P := P) (w := w) (base := base) T
  have G_Shape_parting := ok_Shape_parting (P := P) (w := w) (base := base) T
  have G_Shape_way := ok_Shape_way (P := P) (w := w) (base := base) T
  have G_l_ints := ok_l_ints (P := P) (w := w) (base := base) T
  have G_l_is_number := ok_l_is_number (P := P) (w := w) (base := base) T
  have G_l_is_way := ok_l_is_way (P := P) (w := w) (base := base) T
  have G_l_parting := ok_l_parting (P := P) (w := w) (base := base) T
  refine T.F_l_pair_told.ok sc_l_pair_told (fun vs H Q E h => ?_) (fun cdv A outer s H vs Q E hr h => ?_)
  · obtain ⟨s, l, ps, a, b, rfl, _⟩ := h
    rfl
  · obtain ⟨s, l, ps, a, b, rfl, S, hl, ha, hb, q⟩ := h
    have len := nvs_len ps
    have sm := S.small
    have pa : IsPos ps.length (a : Int) := ⟨by omega, by omega⟩
    have pb : IsPos ps.length (b : Int) := ⟨by omega, by omega⟩
    have wl := Tr.way_len (ps := ps) ha hb
    have wb := Tr.way_back (ps := ps) a b
    have pl : (Tr.parting ps a b).length ≤ 1000 := by
      have := List.length_filter_le (fun k => Tr.partw ps a b k) ((List.range ps.length).map (· + 1))
      rw [List.length_map, List.length_range] at this
      unfold Tr.parting
      omega
    obtain ⟨dx, t, d, kvs, hs, ht, hd, hM⟩ := S.at_
    have no : ∀ {m : Str}, ¬ m = "parents" → ¬ m = "size" → ¬ m = "_masks" → (shf t d ps.length).lookup m = Option.none := fun h1 h2 h3 => shf_no h1 h2 h3
    refine ⟨_, (pss_cons (ps_set (i := 4) sc_l_pair_told.nd rfl (Or.inl rfl) (pe_call G_l_parting (hr.mono (by decide)) rfl T.g_l_parting T.F_l_parting.kp T.B_l_parting .nil pass0 (pa_cons (pv 1) (pa_cons (pv 2) (pa_cons (pv 3) pa_nil)))))
          (pss_cons (ps_for PassesOwn.never rfl (pi_range1 rfl T.z_range (pa_cons pe_int pa_nil)) (pg_name (i := 5) sc_l_pair_told.nd rfl (Or.inl rfl))
          (pss_cons (ps_set (i := 6) sc_l_pair_told.nd rfl (Or.inl rfl) (pe_meth (pv 0) T.cl_Shape T.m_Shape_way G_Shape_way (hr.mono (by decide)) T.B_Shape_way .nil pass_no (pa_cons (pv 2) (pa_cons (pv 3) pa_nil))))
          (pss_cons (ps_if (PW.pt (pw_or (pt_not (pt_val (pe_call G_l_is_way (hr.mono (by decide)) rfl T.g_l_is_way T.F_l_is_way.kp T.B_l_is_way .nil pass0 (pa_cons (pv 1) (pa_cons (pv 6) (pa_cons (pv 2) (pa_cons (pv 3) pa_nil))))))) (pw_or1 (pt_cmpR op_ne (pe_callB (id := "len") call_len_seq (by rfl) T.z_len (by decide +kernel) (pa_cons (pv 6) pa_nil)) (pe_op op_add (pe_callB (id := "len") call_len_seq (by rfl) T.z_len (by decide +kernel) (pa_cons (pv 4) pa_nil)) pe_int) (nomark _)))))
          (pss_one (ps_ret pe_bl))
          pss_nil)
          (pss_cons (ps_set (i := 7) sc_l_pair_told.nd rfl (Or.inl rfl) (pe_meth (pv 0) T.cl_Shape T.m_Shape_way G_Shape_way (hr.mono (by decide)) T.B_Shape_way .nil pass_no (pa_cons (pv 3) (pa_cons (pv 2) pa_nil))))
          (pss_cons (ps_if (pt_not (pt_val (pe_call G_l_ints (hr.mono (by decide)) rfl T.g_l_ints T.F_l_ints.kp T.B_l_ints .nil pass0 (pa_cons (pv 7) (pa_cons (pe_revL (pv 6)) pa_nil)))))
          (pss_one (ps_ret pe_bl))
          pss_nil)
          (pss_cons (ps_set (i := 8) sc_l_pair_told.nd rfl (Or.inl rfl) (pe_meth (pv 0) T.cl_Shape T.m_Shape_parting G_Shape_parting (hr.mono (by decide)) T.B_Shape_parting .nil pass_no (pa_cons (pv 2) (pa_cons (pv 3) pa_nil))))
          (pss_cons (ps_if (pt_not (pt_val (pe_call G_l_ints (hr.mono (by decide)) rfl T.g_l_ints T.F_l_ints.kp T.B_l_ints .nil pass0 (pa_cons (pv 8) (pa_cons (pv 4) pa_nil)))))
          (pss_one (ps_ret pe_bl))
          pss_nil)
          (pss_cons (ps_set (i := 9) sc_l_pair_told.nd rfl (Or.inl rfl) (pe_meth (pv 0) T.cl_Shape T.m_Shape_distance G_Shape_distance hr T.B_Shape_distance .nil pass_no (pa_cons (pv 2) (pa_cons (pv 3) pa_nil))))
          (pss_cons (ps_if (PW.pt (pw_or (pt_not (pt_val (pe_callQ G_l_is_number ((roomH_of hr).mono (by decide)) rfl T.g_l_is_number T.F_l_is_number.kp T.B_l_is_number (pa_cons (pv 9) pa_nil)))) (pw_or1 (pt_cmpR op_ne (pv 9) (pe_callB (id := "len") call_len_seq (by rfl) T.z_len (by decide +kernel) (pa_cons (pv 4) pa_nil)) (nomark _)))))
          (pss_one (ps_ret pe_bl))
          pss_nil)
          (pss_cons (ps_expr (pe_bm PySem.F.plainAttrs_list PySem.F.slot_list_append PySem.F.type_list_append mt_append (pv 6) (pa_cons (pv 2) pa_nil)))
          (pss_cons (ps_asg (pe_op op_add (pe_callB (id := "len") call_len_seq (by rfl) T.z_len (by decide +kernel) (pa_cons (pv 1) pa_nil)) pe_int) (pg_sub (pv 6) pe_int set_list))
          (pss_cons (ps_expr (pe_bm PySem.F.plainAttrs_list PySem.F.slot_list_append PySem.F.type_list_append mt_append (pv 7) (pa_cons (pv 3) pa_nil)))
          (pss_one (ps_expr (pe_bm PySem.F.plainAttrs_list PySem.F.slot_list_append PySem.F.type_list_append mt_append (pv 8) (pa_cons pe_int pa_nil))))))))))))))))
          (pss_one (ps_ret pe_bl)))), ?_⟩
    refine ⟨_, rfl, _, rfl, _, rfl, l, ps, a, b, rfl, SqL.of hl, S.ok, sm, ha, hb, fun du H1 s1 n1 h1 => ?_⟩
    refine ⟨_, rfl, by decide, by decide, for_range (fun i σ H' => ∃ (x y z u v : Option V), σ = [some (.ref s), some (.ref l), some (.int (a : Int)), some (.int (b : Int)), some (.ref du), x, y, z, u, v] ∧ Same H1 H') ⟨none, none, none, none, none, rfl, Same.refl _⟩ ?_ ?_⟩
    · rintro i _ H2 hi ⟨_, _, _, _, _, rfl, s2⟩
      have sa := s1.trans s2
      refine ⟨_, rfl, s, dx, _, rfl, sa _ _ hs, no (by decide +kernel) (by decide +kernel) (by decide +kernel), _, rfl, _, rfl, s, ps, _, _, rfl, S.same sa, fun a' b' ea eb _ _ H3 s3 r3 n3 h3 => ?_, fun p ⟨j, hj, _⟩ => (bad2_no pa pb hj).elim⟩
      obtain rfl : a' = a := by omega
      obtain rfl : b' = b := by omega
      have sb := sa.trans s3
      refine ⟨_, rfl, _, rfl, _, rfl, _, rfl, l, r3, ps, a', b', rfl, SqL.of (sb _ _ hl), h3, S.ok, sm, ha, hb, fun H4 s4 => ⟨_, rfl, ?_⟩⟩
      refine iteF ?_
      have h4 := s4 _ _ h3
      have d4 := s4 _ _ (s3 _ _ (s2 _ _ h1))
      refine ⟨_, rfl, r3, _, rfl, .inl (SqL.of h4), _, rfl, du, _, rfl, .inl (SqL.of d4), _, _, rfl, rfl, rfl, _, rfl, ?_⟩
      refine ifF ?_ ?_
      · rw [nvs_len, nvs_len, wl]
        simp
      have sc := sb.trans s4
      refine ⟨_, rfl, s, dx, _, rfl, sc _ _ hs, no (by decide +kernel) (by decide +kernel) (by decide +kernel), _, rfl, _, rfl, s, ps, _, _, rfl, S.same sc, fun a2 b2 ea eb _ _ H5 s5 r5 n5 h5 => ?_, fun p ⟨j, hj, _⟩ => (bad2_no pb pa hj).elim⟩
      obtain rfl : b2 = a' := by omega
      obtain rfl : a2 = b' := by omega
      have h5' := s5 _ _ h4
      refine ⟨_, rfl, _, rfl, r3, _, rfl, SqL.of h5', fun e he => ?_⟩
      have s6 := same_new (o := .lst (nvs (Tr.way ps b2 a2)).reverse) he
      refine ⟨r5, e, Tr.way ps a2 b2, rfl, s6 _ _ h5, SqL.of (by rw [upd_same, nvs_rev, wb]), by rw [wb, List.length_reverse]; omega, _, rfl, ?_⟩
      refine iteF ?_
      have sd := sc.trans (s5.trans s6)
      refine ⟨_, rfl, s, dx, _, rfl, sd _ _ hs, no (by decide +kernel) (by decide +kernel) (by decide +kernel), _, rfl, _, rfl, s, ps, _, _, rfl, S.same sd, fun a3 b3 ea eb _ _ H7 s7 r7 n7 h7 => ?_, fun p ⟨j, hj, _⟩ => (bad2_no pa pb hj).elim⟩
      obtain rfl : a3 = b2 := by omega
      obtain rfl : b3 = a2 := by omega
      have d7 := s7 _ _ (s6 _ _ (s5 _ _ d4))
      refine ⟨_, rfl, _, rfl, r7, du, _, rfl, h7, SqL.of d7, by omega, _, rfl, ?_⟩
      refine iteF ?_
      have se := sd.trans s7
      refine ⟨_, rfl, s, dx, _, rfl, se _ _ hs, no (by decide +kernel) (by decide +kernel) (by decide +kernel), _, rfl, _, rfl, s, ps, _, _, rfl, S.same se, fun a4 b4 ea eb _ _ H8 s8 => ?_, fun p ⟨j, hj, _⟩ => (bad2_no pa pb hj).elim⟩
      obtain rfl : a4 = a3 := by omega
      obtain rfl : b4 = b3 := by omega
      refine ⟨_, rfl, _, rfl, _, rfl, ?_⟩
      refine iteF ?_
      refine ⟨_, rfl, _, rfl, du, _, rfl, .inl (SqL.of (s8 _ _ d7)), rfl, _, rfl, ?_⟩
      refine ifF (by rw [nvs_len]; simp) ?_
      have r3' := s8 _ _ (s7 _ _ (s6 _ _ h5'))
      have r5' := s8 _ _ (s7 _ _ (s6 _ _ h5))
      have r7' := s8 _ _ h7
      have wsz : (nvs (Tr.way ps a4 b4)).length < sizeLine := size_lt (by rw [nvs_len]; omega)
      have f3 : H1 r3 = Option.none := s2.free n3
      have f5 : H1 r5 = Option.none := (s2.trans (s3.trans s4)).free n5
      have f7 : H1 r7 = Option.none := (s2.trans (s3.trans (s4.trans (s5.trans s6)))).free n7
      have n35 : r3 ≠ r5 := ne_of_none h4 n5
      have n37 : r3 ≠ r7 := ne_of_none (s6 _ _ h5') n7
      have n57 : r5 ≠ r7 := ne_of_none (s6 _ _ h5) n7
      have sall := s2.trans (s3.trans (s4.trans (s5.trans (s6.trans (s7.trans s8)))))
      refine ⟨_, rfl, .inl ⟨rfl, _, SqL.of r3'⟩, _, rfl, r3, _, _, rfl, rfl, r3', wsz, ?_⟩
      refine ⟨_, rfl, l, nvs ps, rfl, .inl (SqL.of ?_), _, _, rfl, rfl, _, rfl, r3, _, _, 0, rfl, rfl, upd_same, ?_, ?_⟩
      · rw [upd_ne (ne_of_none (s1 _ _ hl) f3)]
        exact s8 _ _ (s7 _ _ (s6 _ _ (s5 _ _ (s4 _ _ (s3 _ _ (s2 _ _ (s1 _ _ hl)))))))
      · exact ixN_nat (j := 0) (by rw [List.length_append, nvs_len]; show 0 < _ + 1; omega)
      rw [upd_upd]
      have r5'' : ∀ x, (upd H8 r3 x) r5 = some (.lst (nvs (Tr.way ps b4 a4))) := fun x => by rw [upd_ne n35.symm]; exact r5'
      refine ⟨_, rfl, .inl ⟨rfl, _, SqL.of (r5'' _)⟩, _, rfl, r5, _, _, rfl, rfl, r5'' _, size_lt (by rw [nvs_len, wb, List.length_reverse]; omega), ?_⟩
      have r7'' : ∀ x y, (upd (upd H8 r3 x) r5 y) r7 = some (.lst (nvs (Tr.parting ps a4 b4))) := fun x y => by rw [upd_ne n57.symm, upd_ne n37.symm]; exact r7'
      refine ⟨_, rfl, .inl ⟨rfl, _, SqL.of (r7'' _ _)⟩, r7, _, _, rfl, rfl, r7'' _ _, size_lt (by rw [nvs_len]; omega), ?_⟩
      exact ⟨_, _, _, _, _, rfl, same_mut (same_mut (same_mut sall f3) f5) f7⟩
    · rintro _ H2 ⟨_, _, _, _, _, rfl, s2⟩
      exact q _ (s1.trans s2)
theorem ok_l_way_refused (T : Tx P K mg) : FnOk P w K mg base L2.CX0 5 T.a_l_way_refused T.d_l_way_refused ["_law_shape", "_law_first", "_law_second", "_law_bad"] (spRef2 K T.C_Shape) := by
  have G_Shape_way := ok_Shape_way (P := P) (w := w) (base := base) T
  have G_l_is_number := ok_l_is_number (P := P) (w := w) (base := base) T
  refine T.F_l_way_refused.ok sc_l_way_refused (fun vs H Q E h => ?_) (fun cdv A outer s H vs Q E hr h => ?_)
  · obtain ⟨s, ps, a, b, p, rfl, _⟩ := h
    rfl
  · obtain ⟨s, ps, a, b, p, rfl, S, ⟨j, hj, hp⟩, sm, q⟩ := h
    obtain ⟨dx, t, d, kvs, hs, ht, hd, hM⟩ := S.at_
    refine ⟨_, (pss_cons (ps_try_as (i := 4) (Wout := fun _ _ _ _ => False) rfl rfl sc_l_way_refused.nd rfl rfl ⟨rfl, by decide, Or.inl T.x_BadPosition.mgX⟩ takes0 (fun W pn xe tk _ => (pss_one (ps_expr (pe_methT (pv 0) T.cl_Shape T.m_Shape_way G_Shape_way hr T.B_Shape_way (fun σ => passAt tk σ) (by exact (pa_cons (pv 1) (pa_cons (pv 2) pa_nil))))))) (fun a oe cls d pn hz hf => (pss_cons (ps_if (PW.pt (pw_or (pt_not (pt_val (pe_callB (id := "isinstance") (call_isG hz hf) (by rfl) T.z_isinstance (by decide +kernel) (pa_cons (pv 4) (pa_cons (pe_glob (v := .ref T.C_FindsError) rfl T.mg_FindsError rfl) pa_nil))))) (pw_or1 (pt_val (pe_callB (id := "isinstance") (call_isG hz hf) (by rfl) T.z_isinstance (by decide +kernel) (pa_cons (pv 4) (pa_cons (pe_glob (v := .ref T.x_BadSide.C) rfl T.x_BadSide.mgX rfl) pa_nil)))))))
          (pss_one (ps_ret pe_bl))
          pss_nil)
          (pss_one (ps_ret (pe_and (pe_callQ G_l_is_number (room_mark hr (by decide)) rfl T.g_l_is_number T.F_l_is_number.kp T.B_l_is_number (pa_cons (pe_xf T.x_BadPosition.xf T.x_BadPosition.xn hz hf (pv 4)) pa_nil)) (pe_one (pe_cmpR op_eq (pe_xf T.x_BadPosition.xf T.x_BadPosition.xn hz hf (pv 4)) (pv 3) (nomark _)))))))))
          (pss_one (ps_ret pe_bl))), ?_⟩
    refine ⟨_, rfl, s, dx, _, rfl, hs, shf_no (by decide +kernel) (by decide +kernel) (by decide +kernel), _, rfl, _, rfl, s, ps, a, b, rfl, S, fun a' b' ea eb ha hb => ?_, fun p' ⟨j', hj', hp'⟩ => ?_⟩
    · exact (bad2_no (n := ps.length) (a := a) (b := b) ⟨by omega, by omega⟩ ⟨by omega, by omega⟩ hj).elim
    · obtain rfl := hj'.uniq hj
      rw [hp] at hp'
      cases hp'
      refine ⟨sm, fun d H' sa nd hd => ?_⟩
      refine ⟨true, PySem.W.exm_ref T.x_BadPosition.sup.oex.exC T.x_BadPosition.xf.hdC T.x_BadPosition.sup.oex.tyC T.x_BadPosition.sup.sub, fun _ e ne => ?_, fun z => Bool.noConfusion z⟩
      refine ⟨_, rfl, _, d, _, _, _, _, rfl, rfl, hd, T.x_BadPosition.ec, rfl, relV_ref, T.k_BadPosition_FindsError, _, rfl, ?_⟩
      refine iteF ?_
      refine ⟨_, rfl, _, d, _, _, _, _, rfl, rfl, hd, T.x_BadPosition.ec, rfl, relV_ref, T.k_BadPosition_BadSide, _, rfl, ?_⟩
      refine iteF ?_
      refine ⟨_, rfl, rfl, rfl, d, _, _, rfl, hd, xd_get, p, rfl, _, rfl, ?_⟩
      refine iteT ?_
      refine ⟨_, rfl, rfl, rfl, d, _, _, rfl, hd, xd_get, _, rfl, rfl, ?_⟩
      rw [decide_eq_true rfl]
      exact q _ sa
theorem ok_l_parting_refused (T : Tx P K mg) : FnOk P w K mg base L2.CX0 6 T.a_l_parting_refused T.d_l_parting_refused ["_law_shape", "_law_first", "_law_second", "_law_bad"] (spRef2 K T.C_Shape) := by
  have G_Shape_parting := ok_Shape_parting (P := P) (w := w) (base := base) T
  have G_l_is_number := ok_l_is_number (P := P) (w := w) (base := base) T
  refine T.F_l_parting_refused.ok sc_l_parting_refused (fun vs H Q E h => ?_) (fun cdv A outer s H vs Q E hr h => ?_)
  · obtain ⟨s, ps, a, b, p, rfl, _⟩ := h
    rfl
  · obtain ⟨s, ps, a, b, p, rfl, S, ⟨j, hj, hp⟩, sm, q⟩ := h
    obtain ⟨dx, t, d, kvs, hs, ht, hd, hM⟩ := S.at_
    refine ⟨_, (pss_cons (ps_try_as (i := 4) (Wout := fun _ _ _ _ => False) rfl rfl sc_l_parting_refused.nd rfl rfl ⟨rfl, by decide, Or.inl T.x_BadPosition.mgX⟩ takes0 (fun W pn xe tk _ => (pss_one (ps_expr (pe_methT (pv 0) T.cl_Shape T.m_Shape_parting G_Shape_parting hr T.B_Shape_parting (fun σ => passAt tk σ) (by exact (pa_cons (pv 1) (pa_cons (pv 2) pa_nil))))))) (fun a oe cls d pn hz hf => (pss_cons (ps_if (PW.pt (pw_or (pt_not (pt_val (pe_callB (id := "isinstance") (call_isG hz hf) (by rfl) T.z_isinstance (by decide +kernel) (pa_cons (pv 4) (pa_cons (pe_glob (v := .ref T.C_FindsError) rfl T.mg_FindsError rfl) pa_nil))))) (pw_or1 (pt_val (pe_callB (id := "isinstance") (call_isG hz hf) (by rfl) T.z_isinstance (by decide +kernel) (pa_cons (pv 4) (pa_cons (pe_glob (v := .ref T.x_BadSide.C) rfl T.x_BadSide.mgX rfl) pa_nil)))))))
          (pss_one (ps_ret pe_bl))
          pss_nil)
          (pss_one (ps_ret (pe_and (pe_callQ G_l_is_number (room_mark hr (by decide)) rfl T.g_l_is_number T.F_l_is_number.kp T.B_l_is_number (pa_cons (pe_xf T.x_BadPosition.xf T.x_BadPosition.xn hz hf (pv 4)) pa_nil)) (pe_one (pe_cmpR op_eq (pe_xf T.x_BadPosition.xf T.x_BadPosition.xn hz hf (pv 4)) (pv 3) (nomark _)))))))))
          (pss_one (ps_ret pe_bl))), ?_⟩
    refine ⟨_, rfl, s, dx, _, rfl, hs, shf_no (by decide +kernel) (by decide +kernel) (by decide +kernel), _, rfl, _, rfl, s, ps, a, b, rfl, S, fun a' b' ea eb ha hb => ?_, fun p' ⟨j', hj', hp'⟩ => ?_⟩
    · exact (bad2_no (n := ps.length) (a := a) (b := b) ⟨by omega, by omega⟩ ⟨by omega, by omega⟩ hj).elim
    · obtain rfl := hj'.uniq hj
      rw [hp] at hp'
      cases hp'
      refine ⟨sm, fun d H' sa nd hd => ?_⟩
      refine ⟨true, PySem.W.exm_ref T.x_BadPosition.sup.oex.exC T.x_BadPosition.xf.hdC T.x_BadPosition.sup.oex.tyC T.x_BadPosition.sup.sub, fun _ e ne => ?_, fun z => Bool.noConfusion z⟩
      refine ⟨_, rfl, _, d, _, _, _, _, rfl, rfl, hd, T.x_BadPosition.ec, rfl, relV_ref, T.k_BadPosition_FindsError, _, rfl, ?_⟩
      refine iteF ?_
      refine ⟨_, rfl, _, d, _, _, _, _, rfl, rfl, hd, T.x_BadPosition.ec, rfl, relV_ref, T.k_BadPosition_BadSide, _, rfl, ?_⟩
      refine iteF ?_
      refine ⟨_, rfl, rfl, rfl, d, _, _, rfl, hd, xd_get, p, rfl, _, rfl, ?_⟩
      refine iteT ?_
      refine ⟨_, rfl, rfl, rfl, d, _, _, rfl, hd, xd_get, _, rfl, rfl, ?_⟩
      rw [decide_eq_true rfl]
      exact q _ sa
theorem ok_l_distance_refused (T : Tx P K mg) : FnOk P w K mg base L2.CX0 7 T.a_l_distance_refused T.d_l_distance_refused ["_law_shape", "_law_first", "_law_second", "_law_bad"] (spRef2 K T.C_Shape) := by
  have G_Shape_distance := ok_Shape_distance (P := P) (w := w) (base := base) T
  have G_l_is_number := ok_l_is_number (P := P) (w := w) (base := base) T
  refine T.F_l_distance_refused.ok sc_l_distance_refused (fun vs H Q E h => ?_) (fun cdv A outer s H vs Q E hr h => ?_)
  · obtain ⟨s, ps, a, b, p, rfl, _⟩ := h
    rfl
  · obtain ⟨s, ps, a, b, p, rfl, S, ⟨j, hj, hp⟩, sm, q⟩ := h
    obtain ⟨dx, t, d, kvs, hs, ht, hd, hM⟩ := S.at_
    refine ⟨_, (pss_cons (ps_try_as (i := 4) (Wout := fun _ _ _ _ => False) rfl rfl sc_l_distance_refused.nd rfl rfl ⟨rfl, by decide, Or.inl T.x_BadPosition.mgX⟩ takes0 (fun W pn xe tk _ => (pss_one (ps_expr (pe_methT (pv 0) T.cl_Shape T.m_Shape_distance G_Shape_distance hr T.B_Shape_distance (fun σ => passAt tk σ) (by exact (pa_cons (pv 1) (pa_cons (pv 2) pa_nil))))))) (fun a oe cls d pn hz hf => (pss_cons (ps_if (PW.pt (pw_or (pt_not (pt_val (pe_callB (id := "isinstance") (call_isG hz hf) (by rfl) T.z_isinstance (by decide +kernel) (pa_cons (pv 4) (pa_cons (pe_glob (v := .ref T.C_FindsError) rfl T.mg_FindsError rfl) pa_nil))))) (pw_or1 (pt_val (pe_callB (id := "isinstance") (call_isG hz hf) (by rfl) T.z_isinstance (by decide +kernel) (pa_cons (pv 4) (pa_cons (pe_glob (v := .ref T.x_BadSide.C) rfl T.x_BadSide.mgX rfl) pa_nil)))))))
          (pss_one (ps_ret pe_bl))
          pss_nil)
          (pss_one (ps_ret (pe_and (pe_callQ G_l_is_number (room_mark hr (by decide)) rfl T.g_l_is_number T.F_l_is_number.kp T.B_l_is_number (pa_cons (pe_xf T.x_BadPosition.xf T.x_BadPosition.xn hz hf (pv 4)) pa_nil)) (pe_one (pe_cmpR op_eq (pe_xf T.x_BadPosition.xf T.x_BadPosition.xn hz hf (pv 4)) (pv 3) (nomark _)))))))))
          (pss_one (ps_ret pe_bl))), ?_⟩
    refine ⟨_, rfl, s, dx, _, rfl, hs, shf_no (by decide +kernel) (by decide +kernel) (by decide +kernel), _, rfl, _, rfl, s, ps, a, b, rfl, S, fun a' b' ea eb ha hb => ?_, fun p' ⟨j', hj', hp'⟩ => ?_⟩
    · exact (bad2_no (n := ps.length) (a := a) (b := b) ⟨by omega, by omega⟩ ⟨by omega, by omega⟩ hj).elim
    · obtain rfl := hj'.uniq hj
      rw [hp] at hp'
      cases hp'
      refine ⟨sm, fun d H' sa nd hd => ?_⟩
      refine ⟨true, PySem.W.exm_ref T.x_BadPosition.sup.oex.exC T.x_BadPosition.xf.hdC T.x_BadPosition.sup.oex.tyC T.x_BadPosition.sup.sub, fun _ e ne => ?_, fun z => Bool.noConfusion z⟩
      refine ⟨_, rfl, _, d, _, _, _, _, rfl, rfl, hd, T.x_BadPosition.ec, rfl, relV_ref, T.k_BadPosition_FindsError, _, rfl, ?_⟩
      refine iteF ?_
      refine ⟨_, rfl, _, d, _, _, _, _, rfl, rfl, hd, T.x_BadPosition.ec, rfl, relV_ref, T.k_BadPosition_BadSide, _, rfl, ?_⟩
      refine iteF ?_
      refine ⟨_, rfl, rfl, rfl, d, _, _, rfl, hd, xd_get, p, rfl, _, rfl, ?_⟩
      refine iteT ?_
      refine ⟨_, rfl, rfl, rfl, d, _, _, rfl, hd, xd_get, _, rfl, rfl, ?_⟩
      rw [decide_eq_true rfl]
      exact q _ sa
theorem ok_l_all_refused (T : Tx P K mg) : FnOk P w K mg base L2.CX0 8 T.a_l_all_refused T.d_l_all_refused ["_law_shape", "_law_first", "_law_second", "_law_bad"] (spRef2 K T.C_Shape) := by
  have G_l_distance_refused := ok_l_distance_refused (P := P) (w := w) (base := base) T
  have G_l_parting_refused := ok_l_parting_refused (P := P) (w := w) (base := base) T
  have G_l_way_refused := ok_l_way_refused (P := P) (w := w) (base := base) T
  refine T.F_l_all_refused.ok sc_l_all_refused (fun vs H Q E h => ?_) (fun cdv A outer s H vs Q E hr h => ?_)
  · obtain ⟨s, ps, a, b, p, rfl, _⟩ := h
    rfl
  · obtain ⟨s, ps, a, b, p, rfl, S, bd, sm, q⟩ := h
    refine ⟨_, (pss_cons (ps_if (PW.pt (pw_or (pt_not (pt_val (pe_call G_l_way_refused (hr.mono (by decide)) rfl T.g_l_way_refused T.F_l_way_refused.kp T.B_l_way_refused .nil pass0 (pa_cons (pv 0) (pa_cons (pv 1) (pa_cons (pv 2) (pa_cons (pv 3) pa_nil))))))) (pw_or1 (pt_not (pt_val (pe_call G_l_parting_refused (hr.mono (by decide)) rfl T.g_l_parting_refused T.F_l_parting_refused.kp T.B_l_parting_refused .nil pass0 (pa_cons (pv 0) (pa_cons (pv 1) (pa_cons (pv 2) (pa_cons (pv 3) pa_nil))))))))))
          (pss_one (ps_ret pe_bl))
          pss_nil)
          (pss_one (ps_ret (pe_call G_l_distance_refused hr rfl T.g_l_distance_refused T.F_l_distance_refused.kp T.B_l_distance_refused .nil pass0 (pa_cons (pv 0) (pa_cons (pv 1) (pa_cons (pv 2) (pa_cons (pv 3) pa_nil)))))))), ?_⟩
    refine ⟨_, rfl, _, rfl, _, rfl, _, rfl, s, ps, a, b, p, rfl, S, bd, sm, fun H1 s1 => ⟨_, rfl, ?_⟩⟩
    refine iteF ?_
    refine ⟨_, rfl, _, rfl, _, rfl, _, rfl, s, ps, a, b, p, rfl, S.same s1, bd, sm, fun H2 s2 => ⟨_, rfl, ?_⟩⟩
    refine iteF ?_
    exact ⟨_, rfl, _, rfl, _, rfl, _, rfl, s, ps, a, b, p, rfl, S.same (s1.trans s2), bd, sm, fun H3 s3 => q _ (s1.trans (s2.trans s3))⟩
theorem ok_law (T : Tx P K mg) : FnOk P w K mg base L2.CX0 9 T.a_law T.d_law ["_law_script"] (spLaw K) := by
  have G_Shape_init := ok_Shape_init (P := P) (w := w) (base := base) T
  have G_l_all_refused := ok_l_all_refused (P := P) (w := w) (base := base) T
  have G_l_bad_position := ok_l_bad_position (P := P) (w := w) (base := base) T
  have G_l_next := ok_l_next (P := P) (w := w) (base := base) T
  have G_l_pair_told := ok_l_pair_told (P := P) (w := w) (base := base) T
  have G_l_parents := ok_l_parents (P := P) (w := w) (base := base) T
  have G_l_tape := ok_l_tape (P := P) (w := w) (base := base) T
  refine T.F_law.ok sc_law (fun vs H Q E h => ?_) (fun cdv A outer s H vs Q E hr h => ?_)
  · obtain ⟨a0, ns, rfl, _⟩ := h
    rfl
  · obtain ⟨a0, ns, rfl, hS, hlen, q⟩ := h
    refine ⟨_, (pss_cons (ps_set (i := 1) sc_law.nd rfl (Or.inl rfl) (pe_call G_l_tape (hr.mono (by decide)) rfl T.g_l_tape T.F_l_tape.kp T.B_l_tape .nil pass0 (pa_cons (pv 0) pa_nil)))
          (pss_cons (ps_set (i := 2) sc_law.nd rfl (Or.inl rfl) (pe_call G_l_parents (hr.mono (by decide)) rfl T.g_l_parents T.F_l_parents.kp T.B_l_parents .nil pass0 (pa_cons (pv 1) (pa_cons pe_int pa_nil))))
          (pss_cons (ps_set (i := 3) sc_law.nd rfl (Or.inl rfl) (pe_call G_l_parents (hr.mono (by decide)) rfl T.g_l_parents T.F_l_parents.kp T.B_l_parents .nil pass0 (pa_cons (pv 1) (pa_cons pe_int pa_nil))))
          (pss_cons (ps_set (i := 4) sc_law.nd rfl (Or.inl rfl) (pe_call G_l_next (hr.mono (by decide)) rfl T.g_l_next T.F_l_next.kp T.B_l_next .nil pass0 (pa_cons (pv 1) (pa_cons (pe_op op_add (pe_callB (id := "len") call_len_seq (by rfl) T.z_len (by decide +kernel) (pa_cons (pv 2) pa_nil)) pe_int) pa_nil))))
          (pss_cons (ps_set (i := 5) sc_law.nd rfl (Or.inl rfl) (pe_call G_l_next (hr.mono (by decide)) rfl T.g_l_next T.F_l_next.kp T.B_l_next .nil pass0 (pa_cons (pv 1) (pa_cons (pe_op op_add (pe_callB (id := "len") call_len_seq (by rfl) T.z_len (by decide +kernel) (pa_cons (pv 2) pa_nil)) pe_int) pa_nil))))
          (pss_cons (ps_set (i := 6) sc_law.nd rfl (Or.inl rfl) (pe_call G_l_next (hr.mono (by decide)) rfl T.g_l_next T.F_l_next.kp T.B_l_next .nil pass0 (pa_cons (pv 1) (pa_cons (pe_op op_add (pe_callB (id := "len") call_len_seq (by rfl) T.z_len (by decide +kernel) (pa_cons (pv 3) pa_nil)) pe_int) pa_nil))))
          (pss_cons (ps_set (i := 7) sc_law.nd rfl (Or.inl rfl) (pe_call G_l_next (hr.mono (by decide)) rfl T.g_l_next T.F_l_next.kp T.B_l_next .nil pass0 (pa_cons (pv 1) (pa_cons (pe_op op_add (pe_callB (id := "len") call_len_seq (by rfl) T.z_len (by decide +kernel) (pa_cons (pv 3) pa_nil)) pe_int) pa_nil))))
          (pss_cons (ps_set (i := 8) sc_law.nd rfl (Or.inl rfl) (pe_call G_l_bad_position (hr.mono (by decide)) rfl T.g_l_bad_position T.F_l_bad_position.kp T.B_l_bad_position .nil pass0 (pa_cons (pv 1) (pa_cons (pv 2) pa_nil))))
          (pss_cons (ps_set (i := 9) sc_law.nd rfl (Or.inl rfl) (pe_call G_l_bad_position (hr.mono (by decide)) rfl T.g_l_bad_position T.F_l_bad_position.kp T.B_l_bad_position .nil pass0 (pa_cons (pv 1) (pa_cons (pv 2) pa_nil))))
          (pss_cons (ps_set (i := 10) sc_law.nd rfl (Or.inl rfl) (pe_make T.M_Shape G_Shape_init (hr.mono (by decide)) rfl T.mg_Shape T.B_Shape_init .nil pass_no (pa_cons (pe_callTy (T := "list") call_list_of (by rfl) T.z_list (by decide +kernel) (pa_cons (pv 2) pa_nil)) pa_nil)))
          (pss_cons (ps_set (i := 11) sc_law.nd rfl (Or.inl rfl) (pe_make T.M_Shape G_Shape_init (hr.mono (by decide)) rfl T.mg_Shape T.B_Shape_init .nil pass_no (pa_cons (pe_callTy (T := "list") call_list_of (by rfl) T.z_list (by decide +kernel) (pa_cons (pv 3) pa_nil)) pa_nil)))
          (pss_cons (ps_if (PW.pt (pw_or (pt_not (pt_val (pe_call G_l_pair_told (hr.mono (by decide)) rfl T.g_l_pair_told T.F_l_pair_told.kp T.B_l_pair_told .nil pass0 (pa_cons (pv 10) (pa_cons (pv 2) (pa_cons (pv 4) (pa_cons (pv 5) pa_nil))))))) (pw_or1 (pt_not (pt_val (pe_call G_l_pair_told (hr.mono (by decide)) rfl T.g_l_pair_told T.F_l_pair_told.kp T.B_l_pair_told .nil pass0 (pa_cons (pv 11) (pa_cons (pv 3) (pa_cons (pv 6) (pa_cons (pv 7) pa_nil))))))))))
          (pss_one (ps_ret pe_bl))
          pss_nil)
          (pss_cons (ps_if (PW.pt (pw_or (pt_not (pt_val (pe_call G_l_pair_told (hr.mono (by decide)) rfl T.g_l_pair_told T.F_l_pair_told.kp T.B_l_pair_told .nil pass0 (pa_cons (pv 10) (pa_cons (pv 2) (pa_cons (pv 5) (pa_cons (pv 4) pa_nil))))))) (pw_or1 (pt_not (pt_val (pe_call G_l_pair_told (hr.mono (by decide)) rfl T.g_l_pair_told T.F_l_pair_told.kp T.B_l_pair_told .nil pass0 (pa_cons (pv 10) (pa_cons (pv 2) (pa_cons (pv 5) (pa_cons (pv 5) pa_nil))))))))))
          (pss_one (ps_ret pe_bl))
          pss_nil)
          (pss_cons (ps_if (PW.pt (pw_or (pt_not (pt_val (pe_call G_l_all_refused hr rfl T.g_l_all_refused T.F_l_all_refused.kp T.B_l_all_refused .nil pass0 (pa_cons (pv 10) (pa_cons (pv 8) (pa_cons (pv 5) (pa_cons (pv 8) pa_nil))))))) (pw_or1 (pt_not (pt_val (pe_call G_l_all_refused hr rfl T.g_l_all_refused T.F_l_all_refused.kp T.B_l_all_refused .nil pass0 (pa_cons (pv 10) (pa_cons (pv 4) (pa_cons (pv 8) (pa_cons (pv 8) pa_nil))))))))))
          (pss_one (ps_ret pe_bl))
          pss_nil)
          (pss_cons (ps_if (PW.pt (pw_or (pt_not (pt_val (pe_call G_l_all_refused hr rfl T.g_l_all_refused T.F_l_all_refused.kp T.B_l_all_refused .nil pass0 (pa_cons (pv 10) (pa_cons (pv 8) (pa_cons (pv 9) (pa_cons (pv 8) pa_nil))))))) (pw_or1 (pt_not (pt_val (pe_call G_l_all_refused hr rfl T.g_l_all_refused T.F_l_all_refused.kp T.B_l_all_refused .nil pass0 (pa_cons (pv 10) (pa_cons (pv 8) (pa_cons (pv 8) (pa_cons (pv 8) pa_nil))))))))))
          (pss_one (ps_ret pe_bl))
          pss_nil)
          (pss_one (ps_ret (pe_and (pe_call G_l_pair_told (hr.mono (by decide)) rfl T.g_l_pair_told T.F_l_pair_told.kp T.B_l_pair_told .nil pass0 (pa_cons (pv 11) (pa_cons (pv 3) (pa_cons (pv 7) (pa_cons (pv 6) pa_nil))))) (pe_one (pe_call G_l_pair_told (hr.mono (by decide)) rfl T.g_l_pair_told T.F_l_pair_told.kp T.B_l_pair_told .nil pass0 (pa_cons (pv 10) (pa_cons (pv 2) (pa_cons (pv 4) (pa_cons (pv 5) pa_nil)))))))))))))))))))))))), ?_⟩
    refine ⟨_, rfl, a0, ns, rfl, hS, hlen, fun t u H1 s1 nt hT1 => ?_⟩
    refine ⟨_, rfl, t, u, 8, rfl, by omega, by omega, hT1, fun l ps H2 ok p1 p8 hT2 k2 nl hl2 => ?_⟩
    have hlt : l ≠ t := hT2.ne hl2
    have len := nvs_len ps
    refine ⟨_, rfl, t, u, 8, rfl, by omega, by omega, hT2, fun D qs H3 okq q1 q8 hT3 k3 nD hD3 => ?_⟩
    have hDt : D ≠ t := hT3.ne hD3
    have lenq := nvs_len qs
    have hl3 : H3 l = some (.lst (nvs ps)) := k3 l _ hlt hl2
    refine ⟨_, rfl, _, rfl, l, _, rfl, .inl (SqL.of hl3), _, _, rfl, rfl, t, u, _, rfl, by omega, by omega, hT3, fun a H4 ha hT4 k4 s4 => ?_⟩
    have hl4 := k4 l _ hlt hl3
    have hD4 := k4 D _ hDt hD3
    refine ⟨_, rfl, _, rfl, l, _, rfl, .inl (SqL.of hl4), _, _, rfl, rfl, t, u, _, rfl, by omega, by omega, hT4, fun b H5 hb hT5 k5 s5 => ?_⟩
    have hl5 := k5 l _ hlt hl4
    have hD5 := k5 D _ hDt hD4
    refine ⟨_, rfl, _, rfl, D, _, rfl, .inl (SqL.of hD5), _, _, rfl, rfl, t, u, _, rfl, by omega, by omega, hT5, fun c H6 hc hT6 k6 s6 => ?_⟩
    have hl6 := k6 l _ hlt hl5
    have hD6 := k6 D _ hDt hD5
    refine ⟨_, rfl, _, rfl, D, _, rfl, .inl (SqL.of hD6), _, _, rfl, rfl, t, u, _, rfl, by omega, by omega, hT6, fun g H7 he hT7 k7 s7 => ?_⟩
    have hl7 := k7 l _ hlt hl6
    have hD7 := k7 D _ hDt hD6
    replace ha : a ≤ ps.length := by omega
    replace hb : b ≤ ps.length := by omega
    replace hc : c ≤ qs.length := by omega
    replace he : g ≤ qs.length := by omega
    refine ⟨_, rfl, _, rfl, t, u, l, ps, rfl, hT7, hl7, by omega, fun bad H8 nb sb hT8 k8 s8 => ?_⟩
    have hl8 := k8 l _ hlt hl7
    have hD8 := k8 D _ hDt hD7
    refine ⟨_, rfl, _, rfl, t, u, l, ps, rfl, hT8, hl8, by omega, fun worse H9 nw sw hT9 k9 s9 => ?_⟩
    have hl9 := k9 l _ hlt hl8
    have hD9 := k9 D _ hDt hD8
    refine ⟨_, rfl, l, _, rfl, .inl (SqL.of hl9), fun l2 n2 => ?_⟩
    intro x dx nx ndx nex
    have hz : (upd H9 l2 (.lst (nvs ps))) l2 = some (.lst ((toI ps).map V.int)) := by rw [upd_same, nvs_toI]
    refine ⟨x, dx, l2, toI ps, rfl, upd_same, SqL.of (made_at nx ndx hz), by rw [toI_len]; omega, fun ps' H8 e ok' pos' bt S8 => ⟨rfl, ?_⟩, fun j wr => absurd wr (noWrong ok), fun e => absurd (congrArg List.length e) (by rw [toI_len]; show ¬ ps.length = 0; omega)⟩
    obtain rfl : ps = ps' := nvs_inj (by rw [← e, nvs_toI])
    have s8 := (same_new n2).trans (made nx ndx bt)
    have hl8 := s8 _ _ hl9
    have hD8 := s8 _ _ hD9
    refine ⟨_, rfl, D, _, rfl, .inl (SqL.of hD8), fun l3 n3 => ?_⟩
    intro y dy ny ndy ney
    have hz2 : (upd H8 l3 (.lst (nvs qs))) l3 = some (.lst ((toI qs).map V.int)) := by rw [upd_same, nvs_toI]
    refine ⟨y, dy, l3, toI qs, rfl, upd_same, SqL.of (made_at ny ndy hz2), by rw [toI_len]; omega, fun qs' H9 e2 ok2 pos2 bt2 S9 => ⟨rfl, ?_⟩, fun j wr => absurd wr (noWrong okq), fun e => absurd (congrArg List.length e) (by rw [toI_len]; show ¬ qs.length = 0; omega)⟩
    obtain rfl : qs = qs' := nvs_inj (by rw [← e2, nvs_toI])
    have s9 := (same_new n3).trans (made ny ndy bt2)
    have S8' := S8.same s9
    have hl9 := s9 _ _ hl8
    have hD9 := s9 _ _ hD8
    have gA : IsPos ps.length (a : Int) := ⟨by omega, by omega⟩
    have r0 : ∀ x : Int, ∃ j, BadAt ps.length [bad, x] j ∧ [bad, x][j]? = some bad := fun x => bad2_0 nb
    have r1 : ∃ j, BadAt ps.length [(a : Int), bad] j ∧ [(a : Int), bad][j]? = some bad := bad2_1 gA nb
    refine ⟨_, rfl, _, rfl, _, rfl, _, rfl, x, l, ps, a, b, rfl, S8', hl9, ha, hb, fun Ha sa => ⟨_, rfl, ?_⟩⟩
    refine iteF ?_
    refine ⟨_, rfl, _, rfl, _, rfl, _, rfl, y, D, qs, c, g, rfl, S9.same sa, sa _ _ hD9, hc, he, fun Hb sb' => ⟨_, rfl, ?_⟩⟩
    refine iteF ?_
    have sB := sa.trans sb'
    refine ⟨_, rfl, _, rfl, _, rfl, _, rfl, x, l, ps, b, a, rfl, S8'.same sB, sB _ _ hl9, hb, ha, fun Hc sc => ⟨_, rfl, ?_⟩⟩
    refine iteF ?_
    have sC := sB.trans sc
    refine ⟨_, rfl, _, rfl, _, rfl, _, rfl, x, l, ps, b, b, rfl, S8'.same sC, sC _ _ hl9, hb, hb, fun Hd sd => ⟨_, rfl, ?_⟩⟩
    refine iteF ?_
    have sD := sC.trans sd
    refine ⟨_, rfl, _, rfl, _, rfl, _, rfl, x, ps, bad, _, bad, rfl, S8'.same sD, r0 _, sb, fun He se => ⟨_, rfl, ?_⟩⟩
    refine iteF ?_
    have sE := sD.trans se
    refine ⟨_, rfl, _, rfl, _, rfl, _, rfl, x, ps, _, bad, bad, rfl, S8'.same sE, r1, sb, fun Hf sf => ⟨_, rfl, ?_⟩⟩
    refine iteF ?_
    have sF := sE.trans sf
    refine ⟨_, rfl, _, rfl, _, rfl, _, rfl, x, ps, bad, _, bad, rfl, S8'.same sF, r0 _, sb, fun Hg sg => ⟨_, rfl, ?_⟩⟩
    refine iteF ?_
    have sG := sF.trans sg
    refine ⟨_, rfl, _, rfl, _, rfl, _, rfl, x, ps, bad, _, bad, rfl, S8'.same sG, r0 _, sb, fun Hh sh => ⟨_, rfl, ?_⟩⟩
    refine iteF ?_
    have sH := sG.trans sh
    refine ⟨_, rfl, _, rfl, _, rfl, _, rfl, y, D, qs, g, c, rfl, S9.same sH, sH _ _ hD9, he, hc, fun Hi si => ⟨_, rfl, ?_⟩⟩
    have sI := sH.trans si
    exact ⟨_, rfl, _, rfl, _, rfl, _, rfl, x, l, ps, a, b, rfl, S8'.same sI, sI _ _ hl9, ha, hb, fun Hj sj => q _⟩
end
theorem all_mk {P : Program} {K : PySem.W.Frag} {h : Heap} {mg : Str → Option Value} {fa : Addr} (X : K.In h) (G : h.Ns mainGlobals mg) (hfa : mg "law" = some (.ref fa))
    {C_FindsError : Addr}
    {C_BadShape f_BadShape cc_BadShape cda_BadShape N_BadShape : Addr} {nm_BadShape q_BadShape file_BadShape : Str} {bs_BadShape sub_BadShape : List Value} {sn_BadShape : List Str} {ab_BadShape : Bool} {col_BadShape : Option Bool} {dd_BadShape od_BadShape an_BadShape cld_BadShape cdd_BadShape : Option Addr} {m0_BadShape m1_BadShape m2_BadShape m3_BadShape m5_BadShape : Option Value} {oc_BadShape kV_BadShape dc_BadShape pm_BadShape ct_BadShape cl_BadShape ccl_BadShape : Value} {sl_BadShape csl_BadShape ccs_BadShape : Array (Option Value)} {vs_BadShape : Array Value} {tf_BadShape : Tok}
    {C_BadPosition f_BadPosition cc_BadPosition cda_BadPosition N_BadPosition : Addr} {nm_BadPosition q_BadPosition file_BadPosition : Str} {bs_BadPosition sub_BadPosition : List Value} {sn_BadPosition : List Str} {ab_BadPosition : Bool} {col_BadPosition : Option Bool} {dd_BadPosition od_BadPosition an_BadPosition cld_BadPosition cdd_BadPosition : Option Addr} {m0_BadPosition m1_BadPosition m2_BadPosition m3_BadPosition m5_BadPosition : Option Value} {oc_BadPosition kV_BadPosition dc_BadPosition pm_BadPosition ct_BadPosition cl_BadPosition ccl_BadPosition : Value} {sl_BadPosition csl_BadPosition ccs_BadPosition : Array (Option Value)} {vs_BadPosition : Array Value} {tf_BadPosition : Tok}
    {C_BadSide f_BadSide cc_BadSide cda_BadSide N_BadSide : Addr} {nm_BadSide q_BadSide file_BadSide : Str} {bs_BadSide sub_BadSide : List Value} {sn_BadSide : List Str} {ab_BadSide : Bool} {col_BadSide : Option Bool} {dd_BadSide od_BadSide an_BadSide cld_BadSide cdd_BadSide : Option Addr} {m0_BadSide m1_BadSide m2_BadSide m3_BadSide m5_BadSide : Option Value} {oc_BadSide kV_BadSide dc_BadSide pm_BadSide ct_BadSide cl_BadSide ccl_BadSide : Value} {sl_BadSide csl_BadSide ccs_BadSide : Array (Option Value)} {vs_BadSide : Array Value} {tf_BadSide : Tok}
    {C_Shape : Addr}
    {f_side_masks : Addr} {od_side_masks an_side_masks : Option Addr} {sl_side_masks : Array (Option Value)} {oc_side_masks kV_side_masks dc_side_masks pm_side_masks cd_side_masks ct_side_masks : Value}
    {f_Shape_init : Addr} {od_Shape_init an_Shape_init : Option Addr} {sl_Shape_init : Array (Option Value)} {oc_Shape_init kV_Shape_init dc_Shape_init pm_Shape_init cd_Shape_init ct_Shape_init : Value}
    {f_Shape_has : Addr} {od_Shape_has an_Shape_has : Option Addr} {sl_Shape_has : Array (Option Value)} {oc_Shape_has kV_Shape_has dc_Shape_has pm_Shape_has cd_Shape_has ct_Shape_has : Value}
    {f_Shape_way : Addr} {od_Shape_way an_Shape_way : Option Addr} {sl_Shape_way : Array (Option Value)} {oc_Shape_way kV_Shape_way dc_Shape_way pm_Shape_way cd_Shape_way ct_Shape_way : Value}
    {f_Shape_climb : Addr} {od_Shape_climb an_Shape_climb : Option Addr} {sl_Shape_climb : Array (Option Value)} {oc_Shape_climb kV_Shape_climb dc_Shape_climb pm_Shape_climb cd_Shape_climb ct_Shape_climb : Value}
    {f_Shape_parting : Addr} {od_Shape_parting an_Shape_parting : Option Addr} {sl_Shape_parting : Array (Option Value)} {oc_Shape_parting kV_Shape_parting dc_Shape_parting pm_Shape_parting cd_Shape_parting ct_Shape_parting : Value}
    {f_Shape_distance : Addr} {od_Shape_distance an_Shape_distance : Option Addr} {sl_Shape_distance : Array (Option Value)} {oc_Shape_distance kV_Shape_distance dc_Shape_distance pm_Shape_distance cd_Shape_distance ct_Shape_distance : Value}
    {f_check_position : Addr} {od_check_position an_check_position : Option Addr} {sl_check_position : Array (Option Value)} {oc_check_position kV_check_position dc_check_position pm_check_position cd_check_position ct_check_position : Value}
    {f_check_side : Addr} {od_check_side an_check_side : Option Addr} {sl_check_side : Array (Option Value)} {oc_check_side kV_check_side dc_check_side pm_check_side cd_check_side ct_check_side : Value}
    {f_is_number_of_side : Addr} {od_is_number_of_side an_is_number_of_side : Option Addr} {sl_is_number_of_side : Array (Option Value)} {oc_is_number_of_side kV_is_number_of_side dc_is_number_of_side pm_is_number_of_side cd_is_number_of_side ct_is_number_of_side : Value}
    {f_l_tape : Addr} {od_l_tape an_l_tape : Option Addr} {sl_l_tape : Array (Option Value)} {oc_l_tape kV_l_tape dc_l_tape pm_l_tape cd_l_tape ct_l_tape : Value}
    {f_l_next : Addr} {od_l_next an_l_next : Option Addr} {sl_l_next : Array (Option Value)} {oc_l_next kV_l_next dc_l_next pm_l_next cd_l_next ct_l_next : Value}
    {f_l_parents : Addr} {od_l_parents an_l_parents : Option Addr} {sl_l_parents : Array (Option Value)} {oc_l_parents kV_l_parents dc_l_parents pm_l_parents cd_l_parents ct_l_parents : Value}
    {f_l_above : Addr} {od_l_above an_l_above : Option Addr} {sl_l_above : Array (Option Value)} {oc_l_above kV_l_above dc_l_above pm_l_above cd_l_above ct_l_above : Value}
    {f_l_parting : Addr} {od_l_parting an_l_parting : Option Addr} {sl_l_parting : Array (Option Value)} {oc_l_parting kV_l_parting dc_l_parting pm_l_parting cd_l_parting ct_l_parting : Value}
    {f_l_is_number : Addr} {od_l_is_number an_l_is_number : Option Addr} {sl_l_is_number : Array (Option Value)} {oc_l_is_number kV_l_is_number dc_l_is_number pm_l_is_number cd_l_is_number ct_l_is_number : Value}
    {f_l_ints : Addr} {od_l_ints an_l_ints : Option Addr} {sl_l_ints : Array (Option Value)} {oc_l_ints kV_l_ints dc_l_ints pm_l_ints cd_l_ints ct_l_ints : Value}
    {f_l_far : Addr} {od_l_far an_l_far : Option Addr} {sl_l_far : Array (Option Value)} {oc_l_far kV_l_far dc_l_far pm_l_far cd_l_far ct_l_far : Value}
    {f_l_bad_position : Addr} {od_l_bad_position an_l_bad_position : Option Addr} {sl_l_bad_position : Array (Option Value)} {oc_l_bad_position kV_l_bad_position dc_l_bad_position pm_l_bad_position cd_l_bad_position ct_l_bad_position : Value}
    {f_l_is_way : Addr} {od_l_is_way an_l_is_way : Option Addr} {sl_l_is_way : Array (Option Value)} {oc_l_is_way kV_l_is_way dc_l_is_way pm_l_is_way cd_l_is_way ct_l_is_way : Value}
    {f_l_pair_told : Addr} {od_l_pair_told an_l_pair_told : Option Addr} {sl_l_pair_told : Array (Option Value)} {oc_l_pair_told kV_l_pair_told dc_l_pair_told pm_l_pair_told cd_l_pair_told ct_l_pair_told : Value}
    {f_l_way_refused : Addr} {od_l_way_refused an_l_way_refused : Option Addr} {sl_l_way_refused : Array (Option Value)} {oc_l_way_refused kV_l_way_refused dc_l_way_refused pm_l_way_refused cd_l_way_refused ct_l_way_refused : Value}
    {f_l_parting_refused : Addr} {od_l_parting_refused an_l_parting_refused : Option Addr} {sl_l_parting_refused : Array (Option Value)} {oc_l_parting_refused kV_l_parting_refused dc_l_parting_refused pm_l_parting_refused cd_l_parting_refused ct_l_parting_refused : Value}
    {f_l_distance_refused : Addr} {od_l_distance_refused an_l_distance_refused : Option Addr} {sl_l_distance_refused : Array (Option Value)} {oc_l_distance_refused kV_l_distance_refused dc_l_distance_refused pm_l_distance_refused cd_l_distance_refused ct_l_distance_refused : Value}
    {f_l_all_refused : Addr} {od_l_all_refused an_l_all_refused : Option Addr} {sl_l_all_refused : Array (Option Value)} {oc_l_all_refused kV_l_all_refused dc_l_all_refused pm_l_all_refused cd_l_all_refused ct_l_all_refused : Value}
    {f_law : Addr} {od_law an_law : Option Addr} {sl_law : Array (Option Value)} {oc_law kV_law dc_law pm_law cd_law ct_law : Value}
    (z_abs : PySem.W.nsIn K mainGlobals "abs" = some none)
    (z_bool : PySem.W.nsIn K mainGlobals "bool" = some none)
    (z_enumerate : PySem.W.nsIn K mainGlobals "enumerate" = some none)
    (z_int : PySem.W.nsIn K mainGlobals "int" = some none)
    (z_isinstance : PySem.W.nsIn K mainGlobals "isinstance" = some none)
    (z_len : PySem.W.nsIn K mainGlobals "len" = some none)
    (z_list : PySem.W.nsIn K mainGlobals "list" = some none)
    (z_max : PySem.W.nsIn K mainGlobals "max" = some none)
    (z_min : PySem.W.nsIn K mainGlobals "min" = some none)
    (z_range : PySem.W.nsIn K mainGlobals "range" = some none)
    (z_tuple : PySem.W.nsIn K mainGlobals "tuple" = some none)
    (z_super : PySem.W.nsIn K mainGlobals "super" = some none)
    (top_ : (P.main.scope.names.lookup ("super" : Str)).isSome = false)
    (thp : PySem.W.nsIn K cStatics "thirdparty.any" = some none)
    (hn_ : PySem.W.specialIn K (.builtin "object.__class__") "__get__" = some (some (.builtin "getset_descriptor.__get__")))
    (ht_ : PySem.W.takesIn K (.builtin "object.__class__") = some true)
    (a_FindsError : PySem.W.nsIn K mainGlobals "FindsError" = some (some (.ref C_FindsError)))
    (a_BadShape : PySem.W.nsIn K mainGlobals "BadShape" = some (some (.ref C_BadShape)))
    (x_BadShape : K.lookup C_BadShape = some (excClassObj nm_BadShape q_BadShape C_BadShape N_BadShape bs_BadShape [.ref C_FindsError, .type "ValueError", .type "Exception", .type "BaseException", .type "object"] true sn_BadShape sub_BadShape ab_BadShape col_BadShape dd_BadShape m0_BadShape m1_BadShape m2_BadShape m3_BadShape m5_BadShape "ValueError.__new__"))
    (sa_BadShape : PySem.W.findIn K (.ref C_BadShape) "__setattr__" = some (some (.builtin "object.__setattr__")))
    (eC_BadShape : PySem.W.subIn K (.ref C_BadShape) (.type "BaseException") = some true)
    (sV_BadShape : PySem.W.subIn K (.ref C_BadShape) (.type "ValueError") = some true)
    (tC_BadShape : PySem.W.typeIn K (.ref C_BadShape) = some (.type "type"))
    (kC_BadShape : PySem.W.keepIn K (.ref C_BadShape) = true)
    (i_BadShape : PySem.W.findIn K (.ref C_BadShape) "__init__" = some (some (.ref f_BadShape)))
    (tI_BadShape : PySem.W.typeIn K (.ref f_BadShape) = some (.type "function"))
    (l_BadShape : K.lookup f_BadShape = some ⟨oc_BadShape, od_BadShape, .func (PySem.W.ksFn "__init__" "BadShape.__init__" (defArgs s_BadShape_init) (defBody s_BadShape_init) (defScope s_BadShape_init) .none kV_BadShape dc_BadShape pm_BadShape an_BadShape (.ref cda_BadShape) ct_BadShape cc_BadShape), sl_BadShape⟩)
    (c_BadShape : PySem.W.codeIn K (.ref cda_BadShape) "BadShape.__init__" = true)
    (ce_BadShape : K.lookup cc_BadShape = some ⟨cl_BadShape, cld_BadShape, .cell (some (.ref C_BadShape)), csl_BadShape⟩)
    (co_BadShape : K.lookup cda_BadShape = some ⟨ccl_BadShape, cdd_BadShape, .fields vs_BadShape, ccs_BadShape⟩)
    (v2_BadShape : vs_BadShape[2]? = some (.str file_BadShape tf_BadShape))
    (fi_BadShape : ((P.main.file : Str) == file_BadShape) = true)
    (su_BadShape : PySem.W.mroIn K C_BadShape (.ref C_BadShape) = some true)
    (mo_BadShape : PySem.W.mroIn K C_BadShape (.type "object") = some true)
    (ks_BadShape : PySem.W.ks_superIn K C_BadShape C_BadShape "__init__" = some (some (.builtin "ValueError.__init__")))
    (ga_BadShape : PySem.W.findIn K (.ref C_BadShape) "__getattribute__" = some (some (.builtin "BaseException.__getattribute__")))
    (gg_BadShape : PySem.W.findIn K (.ref C_BadShape) "__getattr__" = some none)
    (hd_BadShape : PySem.W.hasDictIn K C_BadShape = true)
    (xn_BadShape : PySem.W.findIn K (.ref C_BadShape) "place" = some none)
    (hc_BadShape : PySem.W.findIn K (.ref C_BadShape) "__class__" = some (some (.builtin "object.__class__")))
    (a_BadPosition : PySem.W.nsIn K mainGlobals "BadPosition" = some (some (.ref C_BadPosition)))
    (x_BadPosition : K.lookup C_BadPosition = some (excClassObj nm_BadPosition q_BadPosition C_BadPosition N_BadPosition bs_BadPosition [.ref C_FindsError, .type "ValueError", .type "Exception", .type "BaseException", .type "object"] true sn_BadPosition sub_BadPosition ab_BadPosition col_BadPosition dd_BadPosition m0_BadPosition m1_BadPosition m2_BadPosition m3_BadPosition m5_BadPosition "ValueError.__new__"))
    (sa_BadPosition : PySem.W.findIn K (.ref C_BadPosition) "__setattr__" = some (some (.builtin "object.__setattr__")))
    (eC_BadPosition : PySem.W.subIn K (.ref C_BadPosition) (.type "BaseException") = some true)
    (sV_BadPosition : PySem.W.subIn K (.ref C_BadPosition) (.type "ValueError") = some true)
    (tC_BadPosition : PySem.W.typeIn K (.ref C_BadPosition) = some (.type "type"))
    (kC_BadPosition : PySem.W.keepIn K (.ref C_BadPosition) = true)
    (i_BadPosition : PySem.W.findIn K (.ref C_BadPosition) "__init__" = some (some (.ref f_BadPosition)))
    (tI_BadPosition : PySem.W.typeIn K (.ref f_BadPosition) = some (.type "function"))
    (l_BadPosition : K.lookup f_BadPosition = some ⟨oc_BadPosition, od_BadPosition, .func (PySem.W.ksFn "__init__" "BadPosition.__init__" (defArgs s_BadPosition_init) (defBody s_BadPosition_init) (defScope s_BadPosition_init) .none kV_BadPosition dc_BadPosition pm_BadPosition an_BadPosition (.ref cda_BadPosition) ct_BadPosition cc_BadPosition), sl_BadPosition⟩)
    (c_BadPosition : PySem.W.codeIn K (.ref cda_BadPosition) "BadPosition.__init__" = true)
    (ce_BadPosition : K.lookup cc_BadPosition = some ⟨cl_BadPosition, cld_BadPosition, .cell (some (.ref C_BadPosition)), csl_BadPosition⟩)
    (co_BadPosition : K.lookup cda_BadPosition = some ⟨ccl_BadPosition, cdd_BadPosition, .fields vs_BadPosition, ccs_BadPosition⟩)
    (v2_BadPosition : vs_BadPosition[2]? = some (.str file_BadPosition tf_BadPosition))
    (fi_BadPosition : ((P.main.file : Str) == file_BadPosition) = true)
    (su_BadPosition : PySem.W.mroIn K C_BadPosition (.ref C_BadPosition) = some true)
    (mo_BadPosition : PySem.W.mroIn K C_BadPosition (.type "object") = some true)
    (ks_BadPosition : PySem.W.ks_superIn K C_BadPosition C_BadPosition "__init__" = some (some (.builtin "ValueError.__init__")))
    (ga_BadPosition : PySem.W.findIn K (.ref C_BadPosition) "__getattribute__" = some (some (.builtin "BaseException.__getattribute__")))
    (gg_BadPosition : PySem.W.findIn K (.ref C_BadPosition) "__getattr__" = some none)
    (hd_BadPosition : PySem.W.hasDictIn K C_BadPosition = true)
    (xn_BadPosition : PySem.W.findIn K (.ref C_BadPosition) "position" = some none)
    (hc_BadPosition : PySem.W.findIn K (.ref C_BadPosition) "__class__" = some (some (.builtin "object.__class__")))
    (a_BadSide : PySem.W.nsIn K mainGlobals "BadSide" = some (some (.ref C_BadSide)))
    (x_BadSide : K.lookup C_BadSide = some (excClassObj nm_BadSide q_BadSide C_BadSide N_BadSide bs_BadSide [.ref C_FindsError, .type "ValueError", .type "Exception", .type "BaseException", .type "object"] true sn_BadSide sub_BadSide ab_BadSide col_BadSide dd_BadSide m0_BadSide m1_BadSide m2_BadSide m3_BadSide m5_BadSide "ValueError.__new__"))
    (sa_BadSide : PySem.W.findIn K (.ref C_BadSide) "__setattr__" = some (some (.builtin "object.__setattr__")))
    (eC_BadSide : PySem.W.subIn K (.ref C_BadSide) (.type "BaseException") = some true)
    (sV_BadSide : PySem.W.subIn K (.ref C_BadSide) (.type "ValueError") = some true)
    (tC_BadSide : PySem.W.typeIn K (.ref C_BadSide) = some (.type "type"))
    (kC_BadSide : PySem.W.keepIn K (.ref C_BadSide) = true)
    (i_BadSide : PySem.W.findIn K (.ref C_BadSide) "__init__" = some (some (.ref f_BadSide)))
    (tI_BadSide : PySem.W.typeIn K (.ref f_BadSide) = some (.type "function"))
    (l_BadSide : K.lookup f_BadSide = some ⟨oc_BadSide, od_BadSide, .func (PySem.W.ksFn "__init__" "BadSide.__init__" (defArgs s_BadSide_init) (defBody s_BadSide_init) (defScope s_BadSide_init) .none kV_BadSide dc_BadSide pm_BadSide an_BadSide (.ref cda_BadSide) ct_BadSide cc_BadSide), sl_BadSide⟩)
    (c_BadSide : PySem.W.codeIn K (.ref cda_BadSide) "BadSide.__init__" = true)
    (ce_BadSide : K.lookup cc_BadSide = some ⟨cl_BadSide, cld_BadSide, .cell (some (.ref C_BadSide)), csl_BadSide⟩)
    (co_BadSide : K.lookup cda_BadSide = some ⟨ccl_BadSide, cdd_BadSide, .fields vs_BadSide, ccs_BadSide⟩)
    (v2_BadSide : vs_BadSide[2]? = some (.str file_BadSide tf_BadSide))
    (fi_BadSide : ((P.main.file : Str) == file_BadSide) = true)
    (su_BadSide : PySem.W.mroIn K C_BadSide (.ref C_BadSide) = some true)
    (mo_BadSide : PySem.W.mroIn K C_BadSide (.type "object") = some true)
    (ks_BadSide : PySem.W.ks_superIn K C_BadSide C_BadSide "__init__" = some (some (.builtin "ValueError.__init__")))
    (ga_BadSide : PySem.W.findIn K (.ref C_BadSide) "__getattribute__" = some (some (.builtin "BaseException.__getattribute__")))
    (gg_BadSide : PySem.W.findIn K (.ref C_BadSide) "__getattr__" = some none)
    (hd_BadSide : PySem.W.hasDictIn K C_BadSide = true)
    (xn_BadSide : PySem.W.findIn K (.ref C_BadSide) "side" = some none)
    (hc_BadSide : PySem.W.findIn K (.ref C_BadSide) "__class__" = some (some (.builtin "object.__class__")))
    (k_BadPosition_BadSide : PySem.W.kitOne K (.ref C_BadPosition) (.ref C_BadSide) = some false)
    (k_BadPosition_FindsError : PySem.W.kitOne K (.ref C_BadPosition) (.ref C_FindsError) = some true)
    (a_Shape : PySem.W.nsIn K mainGlobals "Shape" = some (some (.ref C_Shape)))
    (a_side_masks : PySem.W.nsIn K mainGlobals "_side_masks" = some (some (.ref f_side_masks)))
    (l_side_masks : K.lookup f_side_masks = some ⟨oc_side_masks, od_side_masks, .func (PySem.W.fnOf "_side_masks" "_side_masks" (defArgs s_side_masks) (defBody s_side_masks) (defScope s_side_masks) .none kV_side_masks dc_side_masks pm_side_masks an_side_masks cd_side_masks ct_side_masks), sl_side_masks⟩)
    (c_side_masks : PySem.W.codeIn K cd_side_masks "_side_masks" = true)
    (k_side_masks : PySem.W.keepIn K (.ref f_side_masks) = true)
    (a_Shape_init : PySem.W.findIn K (.ref C_Shape) "__init__" = some (some (.ref f_Shape_init)))
    (i_Shape_init : PySem.W.isFn K (.ref f_Shape_init) = true)
    (l_Shape_init : K.lookup f_Shape_init = some ⟨oc_Shape_init, od_Shape_init, .func (PySem.W.fnOf "__init__" "Shape.__init__" (defArgs s_Shape_init) (defBody s_Shape_init) (defScope s_Shape_init) .none kV_Shape_init dc_Shape_init pm_Shape_init an_Shape_init cd_Shape_init ct_Shape_init), sl_Shape_init⟩)
    (c_Shape_init : PySem.W.codeIn K cd_Shape_init "Shape.__init__" = true)
    (k_Shape_init : PySem.W.keepIn K (.ref f_Shape_init) = true)
    (a_Shape_has : PySem.W.findIn K (.ref C_Shape) "has" = some (some (.ref f_Shape_has)))
    (i_Shape_has : PySem.W.isFn K (.ref f_Shape_has) = true)
    (l_Shape_has : K.lookup f_Shape_has = some ⟨oc_Shape_has, od_Shape_has, .func (PySem.W.fnOf "has" "Shape.has" (defArgs s_Shape_has) (defBody s_Shape_has) (defScope s_Shape_has) .none kV_Shape_has dc_Shape_has pm_Shape_has an_Shape_has cd_Shape_has ct_Shape_has), sl_Shape_has⟩)
    (c_Shape_has : PySem.W.codeIn K cd_Shape_has "Shape.has" = true)
    (k_Shape_has : PySem.W.keepIn K (.ref f_Shape_has) = true)
    (a_Shape_way : PySem.W.findIn K (.ref C_Shape) "way" = some (some (.ref f_Shape_way)))
    (i_Shape_way : PySem.W.isFn K (.ref f_Shape_way) = true)
    (l_Shape_way : K.lookup f_Shape_way = some ⟨oc_Shape_way, od_Shape_way, .func (PySem.W.fnOf "way" "Shape.way" (defArgs s_Shape_way) (defBody s_Shape_way) (defScope s_Shape_way) .none kV_Shape_way dc_Shape_way pm_Shape_way an_Shape_way cd_Shape_way ct_Shape_way), sl_Shape_way⟩)
    (c_Shape_way : PySem.W.codeIn K cd_Shape_way "Shape.way" = true)
    (k_Shape_way : PySem.W.keepIn K (.ref f_Shape_way) = true)
    (a_Shape_climb : PySem.W.findIn K (.ref C_Shape) "_climb" = some (some (.ref f_Shape_climb)))
    (i_Shape_climb : PySem.W.isFn K (.ref f_Shape_climb) = true)
    (l_Shape_climb : K.lookup f_Shape_climb = some ⟨oc_Shape_climb, od_Shape_climb, .func (PySem.W.fnOf "_climb" "Shape._climb" (defArgs s_Shape_climb) (defBody s_Shape_climb) (defScope s_Shape_climb) .none kV_Shape_climb dc_Shape_climb pm_Shape_climb an_Shape_climb cd_Shape_climb ct_Shape_climb), sl_Shape_climb⟩)
    (c_Shape_climb : PySem.W.codeIn K cd_Shape_climb "Shape._climb" = true)
    (k_Shape_climb : PySem.W.keepIn K (.ref f_Shape_climb) = true)
    (a_Shape_parting : PySem.W.findIn K (.ref C_Shape) "parting" = some (some (.ref f_Shape_parting)))
    (i_Shape_parting : PySem.W.isFn K (.ref f_Shape_parting) = true)
    (l_Shape_parting : K.lookup f_Shape_parting = some ⟨oc_Shape_parting, od_Shape_parting, .func (PySem.W.fnOf "parting" "Shape.parting" (defArgs s_Shape_parting) (defBody s_Shape_parting) (defScope s_Shape_parting) .none kV_Shape_parting dc_Shape_parting pm_Shape_parting an_Shape_parting cd_Shape_parting ct_Shape_parting), sl_Shape_parting⟩)
    (c_Shape_parting : PySem.W.codeIn K cd_Shape_parting "Shape.parting" = true)
    (k_Shape_parting : PySem.W.keepIn K (.ref f_Shape_parting) = true)
    (a_Shape_distance : PySem.W.findIn K (.ref C_Shape) "distance" = some (some (.ref f_Shape_distance)))
    (i_Shape_distance : PySem.W.isFn K (.ref f_Shape_distance) = true)
    (l_Shape_distance : K.lookup f_Shape_distance = some ⟨oc_Shape_distance, od_Shape_distance, .func (PySem.W.fnOf "distance" "Shape.distance" (defArgs s_Shape_distance) (defBody s_Shape_distance) (defScope s_Shape_distance) .none kV_Shape_distance dc_Shape_distance pm_Shape_distance an_Shape_distance cd_Shape_distance ct_Shape_distance), sl_Shape_distance⟩)
    (c_Shape_distance : PySem.W.codeIn K cd_Shape_distance "Shape.distance" = true)
    (k_Shape_distance : PySem.W.keepIn K (.ref f_Shape_distance) = true)
    (a_check_position : PySem.W.nsIn K mainGlobals "check_position" = some (some (.ref f_check_position)))
    (l_check_position : K.lookup f_check_position = some ⟨oc_check_position, od_check_position, .func (PySem.W.fnOf "check_position" "check_position" (defArgs s_check_position) (defBody s_check_position) (defScope s_check_position) .none kV_check_position dc_check_position pm_check_position an_check_position cd_check_position ct_check_position), sl_check_position⟩)
    (c_check_position : PySem.W.codeIn K cd_check_position "check_position" = true)
    (k_check_position : PySem.W.keepIn K (.ref f_check_position) = true)
    (a_check_side : PySem.W.nsIn K mainGlobals "check_side" = some (some (.ref f_check_side)))
    (l_check_side : K.lookup f_check_side = some ⟨oc_check_side, od_check_side, .func (PySem.W.fnOf "check_side" "check_side" (defArgs s_check_side) (defBody s_check_side) (defScope s_check_side) .none kV_check_side dc_check_side pm_check_side an_check_side cd_check_side ct_check_side), sl_check_side⟩)
    (c_check_side : PySem.W.codeIn K cd_check_side "check_side" = true)
    (k_check_side : PySem.W.keepIn K (.ref f_check_side) = true)
    (a_is_number_of_side : PySem.W.nsIn K mainGlobals "is_number_of_side" = some (some (.ref f_is_number_of_side)))
    (l_is_number_of_side : K.lookup f_is_number_of_side = some ⟨oc_is_number_of_side, od_is_number_of_side, .func (PySem.W.fnOf "is_number_of_side" "is_number_of_side" (defArgs s_is_number_of_side) (defBody s_is_number_of_side) (defScope s_is_number_of_side) .none kV_is_number_of_side dc_is_number_of_side pm_is_number_of_side an_is_number_of_side cd_is_number_of_side ct_is_number_of_side), sl_is_number_of_side⟩)
    (c_is_number_of_side : PySem.W.codeIn K cd_is_number_of_side "is_number_of_side" = true)
    (k_is_number_of_side : PySem.W.keepIn K (.ref f_is_number_of_side) = true)
    (a_l_tape : PySem.W.nsIn K mainGlobals "_law_tape" = some (some (.ref f_l_tape)))
    (l_l_tape : K.lookup f_l_tape = some ⟨oc_l_tape, od_l_tape, .func (PySem.W.fnOf "_law_tape" "_law_tape" (defArgs s_l_tape) (defBody s_l_tape) (defScope s_l_tape) .none kV_l_tape dc_l_tape pm_l_tape an_l_tape cd_l_tape ct_l_tape), sl_l_tape⟩)
    (c_l_tape : PySem.W.codeIn K cd_l_tape "_law_tape" = true)
    (k_l_tape : PySem.W.keepIn K (.ref f_l_tape) = true)
    (a_l_next : PySem.W.nsIn K mainGlobals "_law_next" = some (some (.ref f_l_next)))
    (l_l_next : K.lookup f_l_next = some ⟨oc_l_next, od_l_next, .func (PySem.W.fnOf "_law_next" "_law_next" (defArgs s_l_next) (defBody s_l_next) (defScope s_l_next) .none kV_l_next dc_l_next pm_l_next an_l_next cd_l_next ct_l_next), sl_l_next⟩)
    (c_l_next : PySem.W.codeIn K cd_l_next "_law_next" = true)
    (k_l_next : PySem.W.keepIn K (.ref f_l_next) = true)
    (a_l_parents : PySem.W.nsIn K mainGlobals "_law_parents" = some (some (.ref f_l_parents)))
    (l_l_parents : K.lookup f_l_parents = some ⟨oc_l_parents, od_l_parents, .func (PySem.W.fnOf "_law_parents" "_law_parents" (defArgs s_l_parents) (defBody s_l_parents) (defScope s_l_parents) .none kV_l_parents dc_l_parents pm_l_parents an_l_parents cd_l_parents ct_l_parents), sl_l_parents⟩)
    (c_l_parents : PySem.W.codeIn K cd_l_parents "_law_parents" = true)
    (k_l_parents : PySem.W.keepIn K (.ref f_l_parents) = true)
    (a_l_above : PySem.W.nsIn K mainGlobals "_law_above" = some (some (.ref f_l_above)))
    (l_l_above : K.lookup f_l_above = some ⟨oc_l_above, od_l_above, .func (PySem.W.fnOf "_law_above" "_law_above" (defArgs s_l_above) (defBody s_l_above) (defScope s_l_above) .none kV_l_above dc_l_above pm_l_above an_l_above cd_l_above ct_l_above), sl_l_above⟩)
    (c_l_above : PySem.W.codeIn K cd_l_above "_law_above" = true)
    (k_l_above : PySem.W.keepIn K (.ref f_l_above) = true)
    (a_l_parting : PySem.W.nsIn K mainGlobals "_law_parting" = some (some (.ref f_l_parting)))
    (l_l_parting : K.lookup f_l_parting = some ⟨oc_l_parting, od_l_parting, .func (PySem.W.fnOf "_law_parting" "_law_parting" (defArgs s_l_parting) (defBody s_l_parting) (defScope s_l_parting) .none kV_l_parting dc_l_parting pm_l_parting an_l_parting cd_l_parting ct_l_parting), sl_l_parting⟩)
    (c_l_parting : PySem.W.codeIn K cd_l_parting "_law_parting" = true)
    (k_l_parting : PySem.W.keepIn K (.ref f_l_parting) = true)
    (a_l_is_number : PySem.W.nsIn K mainGlobals "_law_is_number" = some (some (.ref f_l_is_number)))
    (l_l_is_number : K.lookup f_l_is_number = some ⟨oc_l_is_number, od_l_is_number, .func (PySem.W.fnOf "_law_is_number" "_law_is_number" (defArgs s_l_is_number) (defBody s_l_is_number) (defScope s_l_is_number) .none kV_l_is_number dc_l_is_number pm_l_is_number an_l_is_number cd_l_is_number ct_l_is_number), sl_l_is_number⟩)
    (c_l_is_number : PySem.W.codeIn K cd_l_is_number "_law_is_number" = true)
    (k_l_is_number : PySem.W.keepIn K (.ref f_l_is_number) = true)
    (a_l_ints : PySem.W.nsIn K mainGlobals "_law_ints" = some (some (.ref f_l_ints)))
    (l_l_ints : K.lookup f_l_ints = some ⟨oc_l_ints, od_l_ints, .func (PySem.W.fnOf "_law_ints" "_law_ints" (defArgs s_l_ints) (defBody s_l_ints) (defScope s_l_ints) .none kV_l_ints dc_l_ints pm_l_ints an_l_ints cd_l_ints ct_l_ints), sl_l_ints⟩)
    (c_l_ints : PySem.W.codeIn K cd_l_ints "_law_ints" = true)
    (k_l_ints : PySem.W.keepIn K (.ref f_l_ints) = true)
    (a_l_far : PySem.W.nsIn K mainGlobals "_law_far" = some (some (.ref f_l_far)))
    (l_l_far : K.lookup f_l_far = some ⟨oc_l_far, od_l_far, .func (PySem.W.fnOf "_law_far" "_law_far" (defArgs s_l_far) (defBody s_l_far) (defScope s_l_far) .none kV_l_far dc_l_far pm_l_far an_l_far cd_l_far ct_l_far), sl_l_far⟩)
    (c_l_far : PySem.W.codeIn K cd_l_far "_law_far" = true)
    (k_l_far : PySem.W.keepIn K (.ref f_l_far) = true)
    (a_l_bad_position : PySem.W.nsIn K mainGlobals "_law_bad_position" = some (some (.ref f_l_bad_position)))
    (l_l_bad_position : K.lookup f_l_bad_position = some ⟨oc_l_bad_position, od_l_bad_position, .func (PySem.W.fnOf "_law_bad_position" "_law_bad_position" (defArgs s_l_bad_position) (defBody s_l_bad_position) (defScope s_l_bad_position) .none kV_l_bad_position dc_l_bad_position pm_l_bad_position an_l_bad_position cd_l_bad_position ct_l_bad_position), sl_l_bad_position⟩)
    (c_l_bad_position : PySem.W.codeIn K cd_l_bad_position "_law_bad_position" = true)
    (k_l_bad_position : PySem.W.keepIn K (.ref f_l_bad_position) = true)
    (a_l_is_way : PySem.W.nsIn K mainGlobals "_law_is_way" = some (some (.ref f_l_is_way)))
    (l_l_is_way : K.lookup f_l_is_way = some ⟨oc_l_is_way, od_l_is_way, .func (PySem.W.fnOf "_law_is_way" "_law_is_way" (defArgs s_l_is_way) (defBody s_l_is_way) (defScope s_l_is_way) .none kV_l_is_way dc_l_is_way pm_l_is_way an_l_is_way cd_l_is_way ct_l_is_way), sl_l_is_way⟩)
    (c_l_is_way : PySem.W.codeIn K cd_l_is_way "_law_is_way" = true)
    (k_l_is_way : PySem.W.keepIn K (.ref f_l_is_way) = true)
    (a_l_pair_told : PySem.W.nsIn K mainGlobals "_law_pair_told" = some (some (.ref f_l_pair_told)))
    (l_l_pair_told : K.lookup f_l_pair_told = some ⟨oc_l_pair_told, od_l_pair_told, .func (PySem.W.fnOf "_law_pair_told" "_law_pair_told" (defArgs s_l_pair_told) (defBody s_l_pair_told) (defScope s_l_pair_told) .none kV_l_pair_told dc_l_pair_told pm_l_pair_told an_l_pair_told cd_l_pair_told ct_l_pair_told), sl_l_pair_told⟩)
    (c_l_pair_told : PySem.W.codeIn K cd_l_pair_told "_law_pair_told" = true)
    (k_l_pair_told : PySem.W.keepIn K (.ref f_l_pair_told) = true)
    (a_l_way_refused : PySem.W.nsIn K mainGlobals "_law_way_refused" = some (some (.ref f_l_way_refused)))
    (l_l_way_refused : K.lookup f_l_way_refused = some ⟨oc_l_way_refused, od_l_way_refused, .func (PySem.W.fnOf "_law_way_refused" "_law_way_refused" (defArgs s_l_way_refused) (defBody s_l_way_refused) (defScope s_l_way_refused) .none kV_l_way_refused dc_l_way_refused pm_l_way_refused an_l_way_refused cd_l_way_refused ct_l_way_refused), sl_l_way_refused⟩)
    (c_l_way_refused : PySem.W.codeIn K cd_l_way_refused "_law_way_refused" = true)
    (k_l_way_refused : PySem.W.keepIn K (.ref f_l_way_refused) = true)
    (a_l_parting_refused : PySem.W.nsIn K mainGlobals "_law_parting_refused" = some (some (.ref f_l_parting_refused)))
    (l_l_parting_refused : K.lookup f_l_parting_refused = some ⟨oc_l_parting_refused, od_l_parting_refused, .func (PySem.W.fnOf "_law_parting_refused" "_law_parting_refused" (defArgs s_l_parting_refused) (defBody s_l_parting_refused) (defScope s_l_parting_refused) .none kV_l_parting_refused dc_l_parting_refused pm_l_parting_refused an_l_parting_refused cd_l_parting_refused ct_l_parting_refused), sl_l_parting_refused⟩)
    (c_l_parting_refused : PySem.W.codeIn K cd_l_parting_refused "_law_parting_refused" = true)
    (k_l_parting_refused : PySem.W.keepIn K (.ref f_l_parting_refused) = true)
    (a_l_distance_refused : PySem.W.nsIn K mainGlobals "_law_distance_refused" = some (some (.ref f_l_distance_refused)))
    (l_l_distance_refused : K.lookup f_l_distance_refused = some ⟨oc_l_distance_refused, od_l_distance_refused, .func (PySem.W.fnOf "_law_distance_refused" "_law_distance_refused" (defArgs s_l_distance_refused) (defBody s_l_distance_refused) (defScope s_l_distance_refused) .none kV_l_distance_refused dc_l_distance_refused pm_l_distance_refused an_l_distance_refused cd_l_distance_refused ct_l_distance_refused), sl_l_distance_refused⟩)
    (c_l_distance_refused : PySem.W.codeIn K cd_l_distance_refused "_law_distance_refused" = true)
    (k_l_distance_refused : PySem.W.keepIn K (.ref f_l_distance_refused) = true)
    (a_l_all_refused : PySem.W.nsIn K mainGlobals "_law_all_refused" = some (some (.ref f_l_all_refused)))
    (l_l_all_refused : K.lookup f_l_all_refused = some ⟨oc_l_all_refused, od_l_all_refused, .func (PySem.W.fnOf "_law_all_refused" "_law_all_refused" (defArgs s_l_all_refused) (defBody s_l_all_refused) (defScope s_l_all_refused) .none kV_l_all_refused dc_l_all_refused pm_l_all_refused an_l_all_refused cd_l_all_refused ct_l_all_refused), sl_l_all_refused⟩)
    (c_l_all_refused : PySem.W.codeIn K cd_l_all_refused "_law_all_refused" = true)
    (k_l_all_refused : PySem.W.keepIn K (.ref f_l_all_refused) = true)
    (a_law : PySem.W.nsIn K mainGlobals "law" = some (some (.ref f_law)))
    (l_law : K.lookup f_law = some ⟨oc_law, od_law, .func (PySem.W.fnOf "law" "law" (defArgs s_law) (defBody s_law) (defScope s_law) .none kV_law dc_law pm_law an_law cd_law ct_law), sl_law⟩)
    (c_law : PySem.W.codeIn K cd_law "law" = true)
    (k_law : PySem.W.keepIn K (.ref f_law) = true)
    (pg_Shape : PySem.W.plainGet K C_Shape Str.empty = true)
    (hd_Shape : PySem.W.hasDictIn K C_Shape = true)
    (po_Shape : PySem.W.plainOver K C_Shape = true)
    (sa_Shape : PySem.W.findIn K (.ref C_Shape) "__setattr__" = some (some (.builtin "object.__setattr__")))
    (mk_Shape : PySem.W.makesIn K C_Shape = true)
    (kc_Shape : PySem.W.keepIn K (.ref C_Shape) = true)
    (n_Shape_masks : PySem.W.findIn K (.ref C_Shape) "_masks" = some none)
    (n_Shape_parents : PySem.W.findIn K (.ref C_Shape) "parents" = some none)
    (n_Shape_size : PySem.W.findIn K (.ref C_Shape) "size" = some none) : ∃ T : Tx P K mg, T.a_law = fa := by
  have e := hfa.symm.trans (PySem.W.mg_of X G a_law)
  exact ⟨{
    z_abs := PySem.W.mg_none_of X G z_abs,
    z_bool := PySem.W.mg_none_of X G z_bool,
    z_enumerate := PySem.W.mg_none_of X G z_enumerate,
    z_int := PySem.W.mg_none_of X G z_int,
    z_isinstance := PySem.W.mg_none_of X G z_isinstance,
    z_len := PySem.W.mg_none_of X G z_len,
    z_list := PySem.W.mg_none_of X G z_list,
    z_max := PySem.W.mg_none_of X G z_max,
    z_min := PySem.W.mg_none_of X G z_min,
    z_range := PySem.W.mg_none_of X G z_range,
    z_tuple := PySem.W.mg_none_of X G z_tuple,
    C_FindsError := C_FindsError,
    mg_FindsError := PySem.W.mg_of X G a_FindsError,
    x_BadShape := { C := C_BadShape, fa := f_BadShape, cc := cc_BadShape, cda := cda_BadShape, fd := _, mgX := PySem.W.mg_of X G a_BadShape, sup := { oex := ⟨⟨_, _, _, _, _, _, _, _, _, _, _, _, _, _, _, x_BadShape, rfl⟩, sa_BadShape, eC_BadShape, tC_BadShape, kC_BadShape⟩, cel := ⟨_, _, _, ce_BadShape⟩, cod := ⟨_, _, _, _, _, _, co_BadShape, v2_BadShape, fi_BadShape⟩, sub := su_BadShape, subV := sV_BadShape, op := thp, sup := ks_BadShape, mgS := PySem.W.mg_none_of X G z_super, top := top_ }, lk := ⟨_, _, _, _, _, _, _, _, rfl, l_BadShape⟩, cod := c_BadShape, iC := i_BadShape, tI := tI_BadShape, xf := ⟨ga_BadShape, gg_BadShape, eC_BadShape, hd_BadShape⟩, xn := xn_BadShape, ec := ⟨ga_BadShape, gg_BadShape, eC_BadShape, hd_BadShape, hc_BadShape, hn_, ht_, mo_BadShape⟩ },
    x_BadPosition := { C := C_BadPosition, fa := f_BadPosition, cc := cc_BadPosition, cda := cda_BadPosition, fd := _, mgX := PySem.W.mg_of X G a_BadPosition, sup := { oex := ⟨⟨_, _, _, _, _, _, _, _, _, _, _, _, _, _, _, x_BadPosition, rfl⟩, sa_BadPosition, eC_BadPosition, tC_BadPosition, kC_BadPosition⟩, cel := ⟨_, _, _, ce_BadPosition⟩, cod := ⟨_, _, _, _, _, _, co_BadPosition, v2_BadPosition, fi_BadPosition⟩, sub := su_BadPosition, subV := sV_BadPosition, op := thp, sup := ks_BadPosition, mgS := PySem.W.mg_none_of X G z_super, top := top_ }, lk := ⟨_, _, _, _, _, _, _, _, rfl, l_BadPosition⟩, cod := c_BadPosition, iC := i_BadPosition, tI := tI_BadPosition, xf := ⟨ga_BadPosition, gg_BadPosition, eC_BadPosition, hd_BadPosition⟩, xn := xn_BadPosition, ec := ⟨ga_BadPosition, gg_BadPosition, eC_BadPosition, hd_BadPosition, hc_BadPosition, hn_, ht_, mo_BadPosition⟩ },
    x_BadSide := { C := C_BadSide, fa := f_BadSide, cc := cc_BadSide, cda := cda_BadSide, fd := _, mgX := PySem.W.mg_of X G a_BadSide, sup := { oex := ⟨⟨_, _, _, _, _, _, _, _, _, _, _, _, _, _, _, x_BadSide, rfl⟩, sa_BadSide, eC_BadSide, tC_BadSide, kC_BadSide⟩, cel := ⟨_, _, _, ce_BadSide⟩, cod := ⟨_, _, _, _, _, _, co_BadSide, v2_BadSide, fi_BadSide⟩, sub := su_BadSide, subV := sV_BadSide, op := thp, sup := ks_BadSide, mgS := PySem.W.mg_none_of X G z_super, top := top_ }, lk := ⟨_, _, _, _, _, _, _, _, rfl, l_BadSide⟩, cod := c_BadSide, iC := i_BadSide, tI := tI_BadSide, xf := ⟨ga_BadSide, gg_BadSide, eC_BadSide, hd_BadSide⟩, xn := xn_BadSide, ec := ⟨ga_BadSide, gg_BadSide, eC_BadSide, hd_BadSide, hc_BadSide, hn_, ht_, mo_BadSide⟩ },
    k_BadPosition_BadSide := k_BadPosition_BadSide,
    k_BadPosition_FindsError := k_BadPosition_FindsError,
    a_side_masks := f_side_masks,
    d_side_masks := _,
    F_side_masks := fun_mk (st := s_side_masks) l_side_masks c_side_masks k_side_masks,
    B_side_masks := (fun_mk (st := s_side_masks) l_side_masks c_side_masks k_side_masks).binds (ps := ["parents"]) (fun _ _ _ _ _ _ us hl => match us, hl with | [_], _ => rfl),
    g_side_masks := PySem.W.mg_of X G a_side_masks,
    a_Shape_init := f_Shape_init,
    d_Shape_init := _,
    F_Shape_init := fun_mk (st := s_Shape_init) l_Shape_init c_Shape_init k_Shape_init,
    B_Shape_init := (fun_mk (st := s_Shape_init) l_Shape_init c_Shape_init k_Shape_init).binds (ps := ["self", "parents"]) (fun _ _ _ _ _ _ us hl => match us, hl with | [_, _], _ => rfl),
    a_Shape_has := f_Shape_has,
    d_Shape_has := _,
    F_Shape_has := fun_mk (st := s_Shape_has) l_Shape_has c_Shape_has k_Shape_has,
    B_Shape_has := (fun_mk (st := s_Shape_has) l_Shape_has c_Shape_has k_Shape_has).binds (ps := ["self", "position", "side"]) (fun _ _ _ _ _ _ us hl => match us, hl with | [_, _, _], _ => rfl),
    a_Shape_way := f_Shape_way,
    d_Shape_way := _,
    F_Shape_way := fun_mk (st := s_Shape_way) l_Shape_way c_Shape_way k_Shape_way,
    B_Shape_way := (fun_mk (st := s_Shape_way) l_Shape_way c_Shape_way k_Shape_way).binds (ps := ["self", "start", "goal"]) (fun _ _ _ _ _ _ us hl => match us, hl with | [_, _, _], _ => rfl),
    a_Shape_climb := f_Shape_climb,
    d_Shape_climb := _,
    F_Shape_climb := fun_mk (st := s_Shape_climb) l_Shape_climb c_Shape_climb k_Shape_climb,
    B_Shape_climb := (fun_mk (st := s_Shape_climb) l_Shape_climb c_Shape_climb k_Shape_climb).binds (ps := ["self", "position"]) (fun _ _ _ _ _ _ us hl => match us, hl with | [_, _], _ => rfl),
    a_Shape_parting := f_Shape_parting,
    d_Shape_parting := _,
    F_Shape_parting := fun_mk (st := s_Shape_parting) l_Shape_parting c_Shape_parting k_Shape_parting,
    B_Shape_parting := (fun_mk (st := s_Shape_parting) l_Shape_parting c_Shape_parting k_Shape_parting).binds (ps := ["self", "first", "second"]) (fun _ _ _ _ _ _ us hl => match us, hl with | [_, _, _], _ => rfl),
    a_Shape_distance := f_Shape_distance,
    d_Shape_distance := _,
    F_Shape_distance := fun_mk (st := s_Shape_distance) l_Shape_distance c_Shape_distance k_Shape_distance,
    B_Shape_distance := (fun_mk (st := s_Shape_distance) l_Shape_distance c_Shape_distance k_Shape_distance).binds (ps := ["self", "first", "second"]) (fun _ _ _ _ _ _ us hl => match us, hl with | [_, _, _], _ => rfl),
    a_check_position := f_check_position,
    d_check_position := _,
    F_check_position := fun_mk (st := s_check_position) l_check_position c_check_position k_check_position,
    B_check_position := (fun_mk (st := s_check_position) l_check_position c_check_position k_check_position).binds (ps := ["shape", "position"]) (fun _ _ _ _ _ _ us hl => match us, hl with | [_, _], _ => rfl),
    g_check_position := PySem.W.mg_of X G a_check_position,
    a_check_side := f_check_side,
    d_check_side := _,
    F_check_side := fun_mk (st := s_check_side) l_check_side c_check_side k_check_side,
    B_check_side := (fun_mk (st := s_check_side) l_check_side c_check_side k_check_side).binds (ps := ["shape", "side"]) (fun _ _ _ _ _ _ us hl => match us, hl with | [_, _], _ => rfl),
    g_check_side := PySem.W.mg_of X G a_check_side,
    a_is_number_of_side := f_is_number_of_side,
    d_is_number_of_side := _,
    F_is_number_of_side := fun_mk (st := s_is_number_of_side) l_is_number_of_side c_is_number_of_side k_is_number_of_side,
    B_is_number_of_side := (fun_mk (st := s_is_number_of_side) l_is_number_of_side c_is_number_of_side k_is_number_of_side).binds (ps := ["shape", "number"]) (fun _ _ _ _ _ _ us hl => match us, hl with | [_, _], _ => rfl),
    g_is_number_of_side := PySem.W.mg_of X G a_is_number_of_side,
    a_l_tape := f_l_tape,
    d_l_tape := _,
    F_l_tape := fun_mk (st := s_l_tape) l_l_tape c_l_tape k_l_tape,
    B_l_tape := (fun_mk (st := s_l_tape) l_l_tape c_l_tape k_l_tape).binds (ps := ["_law_script"]) (fun _ _ _ _ _ _ us hl => match us, hl with | [_], _ => rfl),
    g_l_tape := PySem.W.mg_of X G a_l_tape,
    a_l_next := f_l_next,
    d_l_next := _,
    F_l_next := fun_mk (st := s_l_next) l_l_next c_l_next k_l_next,
    B_l_next := (fun_mk (st := s_l_next) l_l_next c_l_next k_l_next).binds (ps := ["_law_tape_here", "_law_size"]) (fun _ _ _ _ _ _ us hl => match us, hl with | [_, _], _ => rfl),
    g_l_next := PySem.W.mg_of X G a_l_next,
    a_l_parents := f_l_parents,
    d_l_parents := _,
    F_l_parents := fun_mk (st := s_l_parents) l_l_parents c_l_parents k_l_parents,
    B_l_parents := (fun_mk (st := s_l_parents) l_l_parents c_l_parents k_l_parents).binds (ps := ["_law_tape_here", "_law_most"]) (fun _ _ _ _ _ _ us hl => match us, hl with | [_, _], _ => rfl),
    g_l_parents := PySem.W.mg_of X G a_l_parents,
    a_l_above := f_l_above,
    d_l_above := _,
    F_l_above := fun_mk (st := s_l_above) l_l_above c_l_above k_l_above,
    B_l_above := (fun_mk (st := s_l_above) l_l_above c_l_above k_l_above).binds (ps := ["_law_parents_here", "_law_position"]) (fun _ _ _ _ _ _ us hl => match us, hl with | [_, _], _ => rfl),
    g_l_above := PySem.W.mg_of X G a_l_above,
    a_l_parting := f_l_parting,
    d_l_parting := _,
    F_l_parting := fun_mk (st := s_l_parting) l_l_parting c_l_parting k_l_parting,
    B_l_parting := (fun_mk (st := s_l_parting) l_l_parting c_l_parting k_l_parting).binds (ps := ["_law_parents_here", "_law_first", "_law_second"]) (fun _ _ _ _ _ _ us hl => match us, hl with | [_, _, _], _ => rfl),
    g_l_parting := PySem.W.mg_of X G a_l_parting,
    a_l_is_number := f_l_is_number,
    d_l_is_number := _,
    F_l_is_number := fun_mk (st := s_l_is_number) l_l_is_number c_l_is_number k_l_is_number,
    B_l_is_number := (fun_mk (st := s_l_is_number) l_l_is_number c_l_is_number k_l_is_number).binds (ps := ["_law_thing"]) (fun _ _ _ _ _ _ us hl => match us, hl with | [_], _ => rfl),
    g_l_is_number := PySem.W.mg_of X G a_l_is_number,
    a_l_ints := f_l_ints,
    d_l_ints := _,
    F_l_ints := fun_mk (st := s_l_ints) l_l_ints c_l_ints k_l_ints,
    B_l_ints := (fun_mk (st := s_l_ints) l_l_ints c_l_ints k_l_ints).binds (ps := ["_law_told", "_law_due"]) (fun _ _ _ _ _ _ us hl => match us, hl with | [_, _], _ => rfl),
    g_l_ints := PySem.W.mg_of X G a_l_ints,
    a_l_far := f_l_far,
    d_l_far := _,
    F_l_far := fun_mk (st := s_l_far) l_l_far c_l_far k_l_far,
    B_l_far := (fun_mk (st := s_l_far) l_l_far c_l_far k_l_far).binds (ps := ["_law_tape_here"]) (fun _ _ _ _ _ _ us hl => match us, hl with | [_], _ => rfl),
    g_l_far := PySem.W.mg_of X G a_l_far,
    a_l_bad_position := f_l_bad_position,
    d_l_bad_position := _,
    F_l_bad_position := fun_mk (st := s_l_bad_position) l_l_bad_position c_l_bad_position k_l_bad_position,
    B_l_bad_position := (fun_mk (st := s_l_bad_position) l_l_bad_position c_l_bad_position k_l_bad_position).binds (ps := ["_law_tape_here", "_law_parents_here"]) (fun _ _ _ _ _ _ us hl => match us, hl with | [_, _], _ => rfl),
    g_l_bad_position := PySem.W.mg_of X G a_l_bad_position,
    a_l_is_way := f_l_is_way,
    d_l_is_way := _,
    F_l_is_way := fun_mk (st := s_l_is_way) l_l_is_way c_l_is_way k_l_is_way,
    B_l_is_way := (fun_mk (st := s_l_is_way) l_l_is_way c_l_is_way k_l_is_way).binds (ps := ["_law_parents_here", "_law_told", "_law_begin", "_law_target"]) (fun _ _ _ _ _ _ us hl => match us, hl with | [_, _, _, _], _ => rfl),
    g_l_is_way := PySem.W.mg_of X G a_l_is_way,
    a_l_pair_told := f_l_pair_told,
    d_l_pair_told := _,
    F_l_pair_told := fun_mk (st := s_l_pair_told) l_l_pair_told c_l_pair_told k_l_pair_told,
    B_l_pair_told := (fun_mk (st := s_l_pair_told) l_l_pair_told c_l_pair_told k_l_pair_told).binds (ps := ["_law_shape", "_law_parents_here", "_law_first", "_law_second"]) (fun _ _ _ _ _ _ us hl => match us, hl with | [_, _, _, _], _ => rfl),
    g_l_pair_told := PySem.W.mg_of X G a_l_pair_told,
    a_l_way_refused := f_l_way_refused,
    d_l_way_refused := _,
    F_l_way_refused := fun_mk (st := s_l_way_refused) l_l_way_refused c_l_way_refused k_l_way_refused,
    B_l_way_refused := (fun_mk (st := s_l_way_refused) l_l_way_refused c_l_way_refused k_l_way_refused).binds (ps := ["_law_shape", "_law_first", "_law_second", "_law_bad"]) (fun _ _ _ _ _ _ us hl => match us, hl with | [_, _, _, _], _ => rfl),
    g_l_way_refused := PySem.W.mg_of X G a_l_way_refused,
    a_l_parting_refused := f_l_parting_refused,
    d_l_parting_refused := _,
    F_l_parting_refused := fun_mk (st := s_l_parting_refused) l_l_parting_refused c_l_parting_refused k_l_parting_refused,
    B_l_parting_refused := (fun_mk (st := s_l_parting_refused) l_l_parting_refused c_l_parting_refused k_l_parting_refused).binds (ps := ["_law_shape", "_law_first", "_law_second", "_law_bad"]) (fun _ _ _ _ _ _ us hl => match us, hl with | [_, _, _, _], _ => rfl),
    g_l_parting_refused := PySem.W.mg_of X G a_l_parting_refused,
    a_l_distance_refused := f_l_distance_refused,
    d_l_distance_refused := _,
    F_l_distance_refused := fun_mk (st := s_l_distance_refused) l_l_distance_refused c_l_distance_refused k_l_distance_refused,
    B_l_distance_refused := (fun_mk (st := s_l_distance_refused) l_l_distance_refused c_l_distance_refused k_l_distance_refused).binds (ps := ["_law_shape", "_law_first", "_law_second", "_law_bad"]) (fun _ _ _ _ _ _ us hl => match us, hl with | [_, _, _, _], _ => rfl),
    g_l_distance_refused := PySem.W.mg_of X G a_l_distance_refused,
    a_l_all_refused := f_l_all_refused,
    d_l_all_refused := _,
    F_l_all_refused := fun_mk (st := s_l_all_refused) l_l_all_refused c_l_all_refused k_l_all_refused,
    B_l_all_refused := (fun_mk (st := s_l_all_refused) l_l_all_refused c_l_all_refused k_l_all_refused).binds (ps := ["_law_shape", "_law_first", "_law_second", "_law_bad"]) (fun _ _ _ _ _ _ us hl => match us, hl with | [_, _, _, _], _ => rfl),
    g_l_all_refused := PySem.W.mg_of X G a_l_all_refused,
    a_law := f_law,
    d_law := _,
    F_law := fun_mk (st := s_law) l_law c_law k_law,
    B_law := (fun_mk (st := s_law) l_law c_law k_law).binds (ps := ["_law_script"]) (fun _ _ _ _ _ _ us hl => match us, hl with | [_], _ => rfl),
    g_law := PySem.W.mg_of X G a_law,
    C_Shape := C_Shape,
    mg_Shape := PySem.W.mg_of X G a_Shape,
    cl_Shape := ⟨pg_Shape, hd_Shape, po_Shape, sa_Shape⟩,
    M_Shape := ⟨mk_Shape, a_Shape_init, i_Shape_init, kc_Shape⟩,
    n_Shape_masks := n_Shape_masks,
    n_Shape_parents := n_Shape_parents,
    n_Shape_size := n_Shape_size,
    m_Shape_has := ⟨a_Shape_has, i_Shape_has, k_Shape_has⟩,
    m_Shape_way := ⟨a_Shape_way, i_Shape_way, k_Shape_way⟩,
    m_Shape_climb := ⟨a_Shape_climb, i_Shape_climb, k_Shape_climb⟩,
    m_Shape_parting := ⟨a_Shape_parting, i_Shape_parting, k_Shape_parting⟩,
    m_Shape_distance := ⟨a_Shape_distance, i_Shape_distance, k_Shape_distance⟩ }, by cases e; rfl⟩
theorem walk {l : PySem.W.OpenLaw} {q : Program} {loose : List Str} {XP : (Str → Option Value) → Heap → Prop} {YP : World → Heap → Prop} {d : DefRec} {K : Params → PySem.W.Frag} (hn : l.most = some 63) (hdf : d.params.defaults = [])
    (hY : ∀ (w : World) (h : Heap), YP w h → (K w.params).In h)
    (F : ∀ (w : World) (mg : Str → Option Value) (fa : Addr) (h : Heap), (K w.params).In h → h.Ns mainGlobals mg → mg d.name = some (.ref fa) → ∃ T : Tx l.prog (K w.params) mg, T.a_law = fa) (hname : d.name = "law") :
    PySem.W.WalkO q loose XP YP l.row.toRowW d [] (fun f vs => PySem.call f vs) :=
  L2.walk_of (n := 63) (k := 9) (x := "_law_script") (CX := fun _ => L2.CX0) (sp := fun w => spLaw (K w.params)) hn (by decide) hdf ⟨rfl, by decide, by decide⟩ hY
    (fun w mg fa h X G hm => by
      obtain ⟨T, rfl⟩ := F w mg fa h X G hm
      exact ⟨T.d_law, fun s u => by
        have b := T.B_law
        obtain ⟨oc, od, kV, doc, pm, an, cdv, ct, osl, e, lk, hcd⟩ := T.F_law.ex
        rw [e]
        exact .of_eq rfl, fun base _ _ => ok_law T⟩) (fun _ _ a ns hl _ hS => ⟨a, ns, rfl, hS, hl, fun _ => rfl⟩) fun _ _ _ _ _ z => z
end K02
open PySem PySem.W PyProof.Rows in
set_option maxRecDepth 100000 in
set_option maxHeartbeats 0 in
theorem PySem.Challenge.cw_everypast_k02_ways_and_distances_holds : PySem.Challenge.rw_everypast_k02_ways_and_distances.Holds := by
  w_on; o_law; k_head; (case hw => w_witness2)
  k_fill
  refine K02.walk (l := PySem.Challenge.rw_everypast_k02_ways_and_distances) rfl rfl (fun w h Y => PySem.W.kIn_of Y) ?F rfl
  case F =>
    intro w mg fa h KX G hmg
    refine' K02.all_mk KX G hmg ?z_abs ?z_bool ?z_enumerate ?z_int ?z_isinstance ?z_len ?z_list ?z_max ?z_min ?z_range ?z_tuple ?z_super ?top_ ?thp ?hn_ ?ht_ ?a_FindsError ?a_BadShape ?x_BadShape ?sa_BadShape ?eC_BadShape ?sV_BadShape ?tC_BadShape ?kC_BadShape ?i_BadShape ?tI_BadShape ?l_BadShape ?c_BadShape ?ce_BadShape ?co_BadShape ?v2_BadShape ?fi_BadShape ?su_BadShape ?mo_BadShape ?ks_BadShape ?ga_BadShape ?gg_BadShape ?hd_BadShape ?xn_BadShape ?hc_BadShape ?a_BadPosition ?x_BadPosition ?sa_BadPosition ?eC_BadPosition ?sV_BadPosition ?tC_BadPosition ?kC_BadPosition ?i_BadPosition ?tI_BadPosition ?l_BadPosition ?c_BadPosition ?ce_BadPosition ?co_BadPosition ?v2_BadPosition ?fi_BadPosition ?su_BadPosition ?mo_BadPosition ?ks_BadPosition ?ga_BadPosition ?gg_BadPosition ?hd_BadPosition ?xn_BadPosition ?hc_BadPosition ?a_BadSide ?x_BadSide ?sa_BadSide ?eC_BadSide ?sV_BadSide ?tC_BadSide ?kC_BadSide ?i_BadSide ?tI_BadSide ?l_BadSide ?c_BadSide ?ce_BadSide ?co_BadSide ?v2_BadSide ?fi_BadSide ?su_BadSide ?mo_BadSide ?ks_BadSide ?ga_BadSide ?gg_BadSide ?hd_BadSide ?xn_BadSide ?hc_BadSide ?k_BadPosition_BadSide ?k_BadPosition_FindsError ?a_Shape ?a_side_masks ?l_side_masks ?c_side_masks ?k_side_masks ?a_Shape_init ?i_Shape_init ?l_Shape_init ?c_Shape_init ?k_Shape_init ?a_Shape_has ?i_Shape_has ?l_Shape_has ?c_Shape_has ?k_Shape_has ?a_Shape_way ?i_Shape_way ?l_Shape_way ?c_Shape_way ?k_Shape_way ?a_Shape_climb ?i_Shape_climb ?l_Shape_climb ?c_Shape_climb ?k_Shape_climb ?a_Shape_parting ?i_Shape_parting ?l_Shape_parting ?c_Shape_parting ?k_Shape_parting ?a_Shape_distance ?i_Shape_distance ?l_Shape_distance ?c_Shape_distance ?k_Shape_distance ?a_check_position ?l_check_position ?c_check_position ?k_check_position ?a_check_side ?l_check_side ?c_check_side ?k_check_side ?a_is_number_of_side ?l_is_number_of_side ?c_is_number_of_side ?k_is_number_of_side ?a_l_tape ?l_l_tape ?c_l_tape ?k_l_tape ?a_l_next ?l_l_next ?c_l_next ?k_l_next ?a_l_parents ?l_l_parents ?c_l_parents ?k_l_parents ?a_l_above ?l_l_above ?c_l_above ?k_l_above ?a_l_parting ?l_l_parting ?c_l_parting ?k_l_parting ?a_l_is_number ?l_l_is_number ?c_l_is_number ?k_l_is_number ?a_l_ints ?l_l_ints ?c_l_ints ?k_l_ints ?a_l_far ?l_l_far ?c_l_far ?k_l_far ?a_l_bad_position ?l_l_bad_position ?c_l_bad_position ?k_l_bad_position ?a_l_is_way ?l_l_is_way ?c_l_is_way ?k_l_is_way ?a_l_pair_told ?l_l_pair_told ?c_l_pair_told ?k_l_pair_told ?a_l_way_refused ?l_l_way_refused ?c_l_way_refused ?k_l_way_refused ?a_l_parting_refused ?l_l_parting_refused ?c_l_parting_refused ?k_l_parting_refused ?a_l_distance_refused ?l_l_distance_refused ?c_l_distance_refused ?k_l_distance_refused ?a_l_all_refused ?l_l_all_refused ?c_l_all_refused ?k_l_all_refused ?a_law ?l_law ?c_law ?k_law ?pg_Shape ?hd_Shape ?po_Shape ?sa_Shape ?mk_Shape ?kc_Shape ?n_Shape_masks ?n_Shape_parents ?n_Shape_size
    (case z_abs => first | k_is | ks_is | rfl | kernel_rfl | decide +kernel)
    (case z_bool => first | k_is | ks_is | rfl | kernel_rfl | decide +kernel)
    (case z_enumerate => first | k_is | ks_is | rfl | kernel_rfl | decide +kernel)
    (case z_int => first | k_is | ks_is | rfl | kernel_rfl | decide +kernel)
    (case z_isinstance => first | k_is | ks_is | rfl | kernel_rfl | decide +kernel)
    (case z_len => first | k_is | ks_is | rfl | kernel_rfl | decide +kernel)
    (case z_list => first | k_is | ks_is | rfl | kernel_rfl | decide +kernel)
    (case z_max => first | k_is | ks_is | rfl | kernel_rfl | decide +kernel)
    (case z_min => first | k_is | ks_is | rfl | kernel_rfl | decide +kernel)
    (case z_range => first | k_is | ks_is | rfl | kernel_rfl | decide +kernel)
    (case z_tuple => first | k_is | ks_is | rfl | kernel_rfl | decide +kernel)
    (case z_super => first | k_is | ks_is | rfl | kernel_rfl | decide +kernel)
    (case top_ => first | k_is | ks_is | rfl | kernel_rfl | decide +kernel)
    (case thp => first | k_is | ks_is | rfl | kernel_rfl | decide +kernel)
    (case hn_ => first | k_is | ks_is | rfl | kernel_rfl | decide +kernel)
    (case ht_ => first | k_is | ks_is | rfl | kernel_rfl | decide +kernel)
    (case a_FindsError => first | k_is | ks_is | rfl | kernel_rfl | decide +kernel)
    (case a_BadShape => first | k_is | ks_is | rfl | kernel_rfl | decide +kernel)
    (case x_BadShape => first | k_is | ks_is | rfl | kernel_rfl | decide +kernel)
    (case sa_BadShape => first | k_is | ks_is | rfl | kernel_rfl | decide +kernel)
    (case eC_BadShape => first | k_is | ks_is | rfl | kernel_rfl | decide +kernel)
    (case sV_BadShape => first | k_is | ks_is | rfl | kernel_rfl | decide +kernel)
    (case tC_BadShape => first | k_is | ks_is | rfl | kernel_rfl | decide +kernel)
    (case kC_BadShape => first | k_is | ks_is | rfl | kernel_rfl | decide +kernel)
    (case i_BadShape => first | k_is | ks_is | rfl | kernel_rfl | decide +kernel)
    (case tI_BadShape => first | k_is | ks_is | rfl | kernel_rfl | decide +kernel)
    (case l_BadShape => first | k_is | ks_is | rfl | kernel_rfl | decide +kernel)
    (case c_BadShape => first | k_is | ks_is | rfl | kernel_rfl | decide +kernel)
    (case ce_BadShape => first | k_is | ks_is | rfl | kernel_rfl | decide +kernel)
    (case co_BadShape => first | k_is | ks_is | rfl | kernel_rfl | decide +kernel)
    (case v2_BadShape => first | k_is | ks_is | rfl | kernel_rfl | decide +kernel)
    (case fi_BadShape => first | k_is | ks_is | rfl | kernel_rfl | decide +kernel)
    (case su_BadShape => first | k_is | ks_is | rfl | kernel_rfl | decide +kernel)
    (case mo_BadShape => first | k_is | ks_is | rfl | kernel_rfl | decide +kernel)
    (case ks_BadShape => first | k_is | ks_is | rfl | kernel_rfl | decide +kernel)
    (case ga_BadShape => first | k_is | ks_is | rfl | kernel_rfl | decide +kernel)
    (case gg_BadShape => first | k_is | ks_is | rfl | kernel_rfl | decide +kernel)
    (case hd_BadShape => first | k_is | ks_is | rfl | kernel_rfl | decide +kernel)
    (case xn_BadShape => first | k_is | ks_is | rfl | kernel_rfl | decide +kernel)
    (case hc_BadShape => first | k_is | ks_is | rfl | kernel_rfl | decide +kernel)
    (case a_BadPosition => first | k_is | ks_is | rfl | kernel_rfl | decide +kernel)
    (case x_BadPosition => first | k_is | ks_is | rfl | kernel_rfl | decide +kernel)
    (case sa_BadPosition => first | k_is | ks_is | rfl | kernel_rfl | decide +kernel)
    (case eC_BadPosition => first | k_is | ks_is | rfl | kernel_rfl | decide +kernel)
    (case sV_BadPosition => first | k_is | ks_is | rfl | kernel_rfl | decide +kernel)
    (case tC_BadPosition => first | k_is | ks_is | rfl | kernel_rfl | decide +kernel)
    (case kC_BadPosition => first | k_is | ks_is | rfl | kernel_rfl | decide +kernel)
    (case i_BadPosition => first | k_is | ks_is | rfl | kernel_rfl | decide +kernel)
    (case tI_BadPosition => first | k_is | ks_is | rfl | kernel_rfl | decide +kernel)
    (case l_BadPosition => first | k_is | ks_is | rfl | kernel_rfl | decide +kernel)
    (case c_BadPosition => first | k_is | ks_is | rfl | kernel_rfl | decide +kernel)
    (case ce_BadPosition => first | k_is | ks_is | rfl | kernel_rfl | decide +kernel)
    (case co_BadPosition => first | k_is | ks_is | rfl | kernel_rfl | decide +kernel)
    (case v2_BadPosition => first | k_is | ks_is | rfl | kernel_rfl | decide +kernel)
    (case fi_BadPosition => first | k_is | ks_is | rfl | kernel_rfl | decide +kernel)
    (case su_BadPosition => first | k_is | ks_is | rfl | kernel_rfl | decide +kernel)
    (case mo_BadPosition => first | k_is | ks_is | rfl | kernel_rfl | decide +kernel)
    (case ks_BadPosition => first | k_is | ks_is | rfl | kernel_rfl | decide +kernel)
    (case ga_BadPosition => first | k_is | ks_is | rfl | kernel_rfl | decide +kernel)
    (case gg_BadPosition => first | k_is | ks_is | rfl | kernel_rfl | decide +kernel)
    (case hd_BadPosition => first | k_is | ks_is | rfl | kernel_rfl | decide +kernel)
    (case xn_BadPosition => first | k_is | ks_is | rfl | kernel_rfl | decide +kernel)
    (case hc_BadPosition => first | k_is | ks_is | rfl | kernel_rfl | decide +kernel)
    (case a_BadSide => first | k_is | ks_is | rfl | kernel_rfl | decide +kernel)
    (case x_BadSide => first | k_is | ks_is | rfl | kernel_rfl | decide +kernel)
    (case sa_BadSide => first | k_is | ks_is | rfl | kernel_rfl | decide +kernel)
    (case eC_BadSide => first | k_is | ks_is | rfl | kernel_rfl | decide +kernel)
    (case sV_BadSide => first | k_is | ks_is | rfl | kernel_rfl | decide +kernel)
    (case tC_BadSide => first | k_is | ks_is | rfl | kernel_rfl | decide +kernel)
    (case kC_BadSide => first | k_is | ks_is | rfl | kernel_rfl | decide +kernel)
    (case i_BadSide => first | k_is | ks_is | rfl | kernel_rfl | decide +kernel)
    (case tI_BadSide => first | k_is | ks_is | rfl | kernel_rfl | decide +kernel)
    (case l_BadSide => first | k_is | ks_is | rfl | kernel_rfl | decide +kernel)
    (case c_BadSide => first | k_is | ks_is | rfl | kernel_rfl | decide +kernel)
    (case ce_BadSide => first | k_is | ks_is | rfl | kernel_rfl | decide +kernel)
    (case co_BadSide => first | k_is | ks_is | rfl | kernel_rfl | decide +kernel)
    (case v2_BadSide => first | k_is | ks_is | rfl | kernel_rfl | decide +kernel)
    (case fi_BadSide => first | k_is | ks_is | rfl | kernel_rfl | decide +kernel)
    (case su_BadSide => first | k_is | ks_is | rfl | kernel_rfl | decide +kernel)
    (case mo_BadSide => first | k_is | ks_is | rfl | kernel_rfl | decide +kernel)
    (case ks_BadSide => first | k_is | ks_is | rfl | kernel_rfl | decide +kernel)
    (case ga_BadSide => first | k_is | ks_is | rfl | kernel_rfl | decide +kernel)
    (case gg_BadSide => first | k_is | ks_is | rfl | kernel_rfl | decide +kernel)
    (case hd_BadSide => first | k_is | ks_is | rfl | kernel_rfl | decide +kernel)
    (case xn_BadSide => first | k_is | ks_is | rfl | kernel_rfl | decide +kernel)
    (case hc_BadSide => first | k_is | ks_is | rfl | kernel_rfl | decide +kernel)
    (case k_BadPosition_BadSide => first | k_is | ks_is | rfl | kernel_rfl | decide +kernel)
    (case k_BadPosition_FindsError => first | k_is | ks_is | rfl | kernel_rfl | decide +kernel)
    (case a_Shape => first | k_is | ks_is | rfl | kernel_rfl | decide +kernel)
    (case a_side_masks => first | k_is | ks_is | rfl | kernel_rfl | decide +kernel)
    (case l_side_masks => first | k_is | ks_is | rfl | kernel_rfl | decide +kernel)
    (case c_side_masks => first | k_is | ks_is | rfl | kernel_rfl | decide +kernel)
    (case k_side_masks => first | k_is | ks_is | rfl | kernel_rfl | decide +kernel)
    (case a_Shape_init => first | k_is | ks_is | rfl | kernel_rfl | decide +kernel)
    (case i_Shape_init => first | k_is | ks_is | rfl | kernel_rfl | decide +kernel)
    (case l_Shape_init => first | k_is | ks_is | rfl | kernel_rfl | decide +kernel)
    (case c_Shape_init => first | k_is | ks_is | rfl | kernel_rfl | decide +kernel)
    (case k_Shape_init => first | k_is | ks_is | rfl | kernel_rfl | decide +kernel)
    (case a_Shape_has => first | k_is | ks_is | rfl | kernel_rfl | decide +kernel)
    (case i_Shape_has => first | k_is | ks_is | rfl | kernel_rfl | decide +kernel)
    (case l_Shape_has => first | k_is | ks_is | rfl | kernel_rfl | decide +kernel)
    (case c_Shape_has => first | k_is | ks_is | rfl | kernel_rfl | decide +kernel)
    (case k_Shape_has => first | k_is | ks_is | rfl | kernel_rfl | decide +kernel)
    (case a_Shape_way => first | k_is | ks_is | rfl | kernel_rfl | decide +kernel)
    (case i_Shape_way => first | k_is | ks_is | rfl | kernel_rfl | decide +kernel)
    (case l_Shape_way => first | k_is | ks_is | rfl | kernel_rfl | decide +kernel)
    (case c_Shape_way => first | k_is | ks_is | rfl | kernel_rfl | decide +kernel)
    (case k_Shape_way => first | k_is | ks_is | rfl | kernel_rfl | decide +kernel)
    (case a_Shape_climb => first | k_is | ks_is | rfl | kernel_rfl | decide +kernel)
    (case i_Shape_climb => first | k_is | ks_is | rfl | kernel_rfl | decide +kernel)
    (case l_Shape_climb => first | k_is | ks_is | rfl | kernel_rfl | decide +kernel)
    (case c_Shape_climb => first | k_is | ks_is | rfl | kernel_rfl | decide +kernel)
    (case k_Shape_climb => first | k_is | ks_is | rfl | kernel_rfl | decide +kernel)
    (case a_Shape_parting => first | k_is | ks_is | rfl | kernel_rfl | decide +kernel)
    (case i_Shape_parting => first | k_is | ks_is | rfl | kernel_rfl | decide +kernel)
    (case l_Shape_parting => first | k_is | ks_is | rfl | kernel_rfl | decide +kernel)
    (case c_Shape_parting => first | k_is | ks_is | rfl | kernel_rfl | decide +kernel)
    (case k_Shape_parting => first | k_is | ks_is | rfl | kernel_rfl | decide +kernel)
    (case a_Shape_distance => first | k_is | ks_is | rfl | kernel_rfl | decide +kernel)
    (case i_Shape_distance => first | k_is | ks_is | rfl | kernel_rfl | decide +kernel)
    (case l_Shape_distance => first | k_is | ks_is | rfl | kernel_rfl | decide +kernel)
    (case c_Shape_distance => first | k_is | ks_is | rfl | kernel_rfl | decide +kernel)
    (case k_Shape_distance => first | k_is | ks_is | rfl | kernel_rfl | decide +kernel)
    (case a_check_position => first | k_is | ks_is | rfl | kernel_rfl | decide +kernel)
    (case l_check_position => first | k_is | ks_is | rfl | kernel_rfl | decide +kernel)
    (case c_check_position => first | k_is | ks_is | rfl | kernel_rfl | decide +kernel)
    (case k_check_position => first | k_is | ks_is | rfl | kernel_rfl | decide +kernel)
    (case a_check_side => first | k_is | ks_is | rfl | kernel_rfl | decide +kernel)
    (case l_check_side => first | k_is | ks_is | rfl | kernel_rfl | decide +kernel)
    (case c_check_side => first | k_is | ks_is | rfl | kernel_rfl | decide +kernel)
    (case k_check_side => first | k_is | ks_is | rfl | kernel_rfl | decide +kernel)
    (case a_is_number_of_side => first | k_is | ks_is | rfl | kernel_rfl | decide +kernel)
    (case l_is_number_of_side => first | k_is | ks_is | rfl | kernel_rfl | decide +kernel)
    (case c_is_number_of_side => first | k_is | ks_is | rfl | kernel_rfl | decide +kernel)
    (case k_is_number_of_side => first | k_is | ks_is | rfl | kernel_rfl | decide +kernel)
    (case a_l_tape => first | k_is | ks_is | rfl | kernel_rfl | decide +kernel)
    (case l_l_tape => first | k_is | ks_is | rfl | kernel_rfl | decide +kernel)
    (case c_l_tape => first | k_is | ks_is | rfl | kernel_rfl | decide +kernel)
    (case k_l_tape => first | k_is | ks_is | rfl | kernel_rfl | decide +kernel)
    (case a_l_next => first | k_is | ks_is | rfl | kernel_rfl | decide +kernel)
    (case l_l_next => first | k_is | ks_is | rfl | kernel_rfl | decide +kernel)
    (case c_l_next => first | k_is | ks_is | rfl | kernel_rfl | decide +kernel)
    (case k_l_next => first | k_is | ks_is | rfl | kernel_rfl | decide +kernel)
    (case a_l_parents => first | k_is | ks_is | rfl | kernel_rfl | decide +kernel)
    (case l_l_parents => first | k_is | ks_is | rfl | kernel_rfl | decide +kernel)
    (case c_l_parents => first | k_is | ks_is | rfl | kernel_rfl | decide +kernel)
    (case k_l_parents => first | k_is | ks_is | rfl | kernel_rfl | decide +kernel)
    (case a_l_above => first | k_is | ks_is | rfl | kernel_rfl | decide +kernel)
    (case l_l_above => first | k_is | ks_is | rfl | kernel_rfl | decide +kernel)
    (case c_l_above => first | k_is | ks_is | rfl | kernel_rfl | decide +kernel)
    (case k_l_above => first | k_is | ks_is | rfl | kernel_rfl | decide +kernel)
    (case a_l_parting => first | k_is | ks_is | rfl | kernel_rfl | decide +kernel)
    (case l_l_parting => first | k_is | ks_is | rfl | kernel_rfl | decide +kernel)
    (case c_l_parting => first | k_is | ks_is | rfl | kernel_rfl | decide +kernel)
    (case k_l_parting => first | k_is | ks_is | rfl | kernel_rfl | decide +kernel)
    (case a_l_is_number => first | k_is | ks_is | rfl | kernel_rfl | decide +kernel)
    (case l_l_is_number => first | k_is | ks_is | rfl | kernel_rfl | decide +kernel)
    (case c_l_is_number => first | k_is | ks_is | rfl | kernel_rfl | decide +kernel)
    (case k_l_is_number => first | k_is | ks_is | rfl | kernel_rfl | decide +kernel)
    (case a_l_ints => first | k_is | ks_is | rfl | kernel_rfl | decide +kernel)
    (case l_l_ints => first | k_is | ks_is | rfl | kernel_rfl | decide +kernel)
    (case c_l_ints => first | k_is | ks_is | rfl | kernel_rfl | decide +kernel)
    (case k_l_ints => first | k_is | ks_is | rfl | kernel_rfl | decide +kernel)
    (case a_l_far => first | k_is | ks_is | rfl | kernel_rfl | decide +kernel)
    (case l_l_far => first | k_is | ks_is | rfl | kernel_rfl | decide +kernel)
    (case c_l_far => first | k_is | ks_is | rfl | kernel_rfl | decide +kernel)
    (case k_l_far => first | k_is | ks_is | rfl | kernel_rfl | decide +kernel)
    (case a_l_bad_position => first | k_is | ks_is | rfl | kernel_rfl | decide +kernel)
    (case l_l_bad_position => first | k_is | ks_is | rfl | kernel_rfl | decide +kernel)
    (case c_l_bad_position => first | k_is | ks_is | rfl | kernel_rfl | decide +kernel)
    (case k_l_bad_position => first | k_is | ks_is | rfl | kernel_rfl | decide +kernel)
    (case a_l_is_way => first | k_is | ks_is | rfl | kernel_rfl | decide +kernel)
    (case l_l_is_way => first | k_is | ks_is | rfl | kernel_rfl | decide +kernel)
    (case c_l_is_way => first | k_is | ks_is | rfl | kernel_rfl | decide +kernel)
    (case k_l_is_way => first | k_is | ks_is | rfl | kernel_rfl | decide +kernel)
    (case a_l_pair_told => first | k_is | ks_is | rfl | kernel_rfl | decide +kernel)
    (case l_l_pair_told => first | k_is | ks_is | rfl | kernel_rfl | decide +kernel)
    (case c_l_pair_told => first | k_is | ks_is | rfl | kernel_rfl | decide +kernel)
    (case k_l_pair_told => first | k_is | ks_is | rfl | kernel_rfl | decide +kernel)
    (case a_l_way_refused => first | k_is | ks_is | rfl | kernel_rfl | decide +kernel)
    (case l_l_way_refused => first | k_is | ks_is | rfl | kernel_rfl | decide +kernel)
    (case c_l_way_refused => first | k_is | ks_is | rfl | kernel_rfl | decide +kernel)
    (case k_l_way_refused => first | k_is | ks_is | rfl | kernel_rfl | decide +kernel)
    (case a_l_parting_refused => first | k_is | ks_is | rfl | kernel_rfl | decide +kernel)
    (case l_l_parting_refused => first | k_is | ks_is | rfl | kernel_rfl | decide +kernel)
    (case c_l_parting_refused => first | k_is | ks_is | rfl | kernel_rfl | decide +kernel)
    (case k_l_parting_refused => first | k_is | ks_is | rfl | kernel_rfl | decide +kernel)
    (case a_l_distance_refused => first | k_is | ks_is | rfl | kernel_rfl | decide +kernel)
    (case l_l_distance_refused => first | k_is | ks_is | rfl | kernel_rfl | decide +kernel)
    (case c_l_distance_refused => first | k_is | ks_is | rfl | kernel_rfl | decide +kernel)
    (case k_l_distance_refused => first | k_is | ks_is | rfl | kernel_rfl | decide +kernel)
    (case a_l_all_refused => first | k_is | ks_is | rfl | kernel_rfl | decide +kernel)
    (case l_l_all_refused => first | k_is | ks_is | rfl | kernel_rfl | decide +kernel)
    (case c_l_all_refused => first | k_is | ks_is | rfl | kernel_rfl | decide +kernel)
    (case k_l_all_refused => first | k_is | ks_is | rfl | kernel_rfl | decide +kernel)
    (case a_law => first | k_is | ks_is | rfl | kernel_rfl | decide +kernel)
    (case l_law => first | k_is | ks_is | rfl | kernel_rfl | decide +kernel)
    (case c_law => first | k_is | ks_is | rfl | kernel_rfl | decide +kernel)
    (case k_law => first | k_is | ks_is | rfl | kernel_rfl | decide +kernel)
    (case pg_Shape => first | k_is | ks_is | rfl | kernel_rfl | decide +kernel)
    (case hd_Shape => first | k_is | ks_is | rfl | kernel_rfl | decide +kernel)
    (case po_Shape => first | k_is | ks_is | rfl | kernel_rfl | decide +kernel)
    (case sa_Shape => first | k_is | ks_is | rfl | kernel_rfl | decide +kernel)
    (case mk_Shape => first | k_is | ks_is | rfl | kernel_rfl | decide +kernel)
    (case kc_Shape => first | k_is | ks_is | rfl | kernel_rfl | decide +kernel)
    (case n_Shape_masks => first | k_is | ks_is | rfl | kernel_rfl | decide +kernel)
    (case n_Shape_parents => first | k_is | ks_is | rfl | kernel_rfl | decide +kernel)
    (case n_Shape_size => first | k_is | ks_is | rfl | kernel_rfl | decide +kernel)
