import PyProof.Rows.All
import Wide.All
import OpenK.AllK
import Wide.FinOn
import KE.KStateDown
import KE.KExcIs
import KE.KExcInit
import HandS.ForMost
import HandS.ForExc
import HandS.ExcInit
import HandS.ExcValue
import HandS.Defaults
import HandS.MakeKw
import HandS.MakeKwOnly
import HandS.More
import HandS.Flow
import HandS.NoneIn
import HandS.Head2
import HandS.HeadEnd
import HandS.HeadHook4
import PySem.Challenge.RW_fetchwalks_k14_errors_made
import HandS.Head0
import HandS.Head1
set_option Elab.async false
set_option linter.all false
set_option maxRecDepth 100000
set_option maxHeartbeats 0
/-! FW, part A: defs that are called where no repr runs around -/
namespace FW
open PySem PySem.Spec PyProof.Rows L2
/-- as FnOk, for calls with no guard around -/
structure FnG (P : Program) (w : World) (K : PySem.W.Frag) (mg : Str → Option Value) (base : Heap) (CX : CXT) (k : Nat) (f : Addr) (fd : FuncData)
    (ps : List Str) (sp : Sp) : Prop where
  len : ∀ vs H Q E, sp vs H Q E → vs.length = ps.length
  run : ∀ (A : Around) (outer : List Env) (s : Shared) (H : Hp) (args : Args) (us : List Value) (vs : List V) (Q : VK) (E : XK),
    A.guards = some [] → Room k A → Env0 P w K mg base A outer s H → BindsTo s fd args (ps.zip us) → Vals vs us → sp vs H Q E →
    codeAny (model P w) A (.call (.ref f) args) (CR CX outer P w H s Q E) s
section
variable {P : Program} {w : World} {K : PySem.W.Frag} {mg : Str → Option Value} {base : Heap} {CX : CXT} {k j : Nat} {f : Addr} {fd : FuncData} {ps : List Str} {sp sp' : Sp}
theorem FnG.of (F : FnOk P w K mg base CX k f fd ps sp) : FnG P w K mg base CX k f fd ps sp :=
  ⟨F.len, fun A outer s H args us vs Q E _ => F.run A outer s H args us vs Q E⟩
theorem FnG.mono (F : FnG P w K mg base CX j f fd ps sp) (h : j ≤ k) : FnG P w K mg base CX k f fd ps sp :=
  ⟨F.len, fun A outer s H args us vs Q E hg hr => F.run A outer s H args us vs Q E hg (hr.mono h)⟩
theorem FnG.imp (F : FnG P w K mg base CX k f fd ps sp) (h : ∀ vs H Q E, sp' vs H Q E → sp vs H Q E) : FnG P w K mg base CX k f fd ps sp' :=
  ⟨fun vs H Q E q => F.len vs H Q E (h _ _ _ _ q), fun A outer s H args us vs Q E hg hr he hb hv hs => F.run A outer s H args us vs Q E hg hr he hb hv (h _ _ _ _ hs)⟩
end
/-- the rule for a def's body -/
theorem fnG_of {CX : CXT} {P : Program} {w : World} {K : PySem.W.Frag} {mg : Str → Option Value} {base : Heap} {k : Nat} {f : Addr} {name qual : Str}
    {params : Arguments} {body : List Stmt} {scope : Scope} {dV kV doc pm cdv ct oc : Value} {an od : Option Addr} {osl : Array (Option Value)}
    {N ps : List Str} {sp : Sp}
    (lk : K.lookup f = some ⟨oc, od, .func (PySem.W.fnOf name qual params body scope dV kV doc pm an cdv ct), osl⟩)
    (hcd : PySem.W.codeIn K cdv qual = true) (S : FnScope N ps scope) (len : ∀ vs H Q E, sp vs H Q E → vs.length = ps.length)
    (hbody : ∀ (A : Around) (outer : List Env) (s : Shared) (H : Hp) (vs : List V) (Q : VK) (E : XK), A.guards = some [] →
      Room k (A.deeper (envOfC qual scope s.heap.objs.size f cdv)) → sp vs H Q E →
      ∃ t, PSs (cxOf CX P w K mg base N qual scope f cdv A outer s H E) body t ∧ t { nx := fun _ H' => Q .non H', rt := Q } (start N vs) H) :
    FnG P w K mg base CX (k + 1) f (PySem.W.fnOf name qual params body scope dV kV doc pm an cdv ct) ps sp := by
  constructor
  · exact len
  intro A outer s H args us vs Q E hg hr e0 hb r hsp
  have hl := len _ _ _ _ hsp
  have inS : ∀ b o, base.get? b = some o → s.heap.get? b = some o := fun b o e => (e0.bs b o e).1
  have KX : K.In s.heap := e0.mod.kin.keeps inS
  have lim : s.heap.NoLimit := e0.mod.nolimit.keeps inS
  have hkind : ∀ y ∈ ps.zip us, scope.names.lookup y.1 = some .local ∨
      (scope.names.lookup y.1 = some .cell ∧ ((cellsFrom (s.heap.objs.size + 1) scope.names []).lookup y.1).isSome = true) := by
    rintro ⟨n, v⟩ hy
    refine (S.par n (List.of_mem_zip hy).1).imp id fun q => ⟨q, ?_⟩
    exact PySem.W.cellsFrom_some _ _ _ (.inl q)
  refine codeAny_call_function hr.depth (KX _ _ lk) rfl S.co S.gen rfl (PySem.W.codeRec_of KX hcd) (hb _ _ _ _ ?_)
  refine wpAny_newFunctionEnv_cells S.kind hkind ?_
  intro env he s1 x
  subst he
  refine ⟨lim.keeps x.toInCall.keep, codeAny_func ?_⟩
  obtain ⟨t, ht, hq⟩ := hbody A outer s H vs Q E hg (hr.deeper _) hsp
  have I0 := inv_start (CX := CX) (E := E) S hr.hd e0 hl r x
  refine wpAny_mono (ht.run [] s1 (start N vs) H _ I0 hq) ?_ fun e s' hs => hs
  intro fl s' hs
  cases fl with
  | ret u =>
    obtain ⟨v, σ', H', J, rv, q⟩ := hs
    exact ⟨v, H', J.os, J.bare, J.base, J.hok, rv, q⟩
  | next =>
    obtain ⟨σ', H', J, q⟩ := hs
    exact ⟨.non, H', J.os, J.bare, J.base, J.hok, rfl, q⟩
  | brk => exact hs.elim fun _ z => z.elim fun _ z => False.elim z.2
  | cont => exact hs.elim fun _ z => z.elim fun _ z => False.elim z.2
section
variable {P : Program} {w : World} {K : PySem.W.Frag} {mg : Str → Option Value} {base : Heap} {x qual : Str} {params : Arguments} {body : List Stmt} {scope : Scope}
  {dvs : List V} {kws : List (Str × V)} {f : Addr} {fd : FuncData}
/-- .. of a def as the head's facts have it -/
theorem FunG {CX : CXT} {N ps : List Str} {k : Nat} {sp : Sp} (F : FunD K x qual params body scope dvs kws f fd) (S : FnScope N ps scope)
    (len : ∀ vs H Q E, sp vs H Q E → vs.length = ps.length)
    (hbody : ∀ (cdv : Value) (A : Around) (outer : List Env) (s : Shared) (H : Hp) (vs : List V) (Q : VK) (E : XK), A.guards = some [] →
      Room k (A.deeper (envOfC qual scope s.heap.objs.size f cdv)) → sp vs H Q E →
      ∃ t, PSs (cxOf CX P w K mg base N qual scope f cdv A outer s H E) body t ∧ t { nx := fun _ H' => Q .non H', rt := Q } (start N vs) H) :
    FnG P w K mg base CX (k + 1) f fd ps sp := by
  obtain ⟨oc, od, dV, kV, doc, pm, an, cdv, ct, osl, rfl, lk, hcd, _, _⟩ := F.ex
  exact fnG_of lk hcd S len fun A outer s H vs Q E hg hr hsp => hbody cdv A outer s H vs Q E hg hr hsp
end
/-! ### calls -/
section
variable {X : Cx} {CX : CXT} {k : Nat} {f C : Addr} {fd : FuncData} {ps ks : List Str} {sp : Sp} {dvs : List V} {ds : List Value} {E : XK} {x m : Str}
  {p pos apos : Pos} {e o : Expr} {es : List Expr} {kws : List Keyword} {ta : TE} {t tk : TA} {g : List Value → List Value → List Value} {gV : List V → List V → List V}
theorem run_g {pins : List (Addr × Obj)} {σ : L2.St} {H : Hp} {s : Shared} {Q : VK} {us : List Value} {vs : List V} {args : Args}
    (F : FnG X.prog X.w X.K X.mg X.base CX k f fd ps sp) (hg : X.A.guards = some []) (hr : Room k X.A) (hb : BindsTo s fd args (ps.zip us)) (hx : Passes CX X E)
    (I : Inv X pins σ H s) (r : Vals vs us) (h : sp vs H Q E) : codeAny (model X.prog X.w) X.A (.call (.ref f) args)
      (fun r s' => match r with | .ok (.ret u) => EP X pins σ Q u s' | .ok _ => False | .error e => X.xe e s') s := by
  refine codeAny_mono (F.run X.A X.stack s H args us vs Q E hg hr I.env0 hb r h) ?_
  intro r s' hq
  cases r with
  | error e => exact hx pins σ H s e s' I hq
  | ok fl =>
    cases fl with
    | ret u => exact I.after hq
    | next => exact hq
    | brk => exact hq
    | cont => exact hq
theorem run_gp {pins : List (Addr × Obj)} {σ : L2.St} {H : Hp} {s : Shared} {Q : VK} {us : List Value} {vs : List V} (F : FnG X.prog X.w X.K X.mg X.base CX k f fd ps sp)
    (hg : X.A.guards = some []) (hr : Room k X.A) (hb : Binds X.K fd ps ds) (hd : Vals dvs ds) (hx : Passes CX X E) (I : Inv X pins σ H s) (r : Vals vs us)
    (h : sp (vs ++ dvs) H Q E) : wpAny (model X.prog X.w) X.A (call (.ref f) us) (EP X pins σ Q) X.xe s := by
  have r2 : Vals (vs ++ dvs) (us ++ ds) := r.append hd
  have hl : (us ++ ds).length = ps.length := r2.length.symm.trans (F.len _ _ _ _ h)
  refine wpAny_call (codeAny_mono (run_g F hg hr (hb s us I.kIn hl) hx I r2 h) ?_)
  intro r s' hq
  rcases r with _ | (_ | _ | _ | _) <;> first | exact hq | exact hq.elim
/-- f(e, ..) -/
theorem pg_call (F : FnG X.prog X.w X.K X.mg X.base CX k f fd ps sp) (ga : X.A.guards = some []) (hr : Room k X.A) (hg : Gl X x) (hm : X.mg x = some (.ref f))
    (hk : PySem.W.keepIn X.K (.ref f) = true) (hb : Binds X.K fd ps ds) (hd : Vals dvs ds) (hx : Passes CX X E) (ha : PA X (e :: es) t)
    (hdb : (x == ("__debug__" : Str)) = false := by decide) (he : starEach (e :: es) X.env = (false, eval e X.env) :: starEach es X.env := by rfl)
    (hpl : (backTo pos (starEach es X.env)).any (·.1) = false := by rfl) : PE X (.Call (.Name x p) (e :: es) [] pos) (tCall sp dvs E t) := by
  constructor
  intro pins s σ H Q I h
  refine wpAny_Call_Name_kw (ld_glob I hg hm ?_ hdb)
  refine PySem.W.callWith_K (h₀ := X.base) I.ok.mod.kin hk (thn (ha.run pos pins s σ H _ I h) ?_) he hpl
  rintro us s1 ⟨vs, H1, I1, r, q⟩
  exact ⟨I1.kIn, run_gp F ga hr hb hd hx I1 r q⟩
theorem pg_call0 (F : FnG X.prog X.w X.K X.mg X.base CX k f fd ps sp) (ga : X.A.guards = some []) (hr : Room k X.A) (hg : Gl X x) (hm : X.mg x = some (.ref f))
    (hk : PySem.W.keepIn X.K (.ref f) = true) (hb : Binds X.K fd ps ds) (hd : Vals dvs ds) (hx : Passes CX X E) (hdb : (x == ("__debug__" : Str)) = false := by decide) :
    PE X (.Call (.Name x p) [] [] pos) (tCall sp dvs E tNil) := by
  constructor
  intro pins s σ H Q I h
  refine wpAny_Call_Name_kw (ld_glob I hg hm ?_ hdb)
  exact PySem.W.callWith_K0 I.kIn hk (run_gp (us := []) F ga hr hb hd hx I .nil h)
end
end FW

/-! FW, part B: exceptions of the program as values -/
namespace FW
open PySem PySem.Spec PyProof.Rows
section
open PySem.W PySem.HandSPX
variable {prog : Program} {w : World} {A : Around} {E : Value → Shared → Prop} {R : Result → Shared → Prop} {h : Heap} {g : Array GenState} {d : Drawn} {t : Nat} {os : OsState}
variable {nm q : Str} {C N : Addr} {bs bm bmB : List Value} {hdct : Bool} {sn : List Str} {sub : List Value} {ab : Bool} {col : Option Bool} {dd : Option Addr}
  {k0 k1 k2 k3 k5 : Option Value} {B newId initId : String} {kw : List (Str × Value)}
theorem kcheck_new (F : ExcBaseFacts B newId initId bmB) (hT : ∀ X : String, bm.contains (.type X) = bmB.contains (.type X)) {M : Model} {rest : List Value} {Q : Unit → Shared → Prop}
    (hC : h.get? C = some (excClassObj nm q C N bs bm hdct sn sub ab col dd k0 k1 k2 k3 k5 newId)) (hq : Q () ⟨h, g, d, t, os⟩) :
    wpAny M A (checkBuiltinCall newId ⟨.ref C :: rest, kw⟩) Q E ⟨h, g, d, t, os⟩ := by
  have below : (Value.ref C :: bm).contains (.type B) = true := by rw [List.contains_cons, hT, F.hasB, Bool.or_true]
  have nostar := F.noStar
  simp only [checkBuiltinCall, F.newKind, F.newSplit, F.newRow]
  repeat (first
    | refine wpAny_loadPart_at hC ?_
    | (refine wpAny_isSubtype_exc hC ?_; rw [below])
    | refine wpAny_staticBase_exc hC ?_
    | refine wpAny_madeBy_exc hC ?_
    | simp only [bne_self_eq_false, Bool.false_eq_true, if_false]
    | wp_step)
  exact hq
theorem knew_own (F : ExcBaseFacts B newId initId bmB) (hT : ∀ X : String, bm.contains (.type X) = bmB.contains (.type X)) {rest : List Value}
    (hC : h.get? C = some (excClassObj nm q C N bs bm hdct sn sub ab col dd k0 k1 k2 k3 k5 newId))
    (hq : R (.ok (.ret (.ref (h.objs.size + 1)))) ⟨(h.push (kdv_tup rest)).push (excO C h.objs.size), g, d, t, os⟩) (hrest : rest.length ≤ sizeLine) :
    codeAny (model prog w) A (.builtin newId ⟨.ref C :: rest, kw⟩) R ⟨h, g, d, t, os⟩ := by
  have hends := F.ends
  have cB : (Value.ref C :: bm).contains (.type B) = true := by rw [List.contains_cons, hT, F.hasB, Bool.or_true]
  have cA : (Value.ref C :: bm).contains (.type "AttributeError") = false := by rw [List.contains_cons, hT, F.noAttr]; rfl
  have cN : (Value.ref C :: bm).contains (.type "NameError") = false := by rw [List.contains_cons, hT, F.noName]; rfl
  refine codeAny_builtinAt F.entry ?_
  unfold Builtin.«BaseException.__new__»
  refine PySem.wpAt_bind ?_
  show PySem.wpAt _ _ _ (stack >>= _) _ _ _
  refine PySem.wpAt_bind (PySem.wpAt_stack fun p below => PySem.wpAt_of_wpAny ?_)
  wp_walk
  refine PySem.wpAt_of_wpAny ?_
  rw [F.owner]
  repeat (first
    | with_reducible refine wpAny_madeHere_exc F.canon hC ?_
    | with_reducible refine wpAny_loadPart_at hC ?_
    | (with_reducible refine wpAny_isSubtype_exc hC ?_; first | rw [cB] | rw [cA] | rw [cN])
    | wp_step)
  show R _ _
  rw [Heap.size_push]
  exact hq
theorem ktype_call (F : ExcBaseFacts B newId initId bmB) (hT : ∀ X : String, bm.contains (.type X) = bmB.contains (.type X)) {rest : List Value} {fI : Addr} {Q : Fin → Shared → Prop}
    (hC : h.get? C = some (excClassObj nm q C N bs bm hdct sn sub ab col dd k0 k1 k2 k3 k5 newId))
    (hi : W.Looks (model prog w) h (typeLookup (.ref C) "__init__") (some (.ref fI))) (hb : ∀ self, W.Looks (model prog w) h (bindSpecial (.ref fI) self) (.ref fI, [self]))
    (hrest : rest.length ≤ sizeLine)
    (hq : codeAny (model prog w) A (.call (.ref fI) ⟨.ref (h.objs.size + 1) :: rest, kw⟩)
      (fun r s' => match r with | .ok (.ret v) => v = .none ∧ Q (.done (.ret (.ref (h.objs.size + 1)))) s' | .ok _ => False | .error e => E e s')
      ⟨(h.push (kdv_tup rest)).push (excO C h.objs.size), g, d, t, os⟩) :
    wpAny (model prog w) A (Builtin.«type.__call__» ⟨.ref C :: rest, kw⟩) Q E ⟨h, g, d, t, os⟩ := by
  repeat (first | with_reducible refine wpAny_loadPart_at hC ?_ | with_reducible refine wpAny_madeBy_exc hC ?_ | wp_step)
  refine codeAny_call_builtin_code (Code.quiet_builtin _ F.quiet) (kcheck_new F hT hC ?_)
  refine knew_own F hT hC ?_ hrest
  show wpAny _ _ _ _ _ _
  have kk : ∀ b o, h.get? b = some o → ((h.push (kdv_tup rest)).push (excO C h.objs.size)).get? b = some o := fun b o e =>
    Heap.get?_push_of_some _ (Heap.get?_push_of_some _ e)
  have hC₁ := kk _ _ hC
  have hget : ((h.push (kdv_tup rest)).push (excO C h.objs.size)).get? (h.objs.size + 1) = some (excO C h.objs.size) := by heap_get
  have self : (Value.ref C :: bm).contains (.ref C) = true := by simp
  have i1 := hi.keeps kk
  have b1 := (hb (.ref (h.objs.size + 1))).keeps kk
  unfold isInstance
  repeat (first
    | with_reducible refine wpAny_loadPart_at hget ?_
    | (with_reducible refine wpAny_isSubtype_exc hC₁ ?_; rw [self])
    | wp_step)
  show wpAny _ _ (typeLookup (.ref C) _) _ _ _
  refine i1.at ?_
  refine wpAny_holding (wpAny_bind (b1.at ?_))
  refine wpAny_bind (wpAny_call (codeAny_mono hq ?_))
  intro r s' z
  rcases r with e | (v | _ | _ | _) <;> first | exact z | exact z.elim | skip
  obtain ⟨rfl, z⟩ := z
  first
    | exact wpAny_pure (wpAny_pure z)
    | (wp_walk; exact z)
/-- C(.., k = v, ..), C an exception class of the program with an __init__ of its own -/
theorem kcall_own (F : ExcBaseFacts B newId initId bmB) (hT : ∀ X : String, bm.contains (.type X) = bmB.contains (.type X)) {rest : List Value} {fI : Addr}
    (hC : h.get? C = some (excClassObj nm q C N bs bm hdct sn sub ab col dd k0 k1 k2 k3 k5 newId))
    (hi : W.Looks (model prog w) h (typeLookup (.ref C) "__init__") (some (.ref fI))) (hb : ∀ self, W.Looks (model prog w) h (bindSpecial (.ref fI) self) (.ref fI, [self]))
    (hrest : rest.length ≤ sizeLine)
    (hq : codeAny (model prog w) (A.under (.builtin "type.__call__" ⟨.ref C :: rest, kw⟩)) (.call (.ref fI) ⟨.ref (h.objs.size + 1) :: rest, kw⟩) (W.InitBack (h.objs.size + 1) R)
      ⟨(h.push (kdv_tup rest)).push (excO C h.objs.size), g, d, t, os⟩) :
    codeAny (model prog w) A (.call (.ref C) ⟨rest, kw⟩) R ⟨h, g, d, t, os⟩ := by
  have f1 := tc_lookup
  have f2 := tc_bind (.ref C)
  have hTy : (⟨h, g, d, t, os⟩ : Shared).TypeIs (.ref C) "type" := ⟨_, hC, rfl⟩
  refine codeAny_of_tree ?_
  show wpAny _ _ (callAny (.ref C) _) _ _ _
  repeat (any_goals (first | assumption | with_reducible refine wpAny_loadPart_at hC ?_ | wp_step))
  refine ⟨rfl, ?_⟩
  have typ : W.Looks (model prog w) h (isInstance (.ref C) (.type "type")) true :=
    ((W.Looks.ld (part := none) hC).andThen .now : W.Looks (model prog w) h (typeOf (.ref C)) (.type "type")).andThen (W.Looks.of_pure tc_sub)
  refine codeAny_call_builtin_at (Code.quiet_builtin _ (by decide +kernel)) entry_typeCall (W.check_slot tc_kind tc_split typ (W.tc_args _ _ _) ?_)
  refine ktype_call F hT hC hi hb hrest (codeAny_mono hq ?_)
  intro r s' z
  rcases r with e | (v | _ | _ | _) <;> exact z
end
/-! ### stores into such an exception -/
section
open PySem.W Builtin Builtin.ObjectAttr
variable {prog : Program} {w : World} {A : Around} {E : Value → Shared → Prop} {s : Shared} {K : Frag} {C x t1 : Addr} {B : String} {bmB : List Value} {f : Str} {v : Value} {Q : Unit → Shared → Prop}
/-- x.f = v, the first one: the dict is made -/
theorem xset_new (SF : StoreFacts B bmB "object.__setattr__" "object") (X : K.In s.heap) (hx : s.heap.get? x = some (excObj C t1 none .none))
    (hs : findIn K (.ref C) "__setattr__" = some (some (.builtin "object.__setattr__"))) (hp : excOver K C bmB = true) (ht : takerIn K C f = some none) (hh : hasDictIn K C = true)
    (h : ∀ h' tk dx, (∀ b o, b ≠ x → s.heap.get? b = some o → h'.get? b = some o) → s.heap.objs.size ≤ dx → dx ≠ x → h'.get? x = some (excObj C t1 (some dx) .none) →
      h'.Ns1 dx (fun y => if y = f then some v else none) → Q () { s with heap := h', toks := tk }) :
    wpAny (model prog w) A (setAttr (.ref x) f v) Q E s := by
  obtain ⟨hp', g, d, tk, os⟩ := s
  have hxs : x ≠ hp'.objs.size := Nat.ne_of_lt (Heap.lt_size hx)
  refine set_plain (od := none) X ⟨hx, rfl, rfl, trivial⟩ hs (osa_openX (r := none) (od := none) SF X ⟨hx, rfl, rfl, trivial⟩ hp ht fun b => ?_)
  obtain ⟨cd, hc, hd'⟩ := any_some hh
  refine wpAny_bind (wpAny_pure (wpAny_bind (instanceDict_exc hx (looks_clsIn X hc) hd' ?_)))
  show wpAny _ _ (storeInDict hp'.objs.size (.str f tk) f v) _ _ _
  refine PySem.HandSPX.store_in_new ?_ ?_
  · exact ⟨_, #[], _, (Heap.get?_update_ne _ _ _ _ hxs.symm).trans (Heap.get?_push_at rfl rfl), rfl, fun e he => absurd he (by simp), fun _ => rfl⟩
  · intro h' tk' hn' hs'
    have hx1 : (hp'.push (dictOf [] 0)).get? x = some (excObj C t1 none .none) := Heap.get?_push_of_some _ hx
    refine h h' tk' hp'.objs.size ?_ (Nat.le_refl _) hxs.symm ?_ hn'
    · intro b o hb ho
      exact (hs'.2 b (Nat.ne_of_lt (Heap.lt_size ho))).trans ((Heap.get?_update_ne _ _ _ _ hb).trans (Heap.get?_push_of_some _ ho))
    · exact (hs'.2 x hxs).trans (Heap.get?_update_self _ hx1 rfl)
/-- a later one -/
theorem xset_old {dx : Addr} {m0 : Str → Option Value} {nl : List Str} (SF : StoreFacts B bmB "object.__setattr__" "object") (X : K.In s.heap)
    (hx : s.heap.get? x = some (excObj C t1 (some dx) .none)) (hns : s.heap.Ns1 dx m0) (hw : Within m0 nl) (hz : nl.length ≤ 1000)
    (hs : findIn K (.ref C) "__setattr__" = some (some (.builtin "object.__setattr__"))) (hp : excOver K C bmB = true) (ht : takerIn K C f = some none) (hh : hasDictIn K C = true)
    (h : ∀ h' tk, (∀ b o, b ≠ dx → s.heap.get? b = some o → h'.get? b = some o) → h'.Ns1 dx (fun y => if y = f then some v else m0 y) → Q () { s with heap := h', toks := tk }) :
    wpAny (model prog w) A (setAttr (.ref x) f v) Q E s := by
  obtain ⟨hp', g, d, tk, os⟩ := s
  obtain ⟨oD, _, _, hoD, _, _⟩ := hns.count hw
  refine set_plain (od := some oD) X ⟨hx, rfl, rfl, hoD⟩ hs (osa_openX (r := none) (od := some oD) SF X ⟨hx, rfl, rfl, hoD⟩ hp ht fun b => ?_)
  obtain ⟨cd, hc, hd'⟩ := any_some hh
  refine wpAny_bind (wpAny_pure (wpAny_bind (wpAny_bind (wpAny_loadPart hx (wpAny_bind ((looks_clsIn X hc).at ?_))))))
  rw [hd']
  refine wpAny_pure (a := some dx) ?_
  refine PySem.OEX.store_in_old hns hw hz ?_
  intro h' tk' hn' hs'
  exact h h' tk' (fun b o hb ho => (hs'.2 b hb).trans ho) hn'
end
end FW

/-! FW, part C: exceptions of the program as values, over the layer -/
namespace FW
open PySem PySem.Spec PyProof.Rows L2
/-- what the written part says of an exception class -/
structure XC (K : PySem.W.Frag) (C : Addr) : Prop where
  base : ∃ B newId initId bmB, ExcBaseFacts B newId initId bmB ∧ StoreFacts B bmB "object.__setattr__" "object" ∧
    PySem.W.excInitIn K C bmB newId = true ∧ PySem.W.excOver K C bmB = true
  sa : PySem.W.findIn K (.ref C) "__setattr__" = some (some (.builtin "object.__setattr__"))
  hd : PySem.W.hasDictIn K C = true
  kC : PySem.W.keepIn K (.ref C) = true
  ga : PySem.W.findIn K (.ref C) "__getattribute__" = some (some (.builtin "BaseException.__getattribute__"))
  gg : PySem.W.findIn K (.ref C) "__getattr__" = some none
  exC : PySem.W.subIn K (.ref C) (.type "BaseException") = some true
  ca : PySem.W.findIn K (.ref C) "__class__" = some (some (.builtin "object.__class__"))
  cg : PySem.W.specialIn K (.builtin "object.__class__") "__get__" = some (some (.builtin "getset_descriptor.__get__"))
  ct : PySem.W.takesIn K (.builtin "object.__class__") = some true
  mo : PySem.W.mroIn K C (.type "object") = some true
  cl : (PySem.W.clsIn K C).isSome = true
section
variable {X : Cx} {pins : List (Addr × Obj)} {σ : L2.St} {H : Hp} {s : Shared} {a C dx : Addr} {f : Str} {y : V} {u : Value} {fs : List (Str × V)} {Q : Unit → Shared → Prop}
  {E : Value → Shared → Prop} {A : Around}
theorem xst_new (T : XC X.K C) (I : L2.Inv X pins σ H s) (e : H a = some (exo a C none)) (hno : NoAttr X.K C f) (ry : RelV y u)
    (h : ∀ dx s', H dx = none → dx ≠ a → L2.Inv X pins σ (upd (upd H dx (exd dx [(f, y)])) a (exo a C (some dx))) s' → Q () s') :
    wpAny (model X.prog X.w) A (setAttr (.ref a) f u) Q E s := by
  obtain ⟨B, newId, initId, bmB, _, SF, _, ov⟩ := T.base
  obtain ⟨t1, ho⟩ := exo_at I.hok e
  refine xset_new SF I.kIn ho T.sa ov hno.taker T.hd ?_
  obtain ⟨hp, g, d, t, os⟩ := s
  intro h' tk' dx k dn dne hx hn
  have hnd : H dx = none := I.hok.fresh dn
  have nd : ∀ {b : Addr} {o : Obj}, hp.get? b = some o → b ≠ dx := fun {b o} q => Nat.ne_of_lt (Nat.lt_of_lt_of_le (Heap.lt_size q) dn)
  have na : ∀ {b : Addr}, H b = none → b ≠ a := by
    intro b n z
    rw [z, e] at n
    cases n
  have un : Un X.fs [] H (upd (upd H dx (exd dx [(f, y)])) a (exo a C (some dx))) hp h' := by
    refine ⟨fun b o q n _ _ => k b o (na n) q, fun b o q n _ _ => ⟨o.slots, k b o (na n) q⟩, fun b o q n _ => ?_, fun b o q _ => ?_, fun b xs q => ?_, fun b o v q => ?_, fun b ps q => ⟨#[], ?_⟩⟩
    · rw [upd_ne (na n), upd_ne (nd q)]; exact n
    · by_cases hb : b = a
      · exact ⟨_, hb ▸ hx⟩
      · exact ⟨o, k b o hb q⟩
    · rw [upd_ne (at_ne e q exo_tup), upd_ne (ne_of_none q hnd)]; exact q
    · rw [upd_ne (at_ne e q exo_frz), upd_ne (ne_of_none q hnd)]; exact q
    · rw [upd_ne (at_ne e q exo_tbl), upd_ne (ne_of_none q hnd), q]; simp
  refine h dx _ hnd dne (I.un (t' := tk') un fun b o q => ?_)
  by_cases hb : b = a
  · subst hb
    rw [upd_same] at q
    cases q
    exact exo_ok hx
  rw [upd_ne hb] at q
  by_cases hd : b = dx
  · subst hd
    rw [upd_same] at q
    cases q
    exact exd_ok hn (relO_put (fs := []) ry fun g => True.intro)
  rw [upd_ne hd] at q
  refine (I.hok b o q).stay (fun c v hc z => k c v ?_ z) (fun c hc => ?_) (fun c xs hc => ?_)
  · rcases hc with hc | hc
    · exact hc ▸ hb
    · exact at_ne e hc exo_own
  · rw [upd_ne (at_ne e hc exo_own), upd_ne (ne_of_none hc hnd)]; exact hc
  · rw [upd_ne (at_ne e hc exo_tup), upd_ne (ne_of_none hc hnd)]; exact hc
theorem xst_old (T : XC X.K C) (I : L2.Inv X pins σ H s) (e : H a = some (exo a C (some dx))) (ed : H dx = some (exd dx fs)) (hl : fs.length ≤ 900) (hno : NoAttr X.K C f) (ry : RelV y u)
    (h : ∀ s', L2.Inv X pins σ (upd H dx (exd dx ((f, y) :: fs))) s' → Q () s') : wpAny (model X.prog X.w) A (setAttr (.ref a) f u) Q E s := by
  obtain ⟨B, newId, initId, bmB, _, SF, _, ov⟩ := T.base
  obtain ⟨t1, ho⟩ := exo_at I.hok e
  obtain ⟨mA, hns, rel⟩ := exd_at I.hok ed
  refine xset_old SF I.kIn ho hns (within_of rel) (by rw [List.length_map]; omega) T.sa ov hno.taker T.hd ?_
  obtain ⟨hp, g, d, t, os⟩ := s
  intro h' tk' k hn
  have hd : ∃ o, h'.get? dx = some o := hn.elim fun o z => z.elim fun _ z => z.elim fun _ z => ⟨o, z.1⟩
  exact h _ (I.write (t' := tk') (x := dx) (e := dx) (o := exd dx ((f, y) :: fs)) (by rw [ed]; exact True.intro) (.inl rfl) k hd (exd_ok hn (relO_put ry rel)))
end
/-- self.f = e, self an exception that is being made -/
def tXst (K : PySem.W.Frag) (f : Str) (to te : TE) : TS := fun D σ H => te σ H fun y H1 => to σ H1 fun x H2 => ∃ a C : Addr, x = .ref a ∧ XC K C ∧ NoAttr K C f ∧
  ((H2 a = some (exo a C none) ∧ ∀ dx, H2 dx = none → dx ≠ a → D.nx σ (upd (upd H2 dx (exd dx [(f, y)])) a (exo a C (some dx)))) ∨
    ∃ (dx : Addr) (fs : List (Str × V)), H2 a = some (exo a C (some dx)) ∧ H2 dx = some (exd dx fs) ∧ fs.length ≤ 900 ∧ D.nx σ (upd H2 dx (exd dx ((f, y) :: fs))))
/-- e.f of such an exception -/
def tXfld (K : PySem.W.Frag) (te : TE) (f : Str) : TE := fun σ H Q => te σ H fun x H1 => ∃ (a C dx : Addr) (fs : List (Str × V)) (v : V), x = .ref a ∧ XC K C ∧ NoAttr K C f ∧
  H1 a = some (exo a C (some dx)) ∧ H1 dx = some (exd dx fs) ∧ fs.lookup f = some v ∧ Q v H1
/-- C(..) -/
def tXmk (C : Addr) (sp : Sp) (t : TA) : TE := fun σ H Q => t σ H fun vs H1 => vs.length ≤ 1000 ∧ ∀ a, H1 a = none →
  sp (.ref a :: vs) (upd H1 a (exo a C none)) (fun v H2 => v = .non ∧ Q (.ref a) H2) E0
/-- C(k = v, ..) -/
def tXmkK (C : Addr) (sp : Sp) (n m : Nat) (gV : List V → List V → List V) (t tk : TA) : TE := fun σ H Q => t σ H fun vs H1 => tk σ H1 fun zs H2 => vs.length = n ∧ zs.length = m ∧ n ≤ 1000 ∧ ∀ a, H2 a = none →
  sp (gV (.ref a :: vs) zs) (upd H2 a (exo a C none)) (fun v H3 => v = .non ∧ Q (.ref a) H3) E0
section
variable {X : Cx} {o e : Expr} {es : List Expr} {to te : TE} {ta t tk : TA} {f x : Str} {p p' pos : Pos} {k n : Nat} {fI C : Addr} {fd : FuncData} {ps ks : List Str} {sp : Sp} {CX : CXT}
  {kws : List Keyword} {g : List Value → List Value → List Value} {gV : List V → List V → List V}
theorem ps_xst (ho : PE X o to) (he : PE X e te) (hs : swapsWith e (some (.Attribute o f p')) pos.line X.env = pure false := by rfl) :
    PS X (.Assign [.Attribute o f p'] e pos) (tXst X.K f to te) := by
  constructor
  intro pins s σ H D I h
  refine plainObj_wpAny_Assign_Attribute (thn (he.run pins s σ H _ I h) ?_) hs
  rintro v s1 ⟨y, H1, I1, r1, q1⟩
  refine thn (ho.run pins s1 σ H1 _ I1 q1) ?_
  rintro u s2 ⟨x, H2, I2, r2, a, C, ex, T, hno, q⟩
  subst ex
  obtain rfl : u = Value.ref a := r2
  rcases q with ⟨ea, q⟩ | ⟨dx, fs, ea, ed, hl, q⟩
  · exact xst_new T I2 ea hno r1 fun dx s' n ne J => ⟨σ, _, J, q dx n ne⟩
  · exact xst_old T I2 ea ed hl hno r1 fun s' J => ⟨σ, _, J, q⟩
theorem pe_xfld (he : PE X e te) (hb : attributeBase e f X.env (eval e X.env) = eval e X.env := by rfl) : PE X (.Attribute e f pos) (tXfld X.K te f) := by
  constructor
  intro pins s σ H Q I h
  refine attr_of hb (thn (he.run pins s σ H _ I h) ?_)
  rintro u s1 ⟨x, H1, I1, rx, a, C, dx, fs, v, ex, T, hno, ea, ed, hl, q⟩
  subst ex
  obtain rfl : u = Value.ref a := rx
  obtain ⟨t1, ho⟩ := exo_at I1.hok ea
  obtain ⟨mA, hns, rel⟩ := exd_at I1.hok ed
  obtain ⟨od, hod, hlk⟩ := lookIn_ns hns
  obtain ⟨w, hw, rw'⟩ := RelO.some_of (v := v) (o := mA f) (by rw [← hl]; exact rel f)
  have J : PySem.W.InstAt s1.heap a (PySem.W.excObj C t1 (some dx) .none) C (some od) := ⟨ho, rfl, rfl, hod⟩
  exact HandSPX.exc_get I1.kIn J T.ga T.gg T.exC (PySem.W.findObj_own T.hd hno rfl (by rw [hlk, hw])) (handed_of rw') ⟨v, H1, I1.tok _, rw', q⟩
theorem run_xmk {pins : List (Addr × Obj)} {σ : L2.St} {H : Hp} {s : Shared} {Q : VK} {us ws : List Value} {vs zs : List V} {kw : List (Str × Value)} (T : XC X.K C)
    (iC : PySem.W.findIn X.K (.ref C) "__init__" = some (some (.ref fI))) (tI : PySem.W.typeIn X.K (.ref fI) = some (.type "function"))
    (F : FnG X.prog X.w X.K X.mg X.base CX0 k fI fd ps sp) (ga : X.A.guards = some []) (hr : Room (k + 1) X.A) (hb : ∀ s a, X.K.In s.heap → BindsTo s fd ⟨.ref a :: us, kw⟩ (ps.zip (g (.ref a :: us) ws)))
    (rel : ∀ a, Vals (gV (.ref a :: vs) zs) (g (.ref a :: us) ws)) (I : L2.Inv X pins σ H s) (hz : us.length ≤ 1000)
    (h : ∀ a, H a = none → sp (gV (.ref a :: vs) zs) (upd H a (exo a C none)) (fun v H2 => v = .non ∧ Q (.ref a) H2) E0) :
    wpAny (model X.prog X.w) X.A (call (.ref C) us kw) (EP X pins σ Q) X.xe s := by
  obtain ⟨B, newId, initId, bmB, FB, SF, ini, ov⟩ := T.base
  obtain ⟨nm, N', qn, bs, bm, hdct, sn, sub, ab, col, dd, k0, k1, k2, k3, k5, hC, hT⟩ := PySem.W.excInit_of I.kIn ini
  obtain ⟨hp, gs, dr, tk, os⟩ := s
  have hsz : hp.objs.size ≤ hp.objs.size + 1 := Nat.le_succ _
  have hn : H (hp.objs.size + 1) = none := I.hok.fresh hsz
  have hq := h (hp.objs.size + 1) hn
  have kk : ∀ b o, hp.get? b = some o → ((hp.push (PySem.W.kdv_tup us)).push (PySem.HandSPX.excO C hp.objs.size)).get? b = some o := fun b o e =>
    Heap.get?_push_of_some _ (Heap.get?_push_of_some _ e)
  have hget : ((hp.push (PySem.W.kdv_tup us)).push (PySem.HandSPX.excO C hp.objs.size)).get? (hp.objs.size + 1) = some (PySem.HandSPX.excO C hp.objs.size) := by heap_get
  have I2 : L2.Inv X pins σ (upd H (hp.objs.size + 1) (exo (hp.objs.size + 1) C none)) ⟨(hp.push (PySem.W.kdv_tup us)).push (PySem.HandSPX.excO C hp.objs.size), gs, dr, tk, os⟩ :=
    I.laid (t' := tk) (a := hp.objs.size + 1) (o := exo (hp.objs.size + 1) C none) (h' := (hp.push (PySem.W.kdv_tup us)).push (PySem.HandSPX.excO C hp.objs.size)) kk hsz (exo_ok hget)
  refine wpAny_call (kcall_own FB hT hC (PySem.W.looks_findIn I.kIn iC) (fun self => PySem.W.bind_fn I.kIn self tI) (by rw [sizeLine_eq]; omega)
    (codeAny_mono (F.run _ X.stack _ _ _ _ _ _ _ (by exact ga) (hr.make C us kw) (I2.env0.make C us kw) (hb _ _ I2.kIn) (rel _) hq) ?_))
  intro r s' hq'
  rcases r with er | fl
  · exact False.elim hq'
  cases fl with
  | ret u =>
    obtain ⟨v, H', I3, rv, ev, q3⟩ := I2.after hq'
    subst ev
    exact ⟨rv, .ref (hp.objs.size + 1), H', I3, rfl, q3⟩
  | next => exact False.elim hq'
  | brk => exact False.elim hq'
  | cont => exact False.elim hq'
/-- C(e, ..) -/
theorem pg_xmk (T : XC X.K C) (iC : PySem.W.findIn X.K (.ref C) "__init__" = some (some (.ref fI))) (tI : PySem.W.typeIn X.K (.ref fI) = some (.type "function"))
    (F : FnG X.prog X.w X.K X.mg X.base CX0 k fI fd ps sp) (ga : X.A.guards = some []) (hr : Room (k + 1) X.A) (hb : L2.Binds X.K fd ps []) (hg : Gl X x) (hm : X.mg x = some (.ref C))
    (ha : PA X (e :: es) ta) (hdb : (x == ("__debug__" : Str)) = false := by decide) (he : starEach (e :: es) X.env = (false, eval e X.env) :: starEach es X.env := by rfl)
    (hpl : (backTo pos (starEach es X.env)).any (·.1) = false := by rfl) : PE X (.Call (.Name x p) (e :: es) [] pos) (tXmk C sp ta) := by
  constructor
  intro pins s σ H Q I h
  refine wpAny_Call_Name_kw (ld_glob I hg hm ?_ hdb)
  refine PySem.W.callWith_K (h₀ := X.base) I.ok.mod.kin T.kC (thn (ha.run pos pins s σ H _ I h) ?_) he hpl
  rintro us s1 ⟨vs, H1, I1, r, hz, q⟩
  have hl : (us.length + 1) = ps.length := by
    have z := F.len _ _ _ _ (q _ (I1.hok.fresh (Nat.le_refl _)))
    rw [← z, List.length_cons, r.length]
  refine ⟨I1.kIn, run_xmk (kw := []) (g := fun us _ => us) (gV := fun vs _ => vs) (ws := []) (zs := []) T iC tI F ga hr (fun s' a KI => ?_) (fun a => .cons rfl r) I1 (by rw [List.nil_append, ← r.length]; exact hz) q⟩
  have z := hb s' (.ref a :: us) KI (by rw [List.append_nil, List.length_cons]; exact hl)
  rw [List.append_nil] at z
  exact z
/-- C() -/
theorem pg_xmk0 (T : XC X.K C) (iC : PySem.W.findIn X.K (.ref C) "__init__" = some (some (.ref fI))) (tI : PySem.W.typeIn X.K (.ref fI) = some (.type "function"))
    (F : FnG X.prog X.w X.K X.mg X.base CX0 k fI fd ps sp) (ga : X.A.guards = some []) (hr : Room (k + 1) X.A) (hb : L2.Binds X.K fd ps []) (hg : Gl X x) (hm : X.mg x = some (.ref C))
    (hdb : (x == ("__debug__" : Str)) = false := by decide) : PE X (.Call (.Name x p) [] [] pos) (tXmk C sp tNil) := by
  constructor
  intro pins s σ H Q I h
  refine wpAny_Call_Name_kw (ld_glob I hg hm ?_ hdb)
  obtain ⟨hz, q⟩ := h
  have hl : 1 = ps.length := F.len _ _ _ _ (q _ (I.hok.fresh (Nat.le_refl _)))
  refine PySem.W.callWith_K0 I.kIn T.kC (run_xmk (kw := []) (us := []) (vs := []) (g := fun us _ => us) (gV := fun vs _ => vs) (ws := []) (zs := []) T iC tI F ga hr (fun s' a KI => ?_) (fun a => .cons rfl .nil) I (Nat.zero_le _) q)
  have z := hb s' [.ref a] KI (by rw [List.append_nil]; exact hl)
  rw [List.append_nil] at z
  exact z
/-- C(k = v, ..) -/
theorem pg_xmkK (T : XC X.K C) (iC : PySem.W.findIn X.K (.ref C) "__init__" = some (some (.ref fI))) (tI : PySem.W.typeIn X.K (.ref fI) = some (.type "function"))
    (F : FnG X.prog X.w X.K X.mg X.base CX0 k fI fd ps sp) (ga : X.A.guards = some []) (hr : Room (k + 1) X.A) (hb : KBn X.K fd ps 1 ks g gV) (hg : Gl X x) (hm : X.mg x = some (.ref C))
    (hkw : PK X kws tk) (hall : (backToKw pos (keywordEach kws X.env)).all (·.1.isSome) = true := by rfl) (hks : (backToKw pos (keywordEach kws X.env)).filterMap (·.1) = ks := by rfl)
    (hdb : (x == ("__debug__" : Str)) = false := by decide) (hpl : ((backTo pos (starEach [] X.env)).any (·.1) || (backToKw pos (keywordEach kws X.env)).any (·.1.isNone)) = false := by rfl) :
    PE X (.Call (.Name x p) [] kws pos) (tXmkK C sp 0 ks.length gV tNil tk) := by
  constructor
  intro pins s σ H Q I h
  refine wpAny_Call_Name_kw (ld_glob I hg hm ?_ hdb)
  refine PySem.W.callWith_KW0 (h₀ := X.base) I.ok.mod.kin T.kC hall ?_ hpl
  refine thn (hkw.run pos pins s σ H _ I h) ?_
  rintro ws s2 ⟨zs, H2, I2, rz, l1, l2, _, q2⟩
  refine ⟨I2.kIn, ?_⟩
  rw [hks]
  exact run_xmk (us := []) (vs := []) T iC tI F ga hr (fun s' a KI => hb.to s' [.ref a] ws KI rfl (rz.length.symm.trans l2)) (fun a => hb.rel (.cons rfl .nil) rz) I2 (Nat.zero_le _) q2
end
/-! ### isinstance -/
/-- isinstance(e, c), e such an exception, c a class -/
@[irreducible] def rIsx (K : PySem.W.Frag) : List V → Hp → VK → Prop := fun xs H Q => ∃ (a C : Addr) (d : Option Addr) (c : V) (cv : Value) (b : Bool), xs = [.ref a, c] ∧ XC K C ∧ H a = some (exo a C d) ∧
    (∀ u, RelV c u → u = cv) ∧ (∀ dx, d = some dx → ∃ fs, H dx = some (exd dx fs)) ∧ PySem.W.kitOne K (.ref C) cv = some b ∧ Q (.bl b) H
theorem call_isx {X : Cx} : CallR X (.builtin "isinstance") (rIsx X.K) := by
  intro pins s σ H xs us Q I r h
  unfold rIsx at h
  obtain ⟨a, C, d, c, cv, b, rfl, T, ea, rc, hd, kt, q⟩ := h
  obtain ⟨u, w', rfl, ru, rw'⟩ := vals2 r
  obtain rfl : u = Value.ref a := ru
  obtain rfl := rc _ rw'
  obtain ⟨t1, ho⟩ := exo_at I.hok ea
  cases d with
  | none =>
    have J : PySem.W.InstAt s.heap a (PySem.W.excObj C t1 none .none) C none := ⟨ho, rfl, rfl, trivial⟩
    exact PySem.W.kia_one (PySem.W.kitx_exc T.cl T.ga T.gg T.exC T.ca T.cg T.ct T.mo) I.kIn J kt (fun z => nomatch z) fun tk => ⟨.bl b, H, I.tok _, rfl, q⟩
  | some dx =>
    obtain ⟨fs, ed⟩ := hd dx rfl
    obtain ⟨mA, hns, rel⟩ := exd_at I.hok ed
    obtain ⟨od, hod, hlk⟩ := lookIn_ns hns
    have J : PySem.W.InstAt s.heap a (PySem.W.excObj C t1 (some dx) .none) C (some od) := ⟨ho, rfl, rfl, hod⟩
    exact PySem.W.kia_one (PySem.W.kitx_exc T.cl T.ga T.gg T.exC T.ca T.cg T.ct T.mo) I.kIn J kt (fun z => nomatch z) fun tk => ⟨.bl b, H, I.tok _, rfl, q⟩
end FW

/-! FW, part D: the head's facts; what is shown by repr -/
namespace FW
open PySem PySem.Spec PyProof.Rows L2
/-! ### the Hook -/
abbrev AlF : Type := He.AlD × Bool
def obsF (as : List Addr) (fa : List He.Fa) (fn : List He.DefD) (ex : PySem.W.Frag → Bool) (g : Addr → Option Obj) : AlF :=
  (He.obsD fa fn (He.frG g as), ex (He.frG g as))
def SaysF (fa : List He.Fa) (fn : List He.DefD) (ex : PySem.W.Frag → Bool) (K : PySem.W.Frag) : Prop := He.SaysD fa fn K ∧ ex K = true
def hookF (as : List Addr) (fa : List He.Fa) (fn : List He.DefD) (ex : PySem.W.Frag → Bool) : PySem.W.Hook where
  α := AlF
  obs := fun s => obsF as fa fn ex s.heap.get?
  val := fun _ => (He.valD fn, true)
  says := fun _ h => ∃ K : PySem.W.Frag, K.In h ∧ SaysF fa fn ex K
  of := fun _ _ e => ⟨_, He.frG_in, congrArg (fun z : AlF => z.1) e, congrArg (fun z : AlF => z.2) e⟩
  keeps := fun _ _ _ ⟨K, hK, c⟩ k => ⟨K, PySem.W.Frag.In.keeps hK k, c⟩
theorem obsF_eq {as : List Addr} {fa : List He.Fa} {fn : List He.DefD} {ex : PySem.W.Frag → Bool} {g : Addr → Option Obj} {s : Shared} (h : ∀ a, g a = s.heap.get? a) :
    obsF as fa fn ex g = (hookF as fa fn ex).obs s := by
  have e : g = s.heap.get? := funext h
  rw [e] <;> rfl
def smB (K : PySem.W.Frag) : Bool := (K.lookup sysModules).isSome
theorem sm_none {X : Cx} {pins : List (Addr × Obj)} {σ : L2.St} {H : Hp} {s : Shared} (I : L2.Inv X pins σ H s) (h : smB X.K = true) : H sysModules = none := by
  obtain ⟨o, e⟩ := Option.isSome_iff_exists.mp h
  exact (I.bs sysModules o (I.ok.mod.kin _ _ e)).2
/-! ### data by the abstract heap -/
def keyD : Key → PyData
  | .inl i => .int i
  | .inr x => .str x
mutual
inductive Sh (H : Hp) : V → PyData → Prop
  | non : Sh H .non .none
  | bl (b : Bool) : Sh H (.bl b) (.bool b)
  | int (i : Int) : Sh H (.int i) (.int i)
  | str (x : Str) : Sh H (.str x) (.str x)
  | lst {a : Addr} {xs : List V} {ds : List PyData} : H a = some (.lst xs) → ShAll H xs ds → Sh H (.ref a) (.list ds)
  | tup {a : Addr} {xs : List V} {ds : List PyData} : H a = some (.tup xs) → ShAll H xs ds → Sh H (.ref a) (.tuple ds)
  | dic {a : Addr} {kvs : List (Key × V)} {ds : List PyData} : H a = some (.dK kvs) → ShAll H (kvs.map (·.2)) ds → Sh H (.ref a) (.dict ((kvs.map fun p => keyD p.1).zip ds))
inductive ShAll (H : Hp) : List V → List PyData → Prop
  | nil : ShAll H [] []
  | cons {v : V} {vs : List V} {d : PyData} {ds : List PyData} : Sh H v d → ShAll H vs ds → ShAll H (v :: vs) (d :: ds)
end
theorem ShAll.length {H : Hp} : ∀ {vs : List V} {ds : List PyData}, ShAll H vs ds → vs.length = ds.length
  | _, _, .nil => rfl
  | _, _, .cons _ t => congrArg Nat.succ t.length
mutual
theorem Sh.same {H H' : Hp} (s : Same H H') : ∀ {v : V} {d : PyData}, Sh H v d → Sh H' v d
  | _, _, .non => .non
  | _, _, .bl b => .bl b
  | _, _, .int i => .int i
  | _, _, .str x => .str x
  | _, _, .lst h t => .lst (s _ _ h) (t.same s)
  | _, _, .tup h t => .tup (s _ _ h) (t.same s)
  | _, _, .dic h t => .dic (s _ _ h) (t.same s)
theorem ShAll.same {H H' : Hp} (s : Same H H') : ∀ {vs : List V} {ds : List PyData}, ShAll H vs ds → ShAll H' vs ds
  | _, _, .nil => .nil
  | _, _, .cons h t => .cons (h.same s) (t.same s)
end
theorem ShAll.take {H : Hp} : ∀ {vs : List V} {ds : List PyData} (n : Nat), ShAll H vs ds → ShAll H (vs.take n) (ds.take n)
  | _, _, 0, _ => .nil
  | _, _, _ + 1, .nil => .nil
  | _, _, n + 1, .cons h t => .cons h (t.take n)
section
variable {X : Cx} {pins : List (Addr × Obj)} {σ : L2.St} {H : Hp} {s : Shared}
def Trk (H : Hp) (as : List Addr) : Prop := ∀ a ∈ as, ∃ o, H a = some o
theorem Trk.app {as bs : List Addr} (h1 : Trk H as) (h2 : Trk H bs) : Trk H (as ++ bs) := fun a ha => (List.mem_append.mp ha).elim (h1 a) (h2 a)
theorem trk_nil : Trk H [] := fun _ h => nomatch h
theorem keys_read {h : Heap} : ∀ {ks : List Key} {us : List Value}, Paired (fun k v => keyIs k v = true) ks us → ReadsAll h us (ks.map keyD) []
  | _, _, .nil => .nil
  | _, _, .cons r t => by
    rcases keyIs_shape r with ⟨i, u, rfl, rfl⟩ | ⟨x, u, rfl, rfl⟩
    · exact .cons (as := []) (.int i u) (keys_read t)
    · exact .cons (as := []) (.str x u) (keys_read t)
theorem pairs_split {P : Program} {w : World} {es : List DictEntry} {vs : List (Key × Value)} (hp : Pairs (mixKind P w) es vs) : ∀ {kvs : List (Key × V)}, KV kvs vs →
    Paired (fun k v => keyIs k v = true) (kvs.map (·.1)) (es.map (·.key)) ∧ Vals (kvs.map (·.2)) (es.map (·.val)) := by
  induction hp with
  | nil =>
    intro kvs hk
    cases hk
    exact ⟨.nil, .nil⟩
  | @cons e kv es vs h1 h2 h3 ih =>
    intro kvs hk
    cases hk with
    | @cons p _ l _ r t =>
      obtain ⟨a, b⟩ := ih t
      obtain ⟨r1, r2⟩ := r
      refine ⟨.cons ?_ a, .cons ?_ b⟩
      · show keyIs p.1 e.key = true
        rw [r1]; exact h1
      · show RelV p.2 e.val
        rw [h2]; exact r2
mutual
theorem Sh.reads (I : L2.Inv X pins σ H s) : ∀ {v : V} {d : PyData}, Sh H v d → ∀ u, RelV v u → ∃ as, Reads s.heap u d as ∧ Trk H as
  | _, _, .non, u, r => by cases r; exact ⟨_, .none, trk_nil⟩
  | _, _, .bl b, u, r => by cases r; exact ⟨_, .bool b, trk_nil⟩
  | _, _, .int i, u, r => by obtain ⟨t, rfl⟩ := r; exact ⟨_, .int i t, trk_nil⟩
  | _, _, .str x, u, r => by obtain ⟨t, rfl⟩ := r; exact ⟨_, .str x t, trk_nil⟩
  | _, _, .lst h t, u, r => by
    cases r
    obtain ⟨_, its, n, rv, ho⟩ := I.hok _ _ h
    obtain ⟨as, hr, ht⟩ := t.reads I its rv
    refine ⟨_, .list ho rfl rfl hr, fun a ha => ?_⟩
    rcases List.mem_cons.mp ha with e | ha
    · exact ⟨_, e ▸ h⟩
    · exact ht a ha
  | _, _, .tup h t, u, r => by
    cases r
    obtain ⟨_, its, rv, o, ho, hc, n, hd⟩ := I.hok _ _ h
    obtain ⟨as, hr, ht⟩ := t.reads I its rv
    exact ⟨_, .tuple ho hc hd hr, ht⟩
  | _, _, .dic h t, u, r => by
    cases r
    obtain ⟨_, _, vs, rel, o, es, ep, ho, hx, hd, _, hp, _⟩ := I.hok _ _ h
    obtain ⟨p1, p2⟩ := pairs_split hp rel
    obtain ⟨as, hr, ht⟩ := t.reads I _ p2
    have hl := t.length
    rw [List.length_map] at hl
    refine ⟨_, .dict (as := []) (bs := as) ho hx.1 hd ?_ ?_, fun a ha => ?_⟩
    · rw [List.map_fst_zip (by rw [List.length_map, hl]; exact Nat.le_refl _)]
      have z := keys_read (h := s.heap) p1
      rw [List.map_map] at z
      exact z
    · rw [List.map_snd_zip (by rw [List.length_map, hl]; exact Nat.le_refl _)]
      exact hr
    · rcases List.mem_cons.mp ha with e | ha
      · exact ⟨_, e ▸ h⟩
      · exact ht a (by simpa using ha)
theorem ShAll.reads (I : L2.Inv X pins σ H s) : ∀ {vs : List V} {ds : List PyData}, ShAll H vs ds → ∀ us, Vals vs us → ∃ as, ReadsAll s.heap us ds as ∧ Trk H as
  | _, _, .nil, _, r => by cases r; exact ⟨_, .nil, trk_nil⟩
  | _, _, .cons h t, _, r => by
    cases r with
    | cons r1 r2 =>
      obtain ⟨as, a1, a2⟩ := h.reads I _ r1
      obtain ⟨bs, b1, b2⟩ := t.reads I _ r2
      exact ⟨_, .cons a1 b1, a2.app b2⟩
end
end
/-- repr of a list or tuple or dict of such data -/
theorem call_repr {X : Cx} {k : Nat} (ga : X.A.guards = some []) (hr : Room k X.A) (sm : smB X.K = true) : CallR X (.builtin "repr") (fun xs H Q => ∃ a d, xs = [.ref a] ∧ Sh H (.ref a) d ∧ d.showable = true ∧ d.depth ≤ 60 ∧
    d.shown.length ≤ sizeLine ∧ Q (.str d.shown) H) := by
  intro pins s σ H xs us Q I r h
  obtain ⟨a, d, rfl, hs, h1, h2, h3, q⟩ := h
  obtain ⟨u, rfl, ru⟩ := vals1 r
  obtain rfl : u = Value.ref a := ru
  obtain ⟨as, hr', ht⟩ := hs.reads I _ rfl
  have un := hr.units
  refine repr_of_reads' hr' h1 (fun _ hm => ?_) ga (by omega) (fun _ _ e => e) ?_ h3
  · obtain ⟨o, e⟩ := ht _ hm
    rw [sm_none I sm] at e
    cases e
  · intro h' u tk k
    exact ⟨.str d.shown, H, I.kept (t' := tk) k, ⟨_, rfl⟩, q⟩
end FW

/-! FW, part E: defs and exception classes as bundles -/
namespace FW
open PySem PySem.Spec PyProof.Rows L2
/-- a def of the module, called by its parameters alone -/
structure Def1 (P : Program) (w : World) (K : PySem.W.Frag) (mg : Str → Option Value) (base : Heap) (x : Str) (k : Nat) (ps : List Str) (sp : Sp) : Prop where
  ex : ∃ f fd, FnG P w K mg base CX0 k f fd ps sp ∧ mg x = some (.ref f) ∧ PySem.W.keepIn K (.ref f) = true ∧ L2.Binds K fd ps []
section
variable {X : Cx} {x : Str} {k : Nat} {ps : List Str} {sp : Sp} {p pos : Pos} {e : Expr} {es : List Expr} {t : TA}
theorem pg_c (D : Def1 X.prog X.w X.K X.mg X.base x k ps sp) (ga : X.A.guards = some []) (hr : Room k X.A) (hg : Gl X x) (ha : PA X (e :: es) t)
    (hdb : (x == ("__debug__" : Str)) = false := by decide) (he : starEach (e :: es) X.env = (false, eval e X.env) :: starEach es X.env := by rfl)
    (hpl : (backTo pos (starEach es X.env)).any (·.1) = false := by rfl) : PE X (.Call (.Name x p) (e :: es) [] pos) (tCall sp [] E0 t) := by
  obtain ⟨f, fd, F, hm, hk, hb⟩ := D.ex
  exact pg_call F ga hr hg hm hk hb .nil pass0 ha hdb he hpl
theorem pg_c0 (D : Def1 X.prog X.w X.K X.mg X.base x k ps sp) (ga : X.A.guards = some []) (hr : Room k X.A) (hg : Gl X x)
    (hdb : (x == ("__debug__" : Str)) = false := by decide) : PE X (.Call (.Name x p) [] [] pos) (tCall sp [] E0 tNil) := by
  obtain ⟨f, fd, F, hm, hk, hb⟩ := D.ex
  exact pg_call0 F ga hr hg hm hk hb .nil pass0 hdb
end
/-! ### the __init__ of an exception class -/
/-- what __init__ promises: the object at a gets its dict -/
def spInit (C : Addr) (fs : List Str) : Sp := fun vs H Q _ => ∃ (a : Addr) (ws : List V), vs = .ref a :: ws ∧ ws.length = fs.length ∧ H a = some (exo a C none) ∧
  (fs = [] → Q .non H) ∧ (fs ≠ [] → ∀ (d : Addr) (H' : Hp), H d = none → H' a = some (exo a C (some d)) → H' d = some (exd d (fs.zip ws).reverse) → (∀ b, b ≠ a → b ≠ d → H' b = H b) → Q .non H')
section
variable {P : Program} {w : World} {K : PySem.W.Frag} {mg : Str → Option Value} {base : Heap} {qual : Str} {params : Arguments} {scope : Scope} {C fI : Addr} {fd : FuncData}
theorem vis_of {N ps : List Str} {sc : Scope} (S : FnScope N ps sc) {x : Str} (h : x ∈ ps) : Vis sc x := (S.par x h).imp id .inl
theorem ok_init0 {p1 : Pos} (F : FunD K "__init__" qual params [.Pass p1] scope [] [] fI fd) (S : FnScope ["self"] ["self"] scope) : FnG P w K mg base CX0 1 fI fd ["self"] (spInit C []) := by
  refine FunG F S (fun vs H Q E h => ?_) (fun cdv A outer s H vs Q E ga hr h => ?_)
  · obtain ⟨a, ws, rfl, hl, _⟩ := h
    cases ws with
    | nil => rfl
    | cons _ _ => cases hl
  · obtain ⟨a, ws, rfl, hl, ea, q, _⟩ := h
    exact ⟨_, pss_one ps_pass, q rfl⟩
def Fine (f : Str) : Prop := (f == ("__debug__" : Str)) = false ∧ (f == ("__classdict__" : Str)) = false
theorem fine_self : Fine "self" := ⟨by decide, by decide⟩
theorem ok_init1 {f : Str} {q1 q2 q3 q4 : Pos} (F : FunD K "__init__" qual params [.Assign [.Attribute (.Name "self" q1) f q2] (.Name f q3) q4] scope [] [] fI fd) (S : FnScope ["self", f] ["self", f] scope)
    (T : XC K C) (n1 : NoAttr K C f) (f1 : Fine f) : FnG P w K mg base CX0 1 fI fd ["self", f] (spInit C [f]) := by
  refine FunG F S (fun vs H Q E h => ?_) (fun cdv A outer s H vs Q E ga hr h => ?_)
  · obtain ⟨a, ws, rfl, hl, _⟩ := h
    exact congrArg Nat.succ hl
  · obtain ⟨a, ws, rfl, hl, ea, _, q⟩ := h
    match ws, hl with
    | [w1], _ =>
      refine ⟨_, pss_one (ps_xst (pe_var (i := 0) rfl (vis_of S (by simp)) fine_self.1 fine_self.2) (pe_var (i := 1) rfl (vis_of S (by simp)) f1.1 f1.2)), ?_⟩
      refine ⟨_, rfl, _, rfl, a, C, rfl, T, n1, .inl ⟨ea, fun d hd hda => ?_⟩⟩
      exact q (fun z => nomatch z) d _ hd upd_same (by rw [upd_ne hda, upd_same]; rfl) (fun b h1 h2 => by rw [upd_ne h1, upd_ne h2])
theorem ok_init2 {f g : Str} {q1 q2 q3 q4 r1 r2 r3 r4 : Pos} (F : FunD K "__init__" qual params [.Assign [.Attribute (.Name "self" q1) f q2] (.Name f q3) q4, .Assign [.Attribute (.Name "self" r1) g r2] (.Name g r3) r4] scope [] [] fI fd)
    (S : FnScope ["self", f, g] ["self", f, g] scope) (T : XC K C) (n1 : NoAttr K C f) (n2 : NoAttr K C g) (f1 : Fine f) (f2 : Fine g) : FnG P w K mg base CX0 1 fI fd ["self", f, g] (spInit C [f, g]) := by
  refine FunG F S (fun vs H Q E h => ?_) (fun cdv A outer s H vs Q E ga hr h => ?_)
  · obtain ⟨a, ws, rfl, hl, _⟩ := h
    exact congrArg Nat.succ hl
  · obtain ⟨a, ws, rfl, hl, ea, _, q⟩ := h
    match ws, hl with
    | [w1, w2], _ =>
      refine ⟨_, pss_cons (ps_xst (pe_var (i := 0) rfl (vis_of S (by simp)) fine_self.1 fine_self.2) (pe_var (i := 1) rfl (vis_of S (by simp)) f1.1 f1.2))
        (pss_one (ps_xst (pe_var (i := 0) rfl (vis_of S (by simp)) fine_self.1 fine_self.2) (pe_var (i := 2) rfl (vis_of S (by simp)) f2.1 f2.2))), ?_⟩
      refine ⟨_, rfl, _, rfl, a, C, rfl, T, n1, .inl ⟨ea, fun d hd hda => ?_⟩⟩
      refine ⟨_, rfl, _, rfl, a, C, rfl, T, n2, .inr ⟨d, _, upd_same, by rw [upd_ne hda, upd_same], (by show 1 ≤ 900; decide), ?_⟩⟩
      exact q (fun z => nomatch z) d _ hd (by rw [upd_ne hda.symm, upd_same]) upd_same (fun b h1 h2 => by rw [upd_ne h2, upd_ne h1, upd_ne h2])
theorem ok_init3 {f g h : Str} {q1 q2 q3 q4 r1 r2 r3 r4 s1 s2 s3 s4 : Pos} (F : FunD K "__init__" qual params [.Assign [.Attribute (.Name "self" q1) f q2] (.Name f q3) q4, .Assign [.Attribute (.Name "self" r1) g r2] (.Name g r3) r4,
      .Assign [.Attribute (.Name "self" s1) h s2] (.Name h s3) s4] scope [] [] fI fd)
    (S : FnScope ["self", f, g, h] ["self", f, g, h] scope) (T : XC K C) (n1 : NoAttr K C f) (n2 : NoAttr K C g) (n3 : NoAttr K C h) (f1 : Fine f) (f2 : Fine g) (f3 : Fine h) :
    FnG P w K mg base CX0 1 fI fd ["self", f, g, h] (spInit C [f, g, h]) := by
  refine FunG F S (fun vs H Q E h => ?_) (fun cdv A outer s H vs Q E ga hr h => ?_)
  · obtain ⟨a, ws, rfl, hl, _⟩ := h
    exact congrArg Nat.succ hl
  · obtain ⟨a, ws, rfl, hl, ea, _, q⟩ := h
    match ws, hl with
    | [w1, w2, w3], _ =>
      refine ⟨_, pss_cons (ps_xst (pe_var (i := 0) rfl (vis_of S (by simp)) fine_self.1 fine_self.2) (pe_var (i := 1) rfl (vis_of S (by simp)) f1.1 f1.2))
        (pss_cons (ps_xst (pe_var (i := 0) rfl (vis_of S (by simp)) fine_self.1 fine_self.2) (pe_var (i := 2) rfl (vis_of S (by simp)) f2.1 f2.2))
        (pss_one (ps_xst (pe_var (i := 0) rfl (vis_of S (by simp)) fine_self.1 fine_self.2) (pe_var (i := 3) rfl (vis_of S (by simp)) f3.1 f3.2)))), ?_⟩
      refine ⟨_, rfl, _, rfl, a, C, rfl, T, n1, .inl ⟨ea, fun d hd hda => ?_⟩⟩
      refine ⟨_, rfl, _, rfl, a, C, rfl, T, n2, .inr ⟨d, _, upd_same, by rw [upd_ne hda, upd_same], (by show 1 ≤ 900; decide), ?_⟩⟩
      refine ⟨_, rfl, _, rfl, a, C, rfl, T, n3, .inr ⟨d, _, by rw [upd_ne hda.symm, upd_same], upd_same, (by show 2 ≤ 900; decide), ?_⟩⟩
      exact q (fun z => nomatch z) d _ hd (by rw [upd_ne hda.symm, upd_ne hda.symm, upd_same]) upd_same (fun b h1 h2 => by rw [upd_ne h2, upd_ne h2, upd_ne h1, upd_ne h2])
end
/-! ### exception classes -/
def own4 (j : Nat) : Str := ["FetchError", "MissingError", "StateError", "LimitError"].getD j "FetchError"
def py4 (j : Nat) : String := ["ValueError", "LookupError", "RuntimeError", "ArithmeticError"].getD j "ValueError"
/-- under which bases a class stands -/
def Kit (K : PySem.W.Frag) (C : Addr) (b : Nat) : Prop := ∀ j, j < 4 → PySem.W.kitOne K (.ref C) (.ref (He.ga K (own4 j))) = some (decide (j = b)) ∧ PySem.W.kitOne K (.ref C) (.type (py4 j)) = some (decide (j = b))
/-- at v: an exception under base b with the fields fs, which are vs -/
def IsX (K : PySem.W.Frag) (H : Hp) (v : V) (b : Nat) (fs : List Str) (vs : List V) : Prop := ∃ a C, v = .ref a ∧ XC K C ∧ Kit K C b ∧ (∀ f ∈ fs, NoAttr K C f) ∧
  ((fs = [] ∧ H a = some (exo a C none)) ∨ ∃ d, H a = some (exo a C (some d)) ∧ H d = some (exd d (fs.zip vs).reverse))
theorem IsX.same {K : PySem.W.Frag} {H H' : Hp} {v : V} {b : Nat} {fs : List Str} {vs : List V} (s : Same H H') (h : IsX K H v b fs vs) : IsX K H' v b fs vs := by
  obtain ⟨a, C, e, T, k, n, z⟩ := h
  refine ⟨a, C, e, T, k, n, ?_⟩
  rcases z with ⟨e0, z⟩ | ⟨d, z1, z2⟩
  · exact .inl ⟨e0, s _ _ z⟩
  · exact .inr ⟨d, s _ _ z1, s _ _ z2⟩
structure Cls1 (P : Program) (w : World) (K : PySem.W.Frag) (mg : Str → Option Value) (base : Heap) (x : Str) (b : Nat) (fs : List Str) : Prop where
  ex : ∃ C fI fd, mg x = some (.ref C) ∧ XC K C ∧ PySem.W.findIn K (.ref C) "__init__" = some (some (.ref fI)) ∧ PySem.W.typeIn K (.ref fI) = some (.type "function") ∧
    FnG P w K mg base CX0 1 fI fd ("self" :: fs) (spInit C fs) ∧ L2.Binds K fd ("self" :: fs) [] ∧ KBn K fd ("self" :: fs) 1 fs.reverse (fun us ws => us ++ ws.reverse) (fun us ws => us ++ ws.reverse) ∧
    (∀ f ∈ fs, NoAttr K C f) ∧ Kit K C b
/-- C(..) -/
def tX (K : PySem.W.Frag) (b : Nat) (fs : List Str) (t : TA) : TE := fun σ H Q => t σ H fun vs H1 => vs.length = fs.length ∧ fs.length ≤ 900 ∧ ∀ v H', IsX K H' v b fs vs → Same H1 H' → Q v H'
/-- C(k = v, ..), the keywords from the last parameter to the first -/
def tXK (K : PySem.W.Frag) (b : Nat) (fs : List Str) (t : TA) : TE := fun σ H Q => t σ H fun vs H1 => vs.length = fs.length ∧ fs.length ≤ 900 ∧ ∀ v H', IsX K H' v b fs vs.reverse → Same H1 H' → Q v H'
theorem xinit_end {K : PySem.W.Frag} {C : Addr} {b : Nat} {fs : List Str} {ws : List V} {H1 : Hp} {Q : VK} {a : Addr} (T : XC K C) (nf : ∀ f ∈ fs, NoAttr K C f) (kt : Kit K C b) (hl : ws.length = fs.length) (ha : H1 a = none)
    (q : ∀ v H', IsX K H' v b fs ws → Same H1 H' → Q v H') : spInit C fs (.ref a :: ws) (upd H1 a (exo a C none)) (fun v H2 => v = .non ∧ Q (.ref a) H2) E0 := by
  have s0 : Same H1 (upd H1 a (exo a C none)) := fun b o e => by rw [upd_ne (ne_of_none e ha)]; exact e
  refine ⟨a, ws, rfl, hl, upd_same, fun e => ⟨rfl, ?_⟩, fun ne d H' hd e1 e2 oth => ⟨rfl, ?_⟩⟩
  · exact q _ _ ⟨a, C, rfl, T, kt, nf, .inl ⟨e, upd_same⟩⟩ s0
  · refine q _ _ ⟨a, C, rfl, T, kt, nf, .inr ⟨d, e1, e2⟩⟩ fun b' o e => ?_
    have na : b' ≠ a := ne_of_none e ha
    have nd : b' ≠ d := fun z => by
      rw [← z, upd_ne na, e] at hd
      cases hd
    rw [oth b' na nd, upd_ne na]
    exact e
section
variable {X : Cx} {x : Str} {b : Nat} {fs : List Str} {p pos : Pos} {e : Expr} {es : List Expr} {t : TA} {kws : List Keyword}
theorem pg_xc (D : Cls1 X.prog X.w X.K X.mg X.base x b fs) (ga : X.A.guards = some []) (hr : Room 2 X.A) (hg : Gl X x) (ha : PA X (e :: es) t)
    (hdb : (x == ("__debug__" : Str)) = false := by decide) (he : starEach (e :: es) X.env = (false, eval e X.env) :: starEach es X.env := by rfl)
    (hpl : (backTo pos (starEach es X.env)).any (·.1) = false := by rfl) : PE X (.Call (.Name x p) (e :: es) [] pos) (tX X.K b fs t) := by
  obtain ⟨C, fI, fd, hm, T, iC, tI, F, hb, _, nf, kt⟩ := D.ex
  constructor
  intro pins s σ H Q I h
  refine wpAny_Call_Name_kw (ld_glob I hg hm ?_ hdb)
  refine PySem.W.callWith_K (h₀ := X.base) I.ok.mod.kin T.kC (thn (ha.run pos pins s σ H _ I h) ?_) he hpl
  rintro us s1 ⟨vs, H1, I1, r, l1, l2, q⟩
  have hl : us.length = fs.length := r.length.symm.trans l1
  refine ⟨I1.kIn, run_xmk (kw := []) (g := fun us _ => us) (gV := fun vs _ => vs) (ws := []) (zs := []) T iC tI F ga hr (fun s' a KI => ?_) (fun a => .cons rfl r) I1
    (by rw [List.nil_append, hl]; omega) (fun a ha => xinit_end T nf kt l1 ha q)⟩
  have z := hb s' (.ref a :: us) KI (by rw [List.append_nil, List.length_cons, List.length_cons, hl])
  rw [List.append_nil] at z
  exact z
theorem pg_xc0 (D : Cls1 X.prog X.w X.K X.mg X.base x b []) (ga : X.A.guards = some []) (hr : Room 2 X.A) (hg : Gl X x)
    (hdb : (x == ("__debug__" : Str)) = false := by decide) : PE X (.Call (.Name x p) [] [] pos) (tX X.K b [] tNil) := by
  obtain ⟨C, fI, fd, hm, T, iC, tI, F, hb, _, nf, kt⟩ := D.ex
  constructor
  intro pins s σ H Q I h
  refine wpAny_Call_Name_kw (ld_glob I hg hm ?_ hdb)
  obtain ⟨l1, l2, q⟩ := h
  refine PySem.W.callWith_K0 I.kIn T.kC (run_xmk (kw := []) (us := []) (vs := []) (g := fun us _ => us) (gV := fun vs _ => vs) (ws := []) (zs := []) T iC tI F ga hr (fun s' a KI => ?_) (fun a => .cons rfl .nil) I
    (Nat.zero_le _) (fun a ha => xinit_end T nf kt rfl ha q))
  have z := hb s' [.ref a] KI rfl
  rw [List.append_nil] at z
  exact z
theorem pg_xcK (D : Cls1 X.prog X.w X.K X.mg X.base x b fs) (ga : X.A.guards = some []) (hr : Room 2 X.A) (hg : Gl X x)
    (hkw : PK X kws t) (hall : (backToKw pos (keywordEach kws X.env)).all (·.1.isSome) = true := by rfl) (hks : (backToKw pos (keywordEach kws X.env)).filterMap (·.1) = fs.reverse := by rfl)
    (hdb : (x == ("__debug__" : Str)) = false := by decide) (hpl : ((backTo pos (starEach [] X.env)).any (·.1) || (backToKw pos (keywordEach kws X.env)).any (·.1.isNone)) = false := by rfl) :
    PE X (.Call (.Name x p) [] kws pos) (tXK X.K b fs t) := by
  obtain ⟨C, fI, fd, hm, T, iC, tI, F, _, hb, nf, kt⟩ := D.ex
  constructor
  intro pins s σ H Q I h
  refine wpAny_Call_Name_kw (ld_glob I hg hm ?_ hdb)
  refine PySem.W.callWith_KW0 (h₀ := X.base) I.ok.mod.kin T.kC hall ?_ hpl
  refine thn (hkw.run pos pins s σ H _ I h) ?_
  rintro ws s2 ⟨zs, H2, I2, rz, l1, l2, q⟩
  refine ⟨I2.kIn, ?_⟩
  rw [hks]
  exact run_xmk (us := []) (vs := []) T iC tI F ga hr (fun s' a KI => hb.to s' [.ref a] ws KI rfl (by rw [List.length_reverse, ← rz.length, l1])) (fun a => hb.rel (.cons rfl .nil) rz) I2 (Nat.zero_le _)
    (fun a ha => xinit_end T nf kt (show zs.reverse.length = fs.length by rw [List.length_reverse]; exact l1) ha q)
end
end FW

/-! FW, part L: the end of a law whose def is called where no repr runs -/
namespace FW
open PySem PySem.Spec PyProof.Rows L2
section
variable {P : Program} {w : World} {K : PySem.W.Frag} {mg mb : Str → Option Value} {k : Nat} {fa a : Addr} {fd : FuncData} {x : Str} {sp : Sp} {s : Shared} {vs : List Value} {ns : List Int}
/-- the heap as the law's call finds it: at most the script is told of -/
structure Start0 (P : Program) (w : World) (K : PySem.W.Frag) (s : Shared) (a : Addr) (ns : List Int) (H : Hp) : Prop where
  only : L2.Only H
  seq : SqL K H a (ns.map V.int)
  hok : L2.HOk P w H s.heap
  self : ∀ b, H b ≠ none → b = a
  free : H a ≠ none → K.lookup a = none
theorem start0 (KX : K.In s.heap) (ha : s.heap.get? a = some { cls := .type "list", data := .seq vs.toArray }) (hi : IntsAre vs ns) (hl : ns.length ≤ sizeLine) : ∃ H, Start0 P w K s a ns H := by
  have rv := L2.vals_ints hi
  have lv := hi.length
  cases hk : K.lookup a with
  | some o =>
    obtain rfl : _ = o := Option.some.inj (ha.symm.trans (KX a o hk))
    exact ⟨fun _ => none, fun _ => .inl rfl, .inr ⟨_, vs.toArray, _, hk, rfl, rfl, rfl, by simp only [List.size_toArray]; omega, by simpa using rv⟩,
      fun b u z => (nomatch (show (none : Option HO) = some u from z)), fun b z => absurd rfl z, fun z => absurd rfl z⟩
  | none =>
    refine ⟨upd (fun _ => none) a (.frz { cls := .type "list", data := .seq vs.toArray } (.lst (ns.map V.int))), fun b => ?_, .inl (.inr ⟨_, upd_same⟩), fun b u z => ?_, fun b z => ?_, fun _ => hk⟩
    all_goals by_cases hb : b = a
    · subst hb; exact .inr ⟨_, _, upd_same⟩
    · exact .inl (upd_ne hb)
    · subst hb
      obtain rfl := Option.some.inj (upd_same.symm.trans z)
      exact ⟨ha, by rw [List.length_map]; exact hl, vs, _, rv, ha⟩
    · cases (upd_ne hb).symm.trans z
    · exact hb
    · exact absurd (upd_ne hb) z
/-- the law's def, called by the judge: True, and nothing old is changed -/
theorem law_callG (KX : K.In s.heap) (hns : s.heap.Ns mainGlobals mg) (hb : s.heap.Ns builtinsNs mb) (hbb : ∀ y : Str, y ≠ "__name__" → mb y = bootBuiltins y) (hlim : s.heap.NoLimit) (hg : s.gens = #[])
    (ha : s.heap.get? a = some { cls := .type "list", data := .seq vs.toArray }) (hi : IntsAre vs ns) (hl : ns.length ≤ sizeLine) (hr : Room k callerA)
    (F : ∀ base : Heap, K.In base → base.Ns mainGlobals mg → FnG P w K mg base CX0 k fa fd [x] sp) (hbind : ∀ (s : Shared) (u : Value), BindsTo s fd ⟨[u], []⟩ [(x, u)])
    (hsp : ∀ H : Hp, SqL K H a (ns.map V.int) → sp [.ref a] H (fun v _ => v = .bl true) fun _ _ _ => False) :
    codeAny (model P w) callerA (.call (.ref fa) ⟨[.ref a], []⟩) (fun r s' => r = .ok (.ret (.bool true)) ∧ OldK s.heap s'.heap ∧ s'.os = s.os ∧ AllBare s'.gens) s := by
  obtain ⟨H, S⟩ := start0 (P := P) (w := w) KX ha hi hl
  have out : ∀ {b : Addr}, (b = a → H a = none) → H b = none := fun {b} z => by
    cases q : H b with
    | none => rfl
    | some u =>
      have e : b = a := S.self b (by rw [q]; exact fun y => nomatch y)
      rw [e, z e] at q
      cases q
  have stay : ∀ {b : Addr} {o : Obj}, s.heap.get? b = some o → H b = none → (L2.hidT s.heap H).get? b = some o := fun e n => L2.hidT_get e n
  have noD : ∀ {b : Addr} {o : Obj} {es : Array DictEntry} {ep : Nat}, s.heap.get? b = some o → o.data = .dict es ep → H b = none := fun {b o es ep} e d => out fun eb => by
    subst eb
    rw [ha] at e
    cases e
    cases d
  have nsT : ∀ {b : Addr} {m : Str → Option Value}, s.heap.Ns b m → (L2.hidT s.heap H).Ns b m := fun ⟨o, es, ep, e, d, r⟩ => ⟨o, es, ep, stay e (noD e d), d, r⟩
  have kT : K.In (L2.hidT s.heap H) := fun b o e => stay (KX b o e) (by
    cases q : H b with
    | none => rfl
    | some u =>
      have eb : b = a := S.self b (by rw [q]; exact fun y => nomatch y)
      subst eb
      cases e.symm.trans (S.free (by rw [q]; exact fun y => nomatch y)))
  have M : Mod K mg (L2.hidT s.heap H) := by
    obtain ⟨mc, l1, l2⟩ := hlim
    exact ⟨kT, nsT hns, ⟨mb, nsT hb, hbb⟩, mc, nsT l1, l2⟩
  have E : Env0 P w K mg (L2.hidT s.heap H) callerA [] s H :=
    ⟨rfl, M, fun b o e => L2.of_hidT e, Nat.le_of_eq (L2.hidT_size _ _), trivial, fun b m => (nomatch m), S.hok, .of_eq hg⟩
  have z := (F _ kT (nsT hns)).run callerA [] s H ⟨[.ref a], []⟩ [.ref a] [.ref a] _ _ rfl hr E (hbind s (.ref a)) (.cons rfl .nil) (hsp H S.seq)
  refine codeAny_mono z fun r s' h => ?_
  rcases r with e | (_ | _ | _ | u)
  all_goals first | exact False.elim h | skip
  obtain ⟨v, H', os, bare, un, hok', rv, q⟩ := h
  obtain rfl : v = .bl true := q
  obtain rfl : u = Value.bool true := rv
  refine ⟨rfl, OldK.of_keep fun b o e => ?_, os, bare⟩
  rcases S.only b with n | ⟨ob, xs, n⟩
  · exact un.keep b o e n (fun y => (nomatch (show b ∈ ([] : List Addr) from y))) (by simp)
  · have f1 := (S.hok b _ n).1
    have f2 := (hok' b _ (un.frzs b ob _ n)).1
    rw [f2, ← f1, e]
end
/-- .. as the head asks it -/
theorem walk_ofG {l : PySem.W.OpenLaw} {n k : Nat} {q : Program} {loose : List Str} {XP : (Str → Option Value) → Heap → Prop} {YP : World → Heap → Prop} {d : DefRec} {x : Str}
    (hn : l.most = some n) (hn2 : n ≤ sizeLine) (hdf : d.params.defaults = []) (hr : Room k callerA)
    (F : ∀ (w : World) (mg : Str → Option Value) (fa : Addr) (h : Heap), YP w h → h.Ns mainGlobals mg → mg d.name = some (.ref fa) →
      ∃ (K : PySem.W.Frag) (fd : FuncData) (sp : Sp), K.In h ∧ (∀ (s : Shared) (u : Value), BindsTo s fd ⟨[u], []⟩ [(x, u)]) ∧
        (∀ (H : Hp) (a : Addr) (ns : List Int), ns.length ≤ n → SqL K H a (ns.map V.int) → sp [.ref a] H (fun v _ => v = .bl true) fun _ _ _ => False) ∧
        ∀ base : Heap, K.In base → base.Ns mainGlobals mg → FnG l.prog w K mg base CX0 k fa fd [x] sp) :
    PySem.W.WalkO q loose XP YP l.row.toRowW d [] (fun f vs => PySem.call f vs) := by
  refine Att.attach_call hn hdf fun w s0 s1 mg mb fa o pm cd doc a vs ns G Y _ _ _ hmg hobj hints hlen hg => ?_
  obtain ⟨K, fd, sp, KX, hb, hsp, hF⟩ := F w mg fa _ Y G.T.g hmg
  exact law_callG KX G.T.g G.T.b G.T.builtins G.T.nolimit hg hobj hints (Nat.le_trans hlen hn2) hr hF hb fun H hS => hsp H a ns hlen hS
end FW

/-! FW, part M: a class's facts, read off the written part -/
namespace FW
open PySem PySem.Spec PyProof.Rows L2
/-- an exception class: its name, the number of its base, its fields -/
structure ClsD where
  x : Str
  b : Nat
  fs : List Str
def mroB (b : Nat) : List Value := [.type (py4 b), .type "Exception", .type "BaseException", .type "object"]
def newB (b : Nat) : String := ["ValueError.__new__", "LookupError.__new__", "RuntimeError.__new__", "ArithmeticError.__new__"].getD b "ValueError.__new__"
theorem baseB : ∀ b, b < 4 → ∃ initId, ExcBaseFacts (py4 b) (newB b) initId (mroB b) ∧ StoreFacts (py4 b) (mroB b) "object.__setattr__" "object"
  | 0, _ => ⟨_, PySem.F.excBase_ValueError, PySem.F.store_ValueError⟩
  | 1, _ => ⟨_, PySem.F.excBase_LookupError, PySem.F.store_LookupError⟩
  | 2, _ => ⟨_, PySem.F.excBase_RuntimeError, PySem.F.store_RuntimeError⟩
  | 3, _ => ⟨_, PySem.F.excBase_ArithmeticError, PySem.F.store_ArithmeticError⟩
  | n + 4, h => absurd h (by omega)
def clsL (K : PySem.W.Frag) (c : ClsD) : List Bool :=
  let C := He.ga K c.x
  let R : Value := .ref C
  [PySem.W.excInitIn K C (mroB c.b) (newB c.b), PySem.W.excOver K C (mroB c.b), He.eqO (PySem.W.findIn K R "__setattr__") (some (some (.builtin "object.__setattr__"))), PySem.W.hasDictIn K C, PySem.W.keepIn K R,
    He.eqO (PySem.W.findIn K R "__getattribute__") (some (some (.builtin "BaseException.__getattribute__"))), He.eqO (PySem.W.findIn K R "__getattr__") (some none), decide (PySem.W.subIn K R (.type "BaseException") = some true),
    He.eqO (PySem.W.findIn K R "__class__") (some (some (.builtin "object.__class__"))), He.eqO (PySem.W.specialIn K (.builtin "object.__class__") "__get__") (some (some (.builtin "getset_descriptor.__get__"))),
    decide (PySem.W.takesIn K (.builtin "object.__class__") = some true), decide (PySem.W.mroIn K C (.type "object") = some true), (PySem.W.clsIn K C).isSome,
    He.eqO (PySem.W.findIn K R "__init__") (some (some (.ref (He.ma K C "__init__")))), decide (PySem.W.typeIn K (.ref (He.ma K C "__init__")) = some (.type "function")),
    c.fs.all fun f => He.eqO (PySem.W.findIn K R f) (some none),
    (List.range 4).all fun j => decide (PySem.W.kitOne K R (.ref (He.ga K (own4 j))) = some (decide (j = c.b))) && decide (PySem.W.kitOne K R (.type (py4 j)) = some (decide (j = c.b))),
    He.Fa.ok K (.glo c.x)]
def clsB (K : PySem.W.Frag) (c : ClsD) : Bool := (clsL K c).all id
section
variable {K : PySem.W.Frag} {c : ClsD}
theorem all_at {l : List Bool} {b : Bool} (h : l.all id = true) (i : Nat) (e : l[i]? = some b) : b = true := List.all_eq_true.mp h b (List.mem_of_getElem? e)
theorem clsB_xc (hb : c.b < 4) (h : clsB K c = true) : XC K (He.ga K c.x) := by
  obtain ⟨i, b1, b2⟩ := baseB c.b hb
  exact ⟨⟨_, _, _, _, b1, b2, all_at h 0 rfl, all_at h 1 rfl⟩, He.eqO_ok (all_at h 2 rfl), all_at h 3 rfl, all_at h 4 rfl, He.eqO_ok (all_at h 5 rfl), He.eqO_ok (all_at h 6 rfl), of_decide_eq_true (all_at h 7 rfl),
    He.eqO_ok (all_at h 8 rfl), He.eqO_ok (all_at h 9 rfl), of_decide_eq_true (all_at h 10 rfl), of_decide_eq_true (all_at h 11 rfl), all_at h 12 rfl⟩
theorem clsB_no (h : clsB K c = true) : ∀ f ∈ c.fs, NoAttr K (He.ga K c.x) f := fun f hf => He.eqO_ok (List.all_eq_true.mp (all_at h 15 rfl) f hf)
theorem clsB_kit (h : clsB K c = true) : Kit K (He.ga K c.x) c.b := fun j hj => by
  obtain ⟨a, b⟩ := He.ba (List.all_eq_true.mp (all_at h 16 rfl) j (List.mem_range.mpr hj))
  exact ⟨of_decide_eq_true a, of_decide_eq_true b⟩
theorem cls1_mk {P : Program} {w : World} {mg : Str → Option Value} {base h0 : Heap} {fd : FuncData} (X : K.In h0) (G : h0.Ns mainGlobals mg) (hb : c.b < 4) (h : clsB K c = true)
    (F : FnG P w K mg base CX0 1 (He.ma K (He.ga K c.x) "__init__") fd ("self" :: c.fs) (spInit (He.ga K c.x) c.fs)) (b : L2.Binds K fd ("self" :: c.fs) [])
    (kb : KBn K fd ("self" :: c.fs) 1 c.fs.reverse (fun us ws => us ++ ws.reverse) (fun us ws => us ++ ws.reverse)) : Cls1 P w K mg base c.x c.b c.fs :=
  ⟨_, _, fd, He.glo_ok X G (all_at h 17 rfl), clsB_xc hb h, He.eqO_ok (all_at h 13 rfl), of_decide_eq_true (all_at h 14 rfl), F, b, kb, clsB_no h, clsB_kit h⟩
theorem kbn_mk {fd : FuncData} {ps fs : List Str} (h : ∀ (s : Shared) (us ws : List Value), us.length = 1 → ws.length = fs.reverse.length → BindsTo s fd ⟨us, fs.reverse.zip ws⟩ (ps.zip (us ++ ws.reverse))) :
    KBn K fd ps 1 fs.reverse (fun us ws => us ++ ws.reverse) (fun us ws => us ++ ws.reverse) :=
  ⟨fun s us ws _ h1 h2 => h s us ws h1 h2, fun r1 r2 => r1.append r2.reverse⟩
end
/-- keywords bound, no default standing -/
theorem bindsK_of {K : PySem.W.Frag} {x qual : Str} {params : Arguments} {body : List Stmt} {scope : Scope} {kws : List (Str × V)} {f : Addr} {fd : FuncData} (F : FunD K x qual params body scope [] kws f fd) {args : Args} {binds : List (Str × Value)}
    (h : ∀ (kV doc pm : Value) (an : Option Addr) (cdv ct : Value), bindArgs (PySem.W.fnOf x qual params body scope .none kV doc pm an cdv ct) args = pure binds) (s : Shared) : BindsTo s fd args binds := by
  obtain ⟨_, _, dV, kV, doc, pm, an, cdv, ct, _, e, _, _, hD, _⟩ := F.ex
  subst e
  cases hD with
  | inl z =>
    obtain ⟨_, e⟩ := z
    subst e
    exact .of_eq (h kV doc pm an cdv ct)
  | inr z => exact absurd rfl z.1
end FW

/-! K14, part N: the head by facts -/
namespace K14
open PySem PySem.Spec PyProof.Rows L2 FW
def top (i : Nat) : Stmt := PySem.Challenge.pw_fetchwalks_k14_errors_made.main.body.getD i (.Pass ⟨0, 0, 0, 0⟩)
/-- the first statement of a class -/
def initS (s : Stmt) : Stmt := match s with
  | .ClassDef _ _ _ b _ _ _ _ _ _ _ => b.getD 0 (.Pass ⟨0, 0, 0, 0⟩)
  | _ => .Pass ⟨0, 0, 0, 0⟩
def cInvalidKinds : ClsD := ⟨"InvalidKinds", 0, ["position"]⟩
def cInvalidFields : ClsD := ⟨"InvalidFields", 0, ["name"]⟩
def cInvalidFlags : ClsD := ⟨"InvalidFlags", 0, ["name"]⟩
def cInvalidSchema : ClsD := ⟨"InvalidSchema", 0, ["value"]⟩
def cInvalidId : ClsD := ⟨"InvalidId", 0, ["value"]⟩
def cInvalidRow : ClsD := ⟨"InvalidRow", 0, ["name"]⟩
def cInvalidRows : ClsD := ⟨"InvalidRows", 0, ["position"]⟩
def cInvalidStore : ClsD := ⟨"InvalidStore", 0, ["value"]⟩
def cInvalidWalk : ClsD := ⟨"InvalidWalk", 0, ["problem", "place"]⟩
def cNoWalk : ClsD := ⟨"NoWalk", 0, ["value"]⟩
def cInvalidRoots : ClsD := ⟨"InvalidRoots", 0, ["find"]⟩
def cInvalidWord : ClsD := ⟨"InvalidWord", 0, ["value"]⟩
def cInvalidPlan : ClsD := ⟨"InvalidPlan", 0, ["value"]⟩
def cInvalidLinks : ClsD := ⟨"InvalidLinks", 0, ["position"]⟩
def cInvalidRoute : ClsD := ⟨"InvalidRoute", 0, ["value"]⟩
def cInvalidPlace : ClsD := ⟨"InvalidPlace", 0, ["value"]⟩
def cInvalidPlaces : ClsD := ⟨"InvalidPlaces", 0, ["value"]⟩
def cInvalidSizeName : ClsD := ⟨"InvalidSizeName", 0, ["value"]⟩
def cInvalidSize : ClsD := ⟨"InvalidSize", 0, ["value"]⟩
def cInvalidSizes : ClsD := ⟨"InvalidSizes", 0, ["value"]⟩
def cInvalidNumber : ClsD := ⟨"InvalidNumber", 0, ["value"]⟩
def cInvalidSum : ClsD := ⟨"InvalidSum", 0, ["value"]⟩
def cInvalidChange : ClsD := ⟨"InvalidChange", 0, ["position"]⟩
def cInvalidValue : ClsD := ⟨"InvalidValue", 0, ["value"]⟩
def cInvalidText : ClsD := ⟨"InvalidText", 0, ["line"]⟩
def cInvalidClaim : ClsD := ⟨"InvalidClaim", 0, ["value"]⟩
def cInvalidCommand : ClsD := ⟨"InvalidCommand", 0, ["value"]⟩
def cUnknownKind : ClsD := ⟨"UnknownKind", 1, ["value"]⟩
def cUnknownLink : ClsD := ⟨"UnknownLink", 1, ["value"]⟩
def cUnknownObject : ClsD := ⟨"UnknownObject", 1, ["kind", "number"]⟩
def cUnknownTarget : ClsD := ⟨"UnknownTarget", 1, ["field", "number"]⟩
def cUnknownSpot : ClsD := ⟨"UnknownSpot", 1, ["value"]⟩
def cUnknownPath : ClsD := ⟨"UnknownPath", 1, ["value"]⟩
def cUnknownFind : ClsD := ⟨"UnknownFind", 1, ["value"]⟩
def cUnknownName : ClsD := ⟨"UnknownName", 1, ["value"]⟩
def cTargetTaken : ClsD := ⟨"TargetTaken", 2, ["field", "number", "by"]⟩
def cRowRefused : ClsD := ⟨"RowRefused", 2, ["kind", "number"]⟩
def cLinkRing : ClsD := ⟨"LinkRing", 2, ["ring"]⟩
def cWordRefused : ClsD := ⟨"WordRefused", 2, ["link", "word"]⟩
def cOtherSchema : ClsD := ⟨"OtherSchema", 2, []⟩
def cOtherFinds : ClsD := ⟨"OtherFinds", 2, ["one", "other"]⟩
def cNameTaken : ClsD := ⟨"NameTaken", 2, ["name"]⟩
def cNotKept : ClsD := ⟨"NotKept", 2, ["kind", "number"]⟩
def cChangesRefused : ClsD := ⟨"ChangesRefused", 2, ["position"]⟩
def cSaveRefused : ClsD := ⟨"SaveRefused", 2, ["first", "second"]⟩
def cNothingToUndo : ClsD := ⟨"NothingToUndo", 2, []⟩
def cCommandFailed : ClsD := ⟨"CommandFailed", 2, ["position"]⟩
def cTooMany : ClsD := ⟨"TooMany", 3, ["what", "limit"]⟩
def clss1 : List ClsD := [cInvalidKinds, cInvalidFields, cInvalidFlags, cInvalidSchema, cInvalidId, cInvalidRow, cInvalidRows, cInvalidStore, cInvalidWalk, cNoWalk, cInvalidRoots, cInvalidWord, cInvalidPlan, cInvalidLinks, cInvalidRoute, cInvalidPlace, cInvalidPlaces, cInvalidSizeName, cInvalidSize, cInvalidSizes, cInvalidNumber, cInvalidSum, cInvalidChange, cInvalidValue]
def clss2 : List ClsD := [cInvalidText, cInvalidClaim, cInvalidCommand, cUnknownKind, cUnknownLink, cUnknownObject, cUnknownTarget, cUnknownSpot, cUnknownPath, cUnknownFind, cUnknownName, cTargetTaken, cRowRefused, cLinkRing, cWordRefused, cOtherSchema, cOtherFinds, cNameTaken, cNotKept, cChangesRefused, cSaveRefused, cNothingToUndo, cCommandFailed, cTooMany]
abbrev iInvalidKinds : Stmt := initS (top 2)
def dInvalidKinds : He.DefD := ⟨("InvalidKinds", some "__init__"), "__init__", "InvalidKinds.__init__", defArgs iInvalidKinds, defBody iInvalidKinds, defScope iInvalidKinds, [], []⟩
abbrev iInvalidFields : Stmt := initS (top 3)
def dInvalidFields : He.DefD := ⟨("InvalidFields", some "__init__"), "__init__", "InvalidFields.__init__", defArgs iInvalidFields, defBody iInvalidFields, defScope iInvalidFields, [], []⟩
abbrev iInvalidFlags : Stmt := initS (top 4)
def dInvalidFlags : He.DefD := ⟨("InvalidFlags", some "__init__"), "__init__", "InvalidFlags.__init__", defArgs iInvalidFlags, defBody iInvalidFlags, defScope iInvalidFlags, [], []⟩
abbrev iInvalidSchema : Stmt := initS (top 5)
def dInvalidSchema : He.DefD := ⟨("InvalidSchema", some "__init__"), "__init__", "InvalidSchema.__init__", defArgs iInvalidSchema, defBody iInvalidSchema, defScope iInvalidSchema, [], []⟩
abbrev iInvalidId : Stmt := initS (top 6)
def dInvalidId : He.DefD := ⟨("InvalidId", some "__init__"), "__init__", "InvalidId.__init__", defArgs iInvalidId, defBody iInvalidId, defScope iInvalidId, [], []⟩
abbrev iInvalidRow : Stmt := initS (top 7)
def dInvalidRow : He.DefD := ⟨("InvalidRow", some "__init__"), "__init__", "InvalidRow.__init__", defArgs iInvalidRow, defBody iInvalidRow, defScope iInvalidRow, [], []⟩
abbrev iInvalidRows : Stmt := initS (top 8)
def dInvalidRows : He.DefD := ⟨("InvalidRows", some "__init__"), "__init__", "InvalidRows.__init__", defArgs iInvalidRows, defBody iInvalidRows, defScope iInvalidRows, [], []⟩
abbrev iInvalidStore : Stmt := initS (top 9)
def dInvalidStore : He.DefD := ⟨("InvalidStore", some "__init__"), "__init__", "InvalidStore.__init__", defArgs iInvalidStore, defBody iInvalidStore, defScope iInvalidStore, [], []⟩
abbrev iInvalidWalk : Stmt := initS (top 10)
def dInvalidWalk : He.DefD := ⟨("InvalidWalk", some "__init__"), "__init__", "InvalidWalk.__init__", defArgs iInvalidWalk, defBody iInvalidWalk, defScope iInvalidWalk, [], []⟩
abbrev iNoWalk : Stmt := initS (top 11)
def dNoWalk : He.DefD := ⟨("NoWalk", some "__init__"), "__init__", "NoWalk.__init__", defArgs iNoWalk, defBody iNoWalk, defScope iNoWalk, [], []⟩
abbrev iInvalidRoots : Stmt := initS (top 12)
def dInvalidRoots : He.DefD := ⟨("InvalidRoots", some "__init__"), "__init__", "InvalidRoots.__init__", defArgs iInvalidRoots, defBody iInvalidRoots, defScope iInvalidRoots, [], []⟩
abbrev iInvalidWord : Stmt := initS (top 13)
def dInvalidWord : He.DefD := ⟨("InvalidWord", some "__init__"), "__init__", "InvalidWord.__init__", defArgs iInvalidWord, defBody iInvalidWord, defScope iInvalidWord, [], []⟩
abbrev iInvalidPlan : Stmt := initS (top 14)
def dInvalidPlan : He.DefD := ⟨("InvalidPlan", some "__init__"), "__init__", "InvalidPlan.__init__", defArgs iInvalidPlan, defBody iInvalidPlan, defScope iInvalidPlan, [], []⟩
abbrev iInvalidLinks : Stmt := initS (top 15)
def dInvalidLinks : He.DefD := ⟨("InvalidLinks", some "__init__"), "__init__", "InvalidLinks.__init__", defArgs iInvalidLinks, defBody iInvalidLinks, defScope iInvalidLinks, [], []⟩
abbrev iInvalidRoute : Stmt := initS (top 16)
def dInvalidRoute : He.DefD := ⟨("InvalidRoute", some "__init__"), "__init__", "InvalidRoute.__init__", defArgs iInvalidRoute, defBody iInvalidRoute, defScope iInvalidRoute, [], []⟩
abbrev iInvalidPlace : Stmt := initS (top 17)
def dInvalidPlace : He.DefD := ⟨("InvalidPlace", some "__init__"), "__init__", "InvalidPlace.__init__", defArgs iInvalidPlace, defBody iInvalidPlace, defScope iInvalidPlace, [], []⟩
abbrev iInvalidPlaces : Stmt := initS (top 18)
def dInvalidPlaces : He.DefD := ⟨("InvalidPlaces", some "__init__"), "__init__", "InvalidPlaces.__init__", defArgs iInvalidPlaces, defBody iInvalidPlaces, defScope iInvalidPlaces, [], []⟩
abbrev iInvalidSizeName : Stmt := initS (top 19)
def dInvalidSizeName : He.DefD := ⟨("InvalidSizeName", some "__init__"), "__init__", "InvalidSizeName.__init__", defArgs iInvalidSizeName, defBody iInvalidSizeName, defScope iInvalidSizeName, [], []⟩
abbrev iInvalidSize : Stmt := initS (top 20)
def dInvalidSize : He.DefD := ⟨("InvalidSize", some "__init__"), "__init__", "InvalidSize.__init__", defArgs iInvalidSize, defBody iInvalidSize, defScope iInvalidSize, [], []⟩
abbrev iInvalidSizes : Stmt := initS (top 21)
def dInvalidSizes : He.DefD := ⟨("InvalidSizes", some "__init__"), "__init__", "InvalidSizes.__init__", defArgs iInvalidSizes, defBody iInvalidSizes, defScope iInvalidSizes, [], []⟩
abbrev iInvalidNumber : Stmt := initS (top 22)
def dInvalidNumber : He.DefD := ⟨("InvalidNumber", some "__init__"), "__init__", "InvalidNumber.__init__", defArgs iInvalidNumber, defBody iInvalidNumber, defScope iInvalidNumber, [], []⟩
abbrev iInvalidSum : Stmt := initS (top 23)
def dInvalidSum : He.DefD := ⟨("InvalidSum", some "__init__"), "__init__", "InvalidSum.__init__", defArgs iInvalidSum, defBody iInvalidSum, defScope iInvalidSum, [], []⟩
abbrev iInvalidChange : Stmt := initS (top 24)
def dInvalidChange : He.DefD := ⟨("InvalidChange", some "__init__"), "__init__", "InvalidChange.__init__", defArgs iInvalidChange, defBody iInvalidChange, defScope iInvalidChange, [], []⟩
abbrev iInvalidValue : Stmt := initS (top 25)
def dInvalidValue : He.DefD := ⟨("InvalidValue", some "__init__"), "__init__", "InvalidValue.__init__", defArgs iInvalidValue, defBody iInvalidValue, defScope iInvalidValue, [], []⟩
abbrev iInvalidText : Stmt := initS (top 26)
def dInvalidText : He.DefD := ⟨("InvalidText", some "__init__"), "__init__", "InvalidText.__init__", defArgs iInvalidText, defBody iInvalidText, defScope iInvalidText, [], []⟩
abbrev iInvalidClaim : Stmt := initS (top 27)
def dInvalidClaim : He.DefD := ⟨("InvalidClaim", some "__init__"), "__init__", "InvalidClaim.__init__", defArgs iInvalidClaim, defBody iInvalidClaim, defScope iInvalidClaim, [], []⟩
abbrev iInvalidCommand : Stmt := initS (top 28)
def dInvalidCommand : He.DefD := ⟨("InvalidCommand", some "__init__"), "__init__", "InvalidCommand.__init__", defArgs iInvalidCommand, defBody iInvalidCommand, defScope iInvalidCommand, [], []⟩
abbrev iUnknownKind : Stmt := initS (top 30)
def dUnknownKind : He.DefD := ⟨("UnknownKind", some "__init__"), "__init__", "UnknownKind.__init__", defArgs iUnknownKind, defBody iUnknownKind, defScope iUnknownKind, [], []⟩
abbrev iUnknownLink : Stmt := initS (top 31)
def dUnknownLink : He.DefD := ⟨("UnknownLink", some "__init__"), "__init__", "UnknownLink.__init__", defArgs iUnknownLink, defBody iUnknownLink, defScope iUnknownLink, [], []⟩
abbrev iUnknownObject : Stmt := initS (top 32)
def dUnknownObject : He.DefD := ⟨("UnknownObject", some "__init__"), "__init__", "UnknownObject.__init__", defArgs iUnknownObject, defBody iUnknownObject, defScope iUnknownObject, [], []⟩
abbrev iUnknownTarget : Stmt := initS (top 33)
def dUnknownTarget : He.DefD := ⟨("UnknownTarget", some "__init__"), "__init__", "UnknownTarget.__init__", defArgs iUnknownTarget, defBody iUnknownTarget, defScope iUnknownTarget, [], []⟩
abbrev iUnknownSpot : Stmt := initS (top 34)
def dUnknownSpot : He.DefD := ⟨("UnknownSpot", some "__init__"), "__init__", "UnknownSpot.__init__", defArgs iUnknownSpot, defBody iUnknownSpot, defScope iUnknownSpot, [], []⟩
abbrev iUnknownPath : Stmt := initS (top 35)
def dUnknownPath : He.DefD := ⟨("UnknownPath", some "__init__"), "__init__", "UnknownPath.__init__", defArgs iUnknownPath, defBody iUnknownPath, defScope iUnknownPath, [], []⟩
abbrev iUnknownFind : Stmt := initS (top 36)
def dUnknownFind : He.DefD := ⟨("UnknownFind", some "__init__"), "__init__", "UnknownFind.__init__", defArgs iUnknownFind, defBody iUnknownFind, defScope iUnknownFind, [], []⟩
abbrev iUnknownName : Stmt := initS (top 37)
def dUnknownName : He.DefD := ⟨("UnknownName", some "__init__"), "__init__", "UnknownName.__init__", defArgs iUnknownName, defBody iUnknownName, defScope iUnknownName, [], []⟩
abbrev iTargetTaken : Stmt := initS (top 39)
def dTargetTaken : He.DefD := ⟨("TargetTaken", some "__init__"), "__init__", "TargetTaken.__init__", defArgs iTargetTaken, defBody iTargetTaken, defScope iTargetTaken, [], []⟩
abbrev iRowRefused : Stmt := initS (top 40)
def dRowRefused : He.DefD := ⟨("RowRefused", some "__init__"), "__init__", "RowRefused.__init__", defArgs iRowRefused, defBody iRowRefused, defScope iRowRefused, [], []⟩
abbrev iLinkRing : Stmt := initS (top 41)
def dLinkRing : He.DefD := ⟨("LinkRing", some "__init__"), "__init__", "LinkRing.__init__", defArgs iLinkRing, defBody iLinkRing, defScope iLinkRing, [], []⟩
abbrev iWordRefused : Stmt := initS (top 42)
def dWordRefused : He.DefD := ⟨("WordRefused", some "__init__"), "__init__", "WordRefused.__init__", defArgs iWordRefused, defBody iWordRefused, defScope iWordRefused, [], []⟩
abbrev iOtherSchema : Stmt := initS (top 43)
def dOtherSchema : He.DefD := ⟨("OtherSchema", some "__init__"), "__init__", "OtherSchema.__init__", defArgs iOtherSchema, defBody iOtherSchema, defScope iOtherSchema, [], []⟩
abbrev iOtherFinds : Stmt := initS (top 44)
def dOtherFinds : He.DefD := ⟨("OtherFinds", some "__init__"), "__init__", "OtherFinds.__init__", defArgs iOtherFinds, defBody iOtherFinds, defScope iOtherFinds, [], []⟩
abbrev iNameTaken : Stmt := initS (top 45)
def dNameTaken : He.DefD := ⟨("NameTaken", some "__init__"), "__init__", "NameTaken.__init__", defArgs iNameTaken, defBody iNameTaken, defScope iNameTaken, [], []⟩
abbrev iNotKept : Stmt := initS (top 46)
def dNotKept : He.DefD := ⟨("NotKept", some "__init__"), "__init__", "NotKept.__init__", defArgs iNotKept, defBody iNotKept, defScope iNotKept, [], []⟩
abbrev iChangesRefused : Stmt := initS (top 47)
def dChangesRefused : He.DefD := ⟨("ChangesRefused", some "__init__"), "__init__", "ChangesRefused.__init__", defArgs iChangesRefused, defBody iChangesRefused, defScope iChangesRefused, [], []⟩
abbrev iSaveRefused : Stmt := initS (top 48)
def dSaveRefused : He.DefD := ⟨("SaveRefused", some "__init__"), "__init__", "SaveRefused.__init__", defArgs iSaveRefused, defBody iSaveRefused, defScope iSaveRefused, [], []⟩
abbrev iNothingToUndo : Stmt := initS (top 49)
def dNothingToUndo : He.DefD := ⟨("NothingToUndo", some "__init__"), "__init__", "NothingToUndo.__init__", defArgs iNothingToUndo, defBody iNothingToUndo, defScope iNothingToUndo, [], []⟩
abbrev iCommandFailed : Stmt := initS (top 50)
def dCommandFailed : He.DefD := ⟨("CommandFailed", some "__init__"), "__init__", "CommandFailed.__init__", defArgs iCommandFailed, defBody iCommandFailed, defScope iCommandFailed, [], []⟩
abbrev iTooMany : Stmt := initS (top 52)
def dTooMany : He.DefD := ⟨("TooMany", some "__init__"), "__init__", "TooMany.__init__", defArgs iTooMany, defBody iTooMany, defScope iTooMany, [], []⟩
def d_law_pot : He.DefD := ⟨("_law_pot", none), "_law_pot", "_law_pot", defArgs (top 54), defBody (top 54), defScope (top 54), [], []⟩
def d_law_draw : He.DefD := ⟨("_law_draw", none), "_law_draw", "_law_draw", defArgs (top 55), defBody (top 55), defScope (top 55), [], []⟩
def d_law_pick : He.DefD := ⟨("_law_pick", none), "_law_pick", "_law_pick", defArgs (top 56), defBody (top 56), defScope (top 56), [], []⟩
def d_law_fetch : He.DefD := ⟨("_law_fetch", none), "_law_fetch", "_law_fetch", defArgs (top 57), defBody (top 57), defScope (top 57), [], []⟩
def d_law_fetch_too : He.DefD := ⟨("_law_fetch_too", none), "_law_fetch_too", "_law_fetch_too", defArgs (top 58), defBody (top 58), defScope (top 58), [], []⟩
def d_law_missing : He.DefD := ⟨("_law_missing", none), "_law_missing", "_law_missing", defArgs (top 59), defBody (top 59), defScope (top 59), [], []⟩
def d_law_state : He.DefD := ⟨("_law_state", none), "_law_state", "_law_state", defArgs (top 60), defBody (top 60), defScope (top 60), [], []⟩
def d_law_limit : He.DefD := ⟨("_law_limit", none), "_law_limit", "_law_limit", defArgs (top 61), defBody (top 61), defScope (top 61), [], []⟩
def d_law_part : He.DefD := ⟨("_law_part", none), "_law_part", "_law_part", defArgs (top 62), defBody (top 62), defScope (top 62), [], []⟩
def d_law_bases : He.DefD := ⟨("_law_bases", none), "_law_bases", "_law_bases", defArgs (top 63), defBody (top 63), defScope (top 63), [], []⟩
def d_law_are_right : He.DefD := ⟨("_law_are_right", none), "_law_are_right", "_law_are_right", defArgs (top 64), defBody (top 64), defScope (top 64), [], []⟩
def d_law_right : He.DefD := ⟨("_law_right", none), "_law_right", "_law_right", defArgs (top 65), defBody (top 65), defScope (top 65), [], []⟩
def dlaw : He.DefD := ⟨("law", none), "law", "law", defArgs (top 66), defBody (top 66), defScope (top 66), [], []⟩
def fn1 : List He.DefD := [dInvalidKinds, dInvalidFields, dInvalidFlags, dInvalidSchema, dInvalidId, dInvalidRow, dInvalidRows, dInvalidStore, dInvalidWalk, dNoWalk, dInvalidRoots, dInvalidWord, dInvalidPlan, dInvalidLinks, dInvalidRoute, dInvalidPlace, dInvalidPlaces, dInvalidSizeName, dInvalidSize, dInvalidSizes, dInvalidNumber, dInvalidSum, dInvalidChange, dInvalidValue]
def fn2 : List He.DefD := [dInvalidText, dInvalidClaim, dInvalidCommand, dUnknownKind, dUnknownLink, dUnknownObject, dUnknownTarget, dUnknownSpot, dUnknownPath, dUnknownFind, dUnknownName, dTargetTaken, dRowRefused, dLinkRing, dWordRefused, dOtherSchema, dOtherFinds, dNameTaken, dNotKept, dChangesRefused, dSaveRefused, dNothingToUndo, dCommandFailed, dTooMany]
def fn3 : List He.DefD := [d_law_pot, d_law_draw, d_law_pick, d_law_fetch, d_law_fetch_too, d_law_missing, d_law_state, d_law_limit, d_law_part, d_law_bases, d_law_are_right, d_law_right, dlaw]
def loose1 : List Str := ["FetchError", "InvalidKinds", "InvalidFields", "InvalidFlags", "InvalidSchema", "InvalidId", "InvalidRow", "InvalidRows", "InvalidStore", "InvalidWalk", "NoWalk", "InvalidRoots", "InvalidWord", "InvalidPlan", "InvalidLinks", "InvalidRoute", "InvalidPlace", "InvalidPlaces", "InvalidSizeName", "InvalidSize", "InvalidSizes", "InvalidNumber", "InvalidSum", "InvalidChange", "InvalidValue", "InvalidText", "InvalidClaim", "InvalidCommand", "MissingError", "UnknownKind", "UnknownLink", "UnknownObject"]
def loose2 : List Str := ["UnknownTarget", "UnknownSpot", "UnknownPath", "UnknownFind", "UnknownName", "StateError", "TargetTaken", "RowRefused", "LinkRing", "WordRefused", "OtherSchema", "OtherFinds", "NameTaken", "NotKept", "ChangesRefused", "SaveRefused", "NothingToUndo", "CommandFailed", "LimitError", "TooMany", "_law_pot", "_law_draw", "_law_pick", "_law_fetch", "_law_fetch_too", "_law_missing", "_law_state", "_law_limit", "_law_part", "_law_bases", "_law_are_right", "_law_right"]
def fn : List He.DefD := fn1 ++ (fn2 ++ fn3)
def fa : List He.Fa := [.free "abs", .free "max", .free "min", .free "int", .free "len", .free "divmod", .free "all", .free "range", .free "repr", .free "isinstance", .free "ValueError", .free "LookupError", .free "RuntimeError", .free "ArithmeticError",
  .glo "FetchError", .glo "MissingError", .glo "StateError", .glo "LimitError", .glo "_law_pot", .glo "_law_draw", .glo "_law_pick", .glo "_law_fetch", .glo "_law_fetch_too", .glo "_law_missing", .glo "_law_state", .glo "_law_limit",
  .glo "_law_part", .glo "_law_bases", .glo "_law_are_right", .glo "_law_right", .glo "law"]
def ex (K : PySem.W.Frag) : Bool := smB K && (clss1 ++ clss2).all (clsB K)
abbrev R : PySem.W.OpenRow := PySem.W.OpenLaw.row PySem.Challenge.rw_fetchwalks_k14_errors_made
/-- where the facts stand -/
def as0 : List Addr := [3, 6, 4, 24, 44, 63, 82, 101, 120, 139, 158, 177, 196, 215, 234, 253, 272, 291, 310, 329, 348, 367, 386, 405, 424, 443, 462, 481, 500, 519, 538, 550, 570, 589, 608, 627, 646, 665, 684, 703, 715, 735, 754, 773, 792, 811, 830, 849, 868, 887, 906, 925, 944, 956, 976, 985, 992, 999, 1006, 1013, 1020, 1027, 1034, 1041, 1048, 1053, 1058, 1063, 0, 23, 43, 62, 81, 100, 119, 138, 157, 176, 195, 214]
def as1 : List Addr := [233, 252, 271, 290, 309, 328, 347, 366, 385, 404, 423, 442, 461, 480, 499, 518, 537, 549, 569, 588, 607, 626, 645, 664, 683, 702, 714, 734, 753, 772, 791, 810, 829, 848, 867, 886, 905, 924, 943, 955, 975, 984, 991, 998, 1005, 1012, 1019, 1026, 1033, 1040, 1047, 1052, 1057, 1062, 22, 25, 41, 42, 60, 61, 79, 80, 98, 99, 117, 118, 136, 137, 155, 156, 174, 175, 193, 194, 212, 213, 231, 232, 250, 251]
def as2 : List Addr := [269, 270, 288, 289, 307, 308, 326, 327, 345, 346, 364, 365, 383, 384, 402, 403, 421, 422, 440, 441, 459, 460, 478, 479, 497, 498, 516, 517, 535, 536, 548, 551, 567, 568, 586, 587, 605, 606, 624, 625, 643, 644, 662, 663, 681, 682, 700, 701, 713, 716, 732, 733, 751, 752, 770, 771, 789, 790, 808, 809, 827, 828, 846, 847, 865, 866, 884, 885, 903, 904, 922, 923, 941, 942, 954, 957, 973, 974, 979, 980]
def as3 : List Addr := [981, 982, 983, 986, 987, 988, 989, 990, 993, 994, 995, 996, 997, 1000, 1001, 1002, 1003, 1004, 1007, 1008, 1009, 1010, 1011, 1014, 1015, 1016, 1017, 1018, 1021, 1022, 1023, 1024, 1025, 1028, 1029, 1030, 1031, 1032, 1035, 1036, 1037, 1038, 1039, 1042, 1043, 1044, 1045, 1046, 1049, 1050, 1051, 1054, 1055, 1056, 1059, 1060, 1061, 40, 59, 78, 97, 116, 135, 154, 173, 192, 211, 230, 249, 268, 287, 306, 325, 344, 363, 382, 401, 420, 439, 458]
def as4 : List Addr := [477, 496, 515, 534, 566, 585, 604, 623, 642, 661, 680, 699, 731, 750, 769, 788, 807, 826, 845, 864, 883, 902, 921, 940, 972]
def asA : List Addr := sysModules :: (as0 ++ as1 ++ as2 ++ as3 ++ as4)
abbrev hk : PySem.W.Hook := hookF asA fa fn ex
def ob (s : PySem.W.SharedT) : AlF := obsF asA fa fn ex (HandSHeadRun.getT s)
theorem ob_eq (s : PySem.W.SharedT) : ob s = hk.obs s.abs := obsF_eq (HandSHeadRun.getT_eq s)
end K14

/-! K14, part Q: the top's run, looked at three times -/
namespace K14
open PySem PySem.Spec PySem.W PyProof.Rows L2 FW
/-- the state behind the top -/
noncomputable abbrev endS (w : World) (os : OsState) : Option PySem.W.SharedT := HandSHeadRun.endF (HandSHeadRun.stepQ (HandSHeadRun.denQ HandSHeadRun.tabQ) R.prog w) 14000 R.prog w os
theorem runA (w : World) (os : OsState) : (endS w os).map (fun s => (HandSHeadRun.looksF R.prog (boot_heap w.params) s.abs,
    HandSHeadRun.seenQ (view R.prog [66]) (loose1 ++ loose2) (importedModules R.prog.main.body) (fun s => xlAt (view R.prog [66]) [] s && recOk R.toRowW.records s) s.abs)) = some (true, openGood (view R.prog [66]) (loose1 ++ loose2)) := by
  kernel_rfl
theorem runB (w : World) (os : OsState) : (endS w os).map (fun s => He.obsD fa fn (He.frG (HandSHeadRun.getT s) asA)) = some (He.valD fn) := by
  kernel_rfl
theorem runC (w : World) (os : OsState) : (endS w os).map (fun s => ex (He.frG (HandSHeadRun.getT s) asA)) = some true := by
  kernel_rfl
theorem three {S A B C D : Type} {o : Option S} {f1 : S → A × B} {f2 : S → C} {f3 : S → D} {a : A} {b : B} {c : C} {d : D} (h1 : o.map f1 = some (a, b)) (h2 : o.map f2 = some c) (h3 : o.map f3 = some d) :
    o.map (fun s => ((f1 s).1, (f1 s).2, f2 s, f3 s)) = some (a, b, c, d) := by
  cases o with
  | none => cases h1
  | some s =>
    have e1 : f1 s = (a, b) := Option.some.inj h1
    have e2 : f2 s = c := Option.some.inj h2
    have e3 : f3 s = d := Option.some.inj h3
    show some ((f1 s).1, (f1 s).2, f2 s, f3 s) = _
    rw [e1, e2, e3]
theorem run (w : World) : HandSHeadRun.RunEq R (view R.prog [66]) hk ob 14000 (loose1 ++ loose2) w := fun os => three (runA w os) (runB w os) (runC w os)
end K14


/-! K14, part F: the law's small defs -/
namespace K14
open PySem PySem.Spec PyProof.Rows L2 FW
abbrev FnP (K : PySem.W.Frag) (x : Str) (st : Stmt) (f : Addr) (fd : FuncData) : Prop := FunD K x x (defArgs st) (defBody st) (defScope st) [] [] f fd
/-- the built-in names that stand free -/
structure Free (mg : Str → Option Value) (K : PySem.W.Frag) : Prop where
  f_abs : mg "abs" = none
  f_max : mg "max" = none
  f_min : mg "min" = none
  f_int : mg "int" = none
  f_len : mg "len" = none
  f_divmod : mg "divmod" = none
  f_all : mg "all" = none
  f_range : mg "range" = none
  f_repr : mg "repr" = none
  f_isinstance : mg "isinstance" = none
  f_ValueError : mg "ValueError" = none
  f_LookupError : mg "LookupError" = none
  f_RuntimeError : mg "RuntimeError" = none
  f_ArithmeticError : mg "ArithmeticError" = none
  g_FetchError : mg "FetchError" = some (.ref (He.ga K "FetchError"))
  g_MissingError : mg "MissingError" = some (.ref (He.ga K "MissingError"))
  g_StateError : mg "StateError" = some (.ref (He.ga K "StateError"))
  g_LimitError : mg "LimitError" = some (.ref (He.ga K "LimitError"))
  sm : smB K = true
abbrev sPot : Stmt := top 54
abbrev sDraw : Stmt := top 55
abbrev sPick : Stmt := top 56
theorem scPot : FnScope ["_law_script", "_law_k", "_law_cell"] ["_law_script", "_law_k"] (defScope sPot) := ⟨rfl, rfl, rfl, by decide +kernel, rfl, by decide +kernel, by decide +kernel⟩
theorem scDraw : FnScope ["_law_pot_here", "_law_many", "_law_digit"] ["_law_pot_here", "_law_many"] (defScope sDraw) := ⟨rfl, rfl, rfl, by decide +kernel, rfl, by decide +kernel, by decide +kernel⟩
theorem scPick : FnScope ["_law_pot_here", "_law_some"] ["_law_pot_here", "_law_some"] (defScope sPick) := ⟨rfl, rfl, rfl, by decide +kernel, rfl, by decide +kernel, by decide +kernel⟩
section
variable {P : Program} {w : World} {K : PySem.W.Frag} {mg : Str → Option Value} {base : Heap} {f : Addr} {fd : FuncData}
def spPot (K : PySem.W.Frag) : Sp := fun vs H Q _ => ∃ (a : Addr) (ns : List Int) (k : Int), vs = [.ref a, .int k] ∧ SqL K H a (ns.map V.int) ∧ 0 ≤ k ∧ k ≤ 3 ∧ ∀ p x y, H p = none → Q (.ref p) (upd H p (.lst [.int x, .int y]))
theorem ok_pot (F : FnP K "_law_pot" sPot f fd) (T : Free mg K) : FnG P w K mg base CX0 1 f fd ["_law_script", "_law_k"] (spPot K) := by
  refine FunG F scPot (fun vs H Q E h => ?_) (fun cdv A outer s H vs Q E ga hr h => ?_)
  · obtain ⟨a, ns, k, rfl, _⟩ := h
    rfl
  · obtain ⟨a, ns, k, rfl, hS, h0, h1, q⟩ := h
    have sc := scPot
    refine ⟨_, PSs.nox (pss_cons (ps_set (i := 2) sc.nd rfl (Or.inl rfl) (pe_op op_add (pe_op op_mul pe_int (pv 1)) pe_int))
  (pss_cons (ps_if (pt_cmpR op_lt (pv 1) (pe_callB call_len (by rfl) T.f_len (by decide +kernel) (pa_cons (pv 0) pa_nil)) (nomark _)) (pss_one (ps_set (i := 2) sc.nd rfl (Or.inl rfl) (pe_callB call_abs (by rfl) T.f_abs (by decide +kernel) (pa_cons (pe_ix ix_list (pv 0) (pv 1) (fun _ _ => rfl)) pa_nil)))) pss_nil)
  (pss_one (ps_ret (pe_lst (pa_cons (pe_callB (call_max2 rfl) (by rfl) T.f_max (by decide +kernel) (pa_cons pe_int (pa_cons (pe_op op_sub (pv 2) (pe_op op_pow pe_int pe_int)) pa_nil))) (pa_cons (pe_op op_add (pe_op op_mod (pe_op op_mul (pe_callTy call_int1 (by rfl) T.f_int (by decide +kernel) (pa_cons (pe_op op_add (pe_op op_mod (pe_callTy call_int1 (by rfl) T.f_int (by decide +kernel) (pa_cons (pv 2) pa_nil)) pe_int) pe_int) pa_nil)) (pe_op op_pow (pe_op op_add (pe_op op_mul pe_int (pv 1)) pe_int) pe_int)) pe_int) pe_int) pa_nil))))))), ?_⟩
    refine ⟨_, rfl, _, _, rfl, rfl, .inl ⟨by decide, by decide⟩, _, _, rfl, rfl, ?_⟩
    have hp : -(2 ^ 64) < (2 * k + 5) ^ (3 : Int).toNat ∧ (2 * k + 5) ^ (3 : Int).toNat < 2 ^ 64 := by
      obtain rfl | rfl | rfl | rfl : k = 0 ∨ k = 1 ∨ k = 2 ∨ k = 3 := by omega
      all_goals exact ⟨by decide, by decide⟩
    have hk : CMul 2 k := .inl ⟨by decide, by decide⟩
    have hw : CPow (2 * k + 5) 3 := ⟨by decide, by decide, by omega⟩
    refine ⟨_, rfl, _, rfl, _, _, rfl, .inl ⟨_, hS, rfl⟩, _, _, rfl, rfl, _, rfl, ite2 (fun e => ?_) (fun e => ?_)⟩
    · have hl : k.toNat < ns.length := by
        have z := of_decide_eq_true e
        rw [List.length_map] at z
        omega
      refine ⟨_, rfl, _, rfl, a, _, k, .int ns[k.toNat], rfl, rfl, hS, ?_, _, rfl, ?_⟩
      · have z := atI_nat (xs := ns.map V.int) (j := k.toNat) (v := .int ns[k.toNat]) (by rw [List.getElem?_map, List.getElem?_eq_getElem hl]; rfl)
        rw [Int.toNat_of_nonneg h0] at z
        exact z
      · exact ⟨_, rfl, _, _, rfl, rfl, ⟨by decide, by decide, by decide⟩, _, _, rfl, rfl, _, _, rfl, _, rfl, .inl ⟨_, rfl, _, _, rfl, rfl, by show (0 : Int) < 2147483587; decide, _, _, rfl, rfl, .inl ⟨_, rfl, _, rfl, _, _, rfl, rfl, hk, _, _, rfl, rfl,
          _, _, rfl, rfl, hw, _, _, rfl, rfl, Or.inr hp, _, _, rfl, rfl, by show (0 : Int) < 2147483549; decide, _, _, rfl, rfl, by show 2 ≤ sizeLine; decide, fun p hp => q p _ _ hp⟩⟩⟩
    · exact ⟨_, rfl, _, _, rfl, rfl, ⟨by decide, by decide, by decide⟩, _, _, rfl, rfl, _, _, rfl, _, rfl, .inl ⟨_, rfl, _, _, rfl, rfl, by show (0 : Int) < 2147483587; decide, _, _, rfl, rfl, .inl ⟨_, rfl, _, rfl, _, _, rfl, rfl, hk, _, _, rfl, rfl,
          _, _, rfl, rfl, hw, _, _, rfl, rfl, Or.inr hp, _, _, rfl, rfl, by show (0 : Int) < 2147483549; decide, _, _, rfl, rfl, by show 2 ≤ sizeLine; decide, fun p hp => q p _ _ hp⟩⟩⟩
/-- all but what stands at p is as it was -/
def But (p : Addr) (H H' : Hp) : Prop := ∀ b o, b ≠ p → H b = some o → H' b = some o
theorem But.trans {p : Addr} {H H' H'' : Hp} (h : But p H H') (g : But p H' H'') : But p H H'' := fun b o n e => g b o n (h b o n e)
theorem Same.but {p : Addr} {H H' : Hp} (h : Same H H') : But p H H' := fun b o _ e => h b o e
theorem But.self {p : Addr} {H : Hp} : But p H H := fun _ _ _ e => e
def isPot (H : Hp) (p : Addr) : Prop := ∃ x y : Int, H p = some (.lst [.int x, .int y])
def stepY (y : Int) : Int := (y * 39373 + 12227) % 2147483629
def spDraw : Sp := fun vs H Q _ => ∃ (p : Addr) (m : Int), vs = [.ref p, .int m] ∧ isPot H p ∧ 1 ≤ m ∧ m ≤ 1000 ∧ ∀ d H', 0 ≤ d → d < m → But p H H' → isPot H' p → Q (.int d) H'
theorem ok_draw (F : FnP K "_law_draw" sDraw f fd) (T : Free mg K) : FnG P w K mg base CX0 1 f fd ["_law_pot_here", "_law_many"] spDraw := by
  refine FunG F scDraw (fun vs H Q E h => ?_) (fun cdv A outer s H vs Q E ga hr h => ?_)
  · obtain ⟨a, k, rfl, _⟩ := h
    rfl
  · obtain ⟨p, m, rfl, ⟨x, y, hp⟩, h0, h1, q⟩ := h
    have sc := scDraw
    refine ⟨_, PSs.nox (pss_cons (ps_if (pt_cmpR op_gt (pe_ix ix_list (pv 0) pe_int (fun _ _ => rfl)) pe_int (nomark _)) (pss_cons (ps_asg (pe_callB call_divmod (by rfl) T.f_divmod (by decide +kernel) (pa_cons (pe_ix ix_list (pv 0) pe_int (fun _ _ => rfl)) (pa_cons (pv 1) pa_nil))) (pg_tup rfl (pgs_cons (pg_sub (pv 0) pe_int set_list) (pgs_cons (pg_name (i := 2) sc.nd rfl (Or.inl rfl)) pgs_nil))))
  (pss_one (ps_ret (pv 2)))) pss_nil)
  (pss_cons (ps_asg (pe_op op_mod (pe_callTy call_int1 (by rfl) T.f_int (by decide +kernel) (pa_cons (pe_op op_add (pe_op op_mul (pe_ix ix_list (pv 0) pe_int (fun _ _ => rfl)) pe_int) pe_int) pa_nil)) pe_int) (pg_sub (pv 0) pe_int set_list))
  (pss_one (ps_ret (pe_op op_mod (pe_callTy call_int1 (by rfl) T.f_int (by decide +kernel) (pa_cons (pe_op op_fdiv (pe_op op_mod (pe_callTy call_int1 (by rfl) T.f_int (by decide +kernel) (pa_cons (pe_op op_mul (pe_ix ix_list (pv 0) pe_int (fun _ _ => rfl)) (pe_ix ix_list (pv 0) pe_int (fun _ _ => rfl))) pa_nil)) pe_int) pe_int) pa_nil)) (pv 1)))))), ?_⟩
    refine ⟨_, rfl, p, _, 0, .int x, rfl, rfl, SqL.of hp, atI_nat (j := 0) rfl, x, 0, rfl, rfl, _, rfl, ite2 (fun e => ?_) (fun e => ?_)⟩
    · refine ⟨_, rfl, p, _, 0, .int x, rfl, rfl, SqL.of hp, atI_nat (j := 0) rfl, _, rfl, x, m, rfl, ⟨by omega, by omega⟩, fun t ht => ?_⟩
      refine ⟨t, _, rfl, SqT.of upd_same, rfl, _, _, rfl, _, rfl, ?_⟩
      have npt : p ≠ t := ne_of_none hp ht
      refine ⟨p, [.int x, .int y], 0, 0, rfl, rfl, by rw [upd_ne npt]; exact hp, rfl, _, _, rfl, rfl, ?_⟩
      refine ⟨_, rfl, q _ _ (Int.emod_nonneg _ (by omega)) (Int.emod_lt_of_pos _ (by omega)) (fun b o nb eb => ?_) ⟨x / m, y, upd_same⟩⟩
      rw [upd_ne nb, upd_ne (ne_of_none eb ht)]
      exact eb
    · refine ⟨_, rfl, p, _, 1, .int y, rfl, rfl, SqL.of hp, atI_nat (j := 1) rfl, _, _, rfl, rfl, .inr ⟨by decide, by decide⟩, _, _, rfl, rfl, .inl ⟨_, rfl, _, _, rfl, rfl, by show (0 : Int) < 2147483629; decide, ?_⟩⟩
      refine ⟨_, rfl, p, _, 1, 1, rfl, rfl, hp, rfl, ?_⟩
      have z0 : 0 ≤ stepY y := Int.emod_nonneg _ (by decide)
      have z1 : stepY y < 2147483629 := Int.emod_lt_of_pos _ (by decide)
      have e1 : upd H p (.lst ([V.int x, V.int y].set 1 (.int (stepY y)))) p = some (.lst [.int x, .int (stepY y)]) := upd_same
      refine ⟨_, rfl, p, _, 1, .int (stepY y), rfl, rfl, SqL.of e1, atI_nat (j := 1) rfl, _, rfl, p, _, 1, .int (stepY y), rfl, rfl, SqL.of e1, atI_nat (j := 1) rfl, stepY y, stepY y, rfl, rfl, .inl ⟨by omega, by omega⟩, .inl ⟨_, rfl, _, _, rfl, rfl, by show (0 : Int) < 2147483563; decide,
        _, _, rfl, rfl, ⟨by decide, by decide⟩, .inl ⟨_, rfl, ?_⟩⟩⟩
      refine ⟨_, rfl, _, m, rfl, rfl, by omega, q _ _ (Int.emod_nonneg _ (by omega)) (Int.emod_lt_of_pos _ (by omega)) (fun b o nb eb => ?_) ⟨x, stepY y, upd_same⟩⟩
      rw [upd_ne nb]
      exact eb
def spPick (K : PySem.W.Frag) : Sp := fun vs H Q _ => ∃ (p l : Addr) (xs : List V), vs = [.ref p, .ref l] ∧ isPot H p ∧ l ≠ p ∧ H l = some (.lst xs) ∧ 0 < xs.length ∧ xs.length ≤ 1000 ∧ ∀ v H', v ∈ xs → But p H H' → isPot H' p → Q v H'
/-! -/
theorem ok_pick (F : FnP K "_law_pick" sPick f fd) (T : Free mg K) (d_draw : Def1 P w K mg base "_law_draw" 1 ["_law_pot_here", "_law_many"] spDraw) : FnG P w K mg base CX0 2 f fd ["_law_pot_here", "_law_some"] (spPick K) := by
  refine FunG F scPick (fun vs H Q E h => ?_) (fun cdv A outer s H vs Q E ga hr h => ?_)
  · obtain ⟨a, k, _, rfl, _⟩ := h
    rfl
  · obtain ⟨p, l, xs, rfl, hp, nl, hl, h0, h1, q⟩ := h
    have sc := scPick
    refine ⟨_, PSs.nox (pss_one (ps_ret (pe_ix ix_list (pv 1) (pg_c d_draw ga (hr.mono (by decide)) rfl (pa_cons (pv 0) (pa_cons (pe_callB call_len (by rfl) T.f_len (by decide +kernel) (pa_cons (pv 1) pa_nil)) pa_nil))) (fun _ _ => rfl)))), ?_⟩
    refine ⟨_, rfl, _, rfl, _, rfl, _, _, rfl, .inl ⟨_, SqL.of hl, rfl⟩, p, _, rfl, hp, by omega, by omega, fun d H' d0 d1 hb hp' => ?_⟩
    have el : H' l = some (.lst xs) := hb _ _ nl hl
    have hd : d.toNat < xs.length := by omega
    have z := atI_nat (xs := xs) (j := d.toNat) (v := xs[d.toNat]) (List.getElem?_eq_getElem hd)
    rw [Int.toNat_of_nonneg d0] at z
    exact ⟨l, xs, d, _, rfl, rfl, SqL.of el, z, q _ _ (List.getElem_mem hd) hb hp'⟩
end
end K14

/-! K14, part G: the rows of errors -/
namespace K14
open PySem PySem.Spec PyProof.Rows L2 FW
structure Clss (P : Program) (w : World) (K : PySem.W.Frag) (mg : Str → Option Value) (base : Heap) : Prop where
  InvalidKinds : Cls1 P w K mg base "InvalidKinds" 0 ["position"]
  InvalidFields : Cls1 P w K mg base "InvalidFields" 0 ["name"]
  InvalidFlags : Cls1 P w K mg base "InvalidFlags" 0 ["name"]
  InvalidSchema : Cls1 P w K mg base "InvalidSchema" 0 ["value"]
  InvalidId : Cls1 P w K mg base "InvalidId" 0 ["value"]
  InvalidRow : Cls1 P w K mg base "InvalidRow" 0 ["name"]
  InvalidRows : Cls1 P w K mg base "InvalidRows" 0 ["position"]
  InvalidStore : Cls1 P w K mg base "InvalidStore" 0 ["value"]
  InvalidWalk : Cls1 P w K mg base "InvalidWalk" 0 ["problem", "place"]
  NoWalk : Cls1 P w K mg base "NoWalk" 0 ["value"]
  InvalidRoots : Cls1 P w K mg base "InvalidRoots" 0 ["find"]
  InvalidWord : Cls1 P w K mg base "InvalidWord" 0 ["value"]
  InvalidPlan : Cls1 P w K mg base "InvalidPlan" 0 ["value"]
  InvalidLinks : Cls1 P w K mg base "InvalidLinks" 0 ["position"]
  InvalidRoute : Cls1 P w K mg base "InvalidRoute" 0 ["value"]
  InvalidPlace : Cls1 P w K mg base "InvalidPlace" 0 ["value"]
  InvalidPlaces : Cls1 P w K mg base "InvalidPlaces" 0 ["value"]
  InvalidSizeName : Cls1 P w K mg base "InvalidSizeName" 0 ["value"]
  InvalidSize : Cls1 P w K mg base "InvalidSize" 0 ["value"]
  InvalidSizes : Cls1 P w K mg base "InvalidSizes" 0 ["value"]
  InvalidNumber : Cls1 P w K mg base "InvalidNumber" 0 ["value"]
  InvalidSum : Cls1 P w K mg base "InvalidSum" 0 ["value"]
  InvalidChange : Cls1 P w K mg base "InvalidChange" 0 ["position"]
  InvalidValue : Cls1 P w K mg base "InvalidValue" 0 ["value"]
  InvalidText : Cls1 P w K mg base "InvalidText" 0 ["line"]
  InvalidClaim : Cls1 P w K mg base "InvalidClaim" 0 ["value"]
  InvalidCommand : Cls1 P w K mg base "InvalidCommand" 0 ["value"]
  UnknownKind : Cls1 P w K mg base "UnknownKind" 1 ["value"]
  UnknownLink : Cls1 P w K mg base "UnknownLink" 1 ["value"]
  UnknownObject : Cls1 P w K mg base "UnknownObject" 1 ["kind", "number"]
  UnknownTarget : Cls1 P w K mg base "UnknownTarget" 1 ["field", "number"]
  UnknownSpot : Cls1 P w K mg base "UnknownSpot" 1 ["value"]
  UnknownPath : Cls1 P w K mg base "UnknownPath" 1 ["value"]
  UnknownFind : Cls1 P w K mg base "UnknownFind" 1 ["value"]
  UnknownName : Cls1 P w K mg base "UnknownName" 1 ["value"]
  TargetTaken : Cls1 P w K mg base "TargetTaken" 2 ["field", "number", "by"]
  RowRefused : Cls1 P w K mg base "RowRefused" 2 ["kind", "number"]
  LinkRing : Cls1 P w K mg base "LinkRing" 2 ["ring"]
  WordRefused : Cls1 P w K mg base "WordRefused" 2 ["link", "word"]
  OtherSchema : Cls1 P w K mg base "OtherSchema" 2 []
  OtherFinds : Cls1 P w K mg base "OtherFinds" 2 ["one", "other"]
  NameTaken : Cls1 P w K mg base "NameTaken" 2 ["name"]
  NotKept : Cls1 P w K mg base "NotKept" 2 ["kind", "number"]
  ChangesRefused : Cls1 P w K mg base "ChangesRefused" 2 ["position"]
  SaveRefused : Cls1 P w K mg base "SaveRefused" 2 ["first", "second"]
  NothingToUndo : Cls1 P w K mg base "NothingToUndo" 2 []
  CommandFailed : Cls1 P w K mg base "CommandFailed" 2 ["position"]
  TooMany : Cls1 P w K mg base "TooMany" 3 ["what", "limit"]
/-- the parts of an error, and how the law writes their names -/
def TABLE : List (List Str × Str) := [(["position"], "position"), (["name"], "name"), (["value"], "value"), (["problem", "place"], "problem place"), (["find"], "find"), (["line"], "line"), (["kind", "number"], "kind number"),
  (["field", "number"], "field number"), (["field", "number", "by"], "field number by"), (["ring"], "ring"), (["link", "word"], "link word"), ([], ""), (["one", "other"], "one other"), (["first", "second"], "first second"), (["what", "limit"], "what limit")]
def RowOk (K : PySem.W.Frag) (H : Hp) (b : Nat) (vals : List V) (r : V) : Prop := ∃ (t : Addr) (e : V) (fs : List Str) (w : Str), r = .ref t ∧ H t = some (.tup [e, .str w]) ∧ (fs, w) ∈ TABLE ∧ IsX K H e b fs (vals.take fs.length)
def RowsAt (K : PySem.W.Frag) (H0 : Hp) (b : Nat) (vals : List V) (l : Addr) (n : Nat) (H : Hp) : Prop := Same H0 H ∧ H0 l = none ∧ ∃ rows, H l = some (.lst rows) ∧ rows.length = n ∧ ∀ r ∈ rows, RowOk K H b vals r
theorem isX_but {K : PySem.W.Frag} {H H' : Hp} {l : Addr} {ys : List V} {v : V} {b : Nat} {fs : List Str} {vs : List V} (s : But l H H') (el : H l = some (.lst ys)) (h : IsX K H v b fs vs) : IsX K H' v b fs vs := by
  obtain ⟨a, C, e, T, k, n, z⟩ := h
  refine ⟨a, C, e, T, k, n, ?_⟩
  rcases z with ⟨e0, z⟩ | ⟨d, z1, z2⟩
  · exact .inl ⟨e0, s _ _ (ne_of z el (by intro q; cases q)) z⟩
  · exact .inr ⟨d, s _ _ (ne_of z1 el (by intro q; cases q)) z1, s _ _ (ne_of z2 el (by intro q; cases q)) z2⟩
theorem RowOk.but {K : PySem.W.Frag} {H H' : Hp} {l : Addr} {ys : List V} {b : Nat} {vals : List V} {r : V} (s : But l H H') (el : H l = some (.lst ys)) (h : RowOk K H b vals r) : RowOk K H' b vals r := by
  obtain ⟨t, e, fs, w, e1, e2, e3, e4⟩ := h
  exact ⟨t, e, fs, w, e1, s _ _ (ne_of e2 el (by intro q; cases q)) e2, e3, isX_but s el e4⟩
theorem RowOk.same {K : PySem.W.Frag} {H H' : Hp} {b : Nat} {vals : List V} {r : V} (s : Same H H') (h : RowOk K H b vals r) : RowOk K H' b vals r := by
  obtain ⟨t, e, fs, w, e1, e2, e3, e4⟩ := h
  exact ⟨t, e, fs, w, e1, s _ _ e2, e3, e4.same s⟩
theorem add_any {K : PySem.W.Frag} {b n i : Nat} {vals : List V} {l : Addr} {σ : L2.St} {H H0 : Hp} {fs : List Str} {w : Str} {te : TE} {D : Ends} (J : RowsAt K H0 b vals l n H) (hl : σ[i]? = some (some (.ref l))) (ht : (fs, w) ∈ TABLE)
    (hv : ∀ Q : VK, (∀ v H', IsX K H' v b fs (vals.take fs.length) → Same H H' → Q v H') → te σ H Q) (hn : n < 100) (next : ∀ H', RowsAt K H0 b vals l (n + 1) H' → D.nx σ H') :
    tDrop (tBM K "list" rAppend (tVar i) (tCons (tTup (tCons te (tCons (tC (.str w)) tNil))) tNil)) D σ H := by
  obtain ⟨s0, nl, rows, el, hr, hR⟩ := J
  refine ⟨_, hl, .inl ⟨rfl, _, SqL.of el⟩, hv _ fun v H1 x s1 => ⟨by show 2 ≤ sizeLine; decide, fun t ht1 => ?_⟩⟩
  have e1 : H1 l = some (.lst rows) := s1 _ _ el
  have nlt : l ≠ t := ne_of_none e1 ht1
  have s2 : Same H1 (upd H1 t (.tup [v, .str w])) := fun b o e => by rw [upd_ne (ne_of_none e ht1)]; exact e
  have e2 : upd H1 t (.tup [v, .str w]) l = some (.lst rows) := s2 _ _ e1
  refine ⟨l, rows, _, rfl, rfl, e2, small1000 (by omega), next _ ⟨?_, nl, _, upd_same, by rw [List.length_append, hr]; rfl, ?_⟩⟩
  · intro b' o e
    have nb : b' ≠ l := ne_of_none e nl
    rw [upd_ne nb]
    exact s2 _ _ (s1 _ _ (s0 _ _ e))
  · have sb : But l (upd H1 t (.tup [v, .str w])) (upd (upd H1 t (.tup [v, .str w])) l (.lst (rows ++ [.ref t]))) := fun b' o nb e => by rw [upd_ne nb]; exact e
    intro r hrm
    rcases List.mem_append.mp hrm with h | h
    · exact ((hR r h).same (s1.trans s2)).but sb e2
    · have er : r = .ref t := by simpa using h
      exact ⟨t, v, fs, w, er, by rw [upd_ne nlt.symm]; exact upd_same, ht, isX_but sb e2 (x.same s2)⟩
section
variable {K : PySem.W.Frag} {b n i : Nat} {vals : List V} {l : Addr} {σ : L2.St} {H H0 : Hp} {fs : List Str} {w : Str} {ta : TA} {D : Ends}
theorem add_row (J : RowsAt K H0 b vals l n H) (hl : σ[i]? = some (some (.ref l))) (ht : (fs, w) ∈ TABLE)
    (hv : ∀ Q : List V → Hp → Prop, Q (vals.take fs.length) H → ta σ H Q) (hl2 : (vals.take fs.length).length = fs.length ∧ fs.length ≤ 900) (hn : n < 100) (next : ∀ H', RowsAt K H0 b vals l (n + 1) H' → D.nx σ H') :
    tDrop (tBM K "list" rAppend (tVar i) (tCons (tTup (tCons (tX K b fs ta) (tCons (tC (.str w)) tNil))) tNil)) D σ H :=
  add_any J hl ht (fun Q q => hv _ ⟨hl2.1, hl2.2, q⟩) hn next
theorem add_rowK (J : RowsAt K H0 b vals l n H) (hl : σ[i]? = some (some (.ref l))) (ht : (fs, w) ∈ TABLE)
    (hv : ∀ Q : List V → Hp → Prop, Q (vals.take fs.length).reverse H → ta σ H Q) (hl2 : (vals.take fs.length).length = fs.length ∧ fs.length ≤ 900) (hn : n < 100) (next : ∀ H', RowsAt K H0 b vals l (n + 1) H' → D.nx σ H') :
    tDrop (tBM K "list" rAppend (tVar i) (tCons (tTup (tCons (tXK K b fs ta) (tCons (tC (.str w)) tNil))) tNil)) D σ H :=
  add_any J hl ht (fun Q q => hv _ ⟨by rw [List.length_reverse]; exact hl2.1, hl2.2, fun v H' x s => q v H' (by rw [List.reverse_reverse] at x; exact x) s⟩) hn next
end
def spRows (K : PySem.W.Frag) (b : Nat) : Sp := fun vs H Q _ => ∃ v1 v2 v3, vs = [v1, v2, v3] ∧ ∀ l n H', RowsAt K H b [v1, v2, v3] l n H' → n < 100 → Q (.ref l) H'
theorem rows_new {K : PySem.W.Frag} {H : Hp} {b : Nat} {vals : List V} {l : Addr} (h : H l = none) : RowsAt K H b vals l 0 (upd H l (.lst [])) :=
  ⟨fun b o e => by rw [upd_ne (ne_of_none e h)]; exact e, h, [], upd_same, rfl, fun r hr => nomatch hr⟩
abbrev sFetch : Stmt := top 57
theorem scFetch : FnScope ["_law_red", "_law_blue", "_law_green", "_law_found"] ["_law_red", "_law_blue", "_law_green"] (defScope sFetch) := ⟨rfl, rfl, rfl, by decide +kernel, rfl, by decide +kernel, by decide +kernel⟩
abbrev sFetchToo : Stmt := top 58
theorem scFetchToo : FnScope ["_law_red", "_law_blue", "_law_green", "_law_found"] ["_law_red", "_law_blue", "_law_green"] (defScope sFetchToo) := ⟨rfl, rfl, rfl, by decide +kernel, rfl, by decide +kernel, by decide +kernel⟩
abbrev sMissing : Stmt := top 59
theorem scMissing : FnScope ["_law_red", "_law_blue", "_law_green", "_law_found"] ["_law_red", "_law_blue", "_law_green"] (defScope sMissing) := ⟨rfl, rfl, rfl, by decide +kernel, rfl, by decide +kernel, by decide +kernel⟩
abbrev sState : Stmt := top 60
theorem scState : FnScope ["_law_red", "_law_blue", "_law_green", "_law_found"] ["_law_red", "_law_blue", "_law_green"] (defScope sState) := ⟨rfl, rfl, rfl, by decide +kernel, rfl, by decide +kernel, by decide +kernel⟩
abbrev sLimit : Stmt := top 61
theorem scLimit : FnScope ["_law_red", "_law_blue", "_law_green", "_law_found"] ["_law_red", "_law_blue", "_law_green"] (defScope sLimit) := ⟨rfl, rfl, rfl, by decide +kernel, rfl, by decide +kernel, by decide +kernel⟩
section
variable {P : Program} {w : World} {K : PySem.W.Frag} {mg : Str → Option Value} {base : Heap} {f : Addr} {fd : FuncData}
theorem ok_fetch (F : FnP K "_law_fetch" sFetch f fd) (C : Clss P w K mg base) : FnG P w K mg base CX0 3 f fd ["_law_red", "_law_blue", "_law_green"] (spRows K 0) := by
  refine FunG F scFetch (fun vs H Q E h => ?_) (fun cdv A outer s H vs Q E ga hr h => ?_)
  · obtain ⟨a, b, c, rfl, _⟩ := h
    rfl
  · obtain ⟨r, u, g, rfl, q⟩ := h
    have sc := scFetch
    refine ⟨_, PSs.nox (pss_cons (ps_set (i := 3) sc.nd rfl (Or.inl rfl) (pe_lst pa_nil))
  (pss_cons (ps_expr (pe_bm PySem.F.plainAttrs_list PySem.F.slot_list_append PySem.F.type_list_append mt_append (pv 3) (pa_cons (pe_tup (pa_cons (pg_xc (C.InvalidKinds) ga (hr.mono (by decide)) rfl (pa_cons (pv 0) pa_nil)) (pa_cons pe_str pa_nil))) pa_nil)))
  (pss_cons (ps_expr (pe_bm PySem.F.plainAttrs_list PySem.F.slot_list_append PySem.F.type_list_append mt_append (pv 3) (pa_cons (pe_tup (pa_cons (pg_xcK (C.InvalidKinds) ga (hr.mono (by decide)) rfl (pk_cons (pv 0) pk_nil)) (pa_cons pe_str pa_nil))) pa_nil)))
  (pss_cons (ps_expr (pe_bm PySem.F.plainAttrs_list PySem.F.slot_list_append PySem.F.type_list_append mt_append (pv 3) (pa_cons (pe_tup (pa_cons (pg_xc (C.InvalidFields) ga (hr.mono (by decide)) rfl (pa_cons (pv 0) pa_nil)) (pa_cons pe_str pa_nil))) pa_nil)))
  (pss_cons (ps_expr (pe_bm PySem.F.plainAttrs_list PySem.F.slot_list_append PySem.F.type_list_append mt_append (pv 3) (pa_cons (pe_tup (pa_cons (pg_xcK (C.InvalidFields) ga (hr.mono (by decide)) rfl (pk_cons (pv 0) pk_nil)) (pa_cons pe_str pa_nil))) pa_nil)))
  (pss_cons (ps_expr (pe_bm PySem.F.plainAttrs_list PySem.F.slot_list_append PySem.F.type_list_append mt_append (pv 3) (pa_cons (pe_tup (pa_cons (pg_xc (C.InvalidFlags) ga (hr.mono (by decide)) rfl (pa_cons (pv 0) pa_nil)) (pa_cons pe_str pa_nil))) pa_nil)))
  (pss_cons (ps_expr (pe_bm PySem.F.plainAttrs_list PySem.F.slot_list_append PySem.F.type_list_append mt_append (pv 3) (pa_cons (pe_tup (pa_cons (pg_xcK (C.InvalidFlags) ga (hr.mono (by decide)) rfl (pk_cons (pv 0) pk_nil)) (pa_cons pe_str pa_nil))) pa_nil)))
  (pss_cons (ps_expr (pe_bm PySem.F.plainAttrs_list PySem.F.slot_list_append PySem.F.type_list_append mt_append (pv 3) (pa_cons (pe_tup (pa_cons (pg_xc (C.InvalidSchema) ga (hr.mono (by decide)) rfl (pa_cons (pv 0) pa_nil)) (pa_cons pe_str pa_nil))) pa_nil)))
  (pss_cons (ps_expr (pe_bm PySem.F.plainAttrs_list PySem.F.slot_list_append PySem.F.type_list_append mt_append (pv 3) (pa_cons (pe_tup (pa_cons (pg_xcK (C.InvalidSchema) ga (hr.mono (by decide)) rfl (pk_cons (pv 0) pk_nil)) (pa_cons pe_str pa_nil))) pa_nil)))
  (pss_cons (ps_expr (pe_bm PySem.F.plainAttrs_list PySem.F.slot_list_append PySem.F.type_list_append mt_append (pv 3) (pa_cons (pe_tup (pa_cons (pg_xc (C.InvalidId) ga (hr.mono (by decide)) rfl (pa_cons (pv 0) pa_nil)) (pa_cons pe_str pa_nil))) pa_nil)))
  (pss_cons (ps_expr (pe_bm PySem.F.plainAttrs_list PySem.F.slot_list_append PySem.F.type_list_append mt_append (pv 3) (pa_cons (pe_tup (pa_cons (pg_xcK (C.InvalidId) ga (hr.mono (by decide)) rfl (pk_cons (pv 0) pk_nil)) (pa_cons pe_str pa_nil))) pa_nil)))
  (pss_cons (ps_expr (pe_bm PySem.F.plainAttrs_list PySem.F.slot_list_append PySem.F.type_list_append mt_append (pv 3) (pa_cons (pe_tup (pa_cons (pg_xc (C.InvalidRow) ga (hr.mono (by decide)) rfl (pa_cons (pv 0) pa_nil)) (pa_cons pe_str pa_nil))) pa_nil)))
  (pss_cons (ps_expr (pe_bm PySem.F.plainAttrs_list PySem.F.slot_list_append PySem.F.type_list_append mt_append (pv 3) (pa_cons (pe_tup (pa_cons (pg_xcK (C.InvalidRow) ga (hr.mono (by decide)) rfl (pk_cons (pv 0) pk_nil)) (pa_cons pe_str pa_nil))) pa_nil)))
  (pss_cons (ps_expr (pe_bm PySem.F.plainAttrs_list PySem.F.slot_list_append PySem.F.type_list_append mt_append (pv 3) (pa_cons (pe_tup (pa_cons (pg_xc (C.InvalidRows) ga (hr.mono (by decide)) rfl (pa_cons (pv 0) pa_nil)) (pa_cons pe_str pa_nil))) pa_nil)))
  (pss_cons (ps_expr (pe_bm PySem.F.plainAttrs_list PySem.F.slot_list_append PySem.F.type_list_append mt_append (pv 3) (pa_cons (pe_tup (pa_cons (pg_xcK (C.InvalidRows) ga (hr.mono (by decide)) rfl (pk_cons (pv 0) pk_nil)) (pa_cons pe_str pa_nil))) pa_nil)))
  (pss_cons (ps_expr (pe_bm PySem.F.plainAttrs_list PySem.F.slot_list_append PySem.F.type_list_append mt_append (pv 3) (pa_cons (pe_tup (pa_cons (pg_xc (C.InvalidStore) ga (hr.mono (by decide)) rfl (pa_cons (pv 0) pa_nil)) (pa_cons pe_str pa_nil))) pa_nil)))
  (pss_cons (ps_expr (pe_bm PySem.F.plainAttrs_list PySem.F.slot_list_append PySem.F.type_list_append mt_append (pv 3) (pa_cons (pe_tup (pa_cons (pg_xcK (C.InvalidStore) ga (hr.mono (by decide)) rfl (pk_cons (pv 0) pk_nil)) (pa_cons pe_str pa_nil))) pa_nil)))
  (pss_cons (ps_expr (pe_bm PySem.F.plainAttrs_list PySem.F.slot_list_append PySem.F.type_list_append mt_append (pv 3) (pa_cons (pe_tup (pa_cons (pg_xc (C.InvalidWalk) ga (hr.mono (by decide)) rfl (pa_cons (pv 0) (pa_cons (pv 1) pa_nil))) (pa_cons pe_str pa_nil))) pa_nil)))
  (pss_cons (ps_expr (pe_bm PySem.F.plainAttrs_list PySem.F.slot_list_append PySem.F.type_list_append mt_append (pv 3) (pa_cons (pe_tup (pa_cons (pg_xcK (C.InvalidWalk) ga (hr.mono (by decide)) rfl (pk_cons (pv 1) (pk_cons (pv 0) pk_nil))) (pa_cons pe_str pa_nil))) pa_nil)))
  (pss_cons (ps_expr (pe_bm PySem.F.plainAttrs_list PySem.F.slot_list_append PySem.F.type_list_append mt_append (pv 3) (pa_cons (pe_tup (pa_cons (pg_xc (C.NoWalk) ga (hr.mono (by decide)) rfl (pa_cons (pv 0) pa_nil)) (pa_cons pe_str pa_nil))) pa_nil)))
  (pss_cons (ps_expr (pe_bm PySem.F.plainAttrs_list PySem.F.slot_list_append PySem.F.type_list_append mt_append (pv 3) (pa_cons (pe_tup (pa_cons (pg_xcK (C.NoWalk) ga (hr.mono (by decide)) rfl (pk_cons (pv 0) pk_nil)) (pa_cons pe_str pa_nil))) pa_nil)))
  (pss_cons (ps_expr (pe_bm PySem.F.plainAttrs_list PySem.F.slot_list_append PySem.F.type_list_append mt_append (pv 3) (pa_cons (pe_tup (pa_cons (pg_xc (C.InvalidRoots) ga (hr.mono (by decide)) rfl (pa_cons (pv 0) pa_nil)) (pa_cons pe_str pa_nil))) pa_nil)))
  (pss_cons (ps_expr (pe_bm PySem.F.plainAttrs_list PySem.F.slot_list_append PySem.F.type_list_append mt_append (pv 3) (pa_cons (pe_tup (pa_cons (pg_xcK (C.InvalidRoots) ga (hr.mono (by decide)) rfl (pk_cons (pv 0) pk_nil)) (pa_cons pe_str pa_nil))) pa_nil)))
  (pss_cons (ps_expr (pe_bm PySem.F.plainAttrs_list PySem.F.slot_list_append PySem.F.type_list_append mt_append (pv 3) (pa_cons (pe_tup (pa_cons (pg_xc (C.InvalidWord) ga (hr.mono (by decide)) rfl (pa_cons (pv 0) pa_nil)) (pa_cons pe_str pa_nil))) pa_nil)))
  (pss_cons (ps_expr (pe_bm PySem.F.plainAttrs_list PySem.F.slot_list_append PySem.F.type_list_append mt_append (pv 3) (pa_cons (pe_tup (pa_cons (pg_xcK (C.InvalidWord) ga (hr.mono (by decide)) rfl (pk_cons (pv 0) pk_nil)) (pa_cons pe_str pa_nil))) pa_nil)))
  (pss_cons (ps_expr (pe_bm PySem.F.plainAttrs_list PySem.F.slot_list_append PySem.F.type_list_append mt_append (pv 3) (pa_cons (pe_tup (pa_cons (pg_xc (C.InvalidPlan) ga (hr.mono (by decide)) rfl (pa_cons (pv 0) pa_nil)) (pa_cons pe_str pa_nil))) pa_nil)))
  (pss_cons (ps_expr (pe_bm PySem.F.plainAttrs_list PySem.F.slot_list_append PySem.F.type_list_append mt_append (pv 3) (pa_cons (pe_tup (pa_cons (pg_xcK (C.InvalidPlan) ga (hr.mono (by decide)) rfl (pk_cons (pv 0) pk_nil)) (pa_cons pe_str pa_nil))) pa_nil)))
  (pss_cons (ps_expr (pe_bm PySem.F.plainAttrs_list PySem.F.slot_list_append PySem.F.type_list_append mt_append (pv 3) (pa_cons (pe_tup (pa_cons (pg_xc (C.InvalidLinks) ga (hr.mono (by decide)) rfl (pa_cons (pv 0) pa_nil)) (pa_cons pe_str pa_nil))) pa_nil)))
  (pss_cons (ps_expr (pe_bm PySem.F.plainAttrs_list PySem.F.slot_list_append PySem.F.type_list_append mt_append (pv 3) (pa_cons (pe_tup (pa_cons (pg_xcK (C.InvalidLinks) ga (hr.mono (by decide)) rfl (pk_cons (pv 0) pk_nil)) (pa_cons pe_str pa_nil))) pa_nil)))
  (pss_one (ps_ret (pv 3)))))))))))))))))))))))))))))))), ?_⟩
    refine ⟨Nat.zero_le _, fun l hl => ?_⟩
    have J := rows_new (K := K) (b := 0) (vals := [r, u, g]) hl
    refine add_row J rfl (by decide) (fun Q h => ⟨_, rfl, h⟩) ⟨rfl, by decide⟩ (by decide) fun H1 J => ?_
    refine add_rowK J rfl (by decide) (fun Q h => ⟨_, rfl, h⟩) ⟨rfl, by decide⟩ (by decide) fun H1 J => ?_
    refine add_row J rfl (by decide) (fun Q h => ⟨_, rfl, h⟩) ⟨rfl, by decide⟩ (by decide) fun H1 J => ?_
    refine add_rowK J rfl (by decide) (fun Q h => ⟨_, rfl, h⟩) ⟨rfl, by decide⟩ (by decide) fun H1 J => ?_
    refine add_row J rfl (by decide) (fun Q h => ⟨_, rfl, h⟩) ⟨rfl, by decide⟩ (by decide) fun H1 J => ?_
    refine add_rowK J rfl (by decide) (fun Q h => ⟨_, rfl, h⟩) ⟨rfl, by decide⟩ (by decide) fun H1 J => ?_
    refine add_row J rfl (by decide) (fun Q h => ⟨_, rfl, h⟩) ⟨rfl, by decide⟩ (by decide) fun H1 J => ?_
    refine add_rowK J rfl (by decide) (fun Q h => ⟨_, rfl, h⟩) ⟨rfl, by decide⟩ (by decide) fun H1 J => ?_
    refine add_row J rfl (by decide) (fun Q h => ⟨_, rfl, h⟩) ⟨rfl, by decide⟩ (by decide) fun H1 J => ?_
    refine add_rowK J rfl (by decide) (fun Q h => ⟨_, rfl, h⟩) ⟨rfl, by decide⟩ (by decide) fun H1 J => ?_
    refine add_row J rfl (by decide) (fun Q h => ⟨_, rfl, h⟩) ⟨rfl, by decide⟩ (by decide) fun H1 J => ?_
    refine add_rowK J rfl (by decide) (fun Q h => ⟨_, rfl, h⟩) ⟨rfl, by decide⟩ (by decide) fun H1 J => ?_
    refine add_row J rfl (by decide) (fun Q h => ⟨_, rfl, h⟩) ⟨rfl, by decide⟩ (by decide) fun H1 J => ?_
    refine add_rowK J rfl (by decide) (fun Q h => ⟨_, rfl, h⟩) ⟨rfl, by decide⟩ (by decide) fun H1 J => ?_
    refine add_row J rfl (by decide) (fun Q h => ⟨_, rfl, h⟩) ⟨rfl, by decide⟩ (by decide) fun H1 J => ?_
    refine add_rowK J rfl (by decide) (fun Q h => ⟨_, rfl, h⟩) ⟨rfl, by decide⟩ (by decide) fun H1 J => ?_
    refine add_row J rfl (by decide) (fun Q h => ⟨_, rfl, _, rfl, h⟩) ⟨rfl, by decide⟩ (by decide) fun H1 J => ?_
    refine add_rowK J rfl (by decide) (fun Q h => ⟨_, rfl, _, rfl, h⟩) ⟨rfl, by decide⟩ (by decide) fun H1 J => ?_
    refine add_row J rfl (by decide) (fun Q h => ⟨_, rfl, h⟩) ⟨rfl, by decide⟩ (by decide) fun H1 J => ?_
    refine add_rowK J rfl (by decide) (fun Q h => ⟨_, rfl, h⟩) ⟨rfl, by decide⟩ (by decide) fun H1 J => ?_
    refine add_row J rfl (by decide) (fun Q h => ⟨_, rfl, h⟩) ⟨rfl, by decide⟩ (by decide) fun H1 J => ?_
    refine add_rowK J rfl (by decide) (fun Q h => ⟨_, rfl, h⟩) ⟨rfl, by decide⟩ (by decide) fun H1 J => ?_
    refine add_row J rfl (by decide) (fun Q h => ⟨_, rfl, h⟩) ⟨rfl, by decide⟩ (by decide) fun H1 J => ?_
    refine add_rowK J rfl (by decide) (fun Q h => ⟨_, rfl, h⟩) ⟨rfl, by decide⟩ (by decide) fun H1 J => ?_
    refine add_row J rfl (by decide) (fun Q h => ⟨_, rfl, h⟩) ⟨rfl, by decide⟩ (by decide) fun H1 J => ?_
    refine add_rowK J rfl (by decide) (fun Q h => ⟨_, rfl, h⟩) ⟨rfl, by decide⟩ (by decide) fun H1 J => ?_
    refine add_row J rfl (by decide) (fun Q h => ⟨_, rfl, h⟩) ⟨rfl, by decide⟩ (by decide) fun H1 J => ?_
    refine add_rowK J rfl (by decide) (fun Q h => ⟨_, rfl, h⟩) ⟨rfl, by decide⟩ (by decide) fun H1 J => ?_
    exact ⟨_, rfl, q _ _ _ J (by decide)⟩
theorem ok_fetch_too (F : FnP K "_law_fetch_too" sFetchToo f fd) (C : Clss P w K mg base) : FnG P w K mg base CX0 3 f fd ["_law_red", "_law_blue", "_law_green"] (spRows K 0) := by
  refine FunG F scFetchToo (fun vs H Q E h => ?_) (fun cdv A outer s H vs Q E ga hr h => ?_)
  · obtain ⟨a, b, c, rfl, _⟩ := h
    rfl
  · obtain ⟨r, u, g, rfl, q⟩ := h
    have sc := scFetchToo
    refine ⟨_, PSs.nox (pss_cons (ps_set (i := 3) sc.nd rfl (Or.inl rfl) (pe_lst pa_nil))
  (pss_cons (ps_expr (pe_bm PySem.F.plainAttrs_list PySem.F.slot_list_append PySem.F.type_list_append mt_append (pv 3) (pa_cons (pe_tup (pa_cons (pg_xc (C.InvalidRoute) ga (hr.mono (by decide)) rfl (pa_cons (pv 0) pa_nil)) (pa_cons pe_str pa_nil))) pa_nil)))
  (pss_cons (ps_expr (pe_bm PySem.F.plainAttrs_list PySem.F.slot_list_append PySem.F.type_list_append mt_append (pv 3) (pa_cons (pe_tup (pa_cons (pg_xcK (C.InvalidRoute) ga (hr.mono (by decide)) rfl (pk_cons (pv 0) pk_nil)) (pa_cons pe_str pa_nil))) pa_nil)))
  (pss_cons (ps_expr (pe_bm PySem.F.plainAttrs_list PySem.F.slot_list_append PySem.F.type_list_append mt_append (pv 3) (pa_cons (pe_tup (pa_cons (pg_xc (C.InvalidPlace) ga (hr.mono (by decide)) rfl (pa_cons (pv 0) pa_nil)) (pa_cons pe_str pa_nil))) pa_nil)))
  (pss_cons (ps_expr (pe_bm PySem.F.plainAttrs_list PySem.F.slot_list_append PySem.F.type_list_append mt_append (pv 3) (pa_cons (pe_tup (pa_cons (pg_xcK (C.InvalidPlace) ga (hr.mono (by decide)) rfl (pk_cons (pv 0) pk_nil)) (pa_cons pe_str pa_nil))) pa_nil)))
  (pss_cons (ps_expr (pe_bm PySem.F.plainAttrs_list PySem.F.slot_list_append PySem.F.type_list_append mt_append (pv 3) (pa_cons (pe_tup (pa_cons (pg_xc (C.InvalidPlaces) ga (hr.mono (by decide)) rfl (pa_cons (pv 0) pa_nil)) (pa_cons pe_str pa_nil))) pa_nil)))
  (pss_cons (ps_expr (pe_bm PySem.F.plainAttrs_list PySem.F.slot_list_append PySem.F.type_list_append mt_append (pv 3) (pa_cons (pe_tup (pa_cons (pg_xcK (C.InvalidPlaces) ga (hr.mono (by decide)) rfl (pk_cons (pv 0) pk_nil)) (pa_cons pe_str pa_nil))) pa_nil)))
  (pss_cons (ps_expr (pe_bm PySem.F.plainAttrs_list PySem.F.slot_list_append PySem.F.type_list_append mt_append (pv 3) (pa_cons (pe_tup (pa_cons (pg_xc (C.InvalidSizeName) ga (hr.mono (by decide)) rfl (pa_cons (pv 0) pa_nil)) (pa_cons pe_str pa_nil))) pa_nil)))
  (pss_cons (ps_expr (pe_bm PySem.F.plainAttrs_list PySem.F.slot_list_append PySem.F.type_list_append mt_append (pv 3) (pa_cons (pe_tup (pa_cons (pg_xcK (C.InvalidSizeName) ga (hr.mono (by decide)) rfl (pk_cons (pv 0) pk_nil)) (pa_cons pe_str pa_nil))) pa_nil)))
  (pss_cons (ps_expr (pe_bm PySem.F.plainAttrs_list PySem.F.slot_list_append PySem.F.type_list_append mt_append (pv 3) (pa_cons (pe_tup (pa_cons (pg_xc (C.InvalidSize) ga (hr.mono (by decide)) rfl (pa_cons (pv 0) pa_nil)) (pa_cons pe_str pa_nil))) pa_nil)))
  (pss_cons (ps_expr (pe_bm PySem.F.plainAttrs_list PySem.F.slot_list_append PySem.F.type_list_append mt_append (pv 3) (pa_cons (pe_tup (pa_cons (pg_xcK (C.InvalidSize) ga (hr.mono (by decide)) rfl (pk_cons (pv 0) pk_nil)) (pa_cons pe_str pa_nil))) pa_nil)))
  (pss_cons (ps_expr (pe_bm PySem.F.plainAttrs_list PySem.F.slot_list_append PySem.F.type_list_append mt_append (pv 3) (pa_cons (pe_tup (pa_cons (pg_xc (C.InvalidSizes) ga (hr.mono (by decide)) rfl (pa_cons (pv 0) pa_nil)) (pa_cons pe_str pa_nil))) pa_nil)))
  (pss_cons (ps_expr (pe_bm PySem.F.plainAttrs_list PySem.F.slot_list_append PySem.F.type_list_append mt_append (pv 3) (pa_cons (pe_tup (pa_cons (pg_xcK (C.InvalidSizes) ga (hr.mono (by decide)) rfl (pk_cons (pv 0) pk_nil)) (pa_cons pe_str pa_nil))) pa_nil)))
  (pss_cons (ps_expr (pe_bm PySem.F.plainAttrs_list PySem.F.slot_list_append PySem.F.type_list_append mt_append (pv 3) (pa_cons (pe_tup (pa_cons (pg_xc (C.InvalidNumber) ga (hr.mono (by decide)) rfl (pa_cons (pv 0) pa_nil)) (pa_cons pe_str pa_nil))) pa_nil)))
  (pss_cons (ps_expr (pe_bm PySem.F.plainAttrs_list PySem.F.slot_list_append PySem.F.type_list_append mt_append (pv 3) (pa_cons (pe_tup (pa_cons (pg_xcK (C.InvalidNumber) ga (hr.mono (by decide)) rfl (pk_cons (pv 0) pk_nil)) (pa_cons pe_str pa_nil))) pa_nil)))
  (pss_cons (ps_expr (pe_bm PySem.F.plainAttrs_list PySem.F.slot_list_append PySem.F.type_list_append mt_append (pv 3) (pa_cons (pe_tup (pa_cons (pg_xc (C.InvalidSum) ga (hr.mono (by decide)) rfl (pa_cons (pv 0) pa_nil)) (pa_cons pe_str pa_nil))) pa_nil)))
  (pss_cons (ps_expr (pe_bm PySem.F.plainAttrs_list PySem.F.slot_list_append PySem.F.type_list_append mt_append (pv 3) (pa_cons (pe_tup (pa_cons (pg_xcK (C.InvalidSum) ga (hr.mono (by decide)) rfl (pk_cons (pv 0) pk_nil)) (pa_cons pe_str pa_nil))) pa_nil)))
  (pss_cons (ps_expr (pe_bm PySem.F.plainAttrs_list PySem.F.slot_list_append PySem.F.type_list_append mt_append (pv 3) (pa_cons (pe_tup (pa_cons (pg_xc (C.InvalidChange) ga (hr.mono (by decide)) rfl (pa_cons (pv 0) pa_nil)) (pa_cons pe_str pa_nil))) pa_nil)))
  (pss_cons (ps_expr (pe_bm PySem.F.plainAttrs_list PySem.F.slot_list_append PySem.F.type_list_append mt_append (pv 3) (pa_cons (pe_tup (pa_cons (pg_xcK (C.InvalidChange) ga (hr.mono (by decide)) rfl (pk_cons (pv 0) pk_nil)) (pa_cons pe_str pa_nil))) pa_nil)))
  (pss_cons (ps_expr (pe_bm PySem.F.plainAttrs_list PySem.F.slot_list_append PySem.F.type_list_append mt_append (pv 3) (pa_cons (pe_tup (pa_cons (pg_xc (C.InvalidValue) ga (hr.mono (by decide)) rfl (pa_cons (pv 0) pa_nil)) (pa_cons pe_str pa_nil))) pa_nil)))
  (pss_cons (ps_expr (pe_bm PySem.F.plainAttrs_list PySem.F.slot_list_append PySem.F.type_list_append mt_append (pv 3) (pa_cons (pe_tup (pa_cons (pg_xcK (C.InvalidValue) ga (hr.mono (by decide)) rfl (pk_cons (pv 0) pk_nil)) (pa_cons pe_str pa_nil))) pa_nil)))
  (pss_cons (ps_expr (pe_bm PySem.F.plainAttrs_list PySem.F.slot_list_append PySem.F.type_list_append mt_append (pv 3) (pa_cons (pe_tup (pa_cons (pg_xc (C.InvalidText) ga (hr.mono (by decide)) rfl (pa_cons (pv 0) pa_nil)) (pa_cons pe_str pa_nil))) pa_nil)))
  (pss_cons (ps_expr (pe_bm PySem.F.plainAttrs_list PySem.F.slot_list_append PySem.F.type_list_append mt_append (pv 3) (pa_cons (pe_tup (pa_cons (pg_xcK (C.InvalidText) ga (hr.mono (by decide)) rfl (pk_cons (pv 0) pk_nil)) (pa_cons pe_str pa_nil))) pa_nil)))
  (pss_cons (ps_expr (pe_bm PySem.F.plainAttrs_list PySem.F.slot_list_append PySem.F.type_list_append mt_append (pv 3) (pa_cons (pe_tup (pa_cons (pg_xc (C.InvalidClaim) ga (hr.mono (by decide)) rfl (pa_cons (pv 0) pa_nil)) (pa_cons pe_str pa_nil))) pa_nil)))
  (pss_cons (ps_expr (pe_bm PySem.F.plainAttrs_list PySem.F.slot_list_append PySem.F.type_list_append mt_append (pv 3) (pa_cons (pe_tup (pa_cons (pg_xcK (C.InvalidClaim) ga (hr.mono (by decide)) rfl (pk_cons (pv 0) pk_nil)) (pa_cons pe_str pa_nil))) pa_nil)))
  (pss_cons (ps_expr (pe_bm PySem.F.plainAttrs_list PySem.F.slot_list_append PySem.F.type_list_append mt_append (pv 3) (pa_cons (pe_tup (pa_cons (pg_xc (C.InvalidCommand) ga (hr.mono (by decide)) rfl (pa_cons (pv 0) pa_nil)) (pa_cons pe_str pa_nil))) pa_nil)))
  (pss_cons (ps_expr (pe_bm PySem.F.plainAttrs_list PySem.F.slot_list_append PySem.F.type_list_append mt_append (pv 3) (pa_cons (pe_tup (pa_cons (pg_xcK (C.InvalidCommand) ga (hr.mono (by decide)) rfl (pk_cons (pv 0) pk_nil)) (pa_cons pe_str pa_nil))) pa_nil)))
  (pss_one (ps_ret (pv 3)))))))))))))))))))))))))))))), ?_⟩
    refine ⟨Nat.zero_le _, fun l hl => ?_⟩
    have J := rows_new (K := K) (b := 0) (vals := [r, u, g]) hl
    refine add_row J rfl (by decide) (fun Q h => ⟨_, rfl, h⟩) ⟨rfl, by decide⟩ (by decide) fun H1 J => ?_
    refine add_rowK J rfl (by decide) (fun Q h => ⟨_, rfl, h⟩) ⟨rfl, by decide⟩ (by decide) fun H1 J => ?_
    refine add_row J rfl (by decide) (fun Q h => ⟨_, rfl, h⟩) ⟨rfl, by decide⟩ (by decide) fun H1 J => ?_
    refine add_rowK J rfl (by decide) (fun Q h => ⟨_, rfl, h⟩) ⟨rfl, by decide⟩ (by decide) fun H1 J => ?_
    refine add_row J rfl (by decide) (fun Q h => ⟨_, rfl, h⟩) ⟨rfl, by decide⟩ (by decide) fun H1 J => ?_
    refine add_rowK J rfl (by decide) (fun Q h => ⟨_, rfl, h⟩) ⟨rfl, by decide⟩ (by decide) fun H1 J => ?_
    refine add_row J rfl (by decide) (fun Q h => ⟨_, rfl, h⟩) ⟨rfl, by decide⟩ (by decide) fun H1 J => ?_
    refine add_rowK J rfl (by decide) (fun Q h => ⟨_, rfl, h⟩) ⟨rfl, by decide⟩ (by decide) fun H1 J => ?_
    refine add_row J rfl (by decide) (fun Q h => ⟨_, rfl, h⟩) ⟨rfl, by decide⟩ (by decide) fun H1 J => ?_
    refine add_rowK J rfl (by decide) (fun Q h => ⟨_, rfl, h⟩) ⟨rfl, by decide⟩ (by decide) fun H1 J => ?_
    refine add_row J rfl (by decide) (fun Q h => ⟨_, rfl, h⟩) ⟨rfl, by decide⟩ (by decide) fun H1 J => ?_
    refine add_rowK J rfl (by decide) (fun Q h => ⟨_, rfl, h⟩) ⟨rfl, by decide⟩ (by decide) fun H1 J => ?_
    refine add_row J rfl (by decide) (fun Q h => ⟨_, rfl, h⟩) ⟨rfl, by decide⟩ (by decide) fun H1 J => ?_
    refine add_rowK J rfl (by decide) (fun Q h => ⟨_, rfl, h⟩) ⟨rfl, by decide⟩ (by decide) fun H1 J => ?_
    refine add_row J rfl (by decide) (fun Q h => ⟨_, rfl, h⟩) ⟨rfl, by decide⟩ (by decide) fun H1 J => ?_
    refine add_rowK J rfl (by decide) (fun Q h => ⟨_, rfl, h⟩) ⟨rfl, by decide⟩ (by decide) fun H1 J => ?_
    refine add_row J rfl (by decide) (fun Q h => ⟨_, rfl, h⟩) ⟨rfl, by decide⟩ (by decide) fun H1 J => ?_
    refine add_rowK J rfl (by decide) (fun Q h => ⟨_, rfl, h⟩) ⟨rfl, by decide⟩ (by decide) fun H1 J => ?_
    refine add_row J rfl (by decide) (fun Q h => ⟨_, rfl, h⟩) ⟨rfl, by decide⟩ (by decide) fun H1 J => ?_
    refine add_rowK J rfl (by decide) (fun Q h => ⟨_, rfl, h⟩) ⟨rfl, by decide⟩ (by decide) fun H1 J => ?_
    refine add_row J rfl (by decide) (fun Q h => ⟨_, rfl, h⟩) ⟨rfl, by decide⟩ (by decide) fun H1 J => ?_
    refine add_rowK J rfl (by decide) (fun Q h => ⟨_, rfl, h⟩) ⟨rfl, by decide⟩ (by decide) fun H1 J => ?_
    refine add_row J rfl (by decide) (fun Q h => ⟨_, rfl, h⟩) ⟨rfl, by decide⟩ (by decide) fun H1 J => ?_
    refine add_rowK J rfl (by decide) (fun Q h => ⟨_, rfl, h⟩) ⟨rfl, by decide⟩ (by decide) fun H1 J => ?_
    refine add_row J rfl (by decide) (fun Q h => ⟨_, rfl, h⟩) ⟨rfl, by decide⟩ (by decide) fun H1 J => ?_
    refine add_rowK J rfl (by decide) (fun Q h => ⟨_, rfl, h⟩) ⟨rfl, by decide⟩ (by decide) fun H1 J => ?_
    exact ⟨_, rfl, q _ _ _ J (by decide)⟩
theorem ok_missing (F : FnP K "_law_missing" sMissing f fd) (C : Clss P w K mg base) : FnG P w K mg base CX0 3 f fd ["_law_red", "_law_blue", "_law_green"] (spRows K 1) := by
  refine FunG F scMissing (fun vs H Q E h => ?_) (fun cdv A outer s H vs Q E ga hr h => ?_)
  · obtain ⟨a, b, c, rfl, _⟩ := h
    rfl
  · obtain ⟨r, u, g, rfl, q⟩ := h
    have sc := scMissing
    refine ⟨_, PSs.nox (pss_cons (ps_set (i := 3) sc.nd rfl (Or.inl rfl) (pe_lst pa_nil))
  (pss_cons (ps_expr (pe_bm PySem.F.plainAttrs_list PySem.F.slot_list_append PySem.F.type_list_append mt_append (pv 3) (pa_cons (pe_tup (pa_cons (pg_xc (C.UnknownKind) ga (hr.mono (by decide)) rfl (pa_cons (pv 0) pa_nil)) (pa_cons pe_str pa_nil))) pa_nil)))
  (pss_cons (ps_expr (pe_bm PySem.F.plainAttrs_list PySem.F.slot_list_append PySem.F.type_list_append mt_append (pv 3) (pa_cons (pe_tup (pa_cons (pg_xcK (C.UnknownKind) ga (hr.mono (by decide)) rfl (pk_cons (pv 0) pk_nil)) (pa_cons pe_str pa_nil))) pa_nil)))
  (pss_cons (ps_expr (pe_bm PySem.F.plainAttrs_list PySem.F.slot_list_append PySem.F.type_list_append mt_append (pv 3) (pa_cons (pe_tup (pa_cons (pg_xc (C.UnknownLink) ga (hr.mono (by decide)) rfl (pa_cons (pv 0) pa_nil)) (pa_cons pe_str pa_nil))) pa_nil)))
  (pss_cons (ps_expr (pe_bm PySem.F.plainAttrs_list PySem.F.slot_list_append PySem.F.type_list_append mt_append (pv 3) (pa_cons (pe_tup (pa_cons (pg_xcK (C.UnknownLink) ga (hr.mono (by decide)) rfl (pk_cons (pv 0) pk_nil)) (pa_cons pe_str pa_nil))) pa_nil)))
  (pss_cons (ps_expr (pe_bm PySem.F.plainAttrs_list PySem.F.slot_list_append PySem.F.type_list_append mt_append (pv 3) (pa_cons (pe_tup (pa_cons (pg_xc (C.UnknownObject) ga (hr.mono (by decide)) rfl (pa_cons (pv 0) (pa_cons (pv 1) pa_nil))) (pa_cons pe_str pa_nil))) pa_nil)))
  (pss_cons (ps_expr (pe_bm PySem.F.plainAttrs_list PySem.F.slot_list_append PySem.F.type_list_append mt_append (pv 3) (pa_cons (pe_tup (pa_cons (pg_xcK (C.UnknownObject) ga (hr.mono (by decide)) rfl (pk_cons (pv 1) (pk_cons (pv 0) pk_nil))) (pa_cons pe_str pa_nil))) pa_nil)))
  (pss_cons (ps_expr (pe_bm PySem.F.plainAttrs_list PySem.F.slot_list_append PySem.F.type_list_append mt_append (pv 3) (pa_cons (pe_tup (pa_cons (pg_xc (C.UnknownTarget) ga (hr.mono (by decide)) rfl (pa_cons (pv 0) (pa_cons (pv 1) pa_nil))) (pa_cons pe_str pa_nil))) pa_nil)))
  (pss_cons (ps_expr (pe_bm PySem.F.plainAttrs_list PySem.F.slot_list_append PySem.F.type_list_append mt_append (pv 3) (pa_cons (pe_tup (pa_cons (pg_xcK (C.UnknownTarget) ga (hr.mono (by decide)) rfl (pk_cons (pv 1) (pk_cons (pv 0) pk_nil))) (pa_cons pe_str pa_nil))) pa_nil)))
  (pss_cons (ps_expr (pe_bm PySem.F.plainAttrs_list PySem.F.slot_list_append PySem.F.type_list_append mt_append (pv 3) (pa_cons (pe_tup (pa_cons (pg_xc (C.UnknownSpot) ga (hr.mono (by decide)) rfl (pa_cons (pv 0) pa_nil)) (pa_cons pe_str pa_nil))) pa_nil)))
  (pss_cons (ps_expr (pe_bm PySem.F.plainAttrs_list PySem.F.slot_list_append PySem.F.type_list_append mt_append (pv 3) (pa_cons (pe_tup (pa_cons (pg_xcK (C.UnknownSpot) ga (hr.mono (by decide)) rfl (pk_cons (pv 0) pk_nil)) (pa_cons pe_str pa_nil))) pa_nil)))
  (pss_cons (ps_expr (pe_bm PySem.F.plainAttrs_list PySem.F.slot_list_append PySem.F.type_list_append mt_append (pv 3) (pa_cons (pe_tup (pa_cons (pg_xc (C.UnknownPath) ga (hr.mono (by decide)) rfl (pa_cons (pv 0) pa_nil)) (pa_cons pe_str pa_nil))) pa_nil)))
  (pss_cons (ps_expr (pe_bm PySem.F.plainAttrs_list PySem.F.slot_list_append PySem.F.type_list_append mt_append (pv 3) (pa_cons (pe_tup (pa_cons (pg_xcK (C.UnknownPath) ga (hr.mono (by decide)) rfl (pk_cons (pv 0) pk_nil)) (pa_cons pe_str pa_nil))) pa_nil)))
  (pss_cons (ps_expr (pe_bm PySem.F.plainAttrs_list PySem.F.slot_list_append PySem.F.type_list_append mt_append (pv 3) (pa_cons (pe_tup (pa_cons (pg_xc (C.UnknownFind) ga (hr.mono (by decide)) rfl (pa_cons (pv 0) pa_nil)) (pa_cons pe_str pa_nil))) pa_nil)))
  (pss_cons (ps_expr (pe_bm PySem.F.plainAttrs_list PySem.F.slot_list_append PySem.F.type_list_append mt_append (pv 3) (pa_cons (pe_tup (pa_cons (pg_xcK (C.UnknownFind) ga (hr.mono (by decide)) rfl (pk_cons (pv 0) pk_nil)) (pa_cons pe_str pa_nil))) pa_nil)))
  (pss_cons (ps_expr (pe_bm PySem.F.plainAttrs_list PySem.F.slot_list_append PySem.F.type_list_append mt_append (pv 3) (pa_cons (pe_tup (pa_cons (pg_xc (C.UnknownName) ga (hr.mono (by decide)) rfl (pa_cons (pv 0) pa_nil)) (pa_cons pe_str pa_nil))) pa_nil)))
  (pss_cons (ps_expr (pe_bm PySem.F.plainAttrs_list PySem.F.slot_list_append PySem.F.type_list_append mt_append (pv 3) (pa_cons (pe_tup (pa_cons (pg_xcK (C.UnknownName) ga (hr.mono (by decide)) rfl (pk_cons (pv 0) pk_nil)) (pa_cons pe_str pa_nil))) pa_nil)))
  (pss_one (ps_ret (pv 3)))))))))))))))))))), ?_⟩
    refine ⟨Nat.zero_le _, fun l hl => ?_⟩
    have J := rows_new (K := K) (b := 1) (vals := [r, u, g]) hl
    refine add_row J rfl (by decide) (fun Q h => ⟨_, rfl, h⟩) ⟨rfl, by decide⟩ (by decide) fun H1 J => ?_
    refine add_rowK J rfl (by decide) (fun Q h => ⟨_, rfl, h⟩) ⟨rfl, by decide⟩ (by decide) fun H1 J => ?_
    refine add_row J rfl (by decide) (fun Q h => ⟨_, rfl, h⟩) ⟨rfl, by decide⟩ (by decide) fun H1 J => ?_
    refine add_rowK J rfl (by decide) (fun Q h => ⟨_, rfl, h⟩) ⟨rfl, by decide⟩ (by decide) fun H1 J => ?_
    refine add_row J rfl (by decide) (fun Q h => ⟨_, rfl, _, rfl, h⟩) ⟨rfl, by decide⟩ (by decide) fun H1 J => ?_
    refine add_rowK J rfl (by decide) (fun Q h => ⟨_, rfl, _, rfl, h⟩) ⟨rfl, by decide⟩ (by decide) fun H1 J => ?_
    refine add_row J rfl (by decide) (fun Q h => ⟨_, rfl, _, rfl, h⟩) ⟨rfl, by decide⟩ (by decide) fun H1 J => ?_
    refine add_rowK J rfl (by decide) (fun Q h => ⟨_, rfl, _, rfl, h⟩) ⟨rfl, by decide⟩ (by decide) fun H1 J => ?_
    refine add_row J rfl (by decide) (fun Q h => ⟨_, rfl, h⟩) ⟨rfl, by decide⟩ (by decide) fun H1 J => ?_
    refine add_rowK J rfl (by decide) (fun Q h => ⟨_, rfl, h⟩) ⟨rfl, by decide⟩ (by decide) fun H1 J => ?_
    refine add_row J rfl (by decide) (fun Q h => ⟨_, rfl, h⟩) ⟨rfl, by decide⟩ (by decide) fun H1 J => ?_
    refine add_rowK J rfl (by decide) (fun Q h => ⟨_, rfl, h⟩) ⟨rfl, by decide⟩ (by decide) fun H1 J => ?_
    refine add_row J rfl (by decide) (fun Q h => ⟨_, rfl, h⟩) ⟨rfl, by decide⟩ (by decide) fun H1 J => ?_
    refine add_rowK J rfl (by decide) (fun Q h => ⟨_, rfl, h⟩) ⟨rfl, by decide⟩ (by decide) fun H1 J => ?_
    refine add_row J rfl (by decide) (fun Q h => ⟨_, rfl, h⟩) ⟨rfl, by decide⟩ (by decide) fun H1 J => ?_
    refine add_rowK J rfl (by decide) (fun Q h => ⟨_, rfl, h⟩) ⟨rfl, by decide⟩ (by decide) fun H1 J => ?_
    exact ⟨_, rfl, q _ _ _ J (by decide)⟩
theorem ok_state (F : FnP K "_law_state" sState f fd) (C : Clss P w K mg base) : FnG P w K mg base CX0 3 f fd ["_law_red", "_law_blue", "_law_green"] (spRows K 2) := by
  refine FunG F scState (fun vs H Q E h => ?_) (fun cdv A outer s H vs Q E ga hr h => ?_)
  · obtain ⟨a, b, c, rfl, _⟩ := h
    rfl
  · obtain ⟨r, u, g, rfl, q⟩ := h
    have sc := scState
    refine ⟨_, PSs.nox (pss_cons (ps_set (i := 3) sc.nd rfl (Or.inl rfl) (pe_lst pa_nil))
  (pss_cons (ps_expr (pe_bm PySem.F.plainAttrs_list PySem.F.slot_list_append PySem.F.type_list_append mt_append (pv 3) (pa_cons (pe_tup (pa_cons (pg_xc (C.TargetTaken) ga (hr.mono (by decide)) rfl (pa_cons (pv 0) (pa_cons (pv 1) (pa_cons (pv 2) pa_nil)))) (pa_cons pe_str pa_nil))) pa_nil)))
  (pss_cons (ps_expr (pe_bm PySem.F.plainAttrs_list PySem.F.slot_list_append PySem.F.type_list_append mt_append (pv 3) (pa_cons (pe_tup (pa_cons (pg_xcK (C.TargetTaken) ga (hr.mono (by decide)) rfl (pk_cons (pv 2) (pk_cons (pv 1) (pk_cons (pv 0) pk_nil)))) (pa_cons pe_str pa_nil))) pa_nil)))
  (pss_cons (ps_expr (pe_bm PySem.F.plainAttrs_list PySem.F.slot_list_append PySem.F.type_list_append mt_append (pv 3) (pa_cons (pe_tup (pa_cons (pg_xc (C.RowRefused) ga (hr.mono (by decide)) rfl (pa_cons (pv 0) (pa_cons (pv 1) pa_nil))) (pa_cons pe_str pa_nil))) pa_nil)))
  (pss_cons (ps_expr (pe_bm PySem.F.plainAttrs_list PySem.F.slot_list_append PySem.F.type_list_append mt_append (pv 3) (pa_cons (pe_tup (pa_cons (pg_xcK (C.RowRefused) ga (hr.mono (by decide)) rfl (pk_cons (pv 1) (pk_cons (pv 0) pk_nil))) (pa_cons pe_str pa_nil))) pa_nil)))
  (pss_cons (ps_expr (pe_bm PySem.F.plainAttrs_list PySem.F.slot_list_append PySem.F.type_list_append mt_append (pv 3) (pa_cons (pe_tup (pa_cons (pg_xc (C.LinkRing) ga (hr.mono (by decide)) rfl (pa_cons (pv 0) pa_nil)) (pa_cons pe_str pa_nil))) pa_nil)))
  (pss_cons (ps_expr (pe_bm PySem.F.plainAttrs_list PySem.F.slot_list_append PySem.F.type_list_append mt_append (pv 3) (pa_cons (pe_tup (pa_cons (pg_xcK (C.LinkRing) ga (hr.mono (by decide)) rfl (pk_cons (pv 0) pk_nil)) (pa_cons pe_str pa_nil))) pa_nil)))
  (pss_cons (ps_expr (pe_bm PySem.F.plainAttrs_list PySem.F.slot_list_append PySem.F.type_list_append mt_append (pv 3) (pa_cons (pe_tup (pa_cons (pg_xc (C.WordRefused) ga (hr.mono (by decide)) rfl (pa_cons (pv 0) (pa_cons (pv 1) pa_nil))) (pa_cons pe_str pa_nil))) pa_nil)))
  (pss_cons (ps_expr (pe_bm PySem.F.plainAttrs_list PySem.F.slot_list_append PySem.F.type_list_append mt_append (pv 3) (pa_cons (pe_tup (pa_cons (pg_xcK (C.WordRefused) ga (hr.mono (by decide)) rfl (pk_cons (pv 1) (pk_cons (pv 0) pk_nil))) (pa_cons pe_str pa_nil))) pa_nil)))
  (pss_cons (ps_expr (pe_bm PySem.F.plainAttrs_list PySem.F.slot_list_append PySem.F.type_list_append mt_append (pv 3) (pa_cons (pe_tup (pa_cons (pg_xc0 (C.OtherSchema) ga (hr.mono (by decide)) rfl) (pa_cons pe_str pa_nil))) pa_nil)))
  (pss_cons (ps_expr (pe_bm PySem.F.plainAttrs_list PySem.F.slot_list_append PySem.F.type_list_append mt_append (pv 3) (pa_cons (pe_tup (pa_cons (pg_xc (C.OtherFinds) ga (hr.mono (by decide)) rfl (pa_cons (pv 0) (pa_cons (pv 1) pa_nil))) (pa_cons pe_str pa_nil))) pa_nil)))
  (pss_cons (ps_expr (pe_bm PySem.F.plainAttrs_list PySem.F.slot_list_append PySem.F.type_list_append mt_append (pv 3) (pa_cons (pe_tup (pa_cons (pg_xcK (C.OtherFinds) ga (hr.mono (by decide)) rfl (pk_cons (pv 1) (pk_cons (pv 0) pk_nil))) (pa_cons pe_str pa_nil))) pa_nil)))
  (pss_cons (ps_expr (pe_bm PySem.F.plainAttrs_list PySem.F.slot_list_append PySem.F.type_list_append mt_append (pv 3) (pa_cons (pe_tup (pa_cons (pg_xc (C.NameTaken) ga (hr.mono (by decide)) rfl (pa_cons (pv 0) pa_nil)) (pa_cons pe_str pa_nil))) pa_nil)))
  (pss_cons (ps_expr (pe_bm PySem.F.plainAttrs_list PySem.F.slot_list_append PySem.F.type_list_append mt_append (pv 3) (pa_cons (pe_tup (pa_cons (pg_xcK (C.NameTaken) ga (hr.mono (by decide)) rfl (pk_cons (pv 0) pk_nil)) (pa_cons pe_str pa_nil))) pa_nil)))
  (pss_cons (ps_expr (pe_bm PySem.F.plainAttrs_list PySem.F.slot_list_append PySem.F.type_list_append mt_append (pv 3) (pa_cons (pe_tup (pa_cons (pg_xc (C.NotKept) ga (hr.mono (by decide)) rfl (pa_cons (pv 0) (pa_cons (pv 1) pa_nil))) (pa_cons pe_str pa_nil))) pa_nil)))
  (pss_cons (ps_expr (pe_bm PySem.F.plainAttrs_list PySem.F.slot_list_append PySem.F.type_list_append mt_append (pv 3) (pa_cons (pe_tup (pa_cons (pg_xcK (C.NotKept) ga (hr.mono (by decide)) rfl (pk_cons (pv 1) (pk_cons (pv 0) pk_nil))) (pa_cons pe_str pa_nil))) pa_nil)))
  (pss_cons (ps_expr (pe_bm PySem.F.plainAttrs_list PySem.F.slot_list_append PySem.F.type_list_append mt_append (pv 3) (pa_cons (pe_tup (pa_cons (pg_xc (C.ChangesRefused) ga (hr.mono (by decide)) rfl (pa_cons (pv 0) pa_nil)) (pa_cons pe_str pa_nil))) pa_nil)))
  (pss_cons (ps_expr (pe_bm PySem.F.plainAttrs_list PySem.F.slot_list_append PySem.F.type_list_append mt_append (pv 3) (pa_cons (pe_tup (pa_cons (pg_xcK (C.ChangesRefused) ga (hr.mono (by decide)) rfl (pk_cons (pv 0) pk_nil)) (pa_cons pe_str pa_nil))) pa_nil)))
  (pss_cons (ps_expr (pe_bm PySem.F.plainAttrs_list PySem.F.slot_list_append PySem.F.type_list_append mt_append (pv 3) (pa_cons (pe_tup (pa_cons (pg_xc (C.SaveRefused) ga (hr.mono (by decide)) rfl (pa_cons (pv 0) (pa_cons (pv 1) pa_nil))) (pa_cons pe_str pa_nil))) pa_nil)))
  (pss_cons (ps_expr (pe_bm PySem.F.plainAttrs_list PySem.F.slot_list_append PySem.F.type_list_append mt_append (pv 3) (pa_cons (pe_tup (pa_cons (pg_xcK (C.SaveRefused) ga (hr.mono (by decide)) rfl (pk_cons (pv 1) (pk_cons (pv 0) pk_nil))) (pa_cons pe_str pa_nil))) pa_nil)))
  (pss_cons (ps_expr (pe_bm PySem.F.plainAttrs_list PySem.F.slot_list_append PySem.F.type_list_append mt_append (pv 3) (pa_cons (pe_tup (pa_cons (pg_xc0 (C.NothingToUndo) ga (hr.mono (by decide)) rfl) (pa_cons pe_str pa_nil))) pa_nil)))
  (pss_cons (ps_expr (pe_bm PySem.F.plainAttrs_list PySem.F.slot_list_append PySem.F.type_list_append mt_append (pv 3) (pa_cons (pe_tup (pa_cons (pg_xc (C.CommandFailed) ga (hr.mono (by decide)) rfl (pa_cons (pv 0) pa_nil)) (pa_cons pe_str pa_nil))) pa_nil)))
  (pss_cons (ps_expr (pe_bm PySem.F.plainAttrs_list PySem.F.slot_list_append PySem.F.type_list_append mt_append (pv 3) (pa_cons (pe_tup (pa_cons (pg_xcK (C.CommandFailed) ga (hr.mono (by decide)) rfl (pk_cons (pv 0) pk_nil)) (pa_cons pe_str pa_nil))) pa_nil)))
  (pss_one (ps_ret (pv 3)))))))))))))))))))))))))), ?_⟩
    refine ⟨Nat.zero_le _, fun l hl => ?_⟩
    have J := rows_new (K := K) (b := 2) (vals := [r, u, g]) hl
    refine add_row J rfl (by decide) (fun Q h => ⟨_, rfl, _, rfl, _, rfl, h⟩) ⟨rfl, by decide⟩ (by decide) fun H1 J => ?_
    refine add_rowK J rfl (by decide) (fun Q h => ⟨_, rfl, _, rfl, _, rfl, h⟩) ⟨rfl, by decide⟩ (by decide) fun H1 J => ?_
    refine add_row J rfl (by decide) (fun Q h => ⟨_, rfl, _, rfl, h⟩) ⟨rfl, by decide⟩ (by decide) fun H1 J => ?_
    refine add_rowK J rfl (by decide) (fun Q h => ⟨_, rfl, _, rfl, h⟩) ⟨rfl, by decide⟩ (by decide) fun H1 J => ?_
    refine add_row J rfl (by decide) (fun Q h => ⟨_, rfl, h⟩) ⟨rfl, by decide⟩ (by decide) fun H1 J => ?_
    refine add_rowK J rfl (by decide) (fun Q h => ⟨_, rfl, h⟩) ⟨rfl, by decide⟩ (by decide) fun H1 J => ?_
    refine add_row J rfl (by decide) (fun Q h => ⟨_, rfl, _, rfl, h⟩) ⟨rfl, by decide⟩ (by decide) fun H1 J => ?_
    refine add_rowK J rfl (by decide) (fun Q h => ⟨_, rfl, _, rfl, h⟩) ⟨rfl, by decide⟩ (by decide) fun H1 J => ?_
    refine add_row J rfl (by decide) (fun Q h => h) ⟨rfl, by decide⟩ (by decide) fun H1 J => ?_
    refine add_row J rfl (by decide) (fun Q h => ⟨_, rfl, _, rfl, h⟩) ⟨rfl, by decide⟩ (by decide) fun H1 J => ?_
    refine add_rowK J rfl (by decide) (fun Q h => ⟨_, rfl, _, rfl, h⟩) ⟨rfl, by decide⟩ (by decide) fun H1 J => ?_
    refine add_row J rfl (by decide) (fun Q h => ⟨_, rfl, h⟩) ⟨rfl, by decide⟩ (by decide) fun H1 J => ?_
    refine add_rowK J rfl (by decide) (fun Q h => ⟨_, rfl, h⟩) ⟨rfl, by decide⟩ (by decide) fun H1 J => ?_
    refine add_row J rfl (by decide) (fun Q h => ⟨_, rfl, _, rfl, h⟩) ⟨rfl, by decide⟩ (by decide) fun H1 J => ?_
    refine add_rowK J rfl (by decide) (fun Q h => ⟨_, rfl, _, rfl, h⟩) ⟨rfl, by decide⟩ (by decide) fun H1 J => ?_
    refine add_row J rfl (by decide) (fun Q h => ⟨_, rfl, h⟩) ⟨rfl, by decide⟩ (by decide) fun H1 J => ?_
    refine add_rowK J rfl (by decide) (fun Q h => ⟨_, rfl, h⟩) ⟨rfl, by decide⟩ (by decide) fun H1 J => ?_
    refine add_row J rfl (by decide) (fun Q h => ⟨_, rfl, _, rfl, h⟩) ⟨rfl, by decide⟩ (by decide) fun H1 J => ?_
    refine add_rowK J rfl (by decide) (fun Q h => ⟨_, rfl, _, rfl, h⟩) ⟨rfl, by decide⟩ (by decide) fun H1 J => ?_
    refine add_row J rfl (by decide) (fun Q h => h) ⟨rfl, by decide⟩ (by decide) fun H1 J => ?_
    refine add_row J rfl (by decide) (fun Q h => ⟨_, rfl, h⟩) ⟨rfl, by decide⟩ (by decide) fun H1 J => ?_
    refine add_rowK J rfl (by decide) (fun Q h => ⟨_, rfl, h⟩) ⟨rfl, by decide⟩ (by decide) fun H1 J => ?_
    exact ⟨_, rfl, q _ _ _ J (by decide)⟩
theorem ok_limit (F : FnP K "_law_limit" sLimit f fd) (C : Clss P w K mg base) : FnG P w K mg base CX0 3 f fd ["_law_red", "_law_blue", "_law_green"] (spRows K 3) := by
  refine FunG F scLimit (fun vs H Q E h => ?_) (fun cdv A outer s H vs Q E ga hr h => ?_)
  · obtain ⟨a, b, c, rfl, _⟩ := h
    rfl
  · obtain ⟨r, u, g, rfl, q⟩ := h
    have sc := scLimit
    refine ⟨_, PSs.nox (pss_cons (ps_set (i := 3) sc.nd rfl (Or.inl rfl) (pe_lst pa_nil))
  (pss_cons (ps_expr (pe_bm PySem.F.plainAttrs_list PySem.F.slot_list_append PySem.F.type_list_append mt_append (pv 3) (pa_cons (pe_tup (pa_cons (pg_xc (C.TooMany) ga (hr.mono (by decide)) rfl (pa_cons (pv 0) (pa_cons (pv 1) pa_nil))) (pa_cons pe_str pa_nil))) pa_nil)))
  (pss_cons (ps_expr (pe_bm PySem.F.plainAttrs_list PySem.F.slot_list_append PySem.F.type_list_append mt_append (pv 3) (pa_cons (pe_tup (pa_cons (pg_xcK (C.TooMany) ga (hr.mono (by decide)) rfl (pk_cons (pv 1) (pk_cons (pv 0) pk_nil))) (pa_cons pe_str pa_nil))) pa_nil)))
  (pss_one (ps_ret (pv 3)))))), ?_⟩
    refine ⟨Nat.zero_le _, fun l hl => ?_⟩
    have J := rows_new (K := K) (b := 3) (vals := [r, u, g]) hl
    refine add_row J rfl (by decide) (fun Q h => ⟨_, rfl, _, rfl, h⟩) ⟨rfl, by decide⟩ (by decide) fun H1 J => ?_
    refine add_rowK J rfl (by decide) (fun Q h => ⟨_, rfl, _, rfl, h⟩) ⟨rfl, by decide⟩ (by decide) fun H1 J => ?_
    exact ⟨_, rfl, q _ _ _ J (by decide)⟩
end
end K14


/-! K14, part H: a part of an error; under which bases it stands -/
namespace K14
open PySem PySem.Spec PyProof.Rows L2 FW
abbrev sPart : Stmt := top 62
abbrev sBases : Stmt := top 63
theorem scPart : FnScope ["_law_error", "_law_ask"] ["_law_error", "_law_ask"] (defScope sPart) := ⟨rfl, rfl, rfl, by decide +kernel, rfl, by decide +kernel, by decide +kernel⟩
theorem scBases : FnScope ["_law_error", "_law_own", "_law_python"] ["_law_error"] (defScope sBases) := ⟨rfl, rfl, rfl, by decide +kernel, rfl, by decide +kernel, by decide +kernel⟩
/-- the names of parts -/
def PARTS : List Str := ["position", "name", "value", "problem", "place", "find", "line", "kind", "number", "field", "by", "ring", "link", "word", "one", "other", "first", "second", "what", "limit"]
/-- e.f is v -/
def Fld (K : PySem.W.Frag) (H : Hp) (e : V) (f : Str) (v : V) : Prop := ∃ (a C dx : Addr) (fs : List (Str × V)), e = .ref a ∧ XC K C ∧ NoAttr K C f ∧ H a = some (exo a C (some dx)) ∧ H dx = some (exd dx fs) ∧ fs.lookup f = some v
theorem Fld.same {K : PySem.W.Frag} {H H' : Hp} {e v : V} {f : Str} (s : Same H H') (h : Fld K H e f v) : Fld K H' e f v := by
  obtain ⟨a, C, dx, fs, e1, T, n, e2, e3, e4⟩ := h
  exact ⟨a, C, dx, fs, e1, T, n, s _ _ e2, s _ _ e3, e4⟩
theorem Fld.get {K : PySem.W.Frag} {H : Hp} {e v : V} {f : Str} {i : Nat} {σ : L2.St} {Q : VK} (h : Fld K H e f v) (he : σ[i]? = some (some e)) (q : Q v H) : tXfld K (tVar i) f σ H Q := by
  obtain ⟨a, C, dx, fs, rfl, T, n, e2, e3, e4⟩ := h
  exact ⟨_, he, a, C, dx, fs, v, rfl, T, n, e2, e3, e4, q⟩
section
variable {K : PySem.W.Frag} {σ : L2.St} {H : Hp} {D : Ends} {x a b : Str} {e v : V}
theorem part_ret (h0 : σ[0]? = some (some e)) (h1 : σ[1]? = some (some (.str x))) (hf : Fld K H e x v) (hx : x = a ∨ x = b) (q : D.rt v H) :
    tRet (tIf (tTest (tOp rEq (tVar 1) (tC (.str a)))) (tXfld K (tVar 0) a) (tXfld K (tVar 0) b)) D σ H := by
  refine ⟨_, h1, rfl, _, rfl, ite2 (fun z => ?_) (fun z => ?_)⟩
  · have e1 : x = a := V.str.inj (of_decide_eq_true z)
    subst e1
    exact hf.get h0 q
  · have e1 : x = b := hx.elim (fun w => absurd (by rw [w]; exact decide_eq_true rfl) z) id
    subst e1
    exact hf.get h0 q
theorem part_if (h0 : σ[0]? = some (some e)) (h1 : σ[1]? = some (some (.str x))) (hf : Fld K H e x v) (q : ∀ H', Same H H' → D.rt v H') (next : x ≠ a → x ≠ b → ∀ H', Same H H' → D.nx σ H') :
    tIfS (tTest (tOp (rIn K false) (tVar 1) (tTup (tCons (tC (.str a)) (tCons (tC (.str b)) tNil)))))
      (tRet (tIf (tTest (tOp rEq (tVar 1) (tC (.str a)))) (tXfld K (tVar 0) a) (tXfld K (tVar 0) b))) tNext D σ H := by
  refine ⟨_, h1, by show 2 ≤ sizeLine; decide, fun t ht => ?_⟩
  have s1 : Same H (upd H t (.tup [.str a, .str b])) := fun b' o z => by rw [upd_ne (ne_of_none z ht)]; exact z
  refine ⟨t, _, rfl, .inr (SqT.of upd_same), rfl, rfl, _, rfl, ite2 (fun z => ?_) (fun z => ?_)⟩
  · have hx : x = a ∨ x = b := by
      have z' : (eqV (.str a) (.str x) || (eqV (.str b) (.str x) || false)) = true := z
      rw [Bool.or_false, Bool.or_eq_true] at z'
      exact z'.imp (fun w => (eq_of_beq (show (a == x) = true from w)).symm) (fun w => (eq_of_beq (show (b == x) = true from w)).symm)
    exact part_ret h0 h1 (hf.same s1) hx (q _ s1)
  · refine next (fun w => z ?_) (fun w => z ?_) _ s1
    · subst w
      show (eqV (.str x) (.str x) || (eqV (.str b) (.str x) || false)) = true
      rw [show eqV (.str x) (.str x) = true from beq_self_eq_true x, Bool.true_or]
    · subst w
      show (eqV (.str a) (.str x) || (eqV (.str x) (.str x) || false)) = true
      rw [show eqV (.str x) (.str x) = true from beq_self_eq_true x, Bool.true_or, Bool.or_true]
end
def spPart (K : PySem.W.Frag) : Sp := fun vs H Q _ => ∃ e f v, vs = [e, .str f] ∧ f ∈ PARTS ∧ Fld K H e f v ∧ ∀ H', Same H H' → Q v H'
section
variable {P : Program} {w : World} {K : PySem.W.Frag} {mg : Str → Option Value} {base : Heap} {f : Addr} {fd : FuncData}
theorem ok_part (F : FnP K "_law_part" sPart f fd) (T : Free mg K) : FnG P w K mg base CX0 1 f fd ["_law_error", "_law_ask"] (spPart K) := by
  refine FunG F scPart (fun vs H Q E h => ?_) (fun cdv A outer s H vs Q E ga hr h => ?_)
  · obtain ⟨a, b, c, rfl, _⟩ := h
    rfl
  · obtain ⟨e, x, v, rfl, hx, hf, q⟩ := h
    have sc := scPart
    refine ⟨_, PSs.nox (pss_cons (ps_if (pt_cmpR op_in_seq (pv 1) (pe_tup (pa_cons pe_str (pa_cons pe_str pa_nil))) rfl) (pss_one (ps_ret (pe_ifExp (pt_cmpR op_eq (pv 1) pe_str (nomark _)) (pe_xfld (pv 0)) (pe_xfld (pv 0))))) pss_nil)
  (pss_cons (ps_if (pt_cmpR op_in_seq (pv 1) (pe_tup (pa_cons pe_str (pa_cons pe_str pa_nil))) rfl) (pss_one (ps_ret (pe_ifExp (pt_cmpR op_eq (pv 1) pe_str (nomark _)) (pe_xfld (pv 0)) (pe_xfld (pv 0))))) pss_nil)
  (pss_cons (ps_if (pt_cmpR op_in_seq (pv 1) (pe_tup (pa_cons pe_str (pa_cons pe_str pa_nil))) rfl) (pss_one (ps_ret (pe_ifExp (pt_cmpR op_eq (pv 1) pe_str (nomark _)) (pe_xfld (pv 0)) (pe_xfld (pv 0))))) pss_nil)
  (pss_cons (ps_if (pt_cmpR op_in_seq (pv 1) (pe_tup (pa_cons pe_str (pa_cons pe_str pa_nil))) rfl) (pss_one (ps_ret (pe_ifExp (pt_cmpR op_eq (pv 1) pe_str (nomark _)) (pe_xfld (pv 0)) (pe_xfld (pv 0))))) pss_nil)
  (pss_cons (ps_if (pt_cmpR op_in_seq (pv 1) (pe_tup (pa_cons pe_str (pa_cons pe_str pa_nil))) rfl) (pss_one (ps_ret (pe_ifExp (pt_cmpR op_eq (pv 1) pe_str (nomark _)) (pe_xfld (pv 0)) (pe_xfld (pv 0))))) pss_nil)
  (pss_cons (ps_if (pt_cmpR op_in_seq (pv 1) (pe_tup (pa_cons pe_str (pa_cons pe_str pa_nil))) rfl) (pss_one (ps_ret (pe_ifExp (pt_cmpR op_eq (pv 1) pe_str (nomark _)) (pe_xfld (pv 0)) (pe_xfld (pv 0))))) pss_nil)
  (pss_cons (ps_if (pt_cmpR op_in_seq (pv 1) (pe_tup (pa_cons pe_str (pa_cons pe_str pa_nil))) rfl) (pss_one (ps_ret (pe_ifExp (pt_cmpR op_eq (pv 1) pe_str (nomark _)) (pe_xfld (pv 0)) (pe_xfld (pv 0))))) pss_nil)
  (pss_cons (ps_if (pt_cmpR op_in_seq (pv 1) (pe_tup (pa_cons pe_str (pa_cons pe_str pa_nil))) rfl) (pss_one (ps_ret (pe_ifExp (pt_cmpR op_eq (pv 1) pe_str (nomark _)) (pe_xfld (pv 0)) (pe_xfld (pv 0))))) pss_nil)
  (pss_cons (ps_if (pt_cmpR op_in_seq (pv 1) (pe_tup (pa_cons pe_str (pa_cons pe_str pa_nil))) rfl) (pss_one (ps_ret (pe_ifExp (pt_cmpR op_eq (pv 1) pe_str (nomark _)) (pe_xfld (pv 0)) (pe_xfld (pv 0))))) pss_nil)
  (pss_one (ps_ret (pe_ifExp (pt_cmpR op_eq (pv 1) pe_str (nomark _)) (pe_xfld (pv 0)) (pe_xfld (pv 0)))))))))))))), ?_⟩
    refine part_if rfl rfl hf q fun a1 b1 H1 s1 => ?_
    refine part_if rfl rfl (hf.same s1) (fun H' s => q H' (s1.trans s)) fun a2 b2 H2 s2 => ?_
    replace s2 := s1.trans s2
    refine part_if rfl rfl (hf.same s2) (fun H' s => q H' (s2.trans s)) fun a3 b3 H3 s3 => ?_
    replace s3 := s2.trans s3
    refine part_if rfl rfl (hf.same s3) (fun H' s => q H' (s3.trans s)) fun a4 b4 H4 s4 => ?_
    replace s4 := s3.trans s4
    refine part_if rfl rfl (hf.same s4) (fun H' s => q H' (s4.trans s)) fun a5 b5 H5 s5 => ?_
    replace s5 := s4.trans s5
    refine part_if rfl rfl (hf.same s5) (fun H' s => q H' (s5.trans s)) fun a6 b6 H6 s6 => ?_
    replace s6 := s5.trans s6
    refine part_if rfl rfl (hf.same s6) (fun H' s => q H' (s6.trans s)) fun a7 b7 H7 s7 => ?_
    replace s7 := s6.trans s7
    refine part_if rfl rfl (hf.same s7) (fun H' s => q H' (s7.trans s)) fun a8 b8 H8 s8 => ?_
    replace s8 := s7.trans s8
    refine part_if rfl rfl (hf.same s8) (fun H' s => q H' (s8.trans s)) fun a9 b9 H9 s9 => ?_
    replace s9 := s8.trans s9
    refine part_ret rfl rfl (hf.same s9) ?_ (q _ s9)
    simp only [PARTS, List.mem_cons, List.not_mem_nil, or_false] at hx
    rcases hx with h | h | h | h | h | h | h | h | h | h | h | h | h | h | h | h | h | h | h | h
    all_goals first | exact .inl h | exact .inr h | exact absurd h ‹_›
/-! ### under which bases -/
theorem isx_own {H : Hp} {e : V} {b j : Nat} {fs : List Str} {vs : List V} {Q : VK} (h : IsX K H e b fs vs) (hj : j < 4) (q : Q (.bl (decide (j = b))) H) : rIsx K [e, .ref (He.ga K (own4 j))] H Q := by
  unfold rIsx
  obtain ⟨a, C, rfl, T, k, n, z⟩ := h
  rcases z with ⟨_, z⟩ | ⟨d, z1, z2⟩
  · exact ⟨a, C, none, _, _, _, rfl, T, z, fun u r => r, fun dx e => (nomatch e), (k j hj).1, q⟩
  · exact ⟨a, C, some d, _, _, _, rfl, T, z1, fun u r => r, fun dx e => by cases e; exact ⟨_, z2⟩, (k j hj).1, q⟩
theorem isx_py {H : Hp} {e : V} {b j : Nat} {fs : List Str} {vs : List V} {Q : VK} (h : IsX K H e b fs vs) (hj : j < 4) (q : Q (.bl (decide (j = b))) H) : rIsx K [e, .ty (py4 j)] H Q := by
  unfold rIsx
  obtain ⟨a, C, rfl, T, k, n, z⟩ := h
  rcases z with ⟨_, z⟩ | ⟨d, z1, z2⟩
  · exact ⟨a, C, none, _, _, _, rfl, T, z, fun u r => r, fun dx e => (nomatch e), (k j hj).2, q⟩
  · exact ⟨a, C, some d, _, _, _, rfl, T, z1, fun u r => r, fun dx e => by cases e; exact ⟨_, z2⟩, (k j hj).2, q⟩
def dueV (b : Nat) : List V := [.bl (decide (0 = b)), .bl (decide (1 = b)), .bl (decide (2 = b)), .bl (decide (3 = b))]
def dueD (b : Nat) : PyData := .list [.bool (decide (0 = b)), .bool (decide (1 = b)), .bool (decide (2 = b)), .bool (decide (3 = b))]
theorem due_dp {H : Hp} {a : Addr} {b : Nat} (h : H a = some (.lst (dueV b))) : Dp K H (.ref a) (dueD b) := .lst (SqL.of h) (.cons (.bl _) (.cons (.bl _) (.cons (.bl _) (.cons (.bl _) .nil))))
def spBases (K : PySem.W.Frag) : Sp := fun vs H Q _ => ∃ e b fs us, vs = [e] ∧ IsX K H e b fs us ∧ ∀ r H', Same H H' → Dp K H' (.ref r) (.list [dueD b, dueD b]) → Q (.ref r) H'
theorem ok_bases (F : FnP K "_law_bases" sBases f fd) (T : Free mg K) : FnG P w K mg base CX0 1 f fd ["_law_error"] (spBases K) := by
  refine FunG F scBases (fun vs H Q E h => ?_) (fun cdv A outer s H vs Q E ga hr h => ?_)
  · obtain ⟨a, b, c, d, rfl, _⟩ := h
    rfl
  · obtain ⟨e, b, fs, us, rfl, hx, q⟩ := h
    have sc := scBases
    have new : ∀ {H : Hp} {p : Addr} {o : HO}, H p = none → Same H (upd H p o) := fun hp b o z => by rw [upd_ne (ne_of_none z hp)]; exact z
    refine ⟨_, PSs.nox (pss_cons (ps_set (i := 1) sc.nd rfl (Or.inl rfl) (pe_lst (pa_cons (pe_callB call_isx (by rfl) T.f_isinstance (by decide +kernel) (pa_cons (pv 0) (pa_cons (pe_glob (v := .ref _) rfl T.g_FetchError rfl) pa_nil))) (pa_cons (pe_callB call_isx (by rfl) T.f_isinstance (by decide +kernel) (pa_cons (pv 0) (pa_cons (pe_glob (v := .ref _) rfl T.g_MissingError rfl) pa_nil))) pa_nil))))
  (pss_cons (ps_set (i := 1) sc.nd rfl (Or.inl rfl) (pe_op op_cat (pv 1) (pe_lst (pa_cons (pe_callB call_isx (by rfl) T.f_isinstance (by decide +kernel) (pa_cons (pv 0) (pa_cons (pe_glob (v := .ref _) rfl T.g_StateError rfl) pa_nil))) (pa_cons (pe_callB call_isx (by rfl) T.f_isinstance (by decide +kernel) (pa_cons (pv 0) (pa_cons (pe_glob (v := .ref _) rfl T.g_LimitError rfl) pa_nil))) pa_nil)))))
  (pss_cons (ps_set (i := 2) sc.nd rfl (Or.inl rfl) (pe_lst (pa_cons (pe_callB call_isx (by rfl) T.f_isinstance (by decide +kernel) (pa_cons (pv 0) (pa_cons (pe_bltn (v := .ty "ValueError") (by rfl) T.f_ValueError (by decide +kernel) rfl) pa_nil))) (pa_cons (pe_callB call_isx (by rfl) T.f_isinstance (by decide +kernel) (pa_cons (pv 0) (pa_cons (pe_bltn (v := .ty "LookupError") (by rfl) T.f_LookupError (by decide +kernel) rfl) pa_nil))) pa_nil))))
  (pss_one (ps_ret (pe_lst (pa_cons (pv 1) (pa_cons (pe_op op_cat (pv 2) (pe_lst (pa_cons (pe_callB call_isx (by rfl) T.f_isinstance (by decide +kernel) (pa_cons (pv 0) (pa_cons (pe_bltn (v := .ty "RuntimeError") (by rfl) T.f_RuntimeError (by decide +kernel) rfl) pa_nil))) (pa_cons (pe_callB call_isx (by rfl) T.f_isinstance (by decide +kernel) (pa_cons (pv 0) (pa_cons (pe_bltn (v := .ty "ArithmeticError") (by rfl) T.f_ArithmeticError (by decide +kernel) rfl) pa_nil))) pa_nil)))) pa_nil)))))))), ?_⟩
    refine ⟨_, rfl, isx_own (j := 0) hx (by decide) ?_⟩
    refine ⟨_, rfl, isx_own (j := 1) hx (by decide) ?_⟩
    refine ⟨by show 2 ≤ sizeLine; decide, fun p1 h1 => ?_⟩
    have s1 := new (o := .lst [.bl (decide (0 = b)), .bl (decide (1 = b))]) h1
    refine ⟨_, rfl, _, rfl, isx_own (j := 2) (hx.same s1) (by decide) ?_⟩
    refine ⟨_, rfl, isx_own (j := 3) (hx.same s1) (by decide) ?_⟩
    refine ⟨by show 2 ≤ sizeLine; decide, fun p2 h2 => ?_⟩
    have s2 := s1.trans (new (o := .lst [.bl (decide (2 = b)), .bl (decide (3 = b))]) h2)
    refine ⟨p1, p2, _, _, rfl, rfl, (new h2) _ _ upd_same, upd_same, by show 4 ≤ sizeLine; decide, fun p3 h3 => ?_⟩
    have s3 := s2.trans (new (o := .lst (dueV b)) h3)
    refine ⟨_, rfl, isx_py (j := 0) (hx.same s3) (by decide) ?_⟩
    refine ⟨_, rfl, isx_py (j := 1) (hx.same s3) (by decide) ?_⟩
    refine ⟨by show 2 ≤ sizeLine; decide, fun p4 h4 => ?_⟩
    have s4 := s3.trans (new (o := .lst [.bl (decide (0 = b)), .bl (decide (1 = b))]) h4)
    refine ⟨_, rfl, _, rfl, _, rfl, isx_py (j := 2) (hx.same s4) (by decide) ?_⟩
    refine ⟨_, rfl, isx_py (j := 3) (hx.same s4) (by decide) ?_⟩
    refine ⟨by show 2 ≤ sizeLine; decide, fun p5 h5 => ?_⟩
    have s5 := s4.trans (new (o := .lst [.bl (decide (2 = b)), .bl (decide (3 = b))]) h5)
    refine ⟨p4, p5, _, _, rfl, rfl, (new h5) _ _ upd_same, upd_same, by show 4 ≤ sizeLine; decide, fun p6 h6 => ?_⟩
    have s6 := s5.trans (new (o := .lst (dueV b)) h6)
    refine ⟨by show 2 ≤ sizeLine; decide, fun p7 h7 => ?_⟩
    have s7 := s6.trans (new (o := .lst [.ref p3, .ref p6]) h7)
    refine q _ _ s7 (.lst (SqL.of upd_same) (.cons (due_dp ?_) (.cons (due_dp ?_) .nil)))
    · exact new h7 _ _ (new h6 _ _ (new h5 _ _ (new h4 _ _ upd_same)))
    · exact new h7 _ _ upd_same
end
end K14


/-! K14, part I: the rows are right -/
namespace K14
open PySem PySem.Spec PyProof.Rows L2 FW
abbrev sAre : Stmt := top 64
theorem scAre : FnScope ["_law_rows", "_law_at", "_law_values", "_law_error", "_law_words", "_law_parts", "_law_ask", "_law_due", "_law_k"] ["_law_rows", "_law_at", "_law_values"] (defScope sAre) := ⟨rfl, rfl, rfl, by decide +kernel, rfl, by decide +kernel, by decide +kernel⟩
/-! ### mathematics -/
theorem table_ok : ∀ p ∈ TABLE, (Txt.split p.2 " " = p.1 ∨ (p.1 = [] ∧ Txt.split p.2 " " = [("" : Str)])) ∧ p.1.length ≤ 3 ∧ (∀ f ∈ p.1, f ∈ PARTS ∧ decide (f = "") = false) ∧ p.1.Nodup ∧ p.2.length ≤ 20 := by decide +kernel
theorem lookup_mem {f : Str} {v : V} : ∀ {l : List (Str × V)}, (l.map (·.1)).Nodup → (f, v) ∈ l → l.lookup f = some v
  | [], _, h => nomatch h
  | (g, u) :: r, n, h => by
    rw [List.map_cons, List.nodup_cons] at n
    rcases List.mem_cons.mp h with e | hr
    · cases e
      simp [List.lookup]
    · have ne : (f == g) = false := by
        rw [beq_eq_false_iff_ne]
        intro e
        exact n.1 (e ▸ List.mem_map_of_mem (f := (·.1)) hr)
      simp [List.lookup, ne, lookup_mem n.2 hr]
theorem lookup_zip {fs : List Str} {vs : List V} {i : Nat} {f : Str} {v : V} (hn : fs.Nodup) (hl : fs.length = vs.length) (h1 : fs[i]? = some f) (h2 : vs[i]? = some v) : (fs.zip vs).reverse.lookup f = some v := by
  refine lookup_mem ?_ ?_
  · rw [List.map_reverse, List.map_fst_zip (Nat.le_of_eq hl)]
    exact List.pairwise_reverse.mpr (hn.imp fun h => h.symm)
  · rw [List.mem_reverse, List.mem_iff_getElem?]
    exact ⟨i, by rw [List.getElem?_zip_eq_some]; exact ⟨h1, h2⟩⟩
theorem fld_of {K : PySem.W.Frag} {H : Hp} {e v : V} {b i : Nat} {fs : List Str} {vs : List V} {f : Str} (h : IsX K H e b fs vs) (hn : fs.Nodup) (hl : fs.length = vs.length) (h1 : fs[i]? = some f) (h2 : vs[i]? = some v) : Fld K H e f v := by
  obtain ⟨a, C, rfl, T, k, n, z⟩ := h
  rcases z with ⟨e0, _⟩ | ⟨d, z1, z2⟩
  · subst e0
    cases h1
  · exact ⟨a, C, d, _, rfl, T, n f (List.mem_of_getElem? h1), z1, z2, lookup_zip hn hl h1 h2⟩
def POOL : List PyData := [.none, .int 0, .int 7, .bool true, .str "", .str "late", .tuple [], .tuple [.int 1, .str "a"], .list [], .list [.int 0], .dict [], .dict [(.str "a", .int 1)], .int (10 ^ 30), .int (-1)]
theorem pool_ok : ∀ d ∈ POOL, d.showable = true ∧ d.depth ≤ 9 ∧ d.shown.length ≤ 60 := by decide +kernel
theorem textFrom_le : ∀ (ts : List Str) (k : Nat) (acc : Str), (∀ t ∈ ts, t.length ≤ 60) → (textFrom k acc ts).length ≤ acc.length + 62 * ts.length
  | [], k, acc, _ => Nat.le_refl _
  | t :: r, k, acc, h => by
    have z := textFrom_le r (k + 1) (acc ++ (if k > 0 then ", " else "" : String) ++ t) fun x hx => h x (List.mem_cons_of_mem _ hx)
    have e : (acc ++ (if k > 0 then ", " else "" : String) ++ t).length = acc.length + (if k > 0 then 2 else 0) + t.length := by
      rw [strLen_append, strLen_append]
      split <;> rfl
    have h2 := h t (List.mem_cons_self ..)
    show (textFrom (k + 1) (acc ++ (if k > 0 then ", " else "" : String) ++ t) r).length ≤ _
    rw [e] at z
    rw [List.length_cons]
    have hz : (if k > 0 then 2 else 0) ≤ 2 := by split <;> omega
    omega
theorem showableAll_of : ∀ {ds : List PyData}, (∀ d ∈ ds, d.showable = true) → PyData.showableAll ds = true
  | [], _ => by simp only [PyData.showableAll]
  | d :: ds, h => by simp only [PyData.showableAll, h d (List.mem_cons_self ..), showableAll_of fun x hx => h x (List.mem_cons_of_mem _ hx), Bool.and_self]
theorem depthAll_of {n : Nat} : ∀ {ds : List PyData}, (∀ d ∈ ds, d.depth ≤ n) → PyData.depthAll ds ≤ n
  | [], _ => by simp only [PyData.depthAll]; exact Nat.zero_le _
  | d :: ds, h => by
    have a := h d (List.mem_cons_self ..)
    have b := depthAll_of (ds := ds) fun x hx => h x (List.mem_cons_of_mem _ hx)
    simp only [PyData.depthAll]
    omega
theorem shownAll_of {n : Nat} : ∀ {ds : List PyData}, (∀ d ∈ ds, d.shown.length ≤ n) → ∀ t ∈ PyData.shownAll ds, t.length ≤ n
  | [], _, t, ht => by
    simp only [PyData.shownAll] at ht
    exact nomatch ht
  | d :: ds, h, t, ht => by
    simp only [PyData.shownAll] at ht
    rcases List.mem_cons.mp ht with e | ht
    · rw [e]
      exact h d (List.mem_cons_self ..)
    · exact shownAll_of (fun x hx => h x (List.mem_cons_of_mem _ hx)) t ht
theorem shownAll_len : ∀ ds : List PyData, (PyData.shownAll ds).length = ds.length
  | [] => by simp only [PyData.shownAll]; rfl
  | d :: ds => by simp only [PyData.shownAll, List.length_cons, shownAll_len ds]
theorem pool_list {ds : List PyData} (h : ∀ d ∈ ds, d ∈ POOL) (hl : ds.length ≤ 3) : (PyData.list ds).showable = true ∧ (PyData.list ds).depth ≤ 60 ∧ (PyData.list ds).shown.length ≤ sizeLine := by
  refine ⟨?_, ?_, ?_⟩
  · simp only [PyData.showable]
    exact showableAll_of fun d hd => (pool_ok d (h d hd)).1
  · have z := depthAll_of (n := 9) fun d hd => (pool_ok d (h d hd)).2.1
    simp only [PyData.depth]
    omega
  · have z := textFrom_le (PyData.shownAll ds) 0 "[" (shownAll_of fun d hd => (pool_ok d (h d hd)).2.2)
    have n := shownAll_len ds
    simp only [PyData.shown]
    show (textFrom 0 "[" (PyData.shownAll ds) ++ ("]" : Str)).length ≤ sizeLine
    rw [strLen_append, show (("]" : Str).length) = 1 from rfl]
    rw [show (("[" : Str).length) = 1 from rfl] at z
    have hs : 1000 ≤ sizeLine := by decide
    omega
/-- three values that repr shows -/
def Three (H : Hp) (vals : List V) (ds : List PyData) : Prop := vals.length = 3 ∧ ShAll H vals ds ∧ ∀ d ∈ ds, d ∈ POOL
theorem Three.same {H H' : Hp} {vals : List V} {ds : List PyData} (s : Same H H') (h : Three H vals ds) : Three H' vals ds := ⟨h.1, h.2.1.same s, h.2.2⟩
theorem split_take {fs : List Str} {w : Str} (h : (fs, w) ∈ TABLE) (vals : List V) : ((vals.take fs.length).take (Txt.split w " ").length) = vals.take fs.length := by
  obtain ⟨z, _⟩ := table_ok _ h
  have z' : Txt.split w " " = fs ∨ (fs = [] ∧ Txt.split w " " = [("" : Str)]) := z
  rcases z' with e1 | ⟨e1, e2⟩
  · rw [e1, List.take_take, Nat.min_self]
  · rw [e1, e2]
    cases vals <;> rfl
theorem split_item {fs : List Str} {w : Str} (h : (fs, w) ∈ TABLE) {i : Nat} {y : Str} (hi : (Txt.split w " ")[i]? = some y) :
    (fs[i]? = some y ∧ y ∈ PARTS ∧ decide (V.str y = V.str "") = false) ∨ (fs = [] ∧ y = "") := by
  obtain ⟨z, _, hP, _⟩ := table_ok _ h
  have z' : Txt.split w " " = fs ∨ (fs = [] ∧ Txt.split w " " = [("" : Str)]) := z
  rcases z' with e1 | ⟨e1, e2⟩
  · rw [e1] at hi
    obtain ⟨p1, p2⟩ := hP _ (List.mem_of_getElem? hi)
    exact .inl ⟨hi, p1, decide_eq_false fun e => of_decide_eq_false p2 (V.str.inj e)⟩
  · rw [e2] at hi
    cases i with
    | zero => exact .inr ⟨e1, (Option.some.inj hi).symm⟩
    | succ i => cases hi
end K14


/-! K14, part J: the loop over the rows -/
namespace K14
open PySem PySem.Spec PyProof.Rows L2 FW
def spAre (K : PySem.W.Frag) : Sp := fun vs H Q _ => ∃ (l lv : Addr) (b : Nat) (rows vals : List V) (ds : List PyData), vs = [.ref l, .int b, .ref lv] ∧ b < 4 ∧ H l = some (.lst rows) ∧ (∀ r ∈ rows, RowOk K H b vals r) ∧
  H lv = some (.lst vals) ∧ Three H vals ds ∧ ∀ H', Same H H' → Q (.bl true) H'
section
variable {P : Program} {w : World} {K : PySem.W.Frag} {mg : Str → Option Value} {base : Heap} {f : Addr} {fd : FuncData}
theorem due_at (k b : Nat) : decide (V.int (0 + (k : Int)) = V.int (b : Int)) = decide (k = b) := decide_eq_decide.mpr ⟨fun z => by
    have e := V.int.inj z
    omega, fun z => congrArg V.int (by omega)⟩
theorem seq_t {K : PySem.W.Frag} {H H' : Hp} {a : Addr} {xs : List V} (e : Same H H') (h : SqT K H a xs) : SqT K H' a xs := by
  rcases h with (h | ⟨o, h⟩) | h
  · exact .inl (.inl (e _ _ h))
  · exact .inl (.inr ⟨o, e _ _ h⟩)
  · exact .inr h
theorem due_ok : ∀ b, b < 4 → SeqAt.shaped (.list [dueD b, dueD b]) = true ∧ PyData.eqv (.list [dueD b, dueD b]) (.list [dueD b, dueD b]) = true := by decide +kernel
mutual
theorem dp_same {H H' : Hp} (s : Same H H') : ∀ {v : V} {d : PyData}, Dp K H v d → Dp K H' v d
  | _, _, .non => .non
  | _, _, .bl b => .bl b
  | _, _, .int i => .int i
  | _, _, .str x => .str x
  | _, _, .lst h t => .lst (s.seq h) (dpAll_same s t)
  | _, _, .tup h t => .tup (seq_t s h) (dpAll_same s t)
theorem dpAll_same {H H' : Hp} (s : Same H H') : ∀ {vs : List V} {ds : List PyData}, DpAll K H vs ds → DpAll K H' vs ds
  | _, _, .nil => .nil
  | _, _, .cons h t => .cons (dp_same s h) (dpAll_same s t)
end
/-- vals[:n] -/
theorem cut_take {vals : List V} {n : Nat} (h3 : vals.length = 3) (hn : n ≤ 3) : cutV vals none (some (n : Int)) = vals.take n := by
  match vals, h3 with
  | [a, b, c], _ =>
    match n, hn with
    | 0, _ => rfl
    | 1, _ => rfl
    | 2, _ => rfl
    | 3, _ => rfl
theorem ok_are (F : FnP K "_law_are_right" sAre f fd) (T : Free mg K) (d_part : Def1 P w K mg base "_law_part" 1 ["_law_error", "_law_ask"] (spPart K)) (d_bases : Def1 P w K mg base "_law_bases" 1 ["_law_error"] (spBases K)) :
    FnG P w K mg base CX0 2 f fd ["_law_rows", "_law_at", "_law_values"] (spAre K) := by
  refine FunG F scAre (fun vs H Q E h => ?_) (fun cdv A outer s H vs Q E ga hr h => ?_)
  · obtain ⟨_, _, _, _, _, _, rfl, _⟩ := h
    rfl
  · obtain ⟨l, lv, b, rows, vals, ds, rfl, hb, hl, hR, hv, h3, q⟩ := h
    have sc := scAre
    have new : ∀ {H : Hp} {p : Addr} {o : HO}, H p = none → Same H (upd H p o) := fun hp b o z => by rw [upd_ne (ne_of_none z hp)]; exact z
    refine ⟨_, PSs.nox (pss_cons (ps_for PassesOwn.never rfl (pi_list (pv 0)) (pg_tup rfl (pgs_cons (pg_name (i := 3) sc.nd rfl (Or.inr rfl)) (pgs_cons (pg_name (i := 4) sc.nd rfl (Or.inl rfl)) pgs_nil))) (pss_cons (ps_setLc (i := 5) (own := [("_law_ask", 6)]) rfl sc.nd rfl rfl (sw_true rfl rfl rfl (by decide +kernel)) (pi_list (pe_split (pv 4) pe_str)) (blkOk_by (N := ["_law_rows", "_law_at", "_law_values", "_law_error", "_law_words", "_law_parts", "_law_ask", "_law_due", "_law_k"]) (sc := defScope (top 64)) (by decide +kernel)) (fun _ _ _ _ _ => (pg_name (i := 6) sc.nd rfl (Or.inl rfl))) (fun _ _ _ _ _ => (pts_one (pt_cmpR op_ne (pv 6) pe_str (nomark _)))) (fun _ _ _ _ _ => (pg_c d_part ga (hr.mono (by decide)) rfl (pa_cons (pv 3) (pa_cons (pv 6) pa_nil)))))
  (pss_cons (ps_if (pt_cmpR op_ne (pe_callB (call_repr ga hr T.sm) (by rfl) T.f_repr (by decide +kernel) (pa_cons (pv 5) pa_nil)) (pe_callB (call_repr ga hr T.sm) (by rfl) T.f_repr (by decide +kernel) (pa_cons (pe_slice sl_list (pv 2) po_none (po_some (pe_callB call_len (by rfl) T.f_len (by decide +kernel) (pa_cons (pv 5) pa_nil)))) pa_nil)) (nomark _)) (pss_one (ps_ret pe_bl)) pss_nil)
  (pss_cons (ps_setLc (i := 7) (own := [("_law_k", 8)]) rfl sc.nd rfl rfl (sw_true rfl rfl rfl (by decide +kernel)) (pi_range1 (by rfl) T.f_range (pa_cons pe_int pa_nil)) (blkOk_by (N := ["_law_rows", "_law_at", "_law_values", "_law_error", "_law_words", "_law_parts", "_law_ask", "_law_due", "_law_k"]) (sc := defScope (top 64)) (by decide +kernel)) (fun _ _ _ _ _ => (pg_name (i := 8) sc.nd rfl (Or.inl rfl))) (fun _ _ _ _ _ => pts_nil) (fun _ _ _ _ _ => (pe_cmpR op_eq (pv 8) (pv 1) (nomark _))))
  (pss_one (ps_if (pt_cmpR (op_neD hr.units) (pg_c d_bases ga (hr.mono (by decide)) rfl (pa_cons (pv 3) pa_nil)) (pe_lst (pa_cons (pv 7) (pa_cons (pv 7) pa_nil))) (nomark _)) (pss_one (ps_ret pe_bl)) pss_nil))))))
  (pss_one (ps_ret pe_bl))), ?_⟩
    refine ⟨_, rfl, l, rfl, ⟨_, SqL.of hl⟩, for_list (xs := rows) (fun i σ H1 => (∃ y3 y4 y5 y6 y7 y8, σ = [some (.ref l), some (.int b), some (.ref lv), y3, y4, y5, y6, y7, y8]) ∧ Same H H1) ⟨⟨_, _, _, _, _, _, rfl⟩, fun _ _ z => z⟩
      (fun i σ H1 _ h => SqL.of (h.2 _ _ hl)) (fun i x σ H1 hx h => ?_) (fun σ H1 h => q _ h.2)⟩
    obtain ⟨⟨y3, y4, y5, y6, y7, y8, rfl⟩, s1⟩ := h
    obtain ⟨t, e, fs, w', rfl, et, hT, hX⟩ := (hR x (List.mem_of_getElem? hx)).same s1
    obtain ⟨hsp, hl3, hP, hnd, hwl⟩ := table_ok _ hT
    obtain ⟨hv3, hsh, hpool⟩ := h3.same s1
    refine ⟨t, _, rfl, SqT.of et, rfl, _, _, rfl, _, _, rfl, rfl, ?_⟩
    have hs : 1000 ≤ sizeLine := by decide
    refine ⟨_, rfl, ⟨_, rfl⟩, _, _, rfl, rfl, rfl, Nat.le_trans (Nat.add_le_add_right hwl 2) (Nat.le_trans (by decide) hs), fun p hp => ?_⟩
    refine ⟨p, rfl, ⟨_, SqL.of upd_same⟩, fun Dl hD => ?_⟩
    have sp := new (o := .lst ((Txt.split w' " ").map V.str)) hp
    have sD := new (o := .lst []) hD
    refine lc_list (xs := (Txt.split w' " ").map V.str) (fun i H2 => Same (upd H1 p (.lst ((Txt.split w' " ").map V.str))) H2 ∧ H2 Dl = some (.lst ((vals.take fs.length).take i))) ⟨sD, upd_same⟩
      (fun i H2 _ h => SqL.of (h.1 _ _ upd_same)) (fun i x H2 hx h => ?_) (fun H2 h => ?_)
    · rw [List.getElem?_map, Option.map_eq_some_iff] at hx
      obtain ⟨y, hy, rfl⟩ := hx
      obtain ⟨s2, eD⟩ := h
      refine ⟨rfl, _, rfl, rfl, _, rfl, ?_⟩
      rcases split_item hT hy with ⟨h1, h2, h4⟩ | ⟨h1, h2⟩
      · have hi : i < fs.length := (List.getElem?_eq_some_iff.mp h1).1
        have hi3 : i < vals.length := by rw [hv3]; exact Nat.lt_of_lt_of_le hi hl3
        have g1 : (vals.take fs.length)[i]? = some vals[i] := by rw [List.getElem?_take_of_lt hi, List.getElem?_eq_getElem hi3]
        refine (if_pos (show (!decide (V.str y = V.str "")) = true by rw [h4]; rfl)).mpr ?_
        have hF := (fld_of hX hnd (by rw [List.length_take, hv3]; exact (Nat.min_eq_left hl3).symm) h1 g1).same (sp.trans s2)
        refine ⟨_, rfl, _, rfl, e, y, _, rfl, h2, hF, fun H' s3 => ?_⟩
        refine ⟨_, s3 _ _ eD, ?_, ?_, ?_⟩
        · have hl1 : ((vals.take fs.length).take i).length ≤ 3 := by rw [List.length_take, List.length_take, hv3]; omega
          omega
        · intro b' o e'
          have nb : b' ≠ Dl := ne_of_none e' hD
          rw [upd_ne nb]
          exact s3 _ _ (s2 _ _ e')
        · rw [upd_same, List.take_add_one, g1]
          rfl
      · subst h1 h2
        refine (if_neg (show ¬ (!decide (V.str "" = V.str "")) = true by decide)).mpr ?_
        refine ⟨s2, eD.trans ?_⟩
        cases i <;> rfl
    · obtain ⟨s2, eD⟩ := h
      rw [List.length_map, split_take hT] at eD
      have s02 := (s1.trans sp).trans s2
      have hl2 : (vals.take fs.length).length = fs.length := by rw [List.length_take, hv3]; exact Nat.min_eq_left hl3
      have hsh2 : ShAll H2 (vals.take fs.length) (ds.take fs.length) := ((hsh.same sp).same s2).take _
      obtain ⟨p1, p2, p3⟩ := pool_list (ds := ds.take fs.length) (fun d hd => hpool d (List.mem_of_mem_take hd)) (by rw [List.length_take]; exact Nat.le_trans (Nat.min_le_left _ _) hl3)
      refine ⟨_, rfl, Dl, _, rfl, .lst eD hsh2, p1, p2, p3, _, rfl, _, rfl, _, _, rfl, .inl ⟨_, SqL.of eD, rfl⟩, _, rfl, lv, vals, rfl, SqL.of (s02 _ _ hv), fun r hr => ?_⟩
      have ec : cutV vals none (some ((vals.take fs.length).length : Int)) = vals.take fs.length := by
        rw [hl2]
        exact cut_take hv3 hl3
      rw [ec]
      have s3 := new (o := .lst (vals.take fs.length)) hr
      refine ⟨r, _, rfl, .lst upd_same (hsh2.same s3), p1, p2, p3, rfl, _, rfl, ?_⟩
      refine (if_neg (show ¬ (!decide (V.str (PyData.list (ds.take fs.length)).shown = V.str (PyData.list (ds.take fs.length)).shown)) = true by rw [decide_eq_true rfl]; decide)).mpr ?_
      -- due
      refine ⟨4, rfl, by decide, by decide, fun Du hDu => ?_⟩
      have s03 := s02.trans s3
      have sU := new (o := .lst []) hDu
      refine lc_range (lo := 0) (n := 4) (fun i H3 => Same (upd H2 r (.lst (vals.take fs.length))) H3 ∧ H3 Du = some (.lst ((dueV b).take i))) ⟨sU, upd_same⟩ (fun i H3 hi h => ?_) (fun H3 h => ?_)
      · obtain ⟨s4, eU⟩ := h
        refine ⟨rfl, _, rfl, _, rfl, rfl, _, eU, ?_, ?_, ?_⟩
        · have hl1 : ((dueV b).take i).length ≤ 4 := by rw [List.length_take]; exact Nat.min_le_right _ _
          omega
        · intro b' o e'
          have nb : b' ≠ Du := ne_of_none e' hDu
          rw [upd_ne nb]
          exact s4 _ _ e'
        · rw [upd_same, List.take_add_one]
          refine congrArg (fun z => some (HO.lst ((dueV b).take i ++ z))) ?_
          match i, hi with
          | 0, _ => exact congrArg (fun z => [V.bl z]) (due_at 0 b)
          | 1, _ => exact congrArg (fun z => [V.bl z]) (due_at 1 b)
          | 2, _ => exact congrArg (fun z => [V.bl z]) (due_at 2 b)
          | 3, _ => exact congrArg (fun z => [V.bl z]) (due_at 3 b)
      · obtain ⟨s4, eU⟩ := h
        have s04 := s03.trans s4
        refine ⟨_, rfl, e, b, fs, _, rfl, hX.same ((sp.trans s2).trans (s3.trans s4)), fun rb H4 s5 hD => ?_⟩
        refine ⟨_, rfl, _, rfl, by show 2 ≤ sizeLine; decide, fun rl hrl => ?_⟩
        have s6 := new (o := .lst [.ref Du, .ref Du]) hrl
        have eDu : Dp K (upd H4 rl (.lst [.ref Du, .ref Du])) (.ref Du) (dueD b) := due_dp (s6 _ _ (s5 _ _ eU))
        obtain ⟨dd1, dd2⟩ := due_ok b hb
        refine ⟨.list [dueD b, dueD b], .list [dueD b, dueD b], dp_same s6 hD, .lst (SqL.of upd_same) (.cons eDu (.cons eDu .nil)), dd1, dd1, _, rfl, ?_⟩
        refine (if_neg (show ¬ (!PyData.eqv (.list [dueD b, dueD b]) (.list [dueD b, dueD b])) = true by rw [dd2]; decide)).mpr ?_
        exact ⟨⟨_, _, _, _, _, _, rfl⟩, s04.trans (s5.trans s6)⟩
end
end K14


/-! K14, part K: one turn of the law; the law -/
namespace K14
open PySem PySem.Spec PyProof.Rows L2 FW
abbrev sRight : Stmt := top 65
abbrev sLaw : Stmt := top 66
theorem scRight : FnScope ["_law_pot_here", "_law_some", "_law_values", "_law_turn", "_law_red", "_law_blue", "_law_green"] ["_law_pot_here"] (defScope sRight) := ⟨rfl, rfl, rfl, by decide +kernel, rfl, by decide +kernel, by decide +kernel⟩
theorem scLaw : FnScope ["_law_script", "_law_k"] ["_law_script"] (defScope sLaw) := ⟨rfl, rfl, rfl, by decide +kernel, rfl, by decide +kernel, by decide +kernel⟩
/-- the heap without p -/
def off (p : Addr) (H : Hp) : Hp := fun b => if b = p then none else H b
theorem off_ne {p b : Addr} {H : Hp} (h : b ≠ p) : off p H b = H b := if_neg h
theorem off_same {p : Addr} {H : Hp} : Same (off p H) H := fun b o e => by
  by_cases h : b = p
  · rw [off, if_pos h] at e
    cases e
  · rw [off_ne h] at e
    exact e
theorem off_but {p : Addr} {H H' : Hp} (s : But p H H') : Same (off p H) (off p H') := fun b o e => by
  by_cases h : b = p
  · rw [off, if_pos h] at e
    cases e
  · rw [off_ne h] at e ⊢
    exact s _ _ h e
theorem sh_mem {H : Hp} {v : V} : ∀ {vs : List V} {ds : List PyData}, ShAll H vs ds → v ∈ vs → ∃ d, d ∈ ds ∧ Sh H v d
  | _, _, .nil, h => nomatch h
  | _, _, .cons h t, m => by
    rcases List.mem_cons.mp m with rfl | m
    · exact ⟨_, List.mem_cons_self .., h⟩
    · obtain ⟨d, m', h'⟩ := sh_mem t m
      exact ⟨d, List.mem_cons_of_mem _ m', h'⟩
theorem sh_snoc {H : Hp} {v : V} {d : PyData} : ∀ {vs : List V} {ds : List PyData}, ShAll H vs ds → Sh H v d → ShAll H (vs ++ [v]) (ds ++ [d])
  | _, _, .nil, h => .cons h .nil
  | _, _, .cons h t, h' => .cons h (sh_snoc t h')
def spRight : Sp := fun vs H Q _ => ∃ p : Addr, vs = [.ref p] ∧ isPot H p ∧ ∀ H', But p H H' → Q (.bl true) H'
section
variable {P : Program} {w : World} {K : PySem.W.Frag} {mg : Str → Option Value} {base : Heap} {f : Addr} {fd : FuncData}
theorem ok_right (F : FnP K "_law_right" sRight f fd) (T : Free mg K) (d_pick : Def1 P w K mg base "_law_pick" 2 ["_law_pot_here", "_law_some"] (spPick K)) (d_are_right : Def1 P w K mg base "_law_are_right" 2 ["_law_rows", "_law_at", "_law_values"] (spAre K))
    (d_fetch : Def1 P w K mg base "_law_fetch" 3 ["_law_red", "_law_blue", "_law_green"] (spRows K 0)) (d_fetch_too : Def1 P w K mg base "_law_fetch_too" 3 ["_law_red", "_law_blue", "_law_green"] (spRows K 0)) (d_missing : Def1 P w K mg base "_law_missing" 3 ["_law_red", "_law_blue", "_law_green"] (spRows K 1))
    (d_state : Def1 P w K mg base "_law_state" 3 ["_law_red", "_law_blue", "_law_green"] (spRows K 2)) (d_limit : Def1 P w K mg base "_law_limit" 3 ["_law_red", "_law_blue", "_law_green"] (spRows K 3)) :
    FnG P w K mg base CX0 4 f fd ["_law_pot_here"] spRight := by
  refine FunG F scRight (fun vs H Q E h => ?_) (fun cdv A outer s H vs Q E ga hr h => ?_)
  · obtain ⟨_, rfl, _⟩ := h
    rfl
  · obtain ⟨p, rfl, hp, q⟩ := h
    have sc := scRight
    have new : ∀ {H : Hp} {p : Addr} {o : HO}, H p = none → Same H (upd H p o) := fun hp b o z => by rw [upd_ne (ne_of_none z hp)]; exact z
    refine ⟨_, PSs.nox (pss_cons (ps_set (i := 1) sc.nd rfl (Or.inr rfl) (pe_lst (pa_cons pe_non (pa_cons pe_int (pa_cons pe_int (pa_cons pe_bl (pa_cons pe_str (pa_cons pe_str (pa_cons (pe_tup pa_nil) (pa_cons (pe_tup (pa_cons pe_int (pa_cons pe_str pa_nil))) (pa_cons (pe_lst pa_nil) (pa_cons (pe_lst (pa_cons pe_int pa_nil)) (pa_cons pe_dnewK (pa_cons (pe_disp (pps_cons pe_str pe_int pps_nil) (by rfl) (by rfl) (fun z => by cases z) (by decide)) (pa_cons (pe_op op_pow pe_int pe_int) (pa_cons (pe_un un_neg pe_int) pa_nil))))))))))))))))
  (pss_cons (ps_setLc (i := 2) (own := [("_law_turn", 3)]) rfl sc.nd rfl rfl (sw_true rfl rfl rfl (by decide +kernel)) (pi_range1 (by rfl) T.f_range (pa_cons pe_int pa_nil)) (blkOk_by (N := ["_law_pot_here", "_law_some", "_law_values", "_law_turn", "_law_red", "_law_blue", "_law_green"]) (sc := defScope (top 65)) (by decide +kernel)) (fun _ _ _ _ _ => (pg_name (i := 3) sc.nd rfl (Or.inl rfl))) (fun _ _ _ _ _ => pts_nil) (fun _ _ _ _ _ => (pg_c d_pick ga (hr.mono (by decide)) rfl (pa_cons (pv 0) (pa_cons (pv 1) pa_nil)))))
  (pss_cons (ps_asg (pv 2) (pg_unl rfl (pgs_cons (pg_name (i := 4) sc.nd rfl (Or.inl rfl)) (pgs_cons (pg_name (i := 5) sc.nd rfl (Or.inl rfl)) (pgs_cons (pg_name (i := 6) sc.nd rfl (Or.inl rfl)) pgs_nil)))))
  (pss_cons (ps_if (pt_not (pt_val (pg_c d_are_right ga (hr.mono (by decide)) rfl (pa_cons (pg_c d_fetch ga (hr.mono (by decide)) rfl (pa_cons (pv 4) (pa_cons (pv 5) (pa_cons (pv 6) pa_nil)))) (pa_cons pe_int (pa_cons (pv 2) pa_nil)))))) (pss_one (ps_ret pe_bl)) pss_nil)
  (pss_cons (ps_if (pt_not (pt_val (pg_c d_are_right ga (hr.mono (by decide)) rfl (pa_cons (pg_c d_fetch_too ga (hr.mono (by decide)) rfl (pa_cons (pv 4) (pa_cons (pv 5) (pa_cons (pv 6) pa_nil)))) (pa_cons pe_int (pa_cons (pv 2) pa_nil)))))) (pss_one (ps_ret pe_bl)) pss_nil)
  (pss_cons (ps_if (pt_not (pt_val (pg_c d_are_right ga (hr.mono (by decide)) rfl (pa_cons (pg_c d_missing ga (hr.mono (by decide)) rfl (pa_cons (pv 4) (pa_cons (pv 5) (pa_cons (pv 6) pa_nil)))) (pa_cons pe_int (pa_cons (pv 2) pa_nil)))))) (pss_one (ps_ret pe_bl)) pss_nil)
  (pss_cons (ps_if (pt_not (pt_val (pg_c d_are_right ga (hr.mono (by decide)) rfl (pa_cons (pg_c d_state ga (hr.mono (by decide)) rfl (pa_cons (pv 4) (pa_cons (pv 5) (pa_cons (pv 6) pa_nil)))) (pa_cons pe_int (pa_cons (pv 2) pa_nil)))))) (pss_one (ps_ret pe_bl)) pss_nil)
  (pss_cons (ps_if (pt_not (pt_val (pg_c d_are_right ga (hr.mono (by decide)) rfl (pa_cons (pg_c d_limit ga (hr.mono (by decide)) rfl (pa_cons (pv 4) (pa_cons (pv 5) (pa_cons (pv 6) pa_nil)))) (pa_cons pe_int (pa_cons (pv 2) pa_nil)))))) (pss_one (ps_ret pe_bl)) pss_nil)
  (pss_one (ps_ret pe_bl)))))))))), ?_⟩
    refine ⟨by show 0 ≤ sizeLine; decide, fun a1 h1 => ?_⟩
    refine ⟨by show 2 ≤ sizeLine; decide, fun a2 h2 => ?_⟩
    refine ⟨by show 0 ≤ sizeLine; decide, fun a3 h3 => ?_⟩
    refine ⟨by show 1 ≤ sizeLine; decide, fun a4 h4 => ?_⟩
    refine fun a5 h5 => ?_
    refine fun a6 h6 => ?_
    refine ⟨upd_same, [(Sum.inr "a", .int 1)], rfl, by decide, _, _, rfl, rfl, ⟨by decide, by decide, by decide⟩, _, rfl, by show 14 ≤ sizeLine; decide, fun l hl => ?_⟩
    obtain ⟨px, py, ep⟩ := hp
    have s1 := new (o := .tup []) h1
    have s2 := new (o := .tup [.int 1, .str "a"]) h2
    have s3 := new (o := .lst []) h3
    have s4 := new (o := .lst [.int 0]) h4
    have s5 := new (o := .dK []) h5
    have s6 : Same _ (upd (upd (upd (upd (upd (upd (upd H a1 (.tup [])) a2 (.tup [.int 1, .str "a"])) a3 (.lst [])) a4 (.lst [.int 0])) a5 (.dK [])) a6 (.dK [])) a6 (.dK (mergeK [] [(Sum.inr "a", .int 1)]))) := fun b o e => by
      have nb := ne_of_none e h6
      rw [upd_ne nb, upd_ne nb]
      exact e
    have s7 := new (o := .lst [.non, .int 0, .int 7, .bl true, .str "", .str "late", .ref a1, .ref a2, .ref a3, .ref a4, .ref a5, .ref a6, .int (10 ^ (30 : Int).toNat), .int (-1)]) hl
    have p1 := s1 _ _ ep
    have p2 := s2 _ _ p1
    have p3 := s3 _ _ p2
    have p4 := s4 _ _ p3
    have p5 := s5 _ _ p4
    have p6 := s6 _ _ p5
    have p7 := s7 _ _ p6
    have n1 : a1 ≠ p := (ne_of_none ep h1).symm
    have n2 : a2 ≠ p := (ne_of_none p1 h2).symm
    have n3 : a3 ≠ p := (ne_of_none p2 h3).symm
    have n4 : a4 ≠ p := (ne_of_none p3 h4).symm
    have n5 : a5 ≠ p := (ne_of_none p4 h5).symm
    have n6 : a6 ≠ p := (ne_of_none p5 h6).symm
    have n7 : l ≠ p := (ne_of_none p6 hl).symm
    have s0 := s1.trans (s2.trans (s3.trans (s4.trans (s5.trans (s6.trans s7)))))
    have e1 := s7 _ _ (s6 _ _ (s5 _ _ (s4 _ _ (s3 _ _ (s2 _ _ (upd_same (H := H) (a := a1) (o := .tup [])))))))
    have e2 := s7 _ _ (s6 _ _ (s5 _ _ (s4 _ _ (s3 _ _ (upd_same (H := upd H a1 (.tup [])) (a := a2) (o := .tup [.int 1, .str "a"]))))))
    have e3 := s7 _ _ (s6 _ _ (s5 _ _ (s4 _ _ (upd_same (H := upd (upd H a1 (.tup [])) a2 (.tup [.int 1, .str "a"])) (a := a3) (o := .lst [])))))
    have e4 := s7 _ _ (s6 _ _ (s5 _ _ (upd_same (H := upd (upd (upd H a1 (.tup [])) a2 (.tup [.int 1, .str "a"])) a3 (.lst [])) (a := a4) (o := .lst [.int 0]))))
    have e5 := s7 _ _ (s6 _ _ (upd_same (H := upd (upd (upd (upd H a1 (.tup [])) a2 (.tup [.int 1, .str "a"])) a3 (.lst [])) a4 (.lst [.int 0])) (a := a5) (o := .dK [])))
    have e6 := s7 _ _ (upd_same (H := upd (upd (upd (upd (upd (upd H a1 (.tup [])) a2 (.tup [.int 1, .str "a"])) a3 (.lst [])) a4 (.lst [.int 0])) a5 (.dK [])) a6 (.dK [])) (a := a6) (o := .dK (mergeK [] [(Sum.inr "a", .int 1)])))
    have hX : ShAll (off p _) [.non, .int 0, .int 7, .bl true, .str "", .str "late", .ref a1, .ref a2, .ref a3, .ref a4, .ref a5, .ref a6, .int (10 ^ (30 : Int).toNat), .int (-1)] POOL :=
      .cons .non (.cons (.int _) (.cons (.int _) (.cons (.bl _) (.cons (.str _) (.cons (.str _) (.cons (.tup ((off_ne n1).trans e1) .nil) (.cons (.tup ((off_ne n2).trans e2) (.cons (.int _) (.cons (.str _) .nil)))
        (.cons (.lst ((off_ne n3).trans e3) .nil) (.cons (.lst ((off_ne n4).trans e4) (.cons (.int _) .nil)) (.cons (.dic ((off_ne n5).trans e5) .nil) (.cons (.dic ((off_ne n6).trans e6) (.cons (.int _) .nil)) (.cons (.int _) (.cons (.int _) .nil)))))))))))))
    clear e1 e2 e3 e4 e5 e6
    generalize hZ : upd _ l (HO.lst _) = Hs
    replace hX : ShAll (off p Hs) [.non, .int 0, .int 7, .bl true, .str "", .str "late", .ref a1, .ref a2, .ref a3, .ref a4, .ref a5, .ref a6, .int (10 ^ (30 : Int).toNat), .int (-1)] POOL := by
      rw [← hZ]
      exact hX
    have eL : Hs l = some (.lst [.non, .int 0, .int 7, .bl true, .str "", .str "late", .ref a1, .ref a2, .ref a3, .ref a4, .ref a5, .ref a6, .int (10 ^ (30 : Int).toNat), .int (-1)]) := by
      rw [← hZ]
      exact upd_same
    replace p7 : Hs p = some (.lst [.int px, .int py]) := by
      rw [← hZ]
      exact p7
    replace s0 : Same H Hs := by
      rw [← hZ]
      exact s0
    clear s1 s2 s3 s4 s5 s6 s7 p1 p2 p3 p4 p5 p6 hZ
    refine ⟨3, rfl, by decide, by decide, fun D hD => ?_⟩
    have nD : D ≠ p := (ne_of_none p7 hD).symm
    have sD := new (o := .lst []) hD
    refine lc_range (lo := 0) (n := 3) (fun i H1 => But p Hs H1 ∧ isPot H1 p ∧ ∃ acc ds, H1 D = some (.lst acc) ∧ acc.length = i ∧ ShAll (off p Hs) acc ds ∧ ∀ d ∈ ds, d ∈ POOL)
      ⟨Same.but sD, ⟨px, py, sD _ _ p7⟩, [], [], upd_same, rfl, .nil, fun d hd => nomatch hd⟩ (fun i H1 hi h => ?_) (fun H1 h => ?_)
    · obtain ⟨hb, hpot, acc, ds, eD, hlen, hS, hm⟩ := h
      refine ⟨rfl, _, rfl, _, rfl, p, l, _, rfl, hpot, n7, hb _ _ n7 eL, by show 0 < 14; decide, by show 14 ≤ 1000; decide, fun v H2 hv hb2 hp2 => ?_⟩
      obtain ⟨d, hd, hsd⟩ := sh_mem hX hv
      have hs : 1000 ≤ sizeLine := by decide
      refine ⟨acc, hb2 _ _ nD eD, by omega, ?_, ?_, acc ++ [v], ds ++ [d], upd_same, by rw [List.length_append, hlen]; rfl, sh_snoc hS hsd, fun x hx => ?_⟩
      · intro b o nb e
        rw [upd_ne (ne_of_none e hD)]
        exact hb2 _ _ nb (hb _ _ nb e)
      · obtain ⟨x, y, e⟩ := hp2
        exact ⟨x, y, by rw [upd_ne nD.symm]; exact e⟩
      · rcases List.mem_append.mp hx with h | h
        · exact hm x h
        · rw [List.mem_singleton.mp h]
          exact hd
    · obtain ⟨hb, hpot, acc, ds, eD, hlen, hS, hm⟩ := h
      obtain ⟨v1, v2, v3, rfl⟩ : ∃ v1 v2 v3, acc = [v1, v2, v3] := match acc, hlen with | [a, b, c], _ => ⟨a, b, c, rfl⟩
      have h3 : Three H1 [v1, v2, v3] ds := ⟨rfl, (hS.same (off_but hb)).same off_same, hm⟩
      have b0 : But p H H1 := (Same.but s0).trans hb
      refine ⟨_, rfl, D, _, rfl, SqL.of eD, rfl, _, _, rfl, _, _, rfl, _, _, rfl, rfl, ?_⟩
      have t0 := Same.refl H1
      refine ⟨_, rfl, _, rfl, _, rfl, v1, v2, v3, rfl, fun l0 n0 G0 J0 hn0 => ?_⟩
      obtain ⟨r0, _, rows0, el0, _, hR0⟩ := J0
      have t1 := t0.trans r0
      refine ⟨_, rfl, l0, D, 0, rows0, _, ds, rfl, by decide, el0, hR0, t1 _ _ eD, h3.same t1, fun I0 u0 => ?_⟩
      have t2 := t1.trans u0
      refine ⟨_, rfl, ?_⟩
      refine ⟨_, rfl, _, rfl, _, rfl, v1, v2, v3, rfl, fun l1 n1 G1 J1 hn1 => ?_⟩
      obtain ⟨r1, _, rows1, el1, _, hR1⟩ := J1
      have t3 := t2.trans r1
      refine ⟨_, rfl, l1, D, 0, rows1, _, ds, rfl, by decide, el1, hR1, t3 _ _ eD, h3.same t3, fun I1 u1 => ?_⟩
      have t4 := t3.trans u1
      refine ⟨_, rfl, ?_⟩
      refine ⟨_, rfl, _, rfl, _, rfl, v1, v2, v3, rfl, fun l2 n2 G2 J2 hn2 => ?_⟩
      obtain ⟨r2, _, rows2, el2, _, hR2⟩ := J2
      have t5 := t4.trans r2
      refine ⟨_, rfl, l2, D, 1, rows2, _, ds, rfl, by decide, el2, hR2, t5 _ _ eD, h3.same t5, fun I2 u2 => ?_⟩
      have t6 := t5.trans u2
      refine ⟨_, rfl, ?_⟩
      refine ⟨_, rfl, _, rfl, _, rfl, v1, v2, v3, rfl, fun l3 n3 G3 J3 hn3 => ?_⟩
      obtain ⟨r3, _, rows3, el3, _, hR3⟩ := J3
      have t7 := t6.trans r3
      refine ⟨_, rfl, l3, D, 2, rows3, _, ds, rfl, by decide, el3, hR3, t7 _ _ eD, h3.same t7, fun I3 u3 => ?_⟩
      have t8 := t7.trans u3
      refine ⟨_, rfl, ?_⟩
      refine ⟨_, rfl, _, rfl, _, rfl, v1, v2, v3, rfl, fun l4 n4 G4 J4 hn4 => ?_⟩
      obtain ⟨r4, _, rows4, el4, _, hR4⟩ := J4
      have t9 := t8.trans r4
      refine ⟨_, rfl, l4, D, 3, rows4, _, ds, rfl, by decide, el4, hR4, t9 _ _ eD, h3.same t9, fun I4 u4 => ?_⟩
      have t10 := t9.trans u4
      refine ⟨_, rfl, ?_⟩
      exact q _ (b0.trans (Same.but t10))
def spLaw (K : PySem.W.Frag) : Sp := fun vs H Q _ => ∃ (a : Addr) (ns : List Int), vs = [.ref a] ∧ SqL K H a (ns.map V.int) ∧ ns.length ≤ 63 ∧ ∀ H', Q (.bl true) H'
theorem ok_law (F : FnP K "law" sLaw f fd) (T : Free mg K) (d_pot : Def1 P w K mg base "_law_pot" 1 ["_law_script", "_law_k"] (spPot K)) (d_right : Def1 P w K mg base "_law_right" 4 ["_law_pot_here"] spRight) :
    FnG P w K mg base CX0 5 f fd ["_law_script"] (spLaw K) := by
  refine FunG F scLaw (fun vs H Q E h => ?_) (fun cdv A outer s H vs Q E ga hr h => ?_)
  · obtain ⟨_, _, rfl, _⟩ := h
    rfl
  · obtain ⟨a, ns, rfl, hS, hlen, q⟩ := h
    have sc := scLaw
    refine ⟨_, PSs.nox (pss_one (ps_ret (pe_callB (cr_all rfl) (by rfl) T.f_all (by decide +kernel) (pa_cons (pe_lc (own := [("_law_k", 1)]) rfl sc.nd (pi_range1 (by rfl) T.f_range (pa_cons (pe_callB (call_max2 rfl) (by rfl) T.f_max (by decide +kernel) (pa_cons pe_int (pa_cons (pe_callB (call_min2 rfl) (by rfl) T.f_min (by decide +kernel) (pa_cons pe_int (pa_cons (pe_callB call_len (by rfl) T.f_len (by decide +kernel) (pa_cons (pv 0) pa_nil)) pa_nil))) pa_nil))) pa_nil)) (blkOk_by (N := ["_law_script", "_law_k"]) (sc := defScope (top 66)) (by decide +kernel)) (fun _ _ _ _ _ => (pg_name (i := 1) sc.nd rfl (Or.inl rfl))) (fun _ _ _ _ _ => pts_nil) (fun _ _ _ _ _ => (pg_c d_right ga (hr.mono (by decide)) rfl (pa_cons (pg_c d_pot ga (hr.mono (by decide)) rfl (pa_cons (pv 0) (pa_cons (pv 1) pa_nil))) pa_nil)))) pa_nil)))), ?_⟩
    obtain ⟨n, hn, hn4⟩ : ∃ n : Nat, (n : Int) = (if (if ((ns.map V.int).length : Int) < 4 then ((ns.map V.int).length : Int) else 4) > 1 then (if ((ns.map V.int).length : Int) < 4 then ((ns.map V.int).length : Int) else 4) else 1) ∧ n ≤ 4 := by
      generalize (ns.map V.int).length = k
      by_cases h1 : k < 4
      · by_cases h2 : 1 < k
        · exact ⟨k, by rw [if_pos (show (k : Int) < 4 by omega), if_pos (by omega)], by omega⟩
        · exact ⟨1, by rw [if_pos (show (k : Int) < 4 by omega), if_neg (by omega)]; rfl, by omega⟩
      · exact ⟨4, by rw [if_neg (show ¬ (k : Int) < 4 by omega), if_pos (by omega)]; rfl, by omega⟩
    refine ⟨_, rfl, _, _, rfl, .inl ⟨_, hS, rfl⟩, _, _, rfl, _, _, rfl, _, rfl, ?_, ?_, fun D hD => ?_⟩
    · show -(2 ^ 62 : Int) ≤ _
      rw [← hn]
      omega
    · show _ < (2 ^ 62 : Int)
      rw [← hn]
      omega
    rw [← hn]
    rw [Int.toNat_natCast]
    refine lc_range (lo := 0) (n := n) (fun i H1 => Same H H1 ∧ H1 D = some (.lst (List.replicate i (.bl true)))) ⟨fun b o e => by rw [upd_ne (ne_of_none e hD)]; exact e, upd_same⟩ (fun i H1 hi h => ?_) (fun H1 h => ?_)
    · obtain ⟨s1, eD⟩ := h
      refine ⟨rfl, _, rfl, _, rfl, a, ns, _, rfl, s1.seq hS, by omega, by omega, fun p x y hp => ?_⟩
      have nD : D ≠ p := ne_of_none eD hp
      have k1 : ∀ b o, H1 b = some o → upd H1 p (.lst [.int x, .int y]) b = some o := fun b o e => by rw [upd_ne (ne_of_none e hp)]; exact e
      refine ⟨p, rfl, ⟨x, y, upd_same⟩, fun H2 hb => ⟨_, hb _ _ nD (k1 _ _ eD), ?_, ?_, ?_⟩⟩
      · have hs : 1000 ≤ sizeLine := by decide
        rw [List.length_replicate]
        omega
      · intro b o e
        rw [upd_ne (ne_of_none e hD)]
        exact hb _ _ (ne_of_none (s1 _ _ e) hp) (k1 _ _ (s1 _ _ e))
      · rw [upd_same, List.replicate_succ']
    · obtain ⟨s1, eD⟩ := h
      refine ⟨D, List.replicate n true, rfl, SqL.of ?_, ?_⟩
      · rw [List.map_replicate]
        exact eD
      · rw [show (List.replicate n true).all id = true by simp]
        exact q _
end
end K14

/-! K14, part O: the classes, the defs, the law -/
namespace K14
open PySem PySem.Spec PyProof.Rows L2 FW
section
variable {P : Program} {w : World} {K : PySem.W.Frag} {mg : Str → Option Value} {base h0 : Heap}
theorem m_InvalidKinds (X : K.In h0) (G : h0.Ns mainGlobals mg) (c : He.SaysD fa fn K) (hc : (clss1 ++ clss2).all (clsB K) = true) : Cls1 P w K mg base "InvalidKinds" 0 ["position"] := by
  obtain ⟨fd, F⟩ := c.def_ 0 (d := dInvalidKinds) rfl
  have h : clsB K cInvalidKinds = true := List.all_eq_true.mp hc cInvalidKinds (List.mem_of_getElem? (i := 0) rfl)
  have T := clsB_xc (by decide) h
  have S : FnScope ["self", "position"] ["self", "position"] (defScope iInvalidKinds) := ⟨rfl, rfl, rfl, by decide +kernel, rfl, by decide +kernel, by decide +kernel⟩
  exact cls1_mk X G (by decide) h (ok_init1 F S T (clsB_no h _ (List.mem_of_getElem? (i := 0) rfl)) ⟨by decide, by decide⟩) (F.bindsN fun _ _ _ _ _ _ us hl => match us, hl with | [_, _], _ => rfl)
    (kbn_mk fun s us ws h1 h2 => match us, ws, h1, h2 with | [_], [_], _, _ => bindsK_of F (fun _ _ _ _ _ _ => rfl) s)
theorem m_InvalidFields (X : K.In h0) (G : h0.Ns mainGlobals mg) (c : He.SaysD fa fn K) (hc : (clss1 ++ clss2).all (clsB K) = true) : Cls1 P w K mg base "InvalidFields" 0 ["name"] := by
  obtain ⟨fd, F⟩ := c.def_ 1 (d := dInvalidFields) rfl
  have h : clsB K cInvalidFields = true := List.all_eq_true.mp hc cInvalidFields (List.mem_of_getElem? (i := 1) rfl)
  have T := clsB_xc (by decide) h
  have S : FnScope ["self", "name"] ["self", "name"] (defScope iInvalidFields) := ⟨rfl, rfl, rfl, by decide +kernel, rfl, by decide +kernel, by decide +kernel⟩
  exact cls1_mk X G (by decide) h (ok_init1 F S T (clsB_no h _ (List.mem_of_getElem? (i := 0) rfl)) ⟨by decide, by decide⟩) (F.bindsN fun _ _ _ _ _ _ us hl => match us, hl with | [_, _], _ => rfl)
    (kbn_mk fun s us ws h1 h2 => match us, ws, h1, h2 with | [_], [_], _, _ => bindsK_of F (fun _ _ _ _ _ _ => rfl) s)
theorem m_InvalidFlags (X : K.In h0) (G : h0.Ns mainGlobals mg) (c : He.SaysD fa fn K) (hc : (clss1 ++ clss2).all (clsB K) = true) : Cls1 P w K mg base "InvalidFlags" 0 ["name"] := by
  obtain ⟨fd, F⟩ := c.def_ 2 (d := dInvalidFlags) rfl
  have h : clsB K cInvalidFlags = true := List.all_eq_true.mp hc cInvalidFlags (List.mem_of_getElem? (i := 2) rfl)
  have T := clsB_xc (by decide) h
  have S : FnScope ["self", "name"] ["self", "name"] (defScope iInvalidFlags) := ⟨rfl, rfl, rfl, by decide +kernel, rfl, by decide +kernel, by decide +kernel⟩
  exact cls1_mk X G (by decide) h (ok_init1 F S T (clsB_no h _ (List.mem_of_getElem? (i := 0) rfl)) ⟨by decide, by decide⟩) (F.bindsN fun _ _ _ _ _ _ us hl => match us, hl with | [_, _], _ => rfl)
    (kbn_mk fun s us ws h1 h2 => match us, ws, h1, h2 with | [_], [_], _, _ => bindsK_of F (fun _ _ _ _ _ _ => rfl) s)
theorem m_InvalidSchema (X : K.In h0) (G : h0.Ns mainGlobals mg) (c : He.SaysD fa fn K) (hc : (clss1 ++ clss2).all (clsB K) = true) : Cls1 P w K mg base "InvalidSchema" 0 ["value"] := by
  obtain ⟨fd, F⟩ := c.def_ 3 (d := dInvalidSchema) rfl
  have h : clsB K cInvalidSchema = true := List.all_eq_true.mp hc cInvalidSchema (List.mem_of_getElem? (i := 3) rfl)
  have T := clsB_xc (by decide) h
  have S : FnScope ["self", "value"] ["self", "value"] (defScope iInvalidSchema) := ⟨rfl, rfl, rfl, by decide +kernel, rfl, by decide +kernel, by decide +kernel⟩
  exact cls1_mk X G (by decide) h (ok_init1 F S T (clsB_no h _ (List.mem_of_getElem? (i := 0) rfl)) ⟨by decide, by decide⟩) (F.bindsN fun _ _ _ _ _ _ us hl => match us, hl with | [_, _], _ => rfl)
    (kbn_mk fun s us ws h1 h2 => match us, ws, h1, h2 with | [_], [_], _, _ => bindsK_of F (fun _ _ _ _ _ _ => rfl) s)
theorem m_InvalidId (X : K.In h0) (G : h0.Ns mainGlobals mg) (c : He.SaysD fa fn K) (hc : (clss1 ++ clss2).all (clsB K) = true) : Cls1 P w K mg base "InvalidId" 0 ["value"] := by
  obtain ⟨fd, F⟩ := c.def_ 4 (d := dInvalidId) rfl
  have h : clsB K cInvalidId = true := List.all_eq_true.mp hc cInvalidId (List.mem_of_getElem? (i := 4) rfl)
  have T := clsB_xc (by decide) h
  have S : FnScope ["self", "value"] ["self", "value"] (defScope iInvalidId) := ⟨rfl, rfl, rfl, by decide +kernel, rfl, by decide +kernel, by decide +kernel⟩
  exact cls1_mk X G (by decide) h (ok_init1 F S T (clsB_no h _ (List.mem_of_getElem? (i := 0) rfl)) ⟨by decide, by decide⟩) (F.bindsN fun _ _ _ _ _ _ us hl => match us, hl with | [_, _], _ => rfl)
    (kbn_mk fun s us ws h1 h2 => match us, ws, h1, h2 with | [_], [_], _, _ => bindsK_of F (fun _ _ _ _ _ _ => rfl) s)
theorem m_InvalidRow (X : K.In h0) (G : h0.Ns mainGlobals mg) (c : He.SaysD fa fn K) (hc : (clss1 ++ clss2).all (clsB K) = true) : Cls1 P w K mg base "InvalidRow" 0 ["name"] := by
  obtain ⟨fd, F⟩ := c.def_ 5 (d := dInvalidRow) rfl
  have h : clsB K cInvalidRow = true := List.all_eq_true.mp hc cInvalidRow (List.mem_of_getElem? (i := 5) rfl)
  have T := clsB_xc (by decide) h
  have S : FnScope ["self", "name"] ["self", "name"] (defScope iInvalidRow) := ⟨rfl, rfl, rfl, by decide +kernel, rfl, by decide +kernel, by decide +kernel⟩
  exact cls1_mk X G (by decide) h (ok_init1 F S T (clsB_no h _ (List.mem_of_getElem? (i := 0) rfl)) ⟨by decide, by decide⟩) (F.bindsN fun _ _ _ _ _ _ us hl => match us, hl with | [_, _], _ => rfl)
    (kbn_mk fun s us ws h1 h2 => match us, ws, h1, h2 with | [_], [_], _, _ => bindsK_of F (fun _ _ _ _ _ _ => rfl) s)
theorem m_InvalidRows (X : K.In h0) (G : h0.Ns mainGlobals mg) (c : He.SaysD fa fn K) (hc : (clss1 ++ clss2).all (clsB K) = true) : Cls1 P w K mg base "InvalidRows" 0 ["position"] := by
  obtain ⟨fd, F⟩ := c.def_ 6 (d := dInvalidRows) rfl
  have h : clsB K cInvalidRows = true := List.all_eq_true.mp hc cInvalidRows (List.mem_of_getElem? (i := 6) rfl)
  have T := clsB_xc (by decide) h
  have S : FnScope ["self", "position"] ["self", "position"] (defScope iInvalidRows) := ⟨rfl, rfl, rfl, by decide +kernel, rfl, by decide +kernel, by decide +kernel⟩
  exact cls1_mk X G (by decide) h (ok_init1 F S T (clsB_no h _ (List.mem_of_getElem? (i := 0) rfl)) ⟨by decide, by decide⟩) (F.bindsN fun _ _ _ _ _ _ us hl => match us, hl with | [_, _], _ => rfl)
    (kbn_mk fun s us ws h1 h2 => match us, ws, h1, h2 with | [_], [_], _, _ => bindsK_of F (fun _ _ _ _ _ _ => rfl) s)
theorem m_InvalidStore (X : K.In h0) (G : h0.Ns mainGlobals mg) (c : He.SaysD fa fn K) (hc : (clss1 ++ clss2).all (clsB K) = true) : Cls1 P w K mg base "InvalidStore" 0 ["value"] := by
  obtain ⟨fd, F⟩ := c.def_ 7 (d := dInvalidStore) rfl
  have h : clsB K cInvalidStore = true := List.all_eq_true.mp hc cInvalidStore (List.mem_of_getElem? (i := 7) rfl)
  have T := clsB_xc (by decide) h
  have S : FnScope ["self", "value"] ["self", "value"] (defScope iInvalidStore) := ⟨rfl, rfl, rfl, by decide +kernel, rfl, by decide +kernel, by decide +kernel⟩
  exact cls1_mk X G (by decide) h (ok_init1 F S T (clsB_no h _ (List.mem_of_getElem? (i := 0) rfl)) ⟨by decide, by decide⟩) (F.bindsN fun _ _ _ _ _ _ us hl => match us, hl with | [_, _], _ => rfl)
    (kbn_mk fun s us ws h1 h2 => match us, ws, h1, h2 with | [_], [_], _, _ => bindsK_of F (fun _ _ _ _ _ _ => rfl) s)
theorem m_InvalidWalk (X : K.In h0) (G : h0.Ns mainGlobals mg) (c : He.SaysD fa fn K) (hc : (clss1 ++ clss2).all (clsB K) = true) : Cls1 P w K mg base "InvalidWalk" 0 ["problem", "place"] := by
  obtain ⟨fd, F⟩ := c.def_ 8 (d := dInvalidWalk) rfl
  have h : clsB K cInvalidWalk = true := List.all_eq_true.mp hc cInvalidWalk (List.mem_of_getElem? (i := 8) rfl)
  have T := clsB_xc (by decide) h
  have S : FnScope ["self", "problem", "place"] ["self", "problem", "place"] (defScope iInvalidWalk) := ⟨rfl, rfl, rfl, by decide +kernel, rfl, by decide +kernel, by decide +kernel⟩
  exact cls1_mk X G (by decide) h (ok_init2 F S T (clsB_no h _ (List.mem_of_getElem? (i := 0) rfl)) (clsB_no h _ (List.mem_of_getElem? (i := 1) rfl)) ⟨by decide, by decide⟩ ⟨by decide, by decide⟩) (F.bindsN fun _ _ _ _ _ _ us hl => match us, hl with | [_, _, _], _ => rfl)
    (kbn_mk fun s us ws h1 h2 => match us, ws, h1, h2 with | [_], [_, _], _, _ => bindsK_of F (fun _ _ _ _ _ _ => rfl) s)
theorem m_NoWalk (X : K.In h0) (G : h0.Ns mainGlobals mg) (c : He.SaysD fa fn K) (hc : (clss1 ++ clss2).all (clsB K) = true) : Cls1 P w K mg base "NoWalk" 0 ["value"] := by
  obtain ⟨fd, F⟩ := c.def_ 9 (d := dNoWalk) rfl
  have h : clsB K cNoWalk = true := List.all_eq_true.mp hc cNoWalk (List.mem_of_getElem? (i := 9) rfl)
  have T := clsB_xc (by decide) h
  have S : FnScope ["self", "value"] ["self", "value"] (defScope iNoWalk) := ⟨rfl, rfl, rfl, by decide +kernel, rfl, by decide +kernel, by decide +kernel⟩
  exact cls1_mk X G (by decide) h (ok_init1 F S T (clsB_no h _ (List.mem_of_getElem? (i := 0) rfl)) ⟨by decide, by decide⟩) (F.bindsN fun _ _ _ _ _ _ us hl => match us, hl with | [_, _], _ => rfl)
    (kbn_mk fun s us ws h1 h2 => match us, ws, h1, h2 with | [_], [_], _, _ => bindsK_of F (fun _ _ _ _ _ _ => rfl) s)
theorem m_InvalidRoots (X : K.In h0) (G : h0.Ns mainGlobals mg) (c : He.SaysD fa fn K) (hc : (clss1 ++ clss2).all (clsB K) = true) : Cls1 P w K mg base "InvalidRoots" 0 ["find"] := by
  obtain ⟨fd, F⟩ := c.def_ 10 (d := dInvalidRoots) rfl
  have h : clsB K cInvalidRoots = true := List.all_eq_true.mp hc cInvalidRoots (List.mem_of_getElem? (i := 10) rfl)
  have T := clsB_xc (by decide) h
  have S : FnScope ["self", "find"] ["self", "find"] (defScope iInvalidRoots) := ⟨rfl, rfl, rfl, by decide +kernel, rfl, by decide +kernel, by decide +kernel⟩
  exact cls1_mk X G (by decide) h (ok_init1 F S T (clsB_no h _ (List.mem_of_getElem? (i := 0) rfl)) ⟨by decide, by decide⟩) (F.bindsN fun _ _ _ _ _ _ us hl => match us, hl with | [_, _], _ => rfl)
    (kbn_mk fun s us ws h1 h2 => match us, ws, h1, h2 with | [_], [_], _, _ => bindsK_of F (fun _ _ _ _ _ _ => rfl) s)
theorem m_InvalidWord (X : K.In h0) (G : h0.Ns mainGlobals mg) (c : He.SaysD fa fn K) (hc : (clss1 ++ clss2).all (clsB K) = true) : Cls1 P w K mg base "InvalidWord" 0 ["value"] := by
  obtain ⟨fd, F⟩ := c.def_ 11 (d := dInvalidWord) rfl
  have h : clsB K cInvalidWord = true := List.all_eq_true.mp hc cInvalidWord (List.mem_of_getElem? (i := 11) rfl)
  have T := clsB_xc (by decide) h
  have S : FnScope ["self", "value"] ["self", "value"] (defScope iInvalidWord) := ⟨rfl, rfl, rfl, by decide +kernel, rfl, by decide +kernel, by decide +kernel⟩
  exact cls1_mk X G (by decide) h (ok_init1 F S T (clsB_no h _ (List.mem_of_getElem? (i := 0) rfl)) ⟨by decide, by decide⟩) (F.bindsN fun _ _ _ _ _ _ us hl => match us, hl with | [_, _], _ => rfl)
    (kbn_mk fun s us ws h1 h2 => match us, ws, h1, h2 with | [_], [_], _, _ => bindsK_of F (fun _ _ _ _ _ _ => rfl) s)
theorem m_InvalidPlan (X : K.In h0) (G : h0.Ns mainGlobals mg) (c : He.SaysD fa fn K) (hc : (clss1 ++ clss2).all (clsB K) = true) : Cls1 P w K mg base "InvalidPlan" 0 ["value"] := by
  obtain ⟨fd, F⟩ := c.def_ 12 (d := dInvalidPlan) rfl
  have h : clsB K cInvalidPlan = true := List.all_eq_true.mp hc cInvalidPlan (List.mem_of_getElem? (i := 12) rfl)
  have T := clsB_xc (by decide) h
  have S : FnScope ["self", "value"] ["self", "value"] (defScope iInvalidPlan) := ⟨rfl, rfl, rfl, by decide +kernel, rfl, by decide +kernel, by decide +kernel⟩
  exact cls1_mk X G (by decide) h (ok_init1 F S T (clsB_no h _ (List.mem_of_getElem? (i := 0) rfl)) ⟨by decide, by decide⟩) (F.bindsN fun _ _ _ _ _ _ us hl => match us, hl with | [_, _], _ => rfl)
    (kbn_mk fun s us ws h1 h2 => match us, ws, h1, h2 with | [_], [_], _, _ => bindsK_of F (fun _ _ _ _ _ _ => rfl) s)
theorem m_InvalidLinks (X : K.In h0) (G : h0.Ns mainGlobals mg) (c : He.SaysD fa fn K) (hc : (clss1 ++ clss2).all (clsB K) = true) : Cls1 P w K mg base "InvalidLinks" 0 ["position"] := by
  obtain ⟨fd, F⟩ := c.def_ 13 (d := dInvalidLinks) rfl
  have h : clsB K cInvalidLinks = true := List.all_eq_true.mp hc cInvalidLinks (List.mem_of_getElem? (i := 13) rfl)
  have T := clsB_xc (by decide) h
  have S : FnScope ["self", "position"] ["self", "position"] (defScope iInvalidLinks) := ⟨rfl, rfl, rfl, by decide +kernel, rfl, by decide +kernel, by decide +kernel⟩
  exact cls1_mk X G (by decide) h (ok_init1 F S T (clsB_no h _ (List.mem_of_getElem? (i := 0) rfl)) ⟨by decide, by decide⟩) (F.bindsN fun _ _ _ _ _ _ us hl => match us, hl with | [_, _], _ => rfl)
    (kbn_mk fun s us ws h1 h2 => match us, ws, h1, h2 with | [_], [_], _, _ => bindsK_of F (fun _ _ _ _ _ _ => rfl) s)
theorem m_InvalidRoute (X : K.In h0) (G : h0.Ns mainGlobals mg) (c : He.SaysD fa fn K) (hc : (clss1 ++ clss2).all (clsB K) = true) : Cls1 P w K mg base "InvalidRoute" 0 ["value"] := by
  obtain ⟨fd, F⟩ := c.def_ 14 (d := dInvalidRoute) rfl
  have h : clsB K cInvalidRoute = true := List.all_eq_true.mp hc cInvalidRoute (List.mem_of_getElem? (i := 14) rfl)
  have T := clsB_xc (by decide) h
  have S : FnScope ["self", "value"] ["self", "value"] (defScope iInvalidRoute) := ⟨rfl, rfl, rfl, by decide +kernel, rfl, by decide +kernel, by decide +kernel⟩
  exact cls1_mk X G (by decide) h (ok_init1 F S T (clsB_no h _ (List.mem_of_getElem? (i := 0) rfl)) ⟨by decide, by decide⟩) (F.bindsN fun _ _ _ _ _ _ us hl => match us, hl with | [_, _], _ => rfl)
    (kbn_mk fun s us ws h1 h2 => match us, ws, h1, h2 with | [_], [_], _, _ => bindsK_of F (fun _ _ _ _ _ _ => rfl) s)
theorem m_InvalidPlace (X : K.In h0) (G : h0.Ns mainGlobals mg) (c : He.SaysD fa fn K) (hc : (clss1 ++ clss2).all (clsB K) = true) : Cls1 P w K mg base "InvalidPlace" 0 ["value"] := by
  obtain ⟨fd, F⟩ := c.def_ 15 (d := dInvalidPlace) rfl
  have h : clsB K cInvalidPlace = true := List.all_eq_true.mp hc cInvalidPlace (List.mem_of_getElem? (i := 15) rfl)
  have T := clsB_xc (by decide) h
  have S : FnScope ["self", "value"] ["self", "value"] (defScope iInvalidPlace) := ⟨rfl, rfl, rfl, by decide +kernel, rfl, by decide +kernel, by decide +kernel⟩
  exact cls1_mk X G (by decide) h (ok_init1 F S T (clsB_no h _ (List.mem_of_getElem? (i := 0) rfl)) ⟨by decide, by decide⟩) (F.bindsN fun _ _ _ _ _ _ us hl => match us, hl with | [_, _], _ => rfl)
    (kbn_mk fun s us ws h1 h2 => match us, ws, h1, h2 with | [_], [_], _, _ => bindsK_of F (fun _ _ _ _ _ _ => rfl) s)
theorem m_InvalidPlaces (X : K.In h0) (G : h0.Ns mainGlobals mg) (c : He.SaysD fa fn K) (hc : (clss1 ++ clss2).all (clsB K) = true) : Cls1 P w K mg base "InvalidPlaces" 0 ["value"] := by
  obtain ⟨fd, F⟩ := c.def_ 16 (d := dInvalidPlaces) rfl
  have h : clsB K cInvalidPlaces = true := List.all_eq_true.mp hc cInvalidPlaces (List.mem_of_getElem? (i := 16) rfl)
  have T := clsB_xc (by decide) h
  have S : FnScope ["self", "value"] ["self", "value"] (defScope iInvalidPlaces) := ⟨rfl, rfl, rfl, by decide +kernel, rfl, by decide +kernel, by decide +kernel⟩
  exact cls1_mk X G (by decide) h (ok_init1 F S T (clsB_no h _ (List.mem_of_getElem? (i := 0) rfl)) ⟨by decide, by decide⟩) (F.bindsN fun _ _ _ _ _ _ us hl => match us, hl with | [_, _], _ => rfl)
    (kbn_mk fun s us ws h1 h2 => match us, ws, h1, h2 with | [_], [_], _, _ => bindsK_of F (fun _ _ _ _ _ _ => rfl) s)
theorem m_InvalidSizeName (X : K.In h0) (G : h0.Ns mainGlobals mg) (c : He.SaysD fa fn K) (hc : (clss1 ++ clss2).all (clsB K) = true) : Cls1 P w K mg base "InvalidSizeName" 0 ["value"] := by
  obtain ⟨fd, F⟩ := c.def_ 17 (d := dInvalidSizeName) rfl
  have h : clsB K cInvalidSizeName = true := List.all_eq_true.mp hc cInvalidSizeName (List.mem_of_getElem? (i := 17) rfl)
  have T := clsB_xc (by decide) h
  have S : FnScope ["self", "value"] ["self", "value"] (defScope iInvalidSizeName) := ⟨rfl, rfl, rfl, by decide +kernel, rfl, by decide +kernel, by decide +kernel⟩
  exact cls1_mk X G (by decide) h (ok_init1 F S T (clsB_no h _ (List.mem_of_getElem? (i := 0) rfl)) ⟨by decide, by decide⟩) (F.bindsN fun _ _ _ _ _ _ us hl => match us, hl with | [_, _], _ => rfl)
    (kbn_mk fun s us ws h1 h2 => match us, ws, h1, h2 with | [_], [_], _, _ => bindsK_of F (fun _ _ _ _ _ _ => rfl) s)
theorem m_InvalidSize (X : K.In h0) (G : h0.Ns mainGlobals mg) (c : He.SaysD fa fn K) (hc : (clss1 ++ clss2).all (clsB K) = true) : Cls1 P w K mg base "InvalidSize" 0 ["value"] := by
  obtain ⟨fd, F⟩ := c.def_ 18 (d := dInvalidSize) rfl
  have h : clsB K cInvalidSize = true := List.all_eq_true.mp hc cInvalidSize (List.mem_of_getElem? (i := 18) rfl)
  have T := clsB_xc (by decide) h
  have S : FnScope ["self", "value"] ["self", "value"] (defScope iInvalidSize) := ⟨rfl, rfl, rfl, by decide +kernel, rfl, by decide +kernel, by decide +kernel⟩
  exact cls1_mk X G (by decide) h (ok_init1 F S T (clsB_no h _ (List.mem_of_getElem? (i := 0) rfl)) ⟨by decide, by decide⟩) (F.bindsN fun _ _ _ _ _ _ us hl => match us, hl with | [_, _], _ => rfl)
    (kbn_mk fun s us ws h1 h2 => match us, ws, h1, h2 with | [_], [_], _, _ => bindsK_of F (fun _ _ _ _ _ _ => rfl) s)
theorem m_InvalidSizes (X : K.In h0) (G : h0.Ns mainGlobals mg) (c : He.SaysD fa fn K) (hc : (clss1 ++ clss2).all (clsB K) = true) : Cls1 P w K mg base "InvalidSizes" 0 ["value"] := by
  obtain ⟨fd, F⟩ := c.def_ 19 (d := dInvalidSizes) rfl
  have h : clsB K cInvalidSizes = true := List.all_eq_true.mp hc cInvalidSizes (List.mem_of_getElem? (i := 19) rfl)
  have T := clsB_xc (by decide) h
  have S : FnScope ["self", "value"] ["self", "value"] (defScope iInvalidSizes) := ⟨rfl, rfl, rfl, by decide +kernel, rfl, by decide +kernel, by decide +kernel⟩
  exact cls1_mk X G (by decide) h (ok_init1 F S T (clsB_no h _ (List.mem_of_getElem? (i := 0) rfl)) ⟨by decide, by decide⟩) (F.bindsN fun _ _ _ _ _ _ us hl => match us, hl with | [_, _], _ => rfl)
    (kbn_mk fun s us ws h1 h2 => match us, ws, h1, h2 with | [_], [_], _, _ => bindsK_of F (fun _ _ _ _ _ _ => rfl) s)
theorem m_InvalidNumber (X : K.In h0) (G : h0.Ns mainGlobals mg) (c : He.SaysD fa fn K) (hc : (clss1 ++ clss2).all (clsB K) = true) : Cls1 P w K mg base "InvalidNumber" 0 ["value"] := by
  obtain ⟨fd, F⟩ := c.def_ 20 (d := dInvalidNumber) rfl
  have h : clsB K cInvalidNumber = true := List.all_eq_true.mp hc cInvalidNumber (List.mem_of_getElem? (i := 20) rfl)
  have T := clsB_xc (by decide) h
  have S : FnScope ["self", "value"] ["self", "value"] (defScope iInvalidNumber) := ⟨rfl, rfl, rfl, by decide +kernel, rfl, by decide +kernel, by decide +kernel⟩
  exact cls1_mk X G (by decide) h (ok_init1 F S T (clsB_no h _ (List.mem_of_getElem? (i := 0) rfl)) ⟨by decide, by decide⟩) (F.bindsN fun _ _ _ _ _ _ us hl => match us, hl with | [_, _], _ => rfl)
    (kbn_mk fun s us ws h1 h2 => match us, ws, h1, h2 with | [_], [_], _, _ => bindsK_of F (fun _ _ _ _ _ _ => rfl) s)
theorem m_InvalidSum (X : K.In h0) (G : h0.Ns mainGlobals mg) (c : He.SaysD fa fn K) (hc : (clss1 ++ clss2).all (clsB K) = true) : Cls1 P w K mg base "InvalidSum" 0 ["value"] := by
  obtain ⟨fd, F⟩ := c.def_ 21 (d := dInvalidSum) rfl
  have h : clsB K cInvalidSum = true := List.all_eq_true.mp hc cInvalidSum (List.mem_of_getElem? (i := 21) rfl)
  have T := clsB_xc (by decide) h
  have S : FnScope ["self", "value"] ["self", "value"] (defScope iInvalidSum) := ⟨rfl, rfl, rfl, by decide +kernel, rfl, by decide +kernel, by decide +kernel⟩
  exact cls1_mk X G (by decide) h (ok_init1 F S T (clsB_no h _ (List.mem_of_getElem? (i := 0) rfl)) ⟨by decide, by decide⟩) (F.bindsN fun _ _ _ _ _ _ us hl => match us, hl with | [_, _], _ => rfl)
    (kbn_mk fun s us ws h1 h2 => match us, ws, h1, h2 with | [_], [_], _, _ => bindsK_of F (fun _ _ _ _ _ _ => rfl) s)
theorem m_InvalidChange (X : K.In h0) (G : h0.Ns mainGlobals mg) (c : He.SaysD fa fn K) (hc : (clss1 ++ clss2).all (clsB K) = true) : Cls1 P w K mg base "InvalidChange" 0 ["position"] := by
  obtain ⟨fd, F⟩ := c.def_ 22 (d := dInvalidChange) rfl
  have h : clsB K cInvalidChange = true := List.all_eq_true.mp hc cInvalidChange (List.mem_of_getElem? (i := 22) rfl)
  have T := clsB_xc (by decide) h
  have S : FnScope ["self", "position"] ["self", "position"] (defScope iInvalidChange) := ⟨rfl, rfl, rfl, by decide +kernel, rfl, by decide +kernel, by decide +kernel⟩
  exact cls1_mk X G (by decide) h (ok_init1 F S T (clsB_no h _ (List.mem_of_getElem? (i := 0) rfl)) ⟨by decide, by decide⟩) (F.bindsN fun _ _ _ _ _ _ us hl => match us, hl with | [_, _], _ => rfl)
    (kbn_mk fun s us ws h1 h2 => match us, ws, h1, h2 with | [_], [_], _, _ => bindsK_of F (fun _ _ _ _ _ _ => rfl) s)
theorem m_InvalidValue (X : K.In h0) (G : h0.Ns mainGlobals mg) (c : He.SaysD fa fn K) (hc : (clss1 ++ clss2).all (clsB K) = true) : Cls1 P w K mg base "InvalidValue" 0 ["value"] := by
  obtain ⟨fd, F⟩ := c.def_ 23 (d := dInvalidValue) rfl
  have h : clsB K cInvalidValue = true := List.all_eq_true.mp hc cInvalidValue (List.mem_of_getElem? (i := 23) rfl)
  have T := clsB_xc (by decide) h
  have S : FnScope ["self", "value"] ["self", "value"] (defScope iInvalidValue) := ⟨rfl, rfl, rfl, by decide +kernel, rfl, by decide +kernel, by decide +kernel⟩
  exact cls1_mk X G (by decide) h (ok_init1 F S T (clsB_no h _ (List.mem_of_getElem? (i := 0) rfl)) ⟨by decide, by decide⟩) (F.bindsN fun _ _ _ _ _ _ us hl => match us, hl with | [_, _], _ => rfl)
    (kbn_mk fun s us ws h1 h2 => match us, ws, h1, h2 with | [_], [_], _, _ => bindsK_of F (fun _ _ _ _ _ _ => rfl) s)
theorem m_InvalidText (X : K.In h0) (G : h0.Ns mainGlobals mg) (c : He.SaysD fa fn K) (hc : (clss1 ++ clss2).all (clsB K) = true) : Cls1 P w K mg base "InvalidText" 0 ["line"] := by
  obtain ⟨fd, F⟩ := c.def_ 24 (d := dInvalidText) rfl
  have h : clsB K cInvalidText = true := List.all_eq_true.mp hc cInvalidText (List.mem_of_getElem? (i := 24) rfl)
  have T := clsB_xc (by decide) h
  have S : FnScope ["self", "line"] ["self", "line"] (defScope iInvalidText) := ⟨rfl, rfl, rfl, by decide +kernel, rfl, by decide +kernel, by decide +kernel⟩
  exact cls1_mk X G (by decide) h (ok_init1 F S T (clsB_no h _ (List.mem_of_getElem? (i := 0) rfl)) ⟨by decide, by decide⟩) (F.bindsN fun _ _ _ _ _ _ us hl => match us, hl with | [_, _], _ => rfl)
    (kbn_mk fun s us ws h1 h2 => match us, ws, h1, h2 with | [_], [_], _, _ => bindsK_of F (fun _ _ _ _ _ _ => rfl) s)
theorem m_InvalidClaim (X : K.In h0) (G : h0.Ns mainGlobals mg) (c : He.SaysD fa fn K) (hc : (clss1 ++ clss2).all (clsB K) = true) : Cls1 P w K mg base "InvalidClaim" 0 ["value"] := by
  obtain ⟨fd, F⟩ := c.def_ 25 (d := dInvalidClaim) rfl
  have h : clsB K cInvalidClaim = true := List.all_eq_true.mp hc cInvalidClaim (List.mem_of_getElem? (i := 25) rfl)
  have T := clsB_xc (by decide) h
  have S : FnScope ["self", "value"] ["self", "value"] (defScope iInvalidClaim) := ⟨rfl, rfl, rfl, by decide +kernel, rfl, by decide +kernel, by decide +kernel⟩
  exact cls1_mk X G (by decide) h (ok_init1 F S T (clsB_no h _ (List.mem_of_getElem? (i := 0) rfl)) ⟨by decide, by decide⟩) (F.bindsN fun _ _ _ _ _ _ us hl => match us, hl with | [_, _], _ => rfl)
    (kbn_mk fun s us ws h1 h2 => match us, ws, h1, h2 with | [_], [_], _, _ => bindsK_of F (fun _ _ _ _ _ _ => rfl) s)
theorem m_InvalidCommand (X : K.In h0) (G : h0.Ns mainGlobals mg) (c : He.SaysD fa fn K) (hc : (clss1 ++ clss2).all (clsB K) = true) : Cls1 P w K mg base "InvalidCommand" 0 ["value"] := by
  obtain ⟨fd, F⟩ := c.def_ 26 (d := dInvalidCommand) rfl
  have h : clsB K cInvalidCommand = true := List.all_eq_true.mp hc cInvalidCommand (List.mem_of_getElem? (i := 26) rfl)
  have T := clsB_xc (by decide) h
  have S : FnScope ["self", "value"] ["self", "value"] (defScope iInvalidCommand) := ⟨rfl, rfl, rfl, by decide +kernel, rfl, by decide +kernel, by decide +kernel⟩
  exact cls1_mk X G (by decide) h (ok_init1 F S T (clsB_no h _ (List.mem_of_getElem? (i := 0) rfl)) ⟨by decide, by decide⟩) (F.bindsN fun _ _ _ _ _ _ us hl => match us, hl with | [_, _], _ => rfl)
    (kbn_mk fun s us ws h1 h2 => match us, ws, h1, h2 with | [_], [_], _, _ => bindsK_of F (fun _ _ _ _ _ _ => rfl) s)
theorem m_UnknownKind (X : K.In h0) (G : h0.Ns mainGlobals mg) (c : He.SaysD fa fn K) (hc : (clss1 ++ clss2).all (clsB K) = true) : Cls1 P w K mg base "UnknownKind" 1 ["value"] := by
  obtain ⟨fd, F⟩ := c.def_ 27 (d := dUnknownKind) rfl
  have h : clsB K cUnknownKind = true := List.all_eq_true.mp hc cUnknownKind (List.mem_of_getElem? (i := 27) rfl)
  have T := clsB_xc (by decide) h
  have S : FnScope ["self", "value"] ["self", "value"] (defScope iUnknownKind) := ⟨rfl, rfl, rfl, by decide +kernel, rfl, by decide +kernel, by decide +kernel⟩
  exact cls1_mk X G (by decide) h (ok_init1 F S T (clsB_no h _ (List.mem_of_getElem? (i := 0) rfl)) ⟨by decide, by decide⟩) (F.bindsN fun _ _ _ _ _ _ us hl => match us, hl with | [_, _], _ => rfl)
    (kbn_mk fun s us ws h1 h2 => match us, ws, h1, h2 with | [_], [_], _, _ => bindsK_of F (fun _ _ _ _ _ _ => rfl) s)
theorem m_UnknownLink (X : K.In h0) (G : h0.Ns mainGlobals mg) (c : He.SaysD fa fn K) (hc : (clss1 ++ clss2).all (clsB K) = true) : Cls1 P w K mg base "UnknownLink" 1 ["value"] := by
  obtain ⟨fd, F⟩ := c.def_ 28 (d := dUnknownLink) rfl
  have h : clsB K cUnknownLink = true := List.all_eq_true.mp hc cUnknownLink (List.mem_of_getElem? (i := 28) rfl)
  have T := clsB_xc (by decide) h
  have S : FnScope ["self", "value"] ["self", "value"] (defScope iUnknownLink) := ⟨rfl, rfl, rfl, by decide +kernel, rfl, by decide +kernel, by decide +kernel⟩
  exact cls1_mk X G (by decide) h (ok_init1 F S T (clsB_no h _ (List.mem_of_getElem? (i := 0) rfl)) ⟨by decide, by decide⟩) (F.bindsN fun _ _ _ _ _ _ us hl => match us, hl with | [_, _], _ => rfl)
    (kbn_mk fun s us ws h1 h2 => match us, ws, h1, h2 with | [_], [_], _, _ => bindsK_of F (fun _ _ _ _ _ _ => rfl) s)
theorem m_UnknownObject (X : K.In h0) (G : h0.Ns mainGlobals mg) (c : He.SaysD fa fn K) (hc : (clss1 ++ clss2).all (clsB K) = true) : Cls1 P w K mg base "UnknownObject" 1 ["kind", "number"] := by
  obtain ⟨fd, F⟩ := c.def_ 29 (d := dUnknownObject) rfl
  have h : clsB K cUnknownObject = true := List.all_eq_true.mp hc cUnknownObject (List.mem_of_getElem? (i := 29) rfl)
  have T := clsB_xc (by decide) h
  have S : FnScope ["self", "kind", "number"] ["self", "kind", "number"] (defScope iUnknownObject) := ⟨rfl, rfl, rfl, by decide +kernel, rfl, by decide +kernel, by decide +kernel⟩
  exact cls1_mk X G (by decide) h (ok_init2 F S T (clsB_no h _ (List.mem_of_getElem? (i := 0) rfl)) (clsB_no h _ (List.mem_of_getElem? (i := 1) rfl)) ⟨by decide, by decide⟩ ⟨by decide, by decide⟩) (F.bindsN fun _ _ _ _ _ _ us hl => match us, hl with | [_, _, _], _ => rfl)
    (kbn_mk fun s us ws h1 h2 => match us, ws, h1, h2 with | [_], [_, _], _, _ => bindsK_of F (fun _ _ _ _ _ _ => rfl) s)
theorem m_UnknownTarget (X : K.In h0) (G : h0.Ns mainGlobals mg) (c : He.SaysD fa fn K) (hc : (clss1 ++ clss2).all (clsB K) = true) : Cls1 P w K mg base "UnknownTarget" 1 ["field", "number"] := by
  obtain ⟨fd, F⟩ := c.def_ 30 (d := dUnknownTarget) rfl
  have h : clsB K cUnknownTarget = true := List.all_eq_true.mp hc cUnknownTarget (List.mem_of_getElem? (i := 30) rfl)
  have T := clsB_xc (by decide) h
  have S : FnScope ["self", "field", "number"] ["self", "field", "number"] (defScope iUnknownTarget) := ⟨rfl, rfl, rfl, by decide +kernel, rfl, by decide +kernel, by decide +kernel⟩
  exact cls1_mk X G (by decide) h (ok_init2 F S T (clsB_no h _ (List.mem_of_getElem? (i := 0) rfl)) (clsB_no h _ (List.mem_of_getElem? (i := 1) rfl)) ⟨by decide, by decide⟩ ⟨by decide, by decide⟩) (F.bindsN fun _ _ _ _ _ _ us hl => match us, hl with | [_, _, _], _ => rfl)
    (kbn_mk fun s us ws h1 h2 => match us, ws, h1, h2 with | [_], [_, _], _, _ => bindsK_of F (fun _ _ _ _ _ _ => rfl) s)
theorem m_UnknownSpot (X : K.In h0) (G : h0.Ns mainGlobals mg) (c : He.SaysD fa fn K) (hc : (clss1 ++ clss2).all (clsB K) = true) : Cls1 P w K mg base "UnknownSpot" 1 ["value"] := by
  obtain ⟨fd, F⟩ := c.def_ 31 (d := dUnknownSpot) rfl
  have h : clsB K cUnknownSpot = true := List.all_eq_true.mp hc cUnknownSpot (List.mem_of_getElem? (i := 31) rfl)
  have T := clsB_xc (by decide) h
  have S : FnScope ["self", "value"] ["self", "value"] (defScope iUnknownSpot) := ⟨rfl, rfl, rfl, by decide +kernel, rfl, by decide +kernel, by decide +kernel⟩
  exact cls1_mk X G (by decide) h (ok_init1 F S T (clsB_no h _ (List.mem_of_getElem? (i := 0) rfl)) ⟨by decide, by decide⟩) (F.bindsN fun _ _ _ _ _ _ us hl => match us, hl with | [_, _], _ => rfl)
    (kbn_mk fun s us ws h1 h2 => match us, ws, h1, h2 with | [_], [_], _, _ => bindsK_of F (fun _ _ _ _ _ _ => rfl) s)
theorem m_UnknownPath (X : K.In h0) (G : h0.Ns mainGlobals mg) (c : He.SaysD fa fn K) (hc : (clss1 ++ clss2).all (clsB K) = true) : Cls1 P w K mg base "UnknownPath" 1 ["value"] := by
  obtain ⟨fd, F⟩ := c.def_ 32 (d := dUnknownPath) rfl
  have h : clsB K cUnknownPath = true := List.all_eq_true.mp hc cUnknownPath (List.mem_of_getElem? (i := 32) rfl)
  have T := clsB_xc (by decide) h
  have S : FnScope ["self", "value"] ["self", "value"] (defScope iUnknownPath) := ⟨rfl, rfl, rfl, by decide +kernel, rfl, by decide +kernel, by decide +kernel⟩
  exact cls1_mk X G (by decide) h (ok_init1 F S T (clsB_no h _ (List.mem_of_getElem? (i := 0) rfl)) ⟨by decide, by decide⟩) (F.bindsN fun _ _ _ _ _ _ us hl => match us, hl with | [_, _], _ => rfl)
    (kbn_mk fun s us ws h1 h2 => match us, ws, h1, h2 with | [_], [_], _, _ => bindsK_of F (fun _ _ _ _ _ _ => rfl) s)
theorem m_UnknownFind (X : K.In h0) (G : h0.Ns mainGlobals mg) (c : He.SaysD fa fn K) (hc : (clss1 ++ clss2).all (clsB K) = true) : Cls1 P w K mg base "UnknownFind" 1 ["value"] := by
  obtain ⟨fd, F⟩ := c.def_ 33 (d := dUnknownFind) rfl
  have h : clsB K cUnknownFind = true := List.all_eq_true.mp hc cUnknownFind (List.mem_of_getElem? (i := 33) rfl)
  have T := clsB_xc (by decide) h
  have S : FnScope ["self", "value"] ["self", "value"] (defScope iUnknownFind) := ⟨rfl, rfl, rfl, by decide +kernel, rfl, by decide +kernel, by decide +kernel⟩
  exact cls1_mk X G (by decide) h (ok_init1 F S T (clsB_no h _ (List.mem_of_getElem? (i := 0) rfl)) ⟨by decide, by decide⟩) (F.bindsN fun _ _ _ _ _ _ us hl => match us, hl with | [_, _], _ => rfl)
    (kbn_mk fun s us ws h1 h2 => match us, ws, h1, h2 with | [_], [_], _, _ => bindsK_of F (fun _ _ _ _ _ _ => rfl) s)
theorem m_UnknownName (X : K.In h0) (G : h0.Ns mainGlobals mg) (c : He.SaysD fa fn K) (hc : (clss1 ++ clss2).all (clsB K) = true) : Cls1 P w K mg base "UnknownName" 1 ["value"] := by
  obtain ⟨fd, F⟩ := c.def_ 34 (d := dUnknownName) rfl
  have h : clsB K cUnknownName = true := List.all_eq_true.mp hc cUnknownName (List.mem_of_getElem? (i := 34) rfl)
  have T := clsB_xc (by decide) h
  have S : FnScope ["self", "value"] ["self", "value"] (defScope iUnknownName) := ⟨rfl, rfl, rfl, by decide +kernel, rfl, by decide +kernel, by decide +kernel⟩
  exact cls1_mk X G (by decide) h (ok_init1 F S T (clsB_no h _ (List.mem_of_getElem? (i := 0) rfl)) ⟨by decide, by decide⟩) (F.bindsN fun _ _ _ _ _ _ us hl => match us, hl with | [_, _], _ => rfl)
    (kbn_mk fun s us ws h1 h2 => match us, ws, h1, h2 with | [_], [_], _, _ => bindsK_of F (fun _ _ _ _ _ _ => rfl) s)
theorem m_TargetTaken (X : K.In h0) (G : h0.Ns mainGlobals mg) (c : He.SaysD fa fn K) (hc : (clss1 ++ clss2).all (clsB K) = true) : Cls1 P w K mg base "TargetTaken" 2 ["field", "number", "by"] := by
  obtain ⟨fd, F⟩ := c.def_ 35 (d := dTargetTaken) rfl
  have h : clsB K cTargetTaken = true := List.all_eq_true.mp hc cTargetTaken (List.mem_of_getElem? (i := 35) rfl)
  have T := clsB_xc (by decide) h
  have S : FnScope ["self", "field", "number", "by"] ["self", "field", "number", "by"] (defScope iTargetTaken) := ⟨rfl, rfl, rfl, by decide +kernel, rfl, by decide +kernel, by decide +kernel⟩
  exact cls1_mk X G (by decide) h (ok_init3 F S T (clsB_no h _ (List.mem_of_getElem? (i := 0) rfl)) (clsB_no h _ (List.mem_of_getElem? (i := 1) rfl)) (clsB_no h _ (List.mem_of_getElem? (i := 2) rfl)) ⟨by decide, by decide⟩ ⟨by decide, by decide⟩ ⟨by decide, by decide⟩) (F.bindsN fun _ _ _ _ _ _ us hl => match us, hl with | [_, _, _, _], _ => rfl)
    (kbn_mk fun s us ws h1 h2 => match us, ws, h1, h2 with | [_], [_, _, _], _, _ => bindsK_of F (fun _ _ _ _ _ _ => rfl) s)
theorem m_RowRefused (X : K.In h0) (G : h0.Ns mainGlobals mg) (c : He.SaysD fa fn K) (hc : (clss1 ++ clss2).all (clsB K) = true) : Cls1 P w K mg base "RowRefused" 2 ["kind", "number"] := by
  obtain ⟨fd, F⟩ := c.def_ 36 (d := dRowRefused) rfl
  have h : clsB K cRowRefused = true := List.all_eq_true.mp hc cRowRefused (List.mem_of_getElem? (i := 36) rfl)
  have T := clsB_xc (by decide) h
  have S : FnScope ["self", "kind", "number"] ["self", "kind", "number"] (defScope iRowRefused) := ⟨rfl, rfl, rfl, by decide +kernel, rfl, by decide +kernel, by decide +kernel⟩
  exact cls1_mk X G (by decide) h (ok_init2 F S T (clsB_no h _ (List.mem_of_getElem? (i := 0) rfl)) (clsB_no h _ (List.mem_of_getElem? (i := 1) rfl)) ⟨by decide, by decide⟩ ⟨by decide, by decide⟩) (F.bindsN fun _ _ _ _ _ _ us hl => match us, hl with | [_, _, _], _ => rfl)
    (kbn_mk fun s us ws h1 h2 => match us, ws, h1, h2 with | [_], [_, _], _, _ => bindsK_of F (fun _ _ _ _ _ _ => rfl) s)
theorem m_LinkRing (X : K.In h0) (G : h0.Ns mainGlobals mg) (c : He.SaysD fa fn K) (hc : (clss1 ++ clss2).all (clsB K) = true) : Cls1 P w K mg base "LinkRing" 2 ["ring"] := by
  obtain ⟨fd, F⟩ := c.def_ 37 (d := dLinkRing) rfl
  have h : clsB K cLinkRing = true := List.all_eq_true.mp hc cLinkRing (List.mem_of_getElem? (i := 37) rfl)
  have T := clsB_xc (by decide) h
  have S : FnScope ["self", "ring"] ["self", "ring"] (defScope iLinkRing) := ⟨rfl, rfl, rfl, by decide +kernel, rfl, by decide +kernel, by decide +kernel⟩
  exact cls1_mk X G (by decide) h (ok_init1 F S T (clsB_no h _ (List.mem_of_getElem? (i := 0) rfl)) ⟨by decide, by decide⟩) (F.bindsN fun _ _ _ _ _ _ us hl => match us, hl with | [_, _], _ => rfl)
    (kbn_mk fun s us ws h1 h2 => match us, ws, h1, h2 with | [_], [_], _, _ => bindsK_of F (fun _ _ _ _ _ _ => rfl) s)
theorem m_WordRefused (X : K.In h0) (G : h0.Ns mainGlobals mg) (c : He.SaysD fa fn K) (hc : (clss1 ++ clss2).all (clsB K) = true) : Cls1 P w K mg base "WordRefused" 2 ["link", "word"] := by
  obtain ⟨fd, F⟩ := c.def_ 38 (d := dWordRefused) rfl
  have h : clsB K cWordRefused = true := List.all_eq_true.mp hc cWordRefused (List.mem_of_getElem? (i := 38) rfl)
  have T := clsB_xc (by decide) h
  have S : FnScope ["self", "link", "word"] ["self", "link", "word"] (defScope iWordRefused) := ⟨rfl, rfl, rfl, by decide +kernel, rfl, by decide +kernel, by decide +kernel⟩
  exact cls1_mk X G (by decide) h (ok_init2 F S T (clsB_no h _ (List.mem_of_getElem? (i := 0) rfl)) (clsB_no h _ (List.mem_of_getElem? (i := 1) rfl)) ⟨by decide, by decide⟩ ⟨by decide, by decide⟩) (F.bindsN fun _ _ _ _ _ _ us hl => match us, hl with | [_, _, _], _ => rfl)
    (kbn_mk fun s us ws h1 h2 => match us, ws, h1, h2 with | [_], [_, _], _, _ => bindsK_of F (fun _ _ _ _ _ _ => rfl) s)
theorem m_OtherSchema (X : K.In h0) (G : h0.Ns mainGlobals mg) (c : He.SaysD fa fn K) (hc : (clss1 ++ clss2).all (clsB K) = true) : Cls1 P w K mg base "OtherSchema" 2 [] := by
  obtain ⟨fd, F⟩ := c.def_ 39 (d := dOtherSchema) rfl
  have h : clsB K cOtherSchema = true := List.all_eq_true.mp hc cOtherSchema (List.mem_of_getElem? (i := 39) rfl)
  have T := clsB_xc (by decide) h
  have S : FnScope ["self"] ["self"] (defScope iOtherSchema) := ⟨rfl, rfl, rfl, by decide +kernel, rfl, by decide +kernel, by decide +kernel⟩
  exact cls1_mk X G (by decide) h (ok_init0 F S ) (F.bindsN fun _ _ _ _ _ _ us hl => match us, hl with | [_], _ => rfl)
    (kbn_mk fun s us ws h1 h2 => match us, ws, h1, h2 with | [_], [], _, _ => bindsK_of F (fun _ _ _ _ _ _ => rfl) s)
theorem m_OtherFinds (X : K.In h0) (G : h0.Ns mainGlobals mg) (c : He.SaysD fa fn K) (hc : (clss1 ++ clss2).all (clsB K) = true) : Cls1 P w K mg base "OtherFinds" 2 ["one", "other"] := by
  obtain ⟨fd, F⟩ := c.def_ 40 (d := dOtherFinds) rfl
  have h : clsB K cOtherFinds = true := List.all_eq_true.mp hc cOtherFinds (List.mem_of_getElem? (i := 40) rfl)
  have T := clsB_xc (by decide) h
  have S : FnScope ["self", "one", "other"] ["self", "one", "other"] (defScope iOtherFinds) := ⟨rfl, rfl, rfl, by decide +kernel, rfl, by decide +kernel, by decide +kernel⟩
  exact cls1_mk X G (by decide) h (ok_init2 F S T (clsB_no h _ (List.mem_of_getElem? (i := 0) rfl)) (clsB_no h _ (List.mem_of_getElem? (i := 1) rfl)) ⟨by decide, by decide⟩ ⟨by decide, by decide⟩) (F.bindsN fun _ _ _ _ _ _ us hl => match us, hl with | [_, _, _], _ => rfl)
    (kbn_mk fun s us ws h1 h2 => match us, ws, h1, h2 with | [_], [_, _], _, _ => bindsK_of F (fun _ _ _ _ _ _ => rfl) s)
theorem m_NameTaken (X : K.In h0) (G : h0.Ns mainGlobals mg) (c : He.SaysD fa fn K) (hc : (clss1 ++ clss2).all (clsB K) = true) : Cls1 P w K mg base "NameTaken" 2 ["name"] := by
  obtain ⟨fd, F⟩ := c.def_ 41 (d := dNameTaken) rfl
  have h : clsB K cNameTaken = true := List.all_eq_true.mp hc cNameTaken (List.mem_of_getElem? (i := 41) rfl)
  have T := clsB_xc (by decide) h
  have S : FnScope ["self", "name"] ["self", "name"] (defScope iNameTaken) := ⟨rfl, rfl, rfl, by decide +kernel, rfl, by decide +kernel, by decide +kernel⟩
  exact cls1_mk X G (by decide) h (ok_init1 F S T (clsB_no h _ (List.mem_of_getElem? (i := 0) rfl)) ⟨by decide, by decide⟩) (F.bindsN fun _ _ _ _ _ _ us hl => match us, hl with | [_, _], _ => rfl)
    (kbn_mk fun s us ws h1 h2 => match us, ws, h1, h2 with | [_], [_], _, _ => bindsK_of F (fun _ _ _ _ _ _ => rfl) s)
theorem m_NotKept (X : K.In h0) (G : h0.Ns mainGlobals mg) (c : He.SaysD fa fn K) (hc : (clss1 ++ clss2).all (clsB K) = true) : Cls1 P w K mg base "NotKept" 2 ["kind", "number"] := by
  obtain ⟨fd, F⟩ := c.def_ 42 (d := dNotKept) rfl
  have h : clsB K cNotKept = true := List.all_eq_true.mp hc cNotKept (List.mem_of_getElem? (i := 42) rfl)
  have T := clsB_xc (by decide) h
  have S : FnScope ["self", "kind", "number"] ["self", "kind", "number"] (defScope iNotKept) := ⟨rfl, rfl, rfl, by decide +kernel, rfl, by decide +kernel, by decide +kernel⟩
  exact cls1_mk X G (by decide) h (ok_init2 F S T (clsB_no h _ (List.mem_of_getElem? (i := 0) rfl)) (clsB_no h _ (List.mem_of_getElem? (i := 1) rfl)) ⟨by decide, by decide⟩ ⟨by decide, by decide⟩) (F.bindsN fun _ _ _ _ _ _ us hl => match us, hl with | [_, _, _], _ => rfl)
    (kbn_mk fun s us ws h1 h2 => match us, ws, h1, h2 with | [_], [_, _], _, _ => bindsK_of F (fun _ _ _ _ _ _ => rfl) s)
theorem m_ChangesRefused (X : K.In h0) (G : h0.Ns mainGlobals mg) (c : He.SaysD fa fn K) (hc : (clss1 ++ clss2).all (clsB K) = true) : Cls1 P w K mg base "ChangesRefused" 2 ["position"] := by
  obtain ⟨fd, F⟩ := c.def_ 43 (d := dChangesRefused) rfl
  have h : clsB K cChangesRefused = true := List.all_eq_true.mp hc cChangesRefused (List.mem_of_getElem? (i := 43) rfl)
  have T := clsB_xc (by decide) h
  have S : FnScope ["self", "position"] ["self", "position"] (defScope iChangesRefused) := ⟨rfl, rfl, rfl, by decide +kernel, rfl, by decide +kernel, by decide +kernel⟩
  exact cls1_mk X G (by decide) h (ok_init1 F S T (clsB_no h _ (List.mem_of_getElem? (i := 0) rfl)) ⟨by decide, by decide⟩) (F.bindsN fun _ _ _ _ _ _ us hl => match us, hl with | [_, _], _ => rfl)
    (kbn_mk fun s us ws h1 h2 => match us, ws, h1, h2 with | [_], [_], _, _ => bindsK_of F (fun _ _ _ _ _ _ => rfl) s)
theorem m_SaveRefused (X : K.In h0) (G : h0.Ns mainGlobals mg) (c : He.SaysD fa fn K) (hc : (clss1 ++ clss2).all (clsB K) = true) : Cls1 P w K mg base "SaveRefused" 2 ["first", "second"] := by
  obtain ⟨fd, F⟩ := c.def_ 44 (d := dSaveRefused) rfl
  have h : clsB K cSaveRefused = true := List.all_eq_true.mp hc cSaveRefused (List.mem_of_getElem? (i := 44) rfl)
  have T := clsB_xc (by decide) h
  have S : FnScope ["self", "first", "second"] ["self", "first", "second"] (defScope iSaveRefused) := ⟨rfl, rfl, rfl, by decide +kernel, rfl, by decide +kernel, by decide +kernel⟩
  exact cls1_mk X G (by decide) h (ok_init2 F S T (clsB_no h _ (List.mem_of_getElem? (i := 0) rfl)) (clsB_no h _ (List.mem_of_getElem? (i := 1) rfl)) ⟨by decide, by decide⟩ ⟨by decide, by decide⟩) (F.bindsN fun _ _ _ _ _ _ us hl => match us, hl with | [_, _, _], _ => rfl)
    (kbn_mk fun s us ws h1 h2 => match us, ws, h1, h2 with | [_], [_, _], _, _ => bindsK_of F (fun _ _ _ _ _ _ => rfl) s)
theorem m_NothingToUndo (X : K.In h0) (G : h0.Ns mainGlobals mg) (c : He.SaysD fa fn K) (hc : (clss1 ++ clss2).all (clsB K) = true) : Cls1 P w K mg base "NothingToUndo" 2 [] := by
  obtain ⟨fd, F⟩ := c.def_ 45 (d := dNothingToUndo) rfl
  have h : clsB K cNothingToUndo = true := List.all_eq_true.mp hc cNothingToUndo (List.mem_of_getElem? (i := 45) rfl)
  have T := clsB_xc (by decide) h
  have S : FnScope ["self"] ["self"] (defScope iNothingToUndo) := ⟨rfl, rfl, rfl, by decide +kernel, rfl, by decide +kernel, by decide +kernel⟩
  exact cls1_mk X G (by decide) h (ok_init0 F S ) (F.bindsN fun _ _ _ _ _ _ us hl => match us, hl with | [_], _ => rfl)
    (kbn_mk fun s us ws h1 h2 => match us, ws, h1, h2 with | [_], [], _, _ => bindsK_of F (fun _ _ _ _ _ _ => rfl) s)
theorem m_CommandFailed (X : K.In h0) (G : h0.Ns mainGlobals mg) (c : He.SaysD fa fn K) (hc : (clss1 ++ clss2).all (clsB K) = true) : Cls1 P w K mg base "CommandFailed" 2 ["position"] := by
  obtain ⟨fd, F⟩ := c.def_ 46 (d := dCommandFailed) rfl
  have h : clsB K cCommandFailed = true := List.all_eq_true.mp hc cCommandFailed (List.mem_of_getElem? (i := 46) rfl)
  have T := clsB_xc (by decide) h
  have S : FnScope ["self", "position"] ["self", "position"] (defScope iCommandFailed) := ⟨rfl, rfl, rfl, by decide +kernel, rfl, by decide +kernel, by decide +kernel⟩
  exact cls1_mk X G (by decide) h (ok_init1 F S T (clsB_no h _ (List.mem_of_getElem? (i := 0) rfl)) ⟨by decide, by decide⟩) (F.bindsN fun _ _ _ _ _ _ us hl => match us, hl with | [_, _], _ => rfl)
    (kbn_mk fun s us ws h1 h2 => match us, ws, h1, h2 with | [_], [_], _, _ => bindsK_of F (fun _ _ _ _ _ _ => rfl) s)
theorem m_TooMany (X : K.In h0) (G : h0.Ns mainGlobals mg) (c : He.SaysD fa fn K) (hc : (clss1 ++ clss2).all (clsB K) = true) : Cls1 P w K mg base "TooMany" 3 ["what", "limit"] := by
  obtain ⟨fd, F⟩ := c.def_ 47 (d := dTooMany) rfl
  have h : clsB K cTooMany = true := List.all_eq_true.mp hc cTooMany (List.mem_of_getElem? (i := 47) rfl)
  have T := clsB_xc (by decide) h
  have S : FnScope ["self", "what", "limit"] ["self", "what", "limit"] (defScope iTooMany) := ⟨rfl, rfl, rfl, by decide +kernel, rfl, by decide +kernel, by decide +kernel⟩
  exact cls1_mk X G (by decide) h (ok_init2 F S T (clsB_no h _ (List.mem_of_getElem? (i := 0) rfl)) (clsB_no h _ (List.mem_of_getElem? (i := 1) rfl)) ⟨by decide, by decide⟩ ⟨by decide, by decide⟩) (F.bindsN fun _ _ _ _ _ _ us hl => match us, hl with | [_, _, _], _ => rfl)
    (kbn_mk fun s us ws h1 h2 => match us, ws, h1, h2 with | [_], [_, _], _, _ => bindsK_of F (fun _ _ _ _ _ _ => rfl) s)
end
end K14

/-! K14, part P: the law at every script -/
namespace K14
open PySem PySem.Spec PyProof.Rows L2 FW
theorem facts {P : Program} {w : World} {K : PySem.W.Frag} {h0 : Heap} {mg : Str → Option Value} {f : Addr} (X : K.In h0) (G : h0.Ns mainGlobals mg) (hfa : mg ("law" : Str) = some (.ref f)) (cc : SaysF fa fn ex K) :
    ∃ fd : FuncData, (∀ (s : Shared) (v : Value), BindsTo s fd ⟨[v], []⟩ [("_law_script", v)]) ∧ ∀ base : Heap, K.In base → base.Ns mainGlobals mg → FnG P w K mg base CX0 5 f fd ["_law_script"] (spLaw K) := by
  obtain ⟨c, he⟩ := cc
  obtain ⟨sm, hc⟩ := He.ba he
  obtain ⟨fdL, FL⟩ := c.def_ 60 (d := dlaw) rfl
  have e := hfa.symm.trans (He.glo_ok X G (c.fact 30 (f := .glo "law") rfl))
  cases e
  have bL := FunD.bindsA (ps := ["_law_script"]) FL fun _ _ _ _ _ _ us hl => match us, hl with | [_], _ => rfl
  refine ⟨fdL, fun s v => bL s [v] rfl, fun base _ _ => ?_⟩
  have T : Free mg K := ⟨He.free_ok X G (c.fact 0 rfl), He.free_ok X G (c.fact 1 rfl), He.free_ok X G (c.fact 2 rfl), He.free_ok X G (c.fact 3 rfl), He.free_ok X G (c.fact 4 rfl), He.free_ok X G (c.fact 5 rfl), He.free_ok X G (c.fact 6 rfl), He.free_ok X G (c.fact 7 rfl), He.free_ok X G (c.fact 8 rfl), He.free_ok X G (c.fact 9 rfl), He.free_ok X G (c.fact 10 rfl), He.free_ok X G (c.fact 11 rfl), He.free_ok X G (c.fact 12 rfl), He.free_ok X G (c.fact 13 rfl), He.glo_ok X G (c.fact 14 rfl), He.glo_ok X G (c.fact 15 rfl), He.glo_ok X G (c.fact 16 rfl), He.glo_ok X G (c.fact 17 rfl), sm⟩
  have C : Clss P w K mg base := ⟨m_InvalidKinds X G c hc, m_InvalidFields X G c hc, m_InvalidFlags X G c hc, m_InvalidSchema X G c hc, m_InvalidId X G c hc, m_InvalidRow X G c hc, m_InvalidRows X G c hc, m_InvalidStore X G c hc, m_InvalidWalk X G c hc, m_NoWalk X G c hc, m_InvalidRoots X G c hc, m_InvalidWord X G c hc, m_InvalidPlan X G c hc, m_InvalidLinks X G c hc, m_InvalidRoute X G c hc, m_InvalidPlace X G c hc, m_InvalidPlaces X G c hc, m_InvalidSizeName X G c hc, m_InvalidSize X G c hc, m_InvalidSizes X G c hc, m_InvalidNumber X G c hc, m_InvalidSum X G c hc, m_InvalidChange X G c hc, m_InvalidValue X G c hc, m_InvalidText X G c hc, m_InvalidClaim X G c hc, m_InvalidCommand X G c hc, m_UnknownKind X G c hc, m_UnknownLink X G c hc, m_UnknownObject X G c hc, m_UnknownTarget X G c hc, m_UnknownSpot X G c hc, m_UnknownPath X G c hc, m_UnknownFind X G c hc, m_UnknownName X G c hc, m_TargetTaken X G c hc, m_RowRefused X G c hc, m_LinkRing X G c hc, m_WordRefused X G c hc, m_OtherSchema X G c hc, m_OtherFinds X G c hc, m_NameTaken X G c hc, m_NotKept X G c hc, m_ChangesRefused X G c hc, m_SaveRefused X G c hc, m_NothingToUndo X G c hc, m_CommandFailed X G c hc, m_TooMany X G c hc⟩
  have d_pot : Def1 P w K mg base "_law_pot" 1 ["_law_script", "_law_k"] (spPot K) := by
    obtain ⟨fd, F⟩ := c.def_ 48 (d := d_law_pot) rfl
    exact ⟨_, fd, ok_pot F T, He.glo_ok X G (c.fact 18 (f := .glo "_law_pot") rfl), F.kp, F.bindsN fun _ _ _ _ _ _ us hl => match us, hl with | [_, _], _ => rfl⟩
  have d_draw : Def1 P w K mg base "_law_draw" 1 ["_law_pot_here", "_law_many"] (spDraw) := by
    obtain ⟨fd, F⟩ := c.def_ 49 (d := d_law_draw) rfl
    exact ⟨_, fd, ok_draw F T, He.glo_ok X G (c.fact 19 (f := .glo "_law_draw") rfl), F.kp, F.bindsN fun _ _ _ _ _ _ us hl => match us, hl with | [_, _], _ => rfl⟩
  have d_pick : Def1 P w K mg base "_law_pick" 2 ["_law_pot_here", "_law_some"] (spPick K) := by
    obtain ⟨fd, F⟩ := c.def_ 50 (d := d_law_pick) rfl
    exact ⟨_, fd, ok_pick F T (d_draw), He.glo_ok X G (c.fact 20 (f := .glo "_law_pick") rfl), F.kp, F.bindsN fun _ _ _ _ _ _ us hl => match us, hl with | [_, _], _ => rfl⟩
  have d_fetch : Def1 P w K mg base "_law_fetch" 3 ["_law_red", "_law_blue", "_law_green"] (spRows K 0) := by
    obtain ⟨fd, F⟩ := c.def_ 51 (d := d_law_fetch) rfl
    exact ⟨_, fd, ok_fetch F C, He.glo_ok X G (c.fact 21 (f := .glo "_law_fetch") rfl), F.kp, F.bindsN fun _ _ _ _ _ _ us hl => match us, hl with | [_, _, _], _ => rfl⟩
  have d_fetch_too : Def1 P w K mg base "_law_fetch_too" 3 ["_law_red", "_law_blue", "_law_green"] (spRows K 0) := by
    obtain ⟨fd, F⟩ := c.def_ 52 (d := d_law_fetch_too) rfl
    exact ⟨_, fd, ok_fetch_too F C, He.glo_ok X G (c.fact 22 (f := .glo "_law_fetch_too") rfl), F.kp, F.bindsN fun _ _ _ _ _ _ us hl => match us, hl with | [_, _, _], _ => rfl⟩
  have d_missing : Def1 P w K mg base "_law_missing" 3 ["_law_red", "_law_blue", "_law_green"] (spRows K 1) := by
    obtain ⟨fd, F⟩ := c.def_ 53 (d := d_law_missing) rfl
    exact ⟨_, fd, ok_missing F C, He.glo_ok X G (c.fact 23 (f := .glo "_law_missing") rfl), F.kp, F.bindsN fun _ _ _ _ _ _ us hl => match us, hl with | [_, _, _], _ => rfl⟩
  have d_state : Def1 P w K mg base "_law_state" 3 ["_law_red", "_law_blue", "_law_green"] (spRows K 2) := by
    obtain ⟨fd, F⟩ := c.def_ 54 (d := d_law_state) rfl
    exact ⟨_, fd, ok_state F C, He.glo_ok X G (c.fact 24 (f := .glo "_law_state") rfl), F.kp, F.bindsN fun _ _ _ _ _ _ us hl => match us, hl with | [_, _, _], _ => rfl⟩
  have d_limit : Def1 P w K mg base "_law_limit" 3 ["_law_red", "_law_blue", "_law_green"] (spRows K 3) := by
    obtain ⟨fd, F⟩ := c.def_ 55 (d := d_law_limit) rfl
    exact ⟨_, fd, ok_limit F C, He.glo_ok X G (c.fact 25 (f := .glo "_law_limit") rfl), F.kp, F.bindsN fun _ _ _ _ _ _ us hl => match us, hl with | [_, _, _], _ => rfl⟩
  have d_part : Def1 P w K mg base "_law_part" 1 ["_law_error", "_law_ask"] (spPart K) := by
    obtain ⟨fd, F⟩ := c.def_ 56 (d := d_law_part) rfl
    exact ⟨_, fd, ok_part F T, He.glo_ok X G (c.fact 26 (f := .glo "_law_part") rfl), F.kp, F.bindsN fun _ _ _ _ _ _ us hl => match us, hl with | [_, _], _ => rfl⟩
  have d_bases : Def1 P w K mg base "_law_bases" 1 ["_law_error"] (spBases K) := by
    obtain ⟨fd, F⟩ := c.def_ 57 (d := d_law_bases) rfl
    exact ⟨_, fd, ok_bases F T, He.glo_ok X G (c.fact 27 (f := .glo "_law_bases") rfl), F.kp, F.bindsN fun _ _ _ _ _ _ us hl => match us, hl with | [_], _ => rfl⟩
  have d_are_right : Def1 P w K mg base "_law_are_right" 2 ["_law_rows", "_law_at", "_law_values"] (spAre K) := by
    obtain ⟨fd, F⟩ := c.def_ 58 (d := d_law_are_right) rfl
    exact ⟨_, fd, ok_are F T d_part d_bases, He.glo_ok X G (c.fact 28 (f := .glo "_law_are_right") rfl), F.kp, F.bindsN fun _ _ _ _ _ _ us hl => match us, hl with | [_, _, _], _ => rfl⟩
  have d_right : Def1 P w K mg base "_law_right" 4 ["_law_pot_here"] (spRight) := by
    obtain ⟨fd, F⟩ := c.def_ 59 (d := d_law_right) rfl
    exact ⟨_, fd, ok_right F T d_pick d_are_right d_fetch d_fetch_too d_missing d_state d_limit, He.glo_ok X G (c.fact 29 (f := .glo "_law_right") rfl), F.kp, F.bindsN fun _ _ _ _ _ _ us hl => match us, hl with | [_], _ => rfl⟩
  exact ok_law FL T d_pot d_right
end K14
open PySem PySem.W PySem.Calls PyProof.Rows
theorem PySem.Challenge.cw_fetchwalks_k14_errors_made_holds : PySem.Challenge.rw_fetchwalks_k14_errors_made.Holds := by
  w_on; o_law
  refine HandSHeadRun.head_any (r := K14.R) (q := view K14.R.prog [66]) (H := K14.hk) (ob := K14.ob) (M := 14000) (loose := K14.loose1 ++ K14.loose2) (d := HandSHeadRun.topDef K14.R.prog 66) (kwd := []) K14.ob_eq
    (by kernel_rfl) (fun s => by kernel_rfl) K14.run (by kernel_rfl) (by kernel_rfl) (by kernel_rfl) (by rfl) (by first | assumption | decide +kernel) (by decide +kernel) ⟨rfl, rfl, rfl, rfl, rfl, by decide +kernel⟩ ?hw ?hc
  case hw => w_witness2
  case hc =>
    refine FW.walk_ofG (l := PySem.Challenge.rw_fetchwalks_k14_errors_made) (n := 63) (k := 5) (x := "_law_script") rfl (by decide) (by kernel_rfl) ⟨rfl, by decide, by decide⟩ fun w mg fa h Y G hmg0 => ?_
    obtain ⟨K, KX, c⟩ := Y
    have hmg : mg ("law" : PySem.Str) = some (.ref fa) := by
      have e : (HandSHeadRun.topDef K14.R.prog 66).name = ("law" : PySem.Str) := by kernel_rfl
      rw [← e]
      exact hmg0
    obtain ⟨fd, hb, hF⟩ := K14.facts (P := (PySem.Challenge.rw_fetchwalks_k14_errors_made).prog) (w := w) KX G hmg c
    exact ⟨K, fd, K14.spLaw K, KX, hb, fun H a ns hl hS => ⟨a, ns, rfl, hS, hl, fun _ => rfl⟩, hF⟩
