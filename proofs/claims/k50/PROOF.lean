import PyProof.Rows.All
import Wide.All
import OpenK.AllK
import Wide.FinOn
import HandS.Base
import HandS.Call
import HandS.Exc
import HandS.ExcOwn
import HandS.TryMany
import HandS.ExcIs
import HandS.ExcField
import HandS.ExcInit
import HandS.WordsExc
import KE.KIsAll
import KE.KTryMore
import KE.KExcIs
import HandS.ForMost
import HandS.ForExc
import HandS.Lambda
import PyProof.Rows.NestShow
import KE.GoesEnum
import HandS.Walk
import HandS.IsInst
import HandS.StrMore
import HandS.Style
import KE.KRevSl
import HandS.Codes
import KE.DataMinMax
import HandS.Head0
import HandS.Head1
import HandS.Head2
import HandS.HeadEnd
import HandS.HeadHook1
import HandS.HeadHook2
import HandS.EndTab
import HandS.NestedK
import HandS.HeadHook4
import HandS.FStr
import HandS.Star
import HandS.Property
import HandS.MakeKwOnly
import PyProof.EqKinds
import HandS.ListItems
import HandS.DeepEq
import HandS.MakeKw
import HandS.HeadHook3
import HandS.Defaults
import Wide.Once
import KE.SortKeyHeap
import HandS.SortKw
import KE.DataMinKey
import HandS.Dict
import PyProof.NeKinds
import HandS.NoneIn
import PySem.Challenge.RW_frontlines_k50_readers_refused
set_option Elab.async false
set_option linter.all false
set_option maxRecDepth 100000
set_option maxHeartbeats 4000000
namespace FL
open PySem PySem.Spec PyProof.Rows L2
/-! ### several clauses of one try, each 'except C as n' -/
/-- the name of slot i goes behind a suite -/
def gone (i : Nat) (D : Ends) : Ends :=
  { nx := fun τ G => D.nx (τ.set i none) G, rt := D.rt, bk := fun τ G => D.bk (τ.set i none) G, ct := fun τ G => D.ct (τ.set i none) G }
abbrev Clause : Type := Value × (Addr → Value → Option Addr → TS)
/-- what is wished of an error, clause by clause -/
def wClauses (K : PySem.W.Frag) (i : Nat) (out : WX) (D : Ends) : List Clause → WX
  | [] => out
  | q :: qs => fun c d τ G => ∃ hit, PySem.W.exmOne K c q.1 = some hit
      ∧ (hit = true → ∀ e, G e = none → q.2 e c d (gone i D) (τ.set i (some (.ref e))) G)
      ∧ (hit = false → wClauses K i out D qs c d τ G)
inductive Clauses (X : Cx) (n : Str) : List ExceptHandler → List Clause → Prop
  | done : Clauses X n [] []
  | more {nm : Str} {C : Value} {rd : Addr → Value → Option Addr → TS} {st : Stmt} {sts : List Stmt} {p1 p2 : Pos}
      {hs : List ExceptHandler} {qs : List Clause} (named : Names X nm C)
      (suite : ∀ (e : Addr) (oe : Obj) (c : Value) (d : Option Addr) (pn : List (Addr × Obj)), Zc c d oe →
        (∃ vs, oe.data = .fields vs) → PSs (X.suite e ((e, oe) :: pn)) (st :: sts) (rd e c d))
      (rest : Clauses X n hs qs) :
      Clauses X n (.ExceptHandler (some (.Name nm p1)) (some n) (st :: sts) p2 :: hs) ((C, rd) :: qs)
section
variable {X : Cx} {n : Str} {i : Nat} {pins : List (Addr × Obj)} {out : WX} {D : Ends}
/-- an error that has landed in front of the clauses -/
structure Landed (X : Cx) (pins : List (Addr × Obj)) (e : Addr) (c : Value) (d : Option Addr) (τ : L2.St) (G : Hp) (B : Heap) (sB t : Shared) : Prop where
  inv : Inv X pins τ G sB
  below : ∀ b o, sB.heap.get? b = some o → b ∉ frs X.stack → B.get? b = some o
  fly : HandSPX.FlyingZ B (X.env :: X.outer) e (Zc c d) t.heap
  up : sB.heap.UpToSlots t.heap
  free : G e = none
  os : t.os = sB.os
  bare : AllBare t.gens
theorem Landed.now {e : Addr} {c : Value} {d : Option Addr} {τ : L2.St} {G : Hp} {B : Heap} {sB t : Shared}
    (l : Landed X pins e c d τ G B sB t) : Inv X pins τ G t := l.inv.landed l.below l.fly.1 l.up l.os l.bare
/-- it is no frame's own address -/
theorem Landed.apart {e : Addr} {c : Value} {d : Option Addr} {τ : L2.St} {G : Hp} {B : Heap} {sB t : Shared}
    (l : Landed X pins e c d τ G B sB t) (fr : X.env.frame = some X.env.locals) : e ≠ X.env.locals ∧ e ∉ X.fs := by
  obtain ⟨oe, us, at_, _, dt⟩ := l.fly.there
  have no : e ∉ frs (X.env :: X.outer) := by
    intro m
    obtain ⟨_, u, at2, k⟩ := l.fly.2.2.1.mem m
    rw [at_] at at2
    cases at2
    exact k _ dt
  constructor
  · intro q
    exact no (List.mem_filterMap.mpr ⟨_, List.mem_cons_self, by rw [fr, q]⟩)
  · intro m
    obtain ⟨v, hv, q⟩ := List.mem_filterMap.mp m
    exact no (List.mem_filterMap.mpr ⟨v, List.mem_cons_of_mem _ hv, q⟩)
/-- no clause is left: it flies on -/
theorem none_left {e : Addr} {c : Value} {d : Option Addr} {τ : L2.St} {G : Hp} {B : Heap} {sB t : Shared}
    (l : Landed X pins e c d τ G B sB t) (st : X.stack = X.env :: X.outer) (fr : X.env.frame = some X.env.locals)
    (tk : Takes X out) (w : out c d τ G) : wpAny (model X.prog X.w) X.A (handleBy (.ref e) X.env []) (SP X pins D) X.xe t := by
  refine wpAny_handleBy_nil ?_
  obtain ⟨_, _, _, oe, us, T, oT, tv, at_, _, dt, f1, _⟩ := id l.fly
  unfold PySem.passOn
  refine wpAny_bind (wpAny_field at_ dt f1 ?_)
  rw [if_neg (by simp : ¬ ((Value.ref T == Value.none) = true))]
  have onward : wpAny (model X.prog X.w) X.A (setFlight (.ref e) X.env.frame)
      (fun _ u => wpAny (model X.prog X.w) X.A (throw (.ref e) : Sem Flow) (SP X pins D) X.xe u) X.xe t := by
    rw [fr]
    refine HandSPX.setFlight_upZ l.fly ?_
    intro h hh more
    have sky : Sky B X.stack e (Zc c d) X.env.locals h := by
      rw [st]
      exact .inr (.inr hh)
    exact wpAny_throw (tk _ _ ⟨e, B, sB, pins, τ, G, c, d, rfl, l.inv, l.below, l.up.trans more, sky, l.free, l.os, l.bare, w⟩)
  first
    | exact wpAny_bind onward
    | exact wpAny_bind (wpAny_pure (wpAny_bind onward))
/-- clause by clause -/
theorem by_clauses (st : X.stack = X.env :: X.outer) (fr : X.env.frame = some X.env.locals) (nd : X.N.Nodup) (hi : X.N[i]? = some n)
    (loc : X.env.kindOf n = some .local) (tk : Takes X out) (ok : X.Ok) {hs : List ExceptHandler} {qs : List Clause} (k : Clauses X n hs qs)
    {e : Addr} {c : Value} {d : Option Addr} {τ : L2.St} {G : Hp} {B : Heap} {sB t : Shared} (l : Landed X pins e c d τ G B sB t)
    (w : wClauses X.K i out D qs c d τ G) : wpAny (model X.prog X.w) X.A (handleBy (.ref e) X.env hs) (SP X pins D) X.xe t := by
  induction k with
  | done => exact none_left l st fr tk w
  | @more nm C rd b bs p1 p2 hs' qs' named suite rest ih =>
    obtain ⟨hit, eh, yes, no⟩ := w
    obtain ⟨a1, a2⟩ := l.apart fr
    have J := l.now
    obtain ⟨oe, us, at_, z, dt⟩ := l.fly.there
    have J1 := J.suite at_ dt l.free a1 a2
    refine wpAny_handleBy_cons (codeAny_handlers_test ?_) (fun q => nomatch q)
    have type : PySem.W.Looks (model X.prog X.w) t.heap (typeOf (.ref e)) c := by
      intro A' Q' E' s' keep q
      exact wpAny_typeOf_ref (keep _ _ at_) (by rw [z.1]; exact q)
    have ask := PySem.W.exm_one (M := model X.prog X.w) J.kIn type eh
    have read : ∀ {Q E : Value → Shared → Prop}, Q C t → wpAny (model X.prog X.w) (X.A.mark (some (.ref e))) (eval (.Name nm p1) X.env) Q E t := by
      intro Q E q
      obtain ⟨g, g2, m | ⟨m, v, nn⟩⟩ := named
      · exact ld_glob (X := X.suite e ((e, oe) :: (X.pn ++ pins))) J1 g m q g2
      · exact ld_blt (X := X.suite e ((e, oe) :: (X.pn ++ pins))) J1 g m v q nn g2
    refine read (ask.here ?_)
    cases hit with
    | false =>
      show wpAny _ X.A (handleBy (.ref e) X.env hs') _ _ _
      exact ih (no rfl)
    | true =>
      refine codeAny_handlers_suite_as ?_
      refine HandSPX.lands_againZ l.fly ?_
      intro h fly2 more
      have J2 : Inv X pins τ G { t with heap := h } := l.inv.landed l.below fly2.1 (l.up.trans more) l.os l.bare
      obtain ⟨oe2, us2, at2, z2, dt2⟩ := fly2.there
      have J3 := J2.suite at2 dt2 l.free a1 a2
      refine store_ok (X := X.suite e ((e, oe2) :: (X.pn ++ pins))) (v := .ref e) J3 nd hi (.inl loc) rfl ?_ (.inr loc)
      intro u J4
      have run := (suite e oe2 c d (X.pn ++ pins) z2 ⟨_, dt2⟩).run [] u _ G _ J4 (yes rfl e l.free)
      refine wpAny_mono run ?_ fun _ _ q => q.elim
      intro fl v after
      have leave : ∀ {τ' : L2.St} {G' : Hp} {R : Shared → Prop}, Inv (X.suite e ((e, oe2) :: (X.pn ++ pins))) [] τ' G' v →
          (∀ v', Inv X pins (τ'.set i none) G' v' → R v') →
          wpAny (model X.prog X.w) X.A (do bindName X.env n .none; unbindBehindTheSuite X.env n p2) (fun _ v' => R v') X.xe v := by
        intro τ' G' R J5 r
        exact gone_ok (J5.unsuite ok) nd hi loc r
      cases fl with
      | ret x =>
        obtain ⟨y, τ', G', J5, rx, q⟩ := after
        exact leave J5 fun _ J6 => ⟨y, _, _, J6, rx, q⟩
      | next =>
        obtain ⟨τ', G', J5, q⟩ := after
        exact leave J5 fun _ J6 => ⟨_, _, J6, q⟩
      | brk =>
        obtain ⟨τ', G', J5, q⟩ := after
        exact leave J5 fun _ J6 => ⟨_, _, J6, q⟩
      | cont =>
        obtain ⟨τ', G', J5, q⟩ := after
        exact leave J5 fun _ J6 => ⟨_, _, J6, q⟩
theorem ps_clauses {body : List Stmt} {h₀ : ExceptHandler} {hs : List ExceptHandler} {qs : List Clause} {pos : Pos} {tb : WX → TS}
    (st : X.stack = X.env :: X.outer) (fr : X.env.frame = some X.env.locals) (nd : X.N.Nodup) (hi : X.N[i]? = some n)
    (loc : X.env.kindOf n = some .local) (tk : Takes X out)
    (hb : ∀ (W : WX) (pn : List (Addr × Obj)) (xe : Value → Shared → Prop), Takes (X.tr pn xe) W →
      PassesOwn (model X.prog X.w) X.A X.env xe → PSs (X.tr pn xe) body (tb W))
    (k : Clauses X n (h₀ :: hs) qs) : PS X (.Try body (h₀ :: hs) [] [] pos) (fun D τ G => tb (wClauses X.K i out D qs) D τ G) := by
  constructor
  intro pins s τ G D I rd
  have ok := I.ok
  have frames : X.A.frames = some (X.env :: X.outer) := by rw [ok.frames, st]
  refine wpAny_Try_except ?_
  let catch_ : Value → Shared → Prop := fun x s1 =>
    wpAny (model X.prog X.w) X.A (noteFrame x X.env) (fun _ s2 => wpAny (model X.prog X.w) X.A (setFlight x none)
      (fun _ s3 => wpAny (model X.prog X.w) X.A (handleBy x X.env (h₀ :: hs)) (SP X pins D) X.xe s3) X.xe s2) X.xe s1
  have takes : Takes (X.tr (X.pn ++ pins) catch_) (wClauses X.K i out D qs) := by
    rintro x s1 ⟨e, B, sB, pins', τ1, G1, c, d, rfl, I1, below, up, sky, free, os, bare, w⟩
    have I2 : Inv X pins τ1 G1 sB := I1.ofTry ok
    have sky2 : Sky B (X.env :: X.outer) e (Zc c d) X.env.locals s1.heap := by
      rw [← st]
      exact sky
    show wpAny (model X.prog X.w) X.A (noteFrame (.ref e) X.env) _ _ _
    refine Sky.land Zc.steady frames fr sky2 ?_
    intro h fly more
    exact by_clauses st fr nd hi loc tk ok k ⟨I2, below, fly, up.trans more, free, os, bare⟩ w
  have run := (hb _ (X.pn ++ pins) catch_ takes PassesOwn.looking).run [] s τ G D (I.toTry _) rd
  refine wpAny_mono run ?_ fun _ _ q => q
  intro fl s1 after
  cases fl with
  | ret x =>
    obtain ⟨y, τ1, G1, I1, rx, q⟩ := after
    exact ⟨y, τ1, G1, I1.ofTry ok, rx, q⟩
  | next =>
    obtain ⟨τ1, G1, I1, q⟩ := after
    exact wpAny_execs_nil ⟨τ1, G1, I1.ofTry ok, q⟩
  | brk =>
    obtain ⟨τ1, G1, I1, q⟩ := after
    exact ⟨τ1, G1, I1.ofTry ok, q⟩
  | cont =>
    obtain ⟨τ1, G1, I1, q⟩ := after
    exact ⟨τ1, G1, I1.ofTry ok, q⟩
end
end FL
namespace FL
open PySem PySem.Spec PyProof.Rows L2
/-! ### isinstance(e, c), e an error with fields that the suite holds at a -/
theorem has_cls {K : PySem.W.Frag} {D : Addr} (h : PySem.W.hasDictIn K D = true) : (PySem.W.clsIn K D).isSome = true := by
  obtain ⟨cd, e, _⟩ := PySem.W.any_some h
  rw [e]
  rfl
def rIsY (K : PySem.W.Frag) (cls : Value) (d : Option Addr) (a : Addr) : List V → Hp → VK → Prop := fun xs H Q =>
  ∃ (D dd : Addr) (c : V) (cv : Value) (b : Bool) (fs : List (Str × V)), xs = [.ref a, c] ∧ cls = .ref D ∧ d = some dd ∧ ExcC K D
    ∧ (∀ u, RelV c u → u = cv) ∧ PySem.W.kitOne K (.ref D) cv = some b ∧ H dd = some (.xd fs) ∧ Q (.bl b) H
theorem call_isY {X : Cx} {a : Addr} {cls : Value} {d : Option Addr} {oe : Obj} {pn : List (Addr × Obj)} (hz : Zc cls d oe) (hf : ∃ vs, oe.data = .fields vs) :
    CallR (X.suite a ((a, oe) :: pn)) (.builtin "isinstance") (rIsY X.K cls d a) := by
  rintro pins s σ H xs us Q I r ⟨D, dd, c, cv, b, fs, rfl, rfl, rfl, C, only, e, at_, q⟩
  cases r with
  | cons r1 r2 =>
    cases r2 with
    | cons r2 r3 =>
      cases r3
      cases r1
      obtain rfl := only _ r2
      obtain ⟨vs, dt⟩ := hf
      have told := I.hok dd _ at_
      obtain ⟨m, ns, _⟩ : ∃ m, s.heap.Ns1 dd m ∧ ∀ f, RelO (fs.lookup f) (m f) := told
      obtain ⟨od, ho, _⟩ := lookIn_ns ns
      have here := (I.pin (a, oe) (List.mem_append.mpr (.inl List.mem_cons_self))).1
      have inst : PySem.W.InstAt s.heap a oe D (some od) := ⟨here, hz.1, by unfold PySem.W.notCls; rw [dt] <;> rfl, by rw [hz.2]; exact ho⟩
      refine PySem.W.kia_one (PySem.W.kitx_exc (has_cls C.hd) C.hg C.hk C.hs C.ha C.hn C.ht C.hm) I.kIn inst e (fun q => nomatch q) ?_
      intro tk
      exact ⟨.bl b, H, I.kept (t' := tk) fun _ _ k => k, rfl, q⟩
end FL
namespace FL
open PySem PySem.Spec PyProof.Rows L2
/-! A promise that is kept where no repr is under way. -/
structure FnG (P : Program) (w : World) (K : PySem.W.Frag) (mg : Str → Option Value)
    (base : Heap) (C : CXT) (k : Nat) (f : Addr) (fd : FuncData) (ps : List Str) (sp : Sp) : Prop where
  size : ∀ vs H Q E, sp vs H Q E → vs.length = ps.length
  goes : ∀ (A : Around) (outer : List Env) (s : Shared) (H : Hp) (args : Args)
      (us : List Value) (vs : List V) (Q : VK) (E : XK),
    Room k A → A.guards = some [] → Env0 P w K mg base A outer s H →
    BindsTo s fd args (ps.zip us) → Vals vs us → sp vs H Q E →
    codeAny (model P w) A (.call (.ref f) args) (CR C outer P w H s Q E) s
theorem FnG.of {P : Program} {w : World} {K : PySem.W.Frag} {mg : Str → Option Value} {base : Heap}
    {C : CXT} {k : Nat} {f : Addr} {fd : FuncData} {ps : List Str} {sp : Sp}
    (F : FnOk P w K mg base C k f fd ps sp) : FnG P w K mg base C k f fd ps sp :=
  ⟨F.len, fun A o s H a us vs Q E hr _ => F.run A o s H a us vs Q E hr⟩
section
variable {P : Program} {w : World} {K : PySem.W.Frag} {mg : Str → Option Value} {base : Heap}
theorem okG {x qual : Str} {st : Stmt} {f : Addr} {fd : FuncData} {N ps : List Str} {k : Nat} {sp : Sp}
    (F : Fun K x qual st f fd) (S : FnScope N ps (defScope st))
    (size : ∀ vs H Q E, sp vs H Q E → vs.length = ps.length)
    (body : ∀ (cdv : Value) (A : Around) (outer : List Env) (s : Shared) (H : Hp) (vs : List V) (Q : VK) (E : XK),
      Room k (A.deeper (envOfC qual (defScope st) s.heap.objs.size f cdv)) → A.guards = some [] → sp vs H Q E →
      ∃ t, PSs (cxOf CX0 P w K mg base N qual (defScope st) f cdv A outer s H E).nox (defBody st) t
        ∧ t { nx := fun _ H' => Q .non H', rt := Q } (start N vs) H) :
    FnG P w K mg base CX0 (k + 1) f fd ps sp := by
  obtain ⟨oc, od, kV, doc, pm, an, cdv, ct, osl, rfl, lk, hcd⟩ := F.ex
  refine ⟨size, fun A outer s H args us vs Q E hr hg e0 hb r hsp => ?_⟩
  refine LamX.run_ofS (k := k) lk hcd S hr e0 hb r (size _ _ _ _ hsp) fun h => ?_
  obtain ⟨t, h1, h2⟩ := body cdv A outer s H vs Q E h hg hsp
  exact ⟨t, h1.nox, h2⟩
theorem okGX {x qual : Str} {st : Stmt} {f : Addr} {fd : FuncData} {N ps : List Str} {k : Nat} {sp : Sp}
    (F : Fun K x qual st f fd) (S : FnScope N ps (defScope st))
    (size : ∀ vs H Q E, sp vs H Q E → vs.length = ps.length)
    (body : ∀ (cdv : Value) (A : Around) (outer : List Env) (s : Shared) (H : Hp) (vs : List V) (Q : VK) (E : XK),
      Room k (A.deeper (envOfC qual (defScope st) s.heap.objs.size f cdv)) → A.guards = some [] → sp vs H Q E →
      ∃ t, PSs (cxOf (L2.CX P w) P w K mg base N qual (defScope st) f cdv A outer s H E) (defBody st) t
        ∧ t { nx := fun _ H' => Q .non H', rt := Q } (start N vs) H) :
    FnG P w K mg base (L2.CX P w) (k + 1) f fd ps sp := by
  obtain ⟨oc, od, kV, doc, pm, an, cdv, ct, osl, rfl, lk, hcd⟩ := F.ex
  refine ⟨size, fun A outer s H args us vs Q E hr hg e0 hb r hsp => ?_⟩
  exact LamX.run_ofS (k := k) lk hcd S hr e0 hb r (size _ _ _ _ hsp) fun h =>
    body cdv A outer s H vs Q E h hg hsp
end
section
variable {X : Cx} {C : CXT} {k : Nat} {f : Addr} {fd : FuncData} {ps : List Str} {sp : Sp}
  {dvs : List V} {ds : List Value} {E : XK} {x : Str} {p pos : Pos} {e : Expr} {es : List Expr} {t : TA}
/-! f(e, ..) by such a promise -/
theorem pg_call (F : FnG X.prog X.w X.K X.mg X.base C k f fd ps sp) (hr : Room k X.A) (hG : X.A.guards = some [])
    (hg : Gl X x) (hm : X.mg x = some (.ref f)) (hk : PySem.W.keepIn X.K (.ref f) = true)
    (hb : Binds X.K fd ps ds) (hd : Vals dvs ds) (hx : Passes C X E) (ha : PA X (e :: es) t)
    (hdb : (x == ("__debug__" : Str)) = false := by decide)
    (he : starEach (e :: es) X.env = (false, eval e X.env) :: starEach es X.env := by rfl)
    (hpl : (backTo pos (starEach es X.env)).any (·.1) = false := by rfl) :
    PE X (.Call (.Name x p) (e :: es) [] pos) (tCall sp dvs E t) := by
  constructor
  intro pins s σ H Q I h
  refine wpAny_Call_Name_kw (ld_glob I hg hm ?_ hdb)
  refine PySem.W.callWith_K (h₀ := X.base) I.ok.mod.kin hk ?_ he hpl
  refine thn (ha.run pos pins s σ H _ I h) ?_
  rintro us s1 ⟨vs, H1, J, r, q⟩
  refine ⟨J.kIn, ?_⟩
  have r2 := r.append hd
  have hl : (us ++ ds).length = ps.length := by
    rw [← r2.length]
    exact F.size _ _ _ _ q
  have run := F.goes X.A X.stack s1 H1 ⟨us, []⟩ (us ++ ds) (vs ++ dvs) Q E hr hG J.env0 (hb s1 us J.kIn hl) r2 q
  refine wpAny_call (codeAny_mono run ?_)
  rintro (er | fl) s2 z
  · exact hx pins σ H1 s1 er s2 J z
  · cases fl with
    | ret u => exact J.after z
    | _ => exact False.elim z
end
/-! ### repr of data -/
def NiceD (d : PyData) : Prop := d.showable = true ∧ d.depth ≤ 40 ∧ d.shown.length ≤ sizeLine
/-- data of a value; an empty dict too -/
def Sh (K : PySem.W.Frag) (H : Hp) (v : V) (d : PyData) : Prop :=
  (Dp K H v d ∧ d.hasDict = false) ∨ (∃ a, v = .ref a ∧ H a = some (.dK []) ∧ d = .dict [])
section
variable {X : Cx}
theorem call_repr (hG : X.A.guards = some []) (hu : X.A.units + 64 < cLine) :
    CallR X (.builtin "repr") (fun xs H Q => ∃ v d, xs = [v] ∧ Sh X.K H v d ∧ NiceD d ∧ Q (.str d.shown) H) := by
  intro pins s σ H xs us Q I r h
  obtain ⟨v, d, rfl, hd, ⟨n1, n2, n3⟩, q⟩ := h
  cases r with
  | cons r1 r2 =>
    cases r2
    rename_i u
    rcases hd with ⟨hd, nd⟩ | ⟨a, rfl, ha, rfl⟩
    · obtain ⟨as, rd⟩ := Dp.reads I d v u hd r1
      have out : ∀ (h' : Heap) (w : Tok) (tk : Nat), (∀ b o, s.heap.get? b = some o → h'.get? b = some o) →
          EP X pins σ Q (.str d.shown w) { s with heap := h', toks := tk } :=
        fun h' w tk kp => ⟨.str d.shown, H, I.kept kp, ⟨w, rfl⟩, q⟩
      cases rd with
      | none => exact P.repr_of_none (out s.heap _ _ fun _ _ e => e)
      | bool b => exact P.repr_of_bool (out s.heap _ _ fun _ _ e => e)
      | int i t => exact P.repr_of_int (by simpa [PyData.showable] using n1) (out s.heap _ _ fun _ _ e => e)
      | str z t => exact P.repr_of_str (out s.heap _ _ fun _ _ e => e) n3
      | list h1 h2 h3 h4 =>
        exact repr_of_reads' (.list h1 h2 h3 h4) n1 (PyData.noDict_hsm nd) hG (by omega) (fun _ _ e => e) out n3
      | tuple h1 h2 h3 h4 =>
        exact repr_of_reads' (.tuple h1 h2 h3 h4) n1 (PyData.noDict_hsm nd) hG (by omega) (fun _ _ e => e) out n3
      | dict h1 h2 h3 h4 h5 => simp [PyData.hasDict] at nd
    · cases r1
      obtain ⟨_, hs, vs, kv, o, es, ep, h1, h2, h3, _, pr, _⟩ := I.hok a _ ha
      cases kv
      have e0 : es.toList = [] := by
        generalize es.toList = l at pr
        cases pr
        rfl
      refine repr_of_reads' (d := .dict []) (as := a :: [] ++ []) (.dict (kvs := []) h1 h2.1 h3 ?_ ?_) n1 (fun _ => ?_) hG
        (by omega) (fun _ _ e => e) (fun h' w tk kp => ⟨.str _, H, I.kept kp, ⟨w, rfl⟩, q⟩) n3
      · rw [e0]
        exact .nil
      · rw [e0]
        exact .nil
      · intro hm
        have : sysModules = a := by simpa using hm
        rw [this] at hs
        simp at hs
end
end FL
namespace FL
open PySem PySem.Spec PyProof.Rows L2
/-! ### zip of two texts, a target of two names -/
def ItS (x y : Str) : It :=
  ⟨fun i _ => i < min x.cps.size y.cps.size,
   fun i H v H' => ∃ T a b, v = .ref T ∧ H T = none ∧ H' = upd H T (.tup [.str ⟨#[a]⟩, .str ⟨#[b]⟩])
      ∧ x.cps[i]? = some a ∧ y.cps[i]? = some b,
   fun i _ => i = min x.cps.size y.cps.size⟩
def zSt (x y : Str) (t u : Tok) (z TI TO i1 i2 : Addr) (i : Nat) (h : Heap) : Prop :=
  IsZip h z TI TO .none ∧ IsTupOf2 h TI (.ref i1) (.ref i2) ∧ (∃ a b, IsTupOf2 h TO a b)
    ∧ h.IsStrIter i1 (strIterType x) x t i ∧ h.IsStrIter i2 (strIterType y) y u i
theorem turn_zipS {P : Program} {w : World} {K : PySem.W.Frag} {elts : List Expr} {kk : Nat} {tpos : Pos}
    {x y : Str} {t u : Tok} {z TI TO i1 i2 : Addr} (S : ZipSep2 z TI TO i1 i2 [i1] [i2]) :
    Turn P w K (.Tuple elts kk tpos) (ItS x y) [z, TI, TO, i1, i2] z (zSt x y t u z TI TO i1 i2) where
  mem := by simp
  obj := by
    rintro i h ⟨hz, hT, ⟨a, b, hO⟩, s1, s2⟩ c hc
    have e' : c = z ∨ c = TI ∨ c = TO ∨ c = i1 ∨ c = i2 := by simpa using hc
    rcases e' with rfl | rfl | rfl | rfl | rfl
    · exact ⟨_, hz, fun v q => nomatch q⟩
    · exact ⟨_, hT, fun v q => nomatch q⟩
    · exact ⟨_, hO, fun v q => nomatch q⟩
    · obtain ⟨o, e, d⟩ := s1
      exact ⟨_, e, fun v q => by simp_all⟩
    · obtain ⟨o, e, d⟩ := s2
      exact ⟨_, e, fun v q => by simp_all⟩
  keep := by
    rintro i h h' ⟨hz, hT, ⟨a, b, hO⟩, s1, s2⟩ k
    refine ⟨k z (by simp) _ hz, k TI (by simp) _ hT, ⟨a, b, k TO (by simp) _ hO⟩, ?_, ?_⟩
    · obtain ⟨o, e, d⟩ := s1
      exact ⟨o, k i1 (by simp) o e, d⟩
    · obtain ⟨o, e, d⟩ := s2
      exact ⟨o, k i2 (by simp) o e, d⟩
  item := by
    intro X hP hw hK hc i pins s σ H E I hf st hg
    subst hP hw hK
    obtain ⟨hz, hT, ⟨a, b, hO⟩, s1, s2⟩ := st
    have hh : X.A.in1.handled = none := I.ok.hd hc
    have hg' : i < min x.cps.size y.cps.size := hg
    have zl := Heap.lt_size hz
    refine wpAny_pyNext_zipD2_item S (Draws.text hh i1 x t) (Draws.text hh i2 y u) hz hT hO s1 s2 (by omega) (by omega) ?_
    rintro v1 v2 h' tk ⟨c1, t1, e1, rfl⟩ ⟨c2, t2, e2, rfl⟩ z1 o1 r1 r2 nT sz kp
    refine ⟨_, rfl, wpAny_letOwnedTupleGo_zip (s := { s with heap := h', toks := tk }) z1 fun h2 z2 sb => ?_⟩
    have nz : (s.heap.objs.size : Addr) ≠ z := Nat.ne_of_gt zl
    have nT2 : h2.get? s.heap.objs.size = some { cls := .type "tuple", data := .seq #[.str ⟨#[c1]⟩ t1, .str ⟨#[c2]⟩ t2] } :=
      (sb.2 _ nz).trans nT
    have ok : ObjOk X.prog X.w (upd H s.heap.objs.size (.tup [.str ⟨#[c1]⟩, .str ⟨#[c2]⟩])) h2 s.heap.objs.size
        (.tup [.str ⟨#[c1]⟩, .str ⟨#[c2]⟩]) :=
      ⟨(by show 2 ≤ sizeLine; decide), [_, _], .cons ⟨t1, rfl⟩ (.cons ⟨t2, rfl⟩ .nil), ⟨_, nT2, rfl, _, rfl⟩⟩
    have J := I.turnedNew (t' := tk) (ch := [z, TI, TO, i1, i2]) (h' := h2) (fun c o nc q => (sb.2 c fun q' => nc (by simp [q'])).trans
      (kp c o (fun q' => nc (by simp [q'])) (fun q' => nc (by simp [q'])) (fun q' => nc (by simp [q'])) (fun q' => nc (by simp [q'])) q)) hf (Nat.le_refl _) ok
    refine ⟨.ref s.heap.objs.size, _, J, rfl, ⟨_, c1, c2, rfl, I.hok.fresh (Nat.le_refl _), rfl, e1, e2⟩, ⟨z2, ?_, ⟨_, _, (sb.2 _ S.TOz).trans o1⟩, ?_, ?_⟩, ?_⟩
    · exact (sb.2 _ S.TIz).trans (kp _ _ S.TIz S.TITO S.TIi1 S.TIi2 hT)
    · obtain ⟨o, e, d⟩ := r1
      exact ⟨o, (sb.2 _ (Ne.symm S.zi1)).trans e, d⟩
    · obtain ⟨o, e, d⟩ := r2
      exact ⟨o, (sb.2 _ (Ne.symm S.zi2)).trans e, d⟩
    · intro c hcm
      have live : ∃ o, s.heap.get? c = some o := by
        have e' : c = z ∨ c = TI ∨ c = TO ∨ c = i1 ∨ c = i2 := by simpa using hcm
        rcases e' with rfl | rfl | rfl | rfl | rfl
        · exact ⟨_, hz⟩
        · exact ⟨_, hT⟩
        · exact ⟨_, hO⟩
        · exact ⟨_, s1.choose_spec.1⟩
        · exact ⟨_, s2.choose_spec.1⟩
      obtain ⟨o, e⟩ := live
      rw [upd_ne (Nat.ne_of_lt (Heap.lt_size e))]
      exact (hf c hcm).1
  done := by
    intro X hP hw hK hc i pins s σ H E I hf st hg
    subst hP hw hK
    obtain ⟨hz, hT, ⟨a, b, hO⟩, s1, s2⟩ := st
    have hh : X.A.in1.handled = none := I.ok.hd hc
    have hg' : i = min x.cps.size y.cps.size := hg
    refine wpAny_pyNext_zipD2_end S (Draws.text hh i1 x t) (Draws.text hh i2 y u) hz hT hO s1 s2 (by omega) (by omega) (by omega) ?_
    intro h' tk kp
    exact ⟨rfl, I.turnedL (t' := tk) (ch := [z, TI, TO, i1, i2]) (fun c o nc q =>
      kp c o (fun q' => nc (by simp [q'])) (fun q' => nc (by simp [q'])) (fun q' => nc (by simp [q'])) (fun q' => nc (by simp [q'])) q) hf⟩
  self := fun A i s Q E st h => wpAny_pyIter_zip st.1 h
def iZipS (ta : TA) : TI := fun σ H R => ta σ H fun vs H1 => ∃ x y, vs = [.str x, .str y] ∧ R (ItS x y) H1
theorem pi_zipS {X : Cx} {e e2 : Expr} {ta : TA} {p pos tpos : Pos} {elts : List Expr} {kk : Nat} (hg : Gl X "zip")
    (hm : X.mg "zip" = none) (ha : PA X [e, e2] ta)
    (hs : starEach [e, e2] X.env = (false, eval e X.env) :: starEach [e2] X.env := by rfl)
    (hpl : (backTo pos (starEach [e2] X.env)).any (·.1) = false := by rfl) :
    PI X (.Tuple elts kk tpos) (.Call (.Name "zip" p) [e, e2] [] pos) (iZipS ta) := by
  constructor
  intro pins s σ H R I h
  refine Call_ (ld_blt I hg hm PyProof.Rows.boot_zip (PyProof.Rows.callWith_type1 (thn (ha.run pos pins s σ H _ I h) ?_) hs hpl))
  rintro us s1 ⟨vs, H1, J, r, x, y, rfl, q⟩
  obtain ⟨u1, u2, rfl, ⟨t1, rfl⟩, ⟨t2, rfl⟩⟩ := vals2 r
  refine zip_begins2 (begins_text x t1) (begins_text y t2) trivial trivial ?_
  intro h' hz hT hO g1 g2 sz kp
  refine wpAny_pyIter_zip hz ?_
  have J2 : Inv X pins σ H1 { s1 with heap := h' } := J.kept (t' := s1.toks) kp
  refine ⟨_, _, _, ItS x y, H1, rfl, J2, turn_zipS (zip_sep2 (fp1 := []) (fp2 := []) (fun _ z => nomatch z) (fun _ z => nomatch z)),
    ⟨hz, hT, ⟨_, _, hO⟩, ⟨_, g1, rfl, rfl⟩, ⟨_, g2, rfl, rfl⟩⟩, fun c hcm => ?_, q⟩
  have hle : s1.heap.objs.size ≤ c := by
    have e' : c = s1.heap.objs.size + 4 ∨ c = s1.heap.objs.size + 2 ∨ c = s1.heap.objs.size + 3 ∨ c = s1.heap.objs.size ∨ c = s1.heap.objs.size + 1 := by
      simpa using hcm
    rcases e' with z | z | z | z | z <;> rw [z] <;> first | exact Nat.le_add_right _ _ | exact Nat.le_refl _
  exact J.fpOk hle (J.hok.fresh hle)
end FL
namespace FL
open PySem PySem.Spec PyProof.Rows L2
/-! ### values of any kind -/
inductive Any (H : Hp) : V → String → Prop
  | non : Any H .non "NoneType"
  | bl (b : Bool) : Any H (.bl b) "bool"
  | int (i : Int) : Any H (.int i) "int"
  | str (z : Str) : Any H (.str z) "str"
  | lst {a : Addr} {xs : List V} : H a = some (.lst xs) → Any H (.ref a) "list"
  | tup {a : Addr} {xs : List V} : H a = some (.tup xs) → Any H (.ref a) "tuple"
  | dct {a : Addr} {kvs : List (Key × V)} : H a = some (.dK kvs) → Any H (.ref a) "dict"
def kinds : List String := ["NoneType", "bool", "int", "str", "list", "tuple", "dict"]
def asked : List String := ["int", "bool", "str", "list", "tuple", "dict"]
def subB (n T : String) : Bool := n == T || (n == "bool" && T == "int")
theorem Any.kind {H : Hp} {v : V} {n : String} (h : Any H v n) : n ∈ kinds := by cases h <;> decide
theorem Any.tyx {K : PySem.W.Frag} {H : Hp} {v : V} {n : String} (h : Any H v n) : TyX K H v (.type n) := by
  cases h with
  | non => exact .base .non
  | bl b => exact .base (.bl b)
  | int i => exact .base (.int i)
  | str z => exact .base (.str z)
  | lst e => exact .base (.lst e)
  | tup e => exact .base (.tup e)
  | dct e => exact .base (.dK e)
theorem kit_all : (kinds.all fun n => asked.all fun T => decide (kitB n T = some (subB n T))) = true := by decide +kernel
theorem kit_any {n T : String} (hn : n ∈ kinds) (hT : T ∈ asked) : kitB n T = some (subB n T) := by
  have h := List.all_eq_true.mp kit_all n hn
  exact of_decide_eq_true (List.all_eq_true.mp h T hT)
section
variable {X : Cx}
theorem call_isA : CallR X (.builtin "isinstance") (fun xs H Q => ∃ x n T, xs = [x, .ty T] ∧ Any H x n ∧ T ∈ asked ∧ Q (.bl (subB n T)) H) := by
  intro pins s σ H xs us Q I r h
  obtain ⟨x, n, T, rfl, a, hT, q⟩ := h
  exact call_isi pins s σ H _ us Q I r ⟨x, .ty T, _, _, _, rfl, .ty T, a.tyx, kit_ty (kit_any a.kind hT), q⟩
end
theorem Any.same {H H' : Hp} {v : V} {n : String} (h : Any H v n) (e : ∀ a o, v = .ref a → H a = some o → H' a = some o) : Any H' v n := by
  cases h with
  | non => exact .non
  | bl b => exact .bl b
  | int i => exact .int i
  | str z => exact .str z
  | lst q => exact .lst (e _ _ rfl q)
  | tup q => exact .tup (e _ _ rfl q)
  | dct q => exact .dct (e _ _ rfl q)
/-! ### lines -/
def lineB (sg : Str) : V → Bool
  | .str z => decide (Txt.stripChars z sg = (Str.ofString ""))
  | _ => false
/-- texts are not too long -/
def Short (v : V) : Prop := ∀ z, v = .str z → z.length ≤ sizeLine
def spLine : Sp := fun vs H Q _ => ∃ (sg : Str) (v : V) (n : String), vs = [.str sg, v] ∧ Any H v n ∧ Short v ∧ Q (.bl (lineB sg v)) H
end FL
namespace FL
open PySem PySem.Spec PyProof.Rows L2
/-! ### the pot -/
def PotAt (H : Hp) (p : Addr) : Prop :=
  ∃ a b : Int, H p = some (.lst [.int a, .int b]) ∧ 0 ≤ a ∧ 0 ≤ b ∧ b ≤ 2147483646
/-- all but p is as it was -/
def But (p : Addr) (H H' : Hp) : Prop := ∀ c o, H c = some o → c ≠ p → H' c = some o
theorem But.refl (p : Addr) (H : Hp) : But p H H := fun _ _ e _ => e
theorem But.trans {p : Addr} {H H1 H2 : Hp} (a : But p H H1) (b : But p H1 H2) : But p H H2 :=
  fun c o e n => b c o (a c o e n) n
theorem But.same {p : Addr} {H H1 H2 : Hp} (a : But p H H1) (b : Same H1 H2) : But p H H2 :=
  fun c o e n => b c o (a c o e n)
theorem _root_.L2.Same.but {p : Addr} {H H1 : Hp} (a : Same H H1) : But p H H1 := fun c o e _ => a c o e
def spDraw : Sp := fun vs H Q _ => ∃ (p : Addr) (n : Int), vs = [.ref p, .int n] ∧ PotAt H p ∧ 0 < n ∧ n < 1073741824 ∧
  ∀ (d : Int) (H' : Hp), 0 ≤ d → d < n → PotAt H' p → But p H H' → Q (.int d) H'
end FL
namespace FL
open PySem PySem.Spec PyProof.Rows L2
theorem But.sqL {K : PySem.W.Frag} {p q : Addr} {H H' : Hp} {xs : List V} (b : But p H H') (n : q ≠ p) (h : SqL K H q xs) : SqL K H' q xs := by
  rcases h with (h | ⟨o, h⟩) | h
  · exact .inl (.inl (b _ _ h n))
  · exact .inl (.inr ⟨o, b _ _ h n⟩)
  · exact .inr h
def spPick (K : PySem.W.Frag) : Sp := fun vs H Q _ => ∃ (p : Addr) (v : V), vs = [.ref p, v] ∧ PotAt H p ∧
  ((∃ (q : Addr) (xs : List V), v = .ref q ∧ q ≠ p ∧ SqL K H q xs ∧ 0 < xs.length ∧ xs.length ≤ 1000 ∧
      ∀ (x : V) (H' : Hp), x ∈ xs → PotAt H' p → But p H H' → Q x H')
    ∨ (∃ z : Str, v = .str z ∧ 0 < z.length ∧ z.length ≤ 1000 ∧
      ∀ (c : Nat) (H' : Hp), c ∈ z.cps.toList → PotAt H' p → But p H H' → Q (.str ⟨#[c]⟩) H'))
def spPot (K : PySem.W.Frag) : Sp := fun vs H Q _ => ∃ (a : Addr) (ns : List Int) (k : Int), vs = [.ref a, .int k] ∧ SqL K H a (ns.map V.int) ∧ 0 ≤ k ∧ k < 64 ∧ ns.length ≤ 63 ∧
  ∀ (p : Addr) (H' : Hp), H p = none → PotAt H' p → Same H H' → Q (.ref p) H'
theorem atI_lt {α : Type} {xs : List α} {d : Int} (h0 : 0 ≤ d) (h1 : d < (xs.length : Int)) : ∃ x, x ∈ xs ∧ atI xs d = some x := by
  have hl : d.toNat < xs.length := by omega
  refine ⟨xs[d.toNat], List.getElem_mem hl, ?_⟩
  have e := atI_nat (List.getElem?_eq_getElem hl)
  rw [show ((d.toNat : Nat) : Int) = d by omega] at e
  exact e
theorem str_len (z : Str) : z.length = z.cps.toList.length := by
  show z.cps.size = _
  simp
end FL
namespace FL
open PySem PySem.Spec PyProof.Rows L2
theorem sqL_upd {K : PySem.W.Frag} {q B : Addr} {H : Hp} {xs : List V} {o : HO} (h : SqL K H q xs) (n : H B = none) : SqL K (upd H B o) q xs := by
  rcases h with (h | ⟨u, h⟩) | h
  · exact .inl (.inl (by rw [upd_ne (ne_of_none h n)]; exact h))
  · exact .inl (.inr ⟨u, by rw [upd_ne (ne_of_none h n)]; exact h⟩)
  · exact .inr h
/-- what len asks -/
def rLen (K : PySem.W.Frag) : List V → Hp → VK → Prop := fun xs H Q => ∃ x n, xs = [x] ∧ LenV K x H n ∧ Q (.int n) H
theorem callLen {X : Cx} : CallR X (.builtin "len") (rLen X.K) := call_len
/-- a text of signs of z -/
def Over (z y : Str) : Prop := ∀ c ∈ y.cps.toList, c ∈ z.cps.toList
def spNote : Sp := fun vs H Q _ => ∃ (p : Addr) (z : Str) (m : Int), vs = [.ref p, .str z, .int m] ∧ PotAt H p ∧ 0 < z.length ∧ z.length ≤ 1000 ∧ 0 ≤ m ∧ m ≤ 1000 ∧
  ∀ (y : Str) (H' : Hp), Over z y → (y.length : Int) ≤ m → PotAt H' p → But p H H' → Q (.str y) H'
theorem PotAt.upd {H : Hp} {p q : Addr} {o : HO} (h : PotAt H p) (n : p ≠ q) : PotAt (upd H q o) p := by
  obtain ⟨a, b, e, r⟩ := h
  exact ⟨a, b, by rw [upd_ne n]; exact e, r⟩
theorem PotAt.ne {H : Hp} {p q : Addr} (h : PotAt H p) (n : H q = none) : p ≠ q := by
  obtain ⟨a, b, e, r⟩ := h
  exact ne_of_none e n
theorem But.upd {p q : Addr} {H H1 : Hp} {o : HO} (b : But p H H1) (n : H q = none) : But p H (upd H1 q o) := fun c u e hc => by
  rw [upd_ne (ne_of_none e n)]
  exact b c u e hc
theorem But.new {p q : Addr} {H H1 : Hp} (b : But p H H1) (hp : PotAt H p) (n : H1 q = none) (hp1 : PotAt H1 p) : H q = none := by
  cases e : H q with
  | none => rfl
  | some o =>
    by_cases hq : q = p
    · subst hq
      obtain ⟨_, _, z, _⟩ := hp1
      rw [z] at n
      cases n
    · rw [b q o e hq] at n
      cases n
theorem join_list (ys : List Str) : (Str.join (Str.ofString "") ys).cps.toList = (ys.map fun y => y.cps.toList).flatten := by
  have e0 : (Str.ofString "").cps.toList = [] := by decide +kernel
  induction ys with
  | nil => rfl
  | cons x r ih =>
    cases r with
    | nil => simp [Str.join]
    | cons y r =>
      show (x ++ Str.ofString "" ++ Str.join (Str.ofString "") (y :: r)).cps.toList = _
      rw [Str.cps_append, Str.cps_append, Array.toList_append, Array.toList_append, ih, e0]
      simp
theorem Str_ext {a b : Str} (h : a.cps.toList = b.cps.toList) : a = b := by
  obtain ⟨a⟩ := a
  obtain ⟨b⟩ := b
  congr 1
  exact Array.toList_inj.mp h
theorem txtjoin_list (ys : List Str) : (Txt.join (Str.ofString "") ys).cps.toList = (ys.map fun y => y.cps.toList).flatten := by
  rw [← join_list]
  unfold Txt.join
  rw [StrLaws.glued_eq_join]
theorem join_signs (cs : List Nat) : Txt.join (Str.ofString "") (cs.map fun c => (⟨#[c]⟩ : Str)) = ⟨cs.toArray⟩ := by
  apply Str_ext
  rw [txtjoin_list, List.map_map]
  show (cs.map fun c => [c]).flatten = cs
  induction cs with
  | nil => rfl
  | cons c cs ih => rw [List.map_cons, List.flatten_cons, ih]; rfl
end FL
namespace FL
open PySem PySem.Spec PyProof.Rows L2
/-! ### texts: list(z), z * n, z[::-1] -/
def sign (c : Nat) : V := .str ⟨#[c]⟩
section
variable {X : Cx}
theorem vals_signs {z : Str} {acc : Array Value} (h : ItemsOf (SignAt z) acc z.cps.size) : Vals (z.cps.toList.map sign) acc.toList := by
  obtain ⟨h1, h2⟩ := h
  have key : ∀ (l : List Nat) (vs : List Value), l.length = vs.length →
      (∀ (i : Nat) (c : Nat) (v : Value), l[i]? = some c → vs[i]? = some v → ∃ u, v = .str ⟨#[c]⟩ u) → Vals (l.map sign) vs := by
    intro l
    induction l with
    | nil =>
      intro vs hl _
      cases vs with
      | nil => exact .nil
      | cons _ _ => simp at hl
    | cons c l ih =>
      intro vs hl hv
      cases vs with
      | nil => simp at hl
      | cons v vs =>
        obtain ⟨u, rfl⟩ := hv 0 c v rfl rfl
        exact .cons ⟨u, rfl⟩ (ih vs (by simpa using hl) fun i c v a b => hv (i + 1) c v (by simpa using a) (by simpa using b))
  refine key _ _ (by simp [h1]) fun i c v a b => ?_
  obtain ⟨c', u, e1, e2⟩ := h2 i v (by simpa using b)
  have : c' = c := by
    have a' : z.cps[i]? = some c := by simpa using a
    rw [e1] at a'
    exact Option.some.inj a'
  exact ⟨u, this ▸ e2⟩
theorem call_list_txt (hc : X.calm = true) : CallR X (.type "list") (fun xs H Q => ∃ z, xs = [.str z] ∧ z.length ≤ sizeLine ∧
    ∀ l, H l = none → Q (.ref l) (upd H l (.lst (z.cps.toList.map sign)))) := by
  intro pins s σ H xs us Q I r h
  obtain ⟨z, rfl, hz, q⟩ := h
  obtain ⟨u, rfl, t, rfl⟩ := vals1 r
  refine call_list_str (I.ok.hd hc) z t ?_ hz
  intro h' tk acc n kp hS hacc
  refine ⟨.ref s.heap.objs.size, _, I.laid (t' := tk) (o := .lst (z.cps.toList.map sign)) kp (Nat.le_refl _) ?_, rfl, q _ (I.hok.fresh (Nat.le_refl _))⟩
  refine ⟨by rw [List.length_map, Array.length_toList]; exact hz, acc.toList, n, vals_signs hacc, ?_⟩
  rw [hS]
def repS (z : Str) (n : Nat) : Str := ⟨(List.replicate n z.cps).foldl (· ++ ·) #[]⟩
theorem foldl_app (l : List (Array Nat)) : ∀ a : Array Nat, (l.foldl (· ++ ·) a).toList = a.toList ++ (l.map Array.toList).flatten := by
  induction l with
  | nil => intro a; simp
  | cons b l ih => intro a; rw [List.foldl_cons, ih]; simp
theorem repS_list (z : Str) (n : Nat) : (repS z n).cps.toList = (List.replicate n z.cps.toList).flatten := by
  unfold repS
  rw [foldl_app]
  simp
theorem repS_len (z : Str) (n : Nat) : (repS z n).length = n * z.length := by
  rw [str_len, repS_list, str_len]
  induction n with
  | zero => simp
  | succ n ih => rw [List.replicate_succ, List.flatten_cons, List.length_append, ih, Nat.succ_mul, Nat.add_comm]
theorem repS_mem {z : Str} {n c : Nat} (h : c ∈ (repS z n).cps.toList) : c ∈ z.cps.toList := by
  rw [repS_list] at h
  obtain ⟨l, hl, hc⟩ := List.mem_flatten.mp h
  rw [List.eq_of_mem_replicate hl] at hc
  exact hc
theorem op_mul_str : OpR X (binaryOp .Mult) (fun x y H Q => ∃ z n, x = .str z ∧ y = .int n ∧ 2 ≤ n ∧ n ≤ 10000 ∧ 0 < z.length ∧ z.length ≤ 1000 ∧ Q (.str (repS z n.toNat)) H) := by
  intro pins s σ H x y v u Q I rx ry h
  obtain ⟨z, n, rfl, rfl, n0, n1, z0, z1, q⟩ := h
  obtain ⟨t, rfl⟩ := rx
  obtain ⟨t', rfl⟩ := ry
  have b1 : (n == 1 || z.length == 0) = false := by
    have e1 : (n == 1) = false := by simp; omega
    have e2 : (z.length == 0) = false := by simp; omega
    rw [e1, e2]
    rfl
  have b2 : z.length * n.toNat ≤ 10000000 := by
    have : z.length * n.toNat ≤ 1000 * 10000 := Nat.mul_le_mul z1 (by omega)
    omega
  have sz : sizeLine = 16777216 := rfl
  refine P.mul_str ?_ ?_ ?_ ?_
  · rw [decide_eq_false (show ¬ n < -(2 ^ 63 : Int) by omega), decide_eq_false (show ¬ n ≥ 2 ^ 63 by omega)]
    rfl
  · intro _ _
    have e : (1000 : Int) ≤ (2 ^ 63 - 1) / n := by
      rw [Int.le_ediv_iff_mul_le (by omega)]
      omega
    omega
  · intro _ _
    show decide (z.length * n.toNat > sizeLine) = false
    exact decide_eq_false (by omega)
  · rw [if_neg (by omega), if_neg (by rw [b1]; decide)]
    refine ⟨?_, .str (repS z n.toNat), H, I.tok _, ⟨_, rfl⟩, q⟩
    show (repS z n.toNat).length ≤ sizeLine
    rw [repS_len, Nat.mul_comm]
    omega
def tRevS (te : TE) : TE := fun σ H Q => te σ H fun x H1 => ∃ z, x = .str z ∧ z.length ≤ sizeLine ∧
  Q (.str ⟨z.cps.toList.reverse.toArray⟩) H1
theorem pe_revS {e : Expr} {te : TE} {k : Nat} {p1 p2 p3 pos : Pos} (he : PE X e te) :
    PE X (.Subscript e (.Slice none none (some (.UnaryOp .USub (.Constant (.int 1) k p1) p2)) p3) pos) (tRevS te) := by
  constructor
  intro pins s σ H Q I h
  refine Subscript_ (thn (he.run pins s σ H _ I h) ?_)
  rintro v s1 ⟨x, H1, J, r, z, rfl, hz, q⟩
  obtain ⟨t, rfl⟩ := r
  have hst : PO X (some (.UnaryOp .USub (.Constant (.int 1) k p1) p2)) (tPart (tUn (rU fun i => .int (-i)) (tC (.int 1)))) :=
    po_some (pe_un un_neg pe_int)
  refine wpAny_Slice (thn (po_none.run pins s1 σ H1 (fun o H2 => o = none ∧ H2 = H1) J ⟨rfl, rfl⟩) ?_)
  rintro vl s2 ⟨l, H2, J2, pl, rfl, rfl⟩
  refine thn (po_none.run pins s2 σ _ (fun o H3 => o = none ∧ H3 = H2) J2 ⟨rfl, rfl⟩) ?_
  rintro vu s3 ⟨u, H3, J3, pu, rfl, rfl⟩
  refine thn (hst.run pins s3 σ _ (fun o H4 => o = some (-1) ∧ H4 = H3) J3 ⟨1, rfl, -1, rfl, rfl, rfl⟩) ?_
  rintro vs s4 ⟨o, H4, J4, ps, rfl, rfl⟩
  obtain ⟨l', rfl, el⟩ := IsPart.raw pl
  obtain ⟨u', rfl, eu⟩ := IsPart.raw pu
  obtain ⟨s', rfl, es⟩ := IsPart.raw ps
  have J5 : Inv X pins σ H4 { s4 with heap := s4.heap.push { cls := .type "slice", data := .fields #[partValue l', partValue u', partValue s'] } } :=
    J4.kept (t' := s4.toks) fun b ob q => Heap.get?_push_of_some _ q
  refine tail_any (ops := [.str z t, .ref s4.heap.objs.size]) (typeIs_str _ _ _) F.slot_str_getitem.lookup ?_ (by with_unfolding_all rfl)
  refine wpAny_getItem_str_slice (l := l') (u := u') (st := s') ⟨_, Heap.get?_push_size _ rfl, rfl, rfl⟩ (by rw [es]; rfl) ?_
  have e1 : slicePicked z l' u' s' = (List.range z.length).map fun k => z.length - 1 - k := by
    unfold slicePicked
    rw [el, eu, es]
    exact PySem.W.krv_sliceRange z.length
  unfold sliceMade
  rw [es, if_neg (by simp), e1]
  have e2 : (((List.range z.length).map fun k => z.length - 1 - k).filterMap (z.cps[·]?)) = z.cps.toList.reverse := by
    rw [PySem.W.krv_range, List.filterMap_reverse]
    have := PySem.W.krv_all z.cps
    rw [show z.length = z.cps.size from rfl, this]
  rw [e2]
  refine ⟨?_, .str _, H4, J5.tok _, ⟨_, rfl⟩, q⟩
  show (z.cps.toList.reverse.toArray).size ≤ sizeLine
  rw [List.size_toArray, List.length_reverse, Array.length_toList]
  exact hz
theorem mtPopAt : MtR X "list.pop" rPopAt := mt_popAt
theorem mtAppend : MtR X "list.append" rAppend := mt_append
theorem mtExtend : MtR X "list.extend" rExtend := mt_extend
theorem mtReverse : MtR X "list.reverse" rReverse := mt_reverse
theorem mtClear : MtR X "list.clear" rClear := mt_clear
end
end FL
namespace FL
open PySem PySem.Spec PyProof.Rows L2
/-! ### signs -/
def poolCodes : List Nat := "-.0123456789=>abcdefghijklmnopqrstuvwxyz|".toList.map (·.toNat)
structure Abc (z : Str) : Prop where
  lo : 2 ≤ z.length
  hi : z.length ≤ 4
  up : z.cps.toList.Pairwise (· < ·)
  inn : ∀ c ∈ z.cps.toList, c ∈ poolCodes
theorem perm_erase {α : Type} : ∀ (xs : List α) (i : Nat) (h : i < xs.length), (xs[i] :: xs.eraseIdx i).Perm xs
  | [], _, h => absurd h (by simp)
  | x :: xs, 0, _ => List.Perm.refl _
  | x :: xs, i + 1, h => by
    have ih := perm_erase xs i (by simpa using h)
    have hi : i < xs.length := by simpa using h
    show (xs[i] :: x :: xs.eraseIdx i).Perm (x :: xs)
    exact (List.Perm.swap _ _ _).trans (ih.cons x)
theorem erase_map {α β : Type} (f : α → β) : ∀ (xs : List α) (i : Nat), (xs.map f).eraseIdx i = (xs.eraseIdx i).map f
  | [], _ => rfl
  | _ :: _, 0 => rfl
  | x :: xs, i + 1 => by
    show f x :: (xs.map f).eraseIdx i = f x :: (xs.eraseIdx i).map f
    rw [erase_map f xs i]
def one (c : Nat) : Str := ⟨#[c]⟩
theorem one_inj {a b : Nat} (h : one a = one b) : a = b := by
  have := congrArg (fun s : Str => s.cps.toList) h
  simpa [one] using this
theorem map_one {ys : List Str} {cs : List Nat} (h : ys.Perm (cs.map one)) : ∃ ds : List Nat, ys = ds.map one ∧ ds.Perm cs := by
  have hall : ∀ y ∈ ys, ∃ c, y = one c := fun y hy => by
    obtain ⟨c, _, e⟩ := List.mem_map.mp (h.mem_iff.mp hy)
    exact ⟨c, e.symm⟩
  have hd : ∃ ds : List Nat, ys = ds.map one := by
    clear h
    induction ys with
    | nil => exact ⟨[], rfl⟩
    | cons y ys ih =>
      obtain ⟨c, rfl⟩ := hall y List.mem_cons_self
      obtain ⟨ds, rfl⟩ := ih fun y hy => hall y (List.mem_cons_of_mem _ hy)
      exact ⟨c :: ds, rfl⟩
  obtain ⟨ds, rfl⟩ := hd
  refine ⟨ds, rfl, ?_⟩
  have key : ∀ l : List Nat, (l.map one).map (fun s : Str => s.cps.toList.headD 0) = l := fun l => by
    rw [List.map_map]
    conv => rhs; rw [← List.map_id l]
    apply List.map_congr_left
    intro c _
    rfl
  have := h.map (fun s : Str => s.cps.toList.headD 0)
  rwa [key, key] at this
theorem lt_one (a b : Nat) : ltCps [a] [b] = decide (a < b) := by
  unfold ltCps
  by_cases h : a < b
  · simp [h, ltCps]
  · simp [h, ltCps]
theorem rising_one : ∀ (ds : List Nat) (a : Nat), risingS (one a) (ds.map one) = true → (∀ b ∈ ds, a ≤ b) ∧ ds.Pairwise (· ≤ ·)
  | [], _, _ => ⟨(fun _ h => nomatch h), .nil⟩
  | b :: r, a, h => by
    have h' : (!ltCps [b] [a] && risingS (one b) (r.map one)) = true := h
    rw [Bool.and_eq_true] at h'
    obtain ⟨h1, h2⟩ := h'
    have hab : a ≤ b := by
      rw [lt_one] at h1
      simpa using h1
    obtain ⟨i1, i2⟩ := rising_one r b h2
    refine ⟨fun c hc => ?_, .cons i1 i2⟩
    rcases List.mem_cons.mp hc with rfl | hc
    · exact hab
    · exact Nat.le_trans hab (i1 c hc)
theorem sorted_one : ∀ (ds : List Nat), sortedS (ds.map one) = true → ds.Pairwise (· ≤ ·)
  | [], _ => .nil
  | a :: r, h => let ⟨i1, i2⟩ := rising_one r a h; .cons i1 i2
theorem strict {ds : List Nat} (h : ds.Pairwise (· ≤ ·)) (n : ds.Nodup) : ds.Pairwise (· < ·) := by
  induction ds with
  | nil => exact .nil
  | cons a r ih =>
    cases h with
    | cons h1 h2 =>
      obtain ⟨n1, n2⟩ := List.nodup_cons.mp n
      refine .cons (fun b hb => ?_) (ih h2 n2)
      have := h1 b hb
      have : a ≠ b := fun e => n1 (e ▸ hb)
      omega
theorem pool_nodup : poolCodes.Nodup := by decide +kernel
def spAbc : Sp := fun vs H Q _ => ∃ (p : Addr), vs = [.ref p, .int 4] ∧ PotAt H p ∧
  ∀ (z : Str) (H' : Hp), Abc z → PotAt H' p → But p H H' → Q (.str z) H'
end FL
namespace FL
open PySem PySem.Spec PyProof.Rows L2
/-! ### rules -/
structure Rule where
  fr : Bool
  old : Str
  new : Str
def kd : Bool → Str
  | true => Str.ofString "front"
  | false => Str.ofString "whole"
def ruleV (r : Rule) : List V := [.str (kd r.fr), .str r.old, .str r.new]
def RuleAt (H : Hp) (v : V) (r : Rule) : Prop := ∃ t, v = .ref t ∧ H t = some (.tup (ruleV r))
abbrev RulesAt (H : Hp) : List V → List Rule → Prop := Paired (RuleAt H)
structure RuleOk (z : Str) (b : Nat) (r : Rule) : Prop where
  o1 : Over z r.old
  o2 : r.old.length ≤ b
  n1 : Over z r.new
  n2 : r.new.length ≤ b
theorem RuleOk.mono {z : Str} {b c : Nat} {r : Rule} (h : RuleOk z b r) (l : b ≤ c) : RuleOk z c r := ⟨h.o1, Nat.le_trans h.o2 l, h.n1, Nat.le_trans h.n2 l⟩
theorem RulesAt.imp {H H' : Hp} : ∀ {xs : List V} {rs : List Rule}, RulesAt H xs rs → (∀ t a, H t = some (.tup a) → H' t = some (.tup a)) → RulesAt H' xs rs
  | _, _, .nil, _ => .nil
  | _, _, .cons ⟨t, e, h⟩ r, k => .cons ⟨t, e, k _ _ h⟩ (RulesAt.imp r k)
theorem But.tups {p : Addr} {H H' : Hp} (b : But p H H') (hp : PotAt H p) : ∀ t a, H t = some (.tup a) → H' t = some (.tup a) := fun t a e =>
  b t _ e fun q => by
    obtain ⟨_, _, z, _⟩ := hp
    rw [q, z] at e
    cases e
theorem over_app {z a b : Str} (h1 : Over z a) (h2 : Over z b) : Over z (a ++ b) := fun c hc => by
  rw [Str.cps_append, Array.toList_append] at hc
  exact (List.mem_append.mp hc).elim (h1 c) (h2 c)
theorem over_cut {z y : Str} (h : Over z y) (lo hi : Option Int) : Over z (cutS y lo hi) := fun c hc => by
  apply h c
  have h' : c ∈ ((y.cps.toList.drop (HT.sIx y.length 0 lo)).take (HT.sIx y.length y.length hi - HT.sIx y.length 0 lo)) := by
    simpa [cutS] using hc
  exact List.mem_of_mem_drop (List.mem_of_mem_take h')
theorem over_rev {z y : Str} (h : Over z y) : Over z ⟨y.cps.toList.reverse.toArray⟩ := fun c hc => h c (by simpa using hc)
theorem over_one {z : Str} {c : Nat} (h : c ∈ z.cps.toList) : Over z ⟨#[c]⟩ := fun d hd => by
  have : d = c := by simpa using hd
  rw [this]
  exact h
theorem len_app (a b : Str) : (a ++ b).length = a.length + b.length := Str.length_append a b
theorem len_rev (y : Str) : (⟨y.cps.toList.reverse.toArray⟩ : Str).length = y.length := by
  show (y.cps.toList.reverse.toArray).size = y.cps.size
  simp
theorem len_one (c : Nat) : (⟨#[c]⟩ : Str).length = 1 := rfl
def spDeals : Sp := fun vs H Q _ => ∃ (p : Addr) (z : Str) (lot most : Int), vs = [.ref p, .str z, .int lot, .int most] ∧ PotAt H p ∧ 0 < z.length ∧ z.length ≤ 1000 ∧
  0 ≤ lot ∧ lot ≤ 100 ∧ 0 ≤ most ∧ most ≤ 20 ∧
  ∀ (D : Addr) (xs : List V) (rs : List Rule) (H' : Hp), H D = none → H' D = some (.lst xs) → RulesAt H' xs rs → (rs.length : Int) ≤ lot →
    (∀ r ∈ rs, RuleOk z (most.toNat + 2) r) → PotAt H' p → But p H H' → Q (.ref D) H'
theorem paired_snoc {α β : Type} {R : α → β → Prop} : ∀ {xs : List α} {ys : List β} {x : α} {y : β}, Paired R xs ys → R x y → Paired R (xs ++ [x]) (ys ++ [y])
  | _, _, _, _, .nil, h => .cons h .nil
  | _, _, _, _, .cons a b, h => .cons a (paired_snoc b h)
theorem paired_len {α β : Type} {R : α → β → Prop} {xs : List α} {ys : List β} (h : Paired R xs ys) : xs.length = ys.length := Paired.length h
end FL
namespace FL
open PySem PySem.Spec PyProof.Rows L2
/-! ### turning -/
def fits (r : Rule) (y : Str) : Bool :=
  match r.fr with
  | true => decide (cutS y none (some (r.old.length : Int)) = r.old)
  | false => decide (y = r.old)
def turnR (r : Rule) (y : Str) : Str :=
  match r.fr with
  | true => r.new ++ cutS y (some (r.old.length : Int)) none
  | false => r.new
def turn : List Rule → Str → Str
  | [], y => y
  | r :: rs, y => if fits r y = true then turnR r y else turn rs y
def spTurn (K : PySem.W.Frag) : Sp := fun vs H Q _ => ∃ (D : Addr) (y : Str) (xs : List V) (rs : List Rule), vs = [.ref D, .str y] ∧ SqL K H D xs ∧ RulesAt H xs rs ∧
  y.length ≤ 100000 ∧ (∀ r ∈ rs, r.old.length ≤ 1000 ∧ r.new.length ≤ 1000) ∧ Q (.str (turn rs y)) H
theorem kd_ne : kd true ≠ kd false := by decide +kernel
theorem strV_ne {a b : Str} (h : a ≠ b) : ¬ (V.str a = V.str b) := fun e => h (V.str.inj e)
end FL
namespace FL
open PySem PySem.Spec PyProof.Rows L2
structure NoteOk (z : Str) (b : Nat) (y : Str) : Prop where
  ov : Over z y
  le : y.length ≤ b
def spNotes : Sp := fun vs H Q _ => ∃ (z : Str) (m : Int), vs = [.str z, .int m] ∧ 0 < z.length ∧ z.length ≤ 4 ∧ 0 ≤ m ∧ m ≤ 4 ∧
  ∀ (D : Addr) (ys : List Str) (H' : Hp), H D = none → H' D = some (.lst (ys.map V.str)) → (∀ y ∈ ys, NoteOk z m.toNat y) → ys.length ≤ 2000 → Same H H' → Q (.ref D) H'
theorem _root_.L2.Same.upd {H H1 : Hp} {q : Addr} {o : HO} (s : Same H H1) (n : H q = none) : Same H (upd H1 q o) := fun c u e => by
  rw [upd_ne (ne_of_none e n)]
  exact s c u e
theorem _root_.L2.Same.none {H H1 : Hp} {q : Addr} (s : Same H H1) (n : H1 q = Option.none) : H q = Option.none := s.free n
theorem pow_bound {n i : Nat} (h1 : n ≤ 4) (h2 : i ≤ 4) (h0 : 0 < n) : n ^ i ≤ 256 :=
  Nat.le_trans (Nat.pow_le_pow_left h1 i) (Nat.le_trans (Nat.pow_le_pow_right (by decide) h2) (by decide))
end FL
namespace FL
open PySem PySem.Spec PyProof.Rows L2
/-! ### data that can be shown and compared, of at most n signs -/
structure Sm (n : Nat) (d : PyData) : Prop where
  sh : d.showable = true
  nd : d.hasDict = false
  cl : d.canLay0 = true
  dp : d.depth ≤ 12
  len : d.shown.length ≤ n
structure SmL (k n : Nat) (ds : List PyData) : Prop where
  sh : PyData.showableAll ds = true
  nd : PyData.hasDictAll ds = false
  cl : PyData.canLayAll0 ds = true
  dp : PyData.depthAll ds ≤ k
  len : piled (PyData.shownAll ds) ≤ n
theorem Sm.shaped {n : Nat} {d : PyData} (h : Sm n d) : SeqAt.shaped d = true := by
  unfold SeqAt.shaped
  rw [h.cl, decide_eq_true (Nat.le_trans h.dp (by decide))]
  rfl
theorem Sm.nice {n : Nat} {d : PyData} (h : Sm n d) (hn : n ≤ sizeLine) : NiceD d := ⟨h.sh, Nat.le_trans h.dp (by decide), Nat.le_trans h.len hn⟩
theorem Sm.mono {n m : Nat} {d : PyData} (h : Sm n d) (l : n ≤ m) : Sm m d := ⟨h.sh, h.nd, h.cl, h.dp, Nat.le_trans h.len l⟩
theorem SmL.nil {k : Nat} : SmL k 0 [] := ⟨rfl, rfl, rfl, Nat.zero_le _, Nat.le_refl _⟩
theorem SmL.cons {k m n : Nat} {d : PyData} {ds : List PyData} (h : Sm m d) (hd : d.depth ≤ k) (r : SmL k n ds) : SmL k (m + 2 + n) (d :: ds) := by
  refine ⟨?_, ?_, ?_, ?_, ?_⟩
  · show (d.showable && PyData.showableAll ds) = true
    rw [h.sh, r.sh]
    rfl
  · show (d.hasDict || PyData.hasDictAll ds) = false
    rw [h.nd, r.nd]
    rfl
  · show (d.canLay0 && PyData.canLayAll0 ds) = true
    rw [h.cl, r.cl]
    rfl
  · show max d.depth (PyData.depthAll ds) ≤ k
    have := r.dp
    omega
  · show piled (d.shown :: PyData.shownAll ds) ≤ _
    rw [piled_cons]
    have := r.len
    have := h.len
    omega
theorem textFrom_le : ∀ (ts : List Str) (k : Nat) (acc : Str), (textFrom k acc ts).length ≤ acc.length + piled ts
  | [], k, acc => Nat.le_add_right _ _
  | t :: r, k, acc => by
    have h := textFrom_le r (k + 1) (acc ++ (if k > 0 then ", " else "" : String) ++ t)
    have e : (acc ++ (if k > 0 then ", " else "" : String) ++ t).length ≤ acc.length + 2 + t.length := by
      rw [strLen_append, strLen_append]
      have : ((if k > 0 then ", " else "" : String) : Str).length ≤ 2 := by split <;> decide +kernel
      omega
    show (textFrom (k + 1) _ r).length ≤ _
    rw [piled_cons]
    omega
theorem Sm.list {k n : Nat} {ds : List PyData} (h : SmL k n ds) (hk : k < 12) : Sm (n + 2) (.list ds) := by
  refine ⟨h.sh, h.nd, h.cl, ?_, ?_⟩
  · show PyData.depthAll ds + 1 ≤ 12
    have := h.dp
    omega
  · show (listText (PyData.shownAll ds)).length ≤ _
    unfold listText
    rw [strLen_append]
    have h1 := textFrom_le (PyData.shownAll ds) 0 "["
    have h2 : (("[" : String) : Str).length = 1 := rfl
    have h3 : (("]" : String) : Str).length = 1 := rfl
    have := h.len
    omega
theorem tupleText_le (ts : List Str) : (tupleText ts).length ≤ piled ts + 3 := by
  have e3 : (((if ts.length == 1 then ",)" else ")" : String) : Str)).length ≤ 2 := by split <;> decide +kernel
  have e1 : ((("(" : String) : Str)).length = 1 := rfl
  unfold tupleText
  rw [strLen_append, strLen_append, e1]
  by_cases h : ts = []
  · subst h
    have : (Str.join ", " ([] : List Str)).length = 0 := rfl
    omega
  · have := join_length_add ts h
    omega
theorem Sm.tuple {k n : Nat} {ds : List PyData} (h : SmL k n ds) (hk : k < 12) : Sm (n + 3) (.tuple ds) := by
  refine ⟨h.sh, h.nd, h.cl, ?_, ?_⟩
  · show PyData.depthAll ds + 1 ≤ 12
    have := h.dp
    omega
  · show (tupleText (PyData.shownAll ds)).length ≤ _
    have := tupleText_le (PyData.shownAll ds)
    have := h.len
    omega
/-- plain signs -/
def Plain (y : Str) : Prop := ∀ c ∈ y.cps.toList, c < 128
theorem pool_plain : ∀ c ∈ poolCodes, c < 128 := by decide +kernel
theorem Abc.plain {z y : Str} (h : Abc z) (o : Over z y) : Plain y := fun c hc => pool_plain c (h.inn c (o c hc))
theorem Sm.str {y : Str} (h : Plain y) : Sm (10 * y.length + 2) (.str y) := by
  refine ⟨rfl, rfl, ?_, Nat.zero_le _, StrLaws.reprText_len y fun c hc => Nat.lt_trans (h c hc) (by decide)⟩
  show y.cps.all (· < 0x110000) = true
  rw [Array.all_eq_true]
  intro i hi
  refine decide_eq_true (Nat.lt_trans (h y.cps[i] ?_) (by decide))
  exact Array.getElem_mem_toList hi
theorem Sm.bool (b : Bool) : Sm 5 (.bool b) := ⟨rfl, rfl, rfl, Nat.zero_le _, by cases b <;> decide +kernel⟩
def ruleD (r : Rule) : PyData := .tuple [.str (kd r.fr), .str r.old, .str r.new]
theorem kd_plain (b : Bool) : Plain (kd b) := by
  have h : ∀ c ∈ (kd b).cps.toList, c < 128 := by cases b <;> decide +kernel
  exact h
theorem kd_len (b : Bool) : (kd b).length = 5 := by cases b <;> decide +kernel
theorem Sm.rule {b : Nat} {r : Rule} (h1 : Plain r.old) (h2 : Plain r.new) (l1 : r.old.length ≤ b) (l2 : r.new.length ≤ b) : Sm (20 * b + 75) (ruleD r) := by
  have a0 := Sm.str (kd_plain r.fr)
  rw [kd_len] at a0
  have := Sm.tuple (k := 1) (SmL.cons a0 (Nat.zero_le _) (SmL.cons ((Sm.str h1).mono (show _ ≤ 10 * b + 2 by omega)) (Nat.zero_le _) (SmL.cons ((Sm.str h2).mono (show _ ≤ 10 * b + 2 by omega)) (Nat.zero_le _) SmL.nil))) (by decide)
  exact this.mono (by omega)
theorem rule_depth (r : Rule) : (ruleD r).depth = 1 := rfl
theorem SmL.rules {b : Nat} : ∀ {rs : List Rule}, (∀ r ∈ rs, Plain r.old ∧ Plain r.new ∧ r.old.length ≤ b ∧ r.new.length ≤ b) → SmL 1 ((20 * b + 77) * rs.length) (rs.map ruleD)
  | [], _ => SmL.nil
  | r :: rs, h => by
    obtain ⟨h1, h2, h3, h4⟩ := h r List.mem_cons_self
    have ih := SmL.rules (rs := rs) fun r hr => h r (List.mem_cons_of_mem _ hr)
    have := SmL.cons (Sm.rule h1 h2 h3 h4) (Nat.le_of_eq (rule_depth r)) ih
    refine ⟨this.sh, this.nd, this.cl, this.dp, Nat.le_trans this.len ?_⟩
    rw [List.length_cons, Nat.mul_add, Nat.mul_one]
    omega
theorem Sm.rules {b : Nat} {rs : List Rule} (h : ∀ r ∈ rs, Plain r.old ∧ Plain r.new ∧ r.old.length ≤ b ∧ r.new.length ≤ b) : Sm ((20 * b + 77) * rs.length + 2) (.list (rs.map ruleD)) :=
  Sm.list (SmL.rules h) (by decide)
theorem dp_rule {K : PySem.W.Frag} {H : Hp} {v : V} {r : Rule} (h : RuleAt H v r) : Dp K H v (ruleD r) := by
  obtain ⟨t, rfl, e⟩ := h
  exact .tup (SqT.of e) (.cons (.str _) (.cons (.str _) (.cons (.str _) .nil)))
theorem dp_rules {K : PySem.W.Frag} {H : Hp} : ∀ {xs : List V} {rs : List Rule}, RulesAt H xs rs → DpAll K H xs (rs.map ruleD)
  | _, _, .nil => .nil
  | _, _, .cons a b => .cons (dp_rule a) (dp_rules b)
theorem dp_list {K : PySem.W.Frag} {H : Hp} {D : Addr} {xs : List V} {rs : List Rule} (h : SqL K H D xs) (r : RulesAt H xs rs) : Dp K H (.ref D) (.list (rs.map ruleD)) := .lst h (dp_rules r)
theorem eqv_rule (a b : Rule) : PyData.eqv (ruleD a) (ruleD b) = true ↔ a = b := by
  obtain ⟨f, o, n⟩ := a
  obtain ⟨f', o', n'⟩ := b
  show ((kd f == kd f') && ((o == o') && ((n == n') && true))) = true ↔ _
  rw [Bool.and_eq_true, Bool.and_eq_true, Bool.and_eq_true]
  constructor
  · rintro ⟨h1, h2, h3, _⟩
    have e1 : kd f = kd f' := eq_of_beq h1
    have e2 : f = f' := by
      cases f <;> cases f' <;> first | rfl | exact absurd e1 kd_ne | exact absurd e1.symm kd_ne
    rw [e2, eq_of_beq h2, eq_of_beq h3]
  · intro h
    cases h
    simp
theorem eqv_rules : ∀ (a b : List Rule), PyData.eqvAll (a.map ruleD) (b.map ruleD) = true ↔ a = b
  | [], [] => by simp [PyData.eqvAll]
  | [], _ :: _ => by simp [PyData.eqvAll]
  | _ :: _, [] => by simp [PyData.eqvAll]
  | x :: a, y :: b => by
    show (PyData.eqv (ruleD x) (ruleD y) && PyData.eqvAll (a.map ruleD) (b.map ruleD)) = true ↔ _
    rw [Bool.and_eq_true, eqv_rule, eqv_rules a b]
    simp
end FL
namespace FL
open PySem PySem.Spec PyProof.Rows L2
def spHid (K : PySem.W.Frag) : Sp := fun vs H Q _ => ∃ (p : Addr) (z : Str) (D0 : Addr) (xs : List V) (rs : List Rule) (b : Nat), vs = [.ref p, .str z, .ref D0] ∧ PotAt H p ∧ Abc z ∧
  SqL K H D0 xs ∧ RulesAt H xs rs ∧ rs.length ≤ 50 ∧ b ≤ 20 ∧ 2 ≤ b ∧ (∀ r ∈ rs, RuleOk z b r) ∧
  ∀ (D : Addr) (ys : List V) (ts : List Rule) (H' : Hp), H D = none → H' D = some (.lst ys) → RulesAt H' ys ts → ts.length ≤ rs.length + 2 →
    (∀ r ∈ ts, RuleOk z (b + 2) r) → PotAt H' p → But p H H' → Q (.ref D) H'
theorem paired_mem {α β : Type} {R : α → β → Prop} : ∀ {xs : List α} {ys : List β} {x : α}, Paired R xs ys → x ∈ xs → ∃ y, y ∈ ys ∧ R x y
  | _, _, _, .nil, h => nomatch h
  | _, _, x, .cons a r, h => by
    rcases List.mem_cons.mp h with rfl | h
    · exact ⟨_, List.mem_cons_self, a⟩
    · obtain ⟨y, h1, h2⟩ := paired_mem r h
      exact ⟨y, List.mem_cons_of_mem _ h1, h2⟩
theorem ok_plain {z : Str} {b : Nat} {rs : List Rule} (h : Abc z) (ok : ∀ r ∈ rs, RuleOk z b r) : ∀ r ∈ rs, Plain r.old ∧ Plain r.new ∧ r.old.length ≤ b ∧ r.new.length ≤ b :=
  fun r hr => ⟨h.plain (ok r hr).o1, h.plain (ok r hr).n1, (ok r hr).o2, (ok r hr).n2⟩
end FL
namespace FL
open PySem PySem.Spec PyProof.Rows L2
theorem walk_zipS {x y : Str} : Walk (ItS x y) (min x.cps.size y.cps.size) (fun _ => True)
    (fun i H v H' => ∃ T a b, v = .ref T ∧ H T = none ∧ H' = upd H T (.tup [.str ⟨#[a]⟩, .str ⟨#[b]⟩]) ∧ x.cps[i]? = some a ∧ y.cps[i]? = some b) :=
  ⟨fun _ _ h _ => h, fun _ _ => rfl, fun _ _ _ _ _ _ h => h⟩
def signChars : Str := Str.ofString "abcdefghijklmnopqrstuvwxyz0123456789.-=>|"
def rise (l : List Nat) : List Bool := List.zipWith (fun a b => decide ([a] < [b])) l l.tail
def signsB : V → Bool
  | .str z => decide (2 ≤ z.length) && (decide (z.length ≤ 4) && ((rise z.cps.toList).all id && lineB signChars (.str z)))
  | _ => false
def spSigns : Sp := fun vs H Q _ => ∃ (v : V) (n : String), vs = [v] ∧ Any H v n ∧ Short v ∧ ∀ H', Same H H' → Q (.bl (signsB v)) H'
theorem cut_tail (z : Str) : (cutS z (some 1) none).cps.toList = z.cps.toList.tail := by
  show ((z.cps.toList.drop (HT.sIx z.length 0 (some ((1 : Nat) : Int)))).take (HT.sIx z.length z.length none - HT.sIx z.length 0 (some ((1 : Nat) : Int)))).toArray.toList = _
  rw [HT.sIx_nat, HT.sIx_none]
  show (List.drop (min 1 z.length) z.cps.toList).take (z.length - min 1 z.length) = _
  have hl := str_len z
  cases h : z.cps.toList with
  | nil => simp
  | cons a l =>
    rw [h] at hl
    have : z.length = l.length + 1 := by simpa using hl
    have m : min 1 z.length = 1 := by omega
    rw [m, List.drop_succ_cons, List.drop_zero, List.tail_cons, List.take_of_length_le (by omega)]
theorem rise_get {l : List Nat} {i a b : Nat} (h1 : l[i]? = some a) (h2 : l.tail[i]? = some b) : (rise l)[i]? = some (decide ([a] < [b])) := by
  unfold rise
  rw [List.getElem?_zipWith, h1, h2]
theorem take_snoc {α : Type} {l : List α} {i : Nat} {x : α} (h : l[i]? = some x) : l.take (i + 1) = l.take i ++ [x] := by
  obtain ⟨hi, e⟩ := List.getElem?_eq_some_iff.mp h
  rw [List.take_succ_eq_append_getElem hi, e]
end FL
namespace FL
open PySem PySem.Spec PyProof.Rows L2
theorem takeWhile_len {α : Type} {p : α → Bool} : ∀ {l : List α}, (∀ a ∈ l, p a = true) → (l.takeWhile p).length = l.length
  | [], _ => rfl
  | a :: l, h => by
    rw [List.takeWhile_cons, if_pos (h a List.mem_cons_self), List.length_cons, List.length_cons, takeWhile_len fun b hb => h b (List.mem_cons_of_mem _ hb)]
theorem over_line {z y : Str} (h : Over z y) : lineB z (.str y) = true := by
  show decide (Txt.stripChars y z = Str.ofString "") = true
  apply decide_eq_true
  unfold Txt.stripChars
  rw [stripBy_eq]
  have e1 : stripLo z.cps.contains true y = y.cps.size := by
    unfold stripLo
    rw [if_pos rfl, takeWhile_len, Array.length_toList]
    intro c hc
    have := h c hc
    rw [Array.contains_iff_mem]
    exact Array.mem_def.mpr this
  rw [e1]
  apply Str_ext
  show (y.cps.extract y.cps.size _).toList = (Str.ofString "").cps.toList
  rw [show (Str.ofString "").cps.toList = [] by decide +kernel]
  have : (y.cps.extract y.cps.size (stripHi z.cps.contains true y y.cps.size)).size = 0 := by
    rw [Array.size_extract]
    omega
  exact List.length_eq_zero_iff.mp (by rw [Array.length_toList]; exact this)
theorem pool_line : ∀ c ∈ poolCodes, c ∈ signChars.cps.toList := by decide +kernel
theorem rise_all : ∀ {l : List Nat}, l.Pairwise (· < ·) → (rise l).all id = true
  | [], _ => rfl
  | [a], _ => rfl
  | a :: b :: r, h => by
    cases h with
    | cons h1 h2 =>
      have ih := rise_all h2
      show (decide ([a] < [b]) && (rise (b :: r)).all id) = true
      rw [ih, decide_eq_true]
      · rfl
      · exact List.Lex.rel (h1 b List.mem_cons_self)
theorem abc_signs {z : Str} (h : Abc z) : signsB (.str z) = true := by
  show (decide (2 ≤ z.length) && (decide (z.length ≤ 4) && ((rise z.cps.toList).all id && lineB signChars (.str z)))) = true
  rw [decide_eq_true h.lo, decide_eq_true h.hi, rise_all h.up, over_line fun c hc => pool_line c (h.inn c hc)]
  rfl
/-! checks that raise nothing -/
def spCheckSigns : Sp := fun vs H Q _ => ∃ z : Str, vs = [.str z] ∧ Abc z ∧ ∀ H', Same H H' → Q .non H'
def spCheckLine : Sp := fun vs H Q _ => ∃ (z y : Str), vs = [.str z, .str y] ∧ Over z y ∧ y.length ≤ sizeLine ∧ Q .non H
end FL
namespace FL
open PySem PySem.Spec PyProof.Rows L2
def spIsList : Sp := fun vs H Q _ => ∃ (v : V) (n : String), vs = [v] ∧ Any H v n ∧ ∀ H', Same H H' → Q (.bl (n == "list" || n == "tuple")) H'
def spRuleLine : Sp := fun vs H Q _ => ∃ (z y : Str), vs = [.str z, .str y] ∧ Over z y ∧ y.length ≤ 40 ∧ Q (.bl true) H
def spIsRule : Sp := fun vs H Q _ => ∃ (z : Str) (v : V) (r : Rule), vs = [.str z, v] ∧ RuleAt H v r ∧ RuleOk z 40 r ∧ ∀ H', Same H H' → Q (.bl true) H'
theorem kitL_all : (kinds.all fun n => decide (kitB n "list" = some (n == "list")) && decide (kitB n "tuple" = some (n == "tuple"))) = true := by decide +kernel
theorem kit_lt {K : PySem.W.Frag} {n : String} (h : n ∈ kinds) : PySem.W.kitAny K (.type n) [.type "list", .type "tuple"] = some (n == "list" || n == "tuple") := by
  have h' := List.all_eq_true.mp kitL_all n h
  rw [Bool.and_eq_true] at h'
  have h1 : kitB n "list" = some (n == "list") := of_decide_eq_true h'.1
  have h2 : kitB n "tuple" = some (n == "tuple") := of_decide_eq_true h'.2
  refine kitAny_cons (kit_ty h1) (fun e => ?_) (fun e => by rw [e]; rfl)
  refine kitAny_cons (kit_ty h2) (fun e2 => ?_) (fun e2 => by rw [e2, Bool.or_true])
  rw [e, e2]
  exact kitAny_nil
end FL
namespace PySem
open Builtin
theorem fl_enum_new {v : Value} {o : Obj} {G : Heap → Prop} (B : Begins v o G) :
    Meets (Builtin.«enumerate.__new__» ⟨[.type "enumerate", v], []⟩) (fun _ R s => G s.heap ∧
      R (.ok (.ret (.ref (s.heap.push o).objs.size)))
        { s with heap := (s.heap.push o).push { cls := .type "enumerate", data := .fields #[.none, .bool false, .ref s.heap.objs.size, rawInt 0, .none, .none] } }) := by
  refine .of_wp ?_
  rintro prog w A R ⟨hp, g, d, tk, os⟩ ⟨h1, h⟩
  have known := sub_enumerate
  have it0 : ∀ {A' : Around} {E : Value → Shared → Prop} {Q : Value → Shared → Prop}, Q (.ref hp.objs.size) ⟨hp.push o, g, d, tk, os⟩ →
      wpAny (model prog w) A' (pyIter v) Q E ⟨hp, g, d, tk, os⟩ := fun q => B.iter prog w _ _ ⟨hp, g, d, tk, os⟩ _ h1 q
  wp_walk using it0
  refine wpAny_stack_any fun st => wpAny_pure ?_
  split
  · rename_i c _ _ _ _ _
    cases (c == Value.type "enumerate") <;>
      (wp_walk using it0
       exact ⟨_, rfl, h⟩)
  · wp_walk using it0
    exact ⟨_, rfl, h⟩
theorem fl_enum {prog : Program} {w : World} {A : Around} {E : Value → Shared → Prop} {s : Shared} {v : Value} {o : Obj} {G : Heap → Prop} {Q : Value → Shared → Prop} (B : Begins v o G) (h1 : G s.heap)
    (h : ∀ h', IsEnum h' (s.heap.objs.size + 1) s.heap.objs.size 0 .none → h'.get? s.heap.objs.size = some o →
      (∀ b u, s.heap.get? b = some u → h'.get? b = some u) → Q (.ref (s.heap.objs.size + 1)) { s with heap := h' }) :
    wpAny (model prog w) A (call (.type "enumerate") [v]) Q E s := by
  refine callType_new F.called_enumerate (by decide) (F.typeCall_enumerate_1 _) (F.newCall_enumerate_1 _) (fun obj => F.args_object_init_2 obj _) F.entry_enumerate_new
    (fl_enum_new B) ⟨h1, ?_⟩
  have hz : (s.heap.push o).objs.size = s.heap.objs.size + 1 := Heap.size_push ..
  have he : IsEnum ((s.heap.push o).push { cls := .type "enumerate", data := .fields #[.none, .bool false, .ref s.heap.objs.size, rawInt 0, .none, .none] }) (s.heap.objs.size + 1) s.heap.objs.size 0 .none := by
    have q := Heap.get?_push_size (s.heap.push o) (o := { cls := .type "enumerate", data := .fields #[.none, .bool false, .ref s.heap.objs.size, rawInt 0, .none, .none] }) rfl
    rw [hz] at q
    exact q
  show _ ∧ _
  rw [hz]
  exact ⟨⟨_, he, rfl⟩, h _ he (Heap.get?_push_of_some _ (Heap.get?_push_size _ B.free)) fun b u e => Heap.get?_push_of_some _ (Heap.get?_push_of_some _ e)⟩
end PySem
namespace FL
open PySem PySem.Spec PyProof.Rows L2
/-! ### enumerate of a tuple -/
def IteT (K : PySem.W.Frag) (a : Addr) (xs : List V) : It :=
  ⟨fun i H => SqT K H a xs ∧ i < xs.length,
   fun i H v H' => ∃ T x, v = .ref T ∧ H T = none ∧ H' = upd H T (.tup [.int (i : Nat), x]) ∧ xs[i]? = some x,
   fun i H => SqT K H a xs ∧ i = xs.length⟩
theorem sqT_inj {X : Cx} {pins : List (Addr × Obj)} {σ : L2.St} {H : Hp} {s : Shared} (I : L2.Inv X pins σ H s) {a : Addr} {xs : List V} (h : SqT X.K H a xs) :
    ∃ its : List Value, Vals xs its ∧ s.heap.IsTuple a its.toArray := by
  obtain ⟨its, r, e, _⟩ := I.tuple h
  exact ⟨its, r, e⟩
theorem turn_enumT {P : Program} {w : World} {K : PySem.W.Frag} {elts : List Expr} {kk : Nat} {tpos : Pos} (a e it : Addr) (xs : List V) :
    Turn P w K (.Tuple elts kk tpos) (IteT K a xs) [e, it] e (fun i h => (∃ old, IsEnum h e it ((i : Nat) : Int) old) ∧ h.IsTupleIter it a i ∧ e ≠ it ∧ a ≠ it ∧ a ≠ e) where
  mem := by simp
  obj := by
    rintro i h ⟨⟨old, he⟩, ⟨o, ho, hd⟩, _⟩ b hb
    have e' : b = e ∨ b = it := by simpa using hb
    rcases e' with rfl | rfl
    · exact ⟨_, he, fun v q => nomatch q⟩
    · exact ⟨_, ho, fun v q => by simp_all⟩
  keep := by
    rintro i h h' ⟨⟨old, he⟩, hi, n1, n2⟩ k
    exact ⟨⟨old, k e (by simp) _ he⟩, hi.at fun o q => k it (by simp) o q, n1, n2⟩
  item := by
    intro X hP hw hK hc i pins s σ H E I hf st hg
    subst hP hw hK
    obtain ⟨⟨old, he⟩, hit, hne, hna, hnb⟩ := st
    obtain ⟨hq, hlt⟩ := hg
    obtain ⟨its, rv, p⟩ := sqT_inj I hq
    have hl := rv.length
    have hh : X.A.in1.handled = none := I.ok.hd hc
    have el := Heap.lt_size he
    have il : it < s.heap.objs.size := by
      obtain ⟨_, q, _⟩ := hit
      exact Heap.lt_size q
    refine wpAny_pyNext_enum_itemD (Draws.tuple hh it a hna its.toArray) he ⟨hit, p⟩ (by simp; omega) hne (by simp [hne, Ne.symm hnb]) ?_
    rintro u h' tk hu ho ⟨hit', _⟩ hT sz kp
    have hx : xs[i]? = some xs[i] := List.getElem?_eq_getElem hlt
    obtain ⟨u', hu', ru⟩ := rv.get hx
    have : u' = u := by
      have hu2 : its[i]? = some u := by simpa using hu
      rw [hu2] at hu'
      exact (Option.some.inj hu').symm
    subst this
    refine ⟨_, rfl, wpAny_letOwnedTupleGo_enum (s := { s with heap := h', toks := tk + 1 }) ho fun h2 he2 sb => ?_⟩
    have T2 : h2.get? s.heap.objs.size = some { cls := .type "tuple", data := .seq #[.int i tk, u'] } := (sb.2 _ (Nat.ne_of_gt el)).trans hT
    have ok : ObjOk X.prog X.w (upd H s.heap.objs.size (.tup [.int (i : Nat), xs[i]])) h2 s.heap.objs.size (.tup [.int (i : Nat), xs[i]]) :=
      ⟨(by show 2 ≤ sizeLine; decide), [_, _], .cons ⟨tk, rfl⟩ (.cons ru .nil), ⟨_, T2, rfl, _, rfl⟩⟩
    have J := I.turnedNew (t' := tk + 1) (ch := [e, it]) (h' := h2) (fun b ob nb q => (sb.2 b fun z => nb (by simp [z])).trans
      (kp b ob (fun z => nb (by simp [z])) (fun z => nb (by simp [z])) q)) hf (Nat.le_refl _) ok
    refine ⟨.ref s.heap.objs.size, _, J, rfl, ⟨_, xs[i], rfl, I.hok.fresh (Nat.le_refl _), rfl, hx⟩, ⟨⟨u', ?_⟩, hit'.at fun o q => (sb.2 it (Ne.symm hne)).trans q, hne, hna, hnb⟩, fun b hb => ?_⟩
    · rw [show ((i + 1 : Nat) : Int) = (i : Int) + 1 by omega]
      exact he2
    · have lb : b < s.heap.objs.size := by
        have e' : b = e ∨ b = it := by simpa using hb
        rcases e' with rfl | rfl
        · exact el
        · exact il
      rw [upd_ne (Nat.ne_of_lt lb)]
      exact (hf b hb).1
  done := by
    intro X hP hw hK hc i pins s σ H E I hf st hg
    subst hP hw hK
    obtain ⟨⟨old, he⟩, hit, hne, hna, hnb⟩ := st
    obtain ⟨hq, rfl⟩ := hg
    obtain ⟨its, rv, p⟩ := sqT_inj I hq
    have hl := rv.length
    have hh : X.A.in1.handled = none := I.ok.hd hc
    have ez : its.toArray.size = xs.length := by simp [hl]
    obtain ⟨f0, f1, f2, f3, f4, f5⟩ := hf it (by simp)
    refine wpAny_pyNext_enum_endD (Draws.tuple hh it a hna its.toArray) he (by rw [ez]; exact ⟨hit, p⟩) fun h' eb => ?_
    exact ⟨rfl, I.turned (t' := s.toks) (fun b o nb q => eb b o nb q) f0 f1 f3 f4 f5⟩
  self := fun A i s Q E st h => let ⟨⟨_, he⟩, _⟩ := st; wpAny_pyIter_enum he h
def iEnumT (K : PySem.W.Frag) (ta : TA) : TI := fun σ H R => ta σ H fun vs H1 => ∃ a xs, vs = [.ref a] ∧ SqT K H1 a xs ∧ R (IteT K a xs) H1
theorem pi_enumT {X : Cx} {e : Expr} {ta : TA} {p pos tpos : Pos} {elts : List Expr} {kk : Nat} (hg : Gl X "enumerate") (hm : X.mg "enumerate" = none) (ha : PA X [e] ta)
    (hs : starEach [e] X.env = [(false, eval e X.env)] := by rfl) :
    PI X (.Tuple elts kk tpos) (.Call (.Name "enumerate" p) [e] [] pos) (iEnumT X.K ta) := by
  constructor
  intro pins s σ H R I h
  refine Call_ (ld_blt I hg hm boot_enumerate (PyProof.Rows.callWith_type1 (thn (ha.run pos pins s σ H _ I h) fun us s1 hu => ?_) hs rfl))
  obtain ⟨vs, H1, J, r, a, xs, rfl, hq, q⟩ := hu
  obtain ⟨u, rfl, ru⟩ := vals1 r
  cases ru
  obtain ⟨its, rv, pt⟩ := sqT_inj J hq
  refine fl_enum (begins_tuple a its.toArray) pt ?_
  intro h' he hit kp
  refine wpAny_pyIter_enum he ?_
  have J2 : Inv X pins σ H1 { s1 with heap := h' } := J.kept (t' := s1.toks) kp
  have la : a < s1.heap.objs.size := by
    obtain ⟨_, q, _⟩ := pt
    exact Heap.lt_size q
  refine ⟨_, _, _, IteT X.K a xs, H1, rfl, J2, turn_enumT a (s1.heap.objs.size + 1) s1.heap.objs.size xs,
    ⟨⟨.none, he⟩, ⟨_, hit, rfl, rfl⟩, Nat.succ_ne_self _, Nat.ne_of_lt la, Nat.ne_of_lt (Nat.lt_succ_of_lt la)⟩, fun b hb => ?_, q⟩
  have e' : b = s1.heap.objs.size + 1 ∨ b = s1.heap.objs.size := by simpa using hb
  have hle : s1.heap.objs.size ≤ b := by
    rcases e' with z | z <;> rw [z]
    · exact Nat.le_add_right _ _
    · exact Nat.le_refl _
  exact J.fpOk hle (J.hok.fresh hle)
/-- either, by one rule -/
def IteS (K : PySem.W.Frag) (a : Addr) (xs : List V) (t : Bool) : It := if t then IteT K a xs else Ite K a
def SqX (K : PySem.W.Frag) (H : Hp) (a : Addr) (xs : List V) (t : Bool) : Prop := if t = true then SqT K H a xs else SqL K H a xs
def iEnumX (K : PySem.W.Frag) (t : Bool) (ta : TA) : TI := fun σ H R => ta σ H fun vs H1 => ∃ a xs, vs = [.ref a] ∧ SqX K H1 a xs t ∧ R (IteS K a xs t) H1
theorem pi_enumX {X : Cx} {e : Expr} {ta : TA} {p pos tpos : Pos} {elts : List Expr} {kk : Nat} (t : Bool) (hg : Gl X "enumerate") (hm : X.mg "enumerate" = none) (ha : PA X [e] ta)
    (hs : starEach [e] X.env = [(false, eval e X.env)] := by rfl) :
    PI X (.Tuple elts kk tpos) (.Call (.Name "enumerate" p) [e] [] pos) (iEnumX X.K t ta) := by
  cases t with
  | true => exact pi_enumT hg hm ha hs
  | false => exact pi_enum hg hm ha hs
theorem SqX.kept {K : PySem.W.Frag} {H H' : Hp} {a : Addr} {xs : List V} {t : Bool} (h : SqX K H a xs t) (s : ∀ o, H a = some o → H' a = some o) : SqX K H' a xs t := by
  cases t with
  | true =>
    have h' : SqT K H a xs := h
    show SqT K H' a xs
    rcases h' with (h | ⟨o, h⟩) | h
    · exact .inl (.inl (s _ h))
    · exact .inl (.inr ⟨o, s _ h⟩)
    · exact .inr h
  | false =>
    have h' : SqL K H a xs := h
    show SqL K H' a xs
    rcases h' with (h | ⟨o, h⟩) | h
    · exact .inl (.inl (s _ h))
    · exact .inl (.inr ⟨o, s _ h⟩)
    · exact .inr h
theorem walk_enumT {K : PySem.W.Frag} {a : Addr} {xs : List V} : Walk (IteT K a xs) xs.length (fun H => SqT K H a xs) (YPair (fun i => some (.int (i : Nat))) (fun i => xs[i]?)) :=
  ⟨fun i H hi h => ⟨h, hi⟩, fun H h => ⟨h, rfl⟩, fun i H x H' hi h y => by
    obtain ⟨T, v, rfl, hT, rfl, e⟩ := y
    exact ⟨T, _, _, rfl, hT, rfl, rfl, e⟩⟩
theorem walk_enumX {K : PySem.W.Frag} {a : Addr} {xs : List V} {t : Bool} : Walk (IteS K a xs t) xs.length (fun H => SqX K H a xs t) (YPair (fun i => some (.int (i : Nat))) (fun i => xs[i]?)) := by
  cases t with
  | true => exact walk_enumT
  | false => exact walk_enum
/-- rules as they are passed: a list or a tuple, tracked -/
def RuArg (H : Hp) (v : V) (rs : List Rule) : Prop := ∃ (a : Addr) (xs : List V) (t : Bool), v = .ref a ∧ H a = some (if t then .tup xs else .lst xs) ∧ RulesAt H xs rs
theorem RuArg.any {H : Hp} {v : V} {rs : List Rule} (h : RuArg H v rs) : ∃ n, Any H v n ∧ (n == "list" || n == "tuple") = true := by
  obtain ⟨a, xs, t, rfl, e, _⟩ := h
  cases t with
  | true => exact ⟨"tuple", .tup e, rfl⟩
  | false => exact ⟨"list", .lst e, rfl⟩
theorem sqX_of {K : PySem.W.Frag} {H : Hp} {a : Addr} {xs : List V} {t : Bool} (e : H a = some (if t then .tup xs else .lst xs)) : SqX K H a xs t := by
  cases t with
  | true => exact SqT.of e
  | false => exact SqL.of e
theorem Same.rules {H H' : Hp} {xs : List V} {rs : List Rule} (s : Same H H') (h : RulesAt H xs rs) : RulesAt H' xs rs := RulesAt.imp h fun t a e => s t _ e
def spCheckRules : Sp := fun vs H Q _ => ∃ (z : Str) (v : V) (rs : List Rule), vs = [.str z, v] ∧ RuArg H v rs ∧ (∀ r ∈ rs, RuleOk z 40 r) ∧ ∀ H', Same H H' → Q .non H'
end FL
namespace FL
open PySem PySem.Spec PyProof.Rows L2
def ItX (K : PySem.W.Frag) (a : Addr) (t : Bool) : It := if t then Itt K a else Itl K a
def iSeqX (K : PySem.W.Frag) (t : Bool) (tl : TE) : TI := fun σ H R => tl σ H fun x H1 => ∃ a, x = .ref a ∧ (∃ xs, SqX K H1 a xs t) ∧ R (ItX K a t) H1
theorem pi_seqX {X : Cx} {tg l : Expr} {tl : TE} (t : Bool) (hl : PE X l tl) : PI X tg l (iSeqX X.K t tl) := by
  cases t with
  | true => exact pi_tup hl
  | false => exact pi_list hl
theorem walk_seqX {K : PySem.W.Frag} {a : Addr} {xs : List V} {t : Bool} : Walk (ItX K a t) xs.length (fun H => SqX K H a xs t) (YAt xs) := by
  cases t with
  | true => exact walk_tup
  | false => exact walk_list
theorem lenX {K : PySem.W.Frag} {H : Hp} {a : Addr} {xs : List V} {t : Bool} (h : SqX K H a xs t) : LenV K (.ref a) H xs.length := by
  cases t with
  | true => exact .inr ⟨_, h, rfl⟩
  | false => exact .inl ⟨_, h, rfl⟩
/-! ### a relay as it stands -/
def flds (z : Str) (ra ia : Addr) : List (Str × V) := putF "_index" (.ref ia) (putF "_rules" (.ref ra) (putF "_signs" (.str z) []))
theorem fn1 : ¬ ((Str.ofString "_rules") = Str.ofString "_index") := by decide +kernel
theorem fn2 : ¬ ((Str.ofString "_signs") = Str.ofString "_index") := by decide +kernel
theorem fn3 : ¬ ((Str.ofString "_signs") = Str.ofString "_rules") := by decide +kernel
theorem two_len (z : Str) (ra : Addr) : (putF "_rules" (.ref ra) (putF "_signs" (.str z) [])).length < 1000 := by
  show (if Str.ofString "_signs" = Str.ofString "_rules" then [(Str.ofString "_signs", V.ref ra)] else (Str.ofString "_signs", V.str z) :: putF (Str.ofString "_rules") (.ref ra) []).length < 1000
  rw [if_neg fn3]
  show 2 < 1000
  decide
theorem flds_signs (z : Str) (ra ia : Addr) : (flds z ra ia).lookup (Str.ofString "_signs") = some (.str z) := by
  unfold flds
  rw [lookup_putF, if_neg fn2, lookup_putF, if_neg fn3, lookup_putF, if_pos rfl]
theorem flds_rules (z : Str) (ra ia : Addr) : (flds z ra ia).lookup (Str.ofString "_rules") = some (.ref ra) := by
  unfold flds
  rw [lookup_putF, if_neg fn1, lookup_putF, if_pos rfl]
theorem flds_index (z : Str) (ra ia : Addr) : (flds z ra ia).lookup (Str.ofString "_index") = some (.ref ia) := by
  unfold flds
  rw [lookup_putF, if_pos rfl]
theorem flds_no (z : Str) (ra ia : Addr) {m : Str} (h1 : ¬ m = Str.ofString "_index") (h2 : ¬ m = Str.ofString "_rules") (h3 : ¬ m = Str.ofString "_signs") : (flds z ra ia).lookup m = none := by
  unfold flds
  rw [lookup_putF, if_neg h1, lookup_putF, if_neg h2, lookup_putF, if_neg h3]
  rfl
end FL
namespace FL
open PySem PySem.Spec PyProof.Rows L2
/-! ### the index of rules -/
def ky (fr : Bool) (old : Str) : List Key := [Sum.inr (kd fr), Sum.inr old]
theorem ky_inj {f f' : Bool} {o o' : Str} (h : ky f o = ky f' o') : f = f' ∧ o = o' := by
  unfold ky at h
  injection h with h1 h2
  injection h2 with h3 _
  have e1 : kd f = kd f' := Sum.inr.inj h1
  refine ⟨?_, Sum.inr.inj h3⟩
  cases f <;> cases f' <;> first | rfl | exact absurd e1 kd_ne | exact absurd e1.symm kd_ne
def Is (r : Rule) (fr : Bool) (old : Str) : Prop := r.fr = fr ∧ r.old = old
def IdxOk (H : Hp) (kvs : List (List Key × V)) (rs : List Rule) : Prop := (∀ kv ∈ kvs, ∃ (fr : Bool) (old : Str), kv.1 = ky fr old) ∧ ∀ (fr : Bool) (old : Str),
  (valV kvs (ky fr old) = none ∧ ∀ r ∈ rs, ¬ Is r fr old) ∨
  (∃ (i : Nat) (t : Addr) (new : Str), valV kvs (ky fr old) = some (.ref t) ∧ H t = some (.tup [.int (i : Nat), .str new]) ∧ rs[i]? = some ⟨fr, old, new⟩
    ∧ ∀ (j : Nat) (r : Rule), j < i → rs[j]? = some r → ¬ Is r fr old)
theorem IdxOk.imp {H H' : Hp} {kvs : List (List Key × V)} {rs : List Rule} (h : IdxOk H kvs rs) (s : ∀ t a, H t = some (.tup a) → H' t = some (.tup a)) : IdxOk H' kvs rs := ⟨h.1, fun fr old => by
  rcases h.2 fr old with h | ⟨i, t, new, h1, h2, h3⟩
  · exact .inl h
  · exact .inr ⟨i, t, new, h1, s _ _ h2, h3⟩⟩
theorem IdxOk.nil {H : Hp} : IdxOk H [] [] := ⟨fun _ h => (nomatch h), fun fr old => .inl ⟨rfl, fun _ h => nomatch h⟩⟩
theorem get_snoc_lt {α : Type} {l : List α} {x : α} {i : Nat} {y : α} (h : l[i]? = some y) : (l ++ [x])[i]? = some y := by
  rw [List.getElem?_append_left (List.getElem?_eq_some_iff.mp h).1]
  exact h
theorem IdxOk.skip {H : Hp} {kvs : List (List Key × V)} {rs : List Rule} {r : Rule} (h : IdxOk H kvs rs) (hv : valV kvs (ky r.fr r.old) ≠ none) : IdxOk H kvs (rs ++ [r]) := ⟨h.1, fun fr old => by
  rcases h.2 fr old with ⟨h1, h2⟩ | ⟨i, t, new, h1, h2, h3, h4⟩
  · refine .inl ⟨h1, fun r' hr' => ?_⟩
    rcases List.mem_append.mp hr' with q | q
    · exact h2 r' q
    · rw [List.mem_singleton.mp q]
      rintro ⟨rfl, rfl⟩
      exact hv h1
  · refine .inr ⟨i, t, new, h1, h2, get_snoc_lt h3, fun j r' hj hr' => ?_⟩
    have hi := (List.getElem?_eq_some_iff.mp h3).1
    rw [List.getElem?_append_left (by omega)] at hr'
    exact h4 j r' hj hr'⟩
theorem valV_put {kvs : List (List Key × V)} {k k' : List Key} {v : V} (h : valV kvs k = none) : valV (kvs ++ [(k, v)]) k' = if k = k' then some v else valV kvs k' := by
  induction kvs with
  | nil =>
    by_cases e : k = k'
    · rw [if_pos e]
      exact valV_pos e
    · rw [if_neg e]
      exact valV_neg e
  | cons p r ih =>
    have hp : ¬ p.1 = k := fun e => by
      rw [valV_pos e] at h
      cases h
    rw [valV_neg hp] at h
    show valV (p :: (r ++ [(k, v)])) k' = _
    by_cases e : p.1 = k'
    · rw [valV_pos e, valV_pos e, if_neg]
      intro q
      exact hp (e.trans q.symm)
    · rw [valV_neg e, valV_neg e, ih h]
theorem IdxOk.put {H H' : Hp} {kvs : List (List Key × V)} {rs : List Rule} {r : Rule} {t : Addr} (h : IdxOk H kvs rs) (hv : valV kvs (ky r.fr r.old) = none)
    (s : ∀ t a, H t = some (.tup a) → H' t = some (.tup a)) (ht : H' t = some (.tup [.int (rs.length : Nat), .str r.new])) : IdxOk H' (putK kvs (ky r.fr r.old) (.ref t)) (rs ++ [r]) := ⟨fun kv hkv => by
  rw [putK_new _ hv] at hkv
  rcases List.mem_append.mp hkv with q | q
  · exact h.1 kv q
  · rw [List.mem_singleton.mp q]
    exact ⟨_, _, rfl⟩, fun fr old => by
  rw [putK_new _ hv, valV_put hv]
  by_cases e : ky r.fr r.old = ky fr old
  · rw [if_pos e]
    obtain ⟨e1, e2⟩ := ky_inj e
    refine .inr ⟨rs.length, t, r.new, rfl, ht, ?_, fun j r' hj hr' => ?_⟩
    · rw [List.getElem?_append_right (Nat.le_refl _), Nat.sub_self]
      subst e1
      subst e2
      rfl
    · rw [List.getElem?_append_left hj] at hr'
      rcases h.2 fr old with ⟨_, h2⟩ | ⟨i, t', new, h1, _⟩
      · exact h2 r' (List.mem_of_getElem? hr')
      · rw [← e, hv] at h1
        cases h1
  · rw [if_neg e]
    have := (h.imp s).2 fr old
    rcases this with ⟨h1, h2⟩ | ⟨i, t', new, h1, h2, h3, h4⟩
    · refine .inl ⟨h1, fun r' hr' => ?_⟩
      rcases List.mem_append.mp hr' with q | q
      · exact h2 r' q
      · rw [List.mem_singleton.mp q]
        rintro ⟨rfl, rfl⟩
        exact e rfl
    · refine .inr ⟨i, t', new, h1, h2, get_snoc_lt h3, fun j r' hj hr' => ?_⟩
      have hi := (List.getElem?_eq_some_iff.mp h3).1
      rw [List.getElem?_append_left (by omega)] at hr'
      exact h4 j r' hj hr'⟩
theorem put_len {kvs : List (List Key × V)} {k : List Key} {v : V} (h : valV kvs k = none) : (putK kvs k v).length = kvs.length + 1 := by
  rw [putK_new _ h, List.length_append]
  rfl
def IdxAt (H : Hp) (d : Addr) (rs : List Rule) : Prop := ∃ kvs, H d = some (.dT kvs) ∧ kvs.length ≤ rs.length ∧ IdxOk H kvs rs
def spIndex : Sp := fun vs H Q _ => ∃ (v : V) (rs : List Rule), vs = [v] ∧ RuArg H v rs ∧ rs.length ≤ 10000 ∧
  ∀ (d : Addr) (H' : Hp), H d = none → IdxAt H' d rs → Same H H' → Q (.ref d) H'
end FL
namespace FL
open PySem PySem.Spec PyProof.Rows L2
/-! ### min of a list of pairs (int, text) -/
abbrev Pr := Int × Str
def pairD (q : Pr) : PyData := .tuple [.int q.1, .str q.2]
def PairAt (H : Hp) (v : V) (q : Pr) : Prop := ∃ t, v = .ref t ∧ H t = some (.tup [.int q.1, .str q.2])
theorem lt_pair {q r : Pr} (h : q.1 ≠ r.1) : PySem.W.dataLt (pairD q) (pairD r) = decide (q.1 < r.1) := by
  have e : PySem.W.dataLt (pairD q) (pairD r) = PySem.W.dataLt (.int q.1) (.int r.1) := by
    show PyProof.Rows.lexLt PyProof.Rows.itemOrd (Sum.inl q.1 :: [Sum.inr q.2.cps.toList]) (Sum.inl r.1 :: [Sum.inr r.2.cps.toList]) = PyProof.Rows.lexLt PyProof.Rows.itemOrd [Sum.inl q.1] [Sum.inl r.1]
    exact PySem.W.lex_atom (fun e => h (Sum.inl.inj e)) _ _
  rw [e, PySem.W.dataLt_int]
theorem minD_pair : ∀ (qs : List Pr) (q : Pr), ∃ r, r ∈ q :: qs ∧ PySem.W.minD (pairD q) (qs.map pairD) = pairD r ∧ ∀ p ∈ q :: qs, r.1 ≤ p.1
  | [], q => ⟨q, List.mem_cons_self, rfl, fun p hp => by rw [List.mem_singleton.mp hp]; exact Int.le_refl _⟩
  | p :: qs, q => by
    have step : PySem.W.minD (pairD q) ((p :: qs).map pairD) = PySem.W.minD (if PySem.W.dataLt (pairD p) (pairD q) then pairD p else pairD q) (qs.map pairD) := rfl
    rw [step]
    by_cases hb : PySem.W.dataLt (pairD p) (pairD q) = true
    · rw [if_pos hb]
      obtain ⟨r, hr, e, m⟩ := minD_pair qs p
      refine ⟨r, List.mem_cons_of_mem _ hr, e, fun x hx => ?_⟩
      rcases List.mem_cons.mp hx with rfl | hx
      · have hp := m p List.mem_cons_self
        by_cases hne : p.1 = x.1
        · omega
        · rw [lt_pair hne] at hb
          have := of_decide_eq_true hb
          omega
      · exact m x hx
    · rw [if_neg hb]
      obtain ⟨r, hr, e, m⟩ := minD_pair qs q
      refine ⟨r, ?_, e, fun x hx => ?_⟩
      · rcases List.mem_cons.mp hr with rfl | h
        · exact List.mem_cons_self
        · exact List.mem_cons_of_mem _ (List.mem_cons_of_mem _ h)
      · rcases List.mem_cons.mp hx with rfl | hx
        · exact m x List.mem_cons_self
        · rcases List.mem_cons.mp hx with rfl | hx
          · have hq := m q List.mem_cons_self
            by_cases hne : x.1 = q.1
            · omega
            · rw [lt_pair hne] at hb
              have : q.1 ≤ x.1 := by simpa using hb
              omega
          · exact m x (List.mem_cons_of_mem _ hx)
theorem dp_pairs {K : PySem.W.Frag} {H : Hp} : ∀ {xs : List V} {qs : List Pr}, Paired (PairAt H) xs qs → DpAll K H xs (qs.map pairD)
  | _, _, .nil => .nil
  | _, _, .cons ⟨t, e, h⟩ b => .cons (by rw [e]; exact .tup (SqT.of h) (.cons (.int _) (.cons (.str _) .nil))) (dp_pairs b)
theorem depth_pairs : ∀ qs : List Pr, PyData.depthAll (qs.map pairD) ≤ 1
  | [] => Nat.zero_le _
  | q :: qs => by
    show max (pairD q).depth (PyData.depthAll (qs.map pairD)) ≤ 1
    have := depth_pairs qs
    have e : (pairD q).depth = 1 := rfl
    omega
section
variable {X : Cx}
theorem call_minP (hc : X.calm = true) (hu : X.A.units + 64 < cLine) : CallR X (.builtin "min") (fun vs H Q => ∃ (a : Addr) (xs : List V) (qs : List Pr), vs = [.ref a] ∧ SqL X.K H a xs
    ∧ Paired (PairAt H) xs qs ∧ qs ≠ [] ∧ ∀ (v : V) (q : Pr), q ∈ qs → PairAt H v q → (∀ r ∈ qs, q.1 ≤ r.1) → Q v H) := by
  intro pins s σ H vs us Q I r h
  obtain ⟨a, xs, qs, rfl, hs, hp, ne, q⟩ := h
  obtain ⟨its, rv, hl, _⟩ := I.list hs
  rw [Vals.ref1 r]
  obtain ⟨as, rd⟩ := Dp.readsAll I (qs.map pairD) xs its (dp_pairs hp) rv
  cases qs with
  | nil => exact absurd rfl ne
  | cons p qs =>
    refine PySem.W.min_list_data (I.ok.hd hc) hl.isList (vs := its.toArray) (x := pairD p) (xs := qs.map pairD) (by simpa using rd) ?_ ?_ ?_
    · refine ⟨fun x hx y hy => ?_, fun x hx e => ?_⟩
      · have e1 : ∃ q, x = pairD q := by
          rcases List.mem_cons.mp hx with rfl | hx
          · exact ⟨p, rfl⟩
          · obtain ⟨q, _, e⟩ := List.mem_map.mp hx
            exact ⟨q, e.symm⟩
        have e2 : ∃ q, y = pairD q := by
          rcases List.mem_cons.mp hy with rfl | hy
          · exact ⟨p, rfl⟩
          · obtain ⟨q, _, e⟩ := List.mem_map.mp hy
            exact ⟨q, e.symm⟩
        obtain ⟨q1, rfl⟩ := e1
        obtain ⟨q2, rfl⟩ := e2
        rfl
      · subst e
        rcases List.mem_cons.mp hx with e | hx
        · cases e
        · obtain ⟨q, _, e⟩ := List.mem_map.mp hx
          cases e
    · have := depth_pairs (p :: qs)
      have e : PyData.depthAll (pairD p :: qs.map pairD) ≤ 1 := this
      omega
    · intro i v h' tk bs hv hrd kp
      obtain ⟨m, hm, em, hmin⟩ := minD_pair qs p
      rw [em] at hrd
      have hv' : its[i]? = some v := by simpa using hv
      have hi : i < its.length := (List.getElem?_eq_some_iff.mp hv').1
      have hxi : i < xs.length := by rw [rv.length]; exact hi
      obtain ⟨u, hu', ru⟩ := rv.get (List.getElem?_eq_getElem hxi)
      rw [hv'] at hu'
      obtain rfl : v = u := Option.some.inj hu'
      obtain ⟨qi, hqi, t, et, ht⟩ := L2.paired_get hp (List.getElem?_eq_getElem hxi)
      have I' : Inv X pins σ H { s with heap := h', toks := tk } := I.kept kp
      obtain ⟨as', rd2⟩ := Dp.reads I' (pairD qi) xs[i] v (by rw [et]; exact .tup (SqT.of ht) (.cons (.int _) (.cons (.str _) .nil))) ru
      have eq : pairD qi = pairD m := (Reads.unique rd2 _ _ hrd).1
      have e1 : qi = m := by
        have h1 : [PyData.int qi.1, PyData.str qi.2] = [PyData.int m.1, PyData.str m.2] := PyData.tuple.inj eq
        injection h1 with h2 h3
        injection h3 with h4 _
        exact Prod.ext (PyData.int.inj h2) (PyData.str.inj h4)
      subst e1
      exact ⟨xs[i], H, I', ru, q xs[i] qi hm ⟨t, et, ht⟩ hmin⟩
end
end FL
namespace FL
open PySem PySem.Spec PyProof.Rows L2
/-! ### the first rule that fits, by the index -/
theorem cut_pre_len (y : Str) (i : Nat) (h : i ≤ y.length) : (cutS y none (some (i : Int))).length = i := by
  rw [str_len]
  show ((y.cps.toList.drop (HT.sIx y.length 0 none)).take (HT.sIx y.length y.length (some (i : Int)) - HT.sIx y.length 0 none)).toArray.toList.length = i
  rw [HT.sIx_nat, HT.sIx_none]
  show ((y.cps.toList.drop 0).take (min i y.length - 0)).length = i
  rw [List.drop_zero, List.length_take, ← str_len]
  omega
theorem cut_le (y : Str) (i : Nat) : (cutS y none (some (i : Int))).length ≤ y.length := cutS_length y _ _
theorem turn_no : ∀ {rs : List Rule} {y : Str}, (∀ r ∈ rs, fits r y = false) → turn rs y = y
  | [], _, _ => rfl
  | r :: rs, y, h => by
    show (if fits r y = true then _ else turn rs y) = y
    rw [h r List.mem_cons_self, if_neg Bool.false_ne_true]
    exact turn_no fun r' hr' => h r' (List.mem_cons_of_mem _ hr')
theorem turn_at : ∀ {rs : List Rule} {y : Str} {i : Nat} {r : Rule}, rs[i]? = some r → fits r y = true → (∀ j r', j < i → rs[j]? = some r' → fits r' y = false) → turn rs y = turnR r y
  | [], _, _, _, h, _, _ => by simp at h
  | r0 :: rs, y, 0, r, h, hf, _ => by
    obtain rfl : r0 = r := by simpa using h
    show (if fits r0 y = true then _ else _) = _
    rw [if_pos hf]
  | r0 :: rs, y, i + 1, r, h, hf, hn => by
    show (if fits r0 y = true then _ else turn rs y) = _
    rw [hn 0 r0 (Nat.succ_pos _) rfl, if_neg Bool.false_ne_true]
    exact turn_at (i := i) (by simpa using h) hf fun j r' hj hr' => hn (j + 1) r' (by omega) (by simpa using hr')
def Ent (rs : List Rule) (y : Str) (q : Pr) : Prop := ∃ (i : Nat) (r : Rule), q.1 = (i : Int) ∧ rs[i]? = some r ∧ fits r y = true ∧ q.2 = turnR r y
/-- the rule at i is the first one with its key -/
def FirstKey (rs : List Rule) (i : Nat) (r : Rule) : Prop := rs[i]? = some r ∧ ∀ (j : Nat) (r' : Rule), j < i → rs[j]? = some r' → ¬ Is r' r.fr r.old
structure Found (rs : List Rule) (y : Str) (qs : List Pr) (n : Nat) : Prop where
  snd : ∀ q ∈ qs, Ent rs y q
  whl : ∀ i r, FirstKey rs i r → r.fr = false → r.old = y → ∃ q ∈ qs, q.1 = (i : Int)
  frt : ∀ i r, FirstKey rs i r → r.fr = true → fits r y = true → r.old.length < n → ∃ q ∈ qs, q.1 = (i : Int)
theorem fits_same {r r' : Rule} {y : Str} (h : Is r' r.fr r.old) : fits r' y = fits r y := by
  obtain ⟨f, o, n⟩ := r
  obtain ⟨f', o', n'⟩ := r'
  obtain ⟨h1, h2⟩ := h
  dsimp only at h1 h2
  subst h1
  subst h2
  rfl
theorem first_fit {rs : List Rule} {y : Str} {i : Nat} {r : Rule} (h : rs[i]? = some r) (hf : fits r y = true) (hn : ∀ j r', j < i → rs[j]? = some r' → fits r' y = false) : FirstKey rs i r :=
  ⟨h, fun j r' hj hr' his => by
    have := hn j r' hj hr'
    rw [fits_same his, hf] at this
    cases this⟩
theorem exists_first {rs : List Rule} {y : Str} : (∀ r ∈ rs, fits r y = false) ∨ ∃ (i : Nat) (r : Rule), rs[i]? = some r ∧ fits r y = true ∧ ∀ (j : Nat) (r' : Rule), j < i → rs[j]? = some r' → fits r' y = false := by
  induction rs with
  | nil => exact .inl fun _ h => nomatch h
  | cons r rs ih =>
    cases hf : fits r y with
    | true => exact .inr ⟨0, r, rfl, hf, fun j _ hj => absurd hj (Nat.not_lt_zero j)⟩
    | false =>
      rcases ih with h | ⟨i, r', h1, h2, h3⟩
      · refine .inl fun r' hr' => ?_
        rcases List.mem_cons.mp hr' with rfl | h'
        · exact hf
        · exact h r' h'
      · refine .inr ⟨i + 1, r', by simpa using h1, h2, fun j r2 hj hr2 => ?_⟩
        cases j with
        | zero =>
          obtain rfl : r = r2 := by simpa using hr2
          exact hf
        | succ j => exact h3 j r2 (by omega) (by simpa using hr2)
theorem fits_short {r : Rule} {y : Str} (hf : fits r y = true) (h : r.fr = true) : r.old.length ≤ y.length ∧ cutS y none (some (r.old.length : Int)) = r.old := by
  obtain ⟨f, o, n⟩ := r
  dsimp only at h
  subst h
  have e : cutS y none (some (o.length : Int)) = o := of_decide_eq_true hf
  refine ⟨?_, e⟩
  have := cut_le y o.length
  rw [e] at this
  exact this
theorem Found.turn {rs : List Rule} {y : Str} {qs : List Pr} {n : Nat} (h : Found rs y qs n) (hn : ∀ r ∈ rs, r.fr = true → fits r y = true → r.old.length < n) :
    (qs = [] → turn rs y = y) ∧ ∀ q ∈ qs, (∀ p ∈ qs, q.1 ≤ p.1) → turn rs y = q.2 := by
  have has : ∀ (i : Nat) (r : Rule), rs[i]? = some r → fits r y = true → (∀ (j : Nat) (r' : Rule), j < i → rs[j]? = some r' → fits r' y = false) → ∃ q ∈ qs, q.1 = (i : Int) := by
    intro i r h1 h2 h3
    have fk := first_fit h1 h2 h3
    cases hfr : r.fr with
    | true => exact h.frt i r fk hfr h2 (hn r (List.mem_of_getElem? h1) hfr h2)
    | false =>
      refine h.whl i r fk hfr ?_
      obtain ⟨f, o, nw⟩ := r
      dsimp only at hfr
      subst hfr
      have e : y = o := of_decide_eq_true h2
      exact e.symm
  rcases exists_first (rs := rs) (y := y) with hno | ⟨i, r, h1, h2, h3⟩
  · refine ⟨fun _ => turn_no hno, fun q hq _ => ?_⟩
    obtain ⟨j, r, _, e2, e3, _⟩ := h.snd q hq
    rw [hno r (List.mem_of_getElem? e2)] at e3
    cases e3
  · obtain ⟨q0, m0, e0⟩ := has i r h1 h2 h3
    refine ⟨fun e => ?_, fun q hq hmin => ?_⟩
    · rw [e] at m0
      cases m0
    · obtain ⟨j, r', e1, e2, e3, e4⟩ := h.snd q hq
      have hle := hmin q0 m0
      have hij : ¬ j < i := fun hj => by
        rw [h3 j r' hj e2] at e3
        cases e3
      have : j = i := by omega
      subst this
      rw [h1] at e2
      obtain rfl : r = r' := Option.some.inj e2
      rw [turn_at h1 h2 h3, e4]
theorem Found.start {rs : List Rule} {y : Str} {H : Hp} {kvs : List (List Key × V)} (ix : IdxOk H kvs rs) :
    (valV kvs (ky false y) = none ∧ Found rs y [] 0) ∨ (∃ (i : Nat) (t : Addr) (new : Str), valV kvs (ky false y) = some (.ref t) ∧ H t = some (.tup [.int (i : Nat), .str new]) ∧ Found rs y [((i : Int), new)] 0) := by
  rcases ix.2 false y with ⟨h1, h2⟩ | ⟨i, t, new, h1, h2, h3, h4⟩
  · refine .inl ⟨h1, (fun _ h => nomatch h), fun i r fk e1 e2 => ?_, fun _ _ _ _ _ h => absurd h (Nat.not_lt_zero _)⟩
    exact absurd ⟨e1, e2⟩ (h2 r (List.mem_of_getElem? fk.1))
  · refine .inr ⟨i, t, new, h1, h2, fun q hq => ?_, fun j r fk e1 e2 => ?_, fun _ _ _ _ _ h => absurd h (Nat.not_lt_zero _)⟩
    · rw [List.mem_singleton.mp hq]
      exact ⟨i, _, rfl, h3, decide_eq_true rfl, rfl⟩
    · refine ⟨_, List.mem_singleton.mpr rfl, ?_⟩
      have : ¬ j < i := fun hj => h4 j r hj fk.1 ⟨e1, e2⟩
      have : ¬ i < j := fun hj => fk.2 i _ hj h3 ⟨e1.symm, e2.symm⟩
      have : i = j := by omega
      rw [this]
theorem Found.next {rs : List Rule} {y : Str} {H : Hp} {kvs : List (List Key × V)} {qs : List Pr} {n : Nat} (ix : IdxOk H kvs rs) (h : Found rs y qs n) (hn : n ≤ y.length) :
    (valV kvs (ky true (cutS y none (some (n : Int)))) = none ∧ Found rs y qs (n + 1)) ∨ (∃ (i : Nat) (t : Addr) (new : Str), valV kvs (ky true (cutS y none (some (n : Int)))) = some (.ref t)
      ∧ H t = some (.tup [.int (i : Nat), .str new]) ∧ (∃ r ∈ rs, r.new = new) ∧ Found rs y (qs ++ [((i : Int), new ++ cutS y (some (n : Int)) none)]) (n + 1)) := by
  have hl := cut_pre_len y n hn
  have key : ∀ r : Rule, r.fr = true → fits r y = true → r.old.length < n + 1 → ¬ r.old.length < n → r.old = cutS y none (some (n : Int)) := fun r h1 h2 h3 h4 => by
    obtain ⟨_, e⟩ := fits_short h2 h1
    have : r.old.length = n := by omega
    rw [this] at e
    exact e.symm
  rcases ix.2 true (cutS y none (some (n : Int))) with ⟨h1, h2⟩ | ⟨i, t, new, h1, h2, h3, h4⟩
  · refine .inl ⟨h1, h.snd, h.whl, fun i r fk e1 e2 e3 => ?_⟩
    by_cases hlt : r.old.length < n
    · exact h.frt i r fk e1 e2 hlt
    · exact absurd ⟨e1, key r e1 e2 e3 hlt⟩ (h2 r (List.mem_of_getElem? fk.1))
  · refine .inr ⟨i, t, new, h1, h2, ⟨_, List.mem_of_getElem? h3, rfl⟩, fun q hq => ?_, fun j r fk e1 e2 => ?_, fun j r fk e1 e2 e3 => ?_⟩
    · rcases List.mem_append.mp hq with q' | q'
      · exact h.snd q q'
      · rw [List.mem_singleton.mp q']
        refine ⟨i, _, rfl, h3, ?_, ?_⟩
        · show decide (cutS y none (some ((cutS y none (some (n : Int))).length : Int)) = cutS y none (some (n : Int))) = true
          rw [hl]
          exact decide_eq_true rfl
        · show new ++ cutS y (some (n : Int)) none = new ++ cutS y (some ((cutS y none (some (n : Int))).length : Int)) none
          rw [hl]
    · obtain ⟨q, hq, e⟩ := h.whl j r fk e1 e2
      exact ⟨q, List.mem_append_left _ hq, e⟩
    · by_cases hlt : r.old.length < n
      · obtain ⟨q, hq, e⟩ := h.frt j r fk e1 e2 hlt
        exact ⟨q, List.mem_append_left _ hq, e⟩
      · have eo := key r e1 e2 e3 hlt
        refine ⟨_, List.mem_append_right _ (List.mem_singleton.mpr rfl), ?_⟩
        have : ¬ j < i := fun hj => h4 j r hj fk.1 ⟨e1, eo⟩
        have : ¬ i < j := fun hj => fk.2 i _ hj h3 ⟨e1.symm, eo.symm⟩
        have : i = j := by omega
        rw [this]
def spOnce : Sp := fun vs H Q _ => ∃ (d : Addr) (y : Str) (rs : List Rule), vs = [.ref d, .str y] ∧ IdxAt H d rs ∧ y.length ≤ 100000 ∧ (∀ r ∈ rs, r.old.length ≤ 40 ∧ r.new.length ≤ 1000) ∧
  ∀ H', Same H H' → Q (.str (FL.turn rs y)) H'
end FL
namespace FL
open PySem PySem.Spec PyProof.Rows L2
def RelayAt (C : Addr) (H : Hp) (p : Addr) (z : Str) (rs : List Rule) : Prop := ∃ (dx ra ia : Addr) (xs : List V), H p = some (.ins C dx (flds z ra ia)) ∧ H ra = some (.lst xs) ∧ RulesAt H xs rs ∧ IdxAt H ia rs
theorem RelayAt.same {C : Addr} {H H' : Hp} {p : Addr} {z : Str} {rs : List Rule} (h : RelayAt C H p z rs) (s : Same H H') : RelayAt C H' p z rs := by
  obtain ⟨dx, ra, ia, xs, h1, h2, h3, kvs, h4, h5, h6⟩ := h
  exact ⟨dx, ra, ia, xs, s _ _ h1, s _ _ h2, RulesAt.imp h3 fun t a e => s t _ e, kvs, s _ _ h4, h5, h6.imp fun t a e => s t _ e⟩
/-- its list of rules at ra -/
def RelayR (C : Addr) (H : Hp) (p : Addr) (z : Str) (rs : List Rule) (ra : Addr) : Prop := ∃ (dx ia : Addr) (xs : List V), H p = some (.ins C dx (flds z ra ia)) ∧ H ra = some (.lst xs) ∧ RulesAt H xs rs ∧ IdxAt H ia rs
theorem RelayR.at_ {C : Addr} {H : Hp} {p : Addr} {z : Str} {rs : List Rule} {ra : Addr} (h : RelayR C H p z rs ra) : RelayAt C H p z rs := by
  obtain ⟨dx, ia, xs, h1, h2, h3, h4⟩ := h
  exact ⟨dx, ra, ia, xs, h1, h2, h3, h4⟩
/-- another list is changed -/
theorem RelayR.updL {C : Addr} {H : Hp} {p L : Addr} {z : Str} {rs : List Rule} {ra : Addr} {vs ws : List V} (h : RelayR C H p z rs ra) (hL : H L = some (.lst vs)) (n : ra ≠ L) : RelayR C (upd H L (.lst ws)) p z rs ra := by
  obtain ⟨dx, ia, xs, h1, h2, h3, kvs, h4, h5, h6⟩ := h
  have tp : ∀ t b, H t = some (.tup b) → upd H L (.lst ws) t = some (.tup b) := fun t b e => by
    rw [upd_ne (ne_of e hL (by intro q; cases q))]
    exact e
  exact ⟨dx, ia, xs, by rw [upd_ne (ne_of h1 hL (by intro q; cases q))]; exact h1, by rw [upd_ne n]; exact h2, RulesAt.imp h3 tp, kvs, by rw [upd_ne (ne_of h4 hL (by intro q; cases q))]; exact h4, h5, h6.imp tp⟩
theorem RelayR.same {C : Addr} {H H' : Hp} {p : Addr} {z : Str} {rs : List Rule} {ra : Addr} (h : RelayR C H p z rs ra) (s : Same H H') : RelayR C H' p z rs ra := by
  obtain ⟨dx, ia, xs, h1, h2, h3, kvs, h4, h5, h6⟩ := h
  exact ⟨dx, ia, xs, s _ _ h1, s _ _ h2, RulesAt.imp h3 fun t a e => s t _ e, kvs, s _ _ h4, h5, h6.imp fun t a e => s t _ e⟩
/-- what is needed of the class Relay -/
structure RTxt (K : PySem.W.Frag) (mg : Str → Option Value) (C : Addr) : Prop where
  cl : Cls K C
  nS : NoAttr K C "_signs"
  nR : NoAttr K C "_rules"
  nI : NoAttr K C "_index"
  mgC : mg "Relay" = some (.ref C)
def spInit (C : Addr) : Sp := fun vs H Q _ => ∃ (p dx : Addr) (z : Str) (v : V) (rs : List Rule), vs = [.ref p, .str z, v] ∧ H p = some (.ins C dx []) ∧ Abc z ∧ RuArg H v rs ∧
  (∀ r ∈ rs, RuleOk z 40 r) ∧ rs.length ≤ 400 ∧ ∀ (H' : Hp) (ra : Addr), RelayR C H' p z rs ra → H ra = none → But p H H' → Q .non H'
end FL
namespace FL
open PySem PySem.Spec PyProof.Rows L2
/-! ### what the top left, told of defs at any address -/
def seenFn (K : PySem.W.Frag) (a : Addr) : He.FnV :=
  (K.lookup a).bind fun o => match o.data with
    | .func d => some (d.name, d.qualname, d.params, d.body, d.scope, d.globals, d.closure, d.defaults, d.builtins)
    | _ => none
def seenCode (K : PySem.W.Frag) (a : Addr) (q : Str) : Bool :=
  match K.lookup a with
  | some o => (match o.data with
    | .func d => PySem.W.codeIn K d.code q && PySem.W.keepIn K (.ref a)
    | _ => false)
  | none => false
/-- a def: where it is found, its names, its statement -/
structure DA where
  ad : PySem.W.Frag → Addr
  nm : Str
  qn : Str
  st : Stmt
def DA.due (d : DA) : He.FnV := some (d.nm, d.qn, defArgs d.st, .stmts (defBody d.st), defScope d.st, mainGlobals, [], .none, builtinsNs)
theorem DA.fn {K : PySem.W.Frag} {d : DA} (e : seenFn K (d.ad K) = d.due) (c : seenCode K (d.ad K) d.qn = true) : ∃ fd, Fun K d.nm d.qn d.st (d.ad K) fd := by
  unfold seenFn DA.due at e
  unfold seenCode at c
  cases q : K.lookup (d.ad K) with
  | none =>
    rw [q] at e
    cases e
  | some o =>
    obtain ⟨oc, od, dt, sl⟩ := o
    rw [q] at e c
    cases dt with
    | func z =>
      obtain ⟨z1, z2, z3, z4, z5, z6, z7, z8, z9, z10, z11, z12, z13, z14, z15⟩ := z
      simp only [Option.bind_some, Option.some.injEq, Prod.mk.injEq] at e
      obtain ⟨rfl, rfl, rfl, rfl, rfl, rfl, rfl, rfl, rfl⟩ := e
      obtain ⟨c1, c2⟩ := Bool.and_eq_true_iff.mp c
      exact ⟨_, fun_mk q c1 c2⟩
    | _ => cases e
def lookF (ds : List DA) (ex : PySem.W.Frag → Bool) (K : PySem.W.Frag) : Bool × List He.FnV :=
  (ex K && ds.all fun d => seenCode K (d.ad K) d.qn, ds.map fun d => seenFn K (d.ad K))
def dueF (ds : List DA) : Bool × List He.FnV := (true, ds.map DA.due)
def hookF (n : Nat) (ds : List DA) (ex : PySem.W.Frag → Bool) : PySem.W.Hook where
  α := Bool × List He.FnV
  obs := fun s => lookF ds ex (He.frG s.heap.get? (He.asD s.heap.get? n))
  val := fun _ => dueF ds
  says := fun _ h => ∃ K : PySem.W.Frag, K.In h ∧ lookF ds ex K = dueF ds
  of := fun _ _ e => ⟨_, He.frG_in, e⟩
  keeps := fun _ _ _ ⟨K, i, c⟩ k => ⟨K, PySem.W.Frag.In.keeps i k, c⟩
def obF (n : Nat) (ds : List DA) (ex : PySem.W.Frag → Bool) (g : Addr → Option Obj) : Bool × List He.FnV := lookF ds ex (He.frG g (He.asD g n))
theorem obF_eq {n : Nat} {ds : List DA} {ex : PySem.W.Frag → Bool} (s : PySem.W.SharedT) : obF n ds ex (HandSHeadRun.getT s) = (hookF n ds ex).obs s.abs := by
  have e : HandSHeadRun.getT s = s.abs.heap.get? := funext fun a => HandSHeadRun.getT_eq s a
  rw [e]
  rfl
theorem look_ex {ds : List DA} {ex : PySem.W.Frag → Bool} {K : PySem.W.Frag} (c : lookF ds ex K = dueF ds) : ex K = true :=
  (Bool.and_eq_true_iff.mp (congrArg Prod.fst c)).1
theorem look_fn {ds : List DA} {ex : PySem.W.Frag → Bool} {K : PySem.W.Frag} (c : lookF ds ex K = dueF ds) (i : Nat) {d : DA} (h : ds[i]? = some d) : ∃ fd, Fun K d.nm d.qn d.st (d.ad K) fd := by
  have c1 := (Bool.and_eq_true_iff.mp (congrArg Prod.fst c)).2
  have c2 : ds.map (fun d => seenFn K (d.ad K)) = ds.map DA.due := congrArg Prod.snd c
  have c3 : (ds.map fun d => seenFn K (d.ad K))[i]? = (ds.map DA.due)[i]? := by rw [c2]
  rw [List.getElem?_map, List.getElem?_map, h] at c3
  exact DA.fn (Option.some.inj c3) (List.all_eq_true.mp c1 d (List.mem_of_getElem? h))
end FL
namespace FL
open PySem PySem.Spec PyProof.Rows L2
/-! ### the end of a law whose promise wants that no repr is under way -/
/-- the script alone, locked, unless the module holds it -/
def onlyH (K : PySem.W.Frag) (a : Addr) (o : Obj) (ns : List Int) : Hp := fun b => if b = a ∧ K.lookup a = none then some (.frz o (.lst (ns.map V.int))) else none
theorem only_at {K : PySem.W.Frag} {a b : Addr} {o : Obj} {ns : List Int} {u : HO} (h : onlyH K a o ns b = some u) : b = a ∧ K.lookup a = none ∧ u = .frz o (.lst (ns.map V.int)) := by
  unfold onlyH at h
  by_cases c : b = a ∧ K.lookup a = none
  · rw [if_pos c] at h
    exact ⟨c.1, c.2, (Option.some.inj h).symm⟩
  · rw [if_neg c] at h
    cases h
theorem endG {P : Program} {w : World} {K : PySem.W.Frag} {mg mb : Str → Option Value} {k : Nat} {fa a : Addr} {fd : FuncData} {x : Str} {sp : Sp} {s : Shared} {vs : List Value} {ns : List Int}
    (kx : K.In s.heap) (gl : s.heap.Ns mainGlobals mg) (bl : s.heap.Ns builtinsNs mb) (bb : ∀ y : Str, y ≠ "__name__" → mb y = bootBuiltins y) (nl : s.heap.NoLimit) (ng : s.gens = #[])
    (oa : s.heap.get? a = some { cls := .type "list", data := .seq vs.toArray }) (hi : IntsAre vs ns) (le : ns.length ≤ sizeLine) (rm : Room k callerA)
    (F : ∀ base : Heap, K.In base → base.Ns mainGlobals mg → FnG P w K mg base CX0 k fa fd [x] sp) (bd : ∀ (s : Shared) (u : Value), BindsTo s fd ⟨[u], []⟩ [(x, u)])
    (pr : ∀ H : Hp, SqL K H a (ns.map V.int) → sp [.ref a] H (fun v _ => v = .bl true) fun _ _ _ => False) :
    codeAny (model P w) callerA (.call (.ref fa) ⟨[.ref a], []⟩) (fun r t => r = .ok (.ret (.bool true)) ∧ OldK s.heap t.heap ∧ t.os = s.os ∧ AllBare t.gens) s := by
  have rv := vals_ints hi
  have lv := hi.length
  let o : Obj := { cls := .type "list", data := .seq vs.toArray }
  let H : Hp := onlyH K a o ns
  have sq : SqL K H a (ns.map V.int) := by
    cases q : K.lookup a with
    | none => exact .inl (.inr ⟨o, if_pos ⟨rfl, q⟩⟩)
    | some o' =>
      have e := kx a o' q
      rw [oa] at e
      cases e
      exact .inr ⟨_, vs.toArray, _, q, rfl, rfl, rfl, by rw [List.size_toArray, lv]; exact le, by simpa using rv⟩
  have ok : HOk P w H s.heap := fun b u e => by
    obtain ⟨rfl, _, rfl⟩ := only_at e
    exact ⟨oa, by rw [List.length_map]; exact le, vs, _, rv, oa⟩
  have stay : ∀ {b : Addr} {m : Str → Option Value}, s.heap.Ns b m → (hidT s.heap H).Ns b m := fun {b m} n => by
    obtain ⟨ob, es, ep, e, d, r⟩ := n
    refine ⟨ob, es, ep, hidT_get e ?_, d, r⟩
    cases q : H b with
    | none => rfl
    | some u =>
      obtain ⟨rfl, _, _⟩ := only_at q
      rw [oa] at e
      cases e
      cases d
  have kb : K.In (hidT s.heap H) := fun b ob e => by
    refine hidT_get (kx b ob e) ?_
    cases q : H b with
    | none => rfl
    | some u =>
      obtain ⟨rfl, n, _⟩ := only_at q
      rw [n] at e
      cases e
  have md : Mod K mg (hidT s.heap H) := ⟨kb, stay gl, ⟨mb, stay bl, bb⟩, by
    obtain ⟨mc, n1, n2⟩ := nl
    exact ⟨mc, stay n1, n2⟩⟩
  have env : Env0 P w K mg (hidT s.heap H) callerA [] s H :=
    ⟨rfl, md, fun b ob e => of_hidT e, Nat.le_of_eq (hidT_size _ _), trivial, fun b q => absurd (show b ∈ ([] : List Addr) from q) (by simp), ok, .of_eq ng⟩
  have run := (F _ kb (stay gl)).goes callerA [] s H ⟨[.ref a], []⟩ [.ref a] [.ref a] _ _ rm rfl env (bd s (.ref a)) (.cons rfl .nil) (pr H sq)
  refine codeAny_mono run fun r t z => ?_
  cases r with
  | error e => exact False.elim z
  | ok fl =>
    cases fl with
    | next => exact False.elim z
    | brk => exact False.elim z
    | cont => exact False.elim z
    | ret u =>
      obtain ⟨v, H', so, br, un, ok', rr, q⟩ := z
      obtain rfl : v = .bl true := q
      obtain rfl : u = Value.bool true := rr
      refine ⟨rfl, OldK.of_keep fun b ob e => ?_, so, br⟩
      cases q : H b with
      | none => exact un.keep b ob e q (by intro n; exact absurd (show b ∈ ([] : List Addr) from n) (by simp)) (by simp)
      | some u =>
        obtain ⟨rfl, n, rfl⟩ := only_at q
        obtain ⟨e2, _⟩ := ok' b _ (un.frzs b o _ q)
        rw [oa] at e
        cases e
        exact e2
theorem walkG {l : PySem.W.OpenLaw} {n k : Nat} {q : Program} {loose : List Str} {XP : (Str → Option Value) → Heap → Prop} {YP : World → Heap → Prop} {d : DefRec} {x : Str} (hn : l.most = some n) (hs : n ≤ sizeLine) (hd : d.params.defaults = []) (rm : Room k callerA)
    (F : ∀ (w : World) (mg : Str → Option Value) (fa : Addr) (h : Heap), YP w h → h.Ns mainGlobals mg → mg d.name = some (.ref fa) → ∃ (K : PySem.W.Frag) (fd : FuncData) (sp : Sp), K.In h ∧ (∀ (s : Shared) (u : Value), BindsTo s fd ⟨[u], []⟩ [(x, u)])
      ∧ (∀ (H : Hp) (a : Addr) (ns : List Int), ns.length ≤ n → SqL K H a (ns.map V.int) → sp [.ref a] H (fun v _ => v = .bl true) fun _ _ _ => False)
      ∧ ∀ base : Heap, K.In base → base.Ns mainGlobals mg → FnG l.prog w K mg base CX0 k fa fd [x] sp) :
    PySem.W.WalkO q loose XP YP l.row.toRowW d [] (fun f vs => PySem.call f vs) := by
  refine Att.attach_call hn hd ?_
  intro w s₀ s₁ mg mb fa o pm cd doc a vs ns G Y ho hd' hcd hmg hobj hints hlen hg
  obtain ⟨K, fd, sp, kx, bd, pr, FF⟩ := F w mg fa _ Y G.T.g hmg
  exact endG kx G.T.g G.T.b G.T.builtins G.T.nolimit hg hobj hints (Nat.le_trans hlen hs) rm FF bd fun H sq => pr H a ns hlen sq
end FL
/-! errors with one field, raised and caught -/
namespace FL
open PySem PySem.Spec PyProof.Rows L2
/-- what the written part says of an error's class at C, of its __init__ at fI -/
structure ErC (K : PySem.W.Frag) (mg : Str → Option Value) (x n : Str) (C fI : Addr) : Prop where
  gC : mg x = some (.ref C)
  oex : OexC K C
  iC : PySem.W.findIn K (.ref C) "__init__" = some (some (.ref fI))
  tI : PySem.W.typeIn K (.ref fI) = some (.type "function")
  no : PySem.W.findIn K (.ref C) n = some none
  xf : XfC K C
  ec : ExcC K C
/-- __init__(self, value): self.value = value -/
def spErr (K : PySem.W.Frag) (n : Str) : Sp := fun vs H Q _ => ∃ (a C : Addr) (v : V), vs = [.ref a, v] ∧ OexC K C ∧ PySem.W.findIn K (.ref C) n = some none ∧ H a = some (exo a C none) ∧
  ∀ dx, H dx = none → dx ≠ a → Q .non (upd (upd H dx (exd dx [(n, v)])) a (exo a C (some dx)))
section
variable {P : Program} {w : World} {K : PySem.W.Frag} {mg : Str → Option Value} {base : Heap}
theorem ok_err {q : Str} {st : Stmt} {n : Str} {f : Addr} {fd : FuncData} {p1 p2 p3 p4 : Pos} (F : Fun K "__init__" q st f fd) (S : FnScope ["self", n] ["self", n] (defScope st))
    (hb : defBody st = [.Assign [.Attribute (.Name "self" p1) n p2] (.Name n p3) p4]) (hs : Vis (defScope st) "self") (hn : Vis (defScope st) n) (hd : (n == ("__debug__" : Str)) = false) (hcd : (n == ("__classdict__" : Str)) = false)
    (hsw : ∀ env : Env, swapsWith (.Name n p3) (some (.Attribute (.Name "self" p1) n p2)) p4.line env = pure false) :
    FnOk P w K mg base CX0 1 f fd ["self", n] (spErr K n) := by
  refine F.ok S (fun vs H Q E h => ?_) (fun cdv A outer s H vs Q E hr h => ?_)
  · obtain ⟨_, _, _, rfl, _⟩ := h
    rfl
  · obtain ⟨a, C, v, rfl, T, hno, ha, k⟩ := h
    rw [hb]
    refine ⟨_, pss_one (ps_ost (pe_var (i := 0) rfl hs) (pe_var (i := 1) rfl hn hd hcd) (hsw _)), ?_⟩
    exact ⟨_, rfl, _, rfl, a, C, rfl, T, hno, .inl ⟨ha, fun dx h1 h2 => k dx h1 h2⟩⟩
end
theorem del_upds {H : Hp} {a d : Addr} {o1 o2 o3 o4 : HO} (n : H a = none) (hd : d ≠ a) : upd (del (upd (upd (upd H a o1) d o2) a o3) a) d o4 = upd H d o4 := by
  funext b
  by_cases h1 : b = d
  · rw [h1, upd_same, upd_same]
  · rw [upd_ne h1, upd_ne h1]
    by_cases h2 : b = a
    · rw [h2, del_same, n]
    · rw [del_ne h2, upd_ne h2, upd_ne h1, upd_ne h2]
/-- what the making of an error asks -/
theorem mkErr {K : PySem.W.Frag} {n : Str} {C : Addr} {v : V} {H : Hp} {Q : XK} (T : OexC K C) (no : PySem.W.findIn K (.ref C) n = some none) (h : ∀ d, H d = none → Q (.ref C) (some d) (upd H d (.xd [(n, v)]))) :
    [v].length ≤ 1000 ∧ ∀ a, H a = none → spErr K n (.ref a :: ([v] ++ [])) (upd H a (exo a C none))
      (fun u H2 => u = .non ∧ ∃ (d : Addr) (fs : List (Str × V)), H2 a = some (exo a C (some d)) ∧ H2 d = some (exd d fs) ∧ H d = none ∧ Q (.ref C) (some d) (upd (del H2 a) d (.xd fs))) (fun _ _ _ => False) := by
  refine ⟨by show 1 ≤ 1000; decide, fun a ha => ⟨a, C, v, rfl, T, no, upd_same, fun dx h1 h2 => ⟨rfl, dx, [(n, v)], upd_same, ?_, ?_, ?_⟩⟩⟩
  · rw [upd_ne h2, upd_same]
  · rw [upd_ne h2] at h1
    exact h1
  · rw [upd_ne h2] at h1
    rw [del_upds ha h2]
    exact h dx h1
/-- all but tables stays -/
abbrev Ext := LamX.ExtN
theorem ext_of {H H' : Hp} (s : Same H H') : Ext H H' := .of s
end FL
namespace FL
open PySem PySem.Spec PyProof.Rows L2 LamX
/-- a wish may count on as many slots as there are names -/
theorem takes_len {X : Cx} {W : WX} (tk : Takes X W) : Takes X (fun c d τ G => τ.length = X.N.length → W c d τ G) := by
  rintro u s ⟨e, B, sB, pins, τ, G, c, d, q, I, x1, x2, x3, x4, x5, x6, w⟩
  exact tk u s ⟨e, B, sB, pins, τ, G, c, d, q, I, x1, x2, x3, x4, x5, x6, w I.len⟩
/-- as okG, with the def's code object -/
theorem okGC {P : Program} {w : World} {K : PySem.W.Frag} {mg : Str → Option Value} {base : Heap} {x qual : Str} {st : Stmt} {f : Addr} {fd : FuncData} {N ps : List Str} {k : Nat} {sp : Sp} {c : Addr}
    (F : Fun K x qual st f fd) (code : fd.code = .ref c) (S : FnScope N ps (defScope st))
    (size : ∀ vs H Q E, sp vs H Q E → vs.length = ps.length)
    (body : ∀ (A : Around) (outer : List Env) (s : Shared) (H : Hp) (vs : List V) (Q : VK) (E : XK),
      Room k (A.deeper (envOfC qual (defScope st) s.heap.objs.size f (.ref c))) → A.guards = some [] → sp vs H Q E →
      ∃ t, PSs (cxOf CX0 P w K mg base N qual (defScope st) f (.ref c) A outer s H E).nox (defBody st) t
        ∧ t { nx := fun _ H' => Q .non H', rt := Q } (start N vs) H) :
    FnG P w K mg base CX0 (k + 1) f fd ps sp := by
  obtain ⟨oc, od, kV, doc, pm, an, cdv, ct, osl, rfl, lk, hc⟩ := F.ex
  obtain rfl : cdv = .ref c := code
  refine ⟨size, ?_⟩
  intro A outer s H args us vs Q E hr hg e0 hb r hsp
  refine LamX.run_ofS (k := k) lk hc S hr e0 hb r (size _ _ _ _ hsp) ?_
  intro room
  obtain ⟨t, h1, h2⟩ := body A outer s H vs Q E room hg hsp
  exact ⟨t, h1.nox, h2⟩
end FL
namespace FL
open PySem PySem.Spec PyProof.Rows L2 LamX
/-! ### the end of a law one of whose defs makes lambdas: its table of code objects at T0 -/
abbrev bareTab : Obj := { cls := .none, data := .fields #[] }
def withT (T0 : Addr) (G : Hp) : Hp := fun b => if b = T0 then some (.tbl #[]) else G b
theorem with_at {T0 b : Addr} {G : Hp} {u : HO} (h : withT T0 G b = some u) : (b = T0 ∧ u = .tbl #[]) ∨ (b ≠ T0 ∧ G b = some u) := by
  unfold withT at h
  by_cases c : b = T0
  · rw [if_pos c] at h
    exact .inl ⟨c, (Option.some.inj h).symm⟩
  · rw [if_neg c] at h
    exact .inr ⟨c, h⟩
theorem endT {P : Program} {w : World} {K : PySem.W.Frag} {mg mb : Str → Option Value} {k : Nat} {fa a c0 T0 : Addr} {fd : FuncData} {x : Str} {sp : Sp} {s : Shared} {vs : List Value} {ns : List Int}
    (kx : K.In s.heap) (gl : s.heap.Ns mainGlobals mg) (bl : s.heap.Ns builtinsNs mb) (bb : ∀ y : Str, y ≠ "__name__" → mb y = bootBuiltins y) (nl : s.heap.NoLimit) (ng : s.gens = #[])
    (tab : s.heap.get? T0 = some bareTab) (out : K.lookup T0 = none) (cd : PySem.W.CodeHd s.heap c0 T0)
    (bmod : ∃ (bm : Addr) (ob : Obj), mg "__builtins__" = some (.ref bm) ∧ bm ≠ builtinsNs ∧ s.heap.get? bm = some ob ∧ ob.cls = .type "module" ∧ ob.dict = some builtinsNs ∧ ob.data = .plain)
    (oa : s.heap.get? a = some { cls := .type "list", data := .seq vs.toArray }) (hi : IntsAre vs ns) (le : ns.length ≤ sizeLine) (rm : Room k callerA)
    (F : ∀ base : Heap, K.In base → base.Ns mainGlobals mg → TabB base mg c0 T0 → FnG P w K mg base CX0 k fa fd [x] sp) (bd : ∀ (s : Shared) (u : Value), BindsTo s fd ⟨[u], []⟩ [(x, u)])
    (pr : ∀ H : Hp, H T0 = some (.tbl #[]) → SqL K H a (ns.map V.int) → sp [.ref a] H (fun v _ => v = .bl true) fun _ _ _ => False) :
    codeAny (model P w) callerA (.call (.ref fa) ⟨[.ref a], []⟩) (fun r t => r = .ok (.ret (.bool true)) ∧ OldK s.heap t.heap ∧ t.os = s.os ∧ AllBare t.gens) s := by
  have rv := vals_ints hi
  have lv := hi.length
  let o : Obj := { cls := .type "list", data := .seq vs.toArray }
  let H : Hp := withT T0 (onlyH K a o ns)
  have na : a ≠ T0 := fun z => by
    rw [z, tab] at oa
    cases oa
  have hT : H T0 = some (.tbl #[]) := if_pos rfl
  have hA : H a = onlyH K a o ns a := if_neg na
  have sq : SqL K H a (ns.map V.int) := by
    cases q : K.lookup a with
    | none => exact .inl (.inr ⟨o, hA.trans (if_pos ⟨rfl, q⟩)⟩)
    | some o' =>
      have e := kx a o' q
      rw [oa] at e
      cases e
      exact .inr ⟨_, vs.toArray, _, q, rfl, rfl, rfl, by rw [List.size_toArray, lv]; exact le, by simpa using rv⟩
  have ok : HOk P w H s.heap := fun b u e => by
    rcases with_at e with ⟨rfl, rfl⟩ | ⟨_, e⟩
    · exact tab
    · obtain ⟨rfl, _, rfl⟩ := only_at e
      exact ⟨oa, by rw [List.length_map]; exact le, vs, _, rv, oa⟩
  have seen : ∀ {b : Addr} {u : HO}, H b = some u → s.heap.get? b = some bareTab ∨ s.heap.get? b = some o := fun {b u} e => by
    rcases with_at e with ⟨rfl, _⟩ | ⟨_, e⟩
    · exact .inl tab
    · obtain ⟨rfl, _, _⟩ := only_at e
      exact .inr oa
  have stays : ∀ {b : Addr} {u : Obj}, s.heap.get? b = some u → (∀ v n, u.data ≠ .seq v n) → u.data ≠ .fields #[] → (hidT s.heap H).get? b = some u := fun {b u} e h1 h2 => by
    refine hidT_get e ?_
    cases q : H b with
    | none => rfl
    | some v =>
      rcases seen q with z | z
      · rw [e] at z
        cases z
        exact absurd rfl h2
      · rw [e] at z
        cases z
        exact absurd rfl (h1 _ _)
  have stay : ∀ {b : Addr} {m : Str → Option Value}, s.heap.Ns b m → (hidT s.heap H).Ns b m := fun {b m} n => by
    obtain ⟨ob, es, ep, e, d, r⟩ := n
    refine ⟨ob, es, ep, stays e (fun v n z => ?_) (fun z => ?_), d, r⟩
    · rw [d] at z
      cases z
    · rw [d] at z
      cases z
  have kb : K.In (hidT s.heap H) := fun b ob e => by
    refine hidT_get (kx b ob e) ?_
    cases q : H b with
    | none => rfl
    | some u =>
      rcases with_at q with ⟨rfl, _⟩ | ⟨_, q⟩
      · rw [out] at e
        cases e
      · obtain ⟨rfl, n, _⟩ := only_at q
        rw [n] at e
        cases e
  have md : Mod K mg (hidT s.heap H) := ⟨kb, stay gl, ⟨mb, stay bl, bb⟩, by
    obtain ⟨mc, n1, n2⟩ := nl
    exact ⟨mc, stay n1, n2⟩⟩
  have tb : TabB (hidT s.heap H) mg c0 T0 := by
    refine ⟨?_, ?_, ?_⟩
    · obtain ⟨u, us, f1, f2, f3, f4, f5, f6, f7, e1, r1, r2, r3, rest⟩ := cd
      refine ⟨u, us, f1, f2, f3, f4, f5, f6, f7, stays e1 (fun v n z => ?_) (fun z => ?_), r1, r2, r3, rest⟩
      · rw [r2] at z
        cases z
      · rw [r2] at z
        cases z
        simp at r3
    · obtain ⟨bm, ob, m1, m2, m3, m4, m5, m6⟩ := bmod
      refine ⟨bm, ob, m1, m2, fun q => ?_, fun q => ?_, stays m3 (fun v n z => ?_) (fun z => ?_), m4, m5, m6⟩
      · obtain ⟨u, es, ep, e, d, _⟩ := gl
        rw [q, e] at m3
        cases m3
        rw [d] at m6
        cases m6
      · rw [q, tab] at m3
        cases m3
        cases m6
      · rw [m6] at z
        cases z
      · rw [m6] at z
        cases z
    · intro q
      obtain ⟨u, es, ep, e, d, _⟩ := gl
      rw [q, tab] at e
      cases e
      cases d
  have env : Env0 P w K mg (hidT s.heap H) callerA [] s H :=
    ⟨rfl, md, fun b ob e => of_hidT e, Nat.le_of_eq (hidT_size _ _), trivial, fun b q => absurd (show b ∈ ([] : List Addr) from q) (by simp), ok, .of_eq ng⟩
  have run := (F _ kb (stay gl) tb).goes callerA [] s H ⟨[.ref a], []⟩ [.ref a] [.ref a] _ _ rm rfl env (bd s (.ref a)) (.cons rfl .nil) (pr H hT sq)
  refine codeAny_mono run fun r t z => ?_
  cases r with
  | error e => exact False.elim z
  | ok fl =>
    cases fl with
    | next => exact False.elim z
    | brk => exact False.elim z
    | cont => exact False.elim z
    | ret u =>
      obtain ⟨v, H', so, br, un, ok', rr, q⟩ := z
      obtain rfl : v = .bl true := q
      obtain rfl : u = Value.bool true := rr
      obtain ⟨more, gm⟩ : ∃ more : Array Value, t.heap.get? T0 = some { cls := .none, data := .fields more } := by
        obtain ⟨m, z⟩ := un.tbls T0 #[] hT
        exact ⟨_, ok' T0 _ z⟩
      have old : ∀ b ob, b ≠ T0 → s.heap.get? b = some ob → t.heap.get? b = some ob := fun b ob nb e => by
        cases q : H b with
        | none => exact un.keep b ob e q (by intro n; exact absurd (show b ∈ ([] : List Addr) from n) (by simp)) (by simp)
        | some u =>
          rcases with_at q with ⟨z, _⟩ | ⟨_, q2⟩
          · exact absurd z nb
          · obtain ⟨rfl, n, rfl⟩ := only_at q2
            obtain ⟨e2, _⟩ := ok' b _ (un.frzs b o _ q)
            rw [oa] at e
            cases e
            exact e2
      refine ⟨rfl, ⟨fun b ob e => ?_, fun b ob e => ?_⟩, so, br⟩
      · by_cases z : b = T0
        · subst z
          rw [tab] at e
          cases e
          exact .inr (.inl ⟨(cd.tab tab).isCodeTable, rfl, #[], more, rfl, by rw [Array.empty_append]; exact gm⟩)
        · exact .inl (old b ob z e)
      · by_cases z : b = T0
        · subst z
          exact ⟨_, gm⟩
        · exact ⟨ob, old b ob z e⟩
theorem walkT {l : PySem.W.OpenLaw} {n k : Nat} {q : Program} {loose : List Str} {XP : (Str → Option Value) → Heap → Prop} {YP : World → Heap → Prop} {d : DefRec} {x : Str} (hn : l.most = some n) (hs : n ≤ sizeLine) (hd : d.params.defaults = []) (rm : Room k callerA)
    (F : ∀ (w : World) (mg : Str → Option Value) (fa : Addr) (h : Heap), YP w h → h.Ns mainGlobals mg → mg d.name = some (.ref fa) → ∃ (K : PySem.W.Frag) (fd : FuncData) (sp : Sp) (c0 T0 : Addr), K.In h ∧ h.get? T0 = some bareTab ∧ K.lookup T0 = none ∧ PySem.W.CodeHd h c0 T0
      ∧ (∀ (s : Shared) (u : Value), BindsTo s fd ⟨[u], []⟩ [(x, u)])
      ∧ (∀ (H : Hp) (a : Addr) (ns : List Int), ns.length ≤ n → H T0 = some (.tbl #[]) → SqL K H a (ns.map V.int) → sp [.ref a] H (fun v _ => v = .bl true) fun _ _ _ => False)
      ∧ ∀ base : Heap, K.In base → base.Ns mainGlobals mg → TabB base mg c0 T0 → FnG l.prog w K mg base CX0 k fa fd [x] sp) :
    PySem.W.WalkO q loose XP YP l.row.toRowW d [] (fun f vs => PySem.call f vs) := by
  refine Att.attach_call hn hd ?_
  intro w s₀ s₁ mg mb fa o pm cd doc a vs ns G Y ho hd' hcd hmg hobj hints hlen hg
  obtain ⟨K, fd, sp, c0, T0, kx, tab, out, code, bd, pr, FF⟩ := F w mg fa _ Y G.T.g hmg
  exact endT kx G.T.g G.T.b G.T.builtins G.T.nolimit hg tab out code G.T.bmain hobj hints (Nat.le_trans hlen hs) rm FF bd fun H t0 sq => pr H a ns hlen t0 sq
end FL
namespace FL
open PySem PySem.Spec PyProof.Rows L2 LamX
/-! ### what the top left, where a def makes lambdas -/
abbrev Saw : Type := (Bool × List He.FnV) × Bool
def sawT (n : Nat) (ds : List DA) (ex : PySem.W.Frag → Bool) (p : He.Defn) (g : Addr → Option Obj) : Saw :=
  (lookF ds ex (He.frT g (He.asD g n)), He.tabsB g [p] (He.frT g (He.asD g n)))
structure SaysT (ds : List DA) (ex : PySem.W.Frag → Bool) (p : He.Defn) (h : Heap) (K : PySem.W.Frag) : Prop where
  seen : lookF ds ex K = dueF ds
  code : PySem.W.codeHdIn K (He.cT K p).1 (He.cT K p).2 = true
  out : K.lookup (He.cT K p).2 = none
  tab : h.get? (He.cT K p).2 = some bareTab
theorem says_of {n : Nat} {ds : List DA} {ex : PySem.W.Frag → Bool} {p : He.Defn} {h : Heap} (e : sawT n ds ex p h.get? = (dueF ds, true)) : SaysT ds ex p h (He.frT h.get? (He.asD h.get? n)) := by
  have e1 : lookF ds ex (He.frT h.get? (He.asD h.get? n)) = dueF ds := congrArg Prod.fst e
  have e2 : He.tabsB h.get? [p] (He.frT h.get? (He.asD h.get? n)) = true := congrArg Prod.snd e
  obtain ⟨a1, a2⟩ := Bool.and_eq_true_iff.mp (List.all_eq_true.mp e2 p List.mem_cons_self)
  cases q : h.get? (He.cT (He.frT h.get? (He.asD h.get? n)) p).2 with
  | none =>
    rw [q] at a2
    cases a2
  | some o =>
    rw [q] at a2
    exact ⟨e1, a1, He.frT_none q a2, by rw [q, He.emptyTab_eq a2]⟩
def hookT (n : Nat) (ds : List DA) (ex : PySem.W.Frag → Bool) (p : He.Defn) : PySem.W.Hook where
  α := Saw
  obs := fun s => sawT n ds ex p s.heap.get?
  val := fun _ => (dueF ds, true)
  says := fun _ h => ∃ K : PySem.W.Frag, K.In h ∧ SaysT ds ex p h K
  of := fun _ _ e => ⟨_, He.frT_in, says_of e⟩
  keeps := fun _ _ _ ⟨K, i, c⟩ k => ⟨K, PySem.W.Frag.In.keeps i k, c.seen, c.code, c.out, k _ _ c.tab⟩
def obT (n : Nat) (ds : List DA) (ex : PySem.W.Frag → Bool) (p : He.Defn) (s : PySem.W.SharedT) : Saw := sawT n ds ex p (HandSHeadRun.getT s)
theorem obT_eq {n : Nat} {ds : List DA} {ex : PySem.W.Frag → Bool} {p : He.Defn} (s : PySem.W.SharedT) : obT n ds ex p s = (hookT n ds ex p).obs s.abs := by
  have e : HandSHeadRun.getT s = s.abs.heap.get? := funext fun a => HandSHeadRun.getT_eq s a
  unfold obT
  rw [e]
  rfl
theorem code_at {K : PySem.W.Frag} {p : He.Defn} {x q : Str} {st : Stmt} {fd : FuncData} (F : Fun K x q st (He.fAd K p) fd) : fd.code = .ref (He.cT K p).1 := by
  obtain ⟨oc, od, kV, doc, pm, an, cdv, ct, osl, rfl, lk, hc⟩ := F.ex
  obtain ⟨c, rfl⟩ := He.codeIn_ref hc
  have e : He.codeOf K p = c := He.codeOf_eq lk rfl
  show Value.ref c = .ref (He.codeOf K p)
  rw [e]
end FL
namespace FL
open PySem PySem.Spec PyProof.Rows L2
section
variable {X : Cx} {pins : List (Addr × Obj)} {σ : L2.St} {H : Hp} {s : Shared} {k : Nat} {f : Addr} {fd : FuncData} {ps : List Str} {sp : Sp} {Q : VK} {E : XK}
theorem run_at1 {us ws : List Value} {ks : List Str} {bs : List Value} {vs : List V} {E' : Value → Shared → Prop} (F : FnG X.prog X.w X.K X.mg X.base CX0 k f fd ps sp) (hr : Room (k + 1) X.A) (hG : X.A.guards = some [])
    (I : Inv X pins σ H s) (hb : BindsTo s fd ⟨us, ks.zip ws⟩ (ps.zip bs)) (r : Vals vs bs) (h : sp vs H Q E) :
    wpAny (model X.prog X.w) X.A.in1 (call (.ref f) us (ks.zip ws)) (EP X pins σ Q) E' s := by
  refine wpAny_call (codeAny_mono (F.goes X.A.in1 X.stack s H ⟨us, ks.zip ws⟩ bs vs Q E hr.in1 hG I.env0.in1 hb r h) ?_)
  rintro (er | fl) s2 z
  · exact False.elim z
  · cases fl with
    | ret u => exact I.after z
    | _ => exact False.elim z
theorem run_at0 {us ws : List Value} {ks : List Str} {bs : List Value} {vs : List V} {E' : Value → Shared → Prop} (F : FnG X.prog X.w X.K X.mg X.base CX0 k f fd ps sp) (hr : Room k X.A) (hG : X.A.guards = some [])
    (I : Inv X pins σ H s) (hb : BindsTo s fd ⟨us, ks.zip ws⟩ (ps.zip bs)) (r : Vals vs bs) (h : sp vs H Q E) :
    wpAny (model X.prog X.w) X.A (call (.ref f) us (ks.zip ws)) (EP X pins σ Q) E' s := by
  refine wpAny_call (codeAny_mono (F.goes X.A X.stack s H ⟨us, ks.zip ws⟩ bs vs Q E hr hG I.env0 hb r h) ?_)
  rintro (er | fl) s2 z
  · exact False.elim z
  · cases fl with
    | ret u => exact I.after z
    | _ => exact False.elim z
/-! repr of an instance by its class's own text -/
theorem call_reprI {C : Addr} (F : FnG X.prog X.w X.K X.mg X.base CX0 k f fd ["self"] sp) (hb : Binds X.K fd ["self"] []) (hr : Room (k + 1) X.A) (hG : X.A.guards = some [])
    (hs : PySem.W.findIn X.K (.ref C) "__repr__" = some (some (.ref f))) (hf : PySem.W.isFn X.K (.ref f) = true) :
    CallR X (.builtin "repr") (fun xs H Q => ∃ a dx fs, xs = [.ref a] ∧ H a = some (.ins C dx fs) ∧ sp [.ref a] H (fun v H' => ∃ z, v = .str z ∧ Q (.str z) H') E) := by
  intro pins s σ H xs us Q I r h
  obtain ⟨a, dx, fs, rfl, ha, q⟩ := h
  cases r with
  | cons r1 r2 =>
    cases r2
    cases r1
    obtain ⟨mA, O, _⟩ := ins_get I.hok ha
    obtain ⟨od, J, _⟩ := O.look
    obtain ⟨m, fr⟩ := I.fr
    refine PySem.W.repr_K (h₀ := X.base) hr.in1.units0 fr I.ok.mod.kin J hs hf ?_
    refine wpAny_mono (run_at1 (ws := []) (ks := []) (E' := X.xe) (bs := [.ref a]) F hr hG I (vs := [.ref a]) (hb s [.ref a] I.kIn rfl) (.cons rfl .nil) q) ?_ fun _ _ e => e
    rintro u s2 ⟨v, H2, I2, rv, z, rfl, q2⟩
    obtain ⟨t, rfl⟩ := rv
    exact ⟨.str z, H2, I2, ⟨t, rfl⟩, q2⟩
/-! {e!r} of a list of data -/
def tFmtL (K : PySem.W.Frag) (te : TE) : TE := fun σ H Q => te σ H fun x H1 => ∃ a xs d, x = .ref a ∧ SqL K H1 a xs ∧ Dp K H1 x d ∧ d.hasDict = false ∧ NiceD d ∧ Q (.str d.shown) H1
theorem pe_fmtL {e : Expr} {te : TE} {pos : Pos} (hG : X.A.guards = some []) (hu : X.A.units + 64 < cLine) (he : PE X e te) : PE X (.FormattedValue e 114 none pos) (tFmtL X.K te) := by
  refine ⟨fun pins s σ H Q I h => ?_⟩
  refine wpAny_FormattedValue_repr (thn (he.run pins s σ H _ I h) fun v s1 hv => ?_)
  obtain ⟨x, H1, I1, r1, a, xs, d, rfl, _, hd, nd, ⟨n1, n2, n3⟩, q⟩ := hv
  obtain ⟨as, rd⟩ := Dp.reads I1 d _ v hd r1
  cases r1
  refine pyReprObj_of_reads rd n1 (PyData.noDict_hsm nd) hG (by omega) (fun _ _ e => e) (fun h' u tk kp => ?_) n3
  have I2 : Inv X pins σ H1 { s1 with heap := h', toks := tk } := I1.kept kp
  exact wpAny_formatField_str ⟨.str d.shown, H1, I2, ⟨u, rfl⟩, q⟩ ⟨.str d.shown, H1, I2.tok _, ⟨_, rfl⟩, q⟩ n3
end
end FL
namespace FL
open PySem PySem.Spec PyProof.Rows L2
section
variable {M : Model} {A : Around} {E : Value → Shared → Prop} {s : Shared} {K : PySem.W.Frag} {x C f : Addr} {ox : Obj} {od : Option Obj}
theorem rc_own {a : Value} {T ida : String} {Q : Value → Shared → Prop} (ha : s.TypeIs a T) (X : K.In s.heap) (I : PySem.W.InstAt s.heap x ox C od) (hsub : PySem.W.mroIn K C (.type T) = some false)
    (h1 : Slot T (cmpInfo .Eq).2.1 ida) (hc1 : ∀ Q' : Value → Shared → Prop, Q' .notImplemented s → wpAny M A (call (.builtin ida) [a, .ref x]) Q' E s)
    (hs : PySem.W.findIn K (.ref C) "__eq__" = some (some (.ref f))) (hf : PySem.W.isFn K (.ref f) = true) (hu : A.units < cLine)
    (h : wpAny M A (call (.ref f) [.ref x, a]) (PySem.W.CmpBack Q) E s) : wpAny M A (richCompare .Eq a (.ref x)) Q E s := by
  have hne : (Value.type T != Value.ref C) = true := by rfl
  have two : wpAny M A (tryCompare (.ref x) (cmpInfo .Eq).2.2 a) (fun r s' => ∃ v, r = some v ∧ Q v s') E s := by
    unfold tryCompare
    refine wpAny_bind (PySem.W.ifBound_K X I hs hf (wpAny_mono h (fun v s' hv => ?_) fun _ _ e => e))
    cases v <;> first | exact hv.elim | exact wpAny_pure ⟨_, rfl, hv⟩
  rcases hi : cmpInfo CmpOp.Eq with ⟨sym, g, r⟩
  rw [hi] at h1 two
  simp only [richCompare, hi, ha.oneThing_none]
  try with_reducible refine wpAny_holding ?_
  refine wpAny_bind (wpAny_cRoomFor hu ?_)
  refine wpAny_bind (wpAny_typeOf ha (wpAny_bind (I.type.here ?_)))
  simp only [hne, if_true]
  refine wpAny_bind ((PySem.W.looks_mroIn X hsub).here ?_)
  simp only [Bool.false_eq_true, if_false, Bool.not_false, if_true]
  refine wpAny_bind (m := tryCompare a _ (.ref x)) (wpAny_tryCompare_declines ha h1 (hc1 _ ⟨rfl, ?_⟩))
  refine wpAny_bind (wpAny_mono two (fun r s' z => ?_) fun _ _ e => e)
  obtain ⟨v, rfl, hq⟩ := z
  exact wpAny_pure hq
end
section
variable {K : PySem.W.Frag} {x C l : Addr} {ox : Obj} {od : Option Obj}
theorem int_no (b : Int) (u : Tok) (c : Value) (dd : Option Addr) (sl : Array (Option Value)) :
    Meets (Builtin.«int.__eq__» ⟨[.int b u, .ref x], []⟩) (fun _ R s => s.heap.get? x = some { cls := c, dict := dd, data := .plain, slots := sl } ∧ R (.ok (.ret .notImplemented)) s) :=
  .of_wp fun prog w A R s h => by obtain ⟨hp, g, d, tk, os⟩ := s; obtain ⟨hl, h⟩ := h; wp_walk using wpAny_loadPart' hl, wpAny_load hl; exact ⟨_, rfl, h⟩
theorem bool_no (b : Bool) (c : Value) (dd : Option Addr) (sl : Array (Option Value)) :
    Meets (Builtin.«int.__eq__» ⟨[.bool b, .ref x], []⟩) (fun _ R s => s.heap.get? x = some { cls := c, dict := dd, data := .plain, slots := sl } ∧ R (.ok (.ret .notImplemented)) s) :=
  .of_wp fun prog w A R s h => by obtain ⟨hp, g, d, tk, os⟩ := s; obtain ⟨hl, h⟩ := h; wp_walk using wpAny_loadPart' hl, wpAny_load hl; exact ⟨_, rfl, h⟩
theorem str_no (b : Str) (u : Tok) (c : Value) (dd : Option Addr) (sl : Array (Option Value)) :
    Meets (Builtin.«str.__eq__» ⟨[.str b u, .ref x], []⟩) (fun _ R s => s.heap.get? x = some { cls := c, dict := dd, data := .plain, slots := sl } ∧ R (.ok (.ret .notImplemented)) s) :=
  .of_wp fun prog w A R s h => by obtain ⟨hp, g, d, tk, os⟩ := s; obtain ⟨hl, h⟩ := h; wp_walk using wpAny_loadPart' hl, wpAny_load hl; exact ⟨_, rfl, h⟩
theorem list_no (items : Array Value) (n : Nat) (dd : Option Addr) (sl : Array (Option Value)) (c : Value) (dd' : Option Addr) (sl' : Array (Option Value)) :
    Meets (Builtin.«list.__eq__» ⟨[.ref l, .ref x], []⟩) (fun _ R s => s.heap.get? l = some { cls := .type "list", dict := dd, data := .seq items n, slots := sl } ∧ s.heap.get? x = some { cls := .ref C, dict := dd', data := .plain, slots := sl' }
      ∧ (K.In s.heap ∧ PySem.W.mroIn K C (.type "list") = some false) ∧ R (.ok (.ret .notImplemented)) s) :=
  .of_wp fun prog w A R s h => by
    obtain ⟨hp, g, d, tk, os⟩ := s
    obtain ⟨hl, hx, ⟨X, hm⟩, h⟩ := h
    have L := PySem.W.looks_mroIn (M := model prog w) X hm
    wp_walk using wpAny_loadPart' hl, wpAny_load hl, wpAny_loadPart' hx, wpAny_load hx, L.here
    exact ⟨_, rfl, h⟩
theorem tuple_no (items : Array Value) (n : Nat) (dd : Option Addr) (sl : Array (Option Value)) (c : Value) (dd' : Option Addr) (sl' : Array (Option Value)) :
    Meets (Builtin.«tuple.__eq__» ⟨[.ref l, .ref x], []⟩) (fun _ R s => s.heap.get? l = some { cls := .type "tuple", dict := dd, data := .seq items n, slots := sl } ∧ s.heap.get? x = some { cls := .ref C, dict := dd', data := .plain, slots := sl' }
      ∧ (K.In s.heap ∧ PySem.W.mroIn K C (.type "tuple") = some false) ∧ R (.ok (.ret .notImplemented)) s) :=
  .of_wp fun prog w A R s h => by
    obtain ⟨hp, g, d, tk, os⟩ := s
    obtain ⟨hl, hx, ⟨X, hm⟩, h⟩ := h
    have L := PySem.W.looks_mroIn (M := model prog w) X hm
    wp_walk using wpAny_loadPart' hl, wpAny_load hl, wpAny_loadPart' hx, wpAny_load hx, L.here
    exact ⟨_, rfl, h⟩
theorem dict_no (es : Array DictEntry) (n : Nat) (dd : Option Addr) (sl : Array (Option Value)) (c : Value) (dd' : Option Addr) (sl' : Array (Option Value)) :
    Meets (Builtin.«dict.__eq__» ⟨[.ref l, .ref x], []⟩) (fun _ R s => s.heap.get? l = some { cls := .type "dict", dict := dd, data := .dict es n, slots := sl } ∧ s.heap.get? x = some { cls := .ref C, dict := dd', data := .plain, slots := sl' }
      ∧ (K.In s.heap ∧ PySem.W.mroIn K C (.type "dict") = some false) ∧ R (.ok (.ret .notImplemented)) s) :=
  .of_wp fun prog w A R s h => by
    obtain ⟨hp, g, d, tk, os⟩ := s
    obtain ⟨hl, hx, ⟨X, hm⟩, h⟩ := h
    have L := PySem.W.looks_mroIn (M := model prog w) X hm
    wp_walk using wpAny_loadPart' hl, wpAny_load hl, wpAny_loadPart' hx, wpAny_load hx, L.here
    exact ⟨_, rfl, h⟩
end
end FL
namespace FL
open PySem PySem.Spec PyProof.Rows L2
/-! ### calls with keywords of defs without defaults -/
theorem kbn_of {K : PySem.W.Frag} {x qual : Str} {st : Stmt} {f : Addr} {fd : FuncData} {ps ks : List Str} {n : Nat} {g : List Value → List Value → List Value} {gV : List V → List V → List V} (F : Fun K x qual st f fd)
    (h : ∀ (kV doc pm : Value) (an : Option Addr) (cdv ct : Value) (us ws : List Value), us.length = n → ws.length = ks.length →
      bindArgs (PySem.W.fnOf x qual (defArgs st) (defBody st) (defScope st) .none kV doc pm an cdv ct) ⟨us, ks.zip ws⟩ = pure (ps.zip (g us ws)))
    (hr : ∀ {vs : List V} {us : List Value} {zs : List V} {ws : List Value}, Vals vs us → Vals zs ws → Vals (gV vs zs) (g us ws)) : KBn K fd ps n ks g gV := by
  obtain ⟨oc, od, kV, doc, pm, an, cdv, ct, osl, rfl, lk, hcd⟩ := F.ex
  exact ⟨fun s us ws _ l1 l2 => .of_eq (h kV doc pm an cdv ct us ws l1 l2), hr⟩
/-- one value ahead, two keywords the other way round -/
def swp {α : Type} : List α → List α → List α
  | [s], [r, z] => [s, z, r]
  | us, _ => us
theorem swp_rel {vs : List V} {us : List Value} {zs : List V} {ws : List Value} (a : Vals vs us) (b : Vals zs ws) : Vals (swp vs zs) (swp us ws) := by
  cases a with
  | nil => cases b <;> exact .nil
  | cons a1 a2 =>
    cases a2 with
    | nil =>
      cases b with
      | nil => exact .cons a1 .nil
      | cons b1 b2 =>
        cases b2 with
        | nil => exact .cons a1 .nil
        | cons b2 b3 =>
          cases b3 with
          | nil => exact .cons a1 (.cons b2 (.cons b1 .nil))
          | cons _ _ => exact .cons a1 .nil
    | cons a2 a3 => cases b <;> exact .cons a1 (.cons a2 a3)
/-! ### an instance called by a keyword -/
theorem callO_kw {M : Model} {A : Around} {E : Value → Shared → Prop} {s : Shared} {a : Addr} {pos : Pos} {Q : Value → Shared → Prop} {args : List (Bool × Sem Value)} {kws : List (Option Str × Sem Value)}
    (hp : (args.any (·.1) || kws.any (·.1.isNone)) = false)
    (h : wpAny M A (evalArgs (.ref a) true args kws) (fun z s1 => (∃ C ox od, PySem.W.InstAt s1.heap a ox C od ∧ ox.data = .plain) ∧ wpAny M A (call (.ref a) z.pos z.kw) Q E s1) E s) :
    wpAny M A (callWith pos (.ref a) [] args kws) Q E s := by
  unfold callWith
  refine wpAny_bind (wpAny_holding (wpAny_mono h (fun z s1 hz => ?_) fun _ _ e => e))
  obtain ⟨⟨C, ox, od, J, hd⟩, hz⟩ := hz
  refine wpAny_bind (wpAny_standAt ?_)
  have L := PySem.W.kco_keeper (M := M) J hd
  simp only [hp]
  refine wpAny_bind (L.here ?_)
  exact wpAny_bind (wpAny_operateT (wpAny_mono hz (fun r s2 hr => wpAny_bind (wpAny_holding (wpAny_point (wpAny_pure hr)))) fun _ _ e => e))
section
variable {X : Cx} {pins : List (Addr × Obj)} {σ : L2.St} {H : Hp} {s : Shared} {k : Nat} {f C g : Addr} {fd : FuncData} {ps ks : List Str} {sp : Sp} {Q : VK} {E : XK}
/-- o(k = v), o an instance of C -/
def tCallOK (C : Addr) (m : Nat) (sp : Sp) (gV : List V → List V → List V) (E : XK) (tf : TE) (tk : TA) : TE := fun σ H Q => tf σ H fun y H1 => ∃ a, y = V.ref a ∧
  tk σ H1 fun zs H2 => zs.length = m ∧ (∃ dx fs, H2 a = some (.ins C dx fs)) ∧ sp (gV [.ref a] zs) H2 Q E
theorem pe_callOK {fe : Expr} {kws : List Keyword} {pos : Pos} {tf : TE} {tk : TA} {gg : List Value → List Value → List Value} {gV : List V → List V → List V} (hf : PE X fe tf) (c : StX.CallO X.K C g)
    (F : FnOk X.prog X.w X.K X.mg X.base CX0 k g fd ps sp) (hb : KBn X.K fd ps 1 ks gg gV) (hr : Room k X.A) (hkw : PK X kws tk)
    (hall : (backToKw pos (keywordEach kws X.env)).all (·.1.isSome) = true := by rfl) (hks : (backToKw pos (keywordEach kws X.env)).filterMap (·.1) = ks := by rfl)
    (ht : eval (.Call fe [] kws pos) X.env = (do callWith pos (← eval fe X.env) [] (backTo pos (starEach [] X.env)) (backToKw pos (keywordEach kws X.env))) := by rfl)
    (hpl : ((backTo pos (starEach [] X.env)).any (·.1) || (backToKw pos (keywordEach kws X.env)).any (·.1.isNone)) = false := by rfl) :
    PE X (.Call fe [] kws pos) (tCallOK C ks.length sp gV E tf tk) := by
  refine ⟨fun pins s σ H Q I h => ?_⟩
  rw [ht]
  refine wpAny_bind (thn (hf.run pins s σ H _ I h) fun u s1 hu => ?_)
  obtain ⟨y, H1, I1, ry, a, ey, q⟩ := hu
  subst ey
  obtain rfl : u = Value.ref a := ry
  refine callO_kw hpl (evalArgs_kw2_nil hall (thn (hkw.run pos pins s1 σ H1 _ I1 q) fun ws s2 hw => ?_))
  obtain ⟨zs, H2, I2, rz, l2, ⟨dx, fs, ha⟩, q2⟩ := hw
  rw [hks]
  obtain ⟨ox, od, J, hd⟩ := StX.insC_at I2 (.inr ⟨dx, fs, ha⟩)
  refine ⟨⟨C, ox, od, J, hd⟩, ?_⟩
  have rs : Vals [V.ref a] [Value.ref a] := .cons rfl .nil
  refine wpAny_call (PySem.W.kco_code I2.kIn J hd c.at_ c.fn c.fi ?_)
  refine codeAny_mono (F.run X.A X.stack s2 H2 ⟨[.ref a], ks.zip ws⟩ (gg [.ref a] ws) (gV [.ref a] zs) Q E hr I2.env0 (hb.to s2 [.ref a] ws I2.kIn rfl (rz.length.symm.trans l2)) (hb.rel rs rz) q2) fun r s' hq => ?_
  cases r with
  | error e => exact False.elim hq
  | ok fl =>
    cases fl with
    | ret u => exact I2.after hq
    | next => exact False.elim hq
    | brk => exact False.elim hq
    | cont => exact False.elim hq
/-! ### == and != by an own == -/
/-- a value of another kind, or an instance of C -/
def Sec (C : Addr) (H : Hp) (y : V) : Prop := (∃ n, Any H y n) ∨ ∃ b dx fs, y = .ref b ∧ H b = some (.ins C dx fs)
structure EqT (K : PySem.W.Frag) (C f : Addr) (fd : FuncData) : Prop where
  cl : Cls K C
  at_ : PySem.W.findIn K (.ref C) "__eq__" = some (some (.ref f))
  fn : PySem.W.isFn K (.ref f) = true
  bd : Binds K fd ["self", "other"] []
  kin : ∀ n ∈ kinds, PySem.W.mroIn K C (.type n) = some false
  ne : PySem.W.findIn K (.ref C) "__ne__" = some (some (.builtin "object.__ne__"))
  ob : PySem.W.mroIn K C (.type "object") = some true
theorem not_first {K : PySem.W.Frag} {C : Addr} {n : String} (h : n ∈ kinds) : PySem.W.notFirst K C (.type n) = true := by
  have h' : ((fastBuiltinMro n).map fun l => l.contains (.ref C)) = some false := by
    simp only [kinds, List.mem_cons, List.mem_nil_iff, or_false] at h
    rcases h with rfl | rfl | rfl | rfl | rfl | rfl | rfl <;> kernel_rfl
  show (_ || (((fastBuiltinMro n).map fun l => l.contains (.ref C)) == some false)) = true
  rw [h']
  simp
theorem sec_type {u : Value} {y : V} (I : Inv X pins σ H s) (r : RelV y u) (h : Sec C H y) : ∃ tb, PySem.W.Looks (model X.prog X.w) s.heap (typeOf u) tb ∧ PySem.W.notFirst X.K C tb = true := by
  rcases h with ⟨n, an⟩ | ⟨b, dx, fs, rfl, hb⟩
  · obtain ⟨P, Z, p, _⟩ := kit_of I r an.tyx
    exact ⟨_, Z.ty _ _ I.kIn p, not_first an.kind⟩
  · obtain rfl : u = Value.ref b := r
    obtain ⟨mB, J, _⟩ := ins_get I.hok hb
    obtain ⟨od, J, _⟩ := J.look
    exact ⟨_, J.type, by simp [PySem.W.notFirst]⟩
def rEqO (C : Addr) (sp : Sp) : R2 := fun x y H Q => ∃ a dx fs, x = .ref a ∧ H a = some (.ins C dx fs) ∧ Sec C H y ∧ sp [x, y] H (fun v H' => ∃ b, v = .bl b ∧ Q (.bl b) H') E0
theorem op_eqO (T : EqT X.K C f fd) (Fk : FnOk X.prog X.w X.K X.mg X.base CX0 k f fd ["self", "other"] sp) (hr : Room k X.A) : OpR X (compareOp .Eq) (rEqO C sp) := by
  intro pins s σ H x y v u Q I rx ry h
  obtain ⟨a, dx, fs, rfl, ha, sc, q⟩ := h
  obtain rfl : v = Value.ref a := rx
  obtain ⟨tb, lb, nf⟩ := sec_type I ry sc
  obtain ⟨mA, J, _⟩ := ins_get I.hok ha
  obtain ⟨od, J, _⟩ := J.look
  obtain ⟨m, hF⟩ := I.fr
  show wpAny _ _ (richCompare .Eq (.ref a) u) _ _ _
  refine PySem.W.cmp_K (op := .Eq) hr.units0 hF I.ok.mod.kin J lb nf T.at_ T.fn ?_
  have rr : Vals [V.ref a, y] [Value.ref a, u] := .cons rfl (.cons ry .nil)
  refine wpAny_mono (wpAny_call (run_fnR (Fk.raw T.bd .nil) hr pass0 I rr q)) ?_ fun _ _ e => e
  rintro w s2 ⟨z, H2, I2, rz, b, rfl, qb⟩
  obtain rfl : w = Value.bool b := rz
  exact ⟨.bl b, H2, I2, rfl, qb⟩
/-- != of an instance and another value -/
def rNeO (C : Addr) (sp : Sp) : R2 := fun x y H Q => ∃ a dx fs, x = .ref a ∧ H a = some (.ins C dx fs) ∧ Sec C H y ∧ sp [x, y] H (fun v H' => ∃ b, v = .bl b ∧ Q (.bl !b) H') E0
theorem slot_obj_ne : Slot "object" "__ne__" "object.__ne__" :=
  Slot.of (T := "object") (name := "__ne__") (owner := "object") (n := "__ne__") (by rw [typeLookup_type, builtinLookup_eq_fast]; kernel_rfl) (by decide +kernel) (by decide +kernel) (by decide +kernel) (.inl (by decide +kernel)) (by rw [isSubtype_type]; kernel_rfl)
theorem op_neO (T : EqT X.K C f fd) (Fk : FnOk X.prog X.w X.K X.mg X.base CX0 k f fd ["self", "other"] sp) (hr : Room (k + 2) X.A) : OpR X (compareOp .NotEq) (rNeO C sp) := by
  intro pins s σ H x y v u Q I rx ry h
  obtain ⟨a, dx, fs, rfl, ha, sc, q⟩ := h
  obtain rfl : v = Value.ref a := rx
  obtain ⟨tb, lb, nf⟩ := sec_type I ry sc
  obtain ⟨mA, J, _⟩ := ins_get I.hok ha
  obtain ⟨od, J, _⟩ := J.look
  show wpAny _ _ (richCompare .NotEq (.ref a) u) _ _ _
  have rr : Vals [V.ref a, y] [Value.ref a, u] := .cons rfl (.cons ry .nil)
  have inner : wpAny (model X.prog X.w) X.A (call (.builtin "object.__ne__") [.ref a, u]) (PySem.W.CmpBack (EP X pins σ Q)) X.xe s := by
    have sub : PySem.W.Looks (model X.prog X.w) s.heap (isInstance (.ref a) (.type "object")) true := J.type.andThen (PySem.W.looks_mroIn I.kIn T.ob)
    refine wpAny_call (codeAny_call_builtin slot_obj_ne.plain PySem.F.cmpEntry_ne (PySem.W.check_slot PySem.F.cmpKind_ne PySem.F.cmpSplit_ne sub (PySem.F.cmpArgs_ne _ _) ?_))
    unfold Builtin.«object.__ne__»
    repeat (first | with_reducible refine wpAny_cRoomFor hr.in1.units0 ?_ | with_reducible refine PySem.W.ifBound_K I.kIn J T.at_ T.fn ?_ | wp_step)
    have c1 : codeAny (model X.prog X.w) X.A.in1 (.call (.ref f) ⟨[.ref a, u], []⟩) (fun r s' => ∃ w, r = .ok (.ret w) ∧ EP X pins σ (fun v H' => ∃ b, v = V.bl b ∧ Q (V.bl !b) H') w s') s := by
      have hb := T.bd s [.ref a, u] I.kIn rfl
      refine codeAny_mono (Fk.run X.A.in1 X.stack s H ⟨[.ref a, u], []⟩ [.ref a, u] [.ref a, y] _ E0 (hr.mono (Nat.le_succ _)).in1 I.env0.in1 hb rr q) ?_
      rintro (er | fl) s2 z
      · exact False.elim z
      · cases fl with
        | ret w => exact ⟨w, rfl, I.after z⟩
        | _ => exact False.elim z
    refine codeAny_mono c1 ?_
    rintro r s2 ⟨w, rfl, z, H2, I2, rz, b, rfl, qb⟩
    obtain rfl : w = Value.bool b := rz
    refine wpAny_bind (wpAny_truthy_bool (wpAny_pure ?_))
    exact ⟨.bl !b, H2, I2, rfl, qb⟩
  have X0 := I.kIn
  have one : wpAny (model X.prog X.w) X.A (tryCompare (.ref a) "__ne__" u) (fun r s' => ∃ v, r = some v ∧ EP X pins σ Q v s') X.xe s := by
    unfold tryCompare callSpecialIfBound? bindSpecialIfBound?
    refine wpAny_bind (wpAny_holding (wpAny_bind (wpAny_bind (wpAny_bind (J.type.here ((PySem.W.looks_findIn X0 T.ne).here ?_))))))
    have fin : wpAny (model X.prog X.w) X.A (call (.builtin "object.__ne__") ([.ref a] ++ [u]) >>= fun v => pure (some v))
        (fun r s' => wpAny (model X.prog X.w) X.A (match r with | some .notImplemented | none => pure none | some v => pure (some v)) (fun r s' => ∃ v, r = some v ∧ EP X pins σ Q v s') X.xe s') X.xe s := by
      refine wpAny_bind (wpAny_mono inner (fun v s2 hv => wpAny_pure ?_) fun _ _ e => e)
      cases v <;> first | exact hv.elim | exact wpAny_pure ⟨_, rfl, hv⟩
    simp only [slot_obj_ne.bind]
    refine wpAny_bind (wpAny_askSetting (wpAny_ite ?_))
    split
    · exact wpAny_bind (wpAny_pure (wpAny_pure fin))
    · exact wpAny_tryCatch (wpAny_bind (wpAny_pure (wpAny_pure fin)))
  unfold richCompare
  simp only [oneThing_ref]
  refine wpAny_holding (wpAny_bind (wpAny_cRoomFor hr.units0 ?_))
  refine wpAny_bind (J.type.here (wpAny_bind (lb.here ?_)))
  split
  · rename_i qne
    have e : PySem.W.subIn X.K tb (.ref C) = some false := by
      rcases Bool.or_eq_true_iff.mp nf with e | e
      · rw [beq_iff_eq.mp e] at qne
        simp at qne
      · exact beq_iff_eq.mp e
    refine wpAny_bind ((PySem.W.looks_subIn X0 e).here ?_)
    simp only [Bool.false_eq_true, if_false]
    refine wpAny_bind (wpAny_mono one (fun r s2 hz => ?_) fun _ _ e => e)
    obtain ⟨v, rfl, hv⟩ := hz
    exact wpAny_pure hv
  · refine wpAny_bind (wpAny_pure ?_)
    simp only [Bool.false_eq_true, if_false]
    refine wpAny_bind (wpAny_mono one (fun r s2 hz => ?_) fun _ _ e => e)
    obtain ⟨v, rfl, hv⟩ := hz
    exact wpAny_pure hv
end
end FL
namespace FL
open PySem PySem.Spec PyProof.Rows L2
section
variable {x C : Addr}
theorem none_no (c : Value) (dd : Option Addr) (sl : Array (Option Value)) :
    Meets (Builtin.«NoneType.__eq__» ⟨[.none, .ref x], []⟩) (fun _ R s => s.heap.get? x = some { cls := c, dict := dd, data := .plain, slots := sl } ∧ R (.ok (.ret .notImplemented)) s) :=
  .of_wp fun prog w A R s h => by obtain ⟨hp, g, d, tk, os⟩ := s; obtain ⟨hl, h⟩ := h; wp_walk using wpAny_loadPart' hl, wpAny_load hl; exact ⟨_, rfl, h⟩
end
section
variable {X : Cx} {pins : List (Addr × Obj)} {σ : L2.St} {H : Hp} {s : Shared} {k : Nat} {f C : Addr} {fd : FuncData} {sp : Sp}
/-- a value of another kind == an instance -/
def rEqR (C : Addr) (sp : Sp) : R2 := fun x y H Q => ∃ a dx fs n, y = .ref a ∧ H a = some (.ins C dx fs) ∧ Any H x n ∧ sp [y, x] H (fun v H' => ∃ b, v = .bl b ∧ Q (.bl b) H') E0
theorem op_eqR (T : EqT X.K C f fd) (Fk : FnOk X.prog X.w X.K X.mg X.base CX0 k f fd ["self", "other"] sp) (hr : Room k X.A) : OpR X (compareOp .Eq) (rEqR C sp) := by
  intro pins s σ H x y v u Q I rx ry h
  obtain ⟨a, dx, fs, n, rfl, ha, an, q⟩ := h
  obtain rfl : u = Value.ref a := ry
  obtain ⟨mA, O, _⟩ := ins_get I.hok ha
  obtain ⟨od, J, _⟩ := O.look
  have hx : s.heap.get? a = some (PySem.W.instObj C dx) := J.at_
  show wpAny _ _ (richCompare .Eq v (.ref a)) _ _ _
  have rr : Vals [V.ref a, x] [Value.ref a, v] := .cons rfl (.cons rx .nil)
  have hu := hr.units0
  have km := T.kin n an.kind
  have own : wpAny (model X.prog X.w) X.A (call (.ref f) [.ref a, v]) (PySem.W.CmpBack (EP X pins σ Q)) X.xe s := by
    refine wpAny_mono (wpAny_call (run_fnR (Fk.raw T.bd .nil) hr pass0 I rr q)) ?_ fun _ _ e => e
    rintro w s2 ⟨z, H2, I2, rz, b, rfl, qb⟩
    obtain rfl : w = Value.bool b := rz
    exact ⟨.bl b, H2, I2, rfl, qb⟩
  cases an with
  | non =>
    obtain rfl : v = Value.none := rx
    exact rc_own (T := "NoneType") rfl I.kIn J km PySem.F.slot_NoneType_eq (fun Q' hq => call_meets PySem.F.slot_NoneType_eq rfl PySem.F.entry_NoneType_eq (PySem.F.args_NoneType_eq_2 _ _) (none_no _ _ _) ⟨hx, hq⟩) T.at_ T.fn hu own
  | bl b =>
    obtain rfl : v = Value.bool b := rx
    exact rc_own (T := "bool") rfl I.kIn J km PySem.F.slot_bool_eq (fun Q' hq => call_meets PySem.F.slot_bool_eq rfl PySem.F.entry_int_eq (PySem.F.args_int_eq_2 _ _) (bool_no _ _ _ _) ⟨hx, hq⟩) T.at_ T.fn hu own
  | int i =>
    obtain ⟨t, rfl⟩ := rx
    exact rc_own (T := "int") (typeIs_int s i t) I.kIn J km PySem.F.slot_int_eq (fun Q' hq => call_meets PySem.F.slot_int_eq (typeIs_int s i t) PySem.F.entry_int_eq (PySem.F.args_int_eq_2 _ _) (int_no _ _ _ _ _) ⟨hx, hq⟩) T.at_ T.fn hu own
  | str z =>
    obtain ⟨t, rfl⟩ := rx
    exact rc_own (T := "str") (typeIs_str s z t) I.kIn J km PySem.F.slot_str_eq (fun Q' hq => call_meets PySem.F.slot_str_eq (typeIs_str s z t) PySem.F.entry_str_eq (PySem.F.args_str_eq_2 _ _) (str_no _ _ _ _ _) ⟨hx, hq⟩) T.at_ T.fn hu own
  | @lst l xs e =>
    obtain rfl : v = Value.ref l := rx
    obtain ⟨_, its, m, _, hl⟩ := I.hok l _ e
    have ty : s.TypeIs (.ref l) "list" := ⟨_, hl, rfl⟩
    exact rc_own (T := "list") ty I.kIn J km PySem.F.slot_list_eq (fun Q' hq => call_meets PySem.F.slot_list_eq ty PySem.F.entry_list_eq (PySem.F.args_list_eq_2 _ _) (list_no _ _ _ _ .none _ _) ⟨hl, hx, ⟨I.kIn, km⟩, hq⟩) T.at_ T.fn hu own
  | @tup l xs e =>
    obtain rfl : v = Value.ref l := rx
    obtain ⟨_, its, _, o, hl, hc, m, hd⟩ := I.hok l _ e
    obtain ⟨cls, dd, data, sl⟩ := o
    simp only at hc hd
    subst hc hd
    have ty : s.TypeIs (.ref l) "tuple" := ⟨_, hl, rfl⟩
    exact rc_own (T := "tuple") ty I.kIn J km PySem.F.slot_tuple_eq (fun Q' hq => call_meets PySem.F.slot_tuple_eq ty PySem.F.entry_tuple_eq (PySem.F.args_tuple_eq_2 _ _) (tuple_no _ _ _ _ .none _ _) ⟨hl, hx, ⟨I.kIn, km⟩, hq⟩) T.at_ T.fn hu own
  | @dct l kvs e =>
    obtain rfl : v = Value.ref l := rx
    obtain ⟨_, _, vs, _, o, es, ep, hl, he, hd, _⟩ := I.hok l _ e
    obtain ⟨cls, dd, data, sl⟩ := o
    obtain ⟨hc, _⟩ := he
    simp only at hc hd
    subst hc hd
    have ty : s.TypeIs (.ref l) "dict" := ⟨_, hl, rfl⟩
    exact rc_own (T := "dict") ty I.kIn J km PySem.F.slot_dict_eq (fun Q' hq => call_meets PySem.F.slot_dict_eq ty PySem.F.entry_dict_eq (PySem.F.args_dict_eq_2 _ _) (dict_no _ _ _ _ .none _ _) ⟨hl, hx, ⟨I.kIn, km⟩, hq⟩) T.at_ T.fn hu own
end
end FL
namespace FL
open PySem PySem.Spec PyProof.Rows L2
/-! ### what a relay's methods promise -/
structure IsT (K : PySem.W.Frag) (C : Addr) : Prop where
  cl : Cls K C
  ha : PySem.W.findIn K (.ref C) "__class__" = some (some (.builtin "object.__class__"))
  hm : PySem.W.mroIn K C (.type "object") = some true
  self : PySem.W.kitOne K (.ref C) (.ref C) = some true
  oth : ∀ n ∈ kinds, PySem.W.kitOne K (.type n) (.ref C) = some false
theorem IsT.ins {K : PySem.W.Frag} {C a dx : Addr} {H : Hp} {fs : List (Str × V)} (T : IsT K C) (e : H a = some (.ins C dx fs)) : TyX K H (.ref a) (.ref C) :=
  .base (.ins e T.cl T.ha (by kernel_rfl) (by kernel_rfl) T.hm)
/-- rules that are plain and not too long -/
def RP (b : Nat) (rs : List Rule) : Prop := ∀ r ∈ rs, Plain r.old ∧ Plain r.new ∧ r.old.length ≤ b ∧ r.new.length ≤ b
def rsEq (a b : List Rule) : Bool := PyData.eqvAll (a.map ruleD) (b.map ruleD)
theorem rsEq_iff {a b : List Rule} : rsEq a b = true ↔ a = b := eqv_rules a b
theorem rsEq_self (a : List Rule) : rsEq a a = true := rsEq_iff.mpr rfl
theorem rsEq_comm (a b : List Rule) : rsEq a b = rsEq b a := by
  cases h : rsEq a b with
  | true =>
    rw [rsEq_iff] at h
    rw [h, rsEq_self]
  | false =>
    cases h2 : rsEq b a with
    | false => rfl
    | true =>
      rw [rsEq_iff] at h2
      rw [h2, rsEq_self] at h
      cases h
def spGet (C : Addr) : Sp := fun vs H Q _ => ∃ (p : Addr) (z : Str) (rs : List Rule), vs = [.ref p] ∧ RelayAt C H p z rs ∧ Q (.str z) H
def spRules (C : Addr) : Sp := fun vs H Q _ => ∃ (p : Addr) (z : Str) (rs : List Rule), vs = [.ref p] ∧ RelayAt C H p z rs ∧
  ∀ (D : Addr) (xs : List V) (H' : Hp), H D = none → H' D = some (.lst xs) → RulesAt H' xs rs → Same H H' → Q (.ref D) H'
def spCall (C : Addr) : Sp := fun vs H Q _ => ∃ (p : Addr) (z : Str) (rs : List Rule) (y : Str), vs = [.ref p, .str y] ∧ RelayAt C H p z rs ∧ Over z y ∧ y.length ≤ 100000 ∧
  (∀ r ∈ rs, r.old.length ≤ 40 ∧ r.new.length ≤ 1000) ∧ ∀ H', Same H H' → Q (.str (turn rs y)) H'
def spEqR (C : Addr) : Sp := fun vs H Q _ => ∃ (p : Addr) (z : Str) (rs : List Rule) (b : Nat) (v : V), vs = [.ref p, v] ∧ RelayAt C H p z rs ∧ RP b rs ∧
  ((∃ n, Any H v n ∧ Q (.bl false) H) ∨ ∃ (q : Addr) (rs' : List Rule), v = .ref q ∧ RelayAt C H q z rs' ∧ RP b rs' ∧ Q (.bl (rsEq rs rs')) H)
def reprR (z : Str) (rs : List Rule) : Str := (((((Str.empty ++ Str.ofString "Relay(") ++ reprText z) ++ Str.ofString ", ") ++ (PyData.list (rs.map ruleD)).shown) ++ Str.ofString ")")
def spReprR (C : Addr) : Sp := fun vs H Q _ => ∃ (p : Addr) (z : Str) (rs : List Rule), vs = [.ref p] ∧ RelayAt C H p z rs ∧ Abc z ∧ RP 40 rs ∧ rs.length ≤ 400 ∧ Q (.str (reprR z rs)) H
theorem repr_abc {z : Str} (h : Abc z) : (reprText z).length ≤ 42 := by
  have h1 := (Sm.str (h.plain fun c hc => hc)).len
  have h2 : (reprText z).length ≤ 10 * z.length + 2 := h1
  have := h.hi
  omega
theorem RP.sm {b : Nat} {rs : List Rule} (h : RP b rs) : Sm ((20 * b + 77) * rs.length + 2) (.list (rs.map ruleD)) := Sm.rules h
theorem RP.sm40 {rs : List Rule} (h : RP 40 rs) (l : rs.length ≤ 400) : Sm 400000 (.list (rs.map ruleD)) := (RP.sm h).mono (by omega)
end FL
namespace FL
open PySem PySem.Spec PyProof.Rows L2
/-! ### a def by its name, all that a caller needs of it -/
structure Ca (P : Program) (w : World) (K : PySem.W.Frag) (mg : Str → Option Value) (base : Heap) (x : Str) (k : Nat) (ps : List Str) (sp : Sp) : Prop where
  ex : ∃ f fd, FnOk P w K mg base CX0 k f fd ps sp ∧ Binds K fd ps [] ∧ PySem.W.keepIn K (.ref f) = true ∧ mg x = some (.ref f)
structure CaG (P : Program) (w : World) (K : PySem.W.Frag) (mg : Str → Option Value) (base : Heap) (x : Str) (k : Nat) (ps : List Str) (sp : Sp) : Prop where
  ex : ∃ f fd, FnG P w K mg base CX0 k f fd ps sp ∧ Binds K fd ps [] ∧ PySem.W.keepIn K (.ref f) = true ∧ mg x = some (.ref f)
section
variable {X : Cx} {x : Str} {k : Nat} {ps : List Str} {sp : Sp} {p pos : Pos} {e : Expr} {es : List Expr} {t : TA}
theorem pe_ca (c : Ca X.prog X.w X.K X.mg X.base x k ps sp) (hr : Room k X.A) (hg : Gl X x) (ha : PA X (e :: es) t)
    (hdb : (x == ("__debug__" : Str)) = false := by decide) (he : starEach (e :: es) X.env = (false, eval e X.env) :: starEach es X.env := by rfl) (hpl : (backTo pos (starEach es X.env)).any (·.1) = false := by rfl) :
    PE X (.Call (.Name x p) (e :: es) [] pos) (tCall sp [] E0 t) := by
  obtain ⟨f, fd, F, b, kp, m⟩ := c.ex
  exact pe_call F hr hg m kp b .nil pass0 ha hdb he hpl
theorem pe_cg (c : CaG X.prog X.w X.K X.mg X.base x k ps sp) (hr : Room k X.A) (hG : X.A.guards = some []) (hg : Gl X x) (ha : PA X (e :: es) t)
    (hdb : (x == ("__debug__" : Str)) = false := by decide) (he : starEach (e :: es) X.env = (false, eval e X.env) :: starEach es X.env := by rfl) (hpl : (backTo pos (starEach es X.env)).any (·.1) = false := by rfl) :
    PE X (.Call (.Name x p) (e :: es) [] pos) (tCall sp [] E0 t) := by
  obtain ⟨f, fd, F, b, kp, m⟩ := c.ex
  exact pg_call F hr hG hg m kp b .nil pass0 ha hdb he hpl
end
/-! ### the class Relay, all that its users need -/
structure RelF (P : Program) (w : World) (K : PySem.W.Frag) (mg : Str → Option Value) (base : Heap) where
  C : Addr
  T : RTxt K mg C
  I : IsT K C
  fi : Addr
  di : FuncData
  mkc : Mk K C fi
  oi : FnOk P w K mg base CX0 5 fi di ["self", "signs", "rules"] (spInit C)
  bi : Binds K di ["self", "signs", "rules"] []
  ki : KBn K di ["self", "signs", "rules"] 1 ["rules", "signs"] swp swp
  fp : Addr
  fg : Addr
  dg : FuncData
  pr : PropOf K C "signs" fp fg
  og : FnOk P w K mg base CX0 1 fg dg ["self"] (spGet C)
  bg : Binds K dg ["self"] []
  fr : Addr
  dr : FuncData
  mr : Meth K C "rules" fr
  or_ : FnOk P w K mg base CX0 1 fr dr ["self"] (spRules C)
  br : Binds K dr ["self"] []
  fc : Addr
  dc : FuncData
  cc : StX.CallO K C fc
  oc : FnOk P w K mg base CX0 3 fc dc ["self", "line"] (spCall C)
  bc : Binds K dc ["self", "line"] []
  kc : KBn K dc ["self", "line"] 1 ["line"] (fun us ws => us ++ ws) (fun vs zs => vs ++ zs)
  fe : Addr
  de : FuncData
  te : EqT K C fe de
  oe : FnOk P w K mg base CX0 1 fe de ["self", "other"] (spEqR C)
  fz : Addr
  dz : FuncData
  zs : PySem.W.findIn K (.ref C) "__repr__" = some (some (.ref fz))
  zf : PySem.W.isFn K (.ref fz) = true
  oz : FnG P w K mg base CX0 1 fz dz ["self"] (spReprR C)
  bz : Binds K dz ["self"] []
theorem make_read {C : Addr} {H : Hp} {Q : VK} {z : Str} {v : V} {rs : List Rule} (hz : Abc z) (ra : RuArg H v rs) (ok : ∀ r ∈ rs, RuleOk z 40 r) (l : rs.length ≤ 400)
    (k : ∀ (x : Addr) (H' : Hp), H x = none → RelayAt C H' x z rs → Same H H' → Q (.ref x) H') :
    ∀ x dx, H x = none → H dx = none → dx ≠ x → spInit C [.ref x, .str z, v] (upd (upd H dx (.own x)) x (.ins C dx [])) (fun v H3 => v = .non ∧ Q (.ref x) H3) E0 := by
  intro x dx hx hd hne
  have s2 : Same H (upd (upd H dx (.own x)) x (.ins C dx [])) := ((Same.refl H).upd hd).upd hx
  refine ⟨x, dx, z, v, rs, rfl, upd_same, hz, ?_, ok, l, fun H' ra' rel _ b => ⟨rfl, k x H' hx rel.at_ fun c o e => b c o (s2 c o e) (ne_of_none e hx)⟩⟩
  obtain ⟨a, xs, t, rfl, ea, hrs⟩ := ra
  exact ⟨a, xs, t, rfl, s2 _ _ ea, Same.rules s2 hrs⟩
theorem RelayAt.ins {C : Addr} {H : Hp} {p : Addr} {z : Str} {rs : List Rule} (h : RelayAt C H p z rs) : ∃ dx fs, H p = some (.ins C dx fs) ∧ ∀ {m : Str}, ¬ m = Str.ofString "_index" → ¬ m = Str.ofString "_rules" → ¬ m = Str.ofString "_signs" → fs.lookup m = none := by
  obtain ⟨dx, ra, ia, xs, h1, _⟩ := h
  exact ⟨dx, _, h1, fun a b c => flds_no z ra ia a b c⟩
theorem rules_no : ¬ (Str.ofString "rules") = Str.ofString "_index" ∧ ¬ (Str.ofString "rules") = Str.ofString "_rules" ∧ ¬ (Str.ofString "rules") = Str.ofString "_signs" := by decide +kernel
end FL
namespace FL
open PySem PySem.Spec PyProof.Rows L2
theorem RelayAt.nn {C : Addr} {H : Hp} {p : Addr} {z : Str} {rs : List Rule} (h : RelayAt C H p z rs) : H p ≠ none := by
  obtain ⟨dx, fs, e, _⟩ := h.ins
  rw [e]
  exact fun q => nomatch q
/-- what the law asks of the rules of a relay -/
structure Deal (K : PySem.W.Frag) (H : Hp) (D : Addr) (z : Str) (rs : List Rule) : Prop where
  az : Abc z
  ex : ∃ xs, H D = some (.lst xs) ∧ RulesAt H xs rs
  ok : ∀ r ∈ rs, RuleOk z 30 r
  le : rs.length ≤ 100
theorem Deal.rp {K : PySem.W.Frag} {H : Hp} {D : Addr} {z : Str} {rs : List Rule} (d : Deal K H D z rs) : RP 40 rs := fun r hr => by
  have o := d.ok r hr
  exact ⟨d.az.plain o.o1, d.az.plain o.n1, Nat.le_trans o.o2 (by decide), Nat.le_trans o.n2 (by decide)⟩
theorem _root_.L2.Same.sqL {K : PySem.W.Frag} {q : Addr} {H H' : Hp} {xs : List V} (b : Same H H') (h : SqL K H q xs) : SqL K H' q xs := by
  rcases h with (h | ⟨o, h⟩) | h
  · exact .inl (.inl (b _ _ h))
  · exact .inl (.inr ⟨o, b _ _ h⟩)
  · exact .inr h
theorem Deal.same {K : PySem.W.Frag} {H H' : Hp} {D : Addr} {z : Str} {rs : List Rule} (d : Deal K H D z rs) (s : Same H H') : Deal K H' D z rs := by
  obtain ⟨xs, h1, h2⟩ := d.ex
  exact ⟨d.az, ⟨xs, s _ _ h1, Same.rules s h2⟩, d.ok, d.le⟩
def spTold (K : PySem.W.Frag) (C : Addr) : Sp := fun vs H Q _ => ∃ (z : Str) (D p : Addr) (rs : List Rule), vs = [.str z, .ref D, .ref p] ∧ Deal K H D z rs ∧ RelayAt C H p z rs ∧
  ∀ H', Same H H' → Q (.bl true) H'
/-- the shown text of rules -/
def shR (rs : List Rule) : Str := (PyData.list (rs.map ruleD)).shown
theorem Deal.sm {K : PySem.W.Frag} {H : Hp} {D : Addr} {z : Str} {rs : List Rule} (d : Deal K H D z rs) : Sm 400000 (.list (rs.map ruleD)) := d.rp.sm40 (Nat.le_trans d.le (by decide))
theorem Deal.sh {K : PySem.W.Frag} {H : Hp} {D : Addr} {z : Str} {rs : List Rule} (d : Deal K H D z rs) : Sh K H (.ref D) (.list (rs.map ruleD)) := by
  obtain ⟨xs, h1, h2⟩ := d.ex
  exact .inl ⟨dp_list (SqL.of h1) h2, d.sm.nd⟩
theorem sh_str {K : PySem.W.Frag} {H : Hp} (y : Str) : Sh K H (.str y) (.str y) := .inl ⟨.str y, rfl⟩
theorem nice_str {y : Str} (h : Plain y) (l : y.length ≤ 1000000) : NiceD (.str y) := (Sm.str h).nice (by
  have sz : sizeLine = 16777216 := rfl
  omega)
end FL
namespace FL
open PySem PySem.Spec PyProof.Rows L2
theorem empty_app (x : Str) : Str.empty ++ x = x := by
  apply Str_ext
  rw [Str.cps_append, Array.toList_append]
  rfl
theorem reprR_eq (z : Str) (rs : List Rule) : reprR z rs = (((Str.ofString "Relay(" ++ (PyData.str z).shown) ++ Str.ofString ", ") ++ (PyData.list (rs.map ruleD)).shown) ++ Str.ofString ")" := by
  show (((((Str.empty ++ Str.ofString "Relay(") ++ (PyData.str z).shown) ++ Str.ofString ", ") ++ (PyData.list (rs.map ruleD)).shown) ++ Str.ofString ")") = _
  rw [empty_app]
end FL
namespace FL
open PySem PySem.Spec PyProof.Rows L2 FL
theorem iteNot {c A B : Prop} [Decidable c] (hn : ¬ c) (h : B) : if decide c = true then A else B := by
  rw [if_neg fun q => hn (of_decide_eq_true q)]
  exact h
theorem iteYes {c A B : Prop} [Decidable c] (hc : c) (h : A) : if decide c = true then A else B := by
  rw [if_pos (decide_eq_true hc)]
  exact h
theorem cutV_take {xs : List V} {i : Nat} : cutV xs none (some ((i : Nat) : Int)) = xs.take i := by
  show (xs.drop (HT.sIx xs.length 0 none)).take (HT.sIx xs.length xs.length (some ((i : Nat) : Int)) - HT.sIx xs.length 0 none) = xs.take i
  rw [HT.sIx_nat]
  show (xs.drop 0).take (min i xs.length - 0) = xs.take i
  rw [List.drop_zero, Nat.sub_zero]
  by_cases h : i ≤ xs.length
  · rw [Nat.min_eq_left h]
  · rw [Nat.min_eq_right (by omega), List.take_length, List.take_of_length_le (by omega)]
theorem flat_strs : ∀ ms : List Str, (ms.map V.str).all flatV = true
  | [] => rfl
  | _ :: ms => flat_strs ms
/-! ### written tuples -/
def SqW (K : PySem.W.Frag) (a : Addr) (xs : List V) : Prop := ∃ (o : Obj) (its : Array Value) (n : Nat), K.lookup a = some o ∧ o.cls = .type "tuple" ∧ o.data = .seq its n ∧ its.size ≤ sizeLine ∧ Vals xs its.toList
theorem SqW.sqT {K : PySem.W.Frag} {H : Hp} {a : Addr} {xs : List V} (h : SqW K a xs) : SqT K H a xs := .inr h
def relsB : List V → List Value → Bool
  | [], [] => true
  | x :: xs, u :: us => He.relB x u && relsB xs us
  | _, _ => false
theorem relsB_ok : ∀ {xs : List V} {us : List Value}, relsB xs us = true → Vals xs us
  | [], [], _ => .nil
  | [], _ :: _, h => nomatch h
  | _ :: _, [], h => nomatch h
  | x :: xs, u :: us, h => by
    obtain ⟨h1, h2⟩ := Bool.and_eq_true_iff.mp (show (He.relB x u && relsB xs us) = true from h)
    exact .cons (He.relB_ok h1) (relsB_ok h2)
def tupB (K : PySem.W.Frag) (a : Addr) (xs : List V) : Bool := match K.lookup a with
  | some o => (match o.cls, o.data with
    | .type c, .seq its _ => decide (c = "tuple") && (decide (its.size ≤ 1000) && relsB xs its.toList)
    | _, _ => false)
  | none => false
theorem tupB_ok {K : PySem.W.Frag} {a : Addr} {xs : List V} (h : tupB K a xs = true) : SqW K a xs := by
  unfold tupB at h
  cases q : K.lookup a with
  | none =>
    rw [q] at h
    cases h
  | some o =>
    rw [q] at h
    obtain ⟨oc, od, dt, sl⟩ := o
    cases oc with
    | type c =>
      cases dt with
      | seq its n =>
        obtain ⟨h1, h2⟩ := Bool.and_eq_true_iff.mp (show (decide (c = "tuple") && (decide (its.size ≤ 1000) && relsB xs its.toList)) = true from h)
        obtain ⟨h2, h3⟩ := Bool.and_eq_true_iff.mp h2
        have e := of_decide_eq_true h1
        subst e
        exact ⟨_, its, n, q, rfl, rfl, Nat.le_trans (of_decide_eq_true h2) (by decide), relsB_ok h3⟩
      | _ => cases h
    | _ => cases dt <;> cases h
/-! ### what the top left, with tables -/
abbrev Tbs : Type := List ((PySem.W.Frag → Addr) × List Str)
def hookD (n : Nat) (ds : List DA) (ex : PySem.W.Frag → Bool) (ts : Tbs) : PySem.W.Hook where
  α := (Bool × List He.FnV) × List (Option (List (Option (Str × Int))))
  obs := fun s => (lookF ds ex (He.frG s.heap.get? (He.asD s.heap.get? n)), ts.map fun t => He.dicW (He.frG s.heap.get? (He.asD s.heap.get? n)) (t.1 (He.frG s.heap.get? (He.asD s.heap.get? n))))
  val := fun w => (dueF ds, ts.map fun t => some (He.keysIn w.params t.2))
  says := fun w h => ∃ K : PySem.W.Frag, K.In h ∧ lookF ds ex K = dueF ds ∧ (ts.map fun t => He.dicW K (t.1 K)) = ts.map fun t => some (He.keysIn w.params t.2)
  of := fun _ _ e => ⟨_, He.frG_in, congrArg Prod.fst e, congrArg Prod.snd e⟩
  keeps := fun _ _ _ ⟨K, i, c⟩ k => ⟨K, PySem.W.Frag.In.keeps i k, c⟩
def obD (n : Nat) (ds : List DA) (ex : PySem.W.Frag → Bool) (ts : Tbs) (g : Addr → Option Obj) : (Bool × List He.FnV) × List (Option (List (Option (Str × Int)))) :=
  (lookF ds ex (He.frG g (He.asD g n)), ts.map fun t => He.dicW (He.frG g (He.asD g n)) (t.1 (He.frG g (He.asD g n))))
theorem obD_eq {n : Nat} {ds : List DA} {ex : PySem.W.Frag → Bool} {ts : Tbs} (s : PySem.W.SharedT) : obD n ds ex ts (HandSHeadRun.getT s) = (hookD n ds ex ts).obs s.abs := by
  have e : HandSHeadRun.getT s = s.abs.heap.get? := funext fun a => HandSHeadRun.getT_eq s a
  rw [e]
  rfl
theorem tabs_at {K : PySem.W.Frag} {w : World} {ts : Tbs} (c : (ts.map fun t => He.dicW K (t.1 K)) = ts.map fun t => some (He.keysIn w.params t.2)) (i : Nat) {t : (PySem.W.Frag → Addr) × List Str} (h : ts[i]? = some t) : ∃ es n, KDict K w (t.1 K) es n := by
  have e2 : (ts.map fun t => He.dicW K (t.1 K))[i]? = (ts.map fun t => some (He.keysIn w.params t.2))[i]? := by rw [c]
  rw [List.getElem?_map, List.getElem?_map, h] at e2
  exact He.dicW_ok (Option.some.inj e2)
/-! ### what a reader is made of -/
theorem nk1 : ¬ (Str.ofString "sight") = Str.ofString "order" := by decide +kernel
theorem nk2 : ¬ (Str.ofString "sight") = Str.ofString "further" := by decide +kernel
theorem nk3 : ¬ (Str.ofString "sight") = Str.ofString "finish" := by decide +kernel
theorem nk4 : ¬ (Str.ofString "order") = Str.ofString "further" := by decide +kernel
theorem nk5 : ¬ (Str.ofString "order") = Str.ofString "finish" := by decide +kernel
theorem nk6 : ¬ (Str.ofString "further") = Str.ofString "finish" := by decide +kernel
structure Cares where
  si : Str
  od : Str
  fu : Str
  fi : Str
def caresL (c : Cares) : List (Str × Str) := [(Str.ofString "sight", c.si), (Str.ofString "order", c.od), (Str.ofString "further", c.fu), (Str.ofString "finish", c.fi)]
def caresK (c : Cares) : List (Key × V) := (caresL c).map fun q => (Sum.inr q.1, V.str q.2)
theorem keyN {a b : Str} (h : ¬ a = b) : ¬ (Sum.inr a : Key) = Sum.inr b := fun e => h (Sum.inr.inj e)
theorem cares_merge (c : Cares) : mergeK [] (caresK c) = caresK c := by
  have a1 : putK ([] : List (Key × V)) (Sum.inr (Str.ofString "sight")) (.str c.si) = [(Sum.inr (Str.ofString "sight"), .str c.si)] := putK_new _ rfl
  have a2 : putK [((Sum.inr (Str.ofString "sight") : Key), V.str c.si)] (Sum.inr (Str.ofString "order")) (.str c.od) = [(Sum.inr (Str.ofString "sight"), .str c.si), (Sum.inr (Str.ofString "order"), .str c.od)] :=
    putK_new _ (by rw [valV_neg (keyN nk1)]; rfl)
  have a3 : putK [((Sum.inr (Str.ofString "sight") : Key), V.str c.si), (Sum.inr (Str.ofString "order"), .str c.od)] (Sum.inr (Str.ofString "further")) (.str c.fu) = [(Sum.inr (Str.ofString "sight"), .str c.si), (Sum.inr (Str.ofString "order"), .str c.od), (Sum.inr (Str.ofString "further"), .str c.fu)] :=
    putK_new _ (by rw [valV_neg (keyN nk2), valV_neg (keyN nk4)]; rfl)
  have a4 : putK [((Sum.inr (Str.ofString "sight") : Key), V.str c.si), (Sum.inr (Str.ofString "order"), .str c.od), (Sum.inr (Str.ofString "further"), .str c.fu)] (Sum.inr (Str.ofString "finish")) (.str c.fi) = caresK c :=
    putK_new _ (by rw [valV_neg (keyN nk3), valV_neg (keyN nk5), valV_neg (keyN nk6)]; rfl)
  unfold mergeK
  unfold caresK caresL at *
  simp only [List.map_cons, List.map_nil, List.foldl_cons, List.foldl_nil]
  rw [a1, a2, a3, a4]
  rfl
def SightOk (z v : Str) : Prop := v = Str.ofString "whole" ∨ v = Str.ofString "start" ∨ (Over z v ∧ v.length = 1)
def CareOk (z nm v : Str) : Prop := (nm = Str.ofString "sight" ∧ SightOk z v) ∨ (nm = Str.ofString "order" ∧ (v = Str.ofString "inner" ∨ v = Str.ofString "outer")) ∨
  (nm = Str.ofString "further" ∧ (v = Str.ofString "refuse" ∨ v = Str.ofString "close")) ∨ (nm = Str.ofString "finish" ∧ (v = Str.ofString "refuse" ∨ v = Str.ofString "close"))
structure CaresOk (z : Str) (c : Cares) : Prop where
  all : ∀ q ∈ caresL c, CareOk z q.1 q.2
theorem CareOk.len {z nm v : Str} (h : CareOk z nm v) : v.length ≤ 10 := by
  have e : (Str.ofString "whole").length = 5 ∧ (Str.ofString "start").length = 5 ∧ (Str.ofString "inner").length = 5 ∧ (Str.ofString "outer").length = 5 ∧ (Str.ofString "refuse").length = 6 ∧ (Str.ofString "close").length = 5 := by decide +kernel
  rcases h with ⟨_, rfl | rfl | ⟨_, h⟩⟩ | ⟨_, rfl | rfl⟩ | ⟨_, rfl | rfl⟩ | ⟨_, rfl | rfl⟩ <;> omega
def rflds (z : Str) (ma : Addr) (tl : Str) (ca : Addr) : List (Str × V) := putF "_cares" (.ref ca) (putF "_tail" (.str tl) (putF "_marks" (.ref ma) (putF "_signs" (.str z) [])))
theorem rn1 : ¬ (Str.ofString "_signs") = Str.ofString "_marks" := by decide +kernel
theorem rn2 : ¬ (Str.ofString "_signs") = Str.ofString "_tail" := by decide +kernel
theorem rn3 : ¬ (Str.ofString "_signs") = Str.ofString "_cares" := by decide +kernel
theorem rn4 : ¬ (Str.ofString "_marks") = Str.ofString "_tail" := by decide +kernel
theorem rn5 : ¬ (Str.ofString "_marks") = Str.ofString "_cares" := by decide +kernel
theorem rn6 : ¬ (Str.ofString "_tail") = Str.ofString "_cares" := by decide +kernel
theorem rflds_signs (z : Str) (ma : Addr) (tl : Str) (ca : Addr) : (rflds z ma tl ca).lookup (Str.ofString "_signs") = some (.str z) := by
  unfold rflds
  rw [lookup_putF, if_neg rn3, lookup_putF, if_neg rn2, lookup_putF, if_neg rn1, lookup_putF, if_pos rfl]
theorem rflds_marks (z : Str) (ma : Addr) (tl : Str) (ca : Addr) : (rflds z ma tl ca).lookup (Str.ofString "_marks") = some (.ref ma) := by
  unfold rflds
  rw [lookup_putF, if_neg rn5, lookup_putF, if_neg rn4, lookup_putF, if_pos rfl]
theorem rflds_tail (z : Str) (ma : Addr) (tl : Str) (ca : Addr) : (rflds z ma tl ca).lookup (Str.ofString "_tail") = some (.str tl) := by
  unfold rflds
  rw [lookup_putF, if_neg rn6, lookup_putF, if_pos rfl]
theorem rflds_cares (z : Str) (ma : Addr) (tl : Str) (ca : Addr) : (rflds z ma tl ca).lookup (Str.ofString "_cares") = some (.ref ca) := by
  unfold rflds
  rw [lookup_putF, if_pos rfl]
theorem rflds_no (z : Str) (ma : Addr) (tl : Str) (ca : Addr) {m : Str} (h1 : ¬ m = Str.ofString "_cares") (h2 : ¬ m = Str.ofString "_tail") (h3 : ¬ m = Str.ofString "_marks") (h4 : ¬ m = Str.ofString "_signs") : (rflds z ma tl ca).lookup m = none := by
  unfold rflds
  rw [lookup_putF, if_neg h1, lookup_putF, if_neg h2, lookup_putF, if_neg h3, lookup_putF, if_neg h4]
  rfl
theorem two_len' (z : Str) (M : Addr) : (putF "_marks" (.ref M) (putF "_signs" (.str z) [])).length < 1000 := by
  show (if Str.ofString "_signs" = Str.ofString "_marks" then [(Str.ofString "_signs", V.ref M)] else (Str.ofString "_signs", V.str z) :: putF (Str.ofString "_marks") (.ref M) []).length < 1000
  rw [if_neg rn1]
  show 2 < 1000
  decide
theorem rn7 : (Str.ofString "_signs" = Str.ofString "_tail") = False := eq_false rn2
theorem three_len' (z : Str) (M : Addr) (tl : Str) : (putF "_tail" (.str tl) (putF "_marks" (.ref M) (putF "_signs" (.str z) []))).length < 1000 := by
  have e1 : putF "_marks" (.ref M) (putF "_signs" (.str z) []) = [(Str.ofString "_signs", V.str z), (Str.ofString "_marks", V.ref M)] := by
    show (if Str.ofString "_signs" = Str.ofString "_marks" then [(Str.ofString "_signs", V.ref M)] else (Str.ofString "_signs", V.str z) :: putF (Str.ofString "_marks") (.ref M) []) = _
    rw [if_neg rn1]
    rfl
  rw [e1]
  show (if Str.ofString "_signs" = Str.ofString "_tail" then (Str.ofString "_signs", V.str tl) :: [(Str.ofString "_marks", V.ref M)] else (Str.ofString "_signs", V.str z) :: (if Str.ofString "_marks" = Str.ofString "_tail" then [(Str.ofString "_marks", V.str tl)] else (Str.ofString "_marks", V.ref M) :: putF (Str.ofString "_tail") (.str tl) [])).length < 1000
  rw [if_neg rn2, if_neg rn4]
  show 3 < 1000
  decide
theorem rm1 : ¬ (Str.ofString "_role_line") = Str.ofString "_cares" := by decide +kernel
theorem rm2 : ¬ (Str.ofString "_role_line") = Str.ofString "_tail" := by decide +kernel
theorem rm3 : ¬ (Str.ofString "_role_line") = Str.ofString "_marks" := by decide +kernel
theorem rm4 : ¬ (Str.ofString "_role_line") = Str.ofString "_signs" := by decide +kernel
theorem cares_self {K : PySem.W.Frag} {H : Hp} (c : Cares) : ∀ e ∈ caresK c, ∃ u, valV (caresK c) e.1 = some u ∧ EqV K H 1 e.2 u := by
  intro e he
  have hs : ∀ x : Str, EqV K H 1 (.str x) (.str x) := fun x => .inl ⟨rfl, rfl⟩
  simp only [caresK, caresL, List.map_cons, List.map_nil, List.mem_cons, List.mem_nil_iff, or_false] at he
  rcases he with rfl | rfl | rfl | rfl
  · exact ⟨_, valV_pos rfl, hs _⟩
  · refine ⟨.str c.od, ?_, hs _⟩
    show valV (_ :: _) _ = _
    rw [valV_neg (keyN nk1)]
    exact valV_pos rfl
  · refine ⟨.str c.fu, ?_, hs _⟩
    show valV (_ :: _ :: _) _ = _
    rw [valV_neg (keyN nk2), valV_neg (keyN nk4)]
    exact valV_pos rfl
  · refine ⟨.str c.fi, ?_, hs _⟩
    show valV (_ :: _ :: _ :: _) _ = _
    rw [valV_neg (keyN nk3), valV_neg (keyN nk5), valV_neg (keyN nk6)]
    exact valV_pos rfl
def ReaderAt (C : Addr) (H : Hp) (p : Addr) (z : Str) (ms : List Str) (tl : Str) (c : Cares) : Prop := ∃ (dx ma ca : Addr), H p = some (.ins C dx (rflds z ma tl ca)) ∧ H ma = some (.lst (ms.map V.str)) ∧ H ca = some (.dK (caresK c))
theorem ReaderAt.same {C : Addr} {H H' : Hp} {p : Addr} {z : Str} {ms : List Str} {tl : Str} {c : Cares} (h : ReaderAt C H p z ms tl c) (s : Same H H') : ReaderAt C H' p z ms tl c := by
  obtain ⟨dx, ma, ca, h1, h2, h3⟩ := h
  exact ⟨dx, ma, ca, s _ _ h1, s _ _ h2, s _ _ h3⟩
structure MarksOk (z : Str) (ms : List Str) : Prop where
  lo : 1 ≤ ms.length
  hi : ms.length ≤ 3
  ov : ∀ m ∈ ms, Over z m
  l1 : ∀ m ∈ ms, 1 ≤ m.length
  l2 : ∀ m ∈ ms, m.length ≤ 12
  nd : ms.Nodup
structure TailOk (z tl : Str) : Prop where
  ov : Over z tl
  l1 : 1 ≤ tl.length
  l2 : tl.length ≤ 3
/-- what is needed of the class Reader -/
structure RdTxt (K : PySem.W.Frag) (mg : Str → Option Value) (C : Addr) : Prop where
  cl : Cls K C
  nS : NoAttr K C "_signs"
  nM : NoAttr K C "_marks"
  nT : NoAttr K C "_tail"
  nC : NoAttr K C "_cares"
  mgC : mg "Reader" = some (.ref C)
/-- the words of the module -/
structure WordsT (K : PySem.W.Frag) (w : World) (mg : Str → Option Value) : Prop where
  si : ∃ a, mg "SIGHTS" = some (.ref a) ∧ SqW K a [.str (Str.ofString "whole"), .str (Str.ofString "start")]
  ca : ∃ a, mg "CARE_WORDS" = some (.ref a) ∧ (∃ b, KDct K w a (Str.ofString "order") (.ref b) ∧ SqW K b [.str (Str.ofString "inner"), .str (Str.ofString "outer")]) ∧
    (∃ b, KDct K w a (Str.ofString "further") (.ref b) ∧ SqW K b [.str (Str.ofString "refuse"), .str (Str.ofString "close")]) ∧
    (∃ b, KDct K w a (Str.ofString "finish") (.ref b) ∧ SqW K b [.str (Str.ofString "refuse"), .str (Str.ofString "close")])
def spWord (K : PySem.W.Frag) : Sp := fun vs H Q _ => ∃ (v : Str) (a : Addr) (xs : List V), vs = [.str v, .ref a] ∧ SqT K H a xs ∧ xs.all flatV = true ∧ Q (.bl (inV (.str v) xs)) H
def spIsMark : Sp := fun vs H Q _ => ∃ (z m : Str), vs = [.str z, .str m] ∧ Over z m ∧ 1 ≤ m.length ∧ m.length ≤ 12 ∧ Q (.bl true) H
def spCheckMarks : Sp := fun vs H Q _ => ∃ (z : Str) (a : Addr) (ms : List Str), vs = [.str z, .ref a, .int 3] ∧ H a = some (.lst (ms.map V.str)) ∧ MarksOk z ms ∧ ∀ H', Same H H' → Q .non H'
def spIsSight : Sp := fun vs H Q _ => ∃ (z v : Str), vs = [.str z, .str v] ∧ SightOk z v ∧ v.length ≤ 10 ∧ Q (.bl true) H
def spTailB : Sp := fun vs H Q _ => ∃ (z tl : Str), vs = [.str z, .str tl] ∧ TailOk z tl ∧ Q (.bl true) H
def spCheckTail : Sp := fun vs H Q _ => ∃ (z tl : Str), vs = [.str z, .str tl] ∧ TailOk z tl ∧ Q .non H
def spCheckCare : Sp := fun vs H Q _ => ∃ (z nm v : Str), vs = [.str z, .str nm, .str v] ∧ CareOk z nm v ∧ Q .non H
def spRInit (C : Addr) : Sp := fun vs H Q _ => ∃ (p dx : Addr) (z : Str) (a : Addr) (ms : List Str) (tl : Str) (c : Cares), vs = [.ref p, .str z, .ref a, .str tl, .str c.si, .str c.od, .str c.fu, .str c.fi] ∧ H p = some (.ins C dx []) ∧ Abc z ∧
  H a = some (.lst (ms.map V.str)) ∧ MarksOk z ms ∧ TailOk z tl ∧ CaresOk z c ∧ ∀ H', ReaderAt C H' p z ms tl c → But p H H' → Q .non H'
end FL
namespace FL
open PySem PySem.Spec PyProof.Rows L2 LamX
/-! ### what the top left: defs and facts, tables of texts, one def's empty table of code objects; the part of the heap holds sysModules -/
def partU (n : Nat) (g : Addr → Option Obj) : PySem.W.Frag := He.frT g (sysModules :: He.asD g n)
abbrev SawU : Type := ((Bool × List He.FnV) × Bool) × List (Option (List (Option (Str × Int))))
def sawU (n : Nat) (ds : List DA) (ex : PySem.W.Frag → Bool) (ts : Tbs) (p : He.Defn) (g : Addr → Option Obj) : SawU :=
  ((lookF ds ex (partU n g), He.tabsB g [p] (partU n g)), ts.map fun t => He.dicW (partU n g) (t.1 (partU n g)))
theorem saysU_of {n : Nat} {ds : List DA} {ex : PySem.W.Frag → Bool} {p : He.Defn} {h : Heap} (e1 : lookF ds ex (partU n h.get?) = dueF ds) (e2 : He.tabsB h.get? [p] (partU n h.get?) = true) : SaysT ds ex p h (partU n h.get?) := by
  obtain ⟨a1, a2⟩ := Bool.and_eq_true_iff.mp (List.all_eq_true.mp e2 p List.mem_cons_self)
  cases q : h.get? (He.cT (partU n h.get?) p).2 with
  | none =>
    rw [q] at a2
    cases a2
  | some o =>
    rw [q] at a2
    exact ⟨e1, a1, He.frT_none q a2, by rw [q, He.emptyTab_eq a2]⟩
theorem tabsU_of {n : Nat} {ds : List DA} {ex : PySem.W.Frag → Bool} {ts : Tbs} {p : He.Defn} {w : World} {h : Heap} (e : sawU n ds ex ts p h.get? = ((dueF ds, true), ts.map fun t => some (He.keysIn w.params t.2))) : (ts.map fun t => He.dicW (partU n h.get?) (t.1 (partU n h.get?))) = ts.map fun t => some (He.keysIn w.params t.2) := congrArg Prod.snd e
def hookU (n : Nat) (ds : List DA) (ex : PySem.W.Frag → Bool) (ts : Tbs) (p : He.Defn) : PySem.W.Hook where
  α := SawU
  obs := fun s => sawU n ds ex ts p s.heap.get?
  val := fun w => ((dueF ds, true), ts.map fun t => some (He.keysIn w.params t.2))
  says := fun w h => ∃ K : PySem.W.Frag, K.In h ∧ SaysT ds ex p h K ∧ (ts.map fun t => He.dicW K (t.1 K)) = ts.map fun t => some (He.keysIn w.params t.2)
  of := fun _ _ e => ⟨_, He.frT_in, saysU_of (congrArg (fun z : SawU => z.1.1) e) (congrArg (fun z : SawU => z.1.2) e), tabsU_of e⟩
  keeps := fun _ _ _ ⟨K, i, c, d⟩ k => ⟨K, PySem.W.Frag.In.keeps i k, ⟨c.seen, c.code, c.out, k _ _ c.tab⟩, d⟩
def obU (n : Nat) (ds : List DA) (ex : PySem.W.Frag → Bool) (ts : Tbs) (p : He.Defn) (s : PySem.W.SharedT) : SawU := sawU n ds ex ts p (HandSHeadRun.getT s)
theorem obU_eq {n : Nat} {ds : List DA} {ex : PySem.W.Frag → Bool} {ts : Tbs} {p : He.Defn} (s : PySem.W.SharedT) : obU n ds ex ts p s = (hookU n ds ex ts p).obs s.abs := by
  have e : HandSHeadRun.getT s = s.abs.heap.get? := funext fun a => HandSHeadRun.getT_eq s a
  unfold obU
  rw [e]
  rfl
end FL
namespace FL
open PySem PySem.Spec PyProof.Rows L2 LamX
/-! ### what the top left, over a written list of addresses: defs and facts, tables of texts, the empty tables of several defs that make lambdas -/
abbrev SawL : Type := ((Bool × List He.FnV) × Bool) × List (Option (List (Option (Str × Int))))
def sawL (as : List Addr) (ds : List DA) (ex : PySem.W.Frag → Bool) (ts : Tbs) (ps : List He.Defn) (g : Addr → Option Obj) : SawL :=
  ((lookF ds ex (He.frT g as), He.tabsB g ps (He.frT g as)), ts.map fun t => He.dicW (He.frT g as) (t.1 (He.frT g as)))
structure SaysL (ds : List DA) (ex : PySem.W.Frag → Bool) (ps : List He.Defn) (h : Heap) (K : PySem.W.Frag) : Prop where
  seen : lookF ds ex K = dueF ds
  code : ∀ p ∈ ps, PySem.W.codeHdIn K (He.cT K p).1 (He.cT K p).2 = true
  out : ∀ p ∈ ps, K.lookup (He.cT K p).2 = none
  tab : ∀ p ∈ ps, h.get? (He.cT K p).2 = some bareTab
theorem saysL_of {as : List Addr} {ds : List DA} {ex : PySem.W.Frag → Bool} {ps : List He.Defn} {h : Heap} (e1 : lookF ds ex (He.frT h.get? as) = dueF ds) (e2 : He.tabsB h.get? ps (He.frT h.get? as) = true) : SaysL ds ex ps h (He.frT h.get? as) := by
  have key : ∀ p ∈ ps, PySem.W.codeHdIn (He.frT h.get? as) (He.cT (He.frT h.get? as) p).1 (He.cT (He.frT h.get? as) p).2 = true ∧ (He.frT h.get? as).lookup (He.cT (He.frT h.get? as) p).2 = none ∧ h.get? (He.cT (He.frT h.get? as) p).2 = some bareTab := fun p hp => by
    obtain ⟨a1, a2⟩ := Bool.and_eq_true_iff.mp (List.all_eq_true.mp e2 p hp)
    cases q : h.get? (He.cT (He.frT h.get? as) p).2 with
    | none =>
      rw [q] at a2
      cases a2
    | some o =>
      rw [q] at a2
      exact ⟨a1, He.frT_none q a2, by rw [He.emptyTab_eq a2]⟩
  exact ⟨e1, fun p hp => (key p hp).1, fun p hp => (key p hp).2.1, fun p hp => (key p hp).2.2⟩
theorem tabsL_of {as : List Addr} {ds : List DA} {ex : PySem.W.Frag → Bool} {ts : Tbs} {ps : List He.Defn} {w : World} {h : Heap} (e : sawL as ds ex ts ps h.get? = ((dueF ds, true), ts.map fun t => some (He.keysIn w.params t.2))) :
    (ts.map fun t => He.dicW (He.frT h.get? as) (t.1 (He.frT h.get? as))) = ts.map fun t => some (He.keysIn w.params t.2) := congrArg Prod.snd e
def hookL (as : List Addr) (ds : List DA) (ex : PySem.W.Frag → Bool) (ts : Tbs) (ps : List He.Defn) : PySem.W.Hook where
  α := SawL
  obs := fun s => sawL as ds ex ts ps s.heap.get?
  val := fun w => ((dueF ds, true), ts.map fun t => some (He.keysIn w.params t.2))
  says := fun w h => ∃ K : PySem.W.Frag, K.In h ∧ SaysL ds ex ps h K ∧ (ts.map fun t => He.dicW K (t.1 K)) = ts.map fun t => some (He.keysIn w.params t.2)
  of := fun _ _ e => ⟨_, He.frT_in, saysL_of (congrArg (fun z : SawL => z.1.1) e) (congrArg (fun z : SawL => z.1.2) e), tabsL_of e⟩
  keeps := fun _ _ _ ⟨K, i, c, d⟩ k => ⟨K, PySem.W.Frag.In.keeps i k, ⟨c.seen, c.code, c.out, fun p hp => k _ _ (c.tab p hp)⟩, d⟩
def obL (as : List Addr) (ds : List DA) (ex : PySem.W.Frag → Bool) (ts : Tbs) (ps : List He.Defn) (s : PySem.W.SharedT) : SawL := sawL as ds ex ts ps (HandSHeadRun.getT s)
theorem obL_eq {as : List Addr} {ds : List DA} {ex : PySem.W.Frag → Bool} {ts : Tbs} {ps : List He.Defn} (s : PySem.W.SharedT) : obL as ds ex ts ps s = (hookL as ds ex ts ps).obs s.abs := by
  have e : HandSHeadRun.getT s = s.abs.heap.get? := funext fun a => HandSHeadRun.getT_eq s a
  unfold obL
  rw [e]
  rfl
/-! ### the end with several tables -/
def withTs (ts : List Addr) (G : Hp) : Hp := fun b => if b ∈ ts then some (.tbl #[]) else G b
theorem withs_at {ts : List Addr} {b : Addr} {G : Hp} {u : HO} (h : withTs ts G b = some u) : (b ∈ ts ∧ u = .tbl #[]) ∨ (b ∉ ts ∧ G b = some u) := by
  unfold withTs at h
  by_cases c : b ∈ ts
  · rw [if_pos c] at h
    exact .inl ⟨c, (Option.some.inj h).symm⟩
  · rw [if_neg c] at h
    exact .inr ⟨c, h⟩
theorem endTs {P : Program} {w : World} {K : PySem.W.Frag} {mg mb : Str → Option Value} {k : Nat} {fa a : Addr} {cs : List (Addr × Addr)} {fd : FuncData} {x : Str} {sp : Sp} {s : Shared} {vs : List Value} {ns : List Int}
    (kx : K.In s.heap) (gl : s.heap.Ns mainGlobals mg) (bl : s.heap.Ns builtinsNs mb) (bb : ∀ y : Str, y ≠ "__name__" → mb y = bootBuiltins y) (nl : s.heap.NoLimit) (ng : s.gens = #[])
    (tabs : ∀ p ∈ cs, s.heap.get? p.2 = some bareTab) (outs : ∀ p ∈ cs, K.lookup p.2 = none) (cds : ∀ p ∈ cs, PySem.W.CodeHd s.heap p.1 p.2)
    (bmod : ∃ (bm : Addr) (ob : Obj), mg "__builtins__" = some (.ref bm) ∧ bm ≠ builtinsNs ∧ s.heap.get? bm = some ob ∧ ob.cls = .type "module" ∧ ob.dict = some builtinsNs ∧ ob.data = .plain)
    (oa : s.heap.get? a = some { cls := .type "list", data := .seq vs.toArray }) (hi : IntsAre vs ns) (le : ns.length ≤ sizeLine) (rm : Room k callerA)
    (F : ∀ base : Heap, K.In base → base.Ns mainGlobals mg → (∀ p ∈ cs, TabB base mg p.1 p.2) → FnG P w K mg base CX0 k fa fd [x] sp) (bd : ∀ (s : Shared) (u : Value), BindsTo s fd ⟨[u], []⟩ [(x, u)])
    (pr : ∀ H : Hp, (∀ p ∈ cs, H p.2 = some (.tbl #[])) → SqL K H a (ns.map V.int) → sp [.ref a] H (fun v _ => v = .bl true) fun _ _ _ => False) :
    codeAny (model P w) callerA (.call (.ref fa) ⟨[.ref a], []⟩) (fun r t => r = .ok (.ret (.bool true)) ∧ OldK s.heap t.heap ∧ t.os = s.os ∧ AllBare t.gens) s := by
  have rv := vals_ints hi
  have lv := hi.length
  let o : Obj := { cls := .type "list", data := .seq vs.toArray }
  let H : Hp := withTs (cs.map (·.2)) (onlyH K a o ns)
  have isT : ∀ {b : Addr}, b ∈ cs.map (·.2) → s.heap.get? b = some bareTab := fun {b} hb => by
    obtain ⟨p, hp, e⟩ := List.mem_map.mp hb
    rw [← e]
    exact tabs p hp
  have na : a ∉ cs.map (·.2) := fun z => by
    have := isT z
    rw [oa] at this
    cases this
  have hT : ∀ p ∈ cs, H p.2 = some (.tbl #[]) := fun p hp => if_pos (List.mem_map.mpr ⟨p, hp, rfl⟩)
  have hA : H a = onlyH K a o ns a := if_neg na
  have sq : SqL K H a (ns.map V.int) := by
    cases q : K.lookup a with
    | none => exact .inl (.inr ⟨o, hA.trans (if_pos ⟨rfl, q⟩)⟩)
    | some o' =>
      have e := kx a o' q
      rw [oa] at e
      cases e
      exact .inr ⟨_, vs.toArray, _, q, rfl, rfl, rfl, by rw [List.size_toArray, lv]; exact le, by simpa using rv⟩
  have ok : HOk P w H s.heap := fun b u e => by
    rcases withs_at e with ⟨hb, rfl⟩ | ⟨_, e⟩
    · exact isT hb
    · obtain ⟨rfl, _, rfl⟩ := only_at e
      exact ⟨oa, by rw [List.length_map]; exact le, vs, _, rv, oa⟩
  have seen : ∀ {b : Addr} {u : HO}, H b = some u → s.heap.get? b = some bareTab ∨ s.heap.get? b = some o := fun {b u} e => by
    rcases withs_at e with ⟨hb, _⟩ | ⟨_, e⟩
    · exact .inl (isT hb)
    · obtain ⟨rfl, _, _⟩ := only_at e
      exact .inr oa
  have stays : ∀ {b : Addr} {u : Obj}, s.heap.get? b = some u → (∀ v n, u.data ≠ .seq v n) → u.data ≠ .fields #[] → (hidT s.heap H).get? b = some u := fun {b u} e h1 h2 => by
    refine hidT_get e ?_
    cases q : H b with
    | none => rfl
    | some v =>
      rcases seen q with z | z
      · rw [e] at z
        cases z
        exact absurd rfl h2
      · rw [e] at z
        cases z
        exact absurd rfl (h1 _ _)
  have stay : ∀ {b : Addr} {m : Str → Option Value}, s.heap.Ns b m → (hidT s.heap H).Ns b m := fun {b m} n => by
    obtain ⟨ob, es, ep, e, d, r⟩ := n
    refine ⟨ob, es, ep, stays e (fun v n z => ?_) (fun z => ?_), d, r⟩
    · rw [d] at z
      cases z
    · rw [d] at z
      cases z
  have kb : K.In (hidT s.heap H) := fun b ob e => by
    refine hidT_get (kx b ob e) ?_
    cases q : H b with
    | none => rfl
    | some u =>
      rcases withs_at q with ⟨hb, _⟩ | ⟨_, q⟩
      · obtain ⟨p, hp, ep⟩ := List.mem_map.mp hb
        rw [← ep, outs p hp] at e
        cases e
      · obtain ⟨rfl, n, _⟩ := only_at q
        rw [n] at e
        cases e
  have md : Mod K mg (hidT s.heap H) := ⟨kb, stay gl, ⟨mb, stay bl, bb⟩, by
    obtain ⟨mc, n1, n2⟩ := nl
    exact ⟨mc, stay n1, n2⟩⟩
  have tb : ∀ p ∈ cs, TabB (hidT s.heap H) mg p.1 p.2 := fun p hp => by
    have tab := tabs p hp
    refine ⟨?_, ?_, ?_⟩
    · obtain ⟨u, us, f1, f2, f3, f4, f5, f6, f7, e1, r1, r2, r3, rest⟩ := cds p hp
      refine ⟨u, us, f1, f2, f3, f4, f5, f6, f7, stays e1 (fun v n z => ?_) (fun z => ?_), r1, r2, r3, rest⟩
      · rw [r2] at z
        cases z
      · rw [r2] at z
        cases z
        simp at r3
    · obtain ⟨bm, ob, m1, m2, m3, m4, m5, m6⟩ := bmod
      refine ⟨bm, ob, m1, m2, fun q => ?_, fun q => ?_, stays m3 (fun v n z => ?_) (fun z => ?_), m4, m5, m6⟩
      · obtain ⟨u, es, ep, e, d, _⟩ := gl
        rw [q, e] at m3
        cases m3
        rw [d] at m6
        cases m6
      · rw [q, tab] at m3
        cases m3
        cases m6
      · rw [m6] at z
        cases z
      · rw [m6] at z
        cases z
    · intro q
      obtain ⟨u, es, ep, e, d, _⟩ := gl
      rw [q, tab] at e
      cases e
      cases d
  have env : Env0 P w K mg (hidT s.heap H) callerA [] s H :=
    ⟨rfl, md, fun b ob e => of_hidT e, Nat.le_of_eq (hidT_size _ _), trivial, fun b q => absurd (show b ∈ ([] : List Addr) from q) (by simp), ok, .of_eq ng⟩
  have run := (F _ kb (stay gl) tb).goes callerA [] s H ⟨[.ref a], []⟩ [.ref a] [.ref a] _ _ rm rfl env (bd s (.ref a)) (.cons rfl .nil) (pr H hT sq)
  refine codeAny_mono run fun r t z => ?_
  cases r with
  | error e => exact False.elim z
  | ok fl =>
    cases fl with
    | next => exact False.elim z
    | brk => exact False.elim z
    | cont => exact False.elim z
    | ret u =>
      obtain ⟨v, H', so, br, un, ok', rr, q⟩ := z
      obtain rfl : v = .bl true := q
      obtain rfl : u = Value.bool true := rr
      have grown : ∀ b ∈ cs.map (·.2), ∃ more : Array Value, t.heap.get? b = some { cls := .none, data := .fields more } := fun b hb => by
        obtain ⟨m, z⟩ := un.tbls b #[] (if_pos hb)
        exact ⟨_, ok' b _ z⟩
      have old : ∀ b ob, b ∉ cs.map (·.2) → s.heap.get? b = some ob → t.heap.get? b = some ob := fun b ob nb e => by
        cases q : H b with
        | none => exact un.keep b ob e q (by intro n; exact absurd (show b ∈ ([] : List Addr) from n) (by simp)) (by simp)
        | some u =>
          rcases withs_at q with ⟨z, _⟩ | ⟨_, q2⟩
          · exact absurd z nb
          · obtain ⟨rfl, n, rfl⟩ := only_at q2
            obtain ⟨e2, _⟩ := ok' b _ (un.frzs b o _ q)
            rw [oa] at e
            cases e
            exact e2
      refine ⟨rfl, ⟨fun b ob e => ?_, fun b ob e => ?_⟩, so, br⟩
      · by_cases z : b ∈ cs.map (·.2)
        · obtain ⟨more, gm⟩ := grown b z
          obtain ⟨p, hp, ep⟩ := List.mem_map.mp z
          subst ep
          rw [tabs p hp] at e
          cases e
          exact .inr (.inl ⟨((cds p hp).tab (tabs p hp)).isCodeTable, rfl, #[], more, rfl, by rw [Array.empty_append]; exact gm⟩)
        · exact .inl (old b ob z e)
      · by_cases z : b ∈ cs.map (·.2)
        · obtain ⟨more, gm⟩ := grown b z
          exact ⟨_, gm⟩
        · exact ⟨ob, old b ob z e⟩
theorem walkTs {l : PySem.W.OpenLaw} {n k : Nat} {q : Program} {loose : List Str} {XP : (Str → Option Value) → Heap → Prop} {YP : World → Heap → Prop} {d : DefRec} {x : Str} (hn : l.most = some n) (hs : n ≤ sizeLine) (hd : d.params.defaults = []) (rm : Room k callerA)
    (F : ∀ (w : World) (mg : Str → Option Value) (fa : Addr) (h : Heap), YP w h → h.Ns mainGlobals mg → mg d.name = some (.ref fa) → ∃ (K : PySem.W.Frag) (fd : FuncData) (sp : Sp) (cs : List (Addr × Addr)), K.In h ∧ (∀ p ∈ cs, h.get? p.2 = some bareTab) ∧ (∀ p ∈ cs, K.lookup p.2 = none) ∧ (∀ p ∈ cs, PySem.W.CodeHd h p.1 p.2)
      ∧ (∀ (s : Shared) (u : Value), BindsTo s fd ⟨[u], []⟩ [(x, u)])
      ∧ (∀ (H : Hp) (a : Addr) (ns : List Int), ns.length ≤ n → (∀ p ∈ cs, H p.2 = some (.tbl #[])) → SqL K H a (ns.map V.int) → sp [.ref a] H (fun v _ => v = .bl true) fun _ _ _ => False)
      ∧ ∀ base : Heap, K.In base → base.Ns mainGlobals mg → (∀ p ∈ cs, TabB base mg p.1 p.2) → FnG l.prog w K mg base CX0 k fa fd [x] sp) :
    PySem.W.WalkO q loose XP YP l.row.toRowW d [] (fun f vs => PySem.call f vs) := by
  refine Att.attach_call hn hd ?_
  intro w s₀ s₁ mg mb fa o pm cd doc a vs ns G Y ho hd' hcd hmg hobj hints hlen hg
  obtain ⟨K, fd, sp, cs, kx, tabs, outs, codes, bd, pr, FF⟩ := F w mg fa _ Y G.T.g hmg
  exact endTs kx G.T.g G.T.b G.T.builtins G.T.nolimit hg tabs outs codes G.T.bmain hobj hints (Nat.le_trans hlen hs) rm FF bd fun H t0 sq => pr H a ns hlen t0 sq
end FL
namespace FL
open PySem PySem.Spec PyProof.Rows L2 FL
/-! ### a def with keyword-only defaults, called without them -/
def kwOk (K : PySem.W.Frag) (a : Addr) (kws : List (Str × V)) : Bool := match K.lookup a with
  | some ⟨_, _, .func fd, _⟩ => He.kwdB K fd.kwdefaults kws
  | _ => false
theorem funD_of {K : PySem.W.Frag} {x qual : Str} {st : Stmt} {f : Addr} {fd : FuncData} {kws : List (Str × V)} (F : Fun K x qual st f fd) (c : kwOk K f kws = true) : FunD K x qual (defArgs st) (defBody st) (defScope st) [] kws f fd := by
  obtain ⟨oc, od, kV, doc, pm, an, cdv, ct, osl, e, lk, hcd⟩ := F.ex
  refine ⟨⟨oc, od, .none, kV, doc, pm, an, cdv, ct, osl, e, lk, hcd, .inl ⟨rfl, rfl⟩, ?_⟩, F.kp⟩
  unfold kwOk at c
  rw [lk, e] at c
  exact He.kwdB_ok c
end FL
namespace FL
open PySem PySem.Spec PyProof.Rows L2 LamX
/-! ### an error's class, as the top left it -/
def oexB (K : PySem.W.Frag) (C : Addr) : Bool := match K.lookup C with
  | some ⟨.type t, _, .cls cd, sl⟩ => decide (t = "type") && (match cd.mro, sl.toList with
    | .ref D :: bm, [_, _, _, _, some (.builtin m), _] => decide (D = C) && (decide (m = "ValueError.__new__") && (!cd.hasDel && (cd.hasDict && PySem.HandSPX.refsVE bm)))
    | _, _ => false)
  | _ => false
theorem oex_cls {K : PySem.W.Frag} {C : Addr} (h : oexB K C = true) : ∃ nm q N bs bm sn sub ab col dd k0 k1 k2 k3 k5, K.lookup C = some (excClassObj nm q C N bs bm true sn sub ab col dd k0 k1 k2 k3 k5 "ValueError.__new__") ∧ PySem.HandSPX.refsVE bm = true := by
  unfold oexB at h
  cases e : K.lookup C with
  | none =>
    rw [e] at h
    cases h
  | some o =>
    obtain ⟨oc, od, dt, sl⟩ := o
    rw [e] at h
    cases oc with
    | type t =>
      cases dt with
      | cls cd =>
        obtain ⟨et, h⟩ := Bool.and_eq_true_iff.mp h
        have et := of_decide_eq_true et
        obtain ⟨nm, bs, mro, ns, qn, hd, sn, sub, ab, col, del⟩ := cd
        obtain ⟨l⟩ := sl
        dsimp only at h
        split at h
        · obtain ⟨h1, h⟩ := Bool.and_eq_true_iff.mp h
          obtain ⟨h2, h⟩ := Bool.and_eq_true_iff.mp h
          obtain ⟨h3, h⟩ := Bool.and_eq_true_iff.mp h
          obtain ⟨h4, h5⟩ := Bool.and_eq_true_iff.mp h
          have h1 := of_decide_eq_true h1
          have h2 := of_decide_eq_true h2
          subst h1 h2 et
          have h3 : del = false := by simpa using h3
          have h4 : hd = true := h4
          subst h3 h4
          exact ⟨_, _, _, _, _, _, _, _, _, _, _, _, _, _, _, rfl, h5⟩
        · cases h
      | _ => cases h
    | _ => cases h
def ecB (K : PySem.W.Frag) (C : Addr) : Bool :=
  decide (PySem.W.findIn K (.ref C) "__getattribute__" = some (some (.builtin "BaseException.__getattribute__"))) && (decide (PySem.W.findIn K (.ref C) "__getattr__" = some none)
  && (decide (PySem.W.subIn K (.ref C) (.type "BaseException") = some true) && (PySem.W.hasDictIn K C && (decide (PySem.W.findIn K (.ref C) "__class__" = some (some (.builtin "object.__class__")))
  && (decide (PySem.W.specialIn K (.builtin "object.__class__") "__get__" = some (some (.builtin "getset_descriptor.__get__"))) && (decide (PySem.W.takesIn K (.builtin "object.__class__") = some true)
  && decide (PySem.W.mroIn K C (.type "object") = some true)))))))
theorem ec_ok {K : PySem.W.Frag} {C : Addr} (h : ecB K C = true) : ExcC K C := by
  unfold ecB at h
  simp only [Bool.and_eq_true, decide_eq_true_eq] at h
  obtain ⟨h1, h2, h3, h4, h5, h6, h7, h8⟩ := h
  exact ⟨h1, h2, h3, h4, h5, h6, h7, h8⟩
def errB (K : PySem.W.Frag) (n : Str) (C fI : Addr) : Bool :=
  oexB K C && (decide (PySem.W.findIn K (.ref C) "__setattr__" = some (some (.builtin "object.__setattr__"))) && (decide (PySem.W.subIn K (.ref C) (.type "BaseException") = some true)
  && (decide (PySem.W.typeIn K (.ref C) = some (.type "type")) && (PySem.W.keepIn K (.ref C) && (decide (PySem.W.findIn K (.ref C) "__init__" = some (some (.ref fI)))
  && (decide (PySem.W.typeIn K (.ref fI) = some (.type "function")) && (decide (PySem.W.findIn K (.ref C) n = some none) && (xfB K C && ecB K C))))))))
theorem err_ok {K : PySem.W.Frag} {mg : Str → Option Value} {x n : Str} {C fI : Addr} (h : errB K n C fI = true) (g : mg x = some (.ref C)) : ErC K mg x n C fI := by
  unfold errB at h
  simp only [Bool.and_eq_true, decide_eq_true_eq] at h
  obtain ⟨h1, h2, h3, h4, h5, h6, h7, h8, h9, h10⟩ := h
  exact ⟨g, ⟨oex_cls h1, h2, h3, h4, h5⟩, h6, h7, h8, xfB_ok h9, ec_ok h10⟩
end FL
/-! errors with two fields: __init__(self, m, n): self.m = m; self.n = n -/
namespace FL
open PySem PySem.Spec PyProof.Rows L2
structure ErC2 (K : PySem.W.Frag) (mg : Str → Option Value) (x m n : Str) (C fI : Addr) : Prop where
  gC : mg x = some (.ref C)
  oex : OexC K C
  iC : PySem.W.findIn K (.ref C) "__init__" = some (some (.ref fI))
  tI : PySem.W.typeIn K (.ref fI) = some (.type "function")
  no1 : PySem.W.findIn K (.ref C) m = some none
  no2 : PySem.W.findIn K (.ref C) n = some none
  xf : XfC K C
  ec : ExcC K C
def spErr2 (K : PySem.W.Frag) (m n : Str) : Sp := fun vs H Q _ => ∃ (a C : Addr) (u v : V), vs = [.ref a, u, v] ∧ OexC K C ∧ PySem.W.findIn K (.ref C) m = some none ∧ PySem.W.findIn K (.ref C) n = some none ∧ H a = some (exo a C none) ∧
  ∀ dx, H dx = none → dx ≠ a → Q .non (upd (upd (upd H dx (exd dx [(m, u)])) a (exo a C (some dx))) dx (exd dx [(n, v), (m, u)]))
section
variable {P : Program} {w : World} {K : PySem.W.Frag} {mg : Str → Option Value} {base : Heap}
theorem ok_err2 {q : Str} {st : Stmt} {m n : Str} {f : Addr} {fd : FuncData} {p1 p2 p3 p4 q1 q2 q3 q4 : Pos} (F : Fun K "__init__" q st f fd) (S : FnScope ["self", m, n] ["self", m, n] (defScope st))
    (hb : defBody st = [.Assign [.Attribute (.Name "self" p1) m p2] (.Name m p3) p4, .Assign [.Attribute (.Name "self" q1) n q2] (.Name n q3) q4]) (hs : Vis (defScope st) "self") (hm : Vis (defScope st) m) (hn : Vis (defScope st) n)
    (hd : (m == ("__debug__" : Str)) = false) (hcd : (m == ("__classdict__" : Str)) = false) (hd2 : (n == ("__debug__" : Str)) = false) (hcd2 : (n == ("__classdict__" : Str)) = false)
    (hsw : ∀ env : Env, swapsWith (.Name m p3) (some (.Attribute (.Name "self" p1) m p2)) p4.line env = pure false) (hsw2 : ∀ env : Env, swapsWith (.Name n q3) (some (.Attribute (.Name "self" q1) n q2)) q4.line env = pure false) :
    FnOk P w K mg base CX0 1 f fd ["self", m, n] (spErr2 K m n) := by
  refine F.ok S (fun vs H Q E h => ?_) (fun cdv A outer s H vs Q E hr h => ?_)
  · obtain ⟨_, _, _, _, rfl, _⟩ := h
    rfl
  · obtain ⟨a, C, u, v, rfl, T, n1, n2, ha, k⟩ := h
    rw [hb]
    refine ⟨_, pss_cons (ps_ost (pe_var (i := 0) rfl hs) (pe_var (i := 1) rfl hm hd hcd) (hsw _)) (pss_one (ps_ost (pe_var (i := 0) rfl hs) (pe_var (i := 2) rfl hn hd2 hcd2) (hsw2 _))), ?_⟩
    refine ⟨_, rfl, _, rfl, a, C, rfl, T, n1, .inl ⟨ha, fun dx h1 h2 => ?_⟩⟩
    refine ⟨_, rfl, _, rfl, a, C, rfl, T, n2, .inr ⟨dx, [(m, u)], upd_same, ?_, by show 1 ≤ 900; decide, k dx h1 h2⟩⟩
    rw [upd_ne h2, upd_same]
end
theorem del_upds2 {H : Hp} {a d : Addr} {o1 o2 o3 o4 o5 : HO} (n : H a = none) (hd : d ≠ a) : upd (del (upd (upd (upd (upd H a o1) d o2) a o3) d o5) a) d o4 = upd H d o4 := by
  funext b
  by_cases h1 : b = d
  · rw [h1, upd_same, upd_same]
  · rw [upd_ne h1, upd_ne h1]
    by_cases h2 : b = a
    · rw [h2, del_same, n]
    · rw [del_ne h2, upd_ne h1, upd_ne h2, upd_ne h1, upd_ne h2]
theorem mkErr2 {K : PySem.W.Frag} {m n : Str} {C : Addr} {u v : V} {H : Hp} {Q : XK} (T : OexC K C) (n1 : PySem.W.findIn K (.ref C) m = some none) (n2 : PySem.W.findIn K (.ref C) n = some none) (h : ∀ d, H d = none → Q (.ref C) (some d) (upd H d (.xd [(n, v), (m, u)]))) :
    [u, v].length ≤ 1000 ∧ ∀ a, H a = none → spErr2 K m n (.ref a :: ([u, v] ++ [])) (upd H a (exo a C none))
      (fun r H2 => r = .non ∧ ∃ (d : Addr) (fs : List (Str × V)), H2 a = some (exo a C (some d)) ∧ H2 d = some (exd d fs) ∧ H d = none ∧ Q (.ref C) (some d) (upd (del H2 a) d (.xd fs))) (fun _ _ _ => False) := by
  refine ⟨by show 2 ≤ 1000; decide, fun a ha => ⟨a, C, u, v, rfl, T, n1, n2, upd_same, fun dx h1 h2 => ⟨rfl, dx, [(n, v), (m, u)], ?_, upd_same, ?_, ?_⟩⟩⟩
  · rw [upd_ne (Ne.symm h2), upd_same]
  · rw [upd_ne h2] at h1
    exact h1
  · rw [upd_ne h2] at h1
    rw [del_upds2 ha h2]
    exact h dx h1
/-- an error's class, as the top left it -/
def errB2 (K : PySem.W.Frag) (m n : Str) (C fI : Addr) : Bool := errB K m C fI && decide (PySem.W.findIn K (.ref C) n = some none)
theorem err_ok2 {K : PySem.W.Frag} {mg : Str → Option Value} {x m n : Str} {C fI : Addr} (h : errB2 K m n C fI = true) (g : mg x = some (.ref C)) : ErC2 K mg x m n C fI := by
  obtain ⟨h1, h2⟩ := Bool.and_eq_true_iff.mp h
  have T := err_ok h1 g
  exact ⟨T.gC, T.oex, T.iC, T.tI, T.no, of_decide_eq_true h2, T.xf, T.ec⟩
end FL
namespace FL
open PySem PySem.Spec PyProof.Rows L2
/-! ### what stays where only the pot changes -/
theorem But.rules {p : Addr} {H H' : Hp} {xs : List V} {rs : List Rule} (b : But p H H') (hp : PotAt H p) (h : RulesAt H xs rs) : RulesAt H' xs rs := RulesAt.imp h (b.tups hp)
theorem pot_list {H : Hp} {p : Addr} {xs : List V} {rs : List Rule} (hp : PotAt H p) (h : H p = some (.lst xs)) (r : RulesAt H xs rs) : False := by
  obtain ⟨a, b, e, _⟩ := hp
  rw [e] at h
  cases h
  cases r with
  | cons x _ =>
    obtain ⟨t, q, _⟩ := x
    cases q
theorem But.sqR {K : PySem.W.Frag} {p D : Addr} {H H' : Hp} {xs : List V} {rs : List Rule} (b : But p H H') (hp : PotAt H p) (h : SqL K H D xs) (r : RulesAt H xs rs) : SqL K H' D xs := by
  rcases h with (h | ⟨o, h⟩) | h
  · refine .inl (.inl (b _ _ h fun e => ?_))
    subst e
    exact pot_list hp h r
  · refine .inl (.inr ⟨o, b _ _ h fun e => ?_⟩)
    obtain ⟨_, _, q, _⟩ := hp
    rw [e, q] at h
    cases h
  · exact .inr h
theorem Deal.but {K : PySem.W.Frag} {H H' : Hp} {D p : Addr} {z : Str} {rs : List Rule} (d : Deal K H D z rs) (hp : PotAt H p) (b : But p H H') : Deal K H' D z rs := by
  obtain ⟨xs, h1, h2⟩ := d.ex
  exact ⟨d.az, ⟨xs, b _ _ h1 (fun e => by subst e; exact pot_list hp h1 h2), b.rules hp h2⟩, d.ok, d.le⟩
theorem RelayAt.but {C : Addr} {H H' : Hp} {p q : Addr} {z : Str} {rs : List Rule} (h : RelayAt C H p z rs) (hq : PotAt H q) (b : But q H H') : RelayAt C H' p z rs := by
  obtain ⟨dx, ra, ia, xs, h1, h2, h3, kvs, h4, h5, h6⟩ := h
  obtain ⟨_, _, e, _⟩ := id hq
  have n : ∀ {c : Addr} {o : HO}, H c = some o → (∀ l, o ≠ .lst l) → c ≠ q := fun {c o} ec no q' => by
    rw [q', e] at ec
    exact no _ (Option.some.inj ec).symm
  refine ⟨dx, ra, ia, xs, b _ _ h1 (n h1 fun l z => by cases z), b _ _ h2 (fun q' => ?_), b.rules hq h3, kvs, b _ _ h4 (n h4 fun l z => by cases z), h5, h6.imp (b.tups hq)⟩
  subst q'
  exact pot_list hq h2 h3
theorem Same.pot {H H' : Hp} {p : Addr} (s : Same H H') (h : PotAt H p) : PotAt H' p := by
  obtain ⟨a, b, e, r⟩ := h
  exact ⟨a, b, s _ _ e, r⟩
/-! ### turned lines -/
theorem turn_note {z : Str} {b : Nat} : ∀ {rs : List Rule} {y : Str}, (∀ r ∈ rs, RuleOk z b r) → Over z y → Over z (turn rs y) ∧ (turn rs y).length ≤ y.length + b
  | [], y, _, o => ⟨o, Nat.le_add_right _ _⟩
  | r :: rs, y, h, o => by
    have hr := h r List.mem_cons_self
    show Over z (if fits r y = true then turnR r y else turn rs y) ∧ (if fits r y = true then turnR r y else turn rs y).length ≤ _
    by_cases hf : fits r y = true
    · rw [if_pos hf]
      obtain ⟨f, ol, nw⟩ := r
      cases f with
      | true =>
        show Over z (nw ++ cutS y (some (ol.length : Int)) none) ∧ (nw ++ cutS y (some (ol.length : Int)) none).length ≤ _
        refine ⟨over_app hr.n1 (over_cut o _ _), ?_⟩
        rw [len_app]
        have := cutS_length y (some (ol.length : Int)) none
        have h2 : nw.length ≤ b := hr.n2
        omega
      | false => exact ⟨hr.n1, Nat.le_trans hr.n2 (Nat.le_add_left _ _)⟩
    · rw [if_neg hf]
      exact turn_note (fun r' hr' => h r' (List.mem_cons_of_mem _ hr')) o
def spTurns (K : PySem.W.Frag) (C : Addr) : Sp := fun vs H Q _ => ∃ (q : Addr) (z : Str) (D p : Addr) (rs : List Rule), vs = [.ref q, .str z, .ref D, .ref p] ∧ PotAt H q ∧ Deal K H D z rs ∧ RelayAt C H p z rs ∧
  ∀ H', PotAt H' q → But q H H' → Q (.bl true) H'
/-- a line of the signs that is not too long -/
def Ln (z y : Str) : Prop := Over z y ∧ y.length ≤ 3000
theorem three_sm {z y : Str} (az : Abc z) (o : Over z y) (l : y.length ≤ 5000) : Sm 400000 (.list [.str y, .str y, .str y]) := by
  have s := (Sm.str (az.plain o)).mono (show 10 * y.length + 2 ≤ 50002 by omega)
  exact (Sm.list (k := 0) (SmL.cons s (Nat.le_refl _) (SmL.cons s (Nat.le_refl _) (SmL.cons s (Nat.le_refl _) SmL.nil))) (by decide)).mono (by decide)
end FL
namespace FL
open PySem PySem.Spec PyProof.Rows L2
theorem snoc_of {α : Type} : ∀ {l : List α}, 0 < l.length → ∃ i x, l = i ++ [x]
  | [], h => absurd h (Nat.lt_irrefl 0)
  | a :: r, _ => by
    cases r with
    | nil => exact ⟨[], a, rfl⟩
    | cons b r =>
      obtain ⟨i, x, e⟩ := snoc_of (l := b :: r) (Nat.succ_pos _)
      exact ⟨a :: i, x, by rw [e]; rfl⟩
theorem atI_0 {α : Type} {a b : α} {r : List α} : atI (a :: b :: r) 0 = some a := atI_nat (j := 0) rfl
theorem atI_1 {α : Type} {a b : α} {r : List α} : atI (a :: b :: r) 1 = some b := atI_nat (j := 1) rfl
theorem two_signs {z : Str} (h : 2 ≤ z.length) : ∃ a b r, z.cps.toList = a :: b :: r := by
  rw [str_len] at h
  cases e : z.cps.toList with
  | nil =>
    rw [e] at h
    exact absurd h (by decide)
  | cons a l =>
    cases l with
    | nil =>
      rw [e] at h
      simp at h
    | cons b r => exact ⟨a, b, r, rfl⟩
theorem over_rep {z : Str} {c n : Nat} (h : c ∈ z.cps.toList) : Over z (repS ⟨#[c]⟩ n) := fun d hd => by
  have := repS_mem hd
  have e : d = c := by simpa using this
  rw [e]
  exact h
theorem rep_len (c n : Nat) : (repS ⟨#[c]⟩ n).length = n := by
  rw [repS_len]
  show n * 1 = n
  exact Nat.mul_one n
end FL
namespace FL
open PySem PySem.Spec PyProof.Rows L2
/-! ### rules that are hidden -/
theorem cut_pre (y : Str) (n : Nat) : (cutS y none (some (n : Int))).cps.toList = y.cps.toList.take n := by
  show ((y.cps.toList.drop (HT.sIx y.length 0 none)).take (HT.sIx y.length y.length (some (n : Int)) - HT.sIx y.length 0 none)).toArray.toList = _
  rw [HT.sIx_nat, HT.sIx_none]
  show (y.cps.toList.drop 0).take (min n y.length - 0) = _
  rw [List.drop_zero, Nat.sub_zero, str_len]
  by_cases h : n ≤ y.cps.toList.length
  · rw [Nat.min_eq_left h]
  · rw [Nat.min_eq_right (by omega), List.take_of_length_le (Nat.le_refl _), List.take_of_length_le (by omega)]
theorem pre_iff {y b : Str} : cutS y none (some (b.length : Int)) = b ↔ y.cps.toList.take b.cps.toList.length = b.cps.toList := by
  rw [← str_len]
  constructor
  · intro h
    rw [← cut_pre, h]
  · intro h
    apply Str_ext
    rw [cut_pre, h]
/-- an earlier rule says all that this one says -/
def hides (e r : Rule) : Bool := (e.fr && decide (cutS r.old none (some (e.old.length : Int)) = e.old)) || (decide (e.fr = r.fr) && decide (e.old = r.old))
theorem pre_trans {y o b : Str} (h1 : cutS o none (some (b.length : Int)) = b) (h2 : cutS y none (some (o.length : Int)) = o) : cutS y none (some (b.length : Int)) = b := by
  rw [pre_iff] at h1 h2 ⊢
  have l := congrArg List.length h1
  rw [List.length_take] at l
  rw [← h2, List.take_take, Nat.min_eq_left (by omega)] at h1
  exact h1
theorem hides_fits {e r : Rule} {y : Str} (h : hides e r = true) (hf : fits r y = true) : fits e y = true := by
  unfold hides at h
  rcases Bool.or_eq_true_iff.mp h with h | h
  · obtain ⟨h1, h2⟩ := Bool.and_eq_true_iff.mp h
    have h3 := of_decide_eq_true h2
    clear h2
    obtain ⟨f, o, n⟩ := e
    obtain ⟨f', o', n'⟩ := r
    dsimp only at h1 h3
    subst h1
    show decide (cutS y none (some (o.length : Int)) = o) = true
    apply decide_eq_true
    cases f' with
    | true => exact pre_trans h3 (of_decide_eq_true hf)
    | false =>
      have e' : y = o' := of_decide_eq_true hf
      rw [e']
      exact h3
  · obtain ⟨h1, h2⟩ := Bool.and_eq_true_iff.mp h
    rw [fits_same (r := r) ⟨of_decide_eq_true h1, of_decide_eq_true h2⟩]
    exact hf
theorem turn_fit : ∀ {l s : List Rule} {y : Str}, (∃ r ∈ l, fits r y = true) → turn (l ++ s) y = turn l y
  | [], _, _, ⟨_, h, _⟩ => nomatch h
  | a :: l, s, y, ⟨r, hr, hf⟩ => by
    show (if fits a y = true then _ else turn (l ++ s) y) = (if fits a y = true then _ else turn l y)
    by_cases ha : fits a y = true
    · rw [if_pos ha, if_pos ha]
    · rw [if_neg ha, if_neg ha]
      rcases List.mem_cons.mp hr with rfl | h
      · exact absurd hf ha
      · exact turn_fit ⟨r, h, hf⟩
theorem turn_none : ∀ {l s : List Rule} {y : Str}, (∀ r ∈ l, fits r y = false) → turn (l ++ s) y = turn s y
  | [], _, _, _ => rfl
  | a :: l, s, y, h => by
    show (if fits a y = true then _ else turn (l ++ s) y) = _
    rw [h a List.mem_cons_self, if_neg Bool.false_ne_true]
    exact turn_none fun r hr => h r (List.mem_cons_of_mem _ hr)
theorem fit_or (l : List Rule) (y : Str) : (∃ r ∈ l, fits r y = true) ∨ ∀ r ∈ l, fits r y = false := by
  rcases exists_first (rs := l) (y := y) with h | ⟨i, r, h1, h2, _⟩
  · exact .inr h
  · exact .inl ⟨r, List.mem_of_getElem? h1, h2⟩
theorem turn_skip {l t : List Rule} {r : Rule} (h : l.any (fun e => hides e r) = true) (y : Str) : turn (l ++ r :: t) y = turn (l ++ t) y := by
  obtain ⟨e, he, hh⟩ := List.any_eq_true.mp h
  rcases fit_or l y with hl | hl
  · rw [turn_fit hl, turn_fit hl]
  · rw [turn_none hl, turn_none hl]
    have : fits r y = false := by
      cases q : fits r y with
      | false => rfl
      | true =>
        have := hides_fits hh q
        rw [hl e he] at this
        cases this
    show (if fits r y = true then _ else turn t y) = _
    rw [this, if_neg Bool.false_ne_true]
theorem turn_again {l t : List Rule} (h : ∀ r ∈ t, r ∈ l) (y : Str) : turn (l ++ t) y = turn l y := by
  rcases fit_or l y with hl | hl
  · exact turn_fit hl
  · rw [turn_none hl, turn_no hl, turn_no fun r hr => hl r (h r hr)]
theorem turn_void {l : List Rule} (y : Str) : turn (l ++ [⟨true, Str.ofString "", Str.ofString ""⟩]) y = turn l y := by
  rcases fit_or l y with hl | hl
  · exact turn_fit hl
  · rw [turn_none hl, turn_no hl]
    have e0 : (Str.ofString "").cps.toList = [] := by decide +kernel
    have l0 : (Str.ofString "").length = 0 := by decide +kernel
    have hf : fits ⟨true, Str.ofString "", Str.ofString ""⟩ y = true := by
      show decide (cutS y none (some ((Str.ofString "").length : Int)) = Str.ofString "") = true
      exact decide_eq_true (pre_iff.mpr (by rw [e0]; rfl))
    show (if fits ⟨true, Str.ofString "", Str.ofString ""⟩ y = true then Str.ofString "" ++ cutS y (some ((Str.ofString "").length : Int)) none else y) = y
    rw [if_pos hf, l0]
    apply Str_ext
    rw [Str.cps_append, Array.toList_append, e0]
    show ((y.cps.toList.drop (HT.sIx y.length 0 (some ((0 : Nat) : Int)))).take (HT.sIx y.length y.length none - HT.sIx y.length 0 (some ((0 : Nat) : Int)))).toArray.toList = _
    rw [HT.sIx_nat, HT.sIx_none, Nat.zero_min, Nat.sub_zero, List.drop_zero, List.take_of_length_le (by rw [← str_len]; exact Nat.le_refl _)]
theorem eqv_key (a b : Rule) : PyData.eqv (.tuple [.str (kd a.fr), .str a.old]) (.tuple [.str (kd b.fr), .str b.old]) = (decide (a.fr = b.fr) && decide (a.old = b.old)) := by
  obtain ⟨f, o, n⟩ := a
  obtain ⟨f', o', n'⟩ := b
  show ((kd f == kd f') && ((o == o') && true)) = _
  rw [Bool.and_true]
  have e1 : (kd f == kd f') = decide (f = f') := by
    by_cases h : f = f'
    · subst h
      simp
    · rw [decide_eq_false h]
      have : kd f ≠ kd f' := by
        cases f <;> cases f' <;> first | exact absurd rfl h | exact kd_ne | exact Ne.symm kd_ne
      simpa using this
  have e2 : (o == o') = decide (o = o') := by
    by_cases h : o = o'
    · subst h
      simp
    · rw [decide_eq_false h]
      simpa using h
  rw [e1, e2]
theorem pick_rules {H : Hp} {xs : List V} {rs : List Rule} (h : RulesAt H xs rs) : ∀ {ys : List V}, (∀ y ∈ ys, y ∈ xs) → ∃ ts, RulesAt H ys ts ∧ ∀ t ∈ ts, t ∈ rs
  | [], _ => ⟨[], .nil, fun _ q => nomatch q⟩
  | y :: ys, m => by
    obtain ⟨ts, h1, h2⟩ := pick_rules h (ys := ys) fun v hv => m v (List.mem_cons_of_mem _ hv)
    obtain ⟨t, ht, hr⟩ := paired_mem h (m y List.mem_cons_self)
    refine ⟨t :: ts, .cons hr h1, fun u hu => ?_⟩
    rcases List.mem_cons.mp hu with rfl | hu
    · exact ht
    · exact h2 u hu
theorem paired_app {α β : Type} {R : α → β → Prop} : ∀ {xs zs : List α} {ys ws : List β}, Paired R xs ys → Paired R zs ws → Paired R (xs ++ zs) (ys ++ ws)
  | _, _, _, _, .nil, h => h
  | _, _, _, _, .cons a b, h => .cons a (paired_app b h)
/-! ### a call of an instance, its reading without the context -/
def tCallP (C : Addr) (sp : Sp) (tf : TE) (t : TA) : TE := fun σ H Q => tf σ H fun y H1 => ∃ a, y = V.ref a ∧ t σ H1 fun vs H2 => (∃ dx fs, H2 a = some (.ins C dx fs)) ∧ sp (V.ref a :: vs) H2 Q E0
theorem pe_callP {X : Cx} {C g : Addr} {fd : FuncData} {ps : List Str} {sp : Sp} {k : Nat} {fe e : Expr} {es : List Expr} {pos : Pos} {tf : TE} {t : TA} (hf : PE X fe tf) (c : StX.CallO X.K C g) (F : FnOk X.prog X.w X.K X.mg X.base CX0 k g fd ps sp)
    (hb : Binds X.K fd ps []) (hr : Room k X.A) (ha : PA X (e :: es) t)
    (ht : eval (.Call fe (e :: es) [] pos) X.env = (do callWith pos (← eval fe X.env) [] (backTo pos (starEach (e :: es) X.env)) (backToKw pos (keywordEach [] X.env))) := by rfl)
    (he : starEach (e :: es) X.env = (false, eval e X.env) :: starEach es X.env := by rfl) (hpl : (backTo pos (starEach es X.env)).any (·.1) = false := by rfl) : PE X (.Call fe (e :: es) [] pos) (tCallP C sp tf t) := by
  have G := F.raw hb .nil
  refine ⟨fun pins s σ H Q I h => ?_⟩
  rw [ht]
  refine wpAny_bind (thn (hf.run pins s σ H _ I h) fun u s1 hu => ?_)
  obtain ⟨y, H1, I1, ry, a, ey, q⟩ := hu
  subst ey
  obtain rfl : u = Value.ref a := ry
  refine StX.callO_with (thn (ha.run pos pins s1 σ H1 _ I1 q) fun us s2 hw => ?_) he hpl
  obtain ⟨vs, H2, I2, r, ⟨dx, fs, ea⟩, q2⟩ := hw
  obtain ⟨ox, od, J, hd⟩ := StX.insC_at I2 (.inr ⟨dx, fs, ea⟩)
  refine ⟨⟨C, ox, od, J, hd⟩, StX.run_callO c G hr pass0 I2 (.inr ⟨dx, fs, ea⟩) r ?_⟩
  show sp ((V.ref a :: vs) ++ []) H2 Q E0
  rw [List.append_nil]
  exact q2
def spHidR (K : PySem.W.Frag) (C : Addr) : Sp := fun vs H Q _ => ∃ (q : Addr) (z : Str) (D p : Addr) (rs : List Rule), vs = [.ref q, .str z, .ref D, .ref p] ∧ PotAt H q ∧ Deal K H D z rs ∧ RelayAt C H p z rs ∧
  ∀ H', PotAt H' q → But q H H' → Q (.bl true) H'
end FL
namespace FL
open PySem PySem.Spec PyProof.Rows L2
theorem key_sm {f : Bool} {o : Str} (h : Plain o) (l : o.length ≤ 40) : Sm 2000 (.tuple [.str (kd f), .str o]) := by
  have a0 := Sm.str (kd_plain f)
  rw [kd_len] at a0
  exact (Sm.tuple (k := 0) (SmL.cons a0 (Nat.le_refl _) (SmL.cons ((Sm.str h).mono (show _ ≤ 500 by omega)) (Nat.le_refl _) SmL.nil)) (by decide)).mono (by decide)
theorem any_take {α : Type} {l : List α} {j : Nat} {e : α} (f : α → Bool) (h : l[j]? = some e) : (l.take (j + 1)).any f = ((l.take j).any f || f e) := by
  rw [take_snoc h, List.any_append]
  simp
theorem drop_at {α : Type} {l : List α} {i : Nat} {r : α} (h : l[i]? = some r) : l.drop i = r :: l.drop (i + 1) := by
  obtain ⟨hi, e⟩ := List.getElem?_eq_some_iff.mp h
  rw [List.drop_eq_getElem_cons hi, e]
theorem Same.tups {H H' : Hp} (s : Same H H') : ∀ t a, H t = some (.tup a) → H' t = some (.tup a) := fun t a e => s t _ e
end FL
namespace FL
open PySem PySem.Spec PyProof.Rows L2
theorem make_one {C : Addr} {H : Hp} {G : Hp → Prop} {z : Str} {v : V} {rs : List Rule} {x dx : Addr} (hz : Abc z) (ra : RuArg H v rs) (ok : ∀ r ∈ rs, RuleOk z 40 r) (l : rs.length ≤ 400) (hx : H x = none) (hd : H dx = none) (hne : dx ≠ x)
    (k : ∀ H', RelayAt C H' x z rs → Same H H' → G H') : spInit C [.ref x, .str z, v] (upd (upd H dx (.own x)) x (.ins C dx [])) (fun v H3 => v = .non ∧ G H3) E0 := by
  have s2 : Same H (upd (upd H dx (.own x)) x (.ins C dx [])) := ((Same.refl H).upd hd).upd hx
  refine ⟨x, dx, z, v, rs, rfl, upd_same, hz, ?_, ok, l, fun H' ra' rel _ b => ⟨rfl, k H' rel.at_ fun c o e => b c o (s2 c o e) (ne_of_none e hx)⟩⟩
  obtain ⟨a, xs, t, rfl, ea, hrs⟩ := ra
  exact ⟨a, xs, t, rfl, s2 _ _ ea, Same.rules s2 hrs⟩
end FL
namespace FL
open PySem PySem.Spec PyProof.Rows L2
theorem void_ok {z : Str} : RuleOk z 40 ⟨true, Str.ofString "", Str.ofString ""⟩ := by
  have e0 : (Str.ofString "").cps.toList = [] := by decide +kernel
  have l0 : (Str.ofString "").length = 0 := by decide +kernel
  have o : Over z (Str.ofString "") := fun c hc => by
    rw [e0] at hc
    cases hc
  exact ⟨o, by show (Str.ofString "").length ≤ 40; omega, o, by show (Str.ofString "").length ≤ 40; omega⟩
/-- three relays that turn each line as these rules do -/
structure Mate (C : Addr) (H : Hp) (x : Addr) (z : Str) (rs : List Rule) : Prop where
  ex : ∃ L, RelayAt C H x z L ∧ (∀ r ∈ L, r.old.length ≤ 40 ∧ r.new.length ≤ 1000) ∧ ∀ y, turn L y = turn rs y
theorem Mate.same {C : Addr} {H H' : Hp} {x : Addr} {z : Str} {rs : List Rule} (m : Mate C H x z rs) (s : Same H H') : Mate C H' x z rs := by
  obtain ⟨L, a, b, c⟩ := m.ex
  exact ⟨L, a.same s, b, c⟩
theorem ok_lens {z : Str} {rs : List Rule} (h : ∀ r ∈ rs, RuleOk z 40 r) : ∀ r ∈ rs, r.old.length ≤ 40 ∧ r.new.length ≤ 1000 := fun r hr => ⟨(h r hr).o2, Nat.le_trans (h r hr).n2 (by decide)⟩
end FL
namespace FL
open PySem PySem.Spec PyProof.Rows L2
theorem RelayAt.updL {C C' : Addr} {H : Hp} {p M a d : Addr} {f : List (Str × V)} {z : Str} {rs : List Rule} {vs ws : List V} (h : RelayAt C H p z rs) (hM : H M = some (.lst (.ref a :: vs))) (ha : H a = some (.ins C' d f)) : RelayAt C (upd H M (.lst ws)) p z rs := by
  obtain ⟨dx, ra, ia, xs, h1, h2, h3, kvs, h4, h5, h6⟩ := h
  have tp : ∀ t b, H t = some (.tup b) → upd H M (.lst ws) t = some (.tup b) := fun t b e => by
    rw [upd_ne (ne_of e hM (by intro q; cases q))]
    exact e
  refine ⟨dx, ra, ia, xs, ?_, ?_, RulesAt.imp h3 tp, kvs, ?_, h5, h6.imp tp⟩
  · rw [upd_ne (ne_of h1 hM (by intro q; cases q))]
    exact h1
  · have n : ra ≠ M := fun e => by
      subst e
      rw [hM] at h2
      cases h2
      cases h3 with
      | cons x _ =>
        obtain ⟨t, q, g⟩ := x
        cases q
        rw [ha] at g
        cases g
    rw [upd_ne n]
    exact h2
  · rw [upd_ne (ne_of h4 hM (by intro q; cases q))]
    exact h4
end FL
namespace FL
open PySem PySem.Spec PyProof.Rows L2
theorem make_oneR {C : Addr} {H : Hp} {G : Hp → Prop} {z : Str} {v : V} {rs : List Rule} {x dx : Addr} (hz : Abc z) (ra : RuArg H v rs) (ok : ∀ r ∈ rs, RuleOk z 40 r) (l : rs.length ≤ 400) (hx : H x = none) (hd : H dx = none) (hne : dx ≠ x)
    (k : ∀ (H' : Hp) (ra : Addr), RelayR C H' x z rs ra → H ra = none → Same H H' → G H') : spInit C [.ref x, .str z, v] (upd (upd H dx (.own x)) x (.ins C dx [])) (fun v H3 => v = .non ∧ G H3) E0 := by
  have s2 : Same H (upd (upd H dx (.own x)) x (.ins C dx [])) := ((Same.refl H).upd hd).upd hx
  refine ⟨x, dx, z, v, rs, rfl, upd_same, hz, ?_, ok, l, fun H' ra' rel hn b => ⟨rfl, k H' ra' rel (s2.none hn) fun c o e => b c o (s2 c o e) (ne_of_none e hx)⟩⟩
  obtain ⟨a, xs, t, rfl, ea, hrs⟩ := ra
  exact ⟨a, xs, t, rfl, s2 _ _ ea, Same.rules s2 hrs⟩
end FL
namespace FL
open PySem PySem.Spec PyProof.Rows L2
/-! ### lists of rules, gathered -/
def RL (H : Hp) (z : Str) (a : Addr) : Prop := ∃ xs rs, H a = some (.lst xs) ∧ RulesAt H xs rs ∧ (∀ r ∈ rs, RuleOk z 40 r) ∧ rs.length ≤ 400
theorem RL.same {H H' : Hp} {z : Str} {a : Addr} (h : RL H z a) (s : Same H H') : RL H' z a := by
  obtain ⟨xs, rs, h1, h2, h3, h4⟩ := h
  exact ⟨xs, rs, s _ _ h1, Same.rules s h2, h3, h4⟩
theorem RL.updS {H : Hp} {z : Str} {a S : Addr} {ss ws : List V} (h : RL H z a) (hS : H S = some (.lst ss)) (n : a ≠ S) : RL (upd H S (.lst ws)) z a := by
  obtain ⟨xs, rs, h1, h2, h3, h4⟩ := h
  refine ⟨xs, rs, by rw [upd_ne n]; exact h1, RulesAt.imp h2 fun t b e => ?_, h3, h4⟩
  rw [upd_ne (ne_of e hS (by intro q; cases q))]
  exact e
structure Sm1 (H : Hp) (S : Addr) (z : Str) (As : List Addr) : Prop where
  at_ : H S = some (.lst (As.map V.ref))
  all : ∀ a ∈ As, a ≠ S ∧ RL H z a
theorem Sm1.same {H H' : Hp} {S : Addr} {z : Str} {As : List Addr} (h : Sm1 H S z As) (s : Same H H') : Sm1 H' S z As :=
  ⟨s _ _ h.at_, fun a ha => ⟨(h.all a ha).1, (h.all a ha).2.same s⟩⟩
theorem Sm1.add {H : Hp} {S a : Addr} {z : Str} {As : List Addr} (h : Sm1 H S z As) (ha : RL H z a) (n : a ≠ S) : Sm1 (upd H S (.lst (As.map V.ref ++ [.ref a]))) S z (As ++ [a]) := by
  refine ⟨by rw [upd_same, List.map_append]; rfl, fun b hb => ?_⟩
  rcases List.mem_append.mp hb with hb | hb
  · exact ⟨(h.all b hb).1, (h.all b hb).2.updS h.at_ (h.all b hb).1⟩
  · rw [List.mem_singleton.mp hb]
    exact ⟨n, ha.updS h.at_ n⟩
theorem paired_take {α β : Type} {R : α → β → Prop} : ∀ {xs : List α} {ys : List β}, Paired R xs ys → ∀ n, Paired R (xs.take n) (ys.take n)
  | _, _, .nil, n => by rw [List.take_nil, List.take_nil]; exact .nil
  | _, _, .cons a b, 0 => .nil
  | _, _, .cons a b, n + 1 => .cons a (paired_take b n)
theorem paired_drop {α β : Type} {R : α → β → Prop} : ∀ {xs : List α} {ys : List β}, Paired R xs ys → ∀ n, Paired R (xs.drop n) (ys.drop n)
  | _, _, .nil, n => by rw [List.drop_nil, List.drop_nil]; exact .nil
  | _, _, .cons a b, 0 => .cons a b
  | _, _, .cons a b, n + 1 => paired_drop b n
theorem paired_rev {α β : Type} {R : α → β → Prop} : ∀ {xs : List α} {ys : List β}, Paired R xs ys → Paired R xs.reverse ys.reverse
  | _, _, .nil => .nil
  | _, _, .cons a b => by
    rw [List.reverse_cons, List.reverse_cons]
    exact paired_snoc (paired_rev b) a
/-- a slice of rules is one -/
theorem cut_rules {H : Hp} {xs : List V} {rs : List Rule} (h : RulesAt H xs rs) (lo hi : Option Int) : ∃ ts, RulesAt H (cutV xs lo hi) ts ∧ (∀ t ∈ ts, t ∈ rs) ∧ ts.length ≤ rs.length := by
  refine ⟨(rs.drop (HT.sIx xs.length 0 lo)).take (HT.sIx xs.length xs.length hi - HT.sIx xs.length 0 lo), paired_take (paired_drop h _) _, fun t ht => List.mem_of_mem_drop (List.mem_of_mem_take ht), ?_⟩
  rw [List.length_take, List.length_drop]
  omega
def spEqual (K : PySem.W.Frag) (C : Addr) : Sp := fun vs H Q _ => ∃ (q : Addr) (z : Str) (D p : Addr) (rs : List Rule), vs = [.ref q, .str z, .ref D, .ref p] ∧ Deal K H D z rs ∧ RelayAt C H p z rs ∧
  ∀ H', Same H H' → Q (.bl true) H'
theorem rp_ok {z : Str} {rs : List Rule} (az : Abc z) (h : ∀ r ∈ rs, RuleOk z 40 r) : RP 40 rs := fun r hr => ⟨az.plain (h r hr).o1, az.plain (h r hr).n1, (h r hr).o2, (h r hr).n2⟩
theorem bools_sm (a b c : Bool) : Sm 100 (.list [.bool a, .bool b, .bool c]) :=
  (Sm.list (k := 0) (SmL.cons (Sm.bool a) (Nat.le_refl _) (SmL.cons (Sm.bool b) (Nat.le_refl _) (SmL.cons (Sm.bool c) (Nat.le_refl _) SmL.nil))) (by decide)).mono (by decide)
end FL
namespace FL
open PySem PySem.Spec PyProof.Rows L2
theorem comp_tail {H0 Hi : Hp} {C T : Addr} {ws : List V} {ts : List Rule} {r : Rule} (sj : Same H0 Hi) (hC0 : H0 C = none) (hC : Hi C = some (.lst ws)) (hw : RulesAt Hi ws ts) (hT : Hi T = none) :
    (upd Hi T (.tup (ruleV r))) C = some (.lst ws) ∧ Same H0 (upd (upd Hi T (.tup (ruleV r))) C (.lst (ws ++ [.ref T]))) ∧ RulesAt (upd (upd Hi T (.tup (ruleV r))) C (.lst (ws ++ [.ref T]))) (ws ++ [.ref T]) (ts ++ [r]) := by
  have n : C ≠ T := ne_of_none hC hT
  refine ⟨by rw [upd_ne n]; exact hC, (sj.upd (sj.none hT)).upd hC0, paired_snoc (RulesAt.imp hw fun t a e => ?_) ⟨T, rfl, ?_⟩⟩
  · rw [upd_ne (ne_of e hC (by intro q; cases q)), upd_ne (ne_of_none e hT)]
    exact e
  · rw [upd_ne (Ne.symm n), upd_same]
theorem map_take {α β : Type} {l : List α} {i : Nat} {x : α} (f : α → β) (h : l[i]? = some x) : (l.take (i + 1)).map f = (l.take i).map f ++ [f x] := by
  rw [take_snoc h, List.map_append]
  rfl
theorem void_rule {H : Hp} {T : Addr} {f : Bool} (h : H T = some (.tup [.str (kd f), .str (Str.ofString ""), .str (Str.ofString "")])) : RuleAt H (.ref T) ⟨f, Str.ofString "", Str.ofString ""⟩ := ⟨T, rfl, h⟩
theorem void_ok2 {z : Str} {f : Bool} : RuleOk z 40 ⟨f, Str.ofString "", Str.ofString ""⟩ := ⟨(void_ok (z := z)).o1, (void_ok (z := z)).o2, (void_ok (z := z)).n1, (void_ok (z := z)).n2⟩
end FL
namespace FL
open PySem PySem.Spec PyProof.Rows L2
def flipR (r : Rule) : Rule := ⟨!r.fr, r.old, r.new⟩
def newR (c : Nat) (r : Rule) : Rule := ⟨r.fr, r.old, r.new ++ ⟨#[c]⟩⟩
def oldR (c : Nat) (r : Rule) : Rule := ⟨r.fr, r.old ++ ⟨#[c]⟩, r.new⟩
theorem flip_ok {z : Str} {rs : List Rule} (h : ∀ r ∈ rs, RuleOk z 40 r) : ∀ r ∈ rs, RuleOk z 40 (flipR r) := fun r hr => ⟨(h r hr).o1, (h r hr).o2, (h r hr).n1, (h r hr).n2⟩
theorem new_ok {z : Str} {c : Nat} (hc : c ∈ z.cps.toList) {rs : List Rule} (h : ∀ r ∈ rs, RuleOk z 30 r) : ∀ r ∈ rs, RuleOk z 40 (newR c r) := fun r hr =>
  ⟨(h r hr).o1, Nat.le_trans (h r hr).o2 (by decide), over_app (h r hr).n1 (over_one hc), by
    show (r.new ++ ⟨#[c]⟩).length ≤ 40
    rw [len_app, len_one]
    have := (h r hr).n2
    omega⟩
theorem old_ok {z : Str} {c : Nat} (hc : c ∈ z.cps.toList) {rs : List Rule} (h : ∀ r ∈ rs, RuleOk z 30 r) : ∀ r ∈ rs, RuleOk z 40 (oldR c r) := fun r hr =>
  ⟨over_app (h r hr).o1 (over_one hc), by
    show (r.old ++ ⟨#[c]⟩).length ≤ 40
    rw [len_app, len_one]
    have := (h r hr).o2
    omega, (h r hr).n1, Nat.le_trans (h r hr).n2 (by decide)⟩
end FL
namespace FL
open PySem PySem.Spec PyProof.Rows L2
theorem Deal.updL {K : PySem.W.Frag} {H : Hp} {D L : Addr} {z : Str} {rs : List Rule} {vs ws : List V} (d : Deal K H D z rs) (hL : H L = some (.lst vs)) (n : D ≠ L) : Deal K (upd H L (.lst ws)) D z rs := by
  obtain ⟨xs, h1, h2⟩ := d.ex
  refine ⟨d.az, ⟨xs, by rw [upd_ne n]; exact h1, RulesAt.imp h2 fun t b e => ?_⟩, d.ok, d.le⟩
  rw [upd_ne (ne_of e hL (by intro q; cases q))]
  exact e
def spRight : Sp := fun vs H Q _ => ∃ q : Addr, vs = [.ref q] ∧ PotAt H q ∧ ∀ H', PotAt H' q → But q H H' → Q (.bl true) H'
def spLaw (K : PySem.W.Frag) : Sp := fun vs H Q _ => ∃ (a : Addr) (ns : List Int), vs = [.ref a] ∧ SqL K H a (ns.map V.int) ∧ ns.length ≤ 63 ∧ ∀ H', Q (.bl true) H'
theorem repr_bare (z : Str) : reprR z [] = (Str.ofString "Relay(" ++ (PyData.str z).shown) ++ Str.ofString ", [])" := by
  rw [reprR_eq]
  have e : (PyData.list (([] : List Rule).map ruleD)).shown = Str.ofString "[]" := by decide +kernel
  rw [e]
  generalize Str.ofString "Relay(" ++ (PyData.str z).shown = x
  apply Str_ext
  have e2 : (Str.ofString ", ").cps.toList ++ ((Str.ofString "[]").cps.toList ++ (Str.ofString ")").cps.toList) = (Str.ofString ", [])").cps.toList := by decide +kernel
  rw [Str.cps_append, Str.cps_append, Str.cps_append, Str.cps_append, Array.toList_append, Array.toList_append, Array.toList_append, Array.toList_append, ← e2, List.append_assoc, List.append_assoc]
theorem all_true : ∀ n : Nat, (List.replicate n true).all id = true
  | 0 => rfl
  | n + 1 => by
    rw [List.replicate_succ]
    exact all_true n
end FL
namespace K50
open PySem PySem.Spec PyProof.Rows L2 FL
def topS (i : Nat) : Stmt := PySem.Challenge.pw_frontlines_k50_readers_refused.main.body.getD i (.Pass ⟨0, 0, 0, 0⟩)
end K50
namespace K50
open PySem PySem.Spec PyProof.Rows L2 FL
abbrev sIsSigns : Stmt := topS 12
abbrev sIsLine : Stmt := topS 13
section
variable {P : Program} {w : World} {K : PySem.W.Frag} {mg : Str → Option Value} {base : Heap}
theorem scIsLine : FnScope ["signs", "value"] ["signs", "value"] (defScope sIsLine) :=
  ⟨rfl, rfl, rfl, by decide +kernel, rfl, by decide +kernel, by decide +kernel⟩
theorem ok_isline {f : Addr} {fd : FuncData} (F : Fun K "is_line" "is_line" sIsLine f fd)
    (mI : mg "isinstance" = none) (mS : mg "str" = none) :
    FnOk P w K mg base CX0 1 f fd ["signs", "value"] spLine := by
  refine F.ok scIsLine (fun vs H Q E h => ?_) (fun cdv A outer s H vs Q E hr h => ?_)
  · obtain ⟨_, _, _, rfl, _⟩ := h
    rfl
  · obtain ⟨sg, v, n, rfl, an, sh, k⟩ := h
    refine ⟨_, pss_one (ps_ret (pe_and (pe_callB call_isA (by rfl) mI (by decide +kernel)
        (pa_cons (pv 1) (pa_cons (pe_bltn (v := .ty "str") (by rfl) mS (by decide +kernel) rfl) pa_nil)))
      (pe_one (pe_cmpR op_eq (pe_bm PySem.F.plainAttrs_str PySem.F.slot_str_strip PySem.F.type_str_strip mt_stripChars (pv 1) (pa_cons (pv 0) pa_nil)) pe_str (nomark _))))), ?_⟩
    refine ⟨v, rfl, v, n, "str", rfl, an, by decide, _, rfl, ?_⟩
    cases an with
    | str z =>
      refine ⟨.str z, rfl, rfl, .str sg, rfl, z, sg, rfl, rfl, sh z rfl, rfl, ?_⟩
      have e : decide (V.str (Txt.stripChars z sg) = V.str (Str.ofString "")) = lineB sg (.str z) := by
        show _ = decide (Txt.stripChars z sg = (Str.ofString ""))
        by_cases h : Txt.stripChars z sg = Str.ofString ""
        · rw [h]
          simp
        · rw [decide_eq_false h, decide_eq_false]
          intro q
          exact h (V.str.inj q)
      rw [e]
      exact k
    | _ => exact k
abbrev nIsSigns : List Str := ["value", "rising", "first", "second"]
theorem scIsSigns : FnScope nIsSigns ["value"] (defScope sIsSigns) :=
  ⟨rfl, rfl, rfl, by decide +kernel, rfl, by decide +kernel, by decide +kernel⟩
theorem ok_issigns {f g : Addr} {fd gd : FuncData} (F : Fun K "is_signs" "is_signs" sIsSigns f fd)
    (G : FnOk P w K mg base CX0 1 g gd ["signs", "value"] spLine) (bG : Binds K gd ["signs", "value"] [])
    (kG : PySem.W.keepIn K (.ref g) = true) (mG : mg "is_line" = some (.ref g)) {tk : Tok}
    (mC : mg "SIGN_CHARACTERS" = some (.str signChars tk))
    (mI : mg "isinstance" = none) (mS : mg "str" = none) (mN : mg "len" = none) (mA : mg "all" = none) (mZ : mg "zip" = none) :
    FnOk P w K mg base CX0 2 f fd ["value"] spSigns := by
  refine F.ok scIsSigns (fun vs H Q E h => ?_) (fun cdv A outer s H vs Q E hr h => ?_)
  · obtain ⟨_, _, rfl, _⟩ := h
    rfl
  · obtain ⟨v, n, rfl, an, sh, k⟩ := h
    have nd := scIsSigns.nd
    refine ⟨_, pss_cons (ps_if (PW.pt (pw_or (pt_not (pt_val (pe_callB call_isA (by rfl) mI (by decide +kernel)
          (pa_cons (pv 0) (pa_cons (pe_bltn (v := .ty "str") (by rfl) mS (by decide +kernel) rfl) pa_nil)))))
        (pw_or (pt_cmpR op_lt (pe_callB callLen (by rfl) mN PySem.boot_len (pa_cons (pv 0) pa_nil)) pe_int (nomark _))
        (pw_or1 (pt_cmpR op_gt (pe_callB callLen (by rfl) mN PySem.boot_len (pa_cons (pv 0) pa_nil)) pe_int (nomark _))))))
        (pss_one (ps_ret pe_bl)) pss_nil)
      (pss_cons (ps_set (i := 1) nd rfl (.inl rfl) (pe_callB (cr_all rfl) (by rfl) mA (by decide +kernel)
        (pa_cons (pe_lc (own := [("first", 2), ("second", 3)]) (g := gTup K 2 (gCons (gName 2) (gCons (gName 3) gNil))) (tt := tYes) rfl nd
          (pi_zipS (by rfl) mZ (pa_cons (pv 0) (pa_cons (pe_slice sl_str (pv 0) (po_some pe_int) po_none) pa_nil)))
          (blkOk_by (N := nIsSigns) (sc := defScope sIsSigns) (by decide +kernel))
          (fun _ _ _ _ _ => pg_tup rfl (pgs_cons (pg_name (i := 2) nd rfl (Or.inl rfl)) (pgs_cons (pg_name (i := 3) nd rfl (Or.inl rfl)) pgs_nil)))
          (fun _ _ _ _ _ => pts_nil)
          (fun _ _ _ _ _ => pe_cmpR op_lt_str (pv 2) (pv 3) (nomark _))) pa_nil)))
      (pss_one (ps_ret (pe_and (pv 1) (pe_one (pe_call G hr (by rfl) mG kG bG .nil pass0 (pa_cons (pe_glob (v := .str signChars) rfl mC ⟨_, rfl⟩) (pa_cons (pv 0) pa_nil)))))))), ?_⟩
    refine ⟨v, rfl, v, n, "str", rfl, an, by decide, _, rfl, ?_⟩
    cases an with
    | str z =>
      have lz : z.length ≤ sizeLine := sh z rfl
      have hl := str_len z
      refine iteF ?_
      refine ⟨_, rfl, _, z.length, rfl, ⟨lz, rfl⟩, _, _, rfl, rfl, _, rfl, ?_⟩
      by_cases h2 : (z.length : Int) < 2
      · rw [decide_eq_true h2]
        refine iteT ?_
        refine iteT ?_
        have e : signsB (.str z) = false := by
          show (decide (2 ≤ z.length) && _) = false
          rw [decide_eq_false (by omega)]
          rfl
        have := k H (Same.refl H)
        rw [e] at this
        exact this
      rw [decide_eq_false h2]
      refine iteF ?_
      refine ⟨_, rfl, _, z.length, rfl, ⟨lz, rfl⟩, _, _, rfl, rfl, _, rfl, ?_⟩
      by_cases h4 : (z.length : Int) > 4
      · rw [decide_eq_true h4]
        refine iteT ?_
        have e : signsB (.str z) = false := by
          show (decide (2 ≤ z.length) && (decide (z.length ≤ 4) && _)) = false
          rw [decide_eq_false (show ¬ z.length ≤ 4 by omega)]
          simp
        have := k H (Same.refl H)
        rw [e] at this
        exact this
      rw [decide_eq_false h4]
      refine iteF ?_
      refine ⟨_, rfl, _, rfl, 1, rfl, z, rfl, lz, z, cutS z (some 1) none, rfl, fun D hD => ?_⟩
      have sz : sizeLine = 16777216 := rfl
      have ltail : (cutS z (some 1) none).cps.size = z.cps.toList.tail.length := by rw [← cut_tail, Array.length_toList]
      refine lc_it walk_zipS (fun t Ht => Same H Ht ∧ Ht D = some (.lst (((rise z.cps.toList).take t).map V.bl))) ?_ (fun _ _ _ _ => trivial) ?_ ?_
      · exact ⟨(Same.refl H).upd hD, upd_same⟩
      · rintro t x Ht _ ht ⟨g1, g2⟩ ⟨T, a, b, rfl, hT, rfl, ha, hb⟩
        refine ⟨T, _, rfl, SqT.of upd_same, rfl, _, _, rfl, _, _, rfl, rfl, rfl, ?_⟩
        refine ⟨_, rfl, _, rfl, _, _, rfl, rfl, ?_⟩
        have nDT : D ≠ T := ne_of_none g2 hT
        have ra : z.cps.toList[t]? = some a := by simpa using ha
        have rb : z.cps.toList.tail[t]? = some b := by
          rw [← cut_tail]
          simpa using hb
        refine ⟨_, by rw [upd_ne nDT]; exact g2, ?_, (g1.upd (g1.none hT)).upd hD, ?_⟩
        · rw [List.length_map, List.length_take, sz]
          have : t < z.cps.size := by omega
          have : z.cps.size = z.length := rfl
          omega
        · rw [upd_same, take_snoc (rise_get ra rb), List.map_append]
          rfl
      · rintro Ht ⟨g1, g2⟩
        refine ⟨D, (rise z.cps.toList).take _, rfl, SqL.of g2, ?_⟩
        have eall : (rise z.cps.toList).take (min z.cps.size (cutS z (some 1) none).cps.size) = rise z.cps.toList := by
          apply List.take_of_length_le
          unfold rise
          rw [List.length_zipWith, ltail, Array.length_toList]
          exact Nat.le_refl _
        rw [eall]
        refine ⟨_, rfl, _, rfl, ?_⟩
        have es : signsB (.str z) = ((rise z.cps.toList).all id && lineB signChars (.str z)) := by
          show (decide (2 ≤ z.length) && (decide (z.length ≤ 4) && _)) = _
          rw [decide_eq_true (show 2 ≤ z.length by omega), decide_eq_true (show z.length ≤ 4 by omega)]
          rfl
        have kk := k Ht g1
        rw [es] at kk
        cases hq : (rise z.cps.toList).all id with
        | true =>
          rw [hq] at kk
          exact ⟨_, rfl, signChars, .str z, "str", rfl, .str z, sh, kk⟩
        | false =>
          rw [hq] at kk
          exact kk
    | _ => exact k H (Same.refl H)
end
abbrev sCheckSigns : Stmt := topS 19
abbrev vN : Str := Str.ofString "value"
abbrev pN : Str := Str.ofString "position"
def spCheck (C : Addr) (ok : V → Bool) : Sp := fun vs H Q E => ∃ (v : V) (n : String), vs = [v] ∧ Any H v n ∧ Short v ∧ (ok v = true → ∀ H', Same H H' → Q .non H') ∧
  (ok v = false → ∀ H' d, Same H H' → H' d = none → E (.ref C) (some d) (upd H' d (.xd [(vN, v)])))
/-- an error's class and its __init__ -/
structure Er (P : Program) (w : World) (K : PySem.W.Frag) (mg : Str → Option Value) (base : Heap) (x n : Str) where
  C : Addr
  fI : Addr
  fd : FuncData
  T : ErC K mg x n C fI
  F : FnOk P w K mg base CX0 1 fI fd ["self", n] (spErr K n)
  b : Binds K fd ["self", n] []
section
variable {P : Program} {w : World} {K : PySem.W.Frag} {mg : Str → Option Value} {base : Heap}
theorem scCheckSigns : FnScope ["signs"] ["signs"] (defScope sCheckSigns) := ⟨rfl, rfl, rfl, by decide +kernel, rfl, by decide +kernel, by decide +kernel⟩
theorem ok_checksigns {f g : Addr} {fd gd : FuncData} (F : Fun K "check_signs" "check_signs" sCheckSigns f fd) (G : FnOk P w K mg base CX0 2 g gd ["value"] spSigns) (bG : Binds K gd ["value"] [])
    (kG : PySem.W.keepIn K (.ref g) = true) (mG : mg "is_signs" = some (.ref g)) (T : Er P w K mg base "InvalidSigns" vN) : FnOk P w K mg base (L2.CX P w) 3 f fd ["signs"] (spCheck T.C signsB) := by
  refine F.okX scCheckSigns (fun vs H Q E h => ?_) (fun cdv A outer s H vs Q E hr h => ?_)
  · obtain ⟨_, _, rfl, _⟩ := h
    rfl
  · obtain ⟨v, n, rfl, an, sh, k1, k2⟩ := h
    refine ⟨_, pss_one (ps_if (pt_not (pt_val (pe_call G hr (by rfl) mG kG bG .nil pass0 (pa_cons (pv 0) pa_nil))))
      (pss_one (ps_raise rfl (takes_of rfl rfl rfl rfl) (pmk_oex T.T.oex T.T.iC T.T.tI T.F hr T.b .nil pass0 (by rfl) T.T.gC (pa_cons (pv 0) pa_nil)))) pss_nil), ?_⟩
    refine ⟨_, rfl, v, n, rfl, an, sh, fun H' sm => ⟨_, rfl, ?_⟩⟩
    cases e : signsB v with
    | true => exact iteF (k1 e H' sm)
    | false => exact iteT ⟨_, rfl, mkErr T.T.oex T.T.no fun d hd => k2 e H' d sm hd⟩
end
end K50
namespace K50
open PySem PySem.Spec PyProof.Rows L2 FL
abbrev sIsList : Stmt := topS 11
abbrev sIsWord : Stmt := topS 20
abbrev sIsMark : Stmt := topS 21
abbrev sIsSight : Stmt := topS 23
abbrev sIsTail : Stmt := topS 24
abbrev sCheckTail : Stmt := topS 25
abbrev sCheckCare : Stmt := topS 26
def wordB (v : V) (xs : List V) : Bool := match v with
  | .str z => inV (.str z) xs
  | _ => false
def lenB (lo hi : Nat) : V → Bool
  | .str m => decide (lo ≤ m.length) && decide (m.length ≤ hi)
  | _ => false
/-- is_mark, is_tail -/
def boxB (k : Nat) (z : Str) (v : V) : Bool := lineB z v && lenB 1 k v
def sightWs : List V := [.str (Str.ofString "whole"), .str (Str.ofString "start")]
def orderWs : List V := [.str (Str.ofString "inner"), .str (Str.ofString "outer")]
def closeWs : List V := [.str (Str.ofString "refuse"), .str (Str.ofString "close")]
def sightB (z : Str) (v : V) : Bool := wordB v sightWs || (lineB z v && lenB 1 1 v)
def careB (z nm : Str) (v : V) : Bool := if nm = Str.ofString "sight" then sightB z v else if nm = Str.ofString "order" then wordB v orderWs else wordB v closeWs
def careNs : List Str := [Str.ofString "sight", Str.ofString "order", Str.ofString "further", Str.ofString "finish"]
abbrev nmN : Str := Str.ofString "name"
def spWordA (K : PySem.W.Frag) : Sp := fun vs H Q _ => ∃ (v : V) (n : String) (a : Addr) (xs : List V), vs = [v, .ref a] ∧ Any H v n ∧ SqT K H a xs ∧ xs.all flatV = true ∧ Q (.bl (wordB v xs)) H
def spBox (k : Nat) : Sp := fun vs H Q _ => ∃ (z : Str) (v : V) (n : String), vs = [.str z, v] ∧ Any H v n ∧ Short v ∧ Q (.bl (boxB k z v)) H
def spSight : Sp := fun vs H Q _ => ∃ (z : Str) (v : V) (n : String), vs = [.str z, v] ∧ Any H v n ∧ Short v ∧ Q (.bl (sightB z v)) H
def spCheckT (C : Addr) : Sp := fun vs H Q E => ∃ (z : Str) (v : V) (n : String), vs = [.str z, v] ∧ Any H v n ∧ Short v ∧ (boxB 3 z v = true → Q .non H) ∧
  (boxB 3 z v = false → ∀ d, H d = none → E (.ref C) (some d) (upd H d (.xd [(vN, v)])))
def spCheckC (C : Addr) : Sp := fun vs H Q E => ∃ (z nm : Str) (v : V) (n : String), vs = [.str z, .str nm, v] ∧ nm ∈ careNs ∧ Any H v n ∧ Short v ∧ (careB z nm v = true → Q .non H) ∧
  (careB z nm v = false → ∀ d, H d = none → E (.ref C) (some d) (upd H d (.xd [(vN, v), (nmN, .str nm)])))
/-- an error's class with two fields and its __init__ -/
structure Er2 (P : Program) (w : World) (K : PySem.W.Frag) (mg : Str → Option Value) (base : Heap) (x m n : Str) where
  C : Addr
  fI : Addr
  fd : FuncData
  T : ErC2 K mg x m n C fI
  F : FnOk P w K mg base CX0 1 fI fd ["self", m, n] (spErr2 K m n)
  b : Binds K fd ["self", m, n] []
section
variable {P : Program} {w : World} {K : PySem.W.Frag} {mg : Str → Option Value} {base : Heap}
theorem scIsList : FnScope ["value"] ["value"] (defScope sIsList) := ⟨rfl, rfl, rfl, by decide +kernel, rfl, by decide +kernel, by decide +kernel⟩
theorem ok_islist {f : Addr} {fd : FuncData} (F : Fun K "is_list" "is_list" sIsList f fd)
    (mI : mg "isinstance" = none) (mL : mg "list" = none) (mT : mg "tuple" = none) : FnOk P w K mg base CX0 1 f fd ["value"] spIsList := by
  refine F.ok scIsList (fun vs H Q E h => ?_) (fun cdv A outer s H vs Q E hr h => ?_)
  · obtain ⟨_, _, rfl, _⟩ := h
    rfl
  · obtain ⟨v, n, rfl, an, k⟩ := h
    refine ⟨_, pss_one (ps_ret (pe_callB call_isiT (by rfl) mI (by decide +kernel) (pa_cons (pv 0) (pa_cons
      (pe_tup (pa_cons (pe_bltn (v := .ty "list") (by rfl) mL (by decide +kernel) rfl) (pa_cons (pe_bltn (v := .ty "tuple") (by rfl) mT (by decide +kernel) rfl) pa_nil))) pa_nil)))), ?_⟩
    refine ⟨_, rfl, by decide, fun p hp => ?_⟩
    have an2 : Any (upd H p (.tup [.ty "list", .ty "tuple"])) v n := an.same fun a o _ e => by rw [upd_ne (ne_of_none e hp)]; exact e
    exact ⟨v, p, _, _, _, _, rfl, upd_same, .cons (.ty "list") (.cons (.ty "tuple") .nil), an2.tyx, kit_lt an.kind, k _ ((Same.refl H).upd hp)⟩
theorem scIsWord : FnScope ["value", "words"] ["value", "words"] (defScope sIsWord) := ⟨rfl, rfl, rfl, by decide +kernel, rfl, by decide +kernel, by decide +kernel⟩
theorem ok_isword {f : Addr} {fd : FuncData} (F : Fun K "is_word" "is_word" sIsWord f fd) (mI : mg "isinstance" = none) (mS : mg "str" = none) :
    FnOk P w K mg base CX0 1 f fd ["value", "words"] (spWordA K) := by
  refine F.ok scIsWord (fun vs H Q E h => ?_) (fun cdv A outer s H vs Q E hr h => ?_)
  · obtain ⟨_, _, _, _, rfl, _⟩ := h
    rfl
  · obtain ⟨v, n, a, xs, rfl, an, ha, fx, k⟩ := h
    refine ⟨_, pss_one (ps_ret (pe_and (pe_callB call_isA (by rfl) mI (by decide +kernel)
          (pa_cons (pv 0) (pa_cons (pe_bltn (v := .ty "str") (by rfl) mS (by decide +kernel) rfl) pa_nil)))
          (pe_one (pe_cmpR op_in_seq (pv 0) (pv 1) (by rfl))))), ?_⟩
    refine ⟨v, rfl, v, n, "str", rfl, an, by decide, _, rfl, ?_⟩
    cases an with
    | str z => exact ⟨_, rfl, _, rfl, a, _, rfl, .inr ha, rfl, fx, k⟩
    | _ => exact k
theorem scIsMark : FnScope ["signs", "value"] ["signs", "value"] (defScope sIsMark) := ⟨rfl, rfl, rfl, by decide +kernel, rfl, by decide +kernel, by decide +kernel⟩
theorem scIsTail : FnScope ["signs", "value"] ["signs", "value"] (defScope sIsTail) := ⟨rfl, rfl, rfl, by decide +kernel, rfl, by decide +kernel, by decide +kernel⟩
theorem box_wish {k : Nat} {z : Str} {v : V} {n : String} {H : Hp} {Q : VK} (an : Any H v n) (sh : Short v) (h : Q (.bl (boxB k z v)) H) :
    if lineB z v = true then (∃ m, v = .str m ∧ m.length ≤ sizeLine ∧ (if decide (((m.length : Nat) : Int) ≥ 1) = true then Q (.bl (decide (((m.length : Nat) : Int) ≤ ((k : Nat) : Int)))) H else Q (.bl false) H)) else Q (.bl false) H := by
  unfold boxB at h
  cases e : lineB z v with
  | false =>
    rw [e] at h
    exact iteF h
  | true =>
    rw [e] at h
    refine iteT ?_
    cases an with
    | str m =>
      refine ⟨m, rfl, sh m rfl, ?_⟩
      have h : Q (.bl (decide (1 ≤ m.length) && decide (m.length ≤ k))) H := h
      by_cases h1 : 1 ≤ m.length
      · rw [decide_eq_true h1] at h
        refine iteYes (by omega) ?_
        have e2 : decide (((m.length : Nat) : Int) ≤ ((k : Nat) : Int)) = decide (m.length ≤ k) := decide_eq_decide.mpr (by omega)
        rw [e2]
        exact h
      · rw [decide_eq_false h1] at h
        refine iteNot (by omega) ?_
        exact h
    | _ => cases e
theorem ok_ismark {f : Addr} {fd : FuncData} (F : Fun K "is_mark" "is_mark" sIsMark f fd) (cL : Ca P w K mg base "is_line" 1 ["signs", "value"] spLine) (mN : mg "len" = none) {tk : Tok} (mM : mg "MOST_MARK_SIGNS" = some (.int 12 tk)) :
    FnOk P w K mg base CX0 2 f fd ["signs", "value"] (spBox 12) := by
  refine F.ok scIsMark (fun vs H Q E h => ?_) (fun cdv A outer s H vs Q E hr h => ?_)
  · obtain ⟨_, _, _, rfl, _⟩ := h
    rfl
  · obtain ⟨z, v, n, rfl, an, sh, k⟩ := h
    refine ⟨_, pss_one (ps_ret (pe_and (pe_ca cL hr (by rfl) (pa_cons (pv 0) (pa_cons (pv 1) pa_nil)))
      (pe_and (pe_cmpR op_ge (pe_callB callLen (by rfl) mN PySem.boot_len (pa_cons (pv 1) pa_nil)) pe_int (nomark _))
      (pe_one (pe_cmpR op_le (pe_callB callLen (by rfl) mN PySem.boot_len (pa_cons (pv 1) pa_nil)) (pe_glob (v := .int 12) rfl mM ⟨_, rfl⟩) (nomark _)))))), ?_⟩
    refine ⟨_, rfl, _, rfl, z, v, n, rfl, an, sh, ?_⟩
    have bw := box_wish (Q := Q) an sh k
    refine ⟨_, rfl, ?_⟩
    cases e : lineB z v with
    | false =>
      rw [e, if_neg Bool.false_ne_true] at bw
      exact iteF bw
    | true =>
      rw [e, if_pos rfl] at bw
      obtain ⟨m, rfl, lm, bw⟩ := bw
      refine iteT ?_
      refine ⟨_, rfl, _, m.length, rfl, ⟨lm, rfl⟩, _, _, rfl, rfl, ?_⟩
      refine ⟨_, rfl, ?_⟩
      by_cases h1 : ((m.length : Nat) : Int) ≥ 1
      · rw [if_pos (decide_eq_true h1)] at bw
        refine iteYes h1 ?_
        exact ⟨_, rfl, _, m.length, rfl, ⟨lm, rfl⟩, _, _, rfl, rfl, bw⟩
      · rw [if_neg (by rw [decide_eq_false h1]; exact Bool.false_ne_true)] at bw
        refine iteNot h1 ?_
        exact bw
theorem ok_istail {f : Addr} {fd : FuncData} (F : Fun K "is_tail" "is_tail" sIsTail f fd) (cL : Ca P w K mg base "is_line" 1 ["signs", "value"] spLine) (mN : mg "len" = none) {tk : Tok} (mM : mg "MOST_TAIL_SIGNS" = some (.int 3 tk)) :
    FnOk P w K mg base CX0 2 f fd ["signs", "value"] (spBox 3) := by
  refine F.ok scIsTail (fun vs H Q E h => ?_) (fun cdv A outer s H vs Q E hr h => ?_)
  · obtain ⟨_, _, _, rfl, _⟩ := h
    rfl
  · obtain ⟨z, v, n, rfl, an, sh, k⟩ := h
    refine ⟨_, pss_one (ps_ret (pe_and (pe_ca cL hr (by rfl) (pa_cons (pv 0) (pa_cons (pv 1) pa_nil)))
      (pe_and (pe_cmpR op_ge (pe_callB callLen (by rfl) mN PySem.boot_len (pa_cons (pv 1) pa_nil)) pe_int (nomark _))
      (pe_one (pe_cmpR op_le (pe_callB callLen (by rfl) mN PySem.boot_len (pa_cons (pv 1) pa_nil)) (pe_glob (v := .int 3) rfl mM ⟨_, rfl⟩) (nomark _)))))), ?_⟩
    refine ⟨_, rfl, _, rfl, z, v, n, rfl, an, sh, ?_⟩
    have bw := box_wish (Q := Q) an sh k
    refine ⟨_, rfl, ?_⟩
    cases e : lineB z v with
    | false =>
      rw [e, if_neg Bool.false_ne_true] at bw
      exact iteF bw
    | true =>
      rw [e, if_pos rfl] at bw
      obtain ⟨m, rfl, lm, bw⟩ := bw
      refine iteT ?_
      refine ⟨_, rfl, _, m.length, rfl, ⟨lm, rfl⟩, _, _, rfl, rfl, ?_⟩
      refine ⟨_, rfl, ?_⟩
      by_cases h1 : ((m.length : Nat) : Int) ≥ 1
      · rw [if_pos (decide_eq_true h1)] at bw
        refine iteYes h1 ?_
        exact ⟨_, rfl, _, m.length, rfl, ⟨lm, rfl⟩, _, _, rfl, rfl, bw⟩
      · rw [if_neg (by rw [decide_eq_false h1]; exact Bool.false_ne_true)] at bw
        refine iteNot h1 ?_
        exact bw
theorem scCheckTail : FnScope ["signs", "tail"] ["signs", "tail"] (defScope sCheckTail) := ⟨rfl, rfl, rfl, by decide +kernel, rfl, by decide +kernel, by decide +kernel⟩
theorem ok_checktail {f : Addr} {fd : FuncData} (F : Fun K "check_tail" "check_tail" sCheckTail f fd) (cT : Ca P w K mg base "is_tail" 2 ["signs", "value"] (spBox 3)) (T : Er P w K mg base "InvalidTail" vN) :
    FnOk P w K mg base (L2.CX P w) 3 f fd ["signs", "tail"] (spCheckT T.C) := by
  refine F.okX scCheckTail (fun vs H Q E h => ?_) (fun cdv A outer s H vs Q E hr h => ?_)
  · obtain ⟨_, _, _, rfl, _⟩ := h
    rfl
  · obtain ⟨z, v, n, rfl, an, sh, k1, k2⟩ := h
    refine ⟨_, pss_one (ps_if (pt_not (pt_val (pe_ca cT (hr.mono (by decide)) (by rfl) (pa_cons (pv 0) (pa_cons (pv 1) pa_nil)))))
      (pss_one (ps_raise rfl (takes_of rfl rfl rfl rfl) (pmk_oex T.T.oex T.T.iC T.T.tI T.F hr T.b .nil pass0 (by rfl) T.T.gC (pa_cons (pv 1) pa_nil)))) pss_nil), ?_⟩
    refine ⟨_, rfl, _, rfl, z, v, n, rfl, an, sh, _, rfl, ?_⟩
    cases e : boxB 3 z v with
    | true => exact iteF (k1 e)
    | false => exact iteT ⟨_, rfl, mkErr T.T.oex T.T.no fun d hd => k2 e d hd⟩
theorem scIsSight : FnScope ["signs", "value"] ["signs", "value"] (defScope sIsSight) := ⟨rfl, rfl, rfl, by decide +kernel, rfl, by decide +kernel, by decide +kernel⟩
theorem ok_issight {f : Addr} {fd : FuncData} (F : Fun K "is_sight" "is_sight" sIsSight f fd) (W : WordsT K w mg) (cW : Ca P w K mg base "is_word" 1 ["value", "words"] (spWordA K)) (cL : Ca P w K mg base "is_line" 1 ["signs", "value"] spLine) (mN : mg "len" = none) :
    FnOk P w K mg base CX0 2 f fd ["signs", "value"] spSight := by
  refine F.ok scIsSight (fun vs H Q E h => ?_) (fun cdv A outer s H vs Q E hr h => ?_)
  · obtain ⟨_, _, _, rfl, _⟩ := h
    rfl
  · obtain ⟨z, v, n, rfl, an, sh, k⟩ := h
    obtain ⟨a, mS, hS⟩ := W.si
    refine ⟨_, pss_one (ps_ret (pe_or (pe_ca cW hr (by rfl) (pa_cons (pv 1) (pa_cons (pe_glob (v := .ref a) rfl mS rfl) pa_nil)))
      (pe_one (pe_and (pe_ca cL hr (by rfl) (pa_cons (pv 0) (pa_cons (pv 1) pa_nil)))
        (pe_one (pe_cmpR op_eq (pe_callB callLen (by rfl) mN PySem.boot_len (pa_cons (pv 1) pa_nil)) pe_int (nomark _))))))), ?_⟩
    refine ⟨_, rfl, v, n, a, _, rfl, an, hS.sqT, rfl, ?_⟩
    unfold sightB at k
    show ∃ c, _
    cases q : wordB v sightWs with
    | true =>
      rw [q] at k
      exact ⟨_, rfl, by rw [show wordB v [.str (Str.ofString "whole"), .str (Str.ofString "start")] = true from q]; exact iteT k⟩
    | false =>
      rw [q, Bool.false_or] at k
      rw [show wordB v [.str (Str.ofString "whole"), .str (Str.ofString "start")] = false from q]
      refine ⟨_, rfl, iteF ?_⟩
      refine ⟨_, rfl, _, rfl, z, v, n, rfl, an, sh, ?_⟩
      refine ⟨_, rfl, ?_⟩
      cases e : lineB z v with
      | false =>
        rw [e] at k
        exact iteF k
      | true =>
        rw [e, Bool.true_and] at k
        refine iteT ?_
        cases an with
        | str m =>
          refine ⟨_, rfl, _, m.length, rfl, ⟨sh m rfl, rfl⟩, rfl, ?_⟩
          have e2 : decide (V.int ((m.length : Nat) : Int) = V.int 1) = lenB 1 1 (.str m) := by
            show _ = (decide (1 ≤ m.length) && decide (m.length ≤ 1))
            by_cases h : m.length = 1
            · rw [h]
              rfl
            · rw [decide_eq_false (fun q => h (by have := V.int.inj q; omega))]
              symm
              by_cases h2 : 1 ≤ m.length
              · rw [decide_eq_false (show ¬ m.length ≤ 1 by omega), Bool.and_false]
              · rw [decide_eq_false h2, Bool.false_and]
          show Q (.bl (decide (V.int ((m.length : Nat) : Int) = V.int 1))) H
          rw [e2]
          exact k
        | _ => cases e
theorem scCheckCare : FnScope ["signs", "name", "value", "known"] ["signs", "name", "value"] (defScope sCheckCare) := ⟨rfl, rfl, rfl, by decide +kernel, rfl, by decide +kernel, by decide +kernel⟩
theorem ok_checkcare {f : Addr} {fd : FuncData} (F : Fun K "check_care" "check_care" sCheckCare f fd) (W : WordsT K w mg) (cW : Ca P w K mg base "is_word" 1 ["value", "words"] (spWordA K)) (cS : Ca P w K mg base "is_sight" 2 ["signs", "value"] spSight) (T : Er2 P w K mg base "InvalidCare" nmN vN) :
    FnOk P w K mg base (L2.CX P w) 3 f fd ["signs", "name", "value"] (spCheckC T.C) := by
  refine F.okX scCheckCare (fun vs H Q E h => ?_) (fun cdv A outer s H vs Q E hr h => ?_)
  · obtain ⟨_, _, _, _, rfl, _⟩ := h
    rfl
  · obtain ⟨z, nm, v, n, rfl, hnm, an, sh, k1, k2⟩ := h
    obtain ⟨a, mC, ⟨b1, d1, w1⟩, ⟨b2, d2, w2⟩, ⟨b3, d3, w3⟩⟩ := W.ca
    have nd := scCheckCare.nd
    refine ⟨_, pss_cons (ps_set (i := 3) nd rfl (.inl rfl) (pe_ifExp (pt_cmpR op_eq (pv 1) pe_str (nomark _)) (pe_ca cS (hr.mono (by decide)) (by rfl) (pa_cons (pv 0) (pa_cons (pv 2) pa_nil)))
        (pe_ca cW (hr.mono (by decide)) (by rfl) (pa_cons (pv 2) (pa_cons (pe_ix ix_kdict (pe_glob (v := .ref a) rfl mC rfl) (pv 1) (fun _ _ => rfl)) pa_nil)))))
      (pss_one (ps_if (pt_not (pt_val (pv 3)))
        (pss_one (ps_raise rfl (takes_of rfl rfl rfl rfl) (pmk_oex T.T.oex T.T.iC T.T.tI T.F hr T.b .nil pass0 (by rfl) T.T.gC (pa_cons (pv 1) (pa_cons (pv 2) pa_nil))))) pss_nil)), ?_⟩
    refine ⟨_, rfl, rfl, _, rfl, ?_⟩
    refine ite2 (fun q => ?_) (fun q => ?_)
    · have e : nm = Str.ofString "sight" := V.str.inj (of_decide_eq_true q)
      have ec : careB z nm v = sightB z v := by unfold careB; rw [if_pos e]
      refine ⟨_, rfl, _, rfl, z, v, n, rfl, an, sh, ?_⟩
      rw [← ec]
      refine ⟨_, rfl, _, rfl, ?_⟩
      cases h : careB z nm v with
      | true => exact iteF (k1 h)
      | false => exact iteT ⟨_, rfl, _, rfl, mkErr2 T.T.oex T.T.no1 T.T.no2 fun d hd => k2 h d hd⟩
    · have e : ¬ nm = Str.ofString "sight" := fun h => q (decide_eq_true (congrArg V.str h))
      obtain ⟨b, ws, kd, sw, fx, ec⟩ : ∃ b ws, KDct K w a nm (.ref b) ∧ SqW K b ws ∧ ws.all flatV = true ∧ careB z nm v = wordB v ws := by
        unfold careNs at hnm
        simp only [List.mem_cons, List.mem_nil_iff, or_false] at hnm
        unfold careB
        rw [if_neg e]
        rcases hnm with h | rfl | rfl | rfl
        · exact absurd h e
        · exact ⟨b1, orderWs, d1, w1, rfl, by rw [if_pos rfl]⟩
        · exact ⟨b2, closeWs, d2, w2, rfl, by rw [if_neg fun h => nk4 h.symm]⟩
        · exact ⟨b3, closeWs, d3, w3, rfl, by rw [if_neg fun h => nk5 h.symm]⟩
      refine ⟨_, rfl, _, rfl, a, nm, .ref b, rfl, rfl, kd, v, n, b, ws, rfl, an, sw.sqT, fx, ?_⟩
      rw [← ec]
      refine ⟨_, rfl, _, rfl, ?_⟩
      cases h : careB z nm v with
      | true => exact iteF (k1 h)
      | false => exact iteT ⟨_, rfl, _, rfl, mkErr2 T.T.oex T.T.no1 T.T.no2 fun d hd => k2 h d hd⟩
end
end K50
namespace K50
open PySem PySem.Spec PyProof.Rows L2 FL
abbrev sCheckMarks : Stmt := topS 22
/-- a slice of a list or a tuple -/
def rSlY (K : PySem.W.Frag) : V → Option Int → Option Int → Hp → VK → Prop := fun x lo hi H Q => rSlT K x lo hi H Q ∨ rSlL K x lo hi H Q
theorem sl_seq {X : Cx} : SlR X (rSlY X.K) := SlR.or sl_tup sl_list
def seqO (b : Bool) (xs : List V) : HO := if b then .tup xs else .lst xs
/-- the i-th mark is one, and none ahead of it is the same -/
def mkB (z : Str) (xs : List V) (i : Nat) : Bool := match xs[i]? with
  | some x => boxB 12 z x && !inV x (xs.take i)
  | none => true
def isSeq (n : String) : Bool := n == "list" || n == "tuple"
def spCheckM (C : Addr) : Sp := fun vs H Q E => ∃ (z : Str) (v : V) (n : String), vs = [.str z, v, .int 3] ∧ Any H v n ∧
  (isSeq n = false → ∀ H' d, Same H H' → H' d = none → E (.ref C) (some d) (upd H' d (.xd [(pN, .non)]))) ∧
  ∀ a b xs, v = .ref a → H a = some (seqO b xs) → xs.length ≤ 1000 ∧ (∀ x ∈ xs, ∃ nx, Any H x nx ∧ Short x) ∧
    ((xs.length = 0 ∨ 3 < xs.length) → ∀ H' d, Same H H' → H' d = none → E (.ref C) (some d) (upd H' d (.xd [(pN, .non)]))) ∧
    (xs.length ≤ 3 → ∀ i, i < xs.length → mkB z xs i = false → (∀ j, j < i → mkB z xs j = true) → ∀ H' d, Same H H' → H' d = none → E (.ref C) (some d) (upd H' d (.xd [(pN, .int (i : Nat))]))) ∧
    (1 ≤ xs.length → xs.length ≤ 3 → (∀ i, i < xs.length → mkB z xs i = true) → ∀ H', Same H H' → Q .non H')
theorem box_str {k : Nat} {z : Str} {v : V} (h : boxB k z v = true) : ∃ m, v = .str m := by
  cases v with
  | str m => exact ⟨m, rfl⟩
  | _ => cases h
theorem mk_flat {z : Str} {xs : List V} {i : Nat} (h : ∀ j, j < i → mkB z xs j = true) : (xs.take i).all flatV = true := by
  refine List.all_eq_true.mpr fun x hx => ?_
  obtain ⟨j, hj, ej⟩ := List.getElem_of_mem hx
  rw [List.length_take] at hj
  rw [List.getElem_take] at ej
  have hm := h j (by omega)
  unfold mkB at hm
  rw [List.getElem?_eq_getElem (show j < xs.length by omega)] at hm
  have hm : (boxB 12 z xs[j] && !inV xs[j] (xs.take j)) = true := hm
  obtain ⟨m, e⟩ := box_str (Bool.and_eq_true_iff.mp hm).1
  rw [← ej, e]
  rfl
theorem any_seq {H : Hp} {a : Addr} {b : Bool} {xs : List V} {n : String} (h : H a = some (seqO b xs)) (an : Any H (.ref a) n) : isSeq n = true := by
  cases an with
  | lst _ => rfl
  | tup _ => rfl
  | dct e =>
    rw [h] at e
    cases b <;> cases e
section
variable {P : Program} {w : World} {K : PySem.W.Frag} {mg : Str → Option Value} {base : Heap}
theorem scCheckMarks : FnScope ["signs", "marks", "most", "position", "mark"] ["signs", "marks", "most"] (defScope sCheckMarks) := ⟨rfl, rfl, rfl, by decide +kernel, rfl, by decide +kernel, by decide +kernel⟩
theorem ok_checkmarks {f : Addr} {fd : FuncData} (F : Fun K "check_marks" "check_marks" sCheckMarks f fd) (cL : Ca P w K mg base "is_list" 1 ["value"] spIsList) (cM : Ca P w K mg base "is_mark" 2 ["signs", "value"] (spBox 12))
    (mN : mg "len" = none) (mE : mg "enumerate" = none) (T : Er P w K mg base "InvalidMarks" pN) : FnOk P w K mg base (L2.CX P w) 3 f fd ["signs", "marks", "most"] (spCheckM T.C) := by
  refine F.okX scCheckMarks (fun vs H Q E h => ?_) (fun cdv A outer s H vs Q E hr h => ?_)
  · obtain ⟨_, _, _, rfl, _⟩ := h
    rfl
  · obtain ⟨z, v, n, rfl, an, kn, kq⟩ := h
    have nd := scCheckMarks.nd
    have sz : sizeLine = 16777216 := rfl
    obtain ⟨b, hb⟩ : ∃ b : Bool, ∀ a xs, v = .ref a → (H a = some (.lst xs) → b = false) ∧ (H a = some (.tup xs) → b = true) := by
      cases an with
      | lst e => exact ⟨false, fun a xs q => by cases q; exact ⟨fun _ => rfl, fun z => (by rw [e] at z; cases z)⟩⟩
      | tup e => exact ⟨true, fun a xs q => by cases q; exact ⟨fun z => (by rw [e] at z; cases z), fun _ => rfl⟩⟩
      | dct e => exact ⟨true, fun a xs q => by cases q; exact ⟨fun z => (by rw [e] at z; cases z), fun _ => rfl⟩⟩
      | _ => exact ⟨true, fun a xs q => by cases q⟩
    refine ⟨_, pss_cons (ps_if (PW.pt (pw_or (pt_not (pt_val (pe_ca cL (hr.mono (by decide)) (by rfl) (pa_cons (pv 1) pa_nil))))
          (pw_or (pt_cmpR op_eq (pe_callB callLen (by rfl) mN PySem.boot_len (pa_cons (pv 1) pa_nil)) pe_int (nomark _))
          (pw_or1 (pt_cmpR op_gt (pe_callB callLen (by rfl) mN PySem.boot_len (pa_cons (pv 1) pa_nil)) (pv 2) (nomark _))))))
          (pss_one (ps_raise rfl (takes_of rfl rfl rfl rfl) (pmk_oex T.T.oex T.T.iC T.T.tI T.F hr T.b .nil pass0 (by rfl) T.T.gC (pa_cons pe_non pa_nil)))) pss_nil)
      (pss_one (ps_for PassesOwn.leaving rfl (pi_enumX b (by rfl) mE (pa_cons (pv 1) pa_nil))
        (pg_tup rfl (pgs_cons (pg_name (i := 3) nd rfl (.inl rfl)) (pgs_cons (pg_name (i := 4) nd rfl (.inl rfl)) pgs_nil)))
        (pss_one (ps_if (PW.pt (pw_or (pt_not (pt_val (pe_ca cM (hr.mono (by decide)) (by rfl) (pa_cons (pv 0) (pa_cons (pv 4) pa_nil)))))
          (pw_or1 (pt_cmpR op_in_seq (pv 4) (pe_slice sl_seq (pv 1) po_none (po_some (pv 3))) (by rfl)))))
          (pss_one (ps_raise rfl (takes_of rfl rfl rfl rfl) (pmk_oex T.T.oex T.T.iC T.T.tI T.F hr T.b .nil pass0 (by rfl) T.T.gC (pa_cons (pv 3) pa_nil)))) pss_nil)))), ?_⟩
    refine ⟨_, rfl, v, n, rfl, an, fun H1 s1 => ?_⟩
    refine ⟨_, rfl, ?_⟩
    cases hn : isSeq n with
    | false =>
      rw [show (n == "list" || n == "tuple") = false from hn]
      refine iteT (iteT ?_)
      exact mkErr T.T.oex T.T.no fun d hd => kn hn H1 d s1 hd
    | true =>
      rw [show (n == "list" || n == "tuple") = true from hn]
      refine iteF ?_
      obtain ⟨a, xs, rfl, ha⟩ : ∃ a xs, v = .ref a ∧ H a = some (seqO b xs) := by
        cases an with
        | lst e => exact ⟨_, _, rfl, by rw [((hb _ _ rfl).1 e)]; exact e⟩
        | tup e => exact ⟨_, _, rfl, by rw [((hb _ _ rfl).2 e)]; exact e⟩
        | _ => cases hn
      obtain ⟨lx, ax, k0, k1, k2⟩ := kq a b xs rfl ha
      have ha1 := s1 _ _ ha
      have lenV : ∀ {H' : Hp}, H' a = some (seqO b xs) → LenV K (.ref a) H' xs.length := fun {H'} e => by
        cases b with
        | true => exact .inr ⟨_, SqT.of e, rfl⟩
        | false => exact .inl ⟨_, SqL.of e, rfl⟩
      refine ⟨_, rfl, _, xs.length, rfl, lenV ha1, rfl, _, rfl, ?_⟩
      by_cases z0 : xs.length = 0
      · refine iteYes (show V.int ((xs.length : Nat) : Int) = V.int 0 by rw [z0]; rfl) ?_
        exact iteT (mkErr T.T.oex T.T.no fun d hd => k0 (.inl z0) H1 d s1 hd)
      refine iteNot (show ¬ V.int ((xs.length : Nat) : Int) = V.int 0 from fun e => by have := V.int.inj e; omega) ?_
      refine ⟨_, rfl, _, xs.length, rfl, lenV ha1, _, rfl, _, _, rfl, rfl, _, rfl, ?_⟩
      by_cases z3 : 3 < xs.length
      · refine ite2 (fun _ => ?_) (fun q => absurd (decide_eq_true (show ((xs.length : Nat) : Int) > 3 by omega)) q)
        exact (mkErr T.T.oex T.T.no fun d hd => k0 (.inr z3) H1 d s1 hd)
      refine ite2 (fun q => absurd (of_decide_eq_true q) (by omega)) (fun _ => ?_)
      have sqx : ∀ {H' : Hp}, H' a = some (seqO b xs) → SqX K H' a xs b := fun {H'} e => sqX_of e
      refine ⟨_, rfl, a, _, rfl, sqx ha1, for_it (walk_enumX (t := b)) (fun i σ Hi => ∃ o1 o2 : Option V, σ = [some (.str z), some (.ref a), some (.int 3), o1, o2] ∧ Same H Hi ∧ ∀ j, j < i → mkB z xs j = true) ?_ ?_ ?_ ?_⟩
      · exact ⟨_, _, rfl, s1, fun j hj => absurd hj (Nat.not_lt_zero j)⟩
      · rintro i σ Hi _ ⟨_, _, _, sm, _⟩
        exact sqx (sm _ _ ha)
      · rintro i x σ Hi _ hi' ⟨o1, o2, rfl, sm, gd⟩ ⟨T', p, q, rfl, hT, rfl, e1, e2⟩
        obtain rfl : V.int (i : Nat) = p := Option.some.inj e1
        have e2 : xs[i]? = some q := e2
        obtain ⟨nx, aq, sq⟩ := ax q (List.mem_of_getElem? e2)
        have hi : i < xs.length := by
          obtain ⟨h, _⟩ := List.getElem?_eq_some_iff.mp e2
          exact h
        have s2 : Same H (upd Hi T' (.tup [.int (i : Nat), q])) := sm.upd (sm.none hT)
        refine ⟨T', _, rfl, SqT.of upd_same, rfl, _, _, rfl, _, _, rfl, rfl, ?_⟩
        refine ⟨_, rfl, _, rfl, z, q, nx, rfl, aq.same (fun a o _ e => s2 a o e), sq, ?_⟩
        have em : mkB z xs i = (boxB 12 z q && !inV q (xs.take i)) := by
          unfold mkB
          rw [e2]
        refine ⟨_, rfl, ?_⟩
        cases hq : boxB 12 z q with
        | false =>
          rw [hq, Bool.false_and] at em
          refine iteT (iteT ?_)
          exact ⟨_, rfl, mkErr T.T.oex T.T.no fun d hd => k1 (by omega) i hi em gd _ d s2 hd⟩
        | true =>
          rw [hq, Bool.true_and] at em
          refine iteF ?_
          obtain ⟨m, rfl⟩ := box_str hq
          refine ⟨_, rfl, _, rfl, _, rfl, _, rfl, ?_⟩
          have fl := mk_flat (z := z) gd
          have cutE : cutV xs none (some ((i : Nat) : Int)) = xs.take i := cutV_take
          cases b with
          | true =>
            refine .inl ⟨a, _, rfl, SqT.of (s2 _ _ ha), fun q => ?_, fun L hL => ?_⟩
            · have h2 := q.2
              rw [HT.sIx_nat] at h2
              omega
            rw [cutE]
            refine ⟨L, _, rfl, .inr (SqT.of upd_same), rfl, fl, _, rfl, ?_⟩
            have s3 := s2.upd (o := .tup (xs.take i)) (s2.none hL)
            cases hv : inV (.str m) (xs.take i) with
            | true =>
              rw [hv] at em
              exact iteT ⟨_, rfl, mkErr T.T.oex T.T.no fun d hd => k1 (by omega) i hi em gd _ d s3 hd⟩
            | false =>
              rw [hv] at em
              refine iteF ⟨_, _, rfl, s3, fun j hj => ?_⟩
              by_cases hji : j < i
              · exact gd j hji
              · have : j = i := by omega
                rw [this]
                exact em
          | false =>
            refine .inr ⟨a, _, rfl, SqL.of (s2 _ _ ha), fun L hL => ?_⟩
            rw [cutE]
            refine ⟨L, _, rfl, .inl (SqL.of upd_same), rfl, fl, _, rfl, ?_⟩
            have s3 := s2.upd (o := .lst (xs.take i)) (s2.none hL)
            cases hv : inV (.str m) (xs.take i) with
            | true =>
              rw [hv] at em
              exact iteT ⟨_, rfl, mkErr T.T.oex T.T.no fun d hd => k1 (by omega) i hi em gd _ d s3 hd⟩
            | false =>
              rw [hv] at em
              refine iteF ⟨_, _, rfl, s3, fun j hj => ?_⟩
              by_cases hji : j < i
              · exact gd j hji
              · have : j = i := by omega
                rw [this]
                exact em
      · rintro σ Hi ⟨_, _, _, sm, gd⟩
        exact k2 (by omega) (by omega) gd Hi sm
end
end K50
namespace K50
open PySem PySem.Spec PyProof.Rows L2 FL
abbrev sRd (i : Nat) : Stmt := inClass (topS 31) i
abbrev sInit : Stmt := sRd 0
abbrev nInit : List Str := ["self", "signs", "marks", "tail", "sight", "order", "further", "finish", "cares", "name", "value"]
abbrev pInit : List Str := ["self", "signs", "marks", "tail", "sight", "order", "further", "finish"]
/-- the cares, of values of any kind -/
def carV (s o f e : V) : List (Str × V) := [(Str.ofString "sight", s), (Str.ofString "order", o), (Str.ofString "further", f), (Str.ofString "finish", e)]
def carK (s o f e : V) : List (Key × V) := (carV s o f e).map fun q => (Sum.inr q.1, q.2)
theorem carK_merge (s o f e : V) : mergeK [] (carK s o f e) = carK s o f e := by
  have a1 : putK ([] : List (Key × V)) (Sum.inr (Str.ofString "sight")) s = [(Sum.inr (Str.ofString "sight"), s)] := putK_new _ rfl
  have a2 : putK [((Sum.inr (Str.ofString "sight") : Key), s)] (Sum.inr (Str.ofString "order")) o = [(Sum.inr (Str.ofString "sight"), s), (Sum.inr (Str.ofString "order"), o)] :=
    putK_new _ (by rw [valV_neg (keyN nk1)]; rfl)
  have a3 : putK [((Sum.inr (Str.ofString "sight") : Key), s), (Sum.inr (Str.ofString "order"), o)] (Sum.inr (Str.ofString "further")) f = [(Sum.inr (Str.ofString "sight"), s), (Sum.inr (Str.ofString "order"), o), (Sum.inr (Str.ofString "further"), f)] :=
    putK_new _ (by rw [valV_neg (keyN nk2), valV_neg (keyN nk4)]; rfl)
  have a4 : putK [((Sum.inr (Str.ofString "sight") : Key), s), (Sum.inr (Str.ofString "order"), o), (Sum.inr (Str.ofString "further"), f)] (Sum.inr (Str.ofString "finish")) e = carK s o f e :=
    putK_new _ (by rw [valV_neg (keyN nk3), valV_neg (keyN nk5), valV_neg (keyN nk6)]; rfl)
  unfold mergeK
  unfold carK carV at *
  simp only [List.map_cons, List.map_nil, List.foldl_cons, List.foldl_nil]
  rw [a1, a2, a3, a4]
  rfl
def ReaderV (C : Addr) (H : Hp) (p : Addr) (z : Str) (ms : List V) (tl : Str) (s o f e : V) : Prop := ∃ (dx ma ca : Addr), H p = some (.ins C dx (rflds z ma tl ca)) ∧ H ma = some (.lst ms) ∧ H ca = some (.dK (carK s o f e))
def AnyS (H : Hp) (v : V) : Prop := (∃ n, Any H v n) ∧ Short v
theorem AnyS.same {H H' : Hp} {v : V} (h : AnyS H v) (s : Same H H') : AnyS H' v := by
  obtain ⟨⟨n, a⟩, sh⟩ := h
  exact ⟨⟨n, a.same fun a o _ e => s a o e⟩, sh⟩
/-- marks, the first wrong thing of them at pos -/
def MarksBad (H : Hp) (z : Str) (m pos : V) : Prop := (∃ n, Any H m n ∧ isSeq n = false ∧ pos = .non) ∨ ∃ a b xs, m = .ref a ∧ H a = some (seqO b xs) ∧ xs.length ≤ 1000 ∧ (∀ x ∈ xs, AnyS H x) ∧
  (((xs.length = 0 ∨ 3 < xs.length) ∧ pos = .non) ∨ (1 ≤ xs.length ∧ xs.length ≤ 3 ∧ ∃ i, i < xs.length ∧ mkB z xs i = false ∧ (∀ j, j < i → mkB z xs j = true) ∧ pos = .int (i : Nat)))
def MarksGood (H : Hp) (z : Str) (m : V) (xs : List V) : Prop := ∃ a b, m = .ref a ∧ H a = some (seqO b xs) ∧ (∀ x ∈ xs, AnyS H x) ∧ 1 ≤ xs.length ∧ xs.length ≤ 3 ∧ ∀ i, i < xs.length → mkB z xs i = true
theorem seq_any {H : Hp} {a : Addr} {b : Bool} {xs : List V} (h : H a = some (seqO b xs)) : ∃ n, Any H (.ref a) n ∧ isSeq n = true := by
  cases b with
  | true => exact ⟨_, .tup h, rfl⟩
  | false => exact ⟨_, .lst h, rfl⟩
theorem seq_inj {H : Hp} {a : Addr} {b b' : Bool} {xs ys : List V} (h : H a = some (seqO b xs)) (h' : H a = some (seqO b' ys)) : xs = ys := by
  rw [h] at h'
  cases b <;> cases b' <;> cases h' <;> rfl
theorem MarksBad.same {H H' : Hp} {z : Str} {m pos : V} (h : MarksBad H z m pos) (s : Same H H') : MarksBad H' z m pos := by
  rcases h with ⟨n, an, h1, h2⟩ | ⟨a, b, xs, rfl, h1, h2, h3, h4⟩
  · exact .inl ⟨n, an.same fun a o _ e => s a o e, h1, h2⟩
  · exact .inr ⟨a, b, xs, rfl, s _ _ h1, h2, fun x hx => (h3 x hx).same s, h4⟩
theorem MarksGood.same {H H' : Hp} {z : Str} {m : V} {xs : List V} (h : MarksGood H z m xs) (s : Same H H') : MarksGood H' z m xs := by
  obtain ⟨a, b, rfl, h1, h2, h3⟩ := h
  exact ⟨a, b, rfl, s _ _ h1, fun x hx => (h2 x hx).same s, h3⟩
theorem cm_bad {C : Addr} {H : Hp} {z : Str} {m pos : V} {Q : VK} {E : XK} (h : MarksBad H z m pos) (k : ∀ H' d, Same H H' → H' d = none → E (.ref C) (some d) (upd H' d (.xd [(pN, pos)]))) : spCheckM C [.str z, m, .int 3] H Q E := by
  rcases h with ⟨n, an, h1, rfl⟩ | ⟨a, b, xs, rfl, h1, h2, h3, h4⟩
  · refine ⟨z, m, n, rfl, an, fun _ => k, fun a b xs e g => ?_⟩
    rw [e] at an
    rw [any_seq g an] at h1
    cases h1
  · obtain ⟨n, an, hn⟩ := seq_any h1
    refine ⟨z, _, n, rfl, an, (fun q => by rw [hn] at q; cases q), fun a' b' ys e g => ?_⟩
    cases e
    cases seq_inj h1 g
    refine ⟨h2, fun x hx => ?_, fun q => ?_, fun l3' i hi q1 q2 => ?_, fun l1 l3 q => ?_⟩
    · obtain ⟨⟨nx, ax⟩, sx⟩ := h3 x hx
      exact ⟨nx, ax, sx⟩
    · rcases h4 with ⟨_, rfl⟩ | ⟨l1, l3, _⟩
      · exact k
      · omega
    · rcases h4 with ⟨l, _⟩ | ⟨l1, l3, i0, hi0, b0, g0, rfl⟩
      · omega
      · have : i = i0 := by
          by_cases h : i < i0
          · rw [g0 i h] at q1
            cases q1
          · by_cases h' : i0 < i
            · rw [q2 i0 h'] at b0
              cases b0
            · omega
        rw [this]
        exact k
    · rcases h4 with ⟨l, _⟩ | ⟨_, _, i0, hi0, b0, g0, rfl⟩
      · omega
      · rw [q i0 hi0] at b0
        cases b0
theorem cm_good {C : Addr} {H : Hp} {z : Str} {m : V} {xs : List V} {Q : VK} {E : XK} (h : MarksGood H z m xs) (k : ∀ H', Same H H' → Q .non H') : spCheckM C [.str z, m, .int 3] H Q E := by
  obtain ⟨a, b, rfl, h1, h3, l1, l3, g⟩ := h
  obtain ⟨n, an, hn⟩ := seq_any h1
  refine ⟨z, _, n, rfl, an, (fun q => by rw [hn] at q; cases q), fun a' b' ys e g' => ?_⟩
  cases e
  cases seq_inj h1 g'
  refine ⟨by omega, fun x hx => ?_, fun q => ?_, fun _ i hi q1 q2 => ?_, fun _ _ _ => k⟩
  · obtain ⟨⟨nx, ax⟩, sx⟩ := h3 x hx
    exact ⟨nx, ax, sx⟩
  · omega
  · rw [g i hi] at q1
    cases q1
/-- __init__(self, signs, marks, tail, sight, order, further, finish): the first wrong thing, else what stands -/
def spRInitA (C CS CM CT CC : Addr) : Sp := fun vs H Q E => ∃ (p dx : Addr) (a m t s o f e : V), vs = [.ref p, a, m, t, s, o, f, e] ∧ H p = some (.ins C dx []) ∧
  ((AnyS H a ∧ signsB a = false ∧ ∀ H' d, Same H H' → H' d = none → E (.ref CS) (some d) (upd H' d (.xd [(vN, a)]))) ∨
   ∃ z, a = .str z ∧ z.length ≤ 1000 ∧ signsB (.str z) = true ∧
    ((∃ pos, MarksBad H z m pos ∧ ∀ H' d, Same H H' → H' d = none → E (.ref CM) (some d) (upd H' d (.xd [(pN, pos)]))) ∨
     ∃ xs, MarksGood H z m xs ∧
      ((AnyS H t ∧ boxB 3 z t = false ∧ ∀ H' d, Same H H' → H' d = none → E (.ref CT) (some d) (upd H' d (.xd [(vN, t)]))) ∨
       ∃ tl, t = .str tl ∧ tl.length ≤ 1000 ∧ boxB 3 z (.str tl) = true ∧ (∀ q ∈ carV s o f e, AnyS H q.2) ∧
        (∀ (i : Nat) (q : Str × V), (carV s o f e)[i]? = some q → (∀ (j : Nat) (q' : Str × V), j < i → (carV s o f e)[j]? = some q' → careB z q'.1 q'.2 = true) → careB z q.1 q.2 = false →
          ∀ H' d, Same H H' → H' d = none → E (.ref CC) (some d) (upd H' d (.xd [(vN, q.2), (nmN, .str q.1)]))) ∧
        ((∀ q ∈ carV s o f e, careB z q.1 q.2 = true) → ∀ H', ReaderV C H' p z xs tl s o f e → But p H H' → Q .non H'))))
section
variable {P : Program} {w : World} {K : PySem.W.Frag} {mg : Str → Option Value} {base : Heap}
/-- what a def that may raise is, by its name -/
structure CaX (P : Program) (w : World) (K : PySem.W.Frag) (mg : Str → Option Value) (base : Heap) (x : Str) (k : Nat) (ps : List Str) (sp : Sp) : Prop where
  ex : ∃ f fd, FnOk P w K mg base (L2.CX P w) k f fd ps sp ∧ Binds K fd ps [] ∧ PySem.W.keepIn K (.ref f) = true ∧ mg x = some (.ref f)
theorem pe_caX {X : Cx} {x : Str} {k : Nat} {ps : List Str} {sp : Sp} {p pos : Pos} {e : Expr} {es : List Expr} {t : TA} {E : XK} (c : CaX X.prog X.w X.K X.mg X.base x k ps sp) (hr : Room k X.A) (hg : Gl X x) (hx : Passes (L2.CX X.prog X.w) X E) (ha : PA X (e :: es) t)
    (hdb : (x == ("__debug__" : Str)) = false := by decide) (he : starEach (e :: es) X.env = (false, eval e X.env) :: starEach es X.env := by rfl) (hpl : (backTo pos (starEach es X.env)).any (·.1) = false := by rfl) :
    PE X (.Call (.Name x p) (e :: es) [] pos) (tCall sp [] E t) := by
  obtain ⟨f, fd, F, b, kp, m⟩ := c.ex
  exact pe_call F hr hg m kp b .nil hx ha hdb he hpl
theorem tC1 {v : V} {σ : L2.St} {H : Hp} {R : List V → Hp → Prop} (h : R [v] H) : tCons (tC v) tNil σ H R := h
theorem scInit : FnScope nInit pInit (defScope sInit) := ⟨rfl, rfl, rfl, by decide +kernel, rfl, by decide +kernel, by decide +kernel⟩
theorem ok_init {f C CS CM CT CC : Addr} {fd : FuncData} (F : Fun K "__init__" "Reader.__init__" sInit f fd) (T : RdTxt K mg C) {tk : Tok} (mM : mg "MOST_LEVELS" = some (.int 3 tk)) (mL : mg "list" = none)
    (cS : CaX P w K mg base "check_signs" 3 ["signs"] (spCheck CS signsB)) (cM : CaX P w K mg base "check_marks" 3 ["signs", "marks", "most"] (spCheckM CM)) (cT : CaX P w K mg base "check_tail" 3 ["signs", "tail"] (spCheckT CT))
    (cC : CaX P w K mg base "check_care" 3 ["signs", "name", "value"] (spCheckC CC)) : FnOk P w K mg base (L2.CX P w) 4 f fd pInit (spRInitA C CS CM CT CC) := by
  refine F.okX scInit (fun vs H Q E h => ?_) (fun cdv A outer s H vs Q E hr h => ?_)
  · obtain ⟨_, _, _, _, _, _, _, _, _, rfl, _⟩ := h
    rfl
  · obtain ⟨p, dx, a, m, t, s', o, f', e', rfl, hp, k⟩ := h
    have nd := scInit.nd
    have sz : sizeLine = 16777216 := rfl
    have ps : Passes (L2.CX P w) (cxOf (L2.CX P w) P w K mg base nInit "Reader.__init__" (defScope sInit) f cdv A outer s H E) E := passes_call (W := fun cls d _ H => E cls d H) (takes_of rfl rfl rfl rfl) fun _ _ _ _ h => h
    refine ⟨_, pss_cons (ps_expr (pe_caX cS hr (by rfl) ps (pa_cons (pv 1) pa_nil)))
      (pss_cons (ps_expr (pe_caX cM hr (by rfl) ps (pa_cons (pv 1) (pa_cons (pv 2) (pa_cons (pe_glob (v := .int 3) rfl mM ⟨_, rfl⟩) pa_nil)))))
      (pss_cons (ps_expr (pe_caX cT hr (by rfl) ps (pa_cons (pv 1) (pa_cons (pv 3) pa_nil))))
      (pss_cons (ps_set (i := 8) nd rfl (.inl rfl) (pe_disp (pps_cons pe_str (pv 4) (pps_cons pe_str (pv 5) (pps_cons pe_str (pv 6) (pps_cons pe_str (pv 7) pps_nil)))) (by rfl) (by rfl) (fun z => by cases z) (by decide)))
      (pss_cons (ps_for PassesOwn.leaving rfl (pi_list (LiI.pe_listItems rfl (pv 8) (by rfl) mL (by decide +kernel)))
        (pg_tup rfl (pgs_cons (pg_name (i := 9) nd rfl (.inl rfl)) (pgs_cons (pg_name (i := 10) nd rfl (.inl rfl)) pgs_nil)))
        (pss_one (ps_expr (pe_caX cC hr (by rfl) ps (pa_cons (pv 1) (pa_cons (pv 9) (pa_cons (pv 10) pa_nil)))))))
      (pss_cons (ps_fld (pv 0) (pv 1) rfl)
      (pss_cons (ps_fld (pv 0) (pe_callTy call_list_of (by rfl) mL (by decide +kernel) (pa_cons (pv 2) pa_nil)) rfl)
      (pss_cons (ps_fld (pv 0) (pv 3) rfl)
      (pss_one (ps_fld (pv 0) (pv 8) rfl))))))))), ?_⟩
    rcases k with ⟨⟨⟨na, aa⟩, sa⟩, bad, k⟩ | ⟨z, rfl, lz, az, k⟩
    · refine ⟨_, rfl, a, na, rfl, aa, sa, (fun q => by rw [bad] at q; cases q), fun _ H' d s1 hd => k H' d s1 hd⟩
    refine ⟨_, rfl, .str z, "str", rfl, .str z, (fun q e => by cases e; rw [sz]; omega), fun _ H1 s1 => ?_, fun q => by rw [az] at q; cases q⟩
    refine ⟨_, rfl, _, rfl, tC1 ?_⟩
    rcases k with ⟨pos, mb, k⟩ | ⟨xs, mg', k⟩
    · exact cm_bad (mb.same s1) fun H' d s2 hd => k H' d (s1.trans s2) hd
    refine cm_good (mg'.same s1) fun H2 s2 => ?_
    have s12 := s1.trans s2
    refine ⟨_, rfl, _, rfl, ?_⟩
    rcases k with ⟨at_, bad, k⟩ | ⟨tl, rfl, lt, bt, ac, kc, kg⟩
    · obtain ⟨⟨nt, at_⟩, st⟩ := at_.same s12
      exact ⟨z, t, nt, rfl, at_, st, (fun q => by rw [bad] at q; cases q), fun _ d hd => k H2 d s12 hd⟩
    refine ⟨z, .str tl, "str", rfl, .str tl, (fun q e => by cases e; rw [sz]; omega), fun _ => ?_, fun q => by rw [bt] at q; cases q⟩
    intro d hd
    refine ⟨_, rfl, _, rfl, _, rfl, _, rfl, upd_same, carK s' o f' e', rfl, (by show 4 ≤ 15; decide), ?_⟩
    rw [carK_merge]
    have s3 : Same H (upd (upd H2 d (.dK [])) d (.dK (carK s' o f' e'))) := (s12.upd (s12.none hd)).upd (s12.none hd)
    have hd3 : upd (upd H2 d (.dK [])) d (.dK (carK s' o f' e')) d = some (.dK (carK s' o f' e')) := upd_same
    have hd0 : H d = none := s12.none hd
    generalize upd (upd H2 d (.dK [])) d (.dK (carK s' o f' e')) = H3 at s3 hd3 ⊢
    refine ⟨_, rfl, d, carK s' o f' e', rfl, hd3, fun H4 L ts s4 hL0 ht0 nL hL pts => ?_⟩
    have s34 : Same H H4 := s3.trans s4
    have lcar : ts.length = 4 := by rw [Paired.length pts]; rfl
    refine ⟨L, rfl, ⟨_, SqL.of hL⟩, for_it (walk_list (xs := ts.map V.ref)) (fun i σ Hi => ∃ o1 o2 : Option V, σ = [some (.ref p), some (.str z), some m, some (.str tl), some s', some o, some f', some e', some (.ref d), o1, o2] ∧ Same H4 Hi ∧
        ∀ (j : Nat) (q' : Str × V), j < i → (carV s' o f' e')[j]? = some q' → careB z q'.1 q'.2 = true) ?_ ?_ ?_ ?_⟩
    · exact ⟨_, _, rfl, Same.refl H4, fun j _ hj => absurd hj (Nat.not_lt_zero j)⟩
    · rintro i σ Hi _ ⟨_, _, _, sm, _⟩
      exact SqL.of (sm _ _ hL)
    · rintro i x σ Ht Hi hi ⟨o1, o2, rfl, sm, gd⟩ ⟨rfl, hx⟩
      rw [List.getElem?_map] at hx
      cases ht : ts[i]? with
      | none =>
        rw [ht] at hx
        cases hx
      | some t0 =>
        rw [ht] at hx
        obtain rfl : V.ref t0 = x := Option.some.inj hx
        obtain ⟨q, hq, eq⟩ := L2.paired_get pts ht
        obtain ⟨q', hq', e1⟩ : ∃ q', (carV s' o f' e')[i]? = some q' ∧ q = (Sum.inr q'.1, q'.2) := by
          unfold carK at hq
          rw [List.getElem?_map] at hq
          cases hc : (carV s' o f' e')[i]? with
          | none =>
            rw [hc] at hq
            cases hq
          | some q' =>
            rw [hc] at hq
            exact ⟨q', rfl, (Option.some.inj hq).symm⟩
        subst e1
        have hmem := List.mem_of_getElem? hq'
        have hnm : q'.1 ∈ careNs := by
          unfold carV at hmem
          simp only [List.mem_cons, List.mem_nil_iff, or_false] at hmem
          rcases hmem with rfl | rfl | rfl | rfl <;> simp [careNs]
        have sH := s34.trans sm
        obtain ⟨⟨nv, av⟩, sv⟩ := (ac q' hmem).same sH
        refine ⟨t0, _, rfl, SqT.of (sm _ _ eq), rfl, _, _, rfl, _, _, rfl, rfl, ?_⟩
        refine ⟨_, rfl, _, rfl, _, rfl, z, q'.1, q'.2, nv, rfl, hnm, av, sv, fun g => ?_, fun b d' hd' => ?_⟩
        · refine ⟨_, _, rfl, sm, fun j q2 hj h2 => ?_⟩
          by_cases hji : j < i
          · exact gd j q2 hji h2
          · have : j = i := by omega
            rw [this, hq'] at h2
            cases h2
            exact g
        · exact kc i q' hq' gd b Hi d' sH hd'
    · rintro σ Hi ⟨o1, o2, rfl, sm, gd⟩
      have gall : ∀ q ∈ carV s' o f' e', careB z q.1 q.2 = true := fun q hq => by
        obtain ⟨j, hj, ej⟩ := List.getElem_of_mem hq
        refine gd j q ?_ (by rw [List.getElem?_eq_getElem hj, ej])
        rw [List.length_map, lcar]
        exact hj
      have sH := s34.trans sm
      have hp5 := sH _ _ hp
      have hd5 : Hi d = some (.dK (carK s' o f' e')) := sm _ _ (s4 _ _ hd3)
      obtain ⟨a, b, rfl, ha, _, l1, l3, _⟩ := mg'
      have nap : a ≠ p := fun e => by
        rw [e, hp] at ha
        cases b <;> cases ha
      have ha5 := sH _ _ ha
      have ndp : d ≠ p := ne_of hd5 hp5 (by intro q; cases q)
      refine ⟨_, rfl, _, rfl, p, C, dx, [], rfl, hp5, T.cl, T.nS, (by show 0 < 1000; decide), ?_⟩
      have b5 : But p H (upd Hi p (.ins C dx (putF "_signs" (.str z) []))) := fun q o e nc => by rw [upd_ne nc]; exact sH q o e
      have hp6 : upd Hi p (.ins C dx (putF "_signs" (.str z) [])) p = some (.ins C dx (putF "_signs" (.str z) [])) := upd_same
      have hd6 : upd Hi p (.ins C dx (putF "_signs" (.str z) [])) d = some (.dK (carK s' o f' e')) := by rw [upd_ne ndp]; exact hd5
      generalize upd Hi p (.ins C dx (putF "_signs" (.str z) [])) = H6 at b5 hp6 hd6 ⊢
      have ha6 := b5 _ _ ha nap
      refine ⟨_, rfl, a, xs, rfl, (by
        cases b with
        | true => exact .inr (SqT.of ha6)
        | false => exact .inl (SqL.of ha6)), fun M hM => ?_⟩
      have npM : p ≠ M := ne_of_none hp6 hM
      have ndM : d ≠ M := ne_of_none hd6 hM
      refine ⟨_, rfl, p, C, dx, _, rfl, by rw [upd_ne npM]; exact hp6, T.cl, T.nM, (by show 1 < 1000; decide), ?_⟩
      have b7 : But p H (upd (upd H6 M (.lst xs)) p (.ins C dx (putF "_marks" (.ref M) (putF "_signs" (.str z) [])))) := fun q o e nc => by
        rw [upd_ne nc, upd_ne (ne_of_none (b5 q o e nc) hM)]
        exact b5 q o e nc
      have hp7 : upd (upd H6 M (.lst xs)) p (.ins C dx (putF "_marks" (.ref M) (putF "_signs" (.str z) []))) p = some (.ins C dx (putF "_marks" (.ref M) (putF "_signs" (.str z) []))) := upd_same
      have hd7 : upd (upd H6 M (.lst xs)) p (.ins C dx (putF "_marks" (.ref M) (putF "_signs" (.str z) []))) d = some (.dK (carK s' o f' e')) := by rw [upd_ne ndp, upd_ne ndM]; exact hd6
      have hM7 : upd (upd H6 M (.lst xs)) p (.ins C dx (putF "_marks" (.ref M) (putF "_signs" (.str z) []))) M = some (.lst xs) := by rw [upd_ne (Ne.symm npM), upd_same]
      generalize upd (upd H6 M (.lst xs)) p (.ins C dx (putF "_marks" (.ref M) (putF "_signs" (.str z) []))) = H7 at b7 hp7 hd7 hM7 ⊢
      refine ⟨_, rfl, _, rfl, p, C, dx, _, rfl, hp7, T.cl, T.nT, two_len' z M, ?_⟩
      have b8 : But p H (upd H7 p (.ins C dx (putF "_tail" (.str tl) (putF "_marks" (.ref M) (putF "_signs" (.str z) []))))) := fun q o e nc => by rw [upd_ne nc]; exact b7 q o e nc
      have hp8 : upd H7 p (.ins C dx (putF "_tail" (.str tl) (putF "_marks" (.ref M) (putF "_signs" (.str z) [])))) p = some (.ins C dx (putF "_tail" (.str tl) (putF "_marks" (.ref M) (putF "_signs" (.str z) [])))) := upd_same
      have hd8 : upd H7 p (.ins C dx (putF "_tail" (.str tl) (putF "_marks" (.ref M) (putF "_signs" (.str z) [])))) d = some (.dK (carK s' o f' e')) := by rw [upd_ne ndp]; exact hd7
      have hM8 : upd H7 p (.ins C dx (putF "_tail" (.str tl) (putF "_marks" (.ref M) (putF "_signs" (.str z) [])))) M = some (.lst xs) := by rw [upd_ne (Ne.symm npM)]; exact hM7
      generalize upd H7 p (.ins C dx (putF "_tail" (.str tl) (putF "_marks" (.ref M) (putF "_signs" (.str z) [])))) = H8 at b8 hp8 hd8 hM8 ⊢
      refine ⟨_, rfl, _, rfl, p, C, dx, _, rfl, hp8, T.cl, T.nC, three_len' z M tl, ?_⟩
      refine kg gall _ ⟨dx, M, d, upd_same, ?_, ?_⟩ fun q o e nc => ?_
      · rw [upd_ne (Ne.symm npM)]
        exact hM8
      · rw [upd_ne ndp]
        exact hd8
      · rw [upd_ne nc]
        exact b8 q o e nc
end
end K50
namespace FL
open PySem PySem.Spec PyProof.Rows L2 FL
/-! ### trees -/
def Bu : Nat → Type
  | 0 => Str
  | d + 1 => List (Bu d)
/-- its parts -/
abbrev kids {d : Nat} (t : Bu (d + 1)) : List (Bu d) := t
def BuAt (t : Bool) (H : Hp) : (d : Nat) → V → Bu d → Prop
  | 0, v, y => v = .str y
  | d + 1, v, ts => ∃ (a : Addr) (xs : List V), v = .ref a ∧ H a = some (if t then .tup xs else .lst xs) ∧ Paired (BuAt t H d) xs (kids ts)
theorem paired_imp {α β : Type} {R S : α → β → Prop} : ∀ {xs : List α} {ys : List β}, Paired R xs ys → (∀ x y, R x y → S x y) → Paired S xs ys
  | _, _, .nil, _ => .nil
  | _, _, .cons a r, k => .cons (k _ _ a) (paired_imp r k)
theorem BuAt.imp {t : Bool} {H H' : Hp} (s : ∀ a xs, H a = some (if t then .tup xs else .lst xs) → H' a = some (if t then .tup xs else .lst xs)) : ∀ {d : Nat} {v : V} {b : Bu d}, BuAt t H d v b → BuAt t H' d v b
  | 0, _, _, h => h
  | d + 1, _, _, ⟨a, xs, e, h, p⟩ => ⟨a, xs, e, s a xs h, paired_imp p fun _ _ q => BuAt.imp s q⟩
theorem BuAt.same {t : Bool} {H H' : Hp} (s : Same H H') {d : Nat} {v : V} {b : Bu d} (h : BuAt t H d v b) : BuAt t H' d v b := BuAt.imp (fun a _ e => s a _ e) h
/-- every line -/
def Alls (P : Str → Prop) : (d : Nat) → Bu d → Prop
  | 0, y => P y
  | d + 1, ts => ∀ t ∈ kids ts, Alls P d t
/-- at most n parts in each -/
def Few (n : Nat) : (d : Nat) → Bu d → Prop
  | 0, _ => True
  | d + 1, ts => (kids ts).length ≤ n ∧ ∀ t ∈ kids ts, Few n d t
def buD : (d : Nat) → Bu d → PyData
  | 0, y => .str y
  | d + 1, ts => .list ((kids ts).map (buD d))
theorem dp_paired {K : PySem.W.Frag} {H : Hp} {α : Type} {R : V → α → Prop} {f : α → PyData} (h : ∀ v x, R v x → Dp K H v (f x)) : ∀ {xs : List V} {ys : List α}, Paired R xs ys → DpAll K H xs (ys.map f)
  | _, _, .nil => .nil
  | _, _, .cons a r => .cons (h _ _ a) (dp_paired h r)
theorem BuAt.dp {K : PySem.W.Frag} {H : Hp} : ∀ {d : Nat} {v : V} {t : Bu d}, BuAt false H d v t → Dp K H v (buD d t)
  | 0, v, y, h => by
    obtain rfl : v = .str y := h
    exact .str y
  | d + 1, _, _, ⟨a, xs, e, h, p⟩ => by
    subst e
    exact .lst (SqL.of h) (dp_paired (fun _ _ q => BuAt.dp q) p)
/-- the signs that its text takes, at most -/
def roomB (n b : Nat) : Nat → Nat
  | 0 => b
  | d + 1 => (roomB n b d + 2) * n + 2
theorem SmL.all {k m : Nat} {α : Type} {f : α → PyData} : ∀ {xs : List α}, (∀ x ∈ xs, Sm m (f x) ∧ (f x).depth ≤ k) → SmL k ((m + 2) * xs.length) (xs.map f)
  | [], _ => SmL.nil
  | x :: xs, h => by
    have ⟨h1, h2⟩ := h x List.mem_cons_self
    have ih := SmL.all (xs := xs) fun y hy => h y (List.mem_cons_of_mem _ hy)
    have := SmL.cons h1 h2 ih
    rw [List.length_cons, Nat.mul_succ, Nat.add_comm]
    exact this
theorem SmL.mono {k n m : Nat} {ds : List PyData} (h : SmL k n ds) (l : n ≤ m) : SmL k m ds := ⟨h.sh, h.nd, h.cl, h.dp, Nat.le_trans h.len l⟩
theorem depth_all {k : Nat} {α : Type} {f : α → PyData} : ∀ {xs : List α}, (∀ x ∈ xs, (f x).depth ≤ k) → PyData.depthAll (xs.map f) ≤ k
  | [], _ => Nat.zero_le _
  | x :: xs, h => by
    have ih := depth_all (xs := xs) fun y hy => h y (List.mem_cons_of_mem _ hy)
    show max (f x).depth (PyData.depthAll (xs.map f)) ≤ k
    exact Nat.max_le.mpr ⟨h x List.mem_cons_self, ih⟩
theorem bu_depth : ∀ (d : Nat) (t : Bu d), (buD d t).depth ≤ d
  | 0, _ => Nat.zero_le _
  | d + 1, ts => by
    show PyData.depthAll ((kids ts).map (buD d)) + 1 ≤ d + 1
    have := depth_all (xs := kids ts) (f := buD d) (k := d) fun x _ => bu_depth d x
    omega
theorem bu_sm {n b : Nat} : ∀ {d : Nat} {t : Bu d}, d ≤ 12 → Few n d t → Alls (fun y => Plain y ∧ 10 * y.length + 2 ≤ b) d t → Sm (roomB n b d) (buD d t)
  | 0, y, _, _, h => (Sm.str h.1).mono h.2
  | d + 1, ts, hd, ⟨h1, h2⟩, h => by
    have hl := SmL.all (k := d) (xs := kids ts) (f := buD d) fun x hx => ⟨bu_sm (by omega) (h2 x hx) (h x hx), bu_depth d x⟩
    exact (Sm.list hl (by omega)).mono (Nat.add_le_add_right (Nat.mul_le_mul_left _ h1) 2)
/-! ### what is written -/
abbrev Ro : Type := Str × Nat
def nextW : Str := Str.ofString "next"
def endW : Str := Str.ofString "end"
def lineW : Str := Str.ofString "line"
/-- the line of a role -/
def roLine (ms : List Str) (tl : Str) (r : Ro) : Str := (ms.getD (r.2 - 1) (Str.ofString "")) ++ (if r.1 = endW then tl else Str.ofString "")
def ln (y : Bu 0) : Str := y
/-- the rows below level lv, k levels deeper there are the lines -/
def rows (ms : List Str) (tl : Str) : (k : Nat) → (lv : Nat) → Bu (k + 1) → List (Str × Ro)
  | 0, _, ys => (kids ys).map fun y => (ln y, (lineW, 0))
  | k + 1, lv, ts => ((kids ts).flatMap fun part => (roLine ms tl (nextW, lv), (nextW, lv)) :: rows ms tl k (lv + 1) part) ++ [(roLine ms tl (endW, lv), (endW, lv))]
theorem rows_zero (ms : List Str) (tl : Str) (lv : Nat) (ts : Bu 1) : rows ms tl 0 lv ts = (kids ts).map fun y => (ln y, (lineW, 0)) := rfl
/-- the rows of one part -/
def gR (ms : List Str) (tl : Str) (k lv : Nat) (part : Bu (k + 1)) : List (Str × Ro) := (roLine ms tl (nextW, lv), (nextW, lv)) :: rows ms tl k (lv + 1) part
theorem rows_succ (ms : List Str) (tl : Str) (k lv : Nat) (ts : Bu (k + 2)) : rows ms tl (k + 1) lv ts = (kids ts).flatMap (gR ms tl k lv) ++ [(roLine ms tl (endW, lv), (endW, lv))] := rfl
structure RoOk (n : Nat) (r : Ro) : Prop where
  w : r.1 = nextW ∨ r.1 = endW
  lo : 1 ≤ r.2
  hi : r.2 ≤ n
def RoAt (K : PySem.W.Frag) (H : Hp) (v : V) (r : Ro) : Prop := ∃ t, v = .ref t ∧ SqT K H t [.str r.1, .int ((r.2 : Nat) : Int)]
def RowAt (K : PySem.W.Frag) (H : Hp) (v : V) (q : Str × Ro) : Prop := ∃ a u, v = .ref a ∧ H a = some (.tup [.str q.1, u]) ∧ RoAt K H u q.2
/-- all but lists is as it was -/
def NL (H H' : Hp) : Prop := ∀ t o, H t = some o → (∀ ys, o ≠ .lst ys) → H' t = some o
theorem NL.same {H H' : Hp} (s : Same H H') : NL H H' := fun t o e _ => s t o e
theorem NL.updL {H H1 : Hp} {D : Addr} {xs : List V} {o : HO} (s : NL H H1) (h : H1 D = some (.lst xs)) : NL H (upd H1 D o) := fun t u e n => by
  have e1 := s t u e n
  have : t ≠ D := fun q => by
    rw [q, h] at e1
    cases e1
    exact n _ rfl
  rw [upd_ne this]
  exact e1
theorem NL.upd {H H1 : Hp} {D : Addr} {o : HO} (s : NL H H1) (h : H1 D = none) : NL H (upd H1 D o) := fun t u e n => by
  rw [upd_ne (ne_of_none (s t u e n) h)]
  exact s t u e n
theorem NL.trans {H H1 H2 : Hp} (a : NL H H1) (b : NL H1 H2) : NL H H2 := fun t u e n => b t u (a t u e n) n
theorem NL.sqT {K : PySem.W.Frag} {H H' : Hp} {a : Addr} {xs : List V} (s : NL H H') (h : SqT K H a xs) : SqT K H' a xs := by
  rcases h with (h | ⟨o, h⟩) | h
  · exact .inl (.inl (s _ _ h fun _ q => by cases q))
  · exact .inl (.inr ⟨o, s _ _ h fun _ q => by cases q⟩)
  · exact .inr h
theorem RowAt.imp {K : PySem.W.Frag} {H H' : Hp} {v : V} {q : Str × Ro} (s : NL H H') (h : RowAt K H v q) : RowAt K H' v q := by
  obtain ⟨a, u, e, h, t, et, ht⟩ := h
  exact ⟨a, u, e, s _ _ h (fun _ q => by cases q), t, et, s.sqT ht⟩
theorem Rows.imp {K : PySem.W.Frag} {H H' : Hp} {xs : List V} {qs : List (Str × Ro)} (s : NL H H') (h : Paired (RowAt K H) xs qs) : Paired (RowAt K H') xs qs := paired_imp h fun _ _ q => RowAt.imp s q
/-- how many rows there are, at most -/
def capR : Nat → Nat
  | 0 => 10
  | k + 1 => 10 * (1 + capR k) + 1
theorem flat_le {α β : Type} {f : α → List β} {n : Nat} : ∀ {xs : List α}, (∀ x ∈ xs, (f x).length ≤ n) → (xs.flatMap f).length ≤ xs.length * n
  | [], _ => Nat.zero_le _
  | x :: xs, h => by
    have ih := flat_le (xs := xs) fun y hy => h y (List.mem_cons_of_mem _ hy)
    have h1 := h x List.mem_cons_self
    rw [List.flatMap_cons, List.length_append, List.length_cons, Nat.succ_mul]
    omega
theorem rows_len {ms : List Str} {tl : Str} : ∀ {k lv : Nat} {t : Bu (k + 1)}, Few 10 (k + 1) t → (rows ms tl k lv t).length ≤ capR k
  | 0, _, t, h => by
    rw [rows_zero, List.length_map]
    exact h.1
  | k + 1, lv, t, h => by
    rw [rows_succ, List.length_append]
    have := flat_le (xs := kids t) (f := gR ms tl k lv) (n := 1 + capR k) fun x hx => by
      have := rows_len (ms := ms) (tl := tl) (lv := lv + 1) (h.2 x hx)
      show (rows ms tl k (lv + 1) x).length + 1 ≤ _
      omega
    have h1 := Nat.mul_le_mul_right (1 + capR k) h.1
    show _ + 1 ≤ 10 * (1 + capR k) + 1
    omega
theorem ro_len {z : Str} {ms : List Str} {tl : Str} (h : MarksOk z ms) (ht : TailOk z tl) (r : Ro) : (roLine ms tl r).length ≤ 15 := by
  unfold roLine
  rw [len_app]
  have e0 : (Str.ofString "").length = 0 := by decide +kernel
  have h1 : (ms.getD (r.2 - 1) (Str.ofString "")).length ≤ 12 := by
    rw [List.getD_eq_getElem?_getD]
    cases e : ms[r.2 - 1]? with
    | none =>
      show (Str.ofString "").length ≤ 12
      omega
    | some m => exact h.l2 m (List.mem_of_getElem? e)
  have h2 : (if r.1 = endW then tl else Str.ofString "").length ≤ 3 := by
    split
    · exact ht.l2
    · omega
  omega
def spLevelB : Sp := fun vs H Q _ => ∃ (n l : Nat), vs = [.int ((n : Nat) : Int), .int ((l : Nat) : Int)] ∧ 1 ≤ l ∧ l ≤ n ∧ Q (.bl true) H
def spRoleB (K : PySem.W.Frag) : Sp := fun vs H Q _ => ∃ (n : Nat) (t : Addr) (r : Ro), vs = [.int ((n : Nat) : Int), .ref t] ∧ H t = some (.tup [.str r.1, .int ((r.2 : Nat) : Int)]) ∧ RoOk n r ∧ Q (.bl true) H
def spCheckRole (K : PySem.W.Frag) : Sp := fun vs H Q _ => ∃ (n : Nat) (t : Addr) (r : Ro), vs = [.int ((n : Nat) : Int), .ref t] ∧ H t = some (.tup [.str r.1, .int ((r.2 : Nat) : Int)]) ∧ RoOk n r ∧ Q .non H
def spTreeOf (d : Nat) : Sp := fun vs H Q _ => ∃ (z : Str) (v : V) (b : Bool) (t : Bu (d + 1)), vs = [.str z, .int ((d : Nat) : Int), v] ∧ BuAt b H (d + 1) v t ∧ Alls (fun y => Over z y ∧ y.length ≤ 1000) (d + 1) t ∧ Few 10 (d + 1) t ∧ ∀ H', Same H H' → Q (.bl true) H'
def spCheckTree : Sp := fun vs H Q _ => ∃ (d : Nat) (z : Str) (v : V) (b : Bool) (t : Bu (d + 1)), vs = [.str z, .int ((d : Nat) : Int), v] ∧ d ≤ 3 ∧ BuAt b H (d + 1) v t ∧ Alls (fun y => Over z y ∧ y.length ≤ 1000) (d + 1) t ∧ Few 10 (d + 1) t ∧ ∀ H', Same H H' → Q .non H'
/-- a reader that stands -/
structure RdOk (z : Str) (ms : List Str) (tl : Str) (c : Cares) : Prop where
  az : Abc z
  ms : MarksOk z ms
  tl : TailOk z tl
  ca : CaresOk z c
def spRGetS (C : Addr) : Sp := fun vs H Q _ => ∃ (p : Addr) (z : Str) (ms : List Str) (tl : Str) (c : Cares), vs = [.ref p] ∧ ReaderAt C H p z ms tl c ∧ Q (.str z) H
def spRGetD (C : Addr) : Sp := fun vs H Q _ => ∃ (p : Addr) (z : Str) (ms : List Str) (tl : Str) (c : Cares), vs = [.ref p] ∧ ReaderAt C H p z ms tl c ∧ Q (.int ((ms.length : Nat) : Int)) H
def spRoleLine (C : Addr) : Sp := fun vs H Q _ => ∃ (p : Addr) (z : Str) (ms : List Str) (tl : Str) (c : Cares) (t : Addr) (r : Ro), vs = [.ref p, .ref t] ∧ ReaderAt C H p z ms tl c ∧ MarksOk z ms ∧ TailOk z tl ∧ H t = some (.tup [.str r.1, .int ((r.2 : Nat) : Int)]) ∧ RoOk ms.length r ∧ Q (.str (roLine ms tl r)) H
def spREq (C : Addr) : Sp := fun vs H Q _ => ∃ (p q : Addr) (z : Str) (ms : List Str) (tl : Str) (c : Cares), vs = [.ref p, .ref q] ∧ RdOk z ms tl c ∧ ReaderAt C H p z ms tl c ∧ ReaderAt C H q z ms tl c ∧ Q (.bl true) H
def spRows (K : PySem.W.Frag) (C : Addr) (k : Nat) : Sp := fun vs H Q _ => ∃ (p : Addr) (z : Str) (ms : List Str) (tl : Str) (c : Cares) (v : V) (lv : Nat) (b : Bool) (t : Bu (k + 2)), vs = [.ref p, v, .int ((lv : Nat) : Int)] ∧ ReaderAt C H p z ms tl c ∧ MarksOk z ms ∧ TailOk z tl ∧
  1 ≤ lv ∧ lv + k = ms.length ∧ BuAt b H (k + 2) v t ∧ Few 10 (k + 2) t ∧ ∀ (H' : Hp) (L : Addr) (xs : List V), Same H H' → H L = none → H' L = some (.lst xs) → Paired (RowAt K H') xs (rows ms tl (k + 1) lv t) → Q (.ref L) H'
def spWritten (C : Addr) : Sp := fun vs H Q _ => ∃ (p : Addr) (z : Str) (ms : List Str) (tl : Str) (c : Cares) (v : V) (b : Bool) (n : Nat) (t : Bu (n + 2)), vs = [.ref p, v] ∧ ReaderAt C H p z ms tl c ∧ MarksOk z ms ∧ TailOk z tl ∧ ms.length = n + 1 ∧ BuAt b H (n + 2) v t ∧
  Alls (fun y => Over z y ∧ y.length ≤ 1000) (n + 2) t ∧ Few 10 (n + 2) t ∧ ∀ (H' : Hp) (L : Addr), Same H H' → H L = none → H' L = some (.lst (((rows ms tl (n + 1) 1 t).map Prod.fst).map V.str)) → Q (.ref L) H'
def spOwnT (K : PySem.W.Frag) (C : Addr) : Sp := fun vs H Q _ => ∃ (p : Addr) (z : Str) (ms : List Str) (tl : Str) (c : Cares) (v : V) (b : Bool) (n : Nat) (t : Bu (n + 2)), vs = [.ref p, v] ∧ ReaderAt C H p z ms tl c ∧ MarksOk z ms ∧ TailOk z tl ∧ ms.length = n + 1 ∧ BuAt b H (n + 2) v t ∧
  Alls (fun y => Over z y ∧ y.length ≤ 1000) (n + 2) t ∧ Few 10 (n + 2) t ∧ ∀ (H' : Hp) (L : Addr) (xs : List V), Same H H' → H L = none → H' L = some (.lst xs) → Paired (RoAt K H') xs ((rows ms tl (n + 1) 1 t).map Prod.snd) → Q (.ref L) H'
def spIsTree (C : Addr) : Sp := fun vs H Q _ => ∃ (p : Addr) (z : Str) (ms : List Str) (tl : Str) (c : Cares) (v : V) (b : Bool) (n : Nat) (t : Bu (n + 2)), vs = [.ref p, v] ∧ ReaderAt C H p z ms tl c ∧ MarksOk z ms ∧ ms.length = n + 1 ∧ BuAt b H (n + 2) v t ∧
  Alls (fun y => Over z y ∧ y.length ≤ 1000) (n + 2) t ∧ Few 10 (n + 2) t ∧ ∀ H', Same H H' → Q (.bl true) H'
end FL
namespace FL
open PySem PySem.Spec PyProof.Rows L2 FL
theorem mq_signs_marks : ¬ (Str.ofString "signs") = Str.ofString "marks" := by decide +kernel
theorem mq_signs_tail : ¬ (Str.ofString "signs") = Str.ofString "tail" := by decide +kernel
theorem mq_signs_sight : ¬ (Str.ofString "signs") = Str.ofString "sight" := by decide +kernel
theorem mq_signs_order : ¬ (Str.ofString "signs") = Str.ofString "order" := by decide +kernel
theorem mq_signs_further : ¬ (Str.ofString "signs") = Str.ofString "further" := by decide +kernel
theorem mq_signs_finish : ¬ (Str.ofString "signs") = Str.ofString "finish" := by decide +kernel
theorem mq_marks_tail : ¬ (Str.ofString "marks") = Str.ofString "tail" := by decide +kernel
theorem mq_marks_sight : ¬ (Str.ofString "marks") = Str.ofString "sight" := by decide +kernel
theorem mq_marks_order : ¬ (Str.ofString "marks") = Str.ofString "order" := by decide +kernel
theorem mq_marks_further : ¬ (Str.ofString "marks") = Str.ofString "further" := by decide +kernel
theorem mq_marks_finish : ¬ (Str.ofString "marks") = Str.ofString "finish" := by decide +kernel
theorem mq_tail_sight : ¬ (Str.ofString "tail") = Str.ofString "sight" := by decide +kernel
theorem mq_tail_order : ¬ (Str.ofString "tail") = Str.ofString "order" := by decide +kernel
theorem mq_tail_further : ¬ (Str.ofString "tail") = Str.ofString "further" := by decide +kernel
theorem mq_tail_finish : ¬ (Str.ofString "tail") = Str.ofString "finish" := by decide +kernel
theorem mq_sight_order : ¬ (Str.ofString "sight") = Str.ofString "order" := by decide +kernel
theorem mq_sight_further : ¬ (Str.ofString "sight") = Str.ofString "further" := by decide +kernel
theorem mq_sight_finish : ¬ (Str.ofString "sight") = Str.ofString "finish" := by decide +kernel
theorem mq_order_further : ¬ (Str.ofString "order") = Str.ofString "further" := by decide +kernel
theorem mq_order_finish : ¬ (Str.ofString "order") = Str.ofString "finish" := by decide +kernel
theorem mq_further_finish : ¬ (Str.ofString "further") = Str.ofString "finish" := by decide +kernel
/-- the dict that tells what a reader is made of -/
def modelK (z : Str) (ma : Addr) (tl : Str) (c : Cares) : List (Key × V) := [((Sum.inr (Str.ofString "signs") : Key), V.str z), ((Sum.inr (Str.ofString "marks") : Key), V.ref ma), ((Sum.inr (Str.ofString "tail") : Key), V.str tl), ((Sum.inr (Str.ofString "sight") : Key), V.str c.si), ((Sum.inr (Str.ofString "order") : Key), V.str c.od), ((Sum.inr (Str.ofString "further") : Key), V.str c.fu), ((Sum.inr (Str.ofString "finish") : Key), V.str c.fi)]
theorem model_signs (z : Str) (ma : Addr) (tl : Str) (c : Cares) : valV (modelK z ma tl c) (Sum.inr (Str.ofString "signs")) = some (.str z) := by
  show valV (_ :: _) _ = _
  exact valV_pos rfl
theorem model_marks (z : Str) (ma : Addr) (tl : Str) (c : Cares) : valV (modelK z ma tl c) (Sum.inr (Str.ofString "marks")) = some (.ref ma) := by
  show valV (_ :: _ :: _) _ = _
  rw [valV_neg (keyN mq_signs_marks)]
  exact valV_pos rfl
theorem model_tail (z : Str) (ma : Addr) (tl : Str) (c : Cares) : valV (modelK z ma tl c) (Sum.inr (Str.ofString "tail")) = some (.str tl) := by
  show valV (_ :: _ :: _ :: _) _ = _
  rw [valV_neg (keyN mq_signs_tail), valV_neg (keyN mq_marks_tail)]
  exact valV_pos rfl
theorem model_sight (z : Str) (ma : Addr) (tl : Str) (c : Cares) : valV (modelK z ma tl c) (Sum.inr (Str.ofString "sight")) = some (.str c.si) := by
  show valV (_ :: _ :: _ :: _ :: _) _ = _
  rw [valV_neg (keyN mq_signs_sight), valV_neg (keyN mq_marks_sight), valV_neg (keyN mq_tail_sight)]
  exact valV_pos rfl
theorem model_order (z : Str) (ma : Addr) (tl : Str) (c : Cares) : valV (modelK z ma tl c) (Sum.inr (Str.ofString "order")) = some (.str c.od) := by
  show valV (_ :: _ :: _ :: _ :: _ :: _) _ = _
  rw [valV_neg (keyN mq_signs_order), valV_neg (keyN mq_marks_order), valV_neg (keyN mq_tail_order), valV_neg (keyN mq_sight_order)]
  exact valV_pos rfl
theorem model_further (z : Str) (ma : Addr) (tl : Str) (c : Cares) : valV (modelK z ma tl c) (Sum.inr (Str.ofString "further")) = some (.str c.fu) := by
  show valV (_ :: _ :: _ :: _ :: _ :: _ :: _) _ = _
  rw [valV_neg (keyN mq_signs_further), valV_neg (keyN mq_marks_further), valV_neg (keyN mq_tail_further), valV_neg (keyN mq_sight_further), valV_neg (keyN mq_order_further)]
  exact valV_pos rfl
theorem model_finish (z : Str) (ma : Addr) (tl : Str) (c : Cares) : valV (modelK z ma tl c) (Sum.inr (Str.ofString "finish")) = some (.str c.fi) := by
  show valV (_ :: _ :: _ :: _ :: _ :: _ :: _ :: _) _ = _
  rw [valV_neg (keyN mq_signs_finish), valV_neg (keyN mq_marks_finish), valV_neg (keyN mq_tail_finish), valV_neg (keyN mq_sight_finish), valV_neg (keyN mq_order_finish), valV_neg (keyN mq_further_finish)]
  exact valV_pos rfl
theorem put_signs (z : Str) (ma : Addr) (tl : Str) (c : Cares) : putK ([] : List (Key × V)) (Sum.inr (Str.ofString "signs")) (.str z) = [((Sum.inr (Str.ofString "signs") : Key), V.str z)] :=
  putK_new _ (by rfl)
theorem put_marks (z : Str) (ma : Addr) (tl : Str) (c : Cares) : putK [((Sum.inr (Str.ofString "signs") : Key), V.str z)] (Sum.inr (Str.ofString "marks")) (.ref ma) = [((Sum.inr (Str.ofString "signs") : Key), V.str z), ((Sum.inr (Str.ofString "marks") : Key), V.ref ma)] :=
  putK_new _ (by rw [valV_neg (keyN mq_signs_marks)]; rfl)
theorem put_tail (z : Str) (ma : Addr) (tl : Str) (c : Cares) : putK [((Sum.inr (Str.ofString "signs") : Key), V.str z), ((Sum.inr (Str.ofString "marks") : Key), V.ref ma)] (Sum.inr (Str.ofString "tail")) (.str tl) = [((Sum.inr (Str.ofString "signs") : Key), V.str z), ((Sum.inr (Str.ofString "marks") : Key), V.ref ma), ((Sum.inr (Str.ofString "tail") : Key), V.str tl)] :=
  putK_new _ (by rw [valV_neg (keyN mq_signs_tail), valV_neg (keyN mq_marks_tail)]; rfl)
theorem put_sight (z : Str) (ma : Addr) (tl : Str) (c : Cares) : putK [((Sum.inr (Str.ofString "signs") : Key), V.str z), ((Sum.inr (Str.ofString "marks") : Key), V.ref ma), ((Sum.inr (Str.ofString "tail") : Key), V.str tl)] (Sum.inr (Str.ofString "sight")) (.str c.si) = [((Sum.inr (Str.ofString "signs") : Key), V.str z), ((Sum.inr (Str.ofString "marks") : Key), V.ref ma), ((Sum.inr (Str.ofString "tail") : Key), V.str tl), ((Sum.inr (Str.ofString "sight") : Key), V.str c.si)] :=
  putK_new _ (by rw [valV_neg (keyN mq_signs_sight), valV_neg (keyN mq_marks_sight), valV_neg (keyN mq_tail_sight)]; rfl)
theorem put_order (z : Str) (ma : Addr) (tl : Str) (c : Cares) : putK [((Sum.inr (Str.ofString "signs") : Key), V.str z), ((Sum.inr (Str.ofString "marks") : Key), V.ref ma), ((Sum.inr (Str.ofString "tail") : Key), V.str tl), ((Sum.inr (Str.ofString "sight") : Key), V.str c.si)] (Sum.inr (Str.ofString "order")) (.str c.od) = [((Sum.inr (Str.ofString "signs") : Key), V.str z), ((Sum.inr (Str.ofString "marks") : Key), V.ref ma), ((Sum.inr (Str.ofString "tail") : Key), V.str tl), ((Sum.inr (Str.ofString "sight") : Key), V.str c.si), ((Sum.inr (Str.ofString "order") : Key), V.str c.od)] :=
  putK_new _ (by rw [valV_neg (keyN mq_signs_order), valV_neg (keyN mq_marks_order), valV_neg (keyN mq_tail_order), valV_neg (keyN mq_sight_order)]; rfl)
theorem put_further (z : Str) (ma : Addr) (tl : Str) (c : Cares) : putK [((Sum.inr (Str.ofString "signs") : Key), V.str z), ((Sum.inr (Str.ofString "marks") : Key), V.ref ma), ((Sum.inr (Str.ofString "tail") : Key), V.str tl), ((Sum.inr (Str.ofString "sight") : Key), V.str c.si), ((Sum.inr (Str.ofString "order") : Key), V.str c.od)] (Sum.inr (Str.ofString "further")) (.str c.fu) = [((Sum.inr (Str.ofString "signs") : Key), V.str z), ((Sum.inr (Str.ofString "marks") : Key), V.ref ma), ((Sum.inr (Str.ofString "tail") : Key), V.str tl), ((Sum.inr (Str.ofString "sight") : Key), V.str c.si), ((Sum.inr (Str.ofString "order") : Key), V.str c.od), ((Sum.inr (Str.ofString "further") : Key), V.str c.fu)] :=
  putK_new _ (by rw [valV_neg (keyN mq_signs_further), valV_neg (keyN mq_marks_further), valV_neg (keyN mq_tail_further), valV_neg (keyN mq_sight_further), valV_neg (keyN mq_order_further)]; rfl)
theorem put_finish (z : Str) (ma : Addr) (tl : Str) (c : Cares) : putK [((Sum.inr (Str.ofString "signs") : Key), V.str z), ((Sum.inr (Str.ofString "marks") : Key), V.ref ma), ((Sum.inr (Str.ofString "tail") : Key), V.str tl), ((Sum.inr (Str.ofString "sight") : Key), V.str c.si), ((Sum.inr (Str.ofString "order") : Key), V.str c.od), ((Sum.inr (Str.ofString "further") : Key), V.str c.fu)] (Sum.inr (Str.ofString "finish")) (.str c.fi) = [((Sum.inr (Str.ofString "signs") : Key), V.str z), ((Sum.inr (Str.ofString "marks") : Key), V.ref ma), ((Sum.inr (Str.ofString "tail") : Key), V.str tl), ((Sum.inr (Str.ofString "sight") : Key), V.str c.si), ((Sum.inr (Str.ofString "order") : Key), V.str c.od), ((Sum.inr (Str.ofString "further") : Key), V.str c.fu), ((Sum.inr (Str.ofString "finish") : Key), V.str c.fi)] :=
  putK_new _ (by rw [valV_neg (keyN mq_signs_finish), valV_neg (keyN mq_marks_finish), valV_neg (keyN mq_tail_finish), valV_neg (keyN mq_sight_finish), valV_neg (keyN mq_order_finish), valV_neg (keyN mq_further_finish)]; rfl)
def ModelAt (H : Hp) (d : Addr) (z : Str) (ms : List Str) (tl : Str) (c : Cares) : Prop := ∃ ma, H d = some (.dK (modelK z ma tl c)) ∧ H ma = some (.lst (ms.map V.str))
theorem ModelAt.same {H H' : Hp} {d : Addr} {z : Str} {ms : List Str} {tl : Str} {c : Cares} (h : ModelAt H d z ms tl c) (s : Same H H') : ModelAt H' d z ms tl c := by
  obtain ⟨ma, h1, h2⟩ := h
  exact ⟨ma, s _ _ h1, s _ _ h2⟩
theorem pot_nlst {H : Hp} {p : Addr} {ms : List Str} (hp : PotAt H p) : ¬ H p = some (.lst (ms.map V.str)) := fun h => by
  obtain ⟨a, b, e, _⟩ := hp
  rw [e] at h
  cases ms with
  | nil => cases h
  | cons m ms => cases h
theorem ModelAt.but {H H' : Hp} {d p : Addr} {z : Str} {ms : List Str} {tl : Str} {c : Cares} (h : ModelAt H d z ms tl c) (hp : PotAt H p) (b : But p H H') : ModelAt H' d z ms tl c := by
  obtain ⟨ma, h1, h2⟩ := h
  refine ⟨ma, b _ _ h1 (fun e => ?_), b _ _ h2 fun e => ?_⟩
  · obtain ⟨_, _, q, _⟩ := hp
    rw [← e, h1] at q
    cases q
  · rw [e] at h2
    exact pot_nlst hp h2
/-- marks as the law makes them -/
structure MkOk (z : Str) (ms : List Str) (n : Nat) : Prop where
  ov : ∀ m ∈ ms, Over z m
  l1 : ∀ m ∈ ms, 1 ≤ m.length
  l2 : ∀ m ∈ ms, m.length ≤ n
  nd : ms.Nodup
theorem MkOk.snoc {z : Str} {ms : List Str} {n : Nat} {m : Str} (h : MkOk z ms n) (o : Over z m) (a : 1 ≤ m.length) (b : m.length ≤ n + 1) (e : m ∉ ms) : MkOk z (ms ++ [m]) (n + 1) := by
  refine ⟨fun x hx => ?_, fun x hx => ?_, fun x hx => ?_, List.nodup_append.mpr ⟨h.nd, List.pairwise_singleton _ _, fun x hx y hy q => ?_⟩⟩
  · rcases List.mem_append.mp hx with q | q
    · exact h.ov x q
    · rw [List.mem_singleton.mp q]; exact o
  · rcases List.mem_append.mp hx with q | q
    · exact h.l1 x q
    · rw [List.mem_singleton.mp q]; exact a
  · rcases List.mem_append.mp hx with q | q
    · exact Nat.le_succ_of_le (h.l2 x q)
    · rw [List.mem_singleton.mp q]; exact b
  · rw [List.mem_singleton.mp hy] at q
    rw [q] at hx
    exact e hx
def glL : List Str := [Str.ofString "-a", Str.ofString "-.a", Str.ofString "-=>", Str.ofString "01", Str.ofString "-.=>", Str.ofString ".a|"]
theorem gl_all : ∀ z ∈ glL, 2 ≤ z.length ∧ z.length ≤ 4 ∧ z.cps.toList.Pairwise (· < ·) ∧ ∀ c ∈ z.cps.toList, c ∈ poolCodes := by decide +kernel
theorem gl_abc {z : Str} (h : z ∈ glL) : Abc z := by
  obtain ⟨a, b, c, d⟩ := gl_all z h
  exact ⟨a, b, c, d⟩
theorem str_of_mem {l : List Str} {v : V} (h : v ∈ l.map V.str) : ∃ z, z ∈ l ∧ v = .str z := by
  obtain ⟨z, hz, e⟩ := List.mem_map.mp h
  exact ⟨z, hz, e.symm⟩
theorem inV_mem {m : Str} : ∀ {ms : List Str}, inV (.str m) (ms.map V.str) = true → m ∈ ms
  | [], h => by cases h
  | x :: ms, h => by
    have h : (eqV (.str x) (.str m) || inV (.str m) (ms.map V.str)) = true := h
    rcases Bool.or_eq_true_iff.mp h with q | q
    · have : x = m := eq_of_beq (show (x == m) = true from q)
      rw [this]
      exact List.mem_cons_self
    · exact List.mem_cons_of_mem _ (inV_mem q)
theorem inV_of_mem {m : Str} : ∀ {ms : List Str}, m ∈ ms → inV (.str m) (ms.map V.str) = true
  | x :: ms, h => by
    show (eqV (.str x) (.str m) || inV (.str m) (ms.map V.str)) = true
    rcases List.mem_cons.mp h with rfl | q
    · rw [show eqV (.str m) (.str m) = true from beq_self_eq_true m]
      rfl
    · rw [inV_of_mem q, Bool.or_true]
theorem dget_of {H : Hp} {d : Addr} {kvs : List (Key × V)} {x : Str} {v : V} (h : H d = some (.dK kvs)) (e : valV kvs (Sum.inr x) = some v) : DGet H d (.str x) (some v) := by
  rw [← e]
  exact DGet.k (k := Sum.inr x) h
theorem app_nil (a : Str) : a ++ Str.ofString "" = a := by
  apply Str_ext
  rw [Str.cps_append, Array.toList_append, show (Str.ofString "").cps.toList = [] by decide +kernel, List.append_nil]
theorem ro_over {z : Str} {ms : List Str} {tl : Str} (h : MarksOk z ms) (ht : TailOk z tl) {r : Ro} (ok : RoOk ms.length r) : Over z (roLine ms tl r) := by
  unfold roLine
  have lo := ok.lo
  have hi := ok.hi
  have hlt : r.2 - 1 < ms.length := by omega
  have e : ms.getD (r.2 - 1) (Str.ofString "") = ms[r.2 - 1] := by rw [List.getD_eq_getElem?_getD, List.getElem?_eq_getElem hlt]; rfl
  rw [e]
  refine over_app (h.ov _ (List.getElem_mem hlt)) ?_
  split
  · exact ht.ov
  · intro c hc
    rw [show (Str.ofString "").cps.toList = [] by decide +kernel] at hc
    cases hc
theorem ro_short {ms : List Str} {tl : Str} {b c : Nat} (h : ∀ m ∈ ms, m.length ≤ b) (ht : tl.length ≤ c) {r : Ro} (ok : RoOk ms.length r) : (roLine ms tl r).length ≤ b + c := by
  unfold roLine
  have lo := ok.lo
  have hi := ok.hi
  have hlt : r.2 - 1 < ms.length := by omega
  have e : ms.getD (r.2 - 1) (Str.ofString "") = ms[r.2 - 1] := by rw [List.getD_eq_getElem?_getD, List.getElem?_eq_getElem hlt]; rfl
  have e0 : (Str.ofString "").length = 0 := by decide +kernel
  rw [e, len_app]
  have := h _ (List.getElem_mem hlt)
  split <;> omega
theorem bu0_map {b : Bool} {H : Hp} : ∀ {xs : List V} {ys : List (Bu 0)}, Paired (BuAt b H 0) xs ys → xs = ys.map fun y => V.str (ln y)
  | _, _, .nil => rfl
  | _, _, .cons a r => by
    rw [List.map_cons, ← bu0_map r]
    exact congrArg (· :: _) a
theorem rows0_fst (ms : List Str) (tl : Str) (lv : Nat) (t : Bu 1) : ((rows ms tl 0 lv t).map Prod.fst).map V.str = (kids t).map fun y => V.str (ln y) := by
  rw [rows_zero, List.map_map, List.map_map]
  rfl
theorem rows0_snd (ms : List Str) (tl : Str) (lv : Nat) (t : Bu 1) : (rows ms tl 0 lv t).map Prod.snd = List.replicate (kids t).length (lineW, 0) := by
  rw [rows_zero, List.map_map]
  show (kids t).map (fun _ => ((lineW, 0) : Ro)) = _
  induction (kids t) with
  | nil => rfl
  | cons y ys ih => rw [List.map_cons, ih]; rfl
theorem flat_one {α : Type} (x : α) : ∀ n, (List.replicate n [x]).flatten = List.replicate n x
  | 0 => rfl
  | n + 1 => by
    rw [List.replicate_succ, List.flatten_cons, flat_one x n]
    rfl
theorem paired_rep {α β : Type} {R : α → β → Prop} {x : α} {y : β} (h : R x y) : ∀ n, Paired R (List.replicate n x) (List.replicate n y)
  | 0 => .nil
  | n + 1 => .cons h (paired_rep h n)
def spMkReader (C : Addr) : Sp := fun vs H Q _ => ∃ (d : Addr) (z : Str) (ms : List Str) (tl : Str) (c : Cares), vs = [.ref d] ∧ ModelAt H d z ms tl c ∧ RdOk z ms tl c ∧ ∀ (q : Addr) (H' : Hp), H q = none → ReaderAt C H' q z ms tl c → Same H H' → Q (.ref q) H'
def spLLine : Sp := fun vs H Q _ => ∃ (d : Addr) (z : Str) (ms : List Str) (tl : Str) (c : Cares) (t : Addr) (r : Ro), vs = [.ref d, .ref t] ∧ ModelAt H d z ms tl c ∧ MarksOk z ms ∧ TailOk z tl ∧ H t = some (.tup [.str r.1, .int ((r.2 : Nat) : Int)]) ∧ RoOk ms.length r ∧ Q (.str (roLine ms tl r)) H
def spNear : Sp := fun vs H Q _ => ∃ (p d : Addr) (z : Str) (ms : List Str) (tl : Str) (c : Cares), vs = [.ref p, .ref d] ∧ PotAt H p ∧ ModelAt H d z ms tl c ∧ RdOk z ms tl c ∧ (∀ m ∈ ms, m.length ≤ 4) ∧ tl.length ≤ 2 ∧
  ∀ (y : Str) (H' : Hp), Over z y → y.length ≤ 7 → PotAt H' p → But p H H' → Q (.str y) H'
/-- lists alone, each at an address of A -/
def BuF (A : Addr → Prop) (H : Hp) : (d : Nat) → V → Bu d → Prop
  | 0, v, y => v = .str (ln y)
  | d + 1, v, ts => ∃ (a : Addr) (xs : List V), v = .ref a ∧ A a ∧ H a = some (.lst xs) ∧ Paired (BuF A H d) xs (kids ts)
theorem BuF.at_ {A : Addr → Prop} {H : Hp} : ∀ {d : Nat} {v : V} {t : Bu d}, BuF A H d v t → BuAt false H d v t
  | 0, _, _, h => h
  | d + 1, _, _, ⟨a, xs, e, _, h, p⟩ => ⟨a, xs, e, h, paired_imp p fun _ _ q => BuF.at_ q⟩
theorem BuF.imp {A A' : Addr → Prop} {H H' : Hp} (k : ∀ a, A a → A' a) (s : ∀ a xs, A a → H a = some (.lst xs) → H' a = some (.lst xs)) : ∀ {d : Nat} {v : V} {t : Bu d}, BuF A H d v t → BuF A' H' d v t
  | 0, _, _, h => h
  | d + 1, _, _, ⟨a, xs, e, ha, h, p⟩ => ⟨a, xs, e, k a ha, s a xs ha h, paired_imp p fun _ _ q => BuF.imp k s q⟩
theorem BuF.imp' {A : Addr → Prop} {H H' : Hp} (s : ∀ a xs, A a → H a = some (.lst xs) → (∀ b c : Int, xs ≠ [.int b, .int c]) → H' a = some (.lst xs)) : ∀ {d : Nat} {v : V} {t : Bu d}, BuF A H d v t → BuF A H' d v t
  | 0, _, _, h => h
  | d + 1, _, ts, ⟨a, xs, e, ha, h, p⟩ => ⟨a, xs, e, ha, s a xs ha h (fun b c q => by
      rw [q] at p
      obtain ⟨y, _, hy⟩ := L2.paired_get p (i := 0) rfl
      cases d with
      | zero => cases hy
      | succ d =>
        obtain ⟨_, _, e, _⟩ := hy
        cases e), paired_imp p fun _ _ q => BuF.imp' s q⟩
theorem BuF.but {A : Addr → Prop} {H H' : Hp} {p : Addr} {d : Nat} {v : V} {t : Bu d} (hp : PotAt H p) (b : But p H H') (h : BuF A H d v t) : BuF A H' d v t :=
  BuF.imp' (fun a xs _ e n => b a _ e fun q => by
    obtain ⟨x, y, e2, _⟩ := hp
    rw [q, e2] at e
    cases e
    exact n x y rfl) h
theorem bu0_new {A : Addr → Prop} {H : Hp} : ∀ ys : List (Bu 0), Paired (BuF A H 0) (ys.map fun y => V.str (ln y)) ys
  | [] => .nil
  | _ :: ys => .cons rfl (bu0_new ys)
def spBush (d : Nat) : Sp := fun vs H Q _ => ∃ (p m : Addr) (z : Str) (ms : List Str) (tl : Str) (c : Cares), vs = [.ref p, .ref m, .int ((d : Nat) : Int), .int 3] ∧ PotAt H p ∧ ModelAt H m z ms tl c ∧ RdOk z ms tl c ∧ (∀ m ∈ ms, m.length ≤ 4) ∧ tl.length ≤ 2 ∧
  ∀ (v : V) (t : Bu (d + 1)) (H' : Hp), BuF (fun a => H a = none) H' (d + 1) v t → Alls (fun y => Over z y ∧ y.length ≤ 7) (d + 1) t → Few 3 (d + 1) t → PotAt H' p → But p H H' → Q v H'
def spMail (k : Nat) : Sp := fun vs H Q _ => ∃ (d : Addr) (z : Str) (ms : List Str) (tl : Str) (c : Cares) (v : V) (lv : Nat) (t : Bu (k + 1)), vs = [.ref d, v, .int ((lv : Nat) : Int)] ∧ ModelAt H d z ms tl c ∧ MarksOk z ms ∧ TailOk z tl ∧ 1 ≤ lv ∧ lv + k = ms.length + 1 ∧ BuAt false H (k + 1) v t ∧ Few 10 (k + 1) t ∧
  ∀ (H' : Hp) (L : Addr), Same H H' → H L = none → H' L = some (.lst (((rows ms tl k lv t).map Prod.fst).map V.str)) → Q (.ref L) H'
def spDue (K : PySem.W.Frag) (k : Nat) : Sp := fun vs H Q _ => ∃ (d : Addr) (z : Str) (ms : List Str) (tl : Str) (c : Cares) (v : V) (lv : Nat) (t : Bu (k + 1)), vs = [.ref d, v, .int ((lv : Nat) : Int)] ∧ ModelAt H d z ms tl c ∧ MarksOk z ms ∧ 1 ≤ lv ∧ lv + k = ms.length + 1 ∧ BuAt false H (k + 1) v t ∧ Few 10 (k + 1) t ∧
  ∀ (H' : Hp) (L : Addr) (xs : List V), Same H H' → H L = none → H' L = some (.lst xs) → Paired (RoAt K H') xs ((rows ms tl k lv t).map Prod.snd) → Q (.ref L) H'
def spAsTup (k : Nat) : Sp := fun vs H Q _ => ∃ (v : V) (t : Bu (k + 1)), vs = [v] ∧ BuAt false H (k + 1) v t ∧ Few 10 (k + 1) t ∧ ∀ (H' : Hp) (u : V), Same H H' → BuAt true H' (k + 1) u t → Q u H'
def spModel : Sp := fun vs H Q _ => ∃ p : Addr, vs = [.ref p] ∧ PotAt H p ∧ ∀ (d : Addr) (z : Str) (ms : List Str) (tl : Str) (c : Cares) (H' : Hp), H d = none → ModelAt H' d z ms tl c → RdOk z ms tl c → (∀ m ∈ ms, m.length ≤ 4) → tl.length ≤ 2 → PotAt H' p → But p H H' → Q (.ref d) H'
end FL
namespace K50
open PySem PySem.Spec PyProof.Rows L2 FL
theorem cares_sight (c : Cares) : valV (caresK c) (Sum.inr (Str.ofString "sight")) = some (.str c.si) := by
  show valV (_ :: _) _ = _
  exact valV_pos rfl
theorem cares_order (c : Cares) : valV (caresK c) (Sum.inr (Str.ofString "order")) = some (.str c.od) := by
  show valV (_ :: _) _ = _
  rw [valV_neg (keyN nk1)]
  exact valV_pos rfl
theorem cares_further (c : Cares) : valV (caresK c) (Sum.inr (Str.ofString "further")) = some (.str c.fu) := by
  show valV (_ :: _ :: _) _ = _
  rw [valV_neg (keyN nk2), valV_neg (keyN nk4)]
  exact valV_pos rfl
theorem cares_finish (c : Cares) : valV (caresK c) (Sum.inr (Str.ofString "finish")) = some (.str c.fi) := by
  show valV (_ :: _ :: _ :: _) _ = _
  rw [valV_neg (keyN nk3), valV_neg (keyN nk5), valV_neg (keyN nk6)]
  exact valV_pos rfl
/-- a property of a reader -/
def spRG (C : Addr) (val : Str → List Str → Str → Cares → V) : Sp := fun vs H Q _ => ∃ (p : Addr) (z : Str) (ms : List Str) (tl : Str) (c : Cares), vs = [.ref p] ∧ ReaderAt C H p z ms tl c ∧ Q (val z ms tl c) H
def spRMarks (C : Addr) : Sp := fun vs H Q _ => ∃ (p : Addr) (z : Str) (ms : List Str) (tl : Str) (c : Cares), vs = [.ref p] ∧ ReaderAt C H p z ms tl c ∧ ∀ L, H L = none → Q (.ref L) (upd H L (.lst (ms.map V.str)))
section
variable {P : Program} {w : World} {K : PySem.W.Frag} {mg : Str → Option Value} {base : Heap}
theorem scGet1 : FnScope ["self"] ["self"] (defScope (sRd 1)) := ⟨rfl, rfl, rfl, by decide +kernel, rfl, by decide +kernel, by decide +kernel⟩
theorem ok_get1 {f C : Addr} {fd : FuncData} (F : Fun K "signs" "Reader.signs" (sRd 1) f fd) (T : RdTxt K mg C) : FnOk P w K mg base CX0 1 f fd ["self"] (spRG C (fun z _ _ _ => .str z)) := by
  refine F.ok scGet1 (fun vs H Q E h => ?_) (fun cdv A outer s H vs Q E hr h => ?_)
  · obtain ⟨_, _, _, _, _, rfl, _⟩ := h
    rfl
  · obtain ⟨p, z, ms, tl, c, rfl, ⟨dx, ma, ca, h1, h2, h3⟩, k⟩ := h
    refine ⟨_, pss_one (ps_ret (pe_fld (pv 0) rfl)), ?_⟩
    exact ⟨_, rfl, p, C, dx, _, _, rfl, h1, T.cl, T.nS, rflds_signs z ma tl ca, k⟩
theorem scGet2 : FnScope ["self"] ["self"] (defScope (sRd 2)) := ⟨rfl, rfl, rfl, by decide +kernel, rfl, by decide +kernel, by decide +kernel⟩
theorem ok_get2 {f C : Addr} {fd : FuncData} (F : Fun K "tail" "Reader.tail" (sRd 2) f fd) (T : RdTxt K mg C) : FnOk P w K mg base CX0 1 f fd ["self"] (spRG C (fun _ _ tl _ => .str tl)) := by
  refine F.ok scGet2 (fun vs H Q E h => ?_) (fun cdv A outer s H vs Q E hr h => ?_)
  · obtain ⟨_, _, _, _, _, rfl, _⟩ := h
    rfl
  · obtain ⟨p, z, ms, tl, c, rfl, ⟨dx, ma, ca, h1, h2, h3⟩, k⟩ := h
    refine ⟨_, pss_one (ps_ret (pe_fld (pv 0) rfl)), ?_⟩
    exact ⟨_, rfl, p, C, dx, _, _, rfl, h1, T.cl, T.nT, rflds_tail z ma tl ca, k⟩
theorem scGet3 : FnScope ["self"] ["self"] (defScope (sRd 3)) := ⟨rfl, rfl, rfl, by decide +kernel, rfl, by decide +kernel, by decide +kernel⟩
theorem ok_get3 {f C : Addr} {fd : FuncData} (F : Fun K "depth" "Reader.depth" (sRd 3) f fd) (T : RdTxt K mg C) (mN : mg "len" = none) : FnOk P w K mg base CX0 1 f fd ["self"] (spRG C (fun _ ms _ _ => .int ((ms.length : Nat) : Int))) := by
  refine F.ok scGet3 (fun vs H Q E h => ?_) (fun cdv A outer s H vs Q E hr h => ?_)
  · obtain ⟨_, _, _, _, _, rfl, _⟩ := h
    rfl
  · obtain ⟨p, z, ms, tl, c, rfl, ⟨dx, ma, ca, h1, h2, h3⟩, k⟩ := h
    refine ⟨_, pss_one (ps_ret (pe_callB callLen (by rfl) mN PySem.boot_len (pa_cons (pe_fld (pv 0) rfl) pa_nil))), ?_⟩
    exact ⟨_, rfl, p, C, dx, _, _, rfl, h1, T.cl, T.nM, rflds_marks z ma tl ca, _, ms.length, rfl, .inl ⟨_, SqL.of h2, (List.length_map _).symm⟩, k⟩
theorem scGet4 : FnScope ["self"] ["self"] (defScope (sRd 4)) := ⟨rfl, rfl, rfl, by decide +kernel, rfl, by decide +kernel, by decide +kernel⟩
theorem ok_get4 {f C : Addr} {fd : FuncData} (F : Fun K "sight" "Reader.sight" (sRd 4) f fd) (T : RdTxt K mg C) : FnOk P w K mg base CX0 1 f fd ["self"] (spRG C (fun _ _ _ c => .str c.si)) := by
  refine F.ok scGet4 (fun vs H Q E h => ?_) (fun cdv A outer s H vs Q E hr h => ?_)
  · obtain ⟨_, _, _, _, _, rfl, _⟩ := h
    rfl
  · obtain ⟨p, z, ms, tl, c, rfl, ⟨dx, ma, ca, h1, h2, h3⟩, k⟩ := h
    refine ⟨_, pss_one (ps_ret (pe_dget (hu_of hr) (pe_fld (pv 0) rfl) pe_str (fun _ _ => rfl))), ?_⟩
    exact ⟨_, rfl, p, C, dx, _, _, rfl, h1, T.cl, T.nC, rflds_cares z ma tl ca, ca, _, rfl, dget_of h3 (cares_sight c), k⟩
theorem scGet5 : FnScope ["self"] ["self"] (defScope (sRd 5)) := ⟨rfl, rfl, rfl, by decide +kernel, rfl, by decide +kernel, by decide +kernel⟩
theorem ok_get5 {f C : Addr} {fd : FuncData} (F : Fun K "order" "Reader.order" (sRd 5) f fd) (T : RdTxt K mg C) : FnOk P w K mg base CX0 1 f fd ["self"] (spRG C (fun _ _ _ c => .str c.od)) := by
  refine F.ok scGet5 (fun vs H Q E h => ?_) (fun cdv A outer s H vs Q E hr h => ?_)
  · obtain ⟨_, _, _, _, _, rfl, _⟩ := h
    rfl
  · obtain ⟨p, z, ms, tl, c, rfl, ⟨dx, ma, ca, h1, h2, h3⟩, k⟩ := h
    refine ⟨_, pss_one (ps_ret (pe_dget (hu_of hr) (pe_fld (pv 0) rfl) pe_str (fun _ _ => rfl))), ?_⟩
    exact ⟨_, rfl, p, C, dx, _, _, rfl, h1, T.cl, T.nC, rflds_cares z ma tl ca, ca, _, rfl, dget_of h3 (cares_order c), k⟩
theorem scGet6 : FnScope ["self"] ["self"] (defScope (sRd 6)) := ⟨rfl, rfl, rfl, by decide +kernel, rfl, by decide +kernel, by decide +kernel⟩
theorem ok_get6 {f C : Addr} {fd : FuncData} (F : Fun K "further" "Reader.further" (sRd 6) f fd) (T : RdTxt K mg C) : FnOk P w K mg base CX0 1 f fd ["self"] (spRG C (fun _ _ _ c => .str c.fu)) := by
  refine F.ok scGet6 (fun vs H Q E h => ?_) (fun cdv A outer s H vs Q E hr h => ?_)
  · obtain ⟨_, _, _, _, _, rfl, _⟩ := h
    rfl
  · obtain ⟨p, z, ms, tl, c, rfl, ⟨dx, ma, ca, h1, h2, h3⟩, k⟩ := h
    refine ⟨_, pss_one (ps_ret (pe_dget (hu_of hr) (pe_fld (pv 0) rfl) pe_str (fun _ _ => rfl))), ?_⟩
    exact ⟨_, rfl, p, C, dx, _, _, rfl, h1, T.cl, T.nC, rflds_cares z ma tl ca, ca, _, rfl, dget_of h3 (cares_further c), k⟩
theorem scGet7 : FnScope ["self"] ["self"] (defScope (sRd 7)) := ⟨rfl, rfl, rfl, by decide +kernel, rfl, by decide +kernel, by decide +kernel⟩
theorem ok_get7 {f C : Addr} {fd : FuncData} (F : Fun K "finish" "Reader.finish" (sRd 7) f fd) (T : RdTxt K mg C) : FnOk P w K mg base CX0 1 f fd ["self"] (spRG C (fun _ _ _ c => .str c.fi)) := by
  refine F.ok scGet7 (fun vs H Q E h => ?_) (fun cdv A outer s H vs Q E hr h => ?_)
  · obtain ⟨_, _, _, _, _, rfl, _⟩ := h
    rfl
  · obtain ⟨p, z, ms, tl, c, rfl, ⟨dx, ma, ca, h1, h2, h3⟩, k⟩ := h
    refine ⟨_, pss_one (ps_ret (pe_dget (hu_of hr) (pe_fld (pv 0) rfl) pe_str (fun _ _ => rfl))), ?_⟩
    exact ⟨_, rfl, p, C, dx, _, _, rfl, h1, T.cl, T.nC, rflds_cares z ma tl ca, ca, _, rfl, dget_of h3 (cares_finish c), k⟩
theorem scMarks : FnScope ["self"] ["self"] (defScope (sRd 8)) := ⟨rfl, rfl, rfl, by decide +kernel, rfl, by decide +kernel, by decide +kernel⟩
theorem ok_marks {f C : Addr} {fd : FuncData} (F : Fun K "marks" "Reader.marks" (sRd 8) f fd) (T : RdTxt K mg C) (mL : mg "list" = none) : FnOk P w K mg base CX0 1 f fd ["self"] (spRMarks C) := by
  refine F.ok scMarks (fun vs H Q E h => ?_) (fun cdv A outer s H vs Q E hr h => ?_)
  · obtain ⟨_, _, _, _, _, rfl, _⟩ := h
    rfl
  · obtain ⟨p, z, ms, tl, c, rfl, ⟨dx, ma, ca, h1, h2, h3⟩, k⟩ := h
    refine ⟨_, pss_one (ps_ret (pe_callTy call_list_of (by rfl) mL (by decide +kernel) (pa_cons (pe_fld (pv 0) rfl) pa_nil))), ?_⟩
    exact ⟨_, rfl, p, C, dx, _, _, rfl, h1, T.cl, T.nM, rflds_marks z ma tl ca, ma, _, rfl, .inl (SqL.of h2), fun D hD => k D hD⟩
theorem scEq : FnScope ["self", "other"] ["self", "other"] (defScope (sRd 20)) := ⟨rfl, rfl, rfl, by decide +kernel, rfl, by decide +kernel, by decide +kernel⟩
theorem strs_dp {H : Hp} {a : Addr} {ms : List Str} (h : H a = some (.lst (ms.map V.str))) : Dp K H (.ref a) (.list (ms.map PyData.str)) := by
  refine .lst (SqL.of h) ?_
  clear h
  induction ms with
  | nil => exact .nil
  | cons m ms ih => exact .cons (.str m) ih
theorem marks_sm {z : Str} {ms : List Str} (az : Abc z) (om : MarksOk z ms) : Sm 1000 (.list (ms.map PyData.str)) := by
  have h := SmL.all (k := 0) (m := 122) (xs := ms) (f := PyData.str) fun m hm => ⟨(Sm.str (az.plain (om.ov m hm))).mono (by have := om.l2 m hm; omega), Nat.le_refl _⟩
  have := om.hi
  exact (Sm.list h (by decide)).mono (by omega)
theorem ok_eq {f C : Addr} {fd : FuncData} (F : Fun K "__eq__" "Reader.__eq__" (sRd 20) f fd) (T : RdTxt K mg C) (I : IsT K C) (mI : mg "isinstance" = none) : FnOk P w K mg base CX0 1 f fd ["self", "other"] (spREq C) := by
  refine F.ok scEq (fun vs H Q E h => ?_) (fun cdv A outer s H vs Q E hr h => ?_)
  · obtain ⟨_, _, _, _, _, _, rfl, _⟩ := h
    rfl
  · obtain ⟨p, q, z, ms, tl, c, rfl, ok, ⟨dx, ma, ca, h1, h2, h3⟩, ⟨dy, mb, cb, g1, g2, g3⟩, k⟩ := h
    refine ⟨_, pss_one (ps_ret (pe_and (pe_callB call_isi (by rfl) mI (by decide +kernel) (pa_cons (pv 1) (pa_cons (pe_glob (v := .ref C) rfl T.mgC rfl) pa_nil)))
      (pe_and (pe_cmpR op_eq (pe_fld (pv 0) rfl) (pe_fld (pv 1) rfl) (nomark _))
      (pe_and (pe_cmpR (op_eqD hr.units) (pe_fld (pv 0) rfl) (pe_fld (pv 1) rfl) (nomark _))
      (pe_and (pe_cmpR op_eq (pe_fld (pv 0) rfl) (pe_fld (pv 1) rfl) (nomark _))
      (pe_one (pe_cmpR (op_eqV hr.units) (pe_fld (pv 0) rfl) (pe_fld (pv 1) rfl) (nomark _)))))))), ?_⟩
    have sm := marks_sm ok.az ok.ms
    refine ⟨_, rfl, _, .ref C, _, _, true, rfl, .own C, I.ins g1, I.self, _, rfl, ?_⟩
    refine ⟨_, rfl, p, C, dx, _, _, rfl, h1, T.cl, T.nS, rflds_signs z ma tl ca, _, rfl, q, C, dy, _, _, rfl, g1, T.cl, T.nS, rflds_signs z mb tl cb, rfl, ?_⟩
    refine ⟨_, rfl, iteYes rfl ?_⟩
    refine ⟨_, rfl, p, C, dx, _, _, rfl, h1, T.cl, T.nM, rflds_marks z ma tl ca, _, rfl, q, C, dy, _, _, rfl, g1, T.cl, T.nM, rflds_marks z mb tl cb, _, _, strs_dp h2, strs_dp g2, sm.shaped, sm.shaped, ?_⟩
    refine ⟨_, rfl, ?_⟩
    have ev : PyData.eqv (.list (ms.map PyData.str)) (.list (ms.map PyData.str)) = true := by
      rw [SeqAt.eqv_refl]
      exact sm.cl
    rw [ev]
    refine iteT ?_
    refine ⟨_, rfl, p, C, dx, _, _, rfl, h1, T.cl, T.nT, rflds_tail z ma tl ca, _, rfl, q, C, dy, _, _, rfl, g1, T.cl, T.nT, rflds_tail z mb tl cb, rfl, ?_⟩
    refine ⟨_, rfl, iteYes rfl ?_⟩
    refine ⟨_, rfl, p, C, dx, _, _, rfl, h1, T.cl, T.nC, rflds_cares z ma tl ca, _, rfl, q, C, dy, _, _, rfl, g1, T.cl, T.nC, rflds_cares z mb tl cb, 1, by decide, ?_, k⟩
    refine .inr ⟨ca, cb, caresK c, caresK c, rfl, rfl, h3, g3, rfl, fun e he => ?_⟩
    exact cares_self c e he
end
end K50
namespace K50
open PySem PySem.Spec PyProof.Rows L2 FL
abbrev sDraw : Stmt := topS 34
abbrev sPot : Stmt := topS 33
abbrev sPick : Stmt := topS 35
section
variable {P : Program} {w : World} {K : PySem.W.Frag} {mg : Str → Option Value} {base : Heap}
theorem scDraw : FnScope ["_law_pot_here", "_law_top", "_law_digit"] ["_law_pot_here", "_law_top"] (defScope sDraw) :=
  ⟨rfl, rfl, rfl, by decide +kernel, rfl, by decide +kernel, by decide +kernel⟩
theorem ok_draw {f : Addr} {fd : FuncData} (F : Fun K "_law_draw" "_law_draw" sDraw f fd)
    (mD : mg "divmod" = none) (mI : mg "int" = none) :
    FnOk P w K mg base CX0 1 f fd ["_law_pot_here", "_law_top"] spDraw := by
  refine F.ok scDraw (fun vs H Q E h => ?_) (fun cdv A outer s H vs Q E hr h => ?_)
  · obtain ⟨p, n, rfl, _⟩ := h
    rfl
  · obtain ⟨p, n, rfl, ⟨a, b, hp, a0, b0, b1⟩, n0, n1, k⟩ := h
    refine ⟨_, pss_cons (ps_if (pt_cmpR op_gt (pe_ix ix_list (pv 0) pe_int (fun _ _ => rfl)) pe_int (nomark _))
        (pss_cons (ps_asg (pe_callB call_divmod (by rfl) mD (by decide +kernel)
            (pa_cons (pe_ix ix_list (pv 0) pe_int (fun _ _ => rfl)) (pa_cons (pv 1) pa_nil)))
            (pg_tup rfl (pgs_cons (pg_sub (pv 0) pe_int set_list) (pgs_cons (pg_name (i := 2) scDraw.nd rfl (.inl rfl)) pgs_nil))))
          (pss_one (ps_ret (pv 2)))) pss_nil)
      (pss_cons (ps_asg (pe_op op_mod (pe_callTy call_int1 (by rfl) mI (by decide +kernel)
            (pa_cons (pe_op op_add (pe_op op_mul (pe_ix ix_list (pv 0) pe_int (fun _ _ => rfl)) pe_int) pe_int) pa_nil)) pe_int)
          (pg_sub (pv 0) pe_int set_list))
      (pss_one (ps_ret (pe_op op_mod (pe_callTy call_int1 (by rfl) mI (by decide +kernel)
        (pa_cons (pe_op op_fdiv (pe_op op_mod (pe_callTy call_int1 (by rfl) mI (by decide +kernel)
          (pa_cons (pe_op op_mul (pe_ix ix_list (pv 0) pe_int (fun _ _ => rfl)) (pe_ix ix_list (pv 0) pe_int (fun _ _ => rfl))) pa_nil)) pe_int) pe_int) pa_nil)) (pv 1))))), ?_⟩
    refine ⟨_, rfl, p, _, _, .int a, rfl, rfl, SqL.of hp, rfl, _, _, rfl, rfl, _, rfl, ?_⟩
    refine ite2 (fun hc => ?_) (fun hc => ?_)
    · refine ⟨_, rfl, p, _, _, .int a, rfl, rfl, SqL.of hp, rfl, _, rfl, a, n, rfl, ⟨n0, n1⟩, fun q hq => ?_⟩
      have npq : p ≠ q := ne_of_none hp hq
      have hp1 : upd H q (.tup [.int (a / n), .int (a % n)]) p = some (.lst [.int a, .int b]) := by
        rw [upd_ne npq]
        exact hp
      refine ⟨q, _, rfl, SqT.of upd_same, rfl, _, _, rfl, _, rfl, p, _, _, 0, rfl, rfl, hp1, rfl, _, _, rfl, rfl, _, rfl, ?_⟩
      refine k (a % n) _ (Int.emod_nonneg _ (by omega)) (Int.emod_lt_of_pos _ n0) ?_ fun c o e nc => ?_
      · exact ⟨a / n, b, upd_same, Int.ediv_nonneg a0 (by omega), b0, b1⟩
      · rw [upd_ne nc, upd_ne (ne_of_none e hq)]
        exact e
    · refine ⟨_, rfl, p, _, _, .int b, rfl, rfl, SqL.of hp, rfl, _, _, rfl, rfl, .inl ⟨by omega, by omega⟩, _, _, rfl, rfl, .inl ⟨_, rfl, _, _, rfl, rfl, (by show (0 : Int) < 2147483587; decide), ?_⟩⟩
      refine ⟨_, rfl, p, _, _, 1, rfl, rfl, hp, rfl, ?_⟩
      have c0 : 0 ≤ (b * 40699 + 30013) % 2147483587 := Int.emod_nonneg _ (by decide)
      have c1 : (b * 40699 + 30013) % 2147483587 < 2147483587 := Int.emod_lt_of_pos _ (by decide)
      refine ⟨_, rfl, p, _, _, _, rfl, rfl, SqL.of upd_same, rfl, _, rfl, p, _, _, _, rfl, rfl, SqL.of upd_same, rfl, _, _, rfl, rfl, .inl ⟨Int.lt_of_lt_of_le (by decide) c0, Int.lt_trans c1 (by decide)⟩, .inl ⟨_, rfl, _, _, rfl, rfl, (by show (0 : Int) < 2147483549; decide), _, _, rfl, rfl, ⟨by decide, by decide⟩, .inl ⟨_, rfl, _, rfl, _, _, rfl, rfl, n0, ?_⟩⟩⟩
      refine k _ _ (Int.emod_nonneg _ (by omega)) (Int.emod_lt_of_pos _ n0) ?_ fun c o e nc => ?_
      · exact ⟨a, _, upd_same, a0, c0, by omega⟩
      · rw [upd_ne nc]
        exact e
theorem scPick : FnScope ["_law_pot_here", "_law_some"] ["_law_pot_here", "_law_some"] (defScope sPick) :=
  ⟨rfl, rfl, rfl, by decide +kernel, rfl, by decide +kernel, by decide +kernel⟩
theorem ok_pick {f g : Addr} {fd gd : FuncData} (F : Fun K "_law_pick" "_law_pick" sPick f fd)
    (G : FnOk P w K mg base CX0 1 g gd ["_law_pot_here", "_law_top"] spDraw) (bG : Binds K gd ["_law_pot_here", "_law_top"] [])
    (kG : PySem.W.keepIn K (.ref g) = true) (mG : mg "_law_draw" = some (.ref g)) (mL : mg "len" = none) :
    FnOk P w K mg base CX0 2 f fd ["_law_pot_here", "_law_some"] (spPick K) := by
  refine F.ok scPick (fun vs H Q E h => ?_) (fun cdv A outer s H vs Q E hr h => ?_)
  · obtain ⟨p, v, rfl, _⟩ := h
    rfl
  · obtain ⟨p, v, rfl, hp, h⟩ := h
    refine ⟨_, pss_one (ps_ret (pe_ix ix_seq (pv 1) (pe_call G hr (by rfl) mG kG bG .nil pass0
      (pa_cons (pv 0) (pa_cons (pe_callB call_len (by rfl) mL PySem.boot_len (pa_cons (pv 1) pa_nil)) pa_nil))) (fun _ _ => rfl))), ?_⟩
    rcases h with ⟨q, xs, rfl, nq, hq, l0, l1, k⟩ | ⟨z, rfl, l0, l1, k⟩
    · refine ⟨_, rfl, _, rfl, _, rfl, _, xs.length, rfl, .inl ⟨_, hq, rfl⟩, p, (xs.length : Int), rfl, hp, by omega, by omega, fun d H' d0 d1 hp' bt => ?_⟩
      obtain ⟨x, hx, e⟩ := atI_lt d0 d1
      exact .inl ⟨q, xs, d, x, rfl, rfl, bt.sqL nq hq, e, k x H' hx hp' bt⟩
    · refine ⟨_, rfl, _, rfl, _, rfl, _, z.length, rfl, ⟨Nat.le_trans l1 (by decide), rfl⟩, p, (z.length : Int), rfl, hp, by omega, by omega, fun d H' d0 d1 hp' bt => ?_⟩
      rw [str_len] at d1
      obtain ⟨x, hx, e⟩ := atI_lt d0 d1
      exact .inr (.inr ⟨z, d, x, rfl, rfl, Nat.le_trans l1 (by decide), e, k x H' hx hp' bt⟩)
theorem scPot : FnScope ["_law_script", "_law_k", "_law_cell"] ["_law_script", "_law_k"] (defScope sPot) :=
  ⟨rfl, rfl, rfl, by decide +kernel, rfl, by decide +kernel, by decide +kernel⟩
theorem ok_pot {f : Addr} {fd : FuncData} (F : Fun K "_law_pot" "_law_pot" sPot f fd)
    (mA : mg "abs" = none) (mL : mg "len" = none) (mM : mg "max" = none) (mI : mg "int" = none) :
    FnOk P w K mg base CX0 1 f fd ["_law_script", "_law_k"] (spPot K) := by
  refine F.ok scPot (fun vs H Q E h => ?_) (fun cdv A outer s H vs Q E hr h => ?_)
  · obtain ⟨_, _, _, rfl, _⟩ := h
    rfl
  · obtain ⟨a, ns, j, rfl, hs, j0, j1, hn, k⟩ := h
    refine ⟨_, pss_cons (ps_set (i := 2) scPot.nd rfl (.inl rfl) (pe_op op_add (pe_op op_mul pe_int (pv 1)) pe_int))
      (C8.pss_cut (ps_if (pt_cmpR op_lt (pv 1) (pe_callB call_len (by rfl) mL PySem.boot_len (pa_cons (pv 0) pa_nil)) (nomark _))
        (pss_one (ps_set (i := 2) scPot.nd rfl (.inl rfl) (pe_callB call_abs (by rfl) mA (by decide +kernel) (pa_cons (pe_ix ix_list (pv 0) (pv 1) (fun _ _ => rfl)) pa_nil)))) pss_nil)
      (pss_one (ps_ret (pe_lst (pa_cons (pe_callB (call_max2 rfl) (by rfl) mM (by decide +kernel)
          (pa_cons pe_int (pa_cons (pe_op op_sub (pv 2) (pe_op op_pow pe_int pe_int)) pa_nil)))
        (pa_cons (pe_op op_add (pe_op op_mod (pe_callTy call_int1 (by rfl) mI (by decide +kernel)
          (pa_cons (pe_op op_add (pe_op op_add (pe_op op_mul (pe_op op_mod (pe_callTy call_int1 (by rfl) mI (by decide +kernel) (pa_cons (pv 2) pa_nil)) pe_int) pe_int)
            (pe_op op_mul pe_int (pv 1))) pe_int) pa_nil)) pe_int) pe_int) pa_nil)))))), ?_⟩
    refine ⟨_, rfl, _, _, rfl, rfl, .inl ⟨by decide, by decide⟩, _, _, rfl, rfl, ?_⟩
    refine ⟨fun σ' H' => ∃ z : Int, σ' = [some (.ref a), some (.int j), some (.int z)] ∧ H' = H, ?_, ?_⟩
    · refine ⟨_, rfl, _, rfl, _, _, rfl, .inl ⟨_, hs, rfl⟩, _, _, rfl, rfl, _, rfl, ?_⟩
      refine ite2 (fun hc => ?_) (fun hc => ⟨_, rfl, rfl⟩)
      have hlt : j < ((ns.map V.int).length : Int) := of_decide_eq_true hc
      obtain ⟨x, hx, e⟩ := atI_lt j0 hlt
      obtain ⟨i, _, rfl⟩ := List.mem_map.mp hx
      exact ⟨_, rfl, _, rfl, a, _, j, .int i, rfl, rfl, hs, e, i, rfl, _, rfl, rfl⟩
    · rintro σ' H' ⟨z, rfl, rfl⟩
      refine ⟨_, rfl, _, _, rfl, rfl, ⟨by decide, by decide, by decide⟩, _, _, rfl, rfl, _, _, rfl, ?_⟩
      refine ⟨_, rfl, .inl ⟨_, rfl, _, _, rfl, rfl, (by show (0 : Int) < 2147483549; decide), _, _, rfl, rfl, .inr ⟨by decide, by decide⟩, _, rfl, _, _, rfl, rfl, .inl ⟨by decide, by decide⟩, _, _, rfl, rfl, _, _, rfl, rfl, .inl ⟨_, rfl, _, _, rfl, rfl, (by show (0 : Int) < 2147483587; decide), _, _, rfl, rfl, ?_⟩⟩⟩
      refine ⟨(by show 2 ≤ sizeLine; decide), fun p hp => ?_⟩
      refine k p _ hp ⟨_, _, upd_same, ?_, ?_, ?_⟩ fun c o e => ?_
      · split <;> omega
      · have := Int.emod_nonneg (z % 2147483549 * 48271 + 7927 * j + 61) (show (2147483587 : Int) ≠ 0 by decide)
        omega
      · have := Int.emod_lt_of_pos (z % 2147483549 * 48271 + 7927 * j + 61) (show (0 : Int) < 2147483587 by decide)
        omega
      · rw [upd_ne (ne_of_none e hp)]
        exact e
end
end K50
set_option maxHeartbeats 0
namespace K50
open PySem PySem.Spec PyProof.Rows L2 FL
abbrev R : PySem.W.OpenRow := PySem.W.OpenLaw.row PySem.Challenge.rw_frontlines_k50_readers_refused
def gl (x : Str) (K : PySem.W.Frag) : Addr := He.ga K x
def er (x : Str) (K : PySem.W.Frag) : Addr := He.ma K (He.ga K x) "__init__"
def me (m : Str) (K : PySem.W.Frag) : Addr := He.ma K (He.ga K "Reader") m
def getr (m : Str) (K : PySem.W.Frag) : Addr := match PySem.W.recIn K (me m K) "property" with
  | some (.ref g :: _) => g
  | _ => 0
/-- the tuple that the dict of words holds at a word -/
def dcV (K : PySem.W.Frag) (x : Str) : Addr := match PySem.W.nsIn K (He.ga K "CARE_WORDS") x with
  | some (some (.ref a)) => a
  | _ => 0
def dcB (K : PySem.W.Frag) (x : Str) : Bool := He.eqO (PySem.W.nsIn K (He.ga K "CARE_WORDS") x) (some (some (.ref (dcV K x))))
def glD (x : Str) (i : Nat) : DA := ⟨gl x, x, x, topS i⟩
def erD (x q : Str) (i : Nat) : DA := ⟨er x, "__init__", q, inClass (topS i) 0⟩
def meD (m q : Str) (i : Nat) : DA := ⟨me m, m, q, inClass (topS 31) i⟩
def defs : List DA := [glD "is_list" 11, glD "is_signs" 12, glD "is_line" 13, glD "check_signs" 19, glD "is_word" 20, glD "is_mark" 21, glD "check_marks" 22, glD "is_sight" 23, glD "is_tail" 24, glD "check_tail" 25, glD "check_care" 26, meD "__init__" "Reader.__init__" 0, meD "marks" "Reader.marks" 8, meD "__eq__" "Reader.__eq__" 20, ⟨getr "signs", "signs", "Reader.signs", inClass (topS 31) 1⟩, ⟨getr "tail", "tail", "Reader.tail", inClass (topS 31) 2⟩, ⟨getr "depth", "depth", "Reader.depth", inClass (topS 31) 3⟩, ⟨getr "sight", "sight", "Reader.sight", inClass (topS 31) 4⟩, ⟨getr "order", "order", "Reader.order", inClass (topS 31) 5⟩, ⟨getr "further", "further", "Reader.further", inClass (topS 31) 6⟩, ⟨getr "finish", "finish", "Reader.finish", inClass (topS 31) 7⟩, erD "InvalidSigns" "InvalidSigns.__init__" 3, erD "InvalidMarks" "InvalidMarks.__init__" 4, erD "InvalidTail" "InvalidTail.__init__" 5, erD "InvalidCare" "InvalidCare.__init__" 6, glD "_law_pot" 33, glD "_law_draw" 34, glD "_law_pick" 35, glD "_law_text" 36, glD "_law_alphabet" 37, glD "_law_odd_text" 38, glD "_law_labels" 39, glD "_law_care" 40, glD "_law_told" 41, glD "_law_due" 42, glD "_law_is" 43, glD "_law_right" 44, glD "law" 45]
def free1 : List Str := ["isinstance", "str", "len", "all", "zip", "list", "tuple", "enumerate", "range", "int", "divmod", "abs", "max", "min", "repr", "ValueError"]
def glos : List Str := ["is_list", "is_signs", "is_line", "check_signs", "is_word", "is_mark", "check_marks", "is_sight", "is_tail", "check_tail", "check_care"]
def glos2 : List Str := ["_law_pot", "_law_draw", "_law_pick", "_law_text", "_law_alphabet", "_law_odd_text", "_law_labels", "_law_care", "_law_told", "_law_due", "_law_is", "_law_right", "law", "Reader", "SIGHTS", "CARE_WORDS", "LineError", "InvalidSigns", "InvalidMarks", "InvalidTail", "InvalidCare"]
def propB (K : PySem.W.Frag) (m : Str) : Bool :=
  He.eqO (PySem.W.specialIn K (.ref (me m K)) "__get__") (some (some (.builtin "property.__get__")))
  && (decide (PySem.W.takesIn K (.ref (me m K)) = some true)
  && He.eqO (PySem.W.findIn K (.ref (He.ga K "Reader")) m) (some (some (.ref (me m K)))))
def recB (K : PySem.W.Frag) (m : Str) : Bool := match PySem.W.recIn K (me m K) "property" with
  | some (.ref g :: _) => true
  | _ => false
def clsB (K : PySem.W.Frag) (C : Addr) : Bool :=
  He.eqO (PySem.W.findIn K (.ref C) "__class__") (some (some (.builtin "object.__class__")))
  && (decide (PySem.W.mroIn K C (.type "object") = some true)
  && (decide (PySem.W.kitOne K (.ref C) (.ref C) = some true)
  && (FL.kinds.all (fun n => decide (PySem.W.kitOne K (.type n) (.ref C) = some false) && decide (PySem.W.mroIn K C (.type n) = some false))
  && He.eqO (PySem.W.findIn K (.ref C) "__ne__") (some (some (.builtin "object.__ne__"))))))
def exs (K : PySem.W.Frag) : Bool :=
  glos.all (fun x => (He.Fa.glo x).ok K)
  && (glos2.all (fun x => (He.Fa.glo x).ok K)
  && (free1.all (fun x => (He.Fa.free x).ok K)
  && ((He.Fa.int "MOST_MARK_SIGNS" 12).ok K
  && ((He.Fa.int "MOST_TAIL_SIGNS" 3).ok K
  && ((He.Fa.int "MOST_LEVELS" 3).ok K
  && ((He.Fa.str "SIGN_CHARACTERS" signChars).ok K
  && ((He.Fa.cls "Reader").ok K
  && ((He.Fa.noat "Reader" "_signs").ok K
  && ((He.Fa.noat "Reader" "_marks").ok K
  && ((He.Fa.noat "Reader" "_tail").ok K
  && ((He.Fa.noat "Reader" "_cares").ok K
  && ((He.Fa.mkr "Reader").ok K
  && ((He.Fa.meth "Reader" "marks").ok K
  && ((He.Fa.meth "Reader" "__eq__").ok K
  && (recB K "signs"
  && (recB K "tail"
  && (recB K "depth"
  && (recB K "sight"
  && (recB K "order"
  && (recB K "further"
  && (recB K "finish"
  && (propB K "signs"
  && (propB K "tail"
  && (propB K "depth"
  && (propB K "sight"
  && (propB K "order"
  && (propB K "further"
  && (propB K "finish"
  && (clsB K (He.ga K "Reader")
  && (tupB K (He.ga K "SIGHTS") [.str (Str.ofString "whole"), .str (Str.ofString "start")]
  && (tupB K (dcV K "order") [.str (Str.ofString "inner"), .str (Str.ofString "outer")]
  && (tupB K (dcV K "further") [.str (Str.ofString "refuse"), .str (Str.ofString "close")]
  && (tupB K (dcV K "finish") [.str (Str.ofString "refuse"), .str (Str.ofString "close")]
  && (dcB K "order"
  && (dcB K "further"
  && (dcB K "finish"
  && (errB K "value" (He.ga K "InvalidSigns") (er "InvalidSigns" K)
  && (errB K "position" (He.ga K "InvalidMarks") (er "InvalidMarks" K)
  && (errB K "value" (He.ga K "InvalidTail") (er "InvalidTail" K)
  && (errB2 K "name" "value" (He.ga K "InvalidCare") (er "InvalidCare" K)
  && (decide (PySem.W.exmOne K (.ref (He.ga K "InvalidSigns")) (.ref (He.ga K "InvalidSigns")) = some true)
  && (decide (PySem.W.exmOne K (.ref (He.ga K "InvalidMarks")) (.ref (He.ga K "InvalidSigns")) = some false)
  && (decide (PySem.W.exmOne K (.ref (He.ga K "InvalidMarks")) (.ref (He.ga K "InvalidMarks")) = some true)
  && (decide (PySem.W.exmOne K (.ref (He.ga K "InvalidTail")) (.ref (He.ga K "InvalidSigns")) = some false)
  && (decide (PySem.W.exmOne K (.ref (He.ga K "InvalidTail")) (.ref (He.ga K "InvalidMarks")) = some false)
  && (decide (PySem.W.exmOne K (.ref (He.ga K "InvalidTail")) (.ref (He.ga K "InvalidTail")) = some true)
  && (decide (PySem.W.exmOne K (.ref (He.ga K "InvalidCare")) (.ref (He.ga K "InvalidSigns")) = some false)
  && (decide (PySem.W.exmOne K (.ref (He.ga K "InvalidCare")) (.ref (He.ga K "InvalidMarks")) = some false)
  && (decide (PySem.W.exmOne K (.ref (He.ga K "InvalidCare")) (.ref (He.ga K "InvalidTail")) = some false)
  && (decide (PySem.W.exmOne K (.ref (He.ga K "InvalidCare")) (.ref (He.ga K "InvalidCare")) = some true)
  && (decide (PySem.W.kitOne K (.ref (He.ga K "InvalidSigns")) (.ref (He.ga K "LineError")) = some true)
  && (decide (PySem.W.kitOne K (.ref (He.ga K "InvalidMarks")) (.ref (He.ga K "LineError")) = some true)
  && (decide (PySem.W.kitOne K (.ref (He.ga K "InvalidTail")) (.ref (He.ga K "LineError")) = some true)
  && (decide (PySem.W.kitOne K (.ref (He.ga K "InvalidCare")) (.ref (He.ga K "LineError")) = some true)
  && (decide (PySem.W.kitOne K (.ref (He.ga K "InvalidSigns")) (.type "ValueError") = some true)
  && (decide (PySem.W.kitOne K (.ref (He.ga K "InvalidMarks")) (.type "ValueError") = some true)
  && (decide (PySem.W.kitOne K (.ref (He.ga K "InvalidTail")) (.type "ValueError") = some true)
  && (decide (PySem.W.kitOne K (.ref (He.ga K "InvalidCare")) (.type "ValueError") = some true)
  && (kwOk K (me "__init__" K) [("sight", .str (Str.ofString "whole")), ("order", .str (Str.ofString "inner")), ("further", .str (Str.ofString "refuse")), ("finish", .str (Str.ofString "refuse"))]
  && ((K.lookup sysModules).isSome))))))))))))))))))))))))))))))))))))))))))))))))))))))))))))
def loose1 : List Str := ["_wall", "__name__", "LineError", "InvalidSigns", "InvalidMarks", "InvalidTail", "InvalidCare", "InvalidLevel", "SIGN_CHARACTERS", "is_integer", "is_list", "is_signs", "is_line", "SIGHTS", "CARE_WORDS", "MOST_MARK_SIGNS", "MOST_TAIL_SIGNS", "check_signs", "is_word", "is_mark", "check_marks", "is_sight", "is_tail", "check_tail", "check_care"]
def loose2 : List Str := ["is_level", "check_level", "MOST_LEVELS", "Reader", "_law_pot", "_law_draw", "_law_pick", "_law_text", "_law_alphabet", "_law_odd_text", "_law_labels", "_law_care", "_law_told", "_law_due", "_law_is", "_law_right"]
def loose3 : List Str := []
def loose : List Str := loose1 ++ (loose2 ++ loose3)
def tbs : Tbs := [(gl "CARE_WORDS", [Str.ofString "order", Str.ofString "further", Str.ofString "finish"])]
abbrev lamDef : He.Defn := ("_law_right", none)
abbrev lams : List He.Defn := [lamDef]
def ads : List Addr := [1, 3, 31, 51, 70, 89, 108, 143, 148, 155, 156, 157, 167, 174, 181, 188, 195, 202, 209, 216, 396, 407, 414, 421, 426, 433, 440, 445, 452, 459, 466, 473, 478, 483, 30, 50, 69, 88, 107, 142, 147, 154, 158, 159, 160, 166, 173, 180, 187, 194, 201, 208, 215, 395, 406, 413, 420, 425, 432, 439, 444, 451, 458, 465, 472, 477, 482, 48, 67, 86, 105, 245, 253, 261, 269, 277, 285, 293, 301, 308, 388, 47, 66, 85, 104, 244, 238, 252, 260, 268, 276, 284, 292, 300, 307, 387, 251, 259, 267, 275, 283, 291, 299]
abbrev hk : PySem.W.Hook := hookL ads defs exs tbs lams
def ob (s : PySem.W.SharedT) : SawL := obL ads defs exs tbs lams s
end K50
set_option maxHeartbeats 0
namespace K50
open PySem PySem.W PySem.Calls PySem.Spec PyProof.Rows L2 FL
theorem run (w : World) : HandSHeadRun.RunEq R (view R.prog [45]) hk ob 20000 loose w := by
  refine byRow2 "special-get-raises" (P := fun w => HandSHeadRun.RunEq R (view R.prog [45]) hk ob 20000 loose w) (fun w => ?_) (fun w => ?_) w
  · intro os
    kernel_rfl
  · intro os
    kernel_rfl
end K50
/-! repr of data of the run's own: lists, tuples, dicts within one another -/
namespace FL
open PySem PySem.Spec PyProof.Rows L2
def kD : Key → PyData
  | .inl i => .int i
  | .inr x => .str x
mutual
inductive Dq (H : Hp) : V → PyData → Prop
  | non : Dq H .non .none
  | bl (b : Bool) : Dq H (.bl b) (.bool b)
  | int (i : Int) : Dq H (.int i) (.int i)
  | str (x : Str) : Dq H (.str x) (.str x)
  | lst {a : Addr} {xs : List V} {ds : List PyData} : H a = some (.lst xs) → DqAll H xs ds → Dq H (.ref a) (.list ds)
  | tup {a : Addr} {xs : List V} {ds : List PyData} : H a = some (.tup xs) → DqAll H xs ds → Dq H (.ref a) (.tuple ds)
  | dct {a : Addr} {kvs : List (Key × V)} {es : List (PyData × PyData)} : H a = some (.dK kvs) → es.map (·.1) = kvs.map (fun q => kD q.1) → DqAll H (kvs.map (·.2)) (es.map (·.2)) → Dq H (.ref a) (.dict es)
inductive DqAll (H : Hp) : List V → List PyData → Prop
  | nil : DqAll H [] []
  | cons {v : V} {vs : List V} {d : PyData} {ds : List PyData} : Dq H v d → DqAll H vs ds → DqAll H (v :: vs) (d :: ds)
end
section
variable {X : Cx} {pins : List (Addr × Obj)} {σ : L2.St} {H : Hp} {s : Shared}
theorem sys_free (I : Inv X pins σ H s) (hs : (X.K.lookup sysModules).isSome = true) : H sysModules = none := by
  obtain ⟨o, e⟩ := Option.isSome_iff_exists.mp hs
  exact (I.bs sysModules o (I.ok.mod.kin _ _ e)).2
theorem keys_read {h : Heap} {es : List DictEntry} {vs : List (Key × Value)} (h2 : PySem.Pairs (mixKind X.prog X.w) es vs) : ∀ {kvs : List (Key × V)}, KV kvs vs → ReadsAll h (es.map (·.key)) (kvs.map fun q => kD q.1) [] ∧ Vals (kvs.map (·.2)) (es.map (·.val)) := by
  induction h2 with
  | nil =>
    intro kvs h1
    cases h1
    exact ⟨.nil, .nil⟩
  | @cons e kv es vs k1 k2 _ ih =>
    intro kvs h1
    cases h1 with
    | @cons q _ qs _ r t =>
      obtain ⟨r1, r2⟩ := r
      obtain ⟨a1, a2⟩ := ih t
      refine ⟨?_, .cons (show L2.RelV q.2 e.val by rw [k2]; exact r2) a2⟩
      have kk : keyIs kv.1 e.key = true := k1
      have one : Reads h e.key (kD q.1) [] := by
        rw [r1]
        rcases keyIs_shape kk with ⟨i, t, e1, e2⟩ | ⟨x, t, e1, e2⟩
        · rw [e1, e2]
          exact .int i t
        · rw [e1, e2]
          exact .str x t
      exact ReadsAll.cons (as := []) (bs := []) one a1
mutual
theorem Dq.reads (I : Inv X pins σ H s) : ∀ {v : V} {d : PyData} (u : Value), Dq H v d → RelV v u → ∃ as, Reads s.heap u d as ∧ ∀ b ∈ as, H b ≠ none
  | _, _, _, .non, r => by
    cases r
    exact ⟨_, .none, fun _ h => nomatch h⟩
  | _, _, _, .bl b, r => by
    cases r
    exact ⟨_, .bool b, fun _ h => nomatch h⟩
  | _, _, _, .int i, r => by
    obtain ⟨t, rfl⟩ := r
    exact ⟨_, .int i t, fun _ h => nomatch h⟩
  | _, _, _, .str x, r => by
    obtain ⟨t, rfl⟩ := r
    exact ⟨_, .str x t, fun _ h => nomatch h⟩
  | _, _, _, .lst (a := a) e ha, r => by
    cases r
    obtain ⟨_, its, n, rv, ho⟩ := I.hok _ _ e
    obtain ⟨as, hr, hn⟩ := DqAll.reads I its ha rv
    refine ⟨_, Reads.list ho rfl rfl (by simpa using hr), fun b hb => ?_⟩
    rcases List.mem_cons.mp hb with rfl | hb
    · rw [e]
      exact fun z => nomatch z
    · exact hn b hb
  | _, _, _, .tup (a := a) e ha, r => by
    cases r
    obtain ⟨its, rv, ⟨o, ho, hc, n, hd⟩, _⟩ := I.tuple (SqT.of e)
    obtain ⟨as, hr, hn⟩ := DqAll.reads I its ha rv
    exact ⟨_, Reads.tuple ho hc hd (by simpa using hr), hn⟩
  | _, _, _, .dct (a := a) (es := ds) e hk ha, r => by
    cases r
    obtain ⟨_, _, vs, kv, o, es, ep, h1, h2, h3, _, pr, _⟩ := I.hok _ _ e
    obtain ⟨rk, rv⟩ := keys_read pr kv
    obtain ⟨bs, hr, hn⟩ := DqAll.reads I _ ha rv
    rw [← hk] at rk
    refine ⟨_, Reads.dict h1 h2.1 h3 rk hr, fun b hb => ?_⟩
    have hb : b ∈ a :: bs := by simpa using hb
    rcases List.mem_cons.mp hb with rfl | hb
    · rw [e]
      exact fun z => nomatch z
    · exact hn b hb
theorem DqAll.reads (I : Inv X pins σ H s) : ∀ {vs : List V} {ds : List PyData} (us : List Value), DqAll H vs ds → Vals vs us → ∃ as, ReadsAll s.heap us ds as ∧ ∀ b ∈ as, H b ≠ none
  | _, _, _, .nil, r => by
    cases r
    exact ⟨_, .nil, fun _ h => nomatch h⟩
  | _, _, _, .cons h1 h2, r => by
    cases r with
    | cons r1 r2 =>
      obtain ⟨as, q1, n1⟩ := Dq.reads I _ h1 r1
      obtain ⟨bs, q2, n2⟩ := DqAll.reads I _ h2 r2
      refine ⟨_, .cons q1 q2, fun b hb => ?_⟩
      rcases List.mem_append.mp hb with hb | hb
      · exact n1 b hb
      · exact n2 b hb
end
end
section
variable {X : Cx}
theorem call_reprD (hs : (X.K.lookup sysModules).isSome = true) (hG : X.A.guards = some []) (hu : X.A.units + 64 < cLine) :
    CallR X (.builtin "repr") (fun xs H Q => ∃ v d, xs = [v] ∧ Dq H v d ∧ NiceD d ∧ Q (.str d.shown) H) := by
  intro pins s σ H xs us Q I r h
  obtain ⟨v, d, rfl, hd, ⟨n1, n2, n3⟩, q⟩ := h
  cases r with
  | cons r1 r2 =>
    cases r2
    rename_i u
    obtain ⟨as, rd, ok⟩ := Dq.reads I u hd r1
    have no : sysModules ∉ as := fun hb => ok _ hb (sys_free I hs)
    have out : ∀ (h' : Heap) (w : Tok) (tk : Nat), (∀ b o, s.heap.get? b = some o → h'.get? b = some o) →
        EP X pins σ Q (.str d.shown w) { s with heap := h', toks := tk } :=
      fun h' w tk kp => ⟨.str d.shown, H, I.kept kp, ⟨w, rfl⟩, q⟩
    cases rd with
    | none => exact P.repr_of_none (out s.heap _ _ fun _ _ e => e)
    | bool b => exact P.repr_of_bool (out s.heap _ _ fun _ _ e => e)
    | int i t => exact P.repr_of_int (by simpa [PyData.showable] using n1) (out s.heap _ _ fun _ _ e => e)
    | str z t => exact P.repr_of_str (out s.heap _ _ fun _ _ e => e) n3
    | list h1 h2 h3 h4 => exact repr_of_reads' (.list h1 h2 h3 h4) n1 (fun _ => no) hG (by omega) (fun _ _ e => e) out n3
    | tuple h1 h2 h3 h4 => exact repr_of_reads' (.tuple h1 h2 h3 h4) n1 (fun _ => no) hG (by omega) (fun _ _ e => e) out n3
    | dict h1 h2 h3 h4 h5 => exact repr_of_reads' (.dict h1 h2 h3 h4 h5) n1 (fun _ => no) hG (by omega) (fun _ _ e => e) out n3
end
end FL
namespace FL
open PySem PySem.Spec PyProof.Rows L2
/-! ### sorted(lines, key=f), f a def of one's own that tells (length, line) -/
def lineKey (z : V × Str) : PyData := .tuple [.int ((z.2.length : Nat) : Int), .str z.2]
def keyT (b : Str) : List V := [.int ((b.length : Nat) : Int), .str b]
def sortL (zs : List (V × Str)) : List (V × Str) := zs.mergeSort (PySem.W.dataLe false lineKey)
/-- an object of ours that no one tracks -/
structure Own (X : Cx) (pins : List (Addr × Obj)) (b : Addr) : Prop where
  new : b ∈ X.ex ∨ X.s_0.heap.objs.size ≤ b
  loc : b ≠ X.env.locals
  cel : ∀ x c, X.env.cells.lookup x = some c → c ≠ b
  pin : ∀ p ∈ X.pn ++ pins, p.1 ≠ b
  nfs : b ∉ X.fs
section
variable {X : Cx} {pins : List (Addr × Obj)} {σ : L2.St} {H : Hp} {s : Shared}
theorem Own.of (I : Inv X pins σ H s) {b : Addr} (h : s.heap.objs.size ≤ b) : Own X pins b := by
  refine ⟨.inr (Nat.le_trans I.sz h), fun e => ?_, fun x c e z => ?_, fun p hp e => ?_, I.nofs h⟩
  · have q := I.lt
    rw [← e] at q
    exact Nat.lt_irrefl _ (Nat.lt_of_lt_of_le q h)
  · obtain ⟨v, o, ho, _⟩ := I.cell x c e
    have q := Heap.lt_size ho
    rw [z] at q
    exact Nat.lt_irrefl _ (Nat.lt_of_lt_of_le q h)
  · have q := Heap.lt_size (I.pin p hp).1
    rw [e] at q
    exact Nat.lt_irrefl _ (Nat.lt_of_lt_of_le q h)
theorem Own.cons {b c : Addr} {o : Obj} (h : Own X pins b) (n : c ≠ b) : Own X ((c, o) :: pins) b :=
  ⟨h.new, h.loc, h.cel, fun p hp => by
    rcases List.mem_append.mp hp with hp | hp
    · exact h.pin p (List.mem_append_left _ hp)
    · rcases List.mem_cons.mp hp with rfl | hp
      · exact n
      · exact h.pin p (List.mem_append_right _ hp), h.nfs⟩
theorem drop_pin {q : Addr × Obj} (I : Inv X (q :: pins) σ H s) : Inv X pins σ H s :=
  I.pins_of fun p hp => I.pin p (List.mem_append_right _ (List.mem_cons_of_mem _ hp))
theorem put_pin {b : Addr} {o : Obj} (I : Inv X pins σ H s) (w : Own X pins b) (e : s.heap.get? b = some o) (n : H b = none) (nd : ∀ v, o.data ≠ .cell v) : Inv X ((b, o) :: pins) σ H s := by
  refine I.pins_of fun p hp => ?_
  rcases List.mem_cons.mp hp with rfl | hp
  · exact ⟨e, n, w.loc, w.nfs, nd⟩
  · exact I.pin p (List.mem_append_right _ hp)
theorem re_pin {b : Addr} {o o' : Obj} {h' : Heap} {t' : Nat} (I : Inv X ((b, o) :: pins) σ H s) (w : Own X pins b) (hs : Heap.SameBut b s.heap h') (e : h'.get? b = some o') (nd : ∀ v, o'.data ≠ .cell v) :
    Inv X ((b, o') :: pins) σ H { s with heap := h', toks := t' } := by
  have n : H b = none := (I.pin (b, o) (List.mem_append_right _ List.mem_cons_self)).2.1
  have I1 : Inv X pins σ H { s with heap := h', toks := t' } := (drop_pin I).turned (fun c u hc q => (hs.2 c hc).trans q) n w.loc w.new w.cel w.pin
  exact put_pin I1 w e n nd
theorem seq_nd {t : String} {xs : Array Value} {n : Nat} : ∀ v, (seqObj t xs n).data ≠ .cell v := fun _ e => by cases e

/-- what a call f(x) must do: a new tuple (length, line), all else as it was -/
def KeyTurn (X : Cx) (A' : Around) (f : Value) (H : Hp) (σ : L2.St) (zs : List (V × Str)) : Prop :=
  ∀ (pins : List (Addr × Obj)) (s : Shared) (Hi : Hp) (u : Value) (z : V × Str), z ∈ zs → Inv X pins σ Hi s → (∀ b o, H b = some o → Hi b = some o) → RelV z.1 u →
    wpAny (model X.prog X.w) A' (call f [u]) (EP X pins σ fun v H' => ∃ p, v = .ref p ∧ Hi p = none ∧ H' = upd Hi p (.tup (keyT z.2))) (fun _ _ => False) s
theorem key_reads (I : Inv X pins σ H s) {p : Addr} {b : Str} (h : H p = some (.tup (keyT b))) : ∃ as, Reads s.heap (.ref p) (.tuple [.int ((b.length : Nat) : Int), .str b]) as :=
  Dp.reads I _ (.ref p) (.ref p) (.tup (SqT.of h) (.cons (.int _) (.cons (.str _) .nil))) rfl
theorem each_mono_mem {α β : Type} {R R' : α → β → Prop} {as : List α} {bs : List β} (h : PySem.W.EachIs R as bs) (k : ∀ a b, R a b → R' a b) : PySem.W.EachIs R' as bs := h.mono k
theorem hide1 {h : Heap} {a kS : Addr} : PySem.W.KeepsBut a (PySem.W.hideAll h [kS]) h := fun _ _ _ e => PySem.W.of_hideAll _ e
theorem alike_keys (zs : List (V × Str)) : PySem.W.AllAlike (zs.map lineKey) := PySem.W.AllAlike.of fun b b' => by simp [PySem.W.alike, PySem.W.alikeAll, lineKey]
theorem sortable_keys (zs : List (V × Str)) : PySem.W.Sortable (zs.map lineKey) := PySem.W.Sortable.tuples fun _ => ⟨_, _, rfl⟩
theorem depth_key (z : V × Str) : (lineKey z).depth = 1 := by simp [lineKey, PyData.depth, PyData.depthAll]
theorem vals_each : ∀ {zs : List (V × Str)} {us : List Value}, PySem.W.EachIs (fun u (z : V × Str) => RelV z.1 u) us zs → Vals (zs.map Prod.fst) us
  | _, _, .nil => .nil
  | _, _, .cons h t => .cons h (vals_each t)
theorem each_vals : ∀ {zs : List (V × Str)} {us : List Value}, Vals (zs.map Prod.fst) us → PySem.W.EachIs (fun u (z : V × Str) => RelV z.1 u) us zs
  | [], _, h => by cases h; exact .nil
  | _ :: _, _, h => by
    cases h with
    | cons h t => exact .cons h (each_vals t)
theorem key_rest {A' : Around} {f : Value} {a kS : Addr} {e1 : Nat} {us : List Value} {zs : List (V × Str)} {E : Value → Shared → Prop} {P : PySem.Fin → Shared → Prop}
    (I : Inv X ((kS, seqObj "list" #[] 0) :: (a, seqObj "list" #[] e1) :: pins) σ H s) (wa : Own X pins a) (wk : Own X pins kS) (hka : kS ≠ a) (r : Vals (zs.map Prod.fst) us) (hZ : zs.length ≤ sizeLine)
    (hu : A'.units + 1 < cLine) (turn : KeyTurn X A' f H σ zs)
    (h : ∀ (s' : Shared) (H' : Hp), Inv X pins σ H' s' → (∀ b o, H b = some o → H' b = some o) → H a = none → H' a = some (.lst ((sortL zs).map Prod.fst)) → P (.done (.ret .none)) s') :
    wpAny (model X.prog X.w) A' (ksk_rest a f false us.toArray e1 (.ref kS)) P E s := by
  have hl : us.length = zs.length := by rw [← r.length, List.length_map]
  have na0 : H a = none := (I.pin (a, seqObj "list" #[] e1) (List.mem_append_right _ (List.mem_cons_of_mem _ List.mem_cons_self))).2.1
  unfold ksk_rest
  refine wpAny_bind (wpAny_rule ?_)
  first
    | rw [List.forIn_toArray]
    | (rw [← Array.forIn_toList]; simp only [List.toList_toArray])
    | rw [← Array.forIn_toList]
  refine wpAny_bind (ksk_fold (fun i s' => ∃ Hi kA e, Inv X ((kS, seqObj "list" kA e) :: (a, seqObj "list" #[] e1) :: pins) σ Hi s' ∧ (∀ b o, H b = some o → Hi b = some o)
      ∧ PySem.W.EachIs (fun (v : Value) (z : V × Str) => ∃ p, v = .ref p ∧ Hi p = some (.tup (keyT z.2))) kA.toList (zs.take i)) us 0 s
    ⟨H, #[], 0, I, fun _ _ e => e, by rw [List.take_zero]; exact .nil⟩ ?step ?done)
  case step =>
    rintro j x s' hx ⟨Hi, kA, e, I', kp, ek⟩
    simp only [Nat.zero_add] at ek ⊢
    have hj : j < us.length := (List.getElem?_eq_some_iff.mp hx).1
    have hjz : j < zs.length := by omega
    have hz : zs[j]? = some zs[j] := List.getElem?_eq_getElem hjz
    have hxf : (zs.map Prod.fst)[j]? = some zs[j].1 := by rw [List.getElem?_map, hz]; rfl
    obtain ⟨u', hu', ru⟩ := r.get hxf
    rw [hx] at hu'
    obtain rfl : x = u' := Option.some.inj hu'
    refine wpAny_bind (wpAny_attempt (wpAny_mono (turn _ s' Hi x zs[j] (List.getElem_mem hjz) I' kp ru) (fun v s'' he => ?_) fun _ _ hF => hF.elim))
    obtain ⟨v', H'', I2, rv, p, rfl, np, rfl⟩ := he
    obtain rfl : v = Value.ref p := rv
    try dsimp only
    have pk := I2.pin (kS, seqObj "list" kA e) (List.mem_append_right _ List.mem_cons_self)
    have s1 := Heap.SameBut.update s''.heap kS (Obj.mapSeq (·.push (Value.ref p)))
    obtain ⟨c2, hc2⟩ : ∃ c2, (s''.heap.update kS (Obj.mapSeq (·.push (Value.ref p)))).get? kS = some (seqObj "list" (kA.push (Value.ref p)) c2) := ⟨_, get?_update_seq pk.1 (·.push (Value.ref p))⟩
    have hz2 : kA.size ≤ sizeLine := by
      have h1 := ek.length
      rw [Array.length_toList, List.length_take] at h1
      omega
    refine wpAny_bind (listUpdate_at pk.1 rfl ?_ hz2 (Nat.le_trans (Nat.le_of_eq (Array.size_push ..)) (Nat.succ_le_succ hz2)))
    have kp2 : ∀ b o, Hi b = some o → (upd Hi p (.tup (keyT zs[j].2))) b = some o := fun b o q => by rw [upd_ne (ne_of_none q np)]; exact q
    refine wpAny_pure ⟨rfl, upd Hi p (.tup (keyT zs[j].2)), kA.push (.ref p), c2, re_pin (t' := s''.toks) I2 (wk.cons hka.symm) s1 hc2 seq_nd, fun b o q => kp2 b o (kp b o q), ?_⟩
    have e2 : zs.take (j + 1) = zs.take j ++ [zs[j]] := by rw [List.take_add_one, hz]; simp
    have e3 : (kA.push (Value.ref p)).toList = kA.toList ++ [Value.ref p] := by simp
    rw [e2, e3]
    exact PySem.W.each_snoc (R := fun (v : Value) (z : V × Str) => ∃ q, v = .ref q ∧ (upd Hi p (.tup (keyT zs[j].2))) q = some (.tup (keyT z.2))) ⟨p, rfl, upd_same⟩ (ek.mono fun _ _ ⟨q, e, hq⟩ => ⟨q, e, kp2 _ _ hq⟩)
  case done =>
    rintro s' ⟨Hi, kA, e, I', kp, ek⟩
    have e3 : zs.take (0 + us.length) = zs := List.take_of_length_le (by omega)
    rw [e3] at ek
    have pk := I'.pin (kS, seqObj "list" kA e) (List.mem_append_right _ List.mem_cons_self)
    have pa := I'.pin (a, seqObj "list" #[] e1) (List.mem_append_right _ (List.mem_cons_of_mem _ List.mem_cons_self))
    have ek' : PySem.W.EachIs (fun (v : Value) (z : V × Str) => ∃ as, Reads s'.heap v (lineKey z) as) kA.toList zs := ek.mono fun v z ⟨p, e, hp⟩ => by
      subst e
      exact key_reads I' hp
    have hk' : PySem.W.EachIs (fun v k => ∃ as, Reads s'.heap v k as) kA.toList (zs.map lineKey) := PySem.W.each_map (R := fun v k => ∃ as, Reads s'.heap v k as) lineKey ek'
    have hsz : kA.size = us.length := by
      have h1 := ek.length
      rw [Array.length_toList] at h1
      omega
    try dsimp only
    refine wpAny_bind (listItems_at pk.1 rfl ?_)
    refine PySem.W.keyH_end (κ := PySem.W.dataKind s'.heap (zs.map lineKey)) (h₁ := PySem.W.hideAll s'.heap [kS]) hide1 (PySem.W.hideAll_none _ List.mem_cons_self) pk.1 pa.1 hka
      (PySem.W.SortsAt.data hk' (alike_keys zs) (sortable_keys zs) (PySem.W.bound_map (A := A') fun z _ => by rw [depth_key]; exact hu)) hsz (by omega) fun h' tk c kp3 ha3 => ?_
    have eo : PySem.W.EachIs (fun u (z : V × Str) => RelV z.1 u) (PySem.W.sortVals (PySem.W.dataKind s'.heap (zs.map lineKey)) false kA.toList us) (sortL zs) :=
      PySem.W.keyedOut_each lineKey ⟨s'.heap, kA.toList, alike_keys zs, rfl, hk'⟩ (each_vals r)
    generalize PySem.W.sortVals (PySem.W.dataKind s'.heap (zs.map lineKey)) false kA.toList us = out at eo ha3
    have I0 : Inv X pins σ Hi s' := drop_pin (drop_pin I')
    have na : Hi a = none := pa.2.1
    have nk : Hi kS = none := pk.2.1
    have keepAll : ∀ b o, b ∉ [a, kS] → s'.heap.get? b = some o → h'.get? b = some o := fun b o hb q =>
      kp3 b o (fun z => hb (by rw [z]; exact List.mem_cons_self)) (PySem.W.hideAll_get _ q fun z => hb (List.mem_cons_of_mem _ z))
    have nt : ∀ b u, Hi b = some u → b ∉ [a, kS] := fun b u q z => by
      rcases List.mem_cons.mp z with z | z
      · rw [z, na] at q; cases q
      · rw [List.mem_singleton.mp z, nk] at q; cases q
    have kpU : ∀ b o, Hi b = some o → (upd Hi a (.lst ((sortL zs).map Prod.fst))) b = some o := fun b o q => by rw [upd_ne (ne_of_none q na)]; exact q
    refine h { s' with heap := h', toks := tk } (upd Hi a (.lst ((sortL zs).map Prod.fst))) ?_ (fun b o q => kpU b o (kp b o q)) na0 upd_same
    refine I0.step (g' := s'.gens) (d' := s'.drawn) (ch := [a, kS]) (fun b hb => ?_) (fun b o _ _ hc q _ => keepAll b o hc q) (fun b o _ _ hc q _ => ⟨o.slots, keepAll b o hc q⟩)
      (fun b o hc _ n => by rw [upd_ne (fun z => hc (by rw [z]; exact List.mem_cons_self))]; exact n) (fun b o hc q => ⟨o, keepAll b o hc q⟩) (fun b xs q => kpU b _ q) (fun b o u q => kpU b _ q) (fun b ps q => ⟨#[], by rw [kpU b _ q]; simp⟩) (fun m hm => ?_) (fun b u q => ?_) I0.bare
    · rcases List.mem_cons.mp hb with rfl | hb
      · exact ⟨wa.new, wa.loc, wa.cel, wa.pin⟩
      · rw [List.mem_singleton.mp hb]
        exact ⟨wk.new, wk.loc, wk.cel, wk.pin⟩
    · obtain ⟨o, es, ep, ho, q⟩ := hm
      refine ⟨o, es, ep, keepAll _ o (fun z => ?_) ho, q⟩
      rcases List.mem_cons.mp z with z | z
      · exact wa.loc z.symm
      · exact wk.loc (List.mem_singleton.mp z).symm
    · by_cases hb : b = a
      · rw [hb] at q ⊢
        rw [upd_same] at q
        cases q
        refine ⟨?_, out, c, vals_each eo, ha3⟩
        have h1 := (vals_each eo).length
        rw [List.length_map]
        have h2 : (sortL zs).length = zs.length := (List.mergeSort_perm _ _).length_eq
        omega
      · rw [upd_ne hb] at q
        exact (I0.hok b u q).stay (fun d v hd y => keepAll d v (by
          rcases hd with z | z
          · rw [z]; exact nt b u q
          · exact nt d _ z) y) (fun d y => kpU d _ y) fun d xs y => kpU d _ y

theorem key_sorted {f l : Addr} {zs : List (V × Str)} {Q : VK} (I : Inv X pins σ H s) (hl : SqL X.K H l (zs.map Prod.fst)) (hu : X.A.units + 64 < cLine) (turn : KeyTurn X X.A.in1.in1 (.ref f) H σ zs)
    (h : ∀ (H' : Hp) (a : Addr), (∀ b o, H b = some o → H' b = some o) → H a = none → H' a = some (.lst ((sortL zs).map Prod.fst)) → Q (.ref a) H') :
    wpAny (model X.prog X.w) X.A (call (.builtin "sorted") [.ref l] [(Str.ofString "key", .ref f)]) (EP X pins σ Q) X.xe s := by
  obtain ⟨us, r, hL, hz⟩ := I.list hl
  have hzl : zs.length = us.length := by rw [← r.length, List.length_map]
  rw [List.length_map] at hz
  refine PySem.W.sorted_of_sort hL.isList (by omega) (ksk_s1 _ _) (fun _ => ksk_l1 _ _) fun E' => ?_
  rw [ksk_t1]
  have fresh : s.heap.objs.size ≤ s.heap.objs.size + 1 := Nat.le_succ _
  have wa0 : Own X pins (s.heap.objs.size + 1) := Own.of I fresh
  have hna : H (s.heap.objs.size + 1) = none := I.hok.fresh fresh
  have ho := PySem.W.copyHeap_at s.heap us
  have hsz : (PySem.W.copyHeap s.heap us).objs.size = s.heap.objs.size + 2 := by
    unfold PySem.W.copyHeap
    rw [size_push', Heap.size_update, size_push']
  obtain ⟨e1, ho1⟩ : ∃ e1, ((PySem.W.copyHeap s.heap us).update (s.heap.objs.size + 1) (Obj.mapSeq fun _ => (#[] : Array Value))).get? (s.heap.objs.size + 1) = some (seqObj "list" #[] e1) := ⟨_, get?_update_seq ho fun _ => #[]⟩
  unfold ksk_tree
  refine wpAny_bind (listItems_at ho rfl ?_)
  refine wpAny_bind (listUpdate_at ho rfl ?_ (by rw [List.size_toArray]; omega) (Nat.zero_le _))
  refine wpAny_bind (seqEpoch_at ho1 rfl ?_)
  refine wpAny_bind (wpAny_newTuple ?_ (by show us.length ≤ _; omega))
  refine wpAny_bind (wpAny_newList ?_ (Nat.zero_le _))
  refine wpAny_holding ?_
  have hkS : (((PySem.W.copyHeap s.heap us).update (s.heap.objs.size + 1) (Obj.mapSeq fun _ => (#[] : Array Value))).push (seqObj "tuple" us.toArray 0)).objs.size = s.heap.objs.size + 3 := by
    rw [size_push', Heap.size_update, hsz]
  have wk0 : Own X pins (s.heap.objs.size + 3) := Own.of I (Nat.le_add_right _ _)
  have hnk : H (s.heap.objs.size + 3) = none := I.hok.fresh (Nat.le_add_right _ _)
  have ne : s.heap.objs.size + 3 ≠ s.heap.objs.size + 1 := by omega
  have kp : ∀ b o, s.heap.get? b = some o → ((((PySem.W.copyHeap s.heap us).update (s.heap.objs.size + 1) (Obj.mapSeq fun _ => (#[] : Array Value))).push (seqObj "tuple" us.toArray 0)).push (seqObj "list" #[] 0)).get? b = some o := fun b o q => PySem.W.sorting_copy_old q
  have I1 : Inv X pins σ H { s with heap := (((PySem.W.copyHeap s.heap us).update (s.heap.objs.size + 1) (Obj.mapSeq fun _ => (#[] : Array Value))).push (seqObj "tuple" us.toArray 0)).push (seqObj "list" #[] 0) } := I.kept (t' := s.toks) kp
  have atA : ((((PySem.W.copyHeap s.heap us).update (s.heap.objs.size + 1) (Obj.mapSeq fun _ => (#[] : Array Value))).push (seqObj "tuple" us.toArray 0)).push (seqObj "list" #[] 0)).get? (s.heap.objs.size + 1) = some (seqObj "list" #[] e1) := Heap.get?_push_of_some _ (Heap.get?_push_of_some _ ho1)
  have atK : ((((PySem.W.copyHeap s.heap us).update (s.heap.objs.size + 1) (Obj.mapSeq fun _ => (#[] : Array Value))).push (seqObj "tuple" us.toArray 0)).push (seqObj "list" #[] 0)).get? (s.heap.objs.size + 3) = some (seqObj "list" #[] 0) := by
    have q := Heap.get?_push_size (h := ((PySem.W.copyHeap s.heap us).update (s.heap.objs.size + 1) (Obj.mapSeq fun _ => (#[] : Array Value))).push (seqObj "tuple" us.toArray 0)) (o := seqObj "list" #[] 0) rfl
    rw [hkS] at q
    exact q
  have I2 := put_pin (put_pin I1 wa0 atA hna seq_nd) (wk0.cons ne.symm) atK hnk seq_nd
  rw [hkS]
  exact key_rest I2 wa0 wk0 ne r (by omega) (by show X.A.units + 1 + 1 + 1 < cLine; omega) turn fun s' H' I' kp' na ha => ⟨rfl, .ref _, H', I', rfl, h H' _ kp' na ha⟩
end

/-! ### line_order, and sorted by it -/
def lineD (b : Str) : PyData := .tuple [.int ((b.length : Nat) : Int), .str b]
def ordL (bs : List Str) : List Str := bs.mergeSort (PySem.W.dataLe false lineD)
theorem sortL_map (bs : List Str) : ((sortL (bs.map fun b => (V.str b, b))).map Prod.fst) = (ordL bs).map V.str := by
  have e : sortL (bs.map fun b => (V.str b, b)) = (ordL bs).map fun b => (V.str b, b) := by
    unfold sortL ordL
    have q := List.map_mergeSort (r := PySem.W.dataLe false lineD) (s := PySem.W.dataLe false lineKey) (f := fun b : Str => (V.str b, b)) (l := bs) (fun a _ b _ => rfl)
    exact q.symm
  rw [e, List.map_map]
  rfl
def spOrder : Sp := fun vs H Q _ => ∃ b : Str, vs = [.str b] ∧ b.length ≤ sizeLine ∧ ∀ p, H p = none → Q (.ref p) (upd H p (.tup (keyT b)))
def rSortF (K : PySem.W.Frag) (f : Addr) : List V → List V → Hp → VK → Prop := fun vs ws H Q => ∃ (l : Addr) (bs : List Str), vs = [.ref l] ∧ ws = [.ref f] ∧ SqL K H l (bs.map V.str) ∧ (∀ b ∈ bs, b.length ≤ sizeLine)
  ∧ ∀ H' a, (∀ b o, H b = some o → H' b = some o) → H a = none → H' a = some (.lst ((ordL bs).map V.str)) → Q (.ref a) H'
section
variable {X : Cx}
theorem call_sortF {f : Addr} {fd : FuncData} {k : Nat} (F : FnOk X.prog X.w X.K X.mg X.base CX0 k f fd ["line"] spOrder) (hb : Binds X.K fd ["line"] []) (hr : Room (k + 2) X.A) :
    CallRK X (.builtin "sorted") [Str.ofString "key"] (rSortF X.K f) := by
  intro pins s σ H vs ws us us2 Q I r1 r2 h
  obtain ⟨l, bs, rfl, rfl, hl, hbs, q⟩ := h
  obtain rfl := Vals.ref1 r1
  obtain rfl := Vals.ref1 r2
  have e1 : (bs.map fun b => (V.str b, b)).map Prod.fst = bs.map V.str := by rw [List.map_map]; rfl
  refine key_sorted (zs := bs.map fun b => (V.str b, b)) I (by rw [e1]; exact hl) (by have := hr.un; omega) (fun pins2 s2 Hi u z hz I2 kp ru => ?_) fun H' a kp na ha => q H' a kp na (by rw [← sortL_map]; exact ha)
  obtain ⟨b, hbm, rfl⟩ := List.mem_map.mp hz
  have rv : Vals [V.str b] ([u] ++ []) := .cons ru .nil
  refine wpAny_call (codeAny_mono (F.run X.A.in1.in1 X.stack s2 Hi ⟨[u], []⟩ ([u] ++ []) [V.str b] (fun v H' => ∃ p, v = .ref p ∧ Hi p = none ∧ H' = upd Hi p (.tup (keyT b))) E0 hr.in1.in1 I2.env0.in1.in1 (hb s2 [u] I2.kIn rfl) rv ⟨b, rfl, hbs b hbm, fun p hp => ⟨p, rfl, hp, rfl⟩⟩) fun r s' hq => ?_)
  cases r with
  | error e => exact hq
  | ok fl =>
    cases fl with
    | ret u => exact I2.after hq
    | next => exact False.elim hq
    | brk => exact False.elim hq
    | cont => exact False.elim hq
end
end FL
namespace FL
open PySem PySem.Spec PyProof.Rows L2
/-! ### where a turning of lines is even -/
abbrev Lns := List Nat
abbrev ls (y : Str) : Lns := y.cps.toList
abbrev st (l : Lns) : Str := ⟨l.toArray⟩
theorem ls_st (l : Lns) : ls (st l) = l := rfl
theorem st_ls (y : Str) : st (ls y) = y := Str_ext rfl
theorem ls_inj {a b : Str} (h : ls a = ls b) : a = b := Str_ext h
theorem ls_app (a b : Str) : ls (a ++ b) = ls a ++ ls b := by
  show (a ++ b).cps.toList = _
  rw [Str.cps_append, Array.toList_append]
theorem cut_take (y : Str) (n : Nat) : ls (cutS y none (some (n : Int))) = (ls y).take n := by
  show ((y.cps.toList.drop (HT.sIx y.length 0 none)).take (HT.sIx y.length y.length (some ((n : Nat) : Int)) - HT.sIx y.length 0 none)).toArray.toList = _
  rw [HT.sIx_nat, HT.sIx_none]
  show (List.drop 0 y.cps.toList).take (min n y.length - 0) = _
  rw [List.drop_zero, Nat.sub_zero, str_len]
  by_cases h : n ≤ y.cps.toList.length
  · rw [Nat.min_eq_left h]
  · rw [Nat.min_eq_right (by omega), List.take_of_length_le (Nat.le_refl _), List.take_of_length_le (show (ls y).length ≤ n by show y.cps.toList.length ≤ n; omega)]
theorem cut_drop (y : Str) (n : Nat) : ls (cutS y (some (n : Int)) none) = (ls y).drop n := by
  show ((y.cps.toList.drop (HT.sIx y.length 0 (some ((n : Nat) : Int)))).take (HT.sIx y.length y.length none - HT.sIx y.length 0 (some ((n : Nat) : Int)))).toArray.toList = _
  rw [HT.sIx_nat, HT.sIx_none]
  show (List.drop (min n y.length) y.cps.toList).take (y.length - min n y.length) = _
  rw [str_len]
  by_cases h : n ≤ y.cps.toList.length
  · rw [Nat.min_eq_left h, List.take_of_length_le (by rw [List.length_drop]; omega)]
  · rw [Nat.min_eq_right (by omega), List.drop_of_length_le (Nat.le_refl _), List.drop_of_length_le (show (ls y).length ≤ n by show y.cps.toList.length ≤ n; omega), List.take_nil]
/-- the turning by rules, on lists -/
def tL : List Rule → Lns → Lns
  | [], l => l
  | r :: rs, l => match r.fr with
    | true => if ls r.old <+: l then ls r.new ++ l.drop (ls r.old).length else tL rs l
    | false => if l = ls r.old then ls r.new else tL rs l
theorem fits_front {r : Rule} {y : Str} (h : r.fr = true) : fits r y = true ↔ ls r.old <+: ls y := by
  unfold fits
  rw [h]
  show decide (cutS y none (some (r.old.length : Int)) = r.old) = true ↔ _
  rw [decide_eq_true_eq]
  constructor
  · intro e
    have e2 : ls (cutS y none (some (r.old.length : Int))) = ls r.old := by rw [e]
    rw [cut_take] at e2
    rw [← e2]
    exact List.take_prefix _ _
  · intro e
    apply ls_inj
    rw [cut_take]
    have e3 := List.prefix_iff_eq_take.mp e
    rw [str_len]
    exact e3.symm
theorem turn_list : ∀ (rs : List Rule) (y : Str), ls (turn rs y) = tL rs (ls y)
  | [], _ => rfl
  | r :: rs, y => by
    show ls (if fits r y = true then turnR r y else turn rs y) = _
    unfold tL
    cases e : r.fr with
    | true =>
      simp only
      by_cases h : ls r.old <+: ls y
      · rw [if_pos h, if_pos ((fits_front e).mpr h)]
        unfold turnR
        rw [e]
        show ls (r.new ++ cutS y (some (r.old.length : Int)) none) = _
        rw [ls_app, cut_drop, str_len]
      · rw [if_neg h, if_neg (fun q => h ((fits_front e).mp q)), turn_list rs y]
    | false =>
      simp only
      have hf : fits r y = decide (y = r.old) := by unfold fits; rw [e]
      rw [hf]
      by_cases h : y = r.old
      · rw [if_pos (by simpa using h), if_pos (by rw [h])]
        unfold turnR
        rw [e]
      · rw [if_neg (by simpa using h), if_neg (fun q => h (ls_inj q)), turn_list rs y]
/-- rules that ask for no beginning u turn u and what stands behind it alike -/
theorem tL_app {u s : Lns} : ∀ {rs : List Rule}, (∀ r ∈ rs, ¬ u <+: ls r.old) → tL rs (u ++ s) = tL rs u ++ s
  | [], _ => rfl
  | r :: rs, h => by
    have h1 := h r List.mem_cons_self
    have ih := tL_app (s := s) fun r' hr' => h r' (List.mem_cons_of_mem _ hr')
    unfold tL
    cases e : r.fr with
    | true =>
      simp only
      by_cases hp : ls r.old <+: u
      · have hp2 : ls r.old <+: u ++ s := hp.trans (List.prefix_append _ _)
        rw [if_pos hp, if_pos hp2, List.append_assoc, List.drop_append_of_le_length hp.length_le]
      · have hp2 : ¬ ls r.old <+: u ++ s := fun q => by
          rcases Nat.le_total (ls r.old).length u.length with hl | hl
          · exact hp (List.prefix_of_prefix_length_le q (List.prefix_append _ _) hl)
          · exact h1 (List.prefix_of_prefix_length_le (List.prefix_append _ _) q hl)
        rw [if_neg hp, if_neg hp2, ih]
    | false =>
      simp only
      have n1 : ¬ u = ls r.old := fun q => h1 (by rw [q]; exact List.prefix_rfl)
      have n2 : ¬ u ++ s = ls r.old := fun q => h1 (by rw [← q]; exact List.prefix_append _ _)
      rw [if_neg n1, if_neg n2, ih]
section
variable (z : Lns) (F : Lns → Lns)
/-- even at u, for what stands behind of the signs z -/
def Evn (u : Lns) : Prop := ∀ s, (∀ c ∈ s, c ∈ z) → F (u ++ s) = F u ++ s
variable {z F}
theorem Evn.one {u : Lns} (h : Evn z F u) {c : Nat} (hc : c ∈ z) : F (u ++ [c]) = F u ++ [c] := h [c] fun d hd => by rw [List.mem_singleton.mp hd]; exact hc
theorem Evn.down {u s : Lns} (h : Evn z F u) (hs : ∀ c ∈ s, c ∈ z) : Evn z F (u ++ s) := fun t ht => by
  rw [List.append_assoc, h (s ++ t) (fun c hc => (List.mem_append.mp hc).elim (hs c) (ht c)), h s hs, List.append_assoc]
theorem evn_step {u : Lns} : Evn z F u ↔ ∀ c ∈ z, Evn z F (u ++ [c]) ∧ F (u ++ [c]) = F u ++ [c] := by
  constructor
  · intro h c hc
    exact ⟨h.down fun d hd => by rw [List.mem_singleton.mp hd]; exact hc, h.one hc⟩
  · intro h s hs
    cases s with
    | nil => rw [List.append_nil, List.append_nil]
    | cons c s =>
      have hc := h c (hs c List.mem_cons_self)
      have e := hc.1 s fun d hd => hs d (List.mem_cons_of_mem _ hd)
      rw [List.append_assoc] at e
      show F (u ++ ([c] ++ s)) = F u ++ (c :: s)
      rw [e, hc.2, List.append_assoc]
      rfl
/-- a cell's line -/
def Cell (z : Lns) (F : Lns → Lns) (l : Lns) : Prop := l = [] ∨ ¬ Evn z F l ∨ ∃ u c, c ∈ z ∧ l = u ++ [c] ∧ ¬ Evn z F u
theorem Evn.congr {G : Lns → Lns} {u : Lns} (hu : ∀ c ∈ u, c ∈ z) (e : ∀ l, (∀ c ∈ l, c ∈ z) → F l = G l) : Evn z F u ↔ Evn z G u := by
  constructor
  · intro h s hs
    rw [← e _ (fun c hc => (List.mem_append.mp hc).elim (hu c) (hs c)), ← e u hu]
    exact h s hs
  · intro h s hs
    rw [e _ (fun c hc => (List.mem_append.mp hc).elim (hu c) (hs c)), e u hu]
    exact h s hs
/-- each line is that of a whole cell, or stands behind a front cell's -/
theorem cell_of : ∀ (n : Nat) (l : Lns), l.length = n → (∀ c ∈ l, c ∈ z) → ¬ Evn z F l ∨ ∃ u s, l = u ++ s ∧ Evn z F u ∧ Cell z F u
  | 0, l, h, _ => by
    have e : l = [] := List.eq_nil_of_length_eq_zero h
    by_cases hv : Evn z F l
    · exact .inr ⟨l, [], by rw [List.append_nil], hv, .inl e⟩
    · exact .inl hv
  | n + 1, l, h, hz => by
    by_cases hv : Evn z F l
    · right
      have hne : l ≠ [] := fun e => by rw [e] at h; cases h
      obtain ⟨u, c, rfl⟩ : ∃ u c, l = u ++ [c] := ⟨l.dropLast, l.getLast hne, (List.dropLast_concat_getLast hne).symm⟩
      have hc : c ∈ z := hz c (List.mem_append_right _ (List.mem_singleton.mpr rfl))
      rcases cell_of n u (by rw [List.length_append] at h; exact Nat.succ.inj h) (fun d hd => hz d (List.mem_append_left _ hd)) with q | ⟨u', s, e, h1, h2⟩
      · exact ⟨u ++ [c], [], by rw [List.append_nil], hv, .inr (.inr ⟨u, c, hc, rfl, q⟩)⟩
      · exact ⟨u', s ++ [c], by rw [e, List.append_assoc], h1, h2⟩
    · exact .inl hv
/-- two turnings that agree at the cells of both agree at each line -/
theorem agree {G : Lns → Lns} (h : ∀ l, (∀ c ∈ l, c ∈ z) → Cell z F l ∨ Cell z G l → F l = G l) : ∀ (n : Nat) (l : Lns), l.length = n → (∀ c ∈ l, c ∈ z) → F l = G l
  | 0, l, e, hz => h l hz (.inl (.inl (List.eq_nil_of_length_eq_zero e)))
  | n + 1, l, e, hz => by
    have hne : l ≠ [] := fun q => by rw [q] at e; cases e
    obtain ⟨u, c, rfl⟩ : ∃ u c, l = u ++ [c] := ⟨l.dropLast, l.getLast hne, (List.dropLast_concat_getLast hne).symm⟩
    have hc : c ∈ z := hz c (List.mem_append_right _ (List.mem_singleton.mpr rfl))
    have hu : ∀ d ∈ u, d ∈ z := fun d hd => hz d (List.mem_append_left _ hd)
    by_cases h1 : Evn z F u
    · by_cases h2 : Evn z G u
      · rw [h1.one hc, h2.one hc, agree h n u (by rw [List.length_append] at e; exact Nat.succ.inj e) hu]
      · exact h _ hz (.inr (.inr (.inr ⟨u, c, hc, rfl, h2⟩)))
    · exact h _ hz (.inl (.inr (.inr ⟨u, c, hc, rfl, h1⟩)))
end
end FL
namespace FL
open PySem PySem.Spec PyProof.Rows L2
/-! ### dicts whose keys are texts -/
def KeysOf (kvs : List (Key × V)) (bs : List Str) : Prop := kvs.map (·.1) = bs.map Sum.inr ∧ bs.Nodup
def addB (bs : List Str) (b : Str) : List Str := if b ∈ bs then bs else bs ++ [b]
theorem mem_addB {bs : List Str} {b x : Str} : x ∈ addB bs b ↔ x ∈ bs ∨ x = b := by
  unfold addB
  by_cases h : b ∈ bs
  · rw [if_pos h]
    exact ⟨.inl, fun q => q.elim id fun e => by rw [e]; exact h⟩
  · rw [if_neg h, List.mem_append, List.mem_singleton]
theorem addB_len (bs : List Str) (b : Str) : (addB bs b).length ≤ bs.length + 1 := by
  unfold addB
  by_cases h : b ∈ bs
  · rw [if_pos h]; omega
  · rw [if_neg h, List.length_append]; exact Nat.le_refl _
theorem addB_nodup {bs : List Str} {b : Str} (h : bs.Nodup) : (addB bs b).Nodup := by
  unfold addB
  by_cases q : b ∈ bs
  · rw [if_pos q]; exact h
  · rw [if_neg q]
    refine List.nodup_append.mpr ⟨h, by simp, fun x hx y hy e => ?_⟩
    rw [List.mem_singleton.mp hy] at e
    exact q (e ▸ hx)
theorem KeysOf.mem {kvs : List (Key × V)} {bs : List Str} (h : KeysOf kvs bs) {b : Str} : b ∈ bs ↔ ∃ kv ∈ kvs, kv.1 = Sum.inr b := by
  constructor
  · intro hb
    have : Sum.inr b ∈ kvs.map (·.1) := by rw [h.1]; exact List.mem_map.mpr ⟨b, hb, rfl⟩
    obtain ⟨kv, h1, h2⟩ := List.mem_map.mp this
    exact ⟨kv, h1, h2⟩
  · rintro ⟨kv, h1, h2⟩
    have : (Sum.inr b : Key) ∈ bs.map Sum.inr := by rw [← h.1]; exact List.mem_map.mpr ⟨kv, h1, h2⟩
    obtain ⟨x, h3, h4⟩ := List.mem_map.mp this
    rw [← Sum.inr.inj h4]
    exact h3
theorem KeysOf.val {kvs : List (Key × V)} {bs : List Str} (h : KeysOf kvs bs) {b : Str} : valV kvs (Sum.inr b) ≠ none ↔ b ∈ bs := by
  rw [h.mem]
  have q := valV_any (kvs := kvs) (k := (Sum.inr b : Key))
  constructor
  · intro hn
    have e : (kvs.any fun kv => decide (kv.1 = (Sum.inr b : Key))) = true := by
      rw [q]
      cases e : valV kvs (Sum.inr b : Key) with
      | none => exact absurd e hn
      | some v => rfl
    obtain ⟨kv, h1, h2⟩ := List.any_eq_true.mp e
    exact ⟨kv, h1, of_decide_eq_true h2⟩
  · rintro ⟨kv, h1, h2⟩ hn
    have e : (kvs.any fun kv => decide (kv.1 = (Sum.inr b : Key))) = true := List.any_eq_true.mpr ⟨kv, h1, decide_eq_true h2⟩
    rw [q, hn] at e
    cases e
theorem KeysOf.put {kvs : List (Key × V)} {bs : List Str} (h : KeysOf kvs bs) (b : Str) (v : V) : KeysOf (putK kvs (Sum.inr b) v) (addB bs b) := by
  refine ⟨?_, addB_nodup h.2⟩
  unfold addB
  by_cases q : b ∈ bs
  · rw [if_pos q]
    have hv := h.val.mpr q
    have e : (kvs.any fun kv => decide (kv.1 = (Sum.inr b : Key))) = true := by
      rw [valV_any]
      cases e : valV kvs (Sum.inr b : Key) with
      | none => exact absurd e hv
      | some v => rfl
    unfold putK
    rw [if_pos e, ← h.1, List.map_map]
    refine List.map_congr_left fun kv _ => ?_
    show (if kv.1 = Sum.inr b then (kv.1, v) else kv).1 = kv.1
    by_cases z : kv.1 = Sum.inr b
    · rw [if_pos z]
    · rw [if_neg z]
  · rw [if_neg q]
    have hv : valV kvs (Sum.inr b : Key) = none := by
      cases e : valV kvs (Sum.inr b : Key) with
      | none => rfl
      | some v => exact absurd (h.val.mp (by rw [e]; exact fun z => nomatch z)) q
    rw [putK_new _ hv, List.map_append, h.1, List.map_append]
    rfl
theorem KeysOf.len {kvs : List (Key × V)} {bs : List Str} (h : KeysOf kvs bs) : kvs.length = bs.length := by
  have := congrArg List.length h.1
  rw [List.length_map, List.length_map] at this
  exact this
/-- a lock is taken off -/
theorem same_unlock {H H' : Hp} {d : Addr} {o : Obj} {u : HO} (hd : H d = some u) (s : Same (upd H d (.frz o u)) H') : Same H (upd H' d u) := fun c x e => by
  by_cases h : c = d
  · rw [h] at e ⊢
    rw [upd_same, ← e, hd]
  · rw [upd_ne h]
    refine s c x ?_
    rw [upd_ne h]
    exact e
end FL
namespace FL
open PySem PySem.Spec PyProof.Rows L2
/-! ### relays one after another -/
def thr (rss : List (List Rule)) (y : Str) : Str := rss.foldl (fun y rs => turn rs y) y
theorem turnR_len {r : Rule} {y : Str} {b : Nat} (h : r.new.length ≤ b) : (turnR r y).length ≤ y.length + b := by
  unfold turnR
  split
  · rw [len_app]
    have := cutS_length y (some (r.old.length : Int)) none
    omega
  · omega
theorem turn_len {b : Nat} : ∀ {rs : List Rule} {y : Str}, (∀ r ∈ rs, r.new.length ≤ b) → (turn rs y).length ≤ y.length + b
  | [], y, _ => Nat.le_add_right _ _
  | r :: rs, y, h => by
    show (if fits r y = true then turnR r y else turn rs y).length ≤ _
    by_cases q : fits r y = true
    · rw [if_pos q]; exact turnR_len (h r List.mem_cons_self)
    · rw [if_neg q]; exact turn_len fun r' hr' => h r' (List.mem_cons_of_mem _ hr')
theorem thr_len {b : Nat} : ∀ {rss : List (List Rule)} {y : Str}, (∀ rs ∈ rss, ∀ r ∈ rs, r.new.length ≤ b) → (thr rss y).length ≤ y.length + rss.length * b
  | [], y, _ => Nat.le_add_right _ _
  | rs :: rss, y, h => by
    have h1 := turn_len (y := y) (h rs List.mem_cons_self)
    have h2 := thr_len (rss := rss) (y := turn rs y) fun rs' h' => h rs' (List.mem_cons_of_mem _ h')
    show (thr rss (turn rs y)).length ≤ _
    rw [List.length_cons, Nat.add_mul]
    omega
theorem IdxAt.same {H H' : Hp} {d : Addr} {rs : List Rule} (h : IdxAt H d rs) (s : Same H H') : IdxAt H' d rs := by
  obtain ⟨kvs, h1, h2, h3⟩ := h
  exact ⟨kvs, s _ _ h1, h2, h3.imp fun t a e => s t _ e⟩
structure Idxs (K : PySem.W.Frag) (H : Hp) (L : Addr) (rss : List (List Rule)) : Prop where
  ex : ∃ ds : List Addr, SqL K H L (ds.map V.ref) ∧ Paired (IdxAt H) ds rss
  few : rss.length ≤ 2
  rb : ∀ rs ∈ rss, ∀ r ∈ rs, r.old.length ≤ 40 ∧ r.new.length ≤ 1000
theorem paired_map {α β : Type} {R R' : α → β → Prop} : ∀ {as : List α} {bs : List β}, Paired R as bs → (∀ a b, R a b → R' a b) → Paired R' as bs
  | _, _, .nil, _ => .nil
  | _, _, .cons h t, k => .cons (k _ _ h) (paired_map t k)
end FL
namespace FL
open PySem PySem.Spec PyProof.Rows L2
/-! ### the order of lines -/
def lineLe (a b : Str) : Bool := PySem.W.dataLe false lineD a b
theorem lineLe_iff {a b : Str} : lineLe a b = true ↔ a.length < b.length ∨ (a.length = b.length ∧ ls a ≤ ls b) := by
  have e : lineLe a b = !(PySem.W.dataLt (lineD b) (lineD a)) := rfl
  rw [e]
  unfold lineD
  rw [PySem.W.dataLt_pair (by simp [PySem.W.alike]) (by simp [PySem.W.alike]), PySem.W.dataLt_int, PySem.W.dataLt_str]
  simp only [PyData.eqv, beq_iff_eq]
  by_cases h1 : ((b.length : Nat) : Int) = ((a.length : Nat) : Int)
  · have h1' : a.length = b.length := by omega
    rw [if_pos h1]
    by_cases h2 : b = a
    · rw [if_pos h2, h2]
      simp
    · rw [if_neg h2]
      constructor
      · intro q
        refine .inr ⟨h1', ?_⟩
        have q2 : ¬ (b.cps.toList < a.cps.toList) := by simpa using q
        exact List.not_lt.mp q2
      · rintro (q | ⟨_, q⟩)
        · omega
        · have q2 : ¬ (b.cps.toList < a.cps.toList) := List.not_lt.mpr q
          simpa using q2
  · rw [if_neg h1]
    constructor
    · intro q
      have q2 : ¬ ((b.length : Nat) : Int) < ((a.length : Nat) : Int) := by simpa using q
      exact .inl (by omega)
    · rintro (q | ⟨q, _⟩)
      · have q2 : ¬ ((b.length : Nat) : Int) < ((a.length : Nat) : Int) := by omega
        simpa using q2
      · omega
theorem lineLe_total : PySem.W.TotalLe lineLe := PySem.W.sortLe_total (PyProof.Rows.listOrd PyProof.Rows.itemOrd) false (fun b : Str => PySem.W.keyToks (lineD b))
theorem lineLe_len {a b : Str} (h : lineLe a b = true) : a.length ≤ b.length := by
  rcases lineLe_iff.mp h with q | ⟨q, _⟩ <;> omega
theorem lineLe_anti {a b : Str} (h1 : lineLe a b = true) (h2 : lineLe b a = true) : a = b := by
  rcases lineLe_iff.mp h1 with q | ⟨q, q1⟩
  · have := lineLe_len h2
    omega
  · rcases lineLe_iff.mp h2 with r | ⟨_, q2⟩
    · omega
    · exact ls_inj (List.le_antisymm q1 q2)
theorem ordL_sorted (bs : List Str) : (ordL bs).Pairwise fun a b => lineLe a b = true := PySem.W.sort_pairwise lineLe_total bs
theorem ordL_perm (bs : List Str) : (ordL bs).Perm bs := List.mergeSort_perm _ _
theorem mem_ordL {bs : List Str} {b : Str} : b ∈ ordL bs ↔ b ∈ bs := (ordL_perm bs).mem_iff
theorem ordL_len (bs : List Str) : (ordL bs).length = bs.length := (ordL_perm bs).length_eq
/-- the order of lines depends on the set alone -/
theorem ordL_of {bs cs : List Str} (hb : bs.Nodup) (hc : cs.Nodup) (h : ∀ b, b ∈ bs ↔ b ∈ cs) : ordL bs = ordL cs := by
  have hp : bs.Perm cs := (List.perm_ext_iff_of_nodup hb hc).mpr h
  exact List.Perm.eq_of_pairwise (fun a b _ _ h1 h2 => lineLe_anti h1 h2) (ordL_sorted bs) (ordL_sorted cs) ((ordL_perm bs).trans (hp.trans (ordL_perm cs).symm))
theorem ordL_is {bs cs : List Str} (hb : bs.Nodup) (hc : cs.Nodup) (hs : cs.Pairwise fun a b => lineLe a b = true) (h : ∀ b, b ∈ bs ↔ b ∈ cs) : ordL bs = cs := by
  have hp : bs.Perm cs := (List.perm_ext_iff_of_nodup hb hc).mpr h
  exact List.Perm.eq_of_pairwise (fun a b _ _ h1 h2 => lineLe_anti h1 h2) (ordL_sorted bs) hs ((ordL_perm bs).trans hp)
end FL
namespace FL
open PySem PySem.Spec PyProof.Rows L2
/-! ### min(xs, key=f), min(xs, key=f, default=d), f a def of one's own whose answers read as data -/
mutual
theorem Dp.same {K : PySem.W.Frag} {H H' : Hp} (s : ∀ c u, H c = some u → H' c = some u) : ∀ {v : V} {d : PyData}, Dp K H v d → Dp K H' v d
  | _, _, .non => .non
  | _, _, .bl b => .bl b
  | _, _, .int i => .int i
  | _, _, .str x => .str x
  | _, _, .lst h t => .lst (Same.sqL s h) (DpAll.same s t)
  | _, _, .tup h t => .tup (by
      rcases h with (h | ⟨o, h⟩) | h
      · exact .inl (.inl (s _ _ h))
      · exact .inl (.inr ⟨o, s _ _ h⟩)
      · exact .inr h) (DpAll.same s t)
theorem DpAll.same {K : PySem.W.Frag} {H H' : Hp} (s : ∀ c u, H c = some u → H' c = some u) : ∀ {vs : List V} {ds : List PyData}, DpAll K H vs ds → DpAll K H' vs ds
  | _, _, .nil => .nil
  | _, _, .cons h t => .cons (Dp.same s h) (DpAll.same s t)
end
section
variable {X : Cx} {pins : List (Addr × Obj)} {σ : L2.St} {H : Hp} {s : Shared}
theorem swap_pin {p q : Addr × Obj} (I : Inv X (p :: q :: pins) σ H s) : Inv X (q :: p :: pins) σ H s :=
  I.pins_of fun r hr => I.pin r (List.mem_append_right _ (by
    rcases List.mem_cons.mp hr with rfl | hr
    · exact List.mem_cons_of_mem _ List.mem_cons_self
    · rcases List.mem_cons.mp hr with rfl | hr
      · exact List.mem_cons_self
      · exact List.mem_cons_of_mem _ (List.mem_cons_of_mem _ hr)))
theorem re_pin2 {b : Addr} {o o' : Obj} {h' : Heap} {t' : Nat} (I : Inv X ((b, o) :: pins) σ H s) (w : Own X pins b) (hs : ∀ c u, c ≠ b → s.heap.get? c = some u → h'.get? c = some u) (e : h'.get? b = some o') (nd : ∀ v, o'.data ≠ .cell v) :
    Inv X ((b, o') :: pins) σ H { s with heap := h', toks := t' } := by
  have n : H b = none := (I.pin (b, o) (List.mem_append_right _ List.mem_cons_self)).2.1
  have I1 : Inv X pins σ H { s with heap := h', toks := t' } := (drop_pin I).turned hs n w.loc w.new w.cel w.pin
  exact put_pin I1 w e n nd
/-- what a call f(x) must do -/
def MinTurn (X : Cx) (A' : Around) (f : Value) (H : Hp) (σ : L2.St) (zs : List V) (kd : Nat → PyData) : Prop :=
  ∀ (pins : List (Addr × Obj)) (s : Shared) (Hi : Hp) (u : Value) (i : Nat) (z : V), zs[i]? = some z → Inv X pins σ Hi s → Same H Hi → RelV z u →
    wpAny (model X.prog X.w) A' (call f [u]) (EP X pins σ fun v H' => Same Hi H' ∧ Dp X.K H' v (kd i)) (fun _ _ => False) s
structure KeysOk (kd : Nat → PyData) : Prop where
  al : ∀ i j, PySem.W.alike (kd i) (kd j) = true
  nn : ∀ i, kd i ≠ .none
  dp : ∀ i, (kd i).depth ≤ 8
def leK (kd : Nat → PyData) (i j : Nat) : Bool := PySem.W.dataLe false kd i j
theorem leK_total (kd : Nat → PyData) : PySem.W.TotalLe (leK kd) := PySem.W.sortLe_total (PyProof.Rows.listOrd PyProof.Rows.itemOrd) false (fun i => PySem.W.keyToks (kd i))
theorem leK_lt (kd : Nat → PyData) (i j : Nat) : leK kd i j = !(PySem.W.dataLt (kd j) (kd i)) := rfl
theorem iter_nd {o : Obj} {l : Addr} {i : Nat} {t : Tok} (h : o.data = .fields #[.ref l, .int i t]) : ∀ v, o.data ≠ .cell v := fun v e => by rw [h] at e; cases e
variable {zs : List V} {kd : Nat → PyData} {It S l q : Addr} {kw : List (Str × Value)} {R : Result → Shared → Prop}
theorem min_loopI (hh : X.A.handled = none) (hu : X.A.units + 64 < cLine) (ko : KeysOk kd) (wS : Own X pins S) (wI : Own X pins It) (hSI : S ≠ It) (hl : SqL X.K H l zs) (nlI : l ≠ It) (turn : MinTurn X X.A.in1 (.ref q) H σ zs kd)
    (hR : ∀ (i : Nat) (z : V) (v : Value) (s' : Shared) (H' : Hp), zs[i]? = some z → RelV z v → (∀ j, j < zs.length → leK kd i j = true) → Inv X pins σ H' s' → Same H H' → R (.ok (.ret v)) s') :
    ∀ (k j : Nat) (s : Shared) (Hi : Hp) (vb kb : Value) (zb kv : V) (i c : Nat) (oI : Obj), zs.length - (j + 1) = k → j + 1 ≤ zs.length → Inv X ((S, seqObj "list" #[vb, kb] c) :: (It, oI) :: pins) σ Hi s → Same H Hi →
      s.heap.IsListIter It l (j + 1) → i ≤ j → zs[i]? = some zb → RelV zb vb → RelV kv kb → Dp X.K Hi kv (kd i) → (∀ j', j' ≤ j → leK kd i j' = true) →
      codeAny (model X.prog X.w) X.A (.builtin "min.loop" ⟨[.ref It, .ref q, .ref S], kw⟩) R s := by
  have hname : (toString "min" ++ toString ".loop" : String) = "min.loop" := by decide
  have wSI : ∀ {o : Obj}, Own X ((It, o) :: pins) S := wS.cons hSI.symm
  have wIS : ∀ {o : Obj}, Own X ((S, o) :: pins) It := wI.cons hSI
  intro k
  induction k with
  | zero =>
    intro j s Hi vb kb zb kv i c oI hk hj I sm hit hij hzb rz rk hd hbest
    have hin : j + 1 = zs.length := by omega
    obtain ⟨us, r, hL, hz⟩ := I.list (sm.sqL hl)
    have hul : us.length = zs.length := r.length.symm
    have pS := I.pin (S, seqObj "list" #[vb, kb] c) (List.mem_append_right _ List.mem_cons_self)
    refine codeAny_builtin PySem.F.entry_min_loop ?_
    rw [Around.under_plainId PySem.F.plain_min_loop _]
    show wpAny _ X.A.in1 (seqItems? (.ref S) >>= _) _ _ s
    refine wpAny_bind (wpAny_seqItems pS.1 rfl ?_)
    show wpAny _ X.A.in1 (tryCatch (pyNext (.ref It)) _ >>= _) _ _ s
    refine wpAny_bind (wpAny_tryCatch (wpAny_pyNext_list_end (A := X.A.in1) hh hit hL.isList (by rw [hin, ← hul]; simp) fun h' he' => ?_))
    have I1 : Inv X ((S, seqObj "list" #[vb, kb] c) :: pins) σ Hi { s with heap := h' } :=
      (drop_pin (swap_pin I)).turned (t' := s.toks) (fun b o hb e => he' b o hb e) (I.pin (It, oI) (List.mem_append_right _ (List.mem_cons_of_mem _ List.mem_cons_self))).2.1 wI.loc wI.new wI.cel (wIS (o := seqObj "list" #[vb, kb] c)).pin
    have pS1 := I1.pin (S, seqObj "list" #[vb, kb] c) (List.mem_append_right _ List.mem_cons_self)
    show wpAny _ X.A.in1 (updateSeq S (fun _ => #[]) >>= _) _ _ _
    refine wpAny_bind ?_
    refine wpAny_updateSeq pS1.1 rfl (wpAny_bind (wpAny_letGo (wpAny_pure ?_)))
    refine hR i zb vb _ Hi hzb rz (fun j' hj' => hbest j' (by omega)) ?_ sm
    exact (drop_pin I1).turned (t' := s.toks) (fun b o hb e => (Heap.get?_update_other _ _ (Ne.symm hb)).trans e) pS1.2.1 wS.loc wS.new wS.cel wS.pin
  | succ k ih =>
    intro j s Hi vb kb zb kv i c oI hk hj I sm hit hij hzb rz rk hd hbest
    have hlt : j + 1 < zs.length := by omega
    obtain ⟨us, r, hL, hz⟩ := I.list (sm.sqL hl)
    have hul : us.length = zs.length := r.length.symm
    have pS := I.pin (S, seqObj "list" #[vb, kb] c) (List.mem_append_right _ List.mem_cons_self)
    obtain ⟨zx, hzx⟩ : ∃ zx, zs[j + 1]? = some zx := ⟨_, List.getElem?_eq_getElem hlt⟩
    obtain ⟨x, hx, rx⟩ := r.get hzx
    refine codeAny_builtin PySem.F.entry_min_loop ?_
    rw [Around.under_plainId PySem.F.plain_min_loop _]
    show wpAny _ X.A.in1 (seqItems? (.ref S) >>= _) _ _ s
    refine wpAny_bind (wpAny_seqItems pS.1 rfl ?_)
    show wpAny _ X.A.in1 (tryCatch (pyNext (.ref It)) _ >>= _) _ _ s
    refine wpAny_bind (wpAny_tryCatch (wpAny_pyNext_list_item (A := X.A.in1) hit hL.isList (x := x) (by simpa using hx) fun h' hit' he' => ?_))
    obtain ⟨oI', hoI', hoc, hod⟩ := id hit'
    have I1 : Inv X ((S, seqObj "list" #[vb, kb] c) :: (It, oI') :: pins) σ Hi { s with heap := h', toks := s.toks } := swap_pin (re_pin2 (t' := s.toks) (swap_pin I) wIS (fun b o hb e => (he'.2 b hb).trans e) hoI' (iter_nd hod))
    show wpAny _ X.A.in1 (tryCatch (holding [x] (call (.ref q) [x])) _ >>= _) _ _ _
    refine wpAny_bind (wpAny_tryCatch (wpAny_holding (wpAny_mono (turn _ _ Hi x (j + 1) zx hzx I1 sm rx) (fun kx s'' he => ?_) fun _ _ hF => hF.elim)))
    obtain ⟨kxv, H2, I2, rkx, s2, hdx⟩ := he
    have sm2 := sm.trans s2
    have pS2 := I2.pin (S, seqObj "list" #[vb, kb] c) (List.mem_append_right _ List.mem_cons_self)
    have pI2 := I2.pin (It, oI') (List.mem_append_right _ (List.mem_cons_of_mem _ List.mem_cons_self))
    have hit2 : s''.heap.IsListIter It l (j + 1 + 1) := ⟨oI', pI2.1, hoc, hod⟩
    obtain ⟨as1, ra1⟩ := Dp.reads I2 _ _ _ hdx rkx
    obtain ⟨as2, ra2⟩ := Dp.reads I2 _ _ _ (Dp.same s2 hd) rk
    show wpAny _ X.A.in1 (tryCatch (holding [x, kx] (richCompare .Lt kx kb >>= _)) _ >>= _) _ _ _
    refine wpAny_bind (wpAny_tryCatch (wpAny_holding (wpAny_bind (PySem.W.lt_data ra1 ra2 (ko.al _ _) (ko.nn _) (by
      have h1 := ko.dp (j + 1)
      show X.A.units + 1 + min _ _ < cLine
      omega) ?_))))
    refine wpAny_bind (wpAny_holding (wpAny_truthy_bool ?_))
    refine wpAny_bind (wpAny_letGo (wpAny_pure ?_))
    cases hb : PySem.W.dataLt (kd (j + 1)) (kd i) with
    | true =>
      simp only [if_true]
      refine wpAny_bind ?_
      obtain ⟨c2, hc2⟩ : ∃ c2, (s''.heap.update S (Obj.mapSeq fun _ => #[x, kx])).get? S = some (seqObj "list" #[x, kx] c2) := ⟨_, get?_update_seq pS2.1 fun _ => #[x, kx]⟩
      refine wpAny_updateSeq pS2.1 rfl (wpAny_bind (wpAny_letGo ?_))
      rw [hname]
      have I3 : Inv X ((S, seqObj "list" #[x, kx] c2) :: (It, oI') :: pins) σ H2 { s'' with heap := s''.heap.update S (Obj.mapSeq fun _ => #[x, kx]), toks := s''.toks } :=
        re_pin2 I2 wSI (fun b o hb e => (Heap.get?_update_other _ _ (Ne.symm hb)).trans e) hc2 seq_nd
      refine wpAny_pure ⟨plainId_quiet PySem.F.plain_min_loop _, ih (j + 1) _ H2 x kx zx kxv (j + 1) c2 oI' (by omega) hlt I3 sm2 ⟨oI', (Heap.get?_update_other _ _ hSI).trans pI2.1, hoc, hod⟩ (Nat.le_refl _) hzx rx rkx hdx fun j' hj' => ?_⟩
      have h1 : leK kd (j + 1) i = true := by
        rcases (leK_total kd).total (j + 1) i with h | h
        · exact h
        · rw [leK_lt, hb] at h
          cases h
      by_cases e : j' = j + 1
      · subst e
        rcases (leK_total kd).total (j + 1) (j + 1) with h | h <;> exact h
      · exact (leK_total kd).trans _ _ _ h1 (hbest j' (by omega))
    | false =>
      simp only [Bool.false_eq_true, if_false]
      refine wpAny_bind (wpAny_letGo ?_)
      rw [hname]
      refine wpAny_pure ⟨plainId_quiet PySem.F.plain_min_loop _, ih (j + 1) _ H2 vb kb zb kv i c oI' (by omega) hlt I2 sm2 hit2 (by omega) hzb rz rk (Dp.same s2 hd) fun j' hj' => ?_⟩
      by_cases e : j' = j + 1
      · subst e
        rw [leK_lt, hb]
        rfl
      · exact hbest j' (by omega)
theorem min_firstI (hh : X.A.handled = none) (hu : X.A.units + 64 < cLine) (ko : KeysOk kd) (wS : Own X pins S) (wI : Own X pins It) (hSI : S ≠ It) (hl : SqL X.K H l zs) (nlI : l ≠ It) (turn : MinTurn X X.A.in1 (.ref q) H σ zs kd) (hn : 0 < zs.length)
    (hR : ∀ (i : Nat) (z : V) (v : Value) (s' : Shared) (H' : Hp), zs[i]? = some z → RelV z v → (∀ j, j < zs.length → leK kd i j = true) → Inv X pins σ H' s' → Same H H' → R (.ok (.ret v)) s')
    {c : Nat} {oI : Obj} (I : Inv X ((S, seqObj "list" #[] c) :: (It, oI) :: pins) σ H s) (hit : s.heap.IsListIter It l 0) :
      codeAny (model X.prog X.w) X.A (.builtin "min.loop" ⟨[.ref It, .ref q, .ref S], kw⟩) R s := by
  have hname : (toString "min" ++ toString ".loop" : String) = "min.loop" := by decide
  have wSI : ∀ {o : Obj}, Own X ((It, o) :: pins) S := wS.cons hSI.symm
  have wIS : ∀ {o : Obj}, Own X ((S, o) :: pins) It := wI.cons hSI
  obtain ⟨us, r, hL, hz⟩ := I.list hl
  have pS := I.pin (S, seqObj "list" #[] c) (List.mem_append_right _ List.mem_cons_self)
  obtain ⟨zx, hzx⟩ : ∃ zx, zs[0]? = some zx := ⟨_, List.getElem?_eq_getElem hn⟩
  obtain ⟨x, hx, rx⟩ := r.get hzx
  refine codeAny_builtin PySem.F.entry_min_loop ?_
  rw [Around.under_plainId PySem.F.plain_min_loop _]
  show wpAny _ X.A.in1 (seqItems? (.ref S) >>= _) _ _ s
  refine wpAny_bind (wpAny_seqItems pS.1 rfl ?_)
  show wpAny _ X.A.in1 (tryCatch (pyNext (.ref It)) _ >>= _) _ _ s
  refine wpAny_bind (wpAny_tryCatch (wpAny_pyNext_list_item (A := X.A.in1) hit hL.isList (x := x) (by simpa using hx) fun h' hit' he' => ?_))
  obtain ⟨oI', hoI', hoc, hod⟩ := id hit'
  have I1 : Inv X ((S, seqObj "list" #[] c) :: (It, oI') :: pins) σ H { s with heap := h', toks := s.toks } := swap_pin (re_pin2 (t' := s.toks) (swap_pin I) wIS (fun b o hb e => (he'.2 b hb).trans e) hoI' (iter_nd hod))
  show wpAny _ X.A.in1 (tryCatch (holding [x] (call (.ref q) [x])) _ >>= _) _ _ _
  refine wpAny_bind (wpAny_tryCatch (wpAny_holding (wpAny_mono (turn _ _ H x 0 zx hzx I1 (Same.refl H) rx) (fun kx s'' he => ?_) fun _ _ hF => hF.elim)))
  obtain ⟨kxv, H2, I2, rkx, s2, hdx⟩ := he
  have pS2 := I2.pin (S, seqObj "list" #[] c) (List.mem_append_right _ List.mem_cons_self)
  have pI2 := I2.pin (It, oI') (List.mem_append_right _ (List.mem_cons_of_mem _ List.mem_cons_self))
  obtain ⟨c2, hc2⟩ : ∃ c2, (s''.heap.update S (Obj.mapSeq fun _ => #[x, kx])).get? S = some (seqObj "list" #[x, kx] c2) := ⟨_, get?_update_seq pS2.1 fun _ => #[x, kx]⟩
  show wpAny _ X.A.in1 (updateSeq S (fun _ => #[x, kx]) >>= _) _ _ _
  refine wpAny_bind ?_
  refine wpAny_updateSeq pS2.1 rfl ?_
  rw [hname]
  have I3 : Inv X ((S, seqObj "list" #[x, kx] c2) :: (It, oI') :: pins) σ H2 { s'' with heap := s''.heap.update S (Obj.mapSeq fun _ => #[x, kx]), toks := s''.toks } :=
    re_pin2 I2 wSI (fun b o hb e => (Heap.get?_update_other _ _ (Ne.symm hb)).trans e) hc2 seq_nd
  refine wpAny_pure ⟨plainId_quiet PySem.F.plain_min_loop _, min_loopI hh hu ko wS wI hSI hl nlI turn hR _ 0 _ H2 x kx zx kxv 0 c2 oI' rfl hn I3 s2 ⟨oI', (Heap.get?_update_other _ _ hSI).trans pI2.1, hoc, hod⟩ (Nat.le_refl _) hzx rx rkx hdx fun j' hj' => ?_⟩
  obtain rfl : j' = 0 := by omega
  rcases (leK_total kd).total 0 0 with h | h <;> exact h
end
def rMinF (K : PySem.W.Frag) (f : Addr) (sp : Sp) : List V → List V → Hp → VK → Prop := fun vs ws H Q => ∃ (l : Addr) (zs : List V) (kd : Nat → PyData), vs = [.ref l] ∧ ws = [.ref f] ∧ SqL K H l zs ∧ 0 < zs.length ∧ KeysOk kd
  ∧ (∀ (Hi : Hp) (i : Nat) (z : V), zs[i]? = some z → Same H Hi → sp [z] Hi (fun v H' => Same Hi H' ∧ Dp K H' v (kd i)) E0) ∧ ∀ (H' : Hp) (i : Nat) (z : V), Same H H' → zs[i]? = some z → (∀ j, j < zs.length → leK kd i j = true) → Q z H'
def rMinFD (K : PySem.W.Frag) (f : Addr) (sp : Sp) : List V → List V → Hp → VK → Prop := fun vs ws H Q => ∃ (l : Addr) (zs : List V) (kd : Nat → PyData) (d : V), vs = [.ref l] ∧ ws = [.ref f, d] ∧ SqL K H l zs ∧ KeysOk kd
  ∧ (∀ (Hi : Hp) (i : Nat) (z : V), zs[i]? = some z → Same H Hi → sp [z] Hi (fun v H' => Same Hi H' ∧ Dp K H' v (kd i)) E0) ∧ (zs = [] → ∀ H' : Hp, Same H H' → Q d H') ∧ ∀ (H' : Hp) (i : Nat) (z : V), Same H H' → zs[i]? = some z → (∀ j, j < zs.length → leK kd i j = true) → Q z H'
section
variable {X : Cx} {pins : List (Addr × Obj)} {σ : L2.St} {H : Hp} {s : Shared}
theorem min_turn {f : Addr} {fd : FuncData} {k : Nat} {ps : List Str} {sp : Sp} {zs : List V} {kd : Nat → PyData} (F : FnOk X.prog X.w X.K X.mg X.base CX0 k f fd ps sp) (hb : Binds X.K fd ps []) (hp : ps.length = 1) (hr : Room (k + 1) X.A)
    (h : ∀ (Hi : Hp) (i : Nat) (z : V), zs[i]? = some z → Same H Hi → sp [z] Hi (fun v H' => Same Hi H' ∧ Dp X.K H' v (kd i)) E0) : MinTurn X X.A.in1 (.ref f) H σ zs kd := by
  intro pins2 s2 Hi u i z hz I2 sm ru
  have rv : Vals [z] ([u] ++ []) := .cons ru .nil
  refine wpAny_call (codeAny_mono (F.run X.A.in1 X.stack s2 Hi ⟨[u], []⟩ ([u] ++ []) [z] _ E0 hr.in1 I2.env0.in1 (hb s2 [u] I2.kIn (by rw [hp]; rfl)) rv (h Hi i z hz sm)) fun r s' hq => ?_)
  cases r with
  | error e => exact hq
  | ok fl =>
    cases fl with
    | ret u => exact I2.after hq
    | next => exact False.elim hq
    | brk => exact False.elim hq
    | cont => exact False.elim hq
theorem iter_pins {l : Addr} (I : Inv X pins σ H s) :
    Own X pins s.heap.objs.size ∧ Own X pins (s.heap.objs.size + 1) ∧ ∃ oI, Inv X ((s.heap.objs.size + 1, seqObj "list" #[] 0) :: (s.heap.objs.size, oI) :: pins) σ H
      { s with heap := (s.heap.push { cls := .type "list_iterator", data := .fields #[.ref l, .int 0 0] }).push { cls := .type "list", data := .seq #[] 0 } }
      ∧ ((s.heap.push { cls := .type "list_iterator", data := .fields #[.ref l, .int 0 0] }).push { cls := .type "list", data := .seq #[] 0 }).IsListIter s.heap.objs.size l 0 := by
  have wI : Own X pins s.heap.objs.size := Own.of I (Nat.le_refl _)
  have wS : Own X pins (s.heap.objs.size + 1) := Own.of I (Nat.le_succ _)
  have hnI : H s.heap.objs.size = none := I.hok.fresh (Nat.le_refl _)
  have hnS : H (s.heap.objs.size + 1) = none := I.hok.fresh (Nat.le_succ _)
  have kp : ∀ b o, s.heap.get? b = some o → ((s.heap.push { cls := .type "list_iterator", data := .fields #[.ref l, .int 0 0] }).push { cls := .type "list", data := .seq #[] 0 }).get? b = some o := fun b o e => Heap.get?_push_of_some _ (Heap.get?_push_of_some _ e)
  have I1 := I.kept (t' := s.toks) kp
  have gI : ((s.heap.push { cls := .type "list_iterator", data := .fields #[.ref l, .int 0 0] }).push { cls := .type "list", data := .seq #[] 0 }).get? s.heap.objs.size = some { cls := .type "list_iterator", data := .fields #[.ref l, .int 0 0] } :=
    Heap.get?_push_of_some _ (Heap.get?_push_size _ rfl)
  have gS : ((s.heap.push { cls := .type "list_iterator", data := .fields #[.ref l, .int 0 0] }).push { cls := .type "list", data := .seq #[] 0 }).get? (s.heap.objs.size + 1) = some (seqObj "list" #[] 0) := by
    have q := Heap.get?_push_size (h := s.heap.push { cls := .type "list_iterator", data := .fields #[.ref l, .int 0 0] }) (o := { cls := .type "list", data := .seq #[] 0 }) rfl
    rw [size_push'] at q
    exact q
  have I2 := put_pin I1 wI gI hnI (fun v e => by cases e)
  exact ⟨wI, wS, _, put_pin I2 (wS.cons (Nat.ne_of_lt (Nat.lt_succ_self _))) gS hnS seq_nd, ⟨_, gI, rfl, rfl⟩⟩
theorem call_minF {f : Addr} {fd : FuncData} {k : Nat} {ps : List Str} {sp : Sp} (hc : X.calm = true) (F : FnOk X.prog X.w X.K X.mg X.base CX0 k f fd ps sp) (hb : Binds X.K fd ps []) (hp : ps.length = 1) (hr : Room (k + 1) X.A) :
    CallRK X (.builtin "min") [Str.ofString "key"] (rMinF X.K f sp) := by
  intro pins s σ H vs ws us us2 Q I r1 r2 h
  obtain ⟨l, zs, kd, rfl, rfl, hl, hn, ko, hf, q⟩ := h
  obtain rfl := Vals.ref1 r1
  obtain rfl := Vals.ref1 r2
  obtain ⟨us, r, hL, hz⟩ := I.list hl
  obtain ⟨ol, hol, _⟩ := id hL.isList
  have hll : l < s.heap.objs.size := Heap.lt_size hol
  have hu : X.A.units + 64 < cLine := by
    have := hr.un
    omega
  have hname : (toString "min" ++ toString ".loop" : String) = "min.loop" := by decide
  refine PyProof.Rows.kmk_tree PySem.F.kind_min PySem.F.plain_min PySem.F.entry_min (PyProof.Rows.kmk_min_key _ _) ?_
  show wpAny _ X.A.in1 (Builtin.Builtins.bindParams "min" ["key", "default"] 0 ⟨[], [(Str.ofString "key", .ref f)]⟩ >>= _) _ _ s
  refine wpAny_bind (wpAny_of_eq (show Builtin.Builtins.bindParams "min" ["key", "default"] 0 ⟨[], [(Str.ofString "key", .ref f)]⟩ = pure [some (.ref f), none] from rfl) ?_)
  refine wpAny_bind (wpAny_pure ?_)
  refine wpAny_bind (wpAny_pyIter_list hL.isList ?_)
  refine wpAny_bind (wpAny_newObj_type ?_)
  rw [hname]
  obtain ⟨wI, wS, oI, I2, hit⟩ := iter_pins (l := l) I
  have e2 : (s.heap.push { cls := .type "list_iterator", data := .fields #[.ref l, .int 0 0] }).objs.size = s.heap.objs.size + 1 := size_push' ..
  refine wpAny_pure ⟨plainId_quiet PySem.F.plain_min_loop _, ?_⟩
  rw [e2]
  exact min_firstI (I.ok.hd hc) hu ko wS wI (Nat.succ_ne_self _) hl (Nat.ne_of_lt hll) (min_turn F hb hp hr hf) hn (fun i z v s' H' hzi rz hbest I' sm => ⟨z, H', I', rz, q H' i z sm hzi hbest⟩) I2 hit
theorem call_minFD {f : Addr} {fd : FuncData} {k : Nat} {ps : List Str} {sp : Sp} (hc : X.calm = true) (F : FnOk X.prog X.w X.K X.mg X.base CX0 k f fd ps sp) (hb : Binds X.K fd ps []) (hp : ps.length = 1) (hr : Room (k + 1) X.A) :
    CallRK X (.builtin "min") [Str.ofString "key", Str.ofString "default"] (rMinFD X.K f sp) := by
  intro pins s σ H vs ws us us2 Q I r1 r2 h
  obtain ⟨l, zs, kd, d, rfl, rfl, hl, ko, hf, q0, q⟩ := h
  obtain rfl := Vals.ref1 r1
  obtain ⟨u1, u2, rfl, ru1, ru2⟩ := vals2 r2
  obtain rfl : u1 = Value.ref f := ru1
  obtain ⟨us, r, hL, hz⟩ := I.list hl
  obtain ⟨ol, hol, _⟩ := id hL.isList
  have hll : l < s.heap.objs.size := Heap.lt_size hol
  have hu : X.A.units + 64 < cLine := by
    have := hr.un
    omega
  have hname : (toString "min" ++ toString ".loop" : String) = "min.loop" := by decide
  refine PyProof.Rows.kmk_tree PySem.F.kind_min PySem.F.plain_min PySem.F.entry_min (args_min_key_default _ _ _) ?_
  show wpAny _ X.A.in1 (Builtin.Builtins.bindParams "min" ["key", "default"] 0 ⟨[], [(Str.ofString "key", .ref f), (Str.ofString "default", u2)]⟩ >>= _) _ _ s
  refine wpAny_bind (wpAny_of_eq (show Builtin.Builtins.bindParams "min" ["key", "default"] 0 ⟨[], [(Str.ofString "key", .ref f), (Str.ofString "default", u2)]⟩ = pure [some (.ref f), some u2] from rfl) ?_)
  refine wpAny_bind (wpAny_pure ?_)
  refine wpAny_bind (wpAny_pyIter_list hL.isList ?_)
  refine wpAny_bind (wpAny_newObj_type ?_)
  rw [hname]
  obtain ⟨wI, wS, oI, I2, hit⟩ := iter_pins (l := l) I
  have e2 : (s.heap.push { cls := .type "list_iterator", data := .fields #[.ref l, .int 0 0] }).objs.size = s.heap.objs.size + 1 := size_push' ..
  refine wpAny_pure ⟨plainId_quiet PySem.F.plain_min_loop _, ?_⟩
  rw [e2]
  rcases Nat.eq_zero_or_pos zs.length with hn | hn
  · have ez : zs = [] := List.length_eq_zero_iff.mp hn
    have pS := I2.pin (_, seqObj "list" #[] 0) (List.mem_append_right _ List.mem_cons_self)
    obtain ⟨us', r', hL', _⟩ := I2.list hl
    refine codeAny_builtin PySem.F.entry_min_loop ?_
    rw [Around.under_plainId PySem.F.plain_min_loop _]
    show wpAny _ X.A.in1 (seqItems? (.ref (s.heap.objs.size + 1)) >>= _) _ _ _
    refine wpAny_bind (wpAny_seqItems pS.1 rfl ?_)
    show wpAny _ X.A.in1 (tryCatch (pyNext (.ref s.heap.objs.size)) _ >>= _) _ _ _
    refine wpAny_bind (wpAny_tryCatch (wpAny_pyNext_list_end (A := X.A.in1) (I.ok.hd hc) hit hL'.isList (by have := r'.length; rw [hn] at this; simp [← this]) fun h' he' => ?_))
    have I3 : Inv X pins σ H { s with heap := h' } :=
      (drop_pin (drop_pin I2)).turned (t' := s.toks) (fun b o hb e => he' b o hb e) (I2.pin (_, oI) (List.mem_append_right _ (List.mem_cons_of_mem _ List.mem_cons_self))).2.1 wI.loc wI.new wI.cel wI.pin
    show wpAny _ X.A.in1 (rule _ >>= _) _ _ _
    exact wpAny_bind (wpAny_rule (wpAny_pure ⟨d, H, I3, ru2, q0 ez H (Same.refl H)⟩))
  · exact min_firstI (I.ok.hd hc) hu ko wS wI (Nat.succ_ne_self _) hl (Nat.ne_of_lt hll) (min_turn F hb hp hr hf) hn (fun i z v s' H' hzi rz hbest I' sm => ⟨z, H', I', rz, q H' i z sm hzi hbest⟩) I2 hit
end
end FL
namespace FL
open PySem PySem.Spec PyProof.Rows L2
/-! ### sorted(things, key=f), f any: its keys by data -/
section
variable {α : Type}
def sortG (key : V × α → PyData) (zs : List (V × α)) : List (V × α) := zs.mergeSort (PySem.W.dataLe false key)
structure SortOk (key : V × α → PyData) (zs : List (V × α)) : Prop where
  al : PySem.W.AllAlike (zs.map key)
  so : PySem.W.Sortable (zs.map key)
  dp : ∀ z ∈ zs, (key z).depth ≤ 8
variable {X : Cx} {pins : List (Addr × Obj)} {σ : L2.St} {H : Hp} {s : Shared}
/-- what a call f(x) must do: its key, all else as it was -/
def TurnG (X : Cx) (A' : Around) (f : Value) (pins0 : List (Addr × Obj)) (H : Hp) (σ : L2.St) (zs : List (V × α)) (key : V × α → PyData) : Prop :=
  ∀ (pins : List (Addr × Obj)) (s : Shared) (Hi : Hp) (u : Value) (z : V × α), (∀ p ∈ pins0, p ∈ pins) → z ∈ zs → Inv X pins σ Hi s → (∀ b o, H b = some o → Hi b = some o) → RelV z.1 u →
    wpAny (model X.prog X.w) A' (call f [u]) (EP X pins σ fun v H' => (∀ b o, Hi b = some o → H' b = some o) ∧ Dp X.K H' v (key z)) (fun _ _ => False) s
theorem vals_eachG : ∀ {zs : List (V × α)} {us : List Value}, PySem.W.EachIs (fun u (z : V × α) => RelV z.1 u) us zs → Vals (zs.map Prod.fst) us
  | _, _, .nil => .nil
  | _, _, .cons h t => .cons h (vals_eachG t)
theorem each_valsG : ∀ {zs : List (V × α)} {us : List Value}, Vals (zs.map Prod.fst) us → PySem.W.EachIs (fun u (z : V × α) => RelV z.1 u) us zs
  | [], _, h => by cases h; exact .nil
  | _ :: _, _, h => by
    cases h with
    | cons h t => exact .cons h (each_valsG t)
theorem key_restG {A' : Around} {f : Value} {a kS : Addr} {e1 : Nat} {us : List Value} {zs : List (V × α)} {key : V × α → PyData} {E : Value → Shared → Prop} {P : PySem.Fin → Shared → Prop}
    (I : Inv X ((kS, seqObj "list" #[] 0) :: (a, seqObj "list" #[] e1) :: pins) σ H s) (wa : Own X pins a) (wk : Own X pins kS) (hka : kS ≠ a) (r : Vals (zs.map Prod.fst) us) (hZ : zs.length ≤ sizeLine)
    (hu : A'.units + 9 < cLine) (ko : SortOk key zs) (turn : TurnG X A' f pins H σ zs key)
    (h : ∀ (s' : Shared) (H' : Hp), Inv X pins σ H' s' → (∀ b o, H b = some o → H' b = some o) → H a = none → H' a = some (.lst ((sortG key zs).map Prod.fst)) → P (.done (.ret .none)) s') :
    wpAny (model X.prog X.w) A' (ksk_rest a f false us.toArray e1 (.ref kS)) P E s := by
  have hl : us.length = zs.length := by rw [← r.length, List.length_map]
  have na0 : H a = none := (I.pin (a, seqObj "list" #[] e1) (List.mem_append_right _ (List.mem_cons_of_mem _ List.mem_cons_self))).2.1
  unfold ksk_rest
  refine wpAny_bind (wpAny_rule ?_)
  first
    | rw [List.forIn_toArray]
    | (rw [← Array.forIn_toList]; simp only [List.toList_toArray])
    | rw [← Array.forIn_toList]
  refine wpAny_bind (ksk_fold (fun i s' => ∃ Hi kA e, Inv X ((kS, seqObj "list" kA e) :: (a, seqObj "list" #[] e1) :: pins) σ Hi s' ∧ (∀ b o, H b = some o → Hi b = some o)
      ∧ PySem.W.EachIs (fun (v : Value) (z : V × α) => ∃ vv, RelV vv v ∧ Dp X.K Hi vv (key z)) kA.toList (zs.take i)) us 0 s
    ⟨H, #[], 0, I, fun _ _ e => e, by rw [List.take_zero]; exact .nil⟩ ?step ?done)
  case step =>
    rintro j x s' hx ⟨Hi, kA, e, I', kp, ek⟩
    simp only [Nat.zero_add] at ek ⊢
    have hj : j < us.length := (List.getElem?_eq_some_iff.mp hx).1
    have hjz : j < zs.length := by omega
    have hz : zs[j]? = some zs[j] := List.getElem?_eq_getElem hjz
    have hxf : (zs.map Prod.fst)[j]? = some zs[j].1 := by rw [List.getElem?_map, hz]; rfl
    obtain ⟨u', hu', ru⟩ := r.get hxf
    rw [hx] at hu'
    obtain rfl : x = u' := Option.some.inj hu'
    refine wpAny_bind (wpAny_attempt (wpAny_mono (turn _ s' Hi x zs[j] (fun p hp => List.mem_cons_of_mem _ (List.mem_cons_of_mem _ hp)) (List.getElem_mem hjz) I' kp ru) (fun v s'' he => ?_) fun _ _ hF => hF.elim))
    obtain ⟨v', H'', I2, rv, kp2, hd2⟩ := he
    try dsimp only
    have pk := I2.pin (kS, seqObj "list" kA e) (List.mem_append_right _ List.mem_cons_self)
    have s1 := Heap.SameBut.update s''.heap kS (Obj.mapSeq (·.push v))
    obtain ⟨c2, hc2⟩ : ∃ c2, (s''.heap.update kS (Obj.mapSeq (·.push v))).get? kS = some (seqObj "list" (kA.push v) c2) := ⟨_, get?_update_seq pk.1 (·.push v)⟩
    have hz2 : kA.size ≤ sizeLine := by
      have h1 := ek.length
      rw [Array.length_toList, List.length_take] at h1
      omega
    refine wpAny_bind (listUpdate_at pk.1 rfl ?_ hz2 (Nat.le_trans (Nat.le_of_eq (Array.size_push ..)) (Nat.succ_le_succ hz2)))
    refine wpAny_pure ⟨rfl, H'', kA.push v, c2, re_pin (t' := s''.toks) I2 (wk.cons hka.symm) s1 hc2 seq_nd, fun b o q => kp2 b o (kp b o q), ?_⟩
    have e2 : zs.take (j + 1) = zs.take j ++ [zs[j]] := by rw [List.take_add_one, hz]; simp
    have e3 : (kA.push v).toList = kA.toList ++ [v] := by simp
    rw [e2, e3]
    exact PySem.W.each_snoc (R := fun (v : Value) (z : V × α) => ∃ vv, RelV vv v ∧ Dp X.K H'' vv (key z)) ⟨v', rv, hd2⟩ (ek.mono fun _ _ ⟨q, e, hq⟩ => ⟨q, e, Dp.same kp2 hq⟩)
  case done =>
    rintro s' ⟨Hi, kA, e, I', kp, ek⟩
    have e3 : zs.take (0 + us.length) = zs := List.take_of_length_le (by omega)
    rw [e3] at ek
    have pk := I'.pin (kS, seqObj "list" kA e) (List.mem_append_right _ List.mem_cons_self)
    have pa := I'.pin (a, seqObj "list" #[] e1) (List.mem_append_right _ (List.mem_cons_of_mem _ List.mem_cons_self))
    have ek' : PySem.W.EachIs (fun (v : Value) (z : V × α) => ∃ as, Reads s'.heap v (key z) as) kA.toList zs := ek.mono fun v z ⟨p, e, hp⟩ => Dp.reads I' _ _ _ hp e
    have hk' : PySem.W.EachIs (fun v k => ∃ as, Reads s'.heap v k as) kA.toList (zs.map key) := PySem.W.each_map (R := fun v k => ∃ as, Reads s'.heap v k as) key ek'
    have hsz : kA.size = us.length := by
      have h1 := ek.length
      rw [Array.length_toList] at h1
      omega
    try dsimp only
    refine wpAny_bind (listItems_at pk.1 rfl ?_)
    refine PySem.W.keyH_end (κ := PySem.W.dataKind s'.heap (zs.map key)) (h₁ := PySem.W.hideAll s'.heap [kS]) hide1 (PySem.W.hideAll_none _ List.mem_cons_self) pk.1 pa.1 hka
      (PySem.W.SortsAt.data hk' ko.al ko.so (PySem.W.bound_map (A := A') fun z hz => by have := ko.dp z hz; omega)) hsz (by omega) fun h' tk c kp3 ha3 => ?_
    have eo : PySem.W.EachIs (fun u (z : V × α) => RelV z.1 u) (PySem.W.sortVals (PySem.W.dataKind s'.heap (zs.map key)) false kA.toList us) (sortG key zs) :=
      PySem.W.keyedOut_each key ⟨s'.heap, kA.toList, ko.al, rfl, hk'⟩ (each_valsG r)
    generalize PySem.W.sortVals (PySem.W.dataKind s'.heap (zs.map key)) false kA.toList us = out at eo ha3
    have I0 : Inv X pins σ Hi s' := drop_pin (drop_pin I')
    have na : Hi a = none := pa.2.1
    have nk : Hi kS = none := pk.2.1
    have keepAll : ∀ b o, b ∉ [a, kS] → s'.heap.get? b = some o → h'.get? b = some o := fun b o hb q =>
      kp3 b o (fun z => hb (by rw [z]; exact List.mem_cons_self)) (PySem.W.hideAll_get _ q fun z => hb (List.mem_cons_of_mem _ z))
    have nt : ∀ b u, Hi b = some u → b ∉ [a, kS] := fun b u q z => by
      rcases List.mem_cons.mp z with z | z
      · rw [z, na] at q; cases q
      · rw [List.mem_singleton.mp z, nk] at q; cases q
    have kpU : ∀ b o, Hi b = some o → (upd Hi a (.lst ((sortG key zs).map Prod.fst))) b = some o := fun b o q => by rw [upd_ne (ne_of_none q na)]; exact q
    refine h { s' with heap := h', toks := tk } (upd Hi a (.lst ((sortG key zs).map Prod.fst))) ?_ (fun b o q => kpU b o (kp b o q)) na0 upd_same
    refine I0.step (g' := s'.gens) (d' := s'.drawn) (ch := [a, kS]) (fun b hb => ?_) (fun b o _ _ hc q _ => keepAll b o hc q) (fun b o _ _ hc q _ => ⟨o.slots, keepAll b o hc q⟩)
      (fun b o hc _ n => by rw [upd_ne (fun z => hc (by rw [z]; exact List.mem_cons_self))]; exact n) (fun b o hc q => ⟨o, keepAll b o hc q⟩) (fun b xs q => kpU b _ q) (fun b o u q => kpU b _ q) (fun b ps q => ⟨#[], by rw [kpU b _ q]; simp⟩) (fun m hm => ?_) (fun b u q => ?_) I0.bare
    · rcases List.mem_cons.mp hb with rfl | hb
      · exact ⟨wa.new, wa.loc, wa.cel, wa.pin⟩
      · rw [List.mem_singleton.mp hb]
        exact ⟨wk.new, wk.loc, wk.cel, wk.pin⟩
    · obtain ⟨o, es, ep, ho, q⟩ := hm
      refine ⟨o, es, ep, keepAll _ o (fun z => ?_) ho, q⟩
      rcases List.mem_cons.mp z with z | z
      · exact wa.loc z.symm
      · exact wk.loc (List.mem_singleton.mp z).symm
    · by_cases hb : b = a
      · rw [hb] at q ⊢
        rw [upd_same] at q
        cases q
        refine ⟨?_, out, c, vals_eachG eo, ha3⟩
        have h1 := (vals_eachG eo).length
        rw [List.length_map]
        have h2 : (sortG key zs).length = zs.length := (List.mergeSort_perm _ _).length_eq
        omega
      · rw [upd_ne hb] at q
        exact (I0.hok b u q).stay (fun d v hd y => keepAll d v (by
          rcases hd with z | z
          · rw [z]; exact nt b u q
          · exact nt d _ z) y) (fun d y => kpU d _ y) fun d xs y => kpU d _ y

theorem key_sortedG {f l : Addr} {zs : List (V × α)} {key : V × α → PyData} {Q : VK} (I : Inv X pins σ H s) (hl : SqL X.K H l (zs.map Prod.fst)) (hu : X.A.units + 64 < cLine) (ko : SortOk key zs) (turn : TurnG X X.A.in1.in1 (.ref f) pins H σ zs key)
    (h : ∀ (H' : Hp) (a : Addr), (∀ b o, H b = some o → H' b = some o) → H a = none → H' a = some (.lst ((sortG key zs).map Prod.fst)) → Q (.ref a) H') :
    wpAny (model X.prog X.w) X.A (call (.builtin "sorted") [.ref l] [(Str.ofString "key", .ref f)]) (EP X pins σ Q) X.xe s := by
  obtain ⟨us, r, hL, hz⟩ := I.list hl
  have hzl : zs.length = us.length := by rw [← r.length, List.length_map]
  rw [List.length_map] at hz
  refine PySem.W.sorted_of_sort hL.isList (by omega) (ksk_s1 _ _) (fun _ => ksk_l1 _ _) fun E' => ?_
  rw [ksk_t1]
  have fresh : s.heap.objs.size ≤ s.heap.objs.size + 1 := Nat.le_succ _
  have wa0 : Own X pins (s.heap.objs.size + 1) := Own.of I fresh
  have hna : H (s.heap.objs.size + 1) = none := I.hok.fresh fresh
  have ho := PySem.W.copyHeap_at s.heap us
  have hsz : (PySem.W.copyHeap s.heap us).objs.size = s.heap.objs.size + 2 := by
    unfold PySem.W.copyHeap
    rw [size_push', Heap.size_update, size_push']
  obtain ⟨e1, ho1⟩ : ∃ e1, ((PySem.W.copyHeap s.heap us).update (s.heap.objs.size + 1) (Obj.mapSeq fun _ => (#[] : Array Value))).get? (s.heap.objs.size + 1) = some (seqObj "list" #[] e1) := ⟨_, get?_update_seq ho fun _ => #[]⟩
  unfold ksk_tree
  refine wpAny_bind (listItems_at ho rfl ?_)
  refine wpAny_bind (listUpdate_at ho rfl ?_ (by rw [List.size_toArray]; omega) (Nat.zero_le _))
  refine wpAny_bind (seqEpoch_at ho1 rfl ?_)
  refine wpAny_bind (wpAny_newTuple ?_ (by show us.length ≤ _; omega))
  refine wpAny_bind (wpAny_newList ?_ (Nat.zero_le _))
  refine wpAny_holding ?_
  have hkS : (((PySem.W.copyHeap s.heap us).update (s.heap.objs.size + 1) (Obj.mapSeq fun _ => (#[] : Array Value))).push (seqObj "tuple" us.toArray 0)).objs.size = s.heap.objs.size + 3 := by
    rw [size_push', Heap.size_update, hsz]
  have wk0 : Own X pins (s.heap.objs.size + 3) := Own.of I (Nat.le_add_right _ _)
  have hnk : H (s.heap.objs.size + 3) = none := I.hok.fresh (Nat.le_add_right _ _)
  have ne : s.heap.objs.size + 3 ≠ s.heap.objs.size + 1 := by omega
  have kp : ∀ b o, s.heap.get? b = some o → ((((PySem.W.copyHeap s.heap us).update (s.heap.objs.size + 1) (Obj.mapSeq fun _ => (#[] : Array Value))).push (seqObj "tuple" us.toArray 0)).push (seqObj "list" #[] 0)).get? b = some o := fun b o q => PySem.W.sorting_copy_old q
  have I1 : Inv X pins σ H { s with heap := (((PySem.W.copyHeap s.heap us).update (s.heap.objs.size + 1) (Obj.mapSeq fun _ => (#[] : Array Value))).push (seqObj "tuple" us.toArray 0)).push (seqObj "list" #[] 0) } := I.kept (t' := s.toks) kp
  have atA : ((((PySem.W.copyHeap s.heap us).update (s.heap.objs.size + 1) (Obj.mapSeq fun _ => (#[] : Array Value))).push (seqObj "tuple" us.toArray 0)).push (seqObj "list" #[] 0)).get? (s.heap.objs.size + 1) = some (seqObj "list" #[] e1) := Heap.get?_push_of_some _ (Heap.get?_push_of_some _ ho1)
  have atK : ((((PySem.W.copyHeap s.heap us).update (s.heap.objs.size + 1) (Obj.mapSeq fun _ => (#[] : Array Value))).push (seqObj "tuple" us.toArray 0)).push (seqObj "list" #[] 0)).get? (s.heap.objs.size + 3) = some (seqObj "list" #[] 0) := by
    have q := Heap.get?_push_size (h := ((PySem.W.copyHeap s.heap us).update (s.heap.objs.size + 1) (Obj.mapSeq fun _ => (#[] : Array Value))).push (seqObj "tuple" us.toArray 0)) (o := seqObj "list" #[] 0) rfl
    rw [hkS] at q
    exact q
  have I2 := put_pin (put_pin I1 wa0 atA hna seq_nd) (wk0.cons ne.symm) atK hnk seq_nd
  rw [hkS]
  have turn_ := turn
  exact key_restG I2 wa0 wk0 ne r (by omega) (by show X.A.units + 1 + 1 + 9 < cLine; omega) ko turn_ fun s' H' I' kp' na ha => ⟨rfl, .ref _, H', I', rfl, h H' _ kp' na ha⟩
end
/-- sorted(l, key=f): what it asks -/
def rSortG {α : Type} (K : PySem.W.Frag) (f : Addr) (sp : Sp) : List V → List V → Hp → VK → Prop := fun vs ws H Q => ∃ (l : Addr) (zs : List (V × α)) (key : V × α → PyData), vs = [.ref l] ∧ ws = [.ref f] ∧ SqL K H l (zs.map Prod.fst) ∧ SortOk key zs
  ∧ (∀ (Hi : Hp) (z : V × α), z ∈ zs → Same H Hi → sp [z.1] Hi (fun v H' => Same Hi H' ∧ Dp K H' v (key z)) E0)
  ∧ ∀ H' a, Same H H' → H a = none → H' a = some (.lst ((sortG key zs).map Prod.fst)) → Q (.ref a) H'
section
variable {X : Cx}
theorem call_sortG {α : Type} {f : Addr} {fd : FuncData} {k : Nat} {ps : List Str} {sp : Sp} (F : FnOk X.prog X.w X.K X.mg X.base CX0 k f fd ps sp) (hb : Binds X.K fd ps []) (hp : ps.length = 1) (hr : Room (k + 2) X.A) :
    CallRK X (.builtin "sorted") [Str.ofString "key"] (rSortG (α := α) X.K f sp) := by
  intro pins s σ H vs ws us us2 Q I r1 r2 h
  obtain ⟨l, zs, key, rfl, rfl, hl, ko, hf, q⟩ := h
  obtain rfl := Vals.ref1 r1
  obtain rfl := Vals.ref1 r2
  refine key_sortedG I hl (by have := hr.un; omega) ko (fun pins2 s2 Hi u z _ hz I2 kp ru => ?_) fun H' a kp na ha => q H' a kp na ha
  have rv : Vals [z.1] ([u] ++ []) := .cons ru .nil
  refine wpAny_call (codeAny_mono (F.run X.A.in1.in1 X.stack s2 Hi ⟨[u], []⟩ ([u] ++ []) [z.1] (fun v H' => (∀ b o, Hi b = some o → H' b = some o) ∧ Dp X.K H' v (key z)) E0 hr.in1.in1 I2.env0.in1.in1 (hb s2 [u] I2.kIn (by rw [hp]; rfl)) rv (hf Hi z hz kp)) fun r s' hq => ?_)
  cases r with
  | error e => exact hq
  | ok fl =>
    cases fl with
    | ret u => exact I2.after hq
    | next => exact False.elim hq
    | brk => exact False.elim hq
    | cont => exact False.elim hq
end
end FL
namespace FL
open PySem PySem.Spec PyProof.Rows L2 LamX
/-! ### sorted(things, key=lambda x: body): a lambda of one parameter that captures nothing -/
/-- the lambda's body, run in a context of its own -/
abbrev lamX (X : Cx) (N : List Str) (scope : Scope) (f c' : Addr) (A : Around) (s : Shared) (H : Hp) : Cx :=
  cxOf CX0 X.prog X.w X.K X.mg X.base N (X.env.qual ++ "<lambda>") scope f (.ref c') A X.stack s H E0
section
variable {X : Cx} {pins : List (Addr × Obj)} {σ : L2.St} {H : Hp} {s : Shared}
theorem lam_pin {f : Addr} {obj : Obj} {fd : FuncData} (I : Inv X pins σ H s) (hf : s.heap.get? f = some obj) (hd : obj.data = .func fd) (hn : H f = none) (hfr : f ∉ frs X.stack) : Inv X ((f, obj) :: pins) σ H s := by
  refine I.pins_of fun p hp => ?_
  rcases List.mem_cons.mp hp with rfl | hp
  · refine ⟨hf, hn, fun e => ?_, fun z => hfr ?_, fun v e => ?_⟩
    · obtain ⟨m, ⟨o, es, ep, ho, q, _⟩, _⟩ := I.loc
      have e' : f = X.env.locals := e
      rw [← e', hf] at ho
      cases ho
      rw [hd] at q
      cases q
    · rcases I.ok.stk with e | ⟨e, _⟩
      · rw [e]; exact z
      · rw [e]
        unfold frs
        rw [List.filterMap_cons]
        split
        · exact z
        · exact List.mem_cons_of_mem _ z
    · have e' : obj.data = .cell v := e
      rw [hd] at e'
      cases e'
  · exact I.pin p (List.mem_append_right _ hp)
/-- a turn of the lambda -/
theorem lam_turn {α : Type} {N : List Str} {a : Str} {f c' : Addr} {pm ctv : Value} {params : Arguments} {body : Expr} {scope : Scope} {cl : List (Str × Addr)} {k : Nat} {tb : TE} {zs : List (V × α)} {key : V × α → PyData} {pins0 : List (Addr × Obj)} {A' : Around}
    (S : FnScope N [a] scope) (hbind : ∀ (u : Value), bindArgs (PySem.W.kla_fn "<lambda>" (X.env.qual ++ "<lambda>") params body scope cl pm (.ref c') ctv) ⟨[u], []⟩ = pure [(a, u)])
    (hpin : (f, PySem.W.kla_obj "<lambda>" (X.env.qual ++ "<lambda>") params body scope cl pm c' ctv) ∈ pins0) (hcl : cl = []) (hco : H c' = some (CodeO c' (X.env.qual ++ "<lambda>")))
    (hA : A'.frames = some X.stack) (hh : A'.handled = none) (hr : Room (k + 1) A')
    (hbody : ∀ (s : Shared) (H : Hp), Room k (A'.deeper (envOfC (X.env.qual ++ "<lambda>") scope s.heap.objs.size f (.ref c'))) → PE (lamX X N scope f c' A' s H) body tb)
    (ht : ∀ (Hi : Hp) (z : V × α), z ∈ zs → Same H Hi → tb (L2.start N [z.1]) Hi fun v H' => Same Hi H' ∧ Dp X.K H' v (key z)) :
    TurnG X A' (.ref f) pins0 H σ zs key := by
  intro pins2 s2 Hi u z hsub hz I2 kp ru
  have of1 := (I2.pin _ (List.mem_append_right _ (hsub _ hpin))).1
  obtain ⟨⟨oc, vs, t, hoc, hdc, hvc⟩, _, _⟩ := I2.hok c' _ (kp _ _ hco)
  have e0 : Env0 X.prog X.w X.K X.mg X.base A' X.stack s2 Hi := ⟨hA, I2.env0.mod, I2.env0.bs, I2.env0.bsz, I2.env0.funs, I2.env0.frf, I2.env0.hok, I2.env0.bare⟩
  have rv : Vals [z.1] [u] := .cons ru .nil
  have rc : codeAny (model X.prog X.w) A' (.call (.ref f) ⟨[u], []⟩) (CR CX0 X.stack X.prog X.w Hi s2 (fun v H' => Same Hi H' ∧ Dp X.K H' v (key z)) E0) s2 := by
    refine PySem.W.kla_callFunE hr.depth of1 rfl S.co S.gen rfl ⟨c', oc, vs, t, rfl, hoc, hdc, hvc⟩ ?_
    rw [hbind]
    have hkind : ∀ y ∈ [a].zip [u], scope.names.lookup y.1 = some .local ∨ (scope.names.lookup y.1 = some .cell ∧ ((cellsFrom (s2.heap.objs.size + 1) scope.names []).lookup y.1).isSome = true) := fun ⟨n, v⟩ hy => by
      rcases S.par n (List.of_mem_zip hy).1 with q | q
      · exact .inl q
      · exact .inr ⟨q, PySem.W.cellsFrom_some _ _ _ (.inl q)⟩
    subst hcl
    refine wpAny_pure (wpAny_newFunctionEnv_cells S.kind hkind fun env he s1 x => ?_)
    subst he
    refine ⟨I2.nolimit.keeps x.toInCall.keep, ?_⟩
    have J : Inv (lamX X N scope f c' A' s2 Hi) [] (L2.start N [z.1]) Hi s1 := inv_start S hh e0 rfl rv x
    refine PySem.W.kla_codeExpr (wpAny_mono ((hbody s2 Hi (hr.deeper _)).run [] s1 _ Hi _ J (ht Hi z hz kp)) (fun v s' hq => ?_) fun e s' hq => hq)
    obtain ⟨w', H', J', rv, q⟩ := hq
    exact ⟨w', H', J'.os, J'.bare, J'.base, J'.hok, rv, q⟩
  refine wpAny_call (codeAny_mono rc fun r s' hq => ?_)
  cases r with
  | error e => exact hq
  | ok fl =>
    cases fl with
    | ret u => exact I2.after hq
    | next => exact False.elim hq
    | brk => exact False.elim hq
    | cont => exact False.elim hq
end
/-- a new address, or a table's -/
def NewN (H : Hp) (a : Addr) : Prop := ∀ o, H a = some o → ∃ ps, o = .tbl ps
def tSortLam {α : Type} (K : PySem.W.Frag) (T : List (Addr × Str)) (N : List Str) (te : TA) (tb : TE) : TE := fun σ H Q => te σ H fun vs H1 => ∃ (l : Addr) (zs : List (V × α)) (key : V × α → PyData), vs = [.ref l] ∧ SqL K H1 l (zs.map Prod.fst) ∧ Tabs T H1 ∧ SortOk key zs
  ∧ (∀ (Hi : Hp) (z : V × α), z ∈ zs → ExtN H1 Hi → tb (L2.start N [z.1]) Hi fun v H' => Same Hi H' ∧ Dp K H' v (key z))
  ∧ ∀ H' a, ExtN H1 H' → Tabs T H' → NewN H1 a → H' a = some (.lst ((sortG key zs).map Prod.fst)) → Q (.ref a) H'
theorem extN_sqL {K : PySem.W.Frag} {H H' : Hp} (e : ExtN H H') {l : Addr} {xs : List V} (h : SqL K H l xs) : SqL K H' l xs := by
  rcases h with (h | ⟨o, h⟩) | h
  · exact .inl (.inl (e _ _ h fun _ z => by cases z))
  · exact .inl (.inr ⟨o, e _ _ h fun _ z => by cases z⟩)
  · exact .inr h
theorem pe_sortLam {X : Cx} {α : Type} {T : List (Addr × Str)} {N : List Str} {a : Str} {P c : Addr} {k : Nat} {params : Arguments} {body : Expr} {scope : Scope} {e : Expr} {te : TA} {tb : TE} {p lpos pos kpos : Pos}
    (hc : X.calm = true) (hg : Gl X "sorted") (hm : X.mg "sorted" = none) (ha : PA X [e] te) (TB : TabB X.base X.mg c P) (hcode : X.env.code = .ref c) (hmT : (P, X.env.qual ++ "<lambda>") ∈ T) (hu : ∀ p ∈ T, p.1 = P → p.2 = X.env.qual ++ "<lambda>")
    (S : FnScope N [a] scope) (hr : Room (k + 3) X.A) (hdef : defaultsOf params X.env = ([], [])) (hclo : ∀ cells, cloFrom cells scope.names [] = [])
    (hbind : ∀ (q : Str) (cl : List (Str × Addr)) (pm cv ctv : Value) (u : Value), bindArgs (PySem.W.kla_fn "<lambda>" q params body scope cl pm cv ctv) ⟨[u], []⟩ = pure [(a, u)])
    (hbody : ∀ (A : Around) (s : Shared) (H : Hp) (f c' : Addr), Room k (A.deeper (envOfC (X.env.qual ++ "<lambda>") scope s.heap.objs.size f (.ref c'))) → PE (lamX X N scope f c' A s H) body tb)
    (he : backTo pos (starEach [e] X.env) = (false, eval e X.env) :: backTo pos (starEach [] X.env) := by rfl) (hpl : (backTo pos (starEach [e] X.env)).any (·.1) = false := by rfl) :
    PE X (.Call (.Name "sorted" p) [e] [⟨some "key", .Lambda params body scope lpos, kpos⟩] pos) (tSortLam (α := α) X.K T N te tb) := by
  refine ⟨fun pins s σ H Q I h => ?_⟩
  refine wpAny_Call_Name_kw (ld_blt I hg hm (show bootBuiltins (Str.ofString "sorted") = some (.builtin "sorted") by decide +kernel) ?_ (by decide) (by decide))
  refine PyProof.Rows.callWith_kw (thn (ha.run pos pins s σ H _ I h) fun us s1 ⟨vs, H1, I1, r1, q1⟩ => ?_) he hpl (by rfl) (by rfl)
  obtain ⟨l, zs, key, rfl, hl, hT, ko, ht, hq⟩ := q1
  obtain rfl := Vals.ref1 r1
  show wpAny _ _ (evalAll ((do let v ← eval (.Lambda params body scope lpos) X.env; standAt pos; pure v) :: [])) _ _ s1
  refine wpAny_evalAll_cons (wpAny_bind (lam_make2 I1 TB hcode hmT hu hT hdef (fun y hy e => absurd e (S.nofree y hy)) fun f c' pm ctv H2 s2 I2 eN T2 hf hfn hfr hco => wpAny_bind (wpAny_standAt (wpAny_pure (wpAny_evalAll_nil ?_)))))
  show wpAny _ _ (call (.builtin "sorted") [.ref l] [(Str.ofString "key", .ref f)]) _ _ s2
  rw [hclo] at hf
  have I3 := lam_pin I2 hf rfl hfn hfr
  refine wpAny_mono (key_sortedG (Q := Q) I3 (extN_sqL eN hl) (by have := hr.un; omega) ko (lam_turn S (hbind _ _ _ _ _) List.mem_cons_self rfl hco I.ok.frames (I.ok.hd hc) hr.in1.in1 (fun s H => hbody _ s H f c') fun Hi z hz sm => ht Hi z hz (ExtN.trans eN (ExtN.of sm))) fun H' a' kp na ha => hq H' a' (ExtN.trans eN (ExtN.of kp)) (T2.ext kp) ?_ ha) (fun v s' hv => ?_) fun _ _ z => z
  · intro o q
    apply Classical.byContradiction
    intro n
    rw [eN a' o q fun ps e => n ⟨ps, e⟩] at na
    cases na
  · obtain ⟨v', H', I', rest⟩ := hv
    exact ⟨v', H', drop_pin I', rest⟩
end FL
namespace FL
open PySem PySem.Spec PyProof.Rows L2 LamX
/-- all but p and the tables of code objects stays -/
def ByX (p : Addr) (H H' : Hp) : Prop := ∀ c o, H c = some o → c ≠ p → (∀ ps, o ≠ .tbl ps) → H' c = some o
theorem ByX.refl (p : Addr) (H : Hp) : ByX p H H := fun _ _ e _ _ => e
theorem ByX.trans {p : Addr} {H H1 H2 : Hp} (a : ByX p H H1) (b : ByX p H1 H2) : ByX p H H2 := fun c o e n t => b c o (a c o e n t) n t
theorem ByX.but {p : Addr} {H H1 : Hp} (a : But p H H1) : ByX p H H1 := fun c o e n _ => a c o e n
theorem ByX.ext {p : Addr} {H H1 : Hp} (a : ExtN H H1) : ByX p H H1 := fun c o e _ t => a c o e t
theorem ByX.same {p : Addr} {H H1 : Hp} (a : Same H H1) : ByX p H H1 := fun c o e _ _ => a c o e
theorem not_tbl_l {xs : List V} : ∀ ps, (HO.lst xs) ≠ .tbl ps := fun _ z => by cases z
theorem not_tbl_t {xs : List V} : ∀ ps, (HO.tup xs) ≠ .tbl ps := fun _ z => by cases z
theorem pot_extN {H H' : Hp} {p : Addr} (h : PotAt H p) (s : ExtN H H') : PotAt H' p := by
  obtain ⟨a, b, e, r⟩ := h
  exact ⟨a, b, s _ _ e not_tbl_l, r⟩
theorem tabs_butX {T : List (Addr × Str)} {H H' : Hp} {p : Addr} (t : Tabs T H) (hp : PotAt H p) (b : But p H H') : Tabs T H' := fun q hq => by
  obtain ⟨_, _, hpe, _⟩ := hp
  obtain ⟨ps, h1, h2, h3⟩ := t q hq
  have ne : ∀ {c : Addr} {o : HO}, H c = some o → (∀ xs, o ≠ .lst xs) → c ≠ p := fun e n z => by
    rw [z, hpe] at e
    exact n _ (Option.some.inj e).symm
  refine ⟨ps, b _ _ h1 (ne h1 fun xs z => by cases z), h2, fun pos cv hc => ?_⟩
  obtain ⟨c, e1, e2⟩ := h3 pos cv hc
  exact ⟨c, e1, b _ _ e2 (ne e2 fun xs z => by unfold CodeO at z; cases z)⟩
theorem rules_byX {p : Addr} {H H' : Hp} {xs : List V} {rs : List Rule} (hp : PotAt H p) (b : ByX p H H') (h : RulesAt H xs rs) : RulesAt H' xs rs := RulesAt.imp h fun t a e => b t _ e (fun q => by
  obtain ⟨_, _, hpe, _⟩ := hp
  rw [q, hpe] at e
  cases e) not_tbl_t
theorem op_isnotB {X : Cx} : OpR X (compareOp .IsNot) (fun x y H Q => ∃ a b, x = .bl a ∧ y = .bl b ∧ Q (.bl (!decide (a = b))) H) := by
  intro pins s σ H x y v u Q I rx ry h
  obtain ⟨a, b, rfl, rfl, q⟩ := h
  cases rx
  cases ry
  show wpAny _ _ ((isSame (Value.bool a) (Value.bool b)) >>= fun z => pure (Value.bool (!z))) _ _ s
  refine wpAny_bind (wpAny_isSame_plain rfl (wpAny_pure (fin_bl I q ?_)))
  cases a <;> cases b <;> rfl
end FL
/-! data of the run's own that a law holds while its pot at p changes; sizes of what is shown -/
namespace FL
open PySem PySem.Spec PyProof.Rows L2
theorem not_tbl_d {xs : List (Key × V)} : ∀ ps, (HO.dK xs) ≠ .tbl ps := fun _ z => by cases z
mutual
inductive Dr (H : Hp) (p : Addr) : V → PyData → Prop
  | non : Dr H p .non .none
  | bl (b : Bool) : Dr H p (.bl b) (.bool b)
  | int (i : Int) : Dr H p (.int i) (.int i)
  | str (x : Str) : Dr H p (.str x) (.str x)
  | lst {a : Addr} {xs : List V} {ds : List PyData} : a ≠ p → H a = some (.lst xs) → DrAll H p xs ds → Dr H p (.ref a) (.list ds)
  | tup {a : Addr} {xs : List V} {ds : List PyData} : a ≠ p → H a = some (.tup xs) → DrAll H p xs ds → Dr H p (.ref a) (.tuple ds)
  | dct {a : Addr} {kvs : List (Key × V)} {es : List (PyData × PyData)} : a ≠ p → H a = some (.dK kvs) → es.map (·.1) = kvs.map (fun q => kD q.1) → DrAll H p (kvs.map (·.2)) (es.map (·.2)) → Dr H p (.ref a) (.dict es)
inductive DrAll (H : Hp) (p : Addr) : List V → List PyData → Prop
  | nil : DrAll H p [] []
  | cons {v : V} {vs : List V} {d : PyData} {ds : List PyData} : Dr H p v d → DrAll H p vs ds → DrAll H p (v :: vs) (d :: ds)
end
mutual
theorem Dr.bx {H H' : Hp} {p : Addr} (b : ByX p H H') : ∀ {v : V} {d : PyData}, Dr H p v d → Dr H' p v d
  | _, _, .non => .non
  | _, _, .bl b => .bl b
  | _, _, .int i => .int i
  | _, _, .str x => .str x
  | _, _, .lst n e h => .lst n (b _ _ e n not_tbl_l) (DrAll.bx b h)
  | _, _, .tup n e h => .tup n (b _ _ e n not_tbl_t) (DrAll.bx b h)
  | _, _, .dct n e k h => .dct n (b _ _ e n not_tbl_d) k (DrAll.bx b h)
theorem DrAll.bx {H H' : Hp} {p : Addr} (b : ByX p H H') : ∀ {vs : List V} {ds : List PyData}, DrAll H p vs ds → DrAll H' p vs ds
  | _, _, .nil => .nil
  | _, _, .cons h1 h2 => .cons (Dr.bx b h1) (DrAll.bx b h2)
end
mutual
theorem Dr.dq {H : Hp} {p : Addr} : ∀ {v : V} {d : PyData}, Dr H p v d → Dq H v d
  | _, _, .non => .non
  | _, _, .bl b => .bl b
  | _, _, .int i => .int i
  | _, _, .str x => .str x
  | _, _, .lst n e h => .lst e (DrAll.dq h)
  | _, _, .tup n e h => .tup e (DrAll.dq h)
  | _, _, .dct n e k h => .dct e k (DrAll.dq h)
theorem DrAll.dq {H : Hp} {p : Addr} : ∀ {vs : List V} {ds : List PyData}, DrAll H p vs ds → DqAll H vs ds
  | _, _, .nil => .nil
  | _, _, .cons h1 h2 => .cons (Dr.dq h1) (DrAll.dq h2)
end
theorem Dr.any {H : Hp} {p : Addr} {v : V} {d : PyData} (h : Dr H p v d) : ∃ n, Any H v n := by
  cases h with
  | non => exact ⟨_, .non⟩
  | bl b => exact ⟨_, .bl b⟩
  | int i => exact ⟨_, .int i⟩
  | str z => exact ⟨_, .str z⟩
  | lst n e f => exact ⟨_, .lst e⟩
  | tup n e f => exact ⟨_, .tup e⟩
  | dct n e _ _ => exact ⟨_, .dct e⟩
theorem DrAll.one {H : Hp} {p : Addr} {v : V} {d : PyData} (h : Dr H p v d) : DrAll H p [v] [d] := .cons h .nil
theorem DrAll.append {H : Hp} {p : Addr} : ∀ {vs ws : List V} {ds es : List PyData}, DrAll H p vs ds → DrAll H p ws es → DrAll H p (vs ++ ws) (ds ++ es)
  | _, _, _, _, .nil, h => h
  | _, _, _, _, .cons h1 h2, h => .cons h1 (DrAll.append h2 h)
theorem DrAll.strs {H : Hp} {p : Addr} : ∀ (ms : List Str), DrAll H p (ms.map V.str) (ms.map PyData.str)
  | [] => .nil
  | m :: ms => .cons (.str m) (DrAll.strs ms)
/-! ### sizes -/
structure Sz (k n : Nat) (d : PyData) : Prop where
  sh : d.showable = true
  dp : d.depth ≤ k
  len : d.shown.length ≤ n
structure SzL (k n : Nat) (ds : List PyData) : Prop where
  sh : PyData.showableAll ds = true
  dp : PyData.depthAll ds ≤ k
  len : piled (PyData.shownAll ds) ≤ n
theorem Sz.nice {k n : Nat} {d : PyData} (h : Sz k n d) (hk : k ≤ 40) (hn : n ≤ 16777216) : NiceD d := ⟨h.sh, Nat.le_trans h.dp hk, Nat.le_trans h.len hn⟩
theorem Sz.mono {k l n m : Nat} {d : PyData} (h : Sz k n d) (hk : k ≤ l) (hn : n ≤ m) : Sz l m d := ⟨h.sh, Nat.le_trans h.dp hk, Nat.le_trans h.len hn⟩
theorem SzL.mono {k l n m : Nat} {d : List PyData} (h : SzL k n d) (hk : k ≤ l) (hn : n ≤ m) : SzL l m d := ⟨h.sh, Nat.le_trans h.dp hk, Nat.le_trans h.len hn⟩
theorem SzL.nil {k : Nat} : SzL k 0 [] := ⟨rfl, Nat.zero_le _, Nat.le_refl _⟩
theorem SzL.cons {k m n : Nat} {d : PyData} {ds : List PyData} (h : Sz k m d) (r : SzL k n ds) : SzL k (m + 2 + n) (d :: ds) := by
  refine ⟨?_, ?_, ?_⟩
  · show (d.showable && PyData.showableAll ds) = true
    rw [h.sh, r.sh]
    rfl
  · show max d.depth (PyData.depthAll ds) ≤ k
    have h1 := r.dp
    have h2 := h.dp
    omega
  · show piled (d.shown :: PyData.shownAll ds) ≤ _
    rw [piled_cons]
    have h1 := r.len
    have h2 := h.len
    omega
theorem Sz.list {k n : Nat} {ds : List PyData} (h : SzL k n ds) : Sz (k + 1) (n + 2) (.list ds) := by
  refine ⟨h.sh, ?_, ?_⟩
  · show PyData.depthAll ds + 1 ≤ k + 1
    have := h.dp
    omega
  · show (listText (PyData.shownAll ds)).length ≤ _
    unfold listText
    rw [strLen_append]
    have h1 := textFrom_le (PyData.shownAll ds) 0 "["
    have h2 : (("[" : String) : Str).length = 1 := rfl
    have h3 : (("]" : String) : Str).length = 1 := rfl
    have h4 := h.len
    omega
theorem Sz.tuple {k n : Nat} {ds : List PyData} (h : SzL k n ds) : Sz (k + 1) (n + 3) (.tuple ds) := by
  refine ⟨h.sh, ?_, ?_⟩
  · show PyData.depthAll ds + 1 ≤ k + 1
    have := h.dp
    omega
  · show (tupleText (PyData.shownAll ds)).length ≤ _
    have h1 := tupleText_le (PyData.shownAll ds)
    have h4 := h.len
    omega
theorem Sz.str {y : Str} (h : Plain y) : Sz 0 (10 * y.length + 2) (.str y) := ⟨rfl, Nat.le_refl _, (Sm.str h).len⟩
theorem Sz.bool (b : Bool) : Sz 0 5 (.bool b) := ⟨rfl, Nat.le_refl _, (Sm.bool b).len⟩
theorem Sz.non : Sz 0 4 .none := ⟨rfl, Nat.le_refl _, by decide +kernel⟩
theorem SzL.all {k m : Nat} {α : Type} {f : α → PyData} : ∀ {xs : List α}, (∀ x ∈ xs, Sz k m (f x)) → SzL k ((m + 2) * xs.length) (xs.map f)
  | [], _ => ⟨rfl, Nat.zero_le _, Nat.zero_le _⟩
  | x :: xs, h => by
    have r := SzL.cons (h x List.mem_cons_self) (SzL.all (xs := xs) fun y hy => h y (List.mem_cons_of_mem _ hy))
    refine r.mono (Nat.le_refl _) ?_
    rw [List.length_cons, Nat.mul_succ]
    omega
/-- a picked value of some kind -/
structure Odv (H : Hp) (p : Addr) (v : V) (d : PyData) : Prop where
  dr : Dr H p v d
  short : Short v
  sz : Sz 3 1000 d
theorem Odv.bx {H H' : Hp} {p : Addr} {v : V} {d : PyData} (h : Odv H p v d) (b : ByX p H H') : Odv H' p v d := ⟨h.dr.bx b, h.short, h.sz⟩
theorem odv_non {H : Hp} {p : Addr} : Odv H p .non .none := ⟨.non, (fun _ e => by cases e), Sz.non.mono (by decide) (by decide)⟩
theorem odv_bl {H : Hp} {p : Addr} (b : Bool) : Odv H p (.bl b) (.bool b) := ⟨.bl b, (fun _ e => by cases e), (Sz.bool b).mono (by decide) (by decide)⟩
theorem odv_str {H : Hp} {p : Addr} {z : Str} (h : Plain z) (l : z.length ≤ 90) : Odv H p (.str z) (.str z) := ⟨.str z, (fun _ e => by cases e; exact Nat.le_trans l (by decide)), (Sz.str h).mono (by decide) (by omega)⟩
theorem odv_ref {H : Hp} {p a : Addr} {d : PyData} (h : Dr H p (.ref a) d) (s : Sz 3 1000 d) : Odv H p (.ref a) d := ⟨h, (fun _ e => by cases e), s⟩
end FL
namespace K50
open PySem PySem.Spec PyProof.Rows L2 FL
abbrev sText : Stmt := topS 36
abbrev sAlpha : Stmt := topS 37
abbrev nText : List Str := ["_law_pot_here", "_law_alphabet_here", "_law_least", "_law_top", "_law_turn"]
abbrev tx (s : String) : V := .str (Str.ofString s)
def alphaL : List Str := [Str.ofString "->a", Str.ofString "ab", Str.ofString ".|", Str.ofString "-.=|", Str.ofString "019z", Str.ofString "=>"]
def spText : Sp := fun vs H Q _ => ∃ (p : Addr) (z : Str) (lo hi : Nat), vs = [.ref p, .str z, .int (lo : Nat), .int (hi : Nat)] ∧ PotAt H p ∧ 0 < z.length ∧ z.length ≤ 1000 ∧ lo ≤ hi ∧ hi ≤ 100 ∧
  ∀ (y : Str) (H' : Hp), Over z y → lo ≤ y.length → y.length ≤ hi → PotAt H' p → But p H H' → Q (.str y) H'
section
variable {P : Program} {w : World} {K : PySem.W.Frag} {mg : Str → Option Value} {base : Heap}
theorem scText : FnScope nText ["_law_pot_here", "_law_alphabet_here", "_law_least", "_law_top"] (defScope sText) := ⟨rfl, rfl, rfl, by decide +kernel, rfl, by decide +kernel, by decide +kernel⟩
theorem ok_text {f : Addr} {fd : FuncData} (F : Fun K "_law_text" "_law_text" sText f fd) (cD : Ca P w K mg base "_law_draw" 1 ["_law_pot_here", "_law_top"] spDraw) (cP : Ca P w K mg base "_law_pick" 2 ["_law_pot_here", "_law_some"] (spPick K))
    (mR : mg "range" = none) : FnOk P w K mg base CX0 3 f fd ["_law_pot_here", "_law_alphabet_here", "_law_least", "_law_top"] spText := by
  refine F.ok scText (fun vs H Q E h => ?_) (fun cdv A outer s H vs Q E hr h => ?_)
  · obtain ⟨_, _, _, _, rfl, _⟩ := h
    rfl
  · obtain ⟨p, z, lo, hi, rfl, hp, z0, z1, lh, h1, k⟩ := h
    refine ⟨_, pss_one (ps_ret (pe_join pe_str (pe_lc (own := [("_law_turn", 4)]) (g := gName 4) (tt := tYes) rfl scText.nd
        (pi_range1 (by rfl) mR (pa_cons (pe_op op_add (pv 2) (pe_ca cD (hr.mono (by decide)) (by rfl) (pa_cons (pv 0) (pa_cons (pe_op op_add (pe_op op_sub (pv 3) (pv 2)) pe_int) pa_nil)))) pa_nil))
        (blkOk_by (N := nText) (sc := defScope sText) (by decide +kernel))
        (fun _ _ _ _ _ => pg_name (i := 4) scText.nd rfl (Or.inl rfl)) (fun _ _ _ _ _ => pts_nil)
        (fun _ _ _ _ _ => pe_ca cP hr (by rfl) (pa_cons (pv 0) (pa_cons (pv 1) pa_nil)))))), ?_⟩
    refine ⟨⟨_, rfl⟩, _, rfl, _, rfl, _, rfl, _, rfl, _, _, rfl, rfl, _, _, rfl, rfl, p, (hi : Int) - lo + 1, rfl, hp, by omega, by omega, fun d H1 d0 d1 hp1 b1 => ?_⟩
    refine ⟨_, _, rfl, rfl, (lo : Int) + d, rfl, by omega, by omega, fun D hD => ?_⟩
    have npD : p ≠ D := hp1.ne hD
    refine lc_range (lo := 0) (n := ((lo : Int) + d).toNat) (fun i Hi => PotAt Hi p ∧ But p H1 Hi ∧ ∃ cs : List Nat, Hi D = some (.lst (cs.map sign)) ∧ cs.length = i ∧ ∀ c ∈ cs, c ∈ z.cps.toList) ?_ ?_ ?_
    · exact ⟨hp1.upd npD, (But.refl p H1).upd hD, [], upd_same, rfl, fun _ h => nomatch h⟩
    · rintro i Hi hi' ⟨hpi, bi, cs, hDi, hl, hc⟩
      refine ⟨rfl, ?_⟩
      refine ⟨_, rfl, _, rfl, p, _, rfl, hpi, .inr ⟨z, rfl, z0, z1, fun c H2 cz hp2 b2 => ?_⟩⟩
      refine ⟨cs.map sign, b2 D _ hDi (Ne.symm npD), ?_, hp2.upd npD, fun a o e na => ?_, cs ++ [c], ?_, ?_, ?_⟩
      · rw [List.length_map, hl]
        exact Nat.lt_of_lt_of_le (show i < 2000 by omega) (by decide)
      · rw [upd_ne (ne_of_none e hD)]
        exact b2 a o (bi a o e na) na
      · rw [upd_same, List.map_append]
        rfl
      · rw [List.length_append, hl]
        rfl
      · intro c' hc'
        rcases List.mem_append.mp hc' with h | h
        · exact hc c' h
        · rw [List.mem_singleton.mp h]
          exact cz
    · rintro Hi ⟨hpi, bi, cs, hDi, hl, hc⟩
      have e1 : cs.map sign = (cs.map fun c => (⟨#[c]⟩ : Str)).map V.str := by
        rw [List.map_map]
        rfl
      rw [e1] at hDi
      refine ⟨Str.ofString "", D, cs.map fun c => (⟨#[c]⟩ : Str), rfl, rfl, .inl (SqL.of hDi), ?_, ?_⟩
      · have e2 : ((cs.map fun c => (⟨#[c]⟩ : Str)).map (·.length)).sum = cs.length := by
          rw [List.map_map]
          clear hDi hl hc e1
          induction cs with
          | nil => rfl
          | cons c cs ih =>
            rw [List.map_cons, List.sum_cons, ih, List.length_cons, Nat.add_comm]
            rfl
        have e3 : (Str.ofString "").length = 0 := by decide +kernel
        rw [e2, e3, hl]
        omega
      · rw [join_signs]
        have el : (⟨cs.toArray⟩ : Str).length = cs.length := by
          show cs.toArray.size = _
          rw [List.size_toArray]
        refine k _ Hi (fun c h => hc c (by simpa using h)) ?_ ?_ hpi (b1.trans bi)
        · rw [el]
          omega
        · rw [el]
          omega
end
theorem alpha_ok : ∀ z ∈ alphaL, signsB (.str z) = true ∧ 2 ≤ z.length ∧ z.length ≤ 4 ∧ (∀ c ∈ z.cps.toList, c < 128) ∧ 35 ∉ z.cps.toList ∧ 32 ∉ z.cps.toList := by decide +kernel
theorem alpha_bad : ∀ s ∈ [Str.ofString "", Str.ofString "a", Str.ofString "ba", Str.ofString "aa", Str.ofString "0123a", Str.ofString "a b", Str.ofString "A-", Str.ofString "-_", Str.ofString "ab<"], signsB (.str s) = false ∧ (∀ c ∈ s.cps.toList, c < 128) ∧ s.length ≤ 90 := by decide +kernel
abbrev listA (L1 T1 D1 : Addr) : List V := [.non, .int 5, .bl true, tx "", tx "a", tx "ba", tx "aa", tx "0123a", tx "a b", tx "A-", tx "-_", tx "ab<", .ref L1, .ref T1, .ref D1, .int ((10 : Int) ^ (29 : Int).toNat)]
theorem ref_short {a : Addr} : Short (.ref a) := fun _ e => by cases e
theorem int_short {i : Int} : Short (.int i) := fun _ e => by cases e
theorem odv_int {H : Hp} {p : Addr} {i : Int} (h : Sz 3 1000 (.int i)) : Odv H p (.int i) (.int i) := ⟨.int i, int_short, h⟩
theorem alpha_odd {H : Hp} {p L1 T1 D1 : Addr} {v : V} (n1 : L1 ≠ p) (e1 : H L1 = some (.lst [tx "-", tx "a"])) (n2 : T1 ≠ p) (e2 : H T1 = some (.tup [tx "a", tx "b"])) (n3 : D1 ≠ p) (e3 : H D1 = some (.dK [])) (hv : v ∈ listA L1 T1 D1) : ∃ d, Odv H p v d ∧ signsB v = false := by
  have st : ∀ s ∈ [Str.ofString "", Str.ofString "a", Str.ofString "ba", Str.ofString "aa", Str.ofString "0123a", Str.ofString "a b", Str.ofString "A-", Str.ofString "-_", Str.ofString "ab<"], ∃ d, Odv H p (.str s) d ∧ signsB (.str s) = false := fun s hs =>
    ⟨_, odv_str (alpha_bad s hs).2.1 (alpha_bad s hs).2.2, (alpha_bad s hs).1⟩
  simp only [List.mem_cons, List.mem_nil_iff, or_false] at hv
  rcases hv with rfl | rfl | rfl | rfl | rfl | rfl | rfl | rfl | rfl | rfl | rfl | rfl | rfl | rfl | rfl | rfl
  · exact ⟨_, odv_non, rfl⟩
  · exact ⟨_, odv_int ⟨by decide +kernel, by decide +kernel, by decide +kernel⟩, rfl⟩
  · exact ⟨_, odv_bl true, rfl⟩
  · exact st _ (by simp)
  · exact st _ (by simp)
  · exact st _ (by simp)
  · exact st _ (by simp)
  · exact st _ (by simp)
  · exact st _ (by simp)
  · exact st _ (by simp)
  · exact st _ (by simp)
  · exact st _ (by simp)
  · exact ⟨_, odv_ref (.lst n1 e1 (DrAll.strs [_, _])) ⟨by decide +kernel, by decide +kernel, by decide +kernel⟩, rfl⟩
  · exact ⟨_, odv_ref (.tup n2 e2 (DrAll.strs [_, _])) ⟨by decide +kernel, by decide +kernel, by decide +kernel⟩, rfl⟩
  · exact ⟨_, odv_ref (.dct (es := []) n3 e3 rfl .nil) ⟨by decide +kernel, by decide +kernel, by decide +kernel⟩, rfl⟩
  · exact ⟨_, odv_int ⟨by decide +kernel, by decide +kernel, by decide +kernel⟩, rfl⟩
/-- (value, whether it is right) -/
def AlphaAt (H : Hp) (p t : Addr) (v : V) (g : Bool) (d : PyData) : Prop := t ≠ p ∧ H t = some (.tup [v, .bl g]) ∧ Odv H p v d ∧ (g = false → signsB v = false) ∧ (g = true → ∃ z ∈ alphaL, v = .str z)
theorem AlphaAt.bx {H H' : Hp} {p t : Addr} {v : V} {g : Bool} {d : PyData} (h : AlphaAt H p t v g d) (b : ByX p H H') : AlphaAt H' p t v g d := ⟨h.1, b _ _ h.2.1 h.1 not_tbl_t, h.2.2.1.bx b, h.2.2.2⟩
def spAlpha : Sp := fun vs H Q _ => ∃ p, vs = [.ref p] ∧ PotAt H p ∧ ∀ (t : Addr) (v : V) (g : Bool) (d : PyData) (H' : Hp), PotAt H' p → But p H H' → AlphaAt H' p t v g d → Q (.ref t) H'
theorem pot_same {H H' : Hp} {p : Addr} (s : Same H H') (hp : PotAt H p) : PotAt H' p := by
  obtain ⟨a, b, e, r⟩ := hp
  exact ⟨a, b, s _ _ e, r⟩
theorem fresh1 {H : Hp} {p a : Addr} (o : HO) (hp : PotAt H p) (ha : H a = none) : Same H (upd H a o) ∧ PotAt (upd H a o) p ∧ upd H a o a = some o ∧ a ≠ p := by
  have s : Same H (upd H a o) := (Same.refl H).upd ha
  exact ⟨s, pot_same s hp, upd_same, Ne.symm (hp.ne ha)⟩
theorem but_same {p : Addr} {H H' : Hp} (s : Same H H') : But p H H' := fun c o e _ => s c o e
section
variable {P : Program} {w : World} {K : PySem.W.Frag} {mg : Str → Option Value} {base : Heap}
theorem scAlpha : FnScope ["_law_pot_here", "_law_odd"] ["_law_pot_here"] (defScope sAlpha) := ⟨rfl, rfl, rfl, by decide +kernel, rfl, by decide +kernel, by decide +kernel⟩
theorem ok_alpha {f : Addr} {fd : FuncData} (F : Fun K "_law_alphabet" "_law_alphabet" sAlpha f fd) (cD : Ca P w K mg base "_law_draw" 1 ["_law_pot_here", "_law_top"] spDraw) (cP : Ca P w K mg base "_law_pick" 2 ["_law_pot_here", "_law_some"] (spPick K)) :
    FnOk P w K mg base CX0 3 f fd ["_law_pot_here"] spAlpha := by
  refine F.ok scAlpha (fun vs H Q E h => ?_) (fun cdv A outer s H vs Q E hr h => ?_)
  · obtain ⟨_, rfl, _⟩ := h
    rfl
  · obtain ⟨p, rfl, hp, k⟩ := h
    have nd := scAlpha.nd
    refine ⟨_, pss_cons (ps_set (i := 1) nd rfl (.inl rfl) (pe_lst (pa_cons pe_non (pa_cons pe_int (pa_cons pe_bl (pa_cons pe_str (pa_cons pe_str (pa_cons pe_str (pa_cons pe_str (pa_cons pe_str (pa_cons pe_str (pa_cons pe_str (pa_cons pe_str (pa_cons pe_str
        (pa_cons (pe_lst (pa_cons pe_str (pa_cons pe_str pa_nil))) (pa_cons (pe_tup (pa_cons pe_str (pa_cons pe_str pa_nil))) (pa_cons pe_dnewK (pa_cons (pe_op op_pow pe_int pe_int) pa_nil))))))))))))))))))
      (C8.pss_cut (ps_if (pt_cmpR op_eq (pe_ca cD (hr.mono (by decide)) (by rfl) (pa_cons (pv 0) (pa_cons pe_int pa_nil))) pe_int (nomark _))
        (pss_one (ps_ret (pe_tup (pa_cons (pe_ca cP hr (by rfl) (pa_cons (pv 0) (pa_cons (pv 1) pa_nil))) (pa_cons pe_bl pa_nil))))) pss_nil)
      (pss_one (ps_ret (pe_tup (pa_cons (pe_ca cP hr (by rfl) (pa_cons (pv 0) (pa_cons (pe_lst (pa_cons pe_str (pa_cons pe_str (pa_cons pe_str (pa_cons pe_str (pa_cons pe_str (pa_cons pe_str pa_nil))))))) pa_nil))) (pa_cons pe_bl pa_nil)))))), ?_⟩
    refine ⟨(by show 2 ≤ sizeLine; decide), fun a1 h1 => ?_⟩
    obtain ⟨s1, p1, g1, n1⟩ := fresh1 (.lst [tx "-", tx "a"]) hp h1
    generalize upd H a1 (.lst [tx "-", tx "a"]) = H1 at s1 g1 p1 ⊢
    refine ⟨(by show 2 ≤ sizeLine; decide), fun a2 h2 => ?_⟩
    obtain ⟨s2, p2, g2, n2⟩ := fresh1 (.tup [tx "a", tx "b"]) p1 h2
    replace g1 := s2 _ _ g1
    generalize upd H1 a2 (.tup [tx "a", tx "b"]) = H2 at s2 g1 g2 p2 ⊢
    intro a3 h3
    obtain ⟨s3, p3, g3, n3⟩ := fresh1 (.dK []) p2 h3
    replace g1 := s3 _ _ g1
    replace g2 := s3 _ _ g2
    generalize upd H2 a3 (.dK []) = H3 at s3 g1 g2 g3 p3 ⊢
    refine ⟨_, _, rfl, rfl, ⟨by decide, by decide, by decide⟩, ?_⟩
    refine ⟨(by show 16 ≤ sizeLine; decide), fun a4 h4 => ?_⟩
    obtain ⟨s4, p4, g4, n4⟩ := fresh1 (.lst (listA a1 a2 a3)) p3 h4
    replace g1 := s4 _ _ g1
    replace g2 := s4 _ _ g2
    replace g3 := s4 _ _ g3
    have B4 : But p H (upd H3 a4 (.lst (listA a1 a2 a3))) := but_same (((s1.trans s2).trans s3).trans s4)
    generalize upd H3 a4 (.lst (listA a1 a2 a3)) = H4 at g1 g2 g3 g4 p4 B4 ⊢
    refine ⟨fun σ' H' => σ' = [some (.ref p), some (.ref a4)] ∧ PotAt H' p ∧ But p H4 H', ?_, ?_⟩
    · refine ⟨_, rfl, p, 7, rfl, p4, by decide, by decide, fun d H5 d0 d1 p5 b5 => ?_⟩
      refine ⟨rfl, _, rfl, ?_⟩
      refine ite2 (fun _ => ?_) (fun _ => ⟨rfl, p5, b5⟩)
      refine ⟨_, rfl, _, rfl, p, .ref a4, rfl, p5, .inl ⟨a4, _, rfl, n4, SqL.of (b5 _ _ g4 n4), (by show 0 < 16; decide), (by show 16 ≤ 1000; decide), fun v H6 hv p6 b6 => ?_⟩⟩
      obtain ⟨dv, ov, bad⟩ := alpha_odd (H := H6) (p := p) n1 (b6 _ _ (b5 _ _ g1 n1) n1) n2 (b6 _ _ (b5 _ _ g2 n2) n2) n3 (b6 _ _ (b5 _ _ g3 n3) n3) hv
      refine ⟨(by show 2 ≤ sizeLine; decide), fun t ht => ?_⟩
      obtain ⟨s7, p7, g7, n7⟩ := fresh1 (.tup [v, .bl false]) p6 ht
      exact k t v false dv _ p7 (((B4.trans b5).trans b6).trans (but_same s7)) ⟨n7, g7, ov.bx (.same s7), (fun _ => bad), fun q => by cases q⟩
    · rintro σ' H' ⟨rfl, p5, b5⟩
      refine ⟨_, rfl, (by show 6 ≤ sizeLine; decide), fun a5 h5 => ?_⟩
      obtain ⟨s6, p6, g6, n6⟩ := fresh1 (.lst (alphaL.map V.str)) p5 h5
      refine ⟨p, .ref a5, rfl, p6, .inl ⟨a5, _, rfl, n6, SqL.of g6, (by show 0 < 6; decide), (by show 6 ≤ 1000; decide), fun v H7 hv p7 b7 => ?_⟩⟩
      obtain ⟨z, hz, rfl⟩ := List.mem_map.mp hv
      obtain ⟨sz, l2, l4, pz, _⟩ := alpha_ok z hz
      refine ⟨(by show 2 ≤ sizeLine; decide), fun t ht => ?_⟩
      obtain ⟨s8, p8, g8, n8⟩ := fresh1 (.tup [.str z, .bl true]) p7 ht
      exact k t (.str z) true (.str z) _ p8 ((((B4.trans b5).trans (but_same s6)).trans b7).trans (but_same s8)) ⟨n8, g8, odv_str pz (by omega), (fun q => by cases q), fun _ => ⟨z, hz, rfl⟩⟩
end
end K50
namespace K50
open PySem PySem.Spec PyProof.Rows L2 FL
abbrev sOddT : Stmt := topS 38
abbrev sCare : Stmt := topS 40
theorem end_bad {z y e : Str} {c : Nat} (he : e.cps = #[c]) (h : c ∉ z.cps.toList) : lineB z (.str (y ++ e)) = false := by
  show decide (Txt.stripChars (y ++ e) z = Str.ofString "") = false
  apply decide_eq_false
  intro q
  have q2 := congrArg (fun s : Str => s.cps.toList.length) q
  unfold Txt.stripChars at q2
  rw [stripBy_eq] at q2
  have hcps : (y ++ e).cps = y.cps ++ #[c] := by
    show y.cps ++ e.cps = _
    rw [he]
  have hl : (y ++ e).cps.toList = y.cps.toList ++ [c] := by
    rw [hcps]
    simp
  have hsz : (y ++ e).cps.size = y.cps.size + 1 := by
    rw [hcps]
    simp
  have hc : z.cps.contains c = false := by
    rw [Bool.eq_false_iff]
    intro k
    exact h (Array.mem_def.mp (Array.contains_iff_mem.mp k))
  have lo : stripLo z.cps.contains true (y ++ e) ≤ y.cps.size := by
    unfold stripLo
    rw [if_pos rfl, hl, List.takeWhile_append]
    have h1 : (List.takeWhile z.cps.contains y.cps.toList).length ≤ y.cps.size := by
      have := (List.takeWhile_prefix (p := z.cps.contains) (l := y.cps.toList)).length_le
      simpa using this
    split
    · rw [List.takeWhile_cons, hc]
      simp
    · exact h1
  generalize stripLo z.cps.contains true (y ++ e) = n at lo q2
  have hi : stripHi z.cps.contains true (y ++ e) n = y.cps.size + 1 := by
    unfold stripHi
    rw [if_pos rfl, hl, List.drop_append_of_le_length (by simpa using lo), List.reverse_append]
    show (y ++ e).cps.size - (List.takeWhile z.cps.contains (c :: _)).length = _
    rw [List.takeWhile_cons, hc, hsz]
    rfl
  rw [hi] at q2
  have z0 : (Str.ofString "").cps.toList.length = 0 := by decide +kernel
  have q3 : ((y ++ e).cps.extract n (y.cps.size + 1)).toList.length = 0 := q2.trans z0
  rw [Array.length_toList, Array.size_extract, hsz] at q3
  omega
theorem bad_B : ∀ z ∈ alphaL, lineB z (.str (Str.ofString "B")) = false := by decide +kernel
theorem box_line {k : Nat} {z : Str} {v : V} (h : lineB z v = false) : boxB k z v = false := by
  unfold boxB
  rw [h]
  rfl
theorem box_long {k : Nat} {z y : Str} (h : k < y.length) : boxB k z (.str y) = false := by
  have e : lenB 1 k (.str y) = false := by
    show (decide (1 ≤ y.length) && decide (y.length ≤ k)) = false
    rw [decide_eq_false (show ¬ y.length ≤ k by omega), Bool.and_false]
  unfold boxB
  rw [e, Bool.and_false]
theorem box_empty {k : Nat} {z : Str} : boxB k z (.str (Str.ofString "")) = false := by
  have e : lenB 1 k (.str (Str.ofString "")) = false := by
    show (decide (1 ≤ (Str.ofString "").length) && decide ((Str.ofString "").length ≤ k)) = false
    rw [decide_eq_false (by decide +kernel)]
    rfl
  unfold boxB
  rw [e, Bool.and_false]
/-- the values that are no text of signs within the length -/
abbrev listT (c0 cl : Nat) (k : Nat) (L1 T1 D1 : Addr) : List V := [.non, .int 0, .bl true, tx "", tx "B", .str (⟨#[c0]⟩ ++ Str.ofString "#"), .str (repS ⟨#[c0]⟩ (k + 1)), .ref L1, .ref T1, .ref D1] ++
  [.int ((10 : Int) ^ (29 : Int).toNat), .str (repS ⟨#[cl]⟩ (k + 5)), .str (⟨#[c0]⟩ ++ Str.ofString " ")]
theorem plain_one {c : Nat} (h : c < 128) : Plain ⟨#[c]⟩ := fun d hd => by
  have : d = c := by simpa using hd
  rw [this]
  exact h
theorem plain_rep {c n : Nat} (h : c < 128) : Plain (repS ⟨#[c]⟩ n) := fun d hd => plain_one h d (repS_mem hd)
theorem rep_one (c n : Nat) : (repS ⟨#[c]⟩ n).length = n := by
  rw [repS_len]
  exact Nat.mul_one n
theorem plain_app {a b : Str} (h1 : Plain a) (h2 : Plain b) : Plain (a ++ b) := fun c hc => by
  rw [Str.cps_append, Array.toList_append] at hc
  exact (List.mem_append.mp hc).elim (h1 c) (h2 c)
theorem text_odd {H : Hp} {p L1 T1 D1 : Addr} {v : V} {z : Str} {c0 cl k : Nat} (hz : z ∈ alphaL) (h0 : c0 ∈ z.cps.toList) (hl : cl ∈ z.cps.toList) (k0 : k ≤ 12) (n1 : L1 ≠ p) (e1 : H L1 = some (.lst [.str ⟨#[c0]⟩])) (n2 : T1 ≠ p) (e2 : H T1 = some (.tup [.str ⟨#[c0]⟩])) (n3 : D1 ≠ p) (e3 : H D1 = some (.dK []))
    (hv : v ∈ listT c0 cl k L1 T1 D1) : ∃ d, Odv H p v d ∧ boxB k z v = false := by
  obtain ⟨_, _, _, pz, n35, n32⟩ := alpha_ok z hz
  have p0 := pz c0 h0
  have pl := pz cl hl
  have lone : (⟨#[c0]⟩ : Str).length = 1 := rfl
  have one : Sz 0 12 (.str ⟨#[c0]⟩) := (Sz.str (plain_one p0)).mono (by decide) (by rw [lone]; decide)
  have l1 : SzL 0 14 [.str ⟨#[c0]⟩] := SzL.cons one SzL.nil
  simp only [List.mem_append, List.mem_cons, List.mem_nil_iff, or_false, or_assoc] at hv
  rcases hv with rfl | rfl | rfl | rfl | rfl | rfl | rfl | rfl | rfl | rfl | rfl | rfl | rfl
  · exact ⟨_, odv_non, rfl⟩
  · exact ⟨_, odv_int ⟨by decide +kernel, by decide +kernel, by decide +kernel⟩, rfl⟩
  · exact ⟨_, odv_bl true, rfl⟩
  · exact ⟨_, odv_str (by unfold Plain; decide +kernel) (by decide +kernel), box_empty⟩
  · exact ⟨_, odv_str (by unfold Plain; decide +kernel) (by decide +kernel), box_line (bad_B z hz)⟩
  · exact ⟨_, odv_str (plain_app (plain_one p0) (by unfold Plain; decide +kernel)) (by rw [len_app, lone]; decide +kernel), box_line (end_bad (show (Str.ofString "#").cps = #[35] by decide +kernel) n35)⟩
  · exact ⟨_, odv_str (plain_rep p0) (by rw [rep_one]; omega), box_long (by rw [rep_one]; omega)⟩
  · exact ⟨_, odv_ref (.lst n1 e1 (DrAll.strs [_])) ((Sz.list l1).mono (by decide) (by decide)), rfl⟩
  · exact ⟨_, odv_ref (.tup n2 e2 (DrAll.strs [_])) ((Sz.tuple l1).mono (by decide) (by decide)), rfl⟩
  · exact ⟨_, odv_ref (.dct (es := []) n3 e3 rfl .nil) ⟨by decide +kernel, by decide +kernel, by decide +kernel⟩, rfl⟩
  · exact ⟨_, odv_int ⟨by decide +kernel, by decide +kernel, by decide +kernel⟩, rfl⟩
  · exact ⟨_, odv_str (plain_rep pl) (by rw [rep_one]; omega), box_long (by rw [rep_one]; omega)⟩
  · exact ⟨_, odv_str (plain_app (plain_one p0) (by unfold Plain; decide +kernel)) (by rw [len_app, lone]; decide +kernel), box_line (end_bad (show (Str.ofString " ").cps = #[32] by decide +kernel) n32)⟩
def spOddT : Sp := fun vs H Q _ => ∃ (p : Addr) (z : Str) (k : Nat), vs = [.ref p, .str z, .int (k : Nat)] ∧ PotAt H p ∧ z ∈ alphaL ∧ 3 ≤ k ∧ k ≤ 12 ∧
  ∀ (v : V) (d : PyData) (H' : Hp), PotAt H' p → But p H H' → Odv H' p v d → boxB k z v = false → Q v H'
theorem last_of {z : Str} (h : 2 ≤ z.length) : ∃ c0 cl, c0 ∈ z.cps.toList ∧ cl ∈ z.cps.toList ∧ atI z.cps.toList 0 = some c0 ∧ atI z.cps.toList (-1) = some cl := by
  obtain ⟨a, b, r, e⟩ := two_signs h
  obtain ⟨r', cl, e2⟩ : ∃ r' cl, z.cps.toList = r' ++ [cl] := ⟨_, _, (List.dropLast_concat_getLast (by rw [e]; exact fun q => nomatch q)).symm⟩
  refine ⟨a, cl, by rw [e]; exact List.mem_cons_self, by rw [e2]; exact List.mem_append_right _ List.mem_cons_self, by rw [e]; exact atI_0, by rw [e2]; exact atI_last _ _⟩
section
variable {P : Program} {w : World} {K : PySem.W.Frag} {mg : Str → Option Value} {base : Heap}
theorem scOddT : FnScope ["_law_pot_here", "_law_alphabet_here", "_law_top", "_law_odd"] ["_law_pot_here", "_law_alphabet_here", "_law_top"] (defScope sOddT) := ⟨rfl, rfl, rfl, by decide +kernel, rfl, by decide +kernel, by decide +kernel⟩
theorem ok_oddT {f : Addr} {fd : FuncData} (F : Fun K "_law_odd_text" "_law_odd_text" sOddT f fd) (cP : Ca P w K mg base "_law_pick" 2 ["_law_pot_here", "_law_some"] (spPick K)) :
    FnOk P w K mg base CX0 3 f fd ["_law_pot_here", "_law_alphabet_here", "_law_top"] spOddT := by
  refine F.ok scOddT (fun vs H Q E h => ?_) (fun cdv A outer s H vs Q E hr h => ?_)
  · obtain ⟨_, _, _, rfl, _⟩ := h
    rfl
  · obtain ⟨p, z, kk, rfl, hp, hz, k3, k12, k⟩ := h
    have nd := scOddT.nd
    have sz : sizeLine = 16777216 := rfl
    obtain ⟨_, z2, z4, _⟩ := alpha_ok z hz
    obtain ⟨c0, cl, m0, ml, a0, al⟩ := last_of z2
    have lz : z.length ≤ sizeLine := by rw [sz]; omega
    refine ⟨_, pss_cons (ps_set (i := 3) nd rfl (.inl rfl) (pe_lst (pa_cons pe_non (pa_cons pe_int (pa_cons pe_bl (pa_cons pe_str (pa_cons pe_str (pa_cons (pe_op op_add_str (pe_ix ix_str (pv 1) pe_int (fun _ _ => rfl)) pe_str)
        (pa_cons (pe_op op_mul_str (pe_ix ix_str (pv 1) pe_int (fun _ _ => rfl)) (pe_op op_add (pv 2) pe_int)) (pa_cons (pe_lst (pa_cons (pe_ix ix_str (pv 1) pe_int (fun _ _ => rfl)) pa_nil)) (pa_cons (pe_tup (pa_cons (pe_ix ix_str (pv 1) pe_int (fun _ _ => rfl)) pa_nil)) (pa_cons pe_dnewK pa_nil))))))))))))
      (pss_one (ps_ret (pe_ca cP hr (by rfl) (pa_cons (pv 0) (pa_cons (pe_op op_cat (pv 3) (pe_lst (pa_cons (pe_op op_pow pe_int pe_int) (pa_cons (pe_op op_mul_str (pe_ix ix_str (pv 1) (pe_un un_neg pe_int) (fun _ _ => rfl)) (pe_op op_add (pv 2) pe_int))
        (pa_cons (pe_op op_add_str (pe_ix ix_str (pv 1) pe_int (fun _ _ => rfl)) pe_str) pa_nil))))) pa_nil))))), ?_⟩
    refine ⟨_, rfl, z, 0, c0, rfl, rfl, lz, a0, _, _, rfl, rfl, (by rw [len_one, sz]; decide +kernel), ?_⟩
    refine ⟨_, rfl, z, 0, c0, rfl, rfl, lz, a0, _, rfl, _, _, rfl, rfl, _, _, rfl, rfl, (by omega), (by omega), (by rw [len_one]; decide), (by rw [len_one]; decide), ?_⟩
    refine ⟨_, rfl, z, 0, c0, rfl, rfl, lz, a0, (by show 1 ≤ sizeLine; decide), fun a1 h1 => ?_⟩
    obtain ⟨s1, p1, g1, n1⟩ := fresh1 (.lst [.str ⟨#[c0]⟩]) hp h1
    generalize upd H a1 (.lst [.str ⟨#[c0]⟩]) = H1 at s1 g1 p1 ⊢
    refine ⟨_, rfl, z, 0, c0, rfl, rfl, lz, a0, (by show 1 ≤ sizeLine; decide), fun a2 h2 => ?_⟩
    obtain ⟨s2, p2, g2, n2⟩ := fresh1 (.tup [.str ⟨#[c0]⟩]) p1 h2
    replace g1 := s2 _ _ g1
    generalize upd H1 a2 (.tup [.str ⟨#[c0]⟩]) = H2 at s2 g1 g2 p2 ⊢
    intro a3 h3
    obtain ⟨s3, p3, g3, n3⟩ := fresh1 (.dK []) p2 h3
    replace g1 := s3 _ _ g1
    replace g2 := s3 _ _ g2
    generalize upd H2 a3 (.dK []) = H3 at s3 g1 g2 g3 p3 ⊢
    rw [show (((kk : Nat) : Int) + 1).toNat = kk + 1 by omega]
    refine ⟨(by show 10 ≤ sizeLine; decide), fun a4 h4 => ?_⟩
    obtain ⟨s4, p4, g4, n4⟩ := fresh1 (.lst [.non, .int 0, .bl true, tx "", tx "B", .str (⟨#[c0]⟩ ++ Str.ofString "#"), .str (repS ⟨#[c0]⟩ (kk + 1)), .ref a1, .ref a2, .ref a3]) p3 h4
    replace g1 := s4 _ _ g1
    replace g2 := s4 _ _ g2
    replace g3 := s4 _ _ g3
    generalize upd H3 a4 (.lst [.non, .int 0, .bl true, tx "", tx "B", .str (⟨#[c0]⟩ ++ Str.ofString "#"), .str (repS ⟨#[c0]⟩ (kk + 1)), .ref a1, .ref a2, .ref a3]) = H4 at s4 g1 g2 g3 g4 p4 ⊢
    refine ⟨_, rfl, _, rfl, _, _, rfl, rfl, ⟨by decide, by decide, by decide⟩, ?_⟩
    refine ⟨_, rfl, 1, rfl, z, -1, cl, rfl, rfl, lz, al, _, rfl, _, _, rfl, rfl, _, _, rfl, rfl, (by omega), (by omega), (by rw [len_one]; decide), (by rw [len_one]; decide), ?_⟩
    refine ⟨_, rfl, z, 0, c0, rfl, rfl, lz, a0, _, _, rfl, rfl, (by rw [len_one, sz]; decide +kernel), ?_⟩
    rw [show (((kk : Nat) : Int) + 5).toNat = kk + 5 by omega]
    refine ⟨(by show 3 ≤ sizeLine; decide), fun a5 h5 => ?_⟩
    obtain ⟨s5, p5, g5, n5⟩ := fresh1 (.lst [.int ((10 : Int) ^ (29 : Int).toNat), .str (repS ⟨#[cl]⟩ (kk + 5)), .str (⟨#[c0]⟩ ++ Str.ofString " ")]) p4 h5
    replace g1 := s5 _ _ g1
    replace g2 := s5 _ _ g2
    replace g3 := s5 _ _ g3
    replace g4 := s5 _ _ g4
    refine ⟨a4, a5, _, _, rfl, rfl, g4, g5, (by show 13 ≤ sizeLine; decide), fun a6 h6 => ?_⟩
    obtain ⟨s6, p6, g6, n6⟩ := fresh1 (.lst (listT c0 cl kk a1 a2 a3)) p5 h6
    replace g1 := s6 _ _ g1
    replace g2 := s6 _ _ g2
    replace g3 := s6 _ _ g3
    refine ⟨p, .ref a6, rfl, p6, .inl ⟨a6, _, rfl, n6, SqL.of g6, (by show 0 < 13; decide), (by show 13 ≤ 1000; decide), fun v H7 hv p7 b7 => ?_⟩⟩
    obtain ⟨d, ov, bad⟩ := text_odd (H := H7) (p := p) hz m0 ml k12 n1 (b7 _ _ g1 n1) n2 (b7 _ _ g2 n2) n3 (b7 _ _ g3 n3) hv
    exact k v d H7 p7 ((but_same (((((s1.trans s2).trans s3).trans s4).trans s5).trans s6)).trans b7) ov bad
end
end K50
namespace K50
open PySem PySem.Spec PyProof.Rows L2 FL
/-- flat data with a footprint -/
inductive De (H : Hp) (p : Addr) : V → PyData → Prop
  | non : De H p .non .none
  | bl (b : Bool) : De H p (.bl b) (.bool b)
  | int (i : Int) : De H p (.int i) (.int i)
  | str (x : Str) : De H p (.str x) (.str x)
  | lst {a : Addr} {xs : List Str} : a ≠ p → H a = some (.lst (xs.map V.str)) → De H p (.ref a) (.list (xs.map PyData.str))
  | tup {a : Addr} {xs : List Str} : a ≠ p → H a = some (.tup (xs.map V.str)) → De H p (.ref a) (.tuple (xs.map PyData.str))
  | dct {a : Addr} : a ≠ p → H a = some (.dK []) → De H p (.ref a) (.dict [])
theorem De.dr {H : Hp} {p : Addr} {v : V} {d : PyData} (h : De H p v d) : Dr H p v d := by
  cases h with
  | non => exact .non
  | bl b => exact .bl b
  | int i => exact .int i
  | str x => exact .str x
  | lst n e => exact .lst n e (DrAll.strs _)
  | tup n e => exact .tup n e (DrAll.strs _)
  | dct n e => exact .dct n e rfl .nil
theorem De.bx {H H' : Hp} {p : Addr} {v : V} {d : PyData} (h : De H p v d) (b : ByX p H H') : De H' p v d := by
  cases h with
  | non => exact .non
  | bl b => exact .bl b
  | int i => exact .int i
  | str x => exact .str x
  | lst n e => exact .lst n (b _ _ e n not_tbl_l)
  | tup n e => exact .tup n (b _ _ e n not_tbl_t)
  | dct n e => exact .dct n (b _ _ e n not_tbl_d)
theorem De.put {H : Hp} {p D : Addr} {v : V} {d : PyData} {o : HO} (h : De H p v d) (nv : v ≠ .ref D) : De (upd H D o) p v d := by
  have ne : ∀ {a : Addr}, v = .ref a → a ≠ D := fun e q => nv (by rw [e, q])
  cases h with
  | non => exact .non
  | bl b => exact .bl b
  | int i => exact .int i
  | str x => exact .str x
  | lst n e => exact .lst n (by rw [upd_ne (ne rfl)]; exact e)
  | tup n e => exact .tup n (by rw [upd_ne (ne rfl)]; exact e)
  | dct n e => exact .dct n (by rw [upd_ne (ne rfl)]; exact e)
structure Ode (H : Hp) (p : Addr) (v : V) (d : PyData) : Prop where
  de : De H p v d
  short : Short v
  sz : Sz 3 1000 d
theorem Ode.odv {H : Hp} {p : Addr} {v : V} {d : PyData} (h : Ode H p v d) : Odv H p v d := ⟨h.de.dr, h.short, h.sz⟩
theorem Ode.bx {H H' : Hp} {p : Addr} {v : V} {d : PyData} (h : Ode H p v d) (b : ByX p H H') : Ode H' p v d := ⟨h.de.bx b, h.short, h.sz⟩
theorem Ode.put {H : Hp} {p D : Addr} {v : V} {d : PyData} {o : HO} (h : Ode H p v d) (nv : v ≠ .ref D) : Ode (upd H D o) p v d := ⟨h.de.put nv, h.short, h.sz⟩
theorem ode_non {H : Hp} {p : Addr} : Ode H p .non .none := ⟨.non, (fun _ e => by cases e), Sz.non.mono (by decide) (by decide)⟩
theorem ode_bl {H : Hp} {p : Addr} (b : Bool) : Ode H p (.bl b) (.bool b) := ⟨.bl b, (fun _ e => by cases e), (Sz.bool b).mono (by decide) (by decide)⟩
theorem ode_int {H : Hp} {p : Addr} {i : Int} (h : Sz 3 1000 (.int i)) : Ode H p (.int i) (.int i) := ⟨.int i, int_short, h⟩
theorem ode_str {H : Hp} {p : Addr} {z : Str} (h : Plain z) (l : z.length ≤ 90) : Ode H p (.str z) (.str z) := ⟨.str z, (odv_str (H := H) (p := p) h l).short, (odv_str (H := H) (p := p) h l).sz⟩
theorem ode_ref {H : Hp} {p a : Addr} {d : PyData} (h : De H p (.ref a) d) (s : Sz 3 1000 d) : Ode H p (.ref a) d := ⟨h, ref_short, s⟩
def careT (v : V) : Bool := alphaL.all fun z => careNs.all fun nm => careB z nm v == false
theorem careT_ok {v : V} (h : careT v = true) : ∀ z ∈ alphaL, ∀ nm ∈ careNs, careB z nm v = false := fun z hz nm hn => by
  have h1 := List.all_eq_true.mp (List.all_eq_true.mp h z hz) nm hn
  exact beq_iff_eq.mp h1
abbrev listC (L1 T1 D1 : Addr) : List V := [.non, .bl true, .bl false, .int 0, tx "", tx "Whole", tx "inner ", tx "refus", tx "inside", .ref L1, .ref T1, .ref D1, tx "wholes"]
theorem care_strs : ∀ s ∈ [Str.ofString "", Str.ofString "Whole", Str.ofString "inner ", Str.ofString "refus", Str.ofString "inside", Str.ofString "wholes"], careT (.str s) = true ∧ (∀ c ∈ s.cps.toList, c < 128) ∧ s.length ≤ 90 := by decide +kernel
theorem care_odd {H : Hp} {p L1 T1 D1 : Addr} {v : V} (n1 : L1 ≠ p) (e1 : H L1 = some (.lst [tx "whole"])) (n2 : T1 ≠ p) (e2 : H T1 = some (.tup [tx "inner"])) (n3 : D1 ≠ p) (e3 : H D1 = some (.dK [])) (hv : v ∈ listC L1 T1 D1) : ∃ d, Ode H p v d ∧ careT v = true := by
  have st : ∀ s ∈ [Str.ofString "", Str.ofString "Whole", Str.ofString "inner ", Str.ofString "refus", Str.ofString "inside", Str.ofString "wholes"], ∃ d, Ode H p (.str s) d ∧ careT (.str s) = true := fun s hs =>
    ⟨_, ode_str (care_strs s hs).2.1 (care_strs s hs).2.2, (care_strs s hs).1⟩
  simp only [List.mem_cons, List.mem_nil_iff, or_false] at hv
  rcases hv with rfl | rfl | rfl | rfl | rfl | rfl | rfl | rfl | rfl | rfl | rfl | rfl | rfl
  · exact ⟨_, ode_non, by decide +kernel⟩
  · exact ⟨_, ode_bl true, by decide +kernel⟩
  · exact ⟨_, ode_bl false, by decide +kernel⟩
  · exact ⟨_, ode_int ⟨by decide +kernel, by decide +kernel, by decide +kernel⟩, by decide +kernel⟩
  · exact st _ (by simp)
  · exact st _ (by simp)
  · exact st _ (by simp)
  · exact st _ (by simp)
  · exact st _ (by simp)
  · exact ⟨_, ode_ref (.lst (xs := [Str.ofString "whole"]) n1 e1) ⟨by decide +kernel, by decide +kernel, by decide +kernel⟩, by rfl⟩
  · exact ⟨_, ode_ref (.tup (xs := [Str.ofString "inner"]) n2 e2) ⟨by decide +kernel, by decide +kernel, by decide +kernel⟩, by rfl⟩
  · exact ⟨_, ode_ref (.dct n3 e3) ⟨by decide +kernel, by decide +kernel, by decide +kernel⟩, by rfl⟩
  · exact st _ (by simp)
/-- (value, whether it is right) of a care -/
def CareAt (H : Hp) (p t : Addr) (ws : List Str) (v : V) (g : Bool) (d : PyData) : Prop := t ≠ p ∧ H t = some (.tup [v, .bl g]) ∧ Ode H p v d ∧ (g = false → careT v = true) ∧ (g = true → ∃ x ∈ ws, v = .str x)
theorem CareAt.bx {H H' : Hp} {p t : Addr} {ws : List Str} {v : V} {g : Bool} {d : PyData} (h : CareAt H p t ws v g d) (b : ByX p H H') : CareAt H' p t ws v g d := ⟨h.1, b _ _ h.2.1 h.1 not_tbl_t, h.2.2.1.bx b, h.2.2.2⟩
theorem CareAt.put {H : Hp} {p D t : Addr} {ws : List Str} {v : V} {g : Bool} {d : PyData} {kvs : List (Key × V)} {o : HO} (h : CareAt H p t ws v g d) (hD : H D = some (.dK kvs)) (nv : v ≠ .ref D) : CareAt (upd H D o) p t ws v g d := by
  obtain ⟨h1, h2, h3, h4⟩ := h
  refine ⟨h1, ?_, h3.put nv, h4⟩
  rw [upd_ne fun q => by
    rw [q, hD] at h2
    cases h2]
  exact h2
def spCare : Sp := fun vs H Q _ => ∃ (p q : Addr) (ws : List Str), vs = [.ref p, .ref q] ∧ PotAt H p ∧ q ≠ p ∧ H q = some (.lst (ws.map V.str)) ∧ 1 ≤ ws.length ∧ ws.length ≤ 10 ∧ (∀ x ∈ ws, Plain x ∧ x.length ≤ 10) ∧
  ∀ (t : Addr) (v : V) (g : Bool) (d : PyData) (H' : Hp), PotAt H' p → But p H H' → CareAt H' p t ws v g d → (∀ a, v = .ref a → H a = none) → Q (.ref t) H'
section
variable {P : Program} {w : World} {K : PySem.W.Frag} {mg : Str → Option Value} {base : Heap}
theorem scCare : FnScope ["_law_pot_here", "_law_words", "_law_odd"] ["_law_pot_here", "_law_words"] (defScope sCare) := ⟨rfl, rfl, rfl, by decide +kernel, rfl, by decide +kernel, by decide +kernel⟩
theorem ok_care {f : Addr} {fd : FuncData} (F : Fun K "_law_care" "_law_care" sCare f fd) (cD : Ca P w K mg base "_law_draw" 1 ["_law_pot_here", "_law_top"] spDraw) (cP : Ca P w K mg base "_law_pick" 2 ["_law_pot_here", "_law_some"] (spPick K)) :
    FnOk P w K mg base CX0 3 f fd ["_law_pot_here", "_law_words"] spCare := by
  refine F.ok scCare (fun vs H Q E h => ?_) (fun cdv A outer s H vs Q E hr h => ?_)
  · obtain ⟨_, _, _, rfl, _⟩ := h
    rfl
  · obtain ⟨p, q, ws, rfl, hp, nq, hq, w1, w10, wp, k⟩ := h
    have nd := scCare.nd
    refine ⟨_, pss_cons (ps_set (i := 2) nd rfl (.inl rfl) (pe_lst (pa_cons pe_non (pa_cons pe_bl (pa_cons pe_bl (pa_cons pe_int (pa_cons pe_str (pa_cons pe_str (pa_cons pe_str (pa_cons pe_str (pa_cons pe_str
        (pa_cons (pe_lst (pa_cons pe_str pa_nil)) (pa_cons (pe_tup (pa_cons pe_str pa_nil)) (pa_cons pe_dnewK (pa_cons pe_str pa_nil)))))))))))))))
      (C8.pss_cut (ps_if (pt_cmpR op_eq (pe_ca cD (hr.mono (by decide)) (by rfl) (pa_cons (pv 0) (pa_cons pe_int pa_nil))) pe_int (nomark _))
        (pss_one (ps_ret (pe_tup (pa_cons (pe_ca cP hr (by rfl) (pa_cons (pv 0) (pa_cons (pv 2) pa_nil))) (pa_cons pe_bl pa_nil))))) pss_nil)
      (pss_one (ps_ret (pe_tup (pa_cons (pe_ca cP hr (by rfl) (pa_cons (pv 0) (pa_cons (pv 1) pa_nil))) (pa_cons pe_bl pa_nil)))))), ?_⟩
    refine ⟨(by show 1 ≤ sizeLine; decide), fun a1 h1 => ?_⟩
    obtain ⟨s1, p1, g1, n1⟩ := fresh1 (.lst [tx "whole"]) hp h1
    generalize upd H a1 (.lst [tx "whole"]) = H1 at s1 g1 p1 ⊢
    refine ⟨(by show 1 ≤ sizeLine; decide), fun a2 h2 => ?_⟩
    obtain ⟨s2, p2, g2, n2⟩ := fresh1 (.tup [tx "inner"]) p1 h2
    replace g1 := s2 _ _ g1
    generalize upd H1 a2 (.tup [tx "inner"]) = H2 at s2 g1 g2 p2 ⊢
    intro a3 h3
    obtain ⟨s3, p3, g3, n3⟩ := fresh1 (.dK []) p2 h3
    replace g1 := s3 _ _ g1
    replace g2 := s3 _ _ g2
    generalize upd H2 a3 (.dK []) = H3 at s3 g1 g2 g3 p3 ⊢
    refine ⟨(by show 13 ≤ sizeLine; decide), fun a4 h4 => ?_⟩
    obtain ⟨s4, p4, g4, n4⟩ := fresh1 (.lst (listC a1 a2 a3)) p3 h4
    replace g1 := s4 _ _ g1
    replace g2 := s4 _ _ g2
    replace g3 := s4 _ _ g3
    have B4 : But p H (upd H3 a4 (.lst (listC a1 a2 a3))) := but_same (((s1.trans s2).trans s3).trans s4)
    generalize upd H3 a4 (.lst (listC a1 a2 a3)) = H4 at g1 g2 g3 g4 p4 B4 ⊢
    refine ⟨fun σ' H' => σ' = [some (.ref p), some (.ref q), some (.ref a4)] ∧ PotAt H' p ∧ But p H4 H', ?_, ?_⟩
    · refine ⟨_, rfl, p, 9, rfl, p4, by decide, by decide, fun d H5 d0 d1 p5 b5 => ?_⟩
      refine ⟨rfl, _, rfl, ?_⟩
      refine ite2 (fun _ => ?_) (fun _ => ⟨rfl, p5, b5⟩)
      refine ⟨_, rfl, _, rfl, p, .ref a4, rfl, p5, .inl ⟨a4, _, rfl, n4, SqL.of (b5 _ _ g4 n4), (by show 0 < 13; decide), (by show 13 ≤ 1000; decide), fun v H6 hv p6 b6 => ?_⟩⟩
      obtain ⟨dv, ov, bad⟩ := care_odd (H := H6) (p := p) n1 (b6 _ _ (b5 _ _ g1 n1) n1) n2 (b6 _ _ (b5 _ _ g2 n2) n2) n3 (b6 _ _ (b5 _ _ g3 n3) n3) hv
      refine ⟨(by show 2 ≤ sizeLine; decide), fun t ht => ?_⟩
      obtain ⟨s7, p7, g7, n7⟩ := fresh1 (.tup [v, .bl false]) p6 ht
      exact k t v false dv _ p7 (((B4.trans b5).trans b6).trans (but_same s7)) ⟨n7, g7, ov.bx (.same s7), (fun _ => bad), fun q => by cases q⟩ (fun a ea => by
        rw [ea] at hv
        simp only [List.mem_cons, List.mem_nil_iff, or_false, reduceCtorEq, V.ref.injEq, false_or] at hv
        rcases hv with rfl | rfl | rfl
        · exact h1
        · exact s1.none h2
        · exact s1.none (s2.none h3))
    · rintro σ' H' ⟨rfl, p5, b5⟩
      have hq5 := b5 _ _ (B4 _ _ hq nq) nq
      refine ⟨_, rfl, _, rfl, p, .ref q, rfl, p5, .inl ⟨q, _, rfl, nq, SqL.of hq5, (by rw [List.length_map]; omega), (by rw [List.length_map]; omega), fun v H7 hv p7 b7 => ?_⟩⟩
      obtain ⟨x, hx, rfl⟩ := List.mem_map.mp hv
      obtain ⟨px, lx⟩ := wp x hx
      refine ⟨(by show 2 ≤ sizeLine; decide), fun t ht => ?_⟩
      obtain ⟨s8, p8, g8, n8⟩ := fresh1 (.tup [.str x, .bl true]) p7 ht
      exact k t (.str x) true (.str x) _ p8 (((B4.trans b5).trans b7).trans (but_same s8)) ⟨n8, g8, ode_str px (by omega), (fun q => by cases q), fun _ => ⟨x, hx, rfl⟩⟩ (fun a ea => by cases ea)
end
end K50
namespace K50
open PySem PySem.Spec PyProof.Rows L2 FL
abbrev sLab : Stmt := topS 39
abbrev nLab : List Str := ["_law_pot_here", "_law_alphabet_here", "_law_found", "_law_turn", "_law_fresh", "_law_near", "_law_way", "_law_at", "_law_spare", "_law_letter", "_law_label"]
def seqD : PyData → Bool
  | .list _ => true
  | .tuple _ => true
  | _ => false
theorem Dr.kind {H : Hp} {p : Addr} {v : V} {d : PyData} (h : Dr H p v d) : ∃ n, Any H v n ∧ isSeq n = seqD d := by
  cases h with
  | non => exact ⟨_, .non, rfl⟩
  | bl b => exact ⟨_, .bl b, rfl⟩
  | int i => exact ⟨_, .int i, rfl⟩
  | str z => exact ⟨_, .str z, rfl⟩
  | lst n e f => exact ⟨_, .lst e, rfl⟩
  | tup n e f => exact ⟨_, .tup e, rfl⟩
  | dct n e _ _ => exact ⟨_, .dct e, rfl⟩
theorem DrAll.get {H : Hp} {p : Addr} : ∀ {vs : List V} {ds : List PyData}, DrAll H p vs ds → ∀ x ∈ vs, ∃ d, Dr H p x d
  | _, _, .nil, _, h => nomatch h
  | _, _, .cons h1 h2, x, h => by
    rcases List.mem_cons.mp h with rfl | h
    · exact ⟨_, h1⟩
    · exact DrAll.get h2 x h
/-- the value that the law made of marks, and its place of the first wrong thing -/
def LabRes (H : Hp) (p : Addr) (z : Str) (m pos : V) (d : PyData) : Prop :=
  (pos = .int (-1) ∧ ∃ a b ms, m = .ref a ∧ a ≠ p ∧ H a = some (seqO b (ms.map V.str)) ∧ MarksOk z ms) ∨
  (seqD d = false ∧ pos = .non) ∨
  (∃ a b xs, m = .ref a ∧ a ≠ p ∧ H a = some (seqO b xs) ∧ (∀ x ∈ xs, Short x) ∧ xs.length ≤ 4 ∧
    (((xs.length = 0 ∨ 3 < xs.length) ∧ pos = .non) ∨ (1 ≤ xs.length ∧ xs.length ≤ 3 ∧ ∃ i, i < xs.length ∧ mkB z xs i = false ∧ (∀ j, j < i → mkB z xs j = true) ∧ pos = .int (i : Nat))))
def LabAt (H : Hp) (p t : Addr) (z : Str) (m pos : V) (d : PyData) : Prop := t ≠ p ∧ H t = some (.tup [m, pos]) ∧ Dr H p m d ∧ Short m ∧ Sz 4 5000 d ∧ LabRes H p z m pos d
theorem seq_tbl {b : Bool} {xs : List V} : ∀ ps, seqO b xs ≠ .tbl ps := fun ps z => by cases b <;> cases z
theorem LabAt.bx {H H' : Hp} {p t : Addr} {z : Str} {m pos : V} {d : PyData} (h : LabAt H p t z m pos d) (b : ByX p H H') : LabAt H' p t z m pos d := by
  obtain ⟨h1, h2, h3, h4, h5, h6⟩ := h
  refine ⟨h1, b _ _ h2 h1 not_tbl_t, h3.bx b, h4, h5, ?_⟩
  rcases h6 with ⟨e, a, c, ms, e2, na, ha, om⟩ | h | ⟨a, c, xs, e, na, ha, r⟩
  · exact .inl ⟨e, a, c, ms, e2, na, b _ _ ha na seq_tbl, om⟩
  · exact .inr (.inl h)
  · exact .inr (.inr ⟨a, c, xs, e, na, b _ _ ha na seq_tbl, r⟩)
theorem inV_strs {m : Str} : ∀ {ms : List Str}, m ∉ ms → inV (.str m) (ms.map V.str) = false
  | [], _ => rfl
  | x :: ms, h => by
    show (eqV (.str x) (.str m) || inV (.str m) (ms.map V.str)) = false
    rw [inV_strs fun q => h (List.mem_cons_of_mem _ q)]
    show ((x == m) || false) = false
    rw [Bool.or_false]
    exact beq_eq_false_iff_ne.mpr fun e => h (by rw [e]; exact List.mem_cons_self)
theorem inV_yes {m : Str} : ∀ {ms : List Str}, m ∈ ms → inV (.str m) (ms.map V.str) = true
  | x :: ms, h => by
    show (eqV (.str x) (.str m) || inV (.str m) (ms.map V.str)) = true
    rcases List.mem_cons.mp h with rfl | h
    · show ((m == m) || _) = true
      rw [beq_self_eq_true]
      rfl
    · rw [inV_yes h, Bool.or_true]
theorem box_ok {k : Nat} {z m : Str} (o : Over z m) (l1 : 1 ≤ m.length) (l2 : m.length ≤ k) : boxB k z (.str m) = true := by
  unfold boxB
  rw [over_line o]
  show (decide (1 ≤ m.length) && decide (m.length ≤ k)) = true
  rw [decide_eq_true l1, decide_eq_true l2]
  rfl
theorem mk_ok {z : Str} {ms : List Str} (om : ∀ m ∈ ms, Over z m ∧ 1 ≤ m.length ∧ m.length ≤ 12) (nd : ms.Nodup) {i : Nat} (hi : i < ms.length) : mkB z (ms.map V.str) i = true := by
  have e : (ms.map V.str)[i]? = some (.str ms[i]) := by rw [List.getElem?_map, List.getElem?_eq_getElem hi]; rfl
  obtain ⟨o, l1, l2⟩ := om ms[i] (List.getElem_mem hi)
  have ni : ms[i] ∉ ms.take i := fun q => by
    obtain ⟨j, hj, ej⟩ := List.getElem_of_mem q
    rw [List.length_take] at hj
    rw [List.getElem_take] at ej
    exact List.pairwise_iff_getElem.mp nd j i (by omega) hi (by omega) ej
  unfold mkB
  rw [e, ← List.map_take]
  show (boxB 12 z (.str ms[i]) && !inV (.str ms[i]) ((ms.take i).map V.str)) = true
  rw [box_ok o l1 l2, inV_strs ni]
  rfl
theorem mk_pre {z : Str} {xs ys : List V} {n j : Nat} (h : xs.take n = ys.take n) (hj : j < n) : mkB z xs j = mkB z ys j := by
  have e1 : xs[j]? = ys[j]? := by
    have := congrArg (fun l : List V => l[j]?) h
    simpa [List.getElem?_take, hj] using this
  have e2 : xs.take j = ys.take j := by
    have := congrArg (List.take j) h
    rwa [List.take_take, List.take_take, Nat.min_eq_left (by omega)] at this
  unfold mkB
  rw [e1, e2]
def MsOk (z : Str) (ms : List Str) : Prop := (∀ m ∈ ms, Over z m ∧ 1 ≤ m.length ∧ m.length ≤ 12) ∧ ms.Nodup
theorem MsOk.marks {z : Str} {ms : List Str} (h : MsOk z ms) (l1 : 1 ≤ ms.length) (l3 : ms.length ≤ 3) : MarksOk z ms := ⟨l1, l3, fun m hm => (h.1 m hm).1, fun m hm => (h.1 m hm).2.1, fun m hm => (h.1 m hm).2.2, h.2⟩
/-- the labels near a fresh one -/
def nearL (z y : Str) : List Str := y :: z.cps.toList.map fun c => y ++ ⟨#[c]⟩
theorem cutV_drop {xs : List V} {i : Nat} : cutV xs (some ((i : Nat) : Int)) none = xs.drop i := by
  show (xs.drop (HT.sIx xs.length 0 (some ((i : Nat) : Int)))).take (HT.sIx xs.length xs.length none - HT.sIx xs.length 0 (some ((i : Nat) : Int))) = xs.drop i
  rw [HT.sIx_nat, HT.sIx_none]
  by_cases h : i ≤ xs.length
  · rw [Nat.min_eq_left h]
    exact List.take_of_length_le (by rw [List.length_drop]; exact Nat.le_refl _)
  · rw [Nat.min_eq_right (by omega), List.drop_length, List.drop_eq_nil_of_le (by omega), List.take_nil]
theorem SzL.allL {k m : Nat} : ∀ {ds : List PyData}, (∀ d ∈ ds, Sz k m d) → SzL k ((m + 2) * ds.length) ds
  | [], _ => ⟨rfl, Nat.zero_le _, Nat.zero_le _⟩
  | d :: ds, h => by
    have r := SzL.cons (h d List.mem_cons_self) (SzL.allL (ds := ds) fun y hy => h y (List.mem_cons_of_mem _ hy))
    refine r.mono (Nat.le_refl _) ?_
    rw [List.length_cons, Nat.mul_succ]
    omega
/-- a list of few small things -/
theorem few_sz {ds : List PyData} (h : ∀ d ∈ ds, Sz 3 1000 d) (l : ds.length ≤ 4) : Sz 4 5000 (.list ds) ∧ Sz 4 5000 (.tuple ds) := by
  have a := SzL.allL h
  have b : (1000 + 2) * ds.length ≤ 4008 := by omega
  exact ⟨(Sz.list a).mono (Nat.le_refl _) (by omega), (Sz.tuple a).mono (Nat.le_refl _) (by omega)⟩
theorem pigeon {α : Type} {a b c : α} {ms : List α} (h1 : a ∈ ms) (h2 : b ∈ ms) (h3 : c ∈ ms) (n1 : a ≠ b) (n2 : a ≠ c) (n3 : b ≠ c) : 3 ≤ ms.length := by
  match ms, h1, h2, h3 with
  | [x], h1, h2, _ => exact absurd ((List.mem_singleton.mp h1).trans (List.mem_singleton.mp h2).symm) n1
  | [x, y], h1, h2, h3 =>
    simp only [List.mem_cons, List.mem_nil_iff, or_false] at h1 h2 h3
    rcases h1 with rfl | rfl <;> rcases h2 with rfl | rfl <;> rcases h3 with rfl | rfl <;> first | exact absurd rfl n1 | exact absurd rfl n2 | exact absurd rfl n3
  | _ :: _ :: _ :: _, _, _, _ => exact Nat.le_add_left 3 _
theorem near_free {z y : Str} {ms : List Str} (hz : 2 ≤ z.length) (nz : z.cps.toList.Nodup) (h2 : ms.length ≤ 2) : (nearL z y).filter (fun x => !inV (.str x) (ms.map V.str)) ≠ [] := by
  intro h0
  have all : ∀ x ∈ nearL z y, x ∈ ms := fun x hx => by
    have := List.filter_eq_nil_iff.mp h0 x hx
    cases e : inV (.str x) (ms.map V.str) with
    | true =>
      rcases Classical.em (x ∈ ms) with q | q
      · exact q
      · rw [inV_strs q] at e
        cases e
    | false =>
      rw [e] at this
      exact absurd rfl this
  obtain ⟨a, b, r, e⟩ := two_signs hz
  rw [e] at nz
  have nab : a ≠ b := fun q => by
    have := (List.nodup_cons.mp nz).1
    rw [q] at this
    exact this List.mem_cons_self
  have ln : ∀ c : Nat, y ≠ y ++ (⟨#[c]⟩ : Str) := fun c q => by
    have := congrArg Str.length q
    rw [len_app, len_one] at this
    omega
  have m : ∀ c ∈ z.cps.toList, y ++ (⟨#[c]⟩ : Str) ∈ ms := fun c hc => all _ (List.mem_cons_of_mem _ (List.mem_map.mpr ⟨c, hc, rfl⟩))
  have := pigeon (all y List.mem_cons_self) (m a (by rw [e]; exact List.mem_cons_self)) (m b (by rw [e]; exact List.mem_cons_of_mem _ List.mem_cons_self)) (ln a) (ln b) (fun q => by
    have e2 : (y ++ (⟨#[a]⟩ : Str)).cps.toList = (y ++ (⟨#[b]⟩ : Str)).cps.toList := by rw [q]
    rw [Str.cps_append, Array.toList_append, Str.cps_append, Array.toList_append] at e2
    have := List.append_cancel_left e2
    exact nab (by simpa using this))
  omega
theorem dict_one : ∀ z ∈ alphaL, ∀ c ∈ z.cps.toList, (PyData.dict [(.str ⟨#[c]⟩, .int 1)]).showable = true ∧ (PyData.dict [(.str ⟨#[c]⟩, .int 1)]).depth ≤ 3 ∧ (PyData.dict [(.str ⟨#[c]⟩, .int 1)]).shown.length ≤ 1000 := by decide +kernel
theorem alpha_nd : ∀ z ∈ alphaL, z.cps.toList.Nodup := by decide +kernel
def spLab : Sp := fun vs H Q _ => ∃ (p : Addr) (z : Str), vs = [.ref p, .str z] ∧ PotAt H p ∧ z ∈ alphaL ∧ ∀ (t : Addr) (m pos : V) (d : PyData) (H' : Hp), PotAt H' p → But p H H' → LabAt H' p t z m pos d → Q (.ref t) H'
section
variable {P : Program} {w : World} {K : PySem.W.Frag} {mg : Str → Option Value} {base : Heap}
theorem scLab : FnScope nLab ["_law_pot_here", "_law_alphabet_here"] (defScope sLab) := ⟨rfl, rfl, rfl, by decide +kernel, rfl, by decide +kernel, by decide +kernel⟩
theorem ok_lab {f : Addr} {fd : FuncData} (F : Fun K "_law_labels" "_law_labels" sLab f fd) (cD : Ca P w K mg base "_law_draw" 1 ["_law_pot_here", "_law_top"] spDraw) (cP : Ca P w K mg base "_law_pick" 2 ["_law_pot_here", "_law_some"] (spPick K))
    (cT : Ca P w K mg base "_law_text" 3 ["_law_pot_here", "_law_alphabet_here", "_law_least", "_law_top"] spText) (cO : Ca P w K mg base "_law_odd_text" 3 ["_law_pot_here", "_law_alphabet_here", "_law_top"] spOddT)
    (mR : mg "range" = none) (mN : mg "len" = none) (mT : mg "tuple" = none) : FnOk P w K mg base CX0 4 f fd ["_law_pot_here", "_law_alphabet_here"] spLab := by
  refine F.ok scLab (fun vs H Q E h => ?_) (fun cdv A outer s H vs Q E hr h => ?_)
  · obtain ⟨_, _, rfl, _⟩ := h
    rfl
  · obtain ⟨p, z, rfl, hp, hz, k⟩ := h
    have nd := scLab.nd
    have sz : sizeLine = 16777216 := rfl
    have r1 := hr.mono (show 1 ≤ 3 by decide)
    have r2 := hr.mono (show 2 ≤ 3 by decide)
    obtain ⟨_, z2, z4, pz, _⟩ := alpha_ok z hz
    have hnd := alpha_nd z hz
    obtain ⟨c0, cl, m0, ml, a0, al⟩ := last_of z2
    have lz : z.length ≤ sizeLine := by rw [sz]; omega
    refine ⟨_, pss_cons (ps_set (i := 2) nd rfl (.inr rfl) (pe_lst pa_nil))
      (C8.pss_cut (ps_for PassesOwn.never rfl (pi_range1 (by rfl) mR (pa_cons (pe_op op_add pe_int (pe_ca cD r1 (by rfl) (pa_cons (pv 0) (pa_cons pe_int pa_nil)))) pa_nil)) (pg_name (i := 3) nd rfl (.inl rfl))
        (pss_cons (ps_set (i := 4) nd rfl (.inr rfl) (pe_ca cT hr (by rfl) (pa_cons (pv 0) (pa_cons (pv 1) (pa_cons pe_int (pa_cons (pe_ca cP r2 (by rfl) (pa_cons (pv 0) (pa_cons (pe_lst (pa_cons pe_int (pa_cons pe_int (pa_cons pe_int pa_nil)))) pa_nil))) pa_nil))))))
        (pss_cons (ps_set (i := 5) nd rfl (.inl rfl) (pe_op op_cat (pe_lst (pa_cons (pv 4) pa_nil)) (pe_lc (own := [("_law_letter", 9)]) (g := gName 9) (tt := tYes) rfl nd (pi_str (pv 1))
            (blkOk_by (N := nLab) (sc := defScope sLab) (by decide +kernel)) (fun _ _ _ _ _ => pg_name (i := 9) nd rfl (Or.inl rfl)) (fun _ _ _ _ _ => pts_nil)
            (fun _ _ _ _ _ => pe_op op_add_str (pv 4) (pv 9)))))
        (pss_one (ps_expr (pe_bm PySem.F.plainAttrs_list PySem.F.slot_list_append PySem.F.type_list_append mtAppend (pv 2) (pa_cons (pe_ix ix_list (pe_lc (own := [("_law_label", 10)]) (g := gName 10) (tt := tTest (tOp (rIn K true) (tVar 10) (tVar 2))) rfl nd (pi_list (pv 5))
            (blkOk_by (N := nLab) (sc := defScope sLab) (by decide +kernel)) (fun _ _ _ _ _ => pg_name (i := 10) nd rfl (Or.inl rfl)) (fun _ _ _ _ _ => pts_one (pt_cmpR op_notIn_seq (pv 10) (pv 2) (by rfl)))
            (fun _ _ _ _ _ => pv 10)) pe_int (fun _ _ => rfl)) pa_nil)))))))
      (pss_cons (ps_par (i := 6) (j := 7) (by rfl) nd rfl rfl (by decide) rfl rfl (pa_cons (pe_ca cD r1 (by rfl) (pa_cons (pv 0) (pa_cons pe_int pa_nil))) (pa_cons (pe_ca cD r1 (by rfl) (pa_cons (pv 0) (pa_cons (pe_callB callLen (by rfl) mN PySem.boot_len (pa_cons (pv 2) pa_nil)) pa_nil))) pa_nil)) (by rfl))
      (C8.pss_cut (ps_if (pt_cmpR op_eq (pv 6) pe_int (nomark _))
        (pss_one (ps_ret (pe_tup (pa_cons (pe_op op_cat (pe_op op_cat (pe_slice sl_list (pv 2) po_none (po_some (pv 7))) (pe_lst (pa_cons (pe_ca cO hr (by rfl) (pa_cons (pv 0) (pa_cons (pv 1) (pa_cons pe_int pa_nil)))) pa_nil))) (pe_slice sl_list (pv 2) (po_some (pe_op op_add (pv 7) pe_int)) po_none)) (pa_cons (pv 7) pa_nil))))) pss_nil)
      (C8.pss_cut (ps_if (PW.pt (pw_and (pt_cmpR op_eq (pv 6) pe_int (nomark _)) (pw_and1 (pt_cmpR op_lt (pe_callB callLen (by rfl) mN PySem.boot_len (pa_cons (pv 2) pa_nil)) pe_int (nomark _)))))
        (pss_one (ps_ret (pe_tup (pa_cons (pe_op op_cat (pv 2) (pe_lst (pa_cons (pe_ix ix_list (pv 2) (pv 7) (fun _ _ => rfl)) pa_nil))) (pa_cons (pe_callB callLen (by rfl) mN PySem.boot_len (pa_cons (pv 2) pa_nil)) pa_nil))))) pss_nil)
      (C8.pss_cut (ps_if (pt_cmpR op_eq (pv 6) pe_int (nomark _))
        (pss_cons (ps_set (i := 8) nd rfl (.inl rfl) (pe_lst (pa_cons (pe_op op_mul_str (pe_ix ix_str (pv 1) pe_int (fun _ _ => rfl)) pe_int) (pa_cons (pe_op op_mul_str (pe_ix ix_str (pv 1) pe_int (fun _ _ => rfl)) pe_int)
            (pa_cons (pe_op op_mul_str (pe_ix ix_str (pv 1) pe_int (fun _ _ => rfl)) pe_int) (pa_cons (pe_op op_mul_str (pe_ix ix_str (pv 1) pe_int (fun _ _ => rfl)) pe_int) pa_nil))))))
        (pss_one (ps_ret (pe_tup (pa_cons (pe_ca cP r2 (by rfl) (pa_cons (pv 0) (pa_cons (pe_lst (pa_cons (pe_lst pa_nil) (pa_cons (pe_tup pa_nil) (pa_cons pe_non (pa_cons pe_str (pa_cons pe_int (pa_cons pe_bl (pa_cons pe_dnewK
            (pa_cons (pe_disp (pps_cons (pe_ix ix_str (pv 1) pe_int (fun _ _ => rfl)) pe_int pps_nil) (by rfl) (by rfl) (fun z => by cases z) (by decide)) (pa_cons (pv 8) pa_nil)))))))))) pa_nil))) (pa_cons pe_non pa_nil)))))) pss_nil)
      (pss_one (ps_ret (pe_tup (pa_cons (pe_ifExp (pt_cmpR op_eq (pv 6) pe_int (nomark _)) (pe_callTy call_tuple_of (by rfl) mT (by decide +kernel) (pa_cons (pv 2) pa_nil)) (pv 2)) (pa_cons (pe_un un_neg pe_int) pa_nil)))))))))), ?_⟩
    refine ⟨(by decide), fun M hM => ?_⟩
    obtain ⟨s1, p1, gM1, nM⟩ := fresh1 (.lst []) hp hM
    have npM : p ≠ M := Ne.symm nM
    have B1 : But p H (upd H M (.lst [])) := but_same s1
    generalize upd H M (.lst []) = H1 at p1 gM1 B1 ⊢
    refine ⟨fun σ' H' => ∃ (o3 o4 o5 : Option V) (ms : List Str), σ' = [some (.ref p), some (.str z), some (.ref M), o3, o4, o5, none, none, none, none, none] ∧ PotAt H' p ∧ But p H H' ∧ H' M = some (.lst (ms.map V.str)) ∧ 1 ≤ ms.length ∧ ms.length ≤ 3 ∧ MsOk z ms, ?_, ?_⟩
    · refine ⟨_, rfl, p, 3, rfl, p1, by decide, by decide, fun d H2 d0 d1 p2 b2 => ?_⟩
      refine ⟨1, d, rfl, rfl, 1 + d, rfl, by omega, by omega, ?_⟩
      have gM2 := b2 M _ gM1 nM
      have B2 : But p H H2 := B1.trans b2
      refine for_range (lo := 0) (n := (1 + d).toNat) (fun i σ Hi => ∃ (o3 o4 o5 : Option V) (ms : List Str), σ = [some (.ref p), some (.str z), some (.ref M), o3, o4, o5, none, none, none, none, none] ∧ PotAt Hi p ∧ But p H Hi ∧ Hi M = some (.lst (ms.map V.str)) ∧ ms.length = i ∧ MsOk z ms) ?_ ?_ ?_
      · exact ⟨_, _, _, [], rfl, p2, B2, gM2, rfl, ⟨(fun _ h => nomatch h), List.nodup_nil⟩⟩
      · rintro i σ Hi hi ⟨o3, o4, o5, ms, rfl, pi, bi, gMi, lm, om⟩
        have hi3 : i < 3 := by omega
        refine ⟨_, rfl, _, rfl, _, rfl, (by show 3 ≤ sizeLine; decide), fun L hL => ?_⟩
        obtain ⟨s3, p3, g3, n3⟩ := fresh1 (.lst [.int 1, .int 2, .int 11]) pi hL
        have gM3 := s3 _ _ gMi
        generalize upd Hi L (.lst [.int 1, .int 2, .int 11]) = H3 at s3 p3 g3 gM3 ⊢
        refine ⟨p, .ref L, rfl, p3, .inl ⟨L, _, rfl, n3, SqL.of g3, (by show 0 < 3; decide), (by show 3 ≤ 1000; decide), fun v H4 hv p4 b4 => ?_⟩⟩
        obtain ⟨n, rfl, n1, n11⟩ : ∃ n : Nat, v = .int (n : Nat) ∧ 1 ≤ n ∧ n ≤ 11 := by
          simp only [List.mem_cons, List.mem_nil_iff, or_false] at hv
          rcases hv with rfl | rfl | rfl
          · exact ⟨1, rfl, by decide, by decide⟩
          · exact ⟨2, rfl, by decide, by decide⟩
          · exact ⟨11, rfl, by decide, by decide⟩
        refine ⟨p, z, 1, n, rfl, p4, by omega, by omega, n1, by omega, fun y H5 oy y1 yn p5 b5 => ?_⟩
        have gM5 := b5 _ _ (b4 _ _ gM3 nM) nM
        have B5 : But p H H5 := ((bi.trans (but_same s3)).trans b4).trans b5
        clear gM3 g3 s3 b4 b5 p4 p3
        -- what is near it
        refine ⟨_, rfl, (by show 1 ≤ sizeLine; decide), fun N1 hN1 => ?_⟩
        obtain ⟨s6, p6, g6, n6⟩ := fresh1 (.lst [.str y]) p5 hN1
        have gM6 := s6 _ _ gM5
        generalize upd H5 N1 (.lst [.str y]) = H6 at s6 p6 g6 gM6 ⊢
        refine ⟨_, rfl, z, rfl, fun C hC => ?_⟩
        have ly : y.length ≤ 11 := Nat.le_trans yn n11
        refine lc_it walk_str (fun t Ht => Same H6 Ht ∧ Ht C = some (.lst (((z.cps.toList.take t).map fun c => y ++ (⟨#[c]⟩ : Str)).map V.str))) ?_ (fun _ _ _ _ => trivial) ?_ ?_
        · exact ⟨(Same.refl H6).upd hC, upd_same⟩
        · rintro t x Ht _ ht ⟨sm, gC⟩ ⟨rfl, c, hc, rfl⟩
          have hcl : z.cps.toList[t]? = some c := by simpa using hc
          refine ⟨rfl, _, rfl, _, rfl, _, _, rfl, rfl, (by rw [len_one, sz]; omega), ?_⟩
          refine ⟨_, gC, ?_, sm.upd hC, ?_⟩
          · have := str_len z
            rw [List.length_map, List.length_map, List.length_take, sz]
            omega
          · rw [upd_same, take_snoc hcl, List.map_append, List.map_append]
            rfl
        · rintro Ht ⟨sm, gC⟩
          have et : z.cps.toList.take z.cps.size = z.cps.toList := List.take_of_length_le (by rw [Array.length_toList]; exact Nat.le_refl _)
          rw [et] at gC
          have gNt := sm _ _ g6
          have gMt := sm _ _ gM6
          have lnear : (nearL z y).length ≤ 5 := by
            unfold nearL
            rw [List.length_cons, List.length_map, ← str_len]
            omega
          refine ⟨N1, C, _, _, rfl, rfl, gNt, gC, (by rw [List.length_map, List.length_map, ← str_len, sz]; show 1 + z.length ≤ 16777216; omega), fun R hR => ?_⟩
          obtain ⟨s7, p7, g7, n7⟩ := fresh1 (.lst ([V.str y] ++ ((z.cps.toList).map fun c => y ++ (⟨#[c]⟩ : Str)).map V.str)) (pot_same sm p6) hR
          have g7 : (upd Ht R (.lst ([V.str y] ++ ((z.cps.toList).map fun c => y ++ (⟨#[c]⟩ : Str)).map V.str))) R = some (.lst ((nearL z y).map V.str)) := g7
          have gM7 := s7 _ _ gMt
          generalize upd Ht R (.lst ([V.str y] ++ ((z.cps.toList).map fun c => y ++ (⟨#[c]⟩ : Str)).map V.str)) = H7 at s7 p7 g7 gM7 ⊢
          refine ⟨_, rfl, .inl ⟨rfl, _, SqL.of gM7⟩, _, rfl, R, rfl, ⟨_, SqL.of g7⟩, fun D hD => ?_⟩
          refine lc_it (walk_list (xs := (nearL z y).map V.str)) (fun j Hj => Same H7 Hj ∧ Hj D = some (.lst ((((nearL z y).take j).filter fun x => !inV (.str x) (ms.map V.str)).map V.str))) ?_ ?_ ?_ ?_
          · exact ⟨(Same.refl H7).upd hD, upd_same⟩
          · rintro j Hj _ ⟨sj, _⟩
            exact SqL.of (sj _ _ g7)
          · rintro j x Hj0 Hj hj ⟨sj, gD⟩ ⟨rfl, hx⟩
            rw [List.getElem?_map] at hx
            cases hx' : (nearL z y)[j]? with
            | none =>
              rw [hx'] at hx
              cases hx
            | some u =>
              rw [hx'] at hx
              obtain rfl : V.str u = x := Option.some.inj hx
              refine ⟨rfl, _, rfl, _, rfl, M, _, rfl, .inl (SqL.of (sj _ _ gM7)), rfl, flat_strs _, _, rfl, ?_⟩
              have ef : ((nearL z y).take (j + 1)).filter (fun x => !inV (.str x) (ms.map V.str)) = ((nearL z y).take j).filter (fun x => !inV (.str x) (ms.map V.str)) ++ [u].filter (fun x => !inV (.str x) (ms.map V.str)) := by rw [take_snoc hx', List.filter_append]
              show if (!inV (.str u) (ms.map V.str)) = true then _ else _
              cases hv : inV (.str u) (ms.map V.str) with
              | true =>
                refine iteF ⟨sj, ?_⟩
                rw [ef, List.filter_cons, hv, List.filter_nil]
                show Hj D = some (.lst (((_ : List Str) ++ []).map V.str))
                rw [List.append_nil]
                exact gD
              | false =>
                have lf : (((nearL z y).take j).filter (fun x => !inV (.str x) (ms.map V.str))).length ≤ 5 := Nat.le_trans (List.length_filter_le _ _) (by rw [List.length_take]; omega)
                refine iteT ⟨_, rfl, _, gD, by rw [List.length_map, sz]; omega, sj.upd hD, ?_⟩
                rw [upd_same, ef, List.filter_cons, hv, List.filter_nil, List.map_append]
                rfl
          · rintro Hd ⟨sd, gD⟩
            have et2 : (nearL z y).take ((nearL z y).map V.str).length = nearL z y := List.take_of_length_le (by rw [List.length_map]; exact Nat.le_refl _)
            rw [et2] at gD
            have fne := near_free (z := z) (y := y) (ms := ms) z2 hnd (by omega)
            cases hf : (nearL z y).filter (fun x => !inV (.str x) (ms.map V.str)) with
            | nil => exact absurd hf fne
            | cons u us =>
              rw [hf] at gD
              have hu : u ∈ (nearL z y).filter (fun x => !inV (.str x) (ms.map V.str)) := by rw [hf]; exact List.mem_cons_self
              obtain ⟨hu1, hu2⟩ := List.mem_filter.mp hu
              have nu : u ∉ ms := fun q => by
                rw [inV_yes q] at hu2
                cases hu2
              have ou : Over z u ∧ 1 ≤ u.length ∧ u.length ≤ 12 := by
                unfold nearL at hu1
                rcases List.mem_cons.mp hu1 with rfl | hu1
                · exact ⟨oy, y1, by omega⟩
                · obtain ⟨c, hc, rfl⟩ := List.mem_map.mp hu1
                  refine ⟨over_app oy (over_one hc), ?_, ?_⟩ <;> rw [len_app, len_one] <;> omega
              have gMd := sd _ _ gM7
              refine ⟨D, _, 0, .str u, rfl, rfl, SqL.of gD, atI_nat (j := 0) rfl, M, _, _, rfl, rfl, gMd, (by rw [List.length_map, sz]; omega), ?_⟩
              have pd := pot_same sd p7
              refine ⟨_, _, _, ms ++ [u], rfl, pd.upd npM, ?_, ?_, ?_, ?_, ?_⟩
              · exact (B5.trans (but_same (((s6.trans sm).trans s7).trans sd))).upd hM
              · rw [upd_same, List.map_append]
                rfl
              · rw [List.length_append, lm]
                rfl
              · intro m hm
                rcases List.mem_append.mp hm with h | h
                · exact om.1 m h
                · rw [List.mem_singleton.mp h]
                  exact ou
              · refine List.nodup_append.mpr ⟨om.2, by simp, fun a ha b hb e => ?_⟩
                rw [List.mem_singleton.mp hb] at e
                exact nu (e ▸ ha)
      · rintro σ Hi ⟨o3, o4, o5, ms, rfl, pi, bi, gMi, lm, om⟩
        exact ⟨_, _, _, ms, rfl, pi, bi, gMi, by omega, by omega, om⟩
    · rintro σ' Hc ⟨o3, o4, o5, ms, rfl, pc, Bc, gM, l1, l3, om⟩
      have fin : ∀ (t : Addr) (m pos : V) (d : PyData) (H' : Hp), PotAt H' p → But p Hc H' → LabAt H' p t z m pos d → Q (.ref t) H' := fun t m pos d H' h1 h2 h3 => k t m pos d H' h1 (Bc.trans h2) h3
      have plain : ∀ m ∈ ms, Sz 0 122 (.str m) := fun m hm => (Sz.str fun c hc => pz c ((om.1 m hm).1 c hc)).mono (by decide) (by have := (om.1 m hm).2.2; omega)
      have lms : ((ms.map V.str).length : Nat) = ms.length := List.length_map _
      have good : ∀ j, j < ms.length → mkB z (ms.map V.str) j = true := fun j hj => mk_ok om.1 om.2 hj
      refine ⟨_, rfl, p, 12, rfl, pc, by decide, by decide, fun wy H1 w0 w1 p1 b1 => ?_⟩
      have gM1 := b1 _ _ gM nM
      refine ⟨_, rfl, _, rfl, _, ms.length, rfl, .inl ⟨_, SqL.of gM1, lms.symm⟩, p, _, rfl, p1, by omega, by omega, fun at_ H2 t0 t1 p2 b2 => ?_⟩
      have gM2 := b2 _ _ gM1 nM
      have B2 : But p Hc H2 := b1.trans b2
      obtain ⟨q, rfl⟩ : ∃ q : Nat, at_ = (q : Nat) := ⟨at_.toNat, by omega⟩
      have hq : q < ms.length := by omega
      refine ⟨_, _, rfl, fun σ' H' => σ' = [some (.ref p), some (.str z), some (.ref M), o3, o4, o5, some (.int wy), some (.int (q : Nat)), none, none, none] ∧ H' = H2 ∧ wy ≠ 0, ?_, ?_⟩
      · refine ⟨_, rfl, rfl, _, rfl, ?_⟩
        refine ite2 (fun _ => ?_) (fun w0' => ⟨rfl, rfl, fun e => w0' (decide_eq_true (congrArg V.int e))⟩)
        refine ⟨_, rfl, _, rfl, _, rfl, M, _, rfl, SqL.of gM2, fun L1 h1 => ?_⟩
        have e1 : cutV (ms.map V.str) none (some ((q : Nat) : Int)) = (ms.take q).map V.str := by rw [cutV_take, List.map_take]
        rw [e1]
        obtain ⟨s3, p3, g3, n3⟩ := fresh1 (.lst ((ms.take q).map V.str)) p2 h1
        have gM3 := s3 _ _ gM2
        generalize upd H2 L1 (.lst ((ms.take q).map V.str)) = H3 at s3 p3 g3 gM3 ⊢
        refine ⟨_, rfl, _, rfl, p, z, 12, rfl, p3, hz, by decide, by decide, fun v dv H4 p4 b4 ov bad => ?_⟩
        replace g3 := b4 _ _ g3 n3
        replace gM3 := b4 _ _ gM3 nM
        refine ⟨(by show 1 ≤ sizeLine; decide), fun L2 h2 => ?_⟩
        obtain ⟨s5, p5, g5, n5⟩ := fresh1 (.lst [v]) p4 h2
        replace g3 := s5 _ _ g3
        replace gM3 := s5 _ _ gM3
        generalize upd H4 L2 (.lst [v]) = H5 at s5 p5 g5 g3 gM3 ⊢
        refine ⟨L1, L2, _, _, rfl, rfl, g3, g5, (by rw [List.length_map, List.length_take, sz]; show _ + 1 ≤ _; omega), fun L3 h3 => ?_⟩
        obtain ⟨s6, p6, g6, n6⟩ := fresh1 (.lst ((ms.take q).map V.str ++ [v])) p5 h3
        replace gM3 := s6 _ _ gM3
        generalize upd H5 L3 (.lst ((ms.take q).map V.str ++ [v])) = H6 at s6 p6 g6 gM3 ⊢
        refine ⟨_, rfl, _, rfl, _, _, rfl, rfl, _, rfl, M, _, rfl, SqL.of gM3, fun L4 h4 => ?_⟩
        have e4 : cutV (ms.map V.str) (some (((q : Nat) : Int) + 1)) none = (ms.drop (q + 1)).map V.str := by
          rw [show (((q : Nat) : Int) + 1) = ((q + 1 : Nat) : Int) by omega, cutV_drop, List.map_drop]
        rw [e4]
        obtain ⟨s7, p7, g7, n7⟩ := fresh1 (.lst ((ms.drop (q + 1)).map V.str)) p6 h4
        replace g6 := s7 _ _ g6
        generalize upd H6 L4 (.lst ((ms.drop (q + 1)).map V.str)) = H7 at s7 p7 g7 g6 ⊢
        refine ⟨L3, L4, _, _, rfl, rfl, g6, g7, (by rw [List.length_append, List.length_map, List.length_take, List.length_map, List.length_drop, sz]; show _ + 1 + _ ≤ _; omega), fun L5 h5 => ?_⟩
        obtain ⟨s8, p8, g8, n8⟩ := fresh1 (.lst ((ms.take q).map V.str ++ [v] ++ (ms.drop (q + 1)).map V.str)) p7 h5
        generalize upd H7 L5 (.lst ((ms.take q).map V.str ++ [v] ++ (ms.drop (q + 1)).map V.str)) = H8 at s8 p8 g8 ⊢
        refine ⟨_, rfl, (by show 2 ≤ sizeLine; decide), fun t ht => ?_⟩
        obtain ⟨s9, p9, g9, n9⟩ := fresh1 (.tup [.ref L5, .int (q : Nat)]) p8 ht
        have B9 : But p Hc (upd H8 t (.tup [.ref L5, .int (q : Nat)])) := (((B2.trans (but_same s3)).trans b4).trans (but_same ((((s5.trans s6).trans s7).trans s8).trans s9)))
        have ov9 := ov.bx (.same ((((s5.trans s6).trans s7).trans s8).trans s9))
        have lx : ((ms.take q).map V.str ++ [v] ++ (ms.drop (q + 1)).map V.str).length = ms.length := by
          rw [List.length_append, List.length_append, List.length_map, List.length_map, List.length_take, List.length_drop]
          show min q ms.length + 1 + _ = _
          omega
        have tk : ((ms.take q).map V.str ++ [v] ++ (ms.drop (q + 1)).map V.str).take q = (ms.map V.str).take q := by
          rw [List.append_assoc, List.take_append_of_le_length (by rw [List.length_map, List.length_take]; omega), List.take_of_length_le (by rw [List.length_map, List.length_take]; omega), List.map_take]
        have gq : ((ms.take q).map V.str ++ [v] ++ (ms.drop (q + 1)).map V.str)[q]? = some v := by
          rw [List.append_assoc, List.getElem?_append_right (by rw [List.length_map, List.length_take]; omega), List.length_map, List.length_take]
          rw [show q - min q ms.length = 0 by omega]
          rfl
        refine fin t (.ref L5) (.int (q : Nat)) (.list ((ms.take q).map PyData.str ++ [dv] ++ (ms.drop (q + 1)).map PyData.str)) _ p9 B9 ⟨n9, g9, ?_, ref_short, ?_, .inr (.inr ⟨L5, false, _, rfl, n8, s9 _ _ g8, ?_, by rw [lx]; omega, .inr ⟨by rw [lx]; omega, by rw [lx]; omega, q, by rw [lx]; exact hq, ?_, ?_, rfl⟩⟩)⟩
        · exact .lst n8 (s9 _ _ g8) (((DrAll.strs _).append (DrAll.one ov9.dr)).append (DrAll.strs _))
        · refine (few_sz (fun d hd => ?_) ?_).1
          · rcases List.mem_append.mp hd with hd | hd
            · rcases List.mem_append.mp hd with hd | hd
              · obtain ⟨m, hm, rfl⟩ := List.mem_map.mp hd
                exact (plain m (List.mem_of_mem_take hm)).mono (by decide) (by decide)
              · rw [List.mem_singleton.mp hd]
                exact ov.sz
            · obtain ⟨m, hm, rfl⟩ := List.mem_map.mp hd
              exact (plain m (List.mem_of_mem_drop hm)).mono (by decide) (by decide)
          · rw [List.length_append, List.length_append, List.length_map, List.length_map, List.length_take, List.length_drop]
            show min q ms.length + 1 + _ ≤ 4
            omega
        · intro x hx
          rcases List.mem_append.mp hx with hx | hx
          · rcases List.mem_append.mp hx with hx | hx
            · obtain ⟨m, hm, rfl⟩ := List.mem_map.mp hx
              have := (om.1 m (List.mem_of_mem_take hm)).2.2
              exact fun y e => by cases e; rw [sz]; omega
            · rw [List.mem_singleton.mp hx]
              exact ov.short
          · obtain ⟨m, hm, rfl⟩ := List.mem_map.mp hx
            have := (om.1 m (List.mem_of_mem_drop hm)).2.2
            exact fun y e => by cases e; rw [sz]; omega
        · unfold mkB
          rw [gq]
          show (boxB 12 z v && _) = false
          rw [bad]
          rfl
        · intro j hj
          rw [mk_pre tk hj]
          exact good j (by omega)
      · rintro σ' H' ⟨rfl, rfl, w0'⟩
        -- one told twice
        refine ⟨fun σ' G => σ' = [some (.ref p), some (.str z), some (.ref M), o3, o4, o5, some (.int wy), some (.int (q : Nat)), none, none, none] ∧ G = H', ?_, ?_⟩
        · refine ⟨_, rfl, rfl, _, rfl, ?_⟩
          refine ite2 (fun _ => ?_) (fun _ => iteF ⟨rfl, rfl⟩)
          refine ⟨_, rfl, _, ms.length, rfl, .inl ⟨_, SqL.of gM2, lms.symm⟩, _, _, rfl, rfl, _, rfl, ?_⟩
          refine ite2 (fun hlt => ?_) (fun _ => ⟨rfl, rfl⟩)
          have hlt : ((ms.length : Nat) : Int) < 3 := of_decide_eq_true hlt
          have eq_ : atI (ms.map V.str) ((q : Nat) : Int) = some (.str ms[q]) := atI_nat (by rw [List.getElem?_map, List.getElem?_eq_getElem hq]; rfl)
          refine ⟨_, rfl, _, rfl, _, rfl, M, _, _, _, rfl, rfl, SqL.of gM2, eq_, (by show 1 ≤ sizeLine; decide), fun L2 h2 => ?_⟩
          obtain ⟨s3, p3, g3, n3⟩ := fresh1 (.lst [.str ms[q]]) p2 h2
          have gM3 := s3 _ _ gM2
          generalize upd H' L2 (.lst [.str ms[q]]) = H3 at s3 p3 g3 gM3 ⊢
          refine ⟨M, L2, _, _, rfl, rfl, gM3, g3, (by rw [List.length_map, sz]; show _ + 1 ≤ _; omega), fun L3 h3 => ?_⟩
          obtain ⟨s4, p4, g4, n4⟩ := fresh1 (.lst (ms.map V.str ++ [.str ms[q]])) p3 h3
          have gM4 := s4 _ _ gM3
          generalize upd H3 L3 (.lst (ms.map V.str ++ [.str ms[q]])) = H4 at s4 p4 g4 gM4 ⊢
          refine ⟨_, rfl, _, ms.length, rfl, .inl ⟨_, SqL.of gM4, lms.symm⟩, (by show 2 ≤ sizeLine; decide), fun t ht => ?_⟩
          obtain ⟨s5, p5, g5, n5⟩ := fresh1 (.tup [.ref L3, .int (ms.length : Nat)]) p4 ht
          have lx : (ms.map V.str ++ [V.str ms[q]]).length = ms.length + 1 := by rw [List.length_append, List.length_map]; rfl
          have gl : (ms.map V.str ++ [V.str ms[q]])[ms.length]? = some (.str ms[q]) := by
            rw [List.getElem?_append_right (by rw [List.length_map]; exact Nat.le_refl _), List.length_map, Nat.sub_self]
            rfl
          have tk : (ms.map V.str ++ [V.str ms[q]]).take ms.length = (ms.map V.str).take ms.length := by
            rw [List.take_append_of_le_length (by rw [List.length_map]; exact Nat.le_refl _)]
          refine fin t (.ref L3) (.int (ms.length : Nat)) (.list (ms.map PyData.str ++ [PyData.str ms[q]])) _ p5 (B2.trans (but_same ((s3.trans s4).trans s5))) ⟨n5, g5, ?_, ref_short, ?_, .inr (.inr ⟨L3, false, _, rfl, n4, s5 _ _ g4, ?_, by rw [lx]; omega, .inr ⟨by rw [lx]; omega, by rw [lx]; omega, ms.length, by rw [lx]; omega, ?_, ?_, rfl⟩⟩)⟩
          · exact .lst n4 (s5 _ _ g4) ((DrAll.strs _).append (DrAll.one (.str _)))
          · refine (few_sz (fun d hd => ?_) ?_).1
            · rcases List.mem_append.mp hd with hd | hd
              · obtain ⟨m, hm, rfl⟩ := List.mem_map.mp hd
                exact (plain m hm).mono (by decide) (by decide)
              · rw [List.mem_singleton.mp hd]
                exact (plain _ (List.getElem_mem hq)).mono (by decide) (by decide)
            · rw [List.length_append, List.length_map]
              show ms.length + 1 ≤ 4
              omega
          · intro x hx
            have all : ∃ m ∈ ms, x = .str m := by
              rcases List.mem_append.mp hx with hx | hx
              · obtain ⟨m, hm, rfl⟩ := List.mem_map.mp hx
                exact ⟨m, hm, rfl⟩
              · exact ⟨_, List.getElem_mem hq, List.mem_singleton.mp hx⟩
            obtain ⟨m, hm, rfl⟩ := all
            have := (om.1 m hm).2.2
            exact fun y e => by cases e; rw [sz]; omega
          · unfold mkB
            rw [gl, tk, List.take_of_length_le (by rw [List.length_map]; exact Nat.le_refl _)]
            show (boxB 12 z (.str ms[q]) && !inV (.str ms[q]) (ms.map V.str)) = false
            rw [inV_yes (List.getElem_mem hq)]
            exact Bool.and_false _
          · intro j hj
            rw [mk_pre tk hj]
            exact good j hj
        · rintro σ' G ⟨rfl, rfl⟩
          refine ⟨fun σ' F => σ' = [some (.ref p), some (.str z), some (.ref M), o3, o4, o5, some (.int wy), some (.int (q : Nat)), none, none, none] ∧ F = G, ?_, ?_⟩
          · refine ⟨_, rfl, rfl, _, rfl, ?_⟩
            refine ite2 (fun _ => ?_) (fun _ => ⟨rfl, rfl⟩)
            have one1 : (0 : Nat) < (⟨#[c0]⟩ : Str).length := by rw [len_one]; decide
            have one2 : (⟨#[c0]⟩ : Str).length ≤ 1000 := by rw [len_one]; decide
            refine ⟨_, rfl, z, 0, c0, rfl, rfl, lz, a0, _, _, rfl, rfl, (by decide), (by decide), one1, one2, ?_⟩
            refine ⟨_, rfl, z, 0, c0, rfl, rfl, lz, a0, _, _, rfl, rfl, (by decide), (by decide), one1, one2, ?_⟩
            refine ⟨_, rfl, z, 0, c0, rfl, rfl, lz, a0, _, _, rfl, rfl, (by decide), (by decide), one1, one2, ?_⟩
            refine ⟨_, rfl, z, 0, c0, rfl, rfl, lz, a0, _, _, rfl, rfl, (by decide), (by decide), one1, one2, ?_⟩
            refine ⟨(by show 4 ≤ sizeLine; decide), fun L1 h1 => ?_⟩
            obtain ⟨s3, p3, g3, n3⟩ := fresh1 (.lst [V.str (repS ⟨#[c0]⟩ (Int.toNat 7)), V.str (repS ⟨#[c0]⟩ (Int.toNat 8)), V.str (repS ⟨#[c0]⟩ (Int.toNat 9)), V.str (repS ⟨#[c0]⟩ (Int.toNat 10))]) p2 h1
            generalize upd G L1 (.lst [V.str (repS ⟨#[c0]⟩ (Int.toNat 7)), V.str (repS ⟨#[c0]⟩ (Int.toNat 8)), V.str (repS ⟨#[c0]⟩ (Int.toNat 9)), V.str (repS ⟨#[c0]⟩ (Int.toNat 10))]) = H3 at s3 p3 g3 ⊢
            refine ⟨_, rfl, (by decide), fun a1 h2 => ?_⟩
            obtain ⟨s4, p4, g4, n4⟩ := fresh1 (.lst []) p3 h2
            replace g3 := s4 _ _ g3
            generalize upd H3 a1 (.lst []) = H4 at s4 p4 g3 g4 ⊢
            refine ⟨(by decide), fun a2 h2 => ?_⟩
            obtain ⟨s5, p5, g5, n5⟩ := fresh1 (.tup []) p4 h2
            replace g3 := s5 _ _ g3
            replace g4 := s5 _ _ g4
            generalize upd H4 a2 (.tup []) = H5 at s5 p5 g3 g4 g5 ⊢
            intro a3 h2
            obtain ⟨s6, p6, g6, n6⟩ := fresh1 (.dK []) p5 h2
            replace g3 := s6 _ _ g3
            replace g4 := s6 _ _ g4
            replace g5 := s6 _ _ g5
            generalize upd H5 a3 (.dK []) = H6 at s6 p6 g3 g4 g5 g6 ⊢
            intro a4 h2
            refine ⟨_, rfl, z, 0, c0, rfl, rfl, lz, a0, upd_same, [(Sum.inr ⟨#[c0]⟩, .int 1)], rfl, (by show 1 ≤ 15; decide), ?_⟩
            have em : mergeK [] [((Sum.inr ⟨#[c0]⟩ : Key), V.int 1)] = [((Sum.inr ⟨#[c0]⟩ : Key), V.int 1)] := (putK_new (kvs := []) (k := (Sum.inr ⟨#[c0]⟩ : Key)) (.int 1) rfl : putK [] (Sum.inr ⟨#[c0]⟩ : Key) (.int 1) = _)
            rw [em]
            obtain ⟨s7, p7, g7, n7⟩ := fresh1 (.dK []) p6 h2
            have g8 : upd (upd H6 a4 (.dK [])) a4 (.dK [((Sum.inr ⟨#[c0]⟩ : Key), V.int 1)]) a4 = some (.dK [((Sum.inr ⟨#[c0]⟩ : Key), V.int 1)]) := upd_same
            have s8 : Same H6 (upd (upd H6 a4 (.dK [])) a4 (.dK [((Sum.inr ⟨#[c0]⟩ : Key), V.int 1)])) := ((Same.refl H6).upd h2).upd h2
            have p8 := pot_same s8 p6
            replace g3 := s8 _ _ g3
            replace g4 := s8 _ _ g4
            replace g5 := s8 _ _ g5
            replace g6 := s8 _ _ g6
            generalize upd (upd H6 a4 (.dK [])) a4 (.dK [((Sum.inr ⟨#[c0]⟩ : Key), V.int 1)]) = H7 at s8 p8 g3 g4 g5 g6 g8 ⊢
            refine ⟨_, rfl, (by show 9 ≤ sizeLine; decide), fun L5 h5 => ?_⟩
            obtain ⟨s9, p9, g9, n9⟩ := fresh1 (.lst [.ref a1, .ref a2, .non, tx "ab", .int 5, .bl true, .ref a3, .ref a4, .ref L1]) p8 h5
            replace g3 := s9 _ _ g3
            replace g4 := s9 _ _ g4
            replace g5 := s9 _ _ g5
            replace g6 := s9 _ _ g6
            replace g8 := s9 _ _ g8
            refine ⟨p, .ref L5, rfl, p9, .inl ⟨L5, _, rfl, n9, SqL.of g9, (by show 0 < 9; decide), (by show 9 ≤ 1000; decide), fun v H8 hv p10 b10 => ?_⟩⟩
            have B10 : But p Hc H8 := (B2.trans (but_same (((((s3.trans s4).trans s5).trans s6).trans s8).trans s9))).trans b10
            replace g3 := b10 _ _ g3 n3
            replace g4 := b10 _ _ g4 n4
            replace g5 := b10 _ _ g5 n5
            replace g6 := b10 _ _ g6 n6
            replace g8 := b10 _ _ g8 n7
            refine ⟨(by show 2 ≤ sizeLine; decide), fun t ht => ?_⟩
            obtain ⟨s11, p11, g11, n11⟩ := fresh1 (.tup [v, .non]) p10 ht
            have B11 := B10.trans (but_same s11)
            replace g3 := s11 _ _ g3
            replace g4 := s11 _ _ g4
            replace g5 := s11 _ _ g5
            replace g6 := s11 _ _ g6
            replace g8 := s11 _ _ g8
            have p0 := pz c0 m0
            have rp : ∀ n ≤ 10, Sz 3 1000 (.str (repS ⟨#[c0]⟩ n)) := fun n hn => (Sz.str (plain_rep p0)).mono (by decide) (by rw [rep_one]; omega)
            have got : ∃ d, Dr (upd H8 t (.tup [v, .non])) p v d ∧ Short v ∧ Sz 4 5000 d ∧ LabRes (upd H8 t (.tup [v, .non])) p z v .non d := by
              simp only [List.mem_cons, List.mem_nil_iff, or_false] at hv
              have no : ∀ x ∈ ([] : List V), Short x := fun _ h => nomatch h
              rcases hv with rfl | rfl | rfl | rfl | rfl | rfl | rfl | rfl | rfl
              · exact ⟨.list [], .lst n4 g4 .nil, ref_short, ⟨by decide +kernel, by decide +kernel, by decide +kernel⟩, .inr (.inr ⟨a1, false, [], rfl, n4, g4, no, by decide, .inl ⟨.inl rfl, rfl⟩⟩)⟩
              · exact ⟨.tuple [], .tup n5 g5 .nil, ref_short, ⟨by decide +kernel, by decide +kernel, by decide +kernel⟩, .inr (.inr ⟨a2, true, [], rfl, n5, g5, no, by decide, .inl ⟨.inl rfl, rfl⟩⟩)⟩
              · exact ⟨_, .non, (fun _ e => by cases e), ⟨by decide +kernel, by decide +kernel, by decide +kernel⟩, .inr (.inl ⟨rfl, rfl⟩)⟩
              · exact ⟨_, .str _, (fun _ e => by cases e; decide +kernel), ⟨by decide +kernel, by decide +kernel, by decide +kernel⟩, .inr (.inl ⟨rfl, rfl⟩)⟩
              · exact ⟨_, .int 5, int_short, ⟨by decide +kernel, by decide +kernel, by decide +kernel⟩, .inr (.inl ⟨rfl, rfl⟩)⟩
              · exact ⟨_, .bl true, (fun _ e => by cases e), ⟨by decide +kernel, by decide +kernel, by decide +kernel⟩, .inr (.inl ⟨rfl, rfl⟩)⟩
              · exact ⟨.dict [], .dct n6 g6 rfl .nil, ref_short, ⟨by decide +kernel, by decide +kernel, by decide +kernel⟩, .inr (.inl ⟨rfl, rfl⟩)⟩
              · obtain ⟨d1, d2, d3⟩ := dict_one z hz c0 m0
                exact ⟨.dict [(.str ⟨#[c0]⟩, .int 1)], .dct n7 g8 rfl (DrAll.one (.int 1)), ref_short, ⟨d1, by omega, by omega⟩, .inr (.inl ⟨rfl, rfl⟩)⟩
              · refine ⟨.list ([repS ⟨#[c0]⟩ 7, repS ⟨#[c0]⟩ 8, repS ⟨#[c0]⟩ 9, repS ⟨#[c0]⟩ 10].map PyData.str), .lst n3 g3 (DrAll.strs [_, _, _, _]), ref_short, (few_sz (fun d hd => ?_) (by show 4 ≤ 4; decide)).1, .inr (.inr ⟨L1, false, _, rfl, n3, g3, fun x hx => ?_, by show 4 ≤ 4; decide, .inl ⟨.inr (by show 3 < 4; decide), rfl⟩⟩)⟩
                · simp only [List.map_cons, List.map_nil, List.mem_cons, List.mem_nil_iff, or_false] at hd
                  rcases hd with rfl | rfl | rfl | rfl <;> exact rp _ (by decide)
                · simp only [List.mem_cons, List.mem_nil_iff, or_false] at hx
                  rcases hx with rfl | rfl | rfl | rfl <;> exact fun y e => by cases e; rw [rep_one]; decide
            obtain ⟨d, q1, q2, q3, q4⟩ := got
            exact fin t v .non d _ p11 B11 ⟨n11, g11, q1, q2, q3, q4⟩
          · rintro σ' F ⟨rfl, rfl⟩
            refine ⟨_, rfl, rfl, _, rfl, ?_⟩
            have mk0 : MarksOk z ms := om.marks l1 l3
            have sd : Sz 4 5000 (.list (ms.map PyData.str)) ∧ Sz 4 5000 (.tuple (ms.map PyData.str)) := few_sz (fun d hd => by
              obtain ⟨m, hm, rfl⟩ := List.mem_map.mp hd
              exact (plain m hm).mono (by decide) (by decide)) (by rw [List.length_map]; omega)
            refine ite2 (fun _ => ?_) (fun _ => ?_)
            · refine ⟨_, rfl, M, _, rfl, .inl ⟨SqL.of gM2, fun L hL => ?_⟩⟩
              obtain ⟨s3, p3, g3, n3⟩ := fresh1 (.tup (ms.map V.str)) p2 hL
              generalize upd F L (.tup (ms.map V.str)) = H3 at s3 p3 g3 ⊢
              refine ⟨1, rfl, (by show 2 ≤ sizeLine; decide), fun t ht => ?_⟩
              obtain ⟨s4, p4, g4, n4⟩ := fresh1 (.tup [.ref L, .int (-1)]) p3 ht
              exact fin t (.ref L) (.int (-1)) (.tuple (ms.map PyData.str)) _ p4 (B2.trans (but_same (s3.trans s4))) ⟨n4, g4, .tup n3 (s4 _ _ g3) (DrAll.strs _), ref_short, sd.2, .inl ⟨rfl, L, true, ms, rfl, n3, s4 _ _ g3, mk0⟩⟩
            · refine ⟨_, rfl, 1, rfl, (by show 2 ≤ sizeLine; decide), fun t ht => ?_⟩
              obtain ⟨s4, p4, g4, n4⟩ := fresh1 (.tup [.ref M, .int (-1)]) p2 ht
              exact fin t (.ref M) (.int (-1)) (.list (ms.map PyData.str)) _ p4 (B2.trans (but_same s4)) ⟨n4, g4, .lst nM (s4 _ _ gM2) (DrAll.strs _), ref_short, sd.1, .inl ⟨rfl, M, false, ms, rfl, nM, s4 _ _ gM2, mk0⟩⟩
end
end K50
namespace K50
open PySem PySem.Spec PyProof.Rows L2 FL
abbrev sTold : Stmt := topS 41
abbrev nTold : List Str := ["_law_deed", "_law_told_here", "e"]
theorem scTold : FnScope nTold ["_law_deed"] (defScope sTold) := ⟨rfl, rfl, rfl, by decide +kernel, rfl, by decide +kernel, by decide +kernel⟩
/-- the errors' classes, as what is caught asks of them -/
structure ErF (K : PySem.W.Frag) (mg : Str → Option Value) (CS CM CT CC CB : Addr) : Prop where
  gS : mg "InvalidSigns" = some (.ref CS)
  gM : mg "InvalidMarks" = some (.ref CM)
  gT : mg "InvalidTail" = some (.ref CT)
  gC : mg "InvalidCare" = some (.ref CC)
  gB : mg "LineError" = some (.ref CB)
  xS : XfC K CS
  xM : XfC K CM
  xT : XfC K CT
  xC : XfC K CC
  nS : PySem.W.findIn K (.ref CS) vN = some none
  nM : PySem.W.findIn K (.ref CM) pN = some none
  nT : PySem.W.findIn K (.ref CT) vN = some none
  nC1 : PySem.W.findIn K (.ref CC) nmN = some none
  nC2 : PySem.W.findIn K (.ref CC) vN = some none
  eS : ExcC K CS
  eM : ExcC K CM
  eT : ExcC K CT
  eC : ExcC K CC
  ss : PySem.W.exmOne K (.ref CS) (.ref CS) = some true
  ms : PySem.W.exmOne K (.ref CM) (.ref CS) = some false
  mm : PySem.W.exmOne K (.ref CM) (.ref CM) = some true
  ts : PySem.W.exmOne K (.ref CT) (.ref CS) = some false
  tm : PySem.W.exmOne K (.ref CT) (.ref CM) = some false
  tt : PySem.W.exmOne K (.ref CT) (.ref CT) = some true
  cs : PySem.W.exmOne K (.ref CC) (.ref CS) = some false
  cm : PySem.W.exmOne K (.ref CC) (.ref CM) = some false
  ct : PySem.W.exmOne K (.ref CC) (.ref CT) = some false
  cc : PySem.W.exmOne K (.ref CC) (.ref CC) = some true
  kS : PySem.W.kitOne K (.ref CS) (.ref CB) = some true
  kM : PySem.W.kitOne K (.ref CM) (.ref CB) = some true
  kT : PySem.W.kitOne K (.ref CT) (.ref CB) = some true
  kC : PySem.W.kitOne K (.ref CC) (.ref CB) = some true
  vS : PySem.W.kitOne K (.ref CS) (.type "ValueError") = some true
  vM : PySem.W.kitOne K (.ref CM) (.type "ValueError") = some true
  vT : PySem.W.kitOne K (.ref CT) (.type "ValueError") = some true
  vC : PySem.W.kitOne K (.ref CC) (.type "ValueError") = some true
/-- what comes of an error -/
def hX (CS CM CT CC : Addr) (Q : VK) : XK := fun cls d H' => ∃ (C dd : Addr) (fs : List (Str × V)) (xs : List V), cls = .ref C ∧ d = some dd ∧ H' dd = some (.xd fs) ∧
  ((C = CS ∧ ∃ v, fs = [(vN, v)] ∧ xs = [tx "signs", v, .bl true]) ∨ (C = CM ∧ ∃ v, fs = [(pN, v)] ∧ xs = [tx "marks", v, .bl true]) ∨ (C = CT ∧ ∃ v, fs = [(vN, v)] ∧ xs = [tx "tail", v, .bl true]) ∨
    (C = CC ∧ ∃ u v, fs = [(vN, v), (nmN, u)] ∧ xs = [tx "care", u, v, .bl true])) ∧ ∀ p, H' p = none → Q (.ref p) (upd H' p (.lst xs))
def TTh (CS CM CT CC : Addr) : (XK → Hp → VK → Prop) → Hp → VK → Prop := fun tl H Q =>
  ∀ L, H L = none → ∀ (E : XK) (R : VK), (∀ cls d H', hX CS CM CT CC Q cls d H' → E cls d H') → (∀ v H', (∀ L2, H' L2 = none → Q (.ref L2) (upd H' L2 (.lst [tx "made", v]))) → R v H') → tl E (upd H L (.lst [tx "else"])) R
theorem lookV (v : V) : List.lookup (Str.ofString "value") [(vN, v)] = some v := by simp [List.lookup]
theorem lookP (v : V) : List.lookup (Str.ofString "position") [(pN, v)] = some v := by simp [List.lookup]
theorem lookV2 (v u : V) : List.lookup (Str.ofString "value") [(vN, v), (nmN, u)] = some v := by simp [List.lookup]
theorem vn_nm : (Str.ofString "name" == vN) = false := by decide +kernel
theorem lookN2 (v u : V) : List.lookup (Str.ofString "name") [(vN, v), (nmN, u)] = some u := by simp [List.lookup, vn_nm]
theorem three {τ : L2.St} (h : τ.length = 3) : ∃ a b c, τ = [a, b, c] := by
  match τ, h with
  | [a, b, c], _ => exact ⟨a, b, c, rfl⟩
theorem told_gives {X : Cx} {g : Addr} {cdg : Value} {q : Str} {CS CM CT CC CB : Addr} (T : ErF X.K X.mg CS CM CT CC CB) (mI : X.mg "isinstance" = none) (mV : X.mg "ValueError" = none) :
    LamX.GivesTo X nTold "_law_told" (defScope sTold) g cdg (defBody sTold) "_law_deed" q (TTh CS CM CT CC) := by
  intro f c' s H Q tl act hc h
  have nd := scTold.nd
  refine ⟨_, pss_cons (ps_set (i := 1) nd rfl (.inl rfl) (pe_lst (pa_cons pe_str pa_nil)))
    (pss_cons (ps_clauses (i := 2) rfl rfl nd rfl rfl takes0
      (tb := fun W D σ H => ∃ Ech : XK, (∀ c d τ G, τ.length = 3 → Ech c d G → W c d τ G) ∧ σ[0]? = some (some (V.ref f)) ∧ H c' = some (LamX.CodeO c' q) ∧ tl Ech H fun v G => 2 ≤ sizeLine ∧ ∀ L2, G L2 = none → D.nx (σ.set 1 (some (.ref L2))) (upd G L2 (.lst [tx "made", v])))
      (fun W pn xe tk _ => ⟨fun pins s' σ H' D I rd => by
        obtain ⟨Ech, hW, h1, h2, h3⟩ := rd
        exact (pss_one (ps_set (i := 1) nd rfl (.inl rfl) (pe_lst (pa_cons pe_str (pa_cons (act _ pn xe Ech _ _ (takes_len tk) fun c d τ G e len => hW c d τ G len e) pa_nil))))).run pins s' σ H' D I ⟨h1, h2, h3⟩⟩)
      (.more ⟨by rfl, by decide, .inl T.gS⟩ (fun a oe cls d pn hz hf => pss_one (ps_set (i := 1) nd rfl (.inl rfl) (pe_lst (pa_cons pe_str (pa_cons (pe_xf T.xS T.nS hz hf (pv 2))
          (pa_cons (pe_and (pe_callB (call_isY hz hf) (by rfl) mI (by decide +kernel) (pa_cons (pv 2) (pa_cons (pe_glob (v := .ref CB) rfl T.gB rfl) pa_nil)))
            (pe_one (pe_callB (call_isY hz hf) (by rfl) mI (by decide +kernel) (pa_cons (pv 2) (pa_cons (pe_bltn (v := .ty "ValueError") (by rfl) mV (by decide +kernel) rfl) pa_nil))))) pa_nil))))))
      (.more ⟨by rfl, by decide, .inl T.gM⟩ (fun a oe cls d pn hz hf => pss_one (ps_set (i := 1) nd rfl (.inl rfl) (pe_lst (pa_cons pe_str (pa_cons (pe_xf T.xM T.nM hz hf (pv 2))
          (pa_cons (pe_and (pe_callB (call_isY hz hf) (by rfl) mI (by decide +kernel) (pa_cons (pv 2) (pa_cons (pe_glob (v := .ref CB) rfl T.gB rfl) pa_nil)))
            (pe_one (pe_callB (call_isY hz hf) (by rfl) mI (by decide +kernel) (pa_cons (pv 2) (pa_cons (pe_bltn (v := .ty "ValueError") (by rfl) mV (by decide +kernel) rfl) pa_nil))))) pa_nil))))))
      (.more ⟨by rfl, by decide, .inl T.gT⟩ (fun a oe cls d pn hz hf => pss_one (ps_set (i := 1) nd rfl (.inl rfl) (pe_lst (pa_cons pe_str (pa_cons (pe_xf T.xT T.nT hz hf (pv 2))
          (pa_cons (pe_and (pe_callB (call_isY hz hf) (by rfl) mI (by decide +kernel) (pa_cons (pv 2) (pa_cons (pe_glob (v := .ref CB) rfl T.gB rfl) pa_nil)))
            (pe_one (pe_callB (call_isY hz hf) (by rfl) mI (by decide +kernel) (pa_cons (pv 2) (pa_cons (pe_bltn (v := .ty "ValueError") (by rfl) mV (by decide +kernel) rfl) pa_nil))))) pa_nil))))))
      (.more ⟨by rfl, by decide, .inl T.gC⟩ (fun a oe cls d pn hz hf => pss_one (ps_set (i := 1) nd rfl (.inl rfl) (pe_lst (pa_cons pe_str (pa_cons (pe_xf T.xC T.nC1 hz hf (pv 2)) (pa_cons (pe_xf T.xC T.nC2 hz hf (pv 2))
          (pa_cons (pe_and (pe_callB (call_isY hz hf) (by rfl) mI (by decide +kernel) (pa_cons (pv 2) (pa_cons (pe_glob (v := .ref CB) rfl T.gB rfl) pa_nil)))
            (pe_one (pe_callB (call_isY hz hf) (by rfl) mI (by decide +kernel) (pa_cons (pv 2) (pa_cons (pe_bltn (v := .ty "ValueError") (by rfl) mV (by decide +kernel) rfl) pa_nil))))) pa_nil)))))))
      .done)))))
    (pss_one (ps_ret (pv 1)))), ?_⟩
  refine ⟨(by show 1 ≤ sizeLine; decide), fun L hL => ?_⟩
  refine ⟨hX CS CM CT CC Q, ?_, rfl, by rw [upd_ne (ne_of_none hc hL)]; exact hc, h L hL _ _ (fun _ _ _ k => k) fun v H' q => ⟨(by show 2 ≤ sizeLine; decide), fun L2 h2 => ⟨_, rfl, q L2 h2⟩⟩⟩
  intro cls d τ H' len hx
  obtain ⟨o0, o1, o2, rfl⟩ := three len
  obtain ⟨C, dd, fs, xs, rfl, rfl, hdd, hw, k⟩ := hx
  rcases hw with ⟨rfl, v, rfl, rfl⟩ | ⟨rfl, v, rfl, rfl⟩ | ⟨rfl, v, rfl, rfl⟩ | ⟨rfl, u, v, rfl, rfl⟩
  · refine ⟨true, T.ss, fun _ a ha => ?_, fun z => Bool.noConfusion z⟩
    refine ⟨_, rfl, rfl, rfl, dd, _, v, rfl, hdd, lookV v, ?_⟩
    refine ⟨_, rfl, C, dd, .ref CB, .ref CB, true, _, rfl, rfl, rfl, T.eS, (fun u hu => hu), T.kS, hdd, _, rfl, ?_⟩
    refine ⟨_, rfl, C, dd, .ty "ValueError", .type "ValueError", true, _, rfl, rfl, rfl, T.eS, (fun u hu => hu), T.vS, hdd, (by show 3 ≤ sizeLine; decide), fun p hp => ?_⟩
    exact ⟨_, rfl, k p hp⟩
  · refine ⟨false, T.ms, (fun z => Bool.noConfusion z), fun _ => ⟨true, T.mm, fun _ a ha => ?_, fun z => Bool.noConfusion z⟩⟩
    refine ⟨_, rfl, rfl, rfl, dd, _, v, rfl, hdd, lookP v, ?_⟩
    refine ⟨_, rfl, C, dd, .ref CB, .ref CB, true, _, rfl, rfl, rfl, T.eM, (fun u hu => hu), T.kM, hdd, _, rfl, ?_⟩
    refine ⟨_, rfl, C, dd, .ty "ValueError", .type "ValueError", true, _, rfl, rfl, rfl, T.eM, (fun u hu => hu), T.vM, hdd, (by show 3 ≤ sizeLine; decide), fun p hp => ?_⟩
    exact ⟨_, rfl, k p hp⟩
  · refine ⟨false, T.ts, (fun z => Bool.noConfusion z), fun _ => ⟨false, T.tm, (fun z => Bool.noConfusion z), fun _ => ⟨true, T.tt, fun _ a ha => ?_, fun z => Bool.noConfusion z⟩⟩⟩
    refine ⟨_, rfl, rfl, rfl, dd, _, v, rfl, hdd, lookV v, ?_⟩
    refine ⟨_, rfl, C, dd, .ref CB, .ref CB, true, _, rfl, rfl, rfl, T.eT, (fun u hu => hu), T.kT, hdd, _, rfl, ?_⟩
    refine ⟨_, rfl, C, dd, .ty "ValueError", .type "ValueError", true, _, rfl, rfl, rfl, T.eT, (fun u hu => hu), T.vT, hdd, (by show 3 ≤ sizeLine; decide), fun p hp => ?_⟩
    exact ⟨_, rfl, k p hp⟩
  · refine ⟨false, T.cs, (fun z => Bool.noConfusion z), fun _ => ⟨false, T.cm, (fun z => Bool.noConfusion z), fun _ => ⟨false, T.ct, (fun z => Bool.noConfusion z), fun _ => ⟨true, T.cc, fun _ a ha => ?_, fun z => Bool.noConfusion z⟩⟩⟩⟩
    refine ⟨_, rfl, rfl, rfl, dd, _, u, rfl, hdd, lookN2 v u, ?_⟩
    refine ⟨_, rfl, rfl, rfl, dd, _, v, rfl, hdd, lookV2 v u, ?_⟩
    refine ⟨_, rfl, C, dd, .ref CB, .ref CB, true, _, rfl, rfl, rfl, T.eC, (fun u hu => hu), T.kC, hdd, _, rfl, ?_⟩
    refine ⟨_, rfl, C, dd, .ty "ValueError", .type "ValueError", true, _, rfl, rfl, rfl, T.eC, (fun u hu => hu), T.vC, hdd, (by show 4 ≤ sizeLine; decide), fun p hp => ?_⟩
    exact ⟨_, rfl, k p hp⟩
end K50
namespace K50
open PySem PySem.Spec PyProof.Rows L2 FL
abbrev sDue : Stmt := topS 42
abbrev nDue : List Str := ["_law_alphabet_here", "_law_labels_here", "_law_ending", "_law_cares", "_law_label"]
def c4K (ts : List Addr) : List (Key × V) := (careNs.zip ts).map fun q => (Sum.inr q.1, V.ref q.2)
structure CsAt (H : Hp) (D : Addr) (ts : List Addr) (vs : List V) (gs : List Bool) : Prop where
  lt : ts.length = 4
  lv : vs.length = 4
  lg : gs.length = 4
  d : H D = some (.dK (c4K ts))
  at_ : ∀ (i : Nat) (t : Addr) (v : V) (g : Bool), ts[i]? = some t → vs[i]? = some v → gs[i]? = some g → H t = some (.tup [v, .bl g])
/-- the first wrong care -/
def dueC (vs : List V) (gs : List Bool) : List V := match (List.range 4).find? fun i => !(gs.getD i true) with
  | some i => [tx "care", .str (careNs.getD i (Str.ofString "")), vs.getD i .non, .bl true]
  | none => []
def dueL (va : V) (ga : Bool) (pos e : V) (ge : Bool) (vs : List V) (gs : List Bool) : List V :=
  if ga = false then [tx "signs", va, .bl true] else if pos ≠ .int (-1) then [tx "marks", pos, .bl true] else if ge = false then [tx "tail", e, .bl true] else dueC vs gs
def spDue : Sp := fun us H Q _ => ∃ (tA tL tE D : Addr) (va m pos e : V) (ga ge : Bool) (ts : List Addr) (vs : List V) (gs : List Bool), us = [.ref tA, .ref tL, .ref tE, .ref D] ∧ H tA = some (.tup [va, .bl ga]) ∧ H tL = some (.tup [m, pos]) ∧ H tE = some (.tup [e, .bl ge]) ∧
  (pos = .non ∨ ∃ i, pos = .int i) ∧ CsAt H D ts vs gs ∧ ∀ H' r, Same H H' → H r = none → H' r = some (.lst (dueL va ga pos e ge vs gs)) → Q (.ref r) H'
theorem find_first {gs : List Bool} {i : Nat} (hi : i < 4) (l : gs.length = 4) (e : gs[i]? = some false) (gd : ∀ j, j < i → gs[j]? = some true) : (List.range 4).find? (fun i => !(gs.getD i true)) = some i := by
  match gs, l with
  | [a, b, c, d], _ =>
    match i, hi with
    | 0, _ =>
      obtain rfl : a = false := Option.some.inj e
      rfl
    | 1, _ =>
      obtain rfl : b = false := Option.some.inj e
      obtain rfl : a = true := Option.some.inj (gd 0 (by decide))
      rfl
    | 2, _ =>
      obtain rfl : c = false := Option.some.inj e
      obtain rfl : a = true := Option.some.inj (gd 0 (by decide))
      obtain rfl : b = true := Option.some.inj (gd 1 (by decide))
      rfl
    | 3, _ =>
      obtain rfl : d = false := Option.some.inj e
      obtain rfl : a = true := Option.some.inj (gd 0 (by decide))
      obtain rfl : b = true := Option.some.inj (gd 1 (by decide))
      obtain rfl : c = true := Option.some.inj (gd 2 (by decide))
      rfl
theorem c4_val {ts : List Addr} (l : ts.length = 4) {i : Nat} (hi : i < 4) : ∃ nm t, careNs[i]? = some nm ∧ ts[i]? = some t ∧ valV (c4K ts) (Sum.inr nm) = some (.ref t) := by
  match ts, l with
  | [a, b, c, d], _ =>
    match i, hi with
    | 0, _ => exact ⟨_, a, rfl, rfl, valV_pos rfl⟩
    | 1, _ =>
      refine ⟨_, b, rfl, rfl, ?_⟩
      show valV (_ :: _) _ = _
      rw [valV_neg (keyN nk1)]
      exact valV_pos rfl
    | 2, _ =>
      refine ⟨_, c, rfl, rfl, ?_⟩
      show valV (_ :: _ :: _) _ = _
      rw [valV_neg (keyN nk2), valV_neg (keyN nk4)]
      exact valV_pos rfl
    | 3, _ =>
      refine ⟨_, d, rfl, rfl, ?_⟩
      show valV (_ :: _ :: _ :: _) _ = _
      rw [valV_neg (keyN nk3), valV_neg (keyN nk5), valV_neg (keyN nk6)]
      exact valV_pos rfl
section
variable {P : Program} {w : World} {K : PySem.W.Frag} {mg : Str → Option Value} {base : Heap}
theorem scDue : FnScope nDue ["_law_alphabet_here", "_law_labels_here", "_law_ending", "_law_cares"] (defScope sDue) := ⟨rfl, rfl, rfl, by decide +kernel, rfl, by decide +kernel, by decide +kernel⟩
theorem ok_due {f : Addr} {fd : FuncData} (F : Fun K "_law_due" "_law_due" sDue f fd) : FnOk P w K mg base CX0 1 f fd ["_law_alphabet_here", "_law_labels_here", "_law_ending", "_law_cares"] spDue := by
  refine F.ok scDue (fun vs H Q E h => ?_) (fun cdv A outer s H vs Q E hr h => ?_)
  · obtain ⟨_, _, _, _, _, _, _, _, _, _, _, _, _, rfl, _⟩ := h
    rfl
  · obtain ⟨tA, tL, tE, D, va, m, pos, e, ga, ge, ts, vs, gs, rfl, hA, hL, hE, hpos, hC, k⟩ := h
    have nd := scDue.nd
    have hu := hu_of hr
    refine ⟨_, pss_cons (ps_if (pt_not (pt_val (pe_ix ix_tup (pv 0) pe_int (fun _ _ => rfl)))) (pss_one (ps_ret (pe_lst (pa_cons pe_str (pa_cons (pe_ix ix_tup (pv 0) pe_int (fun _ _ => rfl)) (pa_cons pe_bl pa_nil)))))) pss_nil)
      (pss_cons (ps_if (pt_cmpR op_ne (pe_ix ix_tup (pv 1) pe_int (fun _ _ => rfl)) (pe_un un_neg pe_int) (nomark _)) (pss_one (ps_ret (pe_lst (pa_cons pe_str (pa_cons (pe_ix ix_tup (pv 1) pe_int (fun _ _ => rfl)) (pa_cons pe_bl pa_nil)))))) pss_nil)
      (pss_cons (ps_if (pt_not (pt_val (pe_ix ix_tup (pv 2) pe_int (fun _ _ => rfl)))) (pss_one (ps_ret (pe_lst (pa_cons pe_str (pa_cons (pe_ix ix_tup (pv 2) pe_int (fun _ _ => rfl)) (pa_cons pe_bl pa_nil)))))) pss_nil)
      (pss_cons (ps_for PassesOwn.never rfl (pi_list (pe_lst (pa_cons pe_str (pa_cons pe_str (pa_cons pe_str (pa_cons pe_str pa_nil)))))) (pg_name (i := 4) nd rfl (.inl rfl))
        (pss_one (ps_if (pt_not (pt_val (pe_ix ix_tup (pe_dget hu (pv 3) (pv 4) (fun _ _ => rfl)) pe_int (fun _ _ => rfl))))
          (pss_one (ps_ret (pe_lst (pa_cons pe_str (pa_cons (pv 4) (pa_cons (pe_ix ix_tup (pe_dget hu (pv 3) (pv 4) (fun _ _ => rfl)) pe_int (fun _ _ => rfl)) (pa_cons pe_bl pa_nil))))))) pss_nil)))
      (pss_one (ps_ret (pe_lst pa_nil)))))), ?_⟩
    have fin : ∀ xs, dueL va ga pos e ge vs gs = xs → xs.length ≤ 4 → xs.length ≤ sizeLine ∧ ∀ r, H r = none → Q (.ref r) (upd H r (.lst xs)) := fun xs e l => ⟨Nat.le_trans l (by decide), fun r hr => k _ r ((Same.refl H).upd hr) hr (by rw [upd_same, e])⟩
    refine ⟨_, rfl, tA, _, 1, .bl ga, rfl, rfl, SqT.of hA, rfl, ga, rfl, ?_⟩
    cases ga with
    | false =>
      refine iteT ?_
      refine ⟨_, rfl, tA, _, 0, va, rfl, rfl, SqT.of hA, rfl, ?_⟩
      exact fin [tx "signs", va, .bl true] rfl (by show 3 ≤ 4; decide)
    | true =>
    refine iteF ?_
    refine ⟨_, rfl, tL, _, 1, pos, rfl, rfl, SqT.of hL, rfl, ?_⟩
    refine ⟨1, rfl, (by rcases hpos with rfl | ⟨i, rfl⟩ <;> rfl), _, rfl, ?_⟩
    by_cases hp1 : pos = .int (-1)
    case neg =>
      refine ite2 (fun _ => ?_) (fun q => absurd (show (!decide (pos = V.int (-1))) = true by rw [decide_eq_false hp1]; rfl) q)
      refine ⟨_, rfl, tL, _, 1, pos, rfl, rfl, SqT.of hL, rfl, ?_⟩
      refine fin [tx "marks", pos, .bl true] ?_ (by show 3 ≤ 4; decide)
      unfold dueL
      rw [if_neg (by decide), if_pos hp1]
    refine ite2 (fun q => absurd q (show ¬ (!decide (pos = V.int (-1))) = true by rw [decide_eq_true hp1]; decide)) (fun _ => ?_)
    refine ⟨_, rfl, tE, _, 1, .bl ge, rfl, rfl, SqT.of hE, rfl, ge, rfl, ?_⟩
    cases ge with
    | false =>
      refine iteT ?_
      refine ⟨_, rfl, tE, _, 0, e, rfl, rfl, SqT.of hE, rfl, ?_⟩
      refine fin [tx "tail", e, .bl true] ?_ (by show 3 ≤ 4; decide)
      unfold dueL
      rw [if_neg (by decide), if_neg (fun q => q hp1), if_pos rfl]
    | true =>
    refine iteF ?_
    have ec : dueL va true pos e true vs gs = dueC vs gs := by
      unfold dueL
      rw [if_neg (by decide), if_neg (fun q => q hp1), if_neg (by decide)]
    refine ⟨(by show 4 ≤ sizeLine; decide), fun L hL0 => ?_⟩
    have s1 : Same H (upd H L (.lst [tx "sight", tx "order", tx "further", tx "finish"])) := (Same.refl H).upd hL0
    have g1 : upd H L (.lst [tx "sight", tx "order", tx "further", tx "finish"]) L = some (.lst [tx "sight", tx "order", tx "further", tx "finish"]) := upd_same
    generalize upd H L (.lst [tx "sight", tx "order", tx "further", tx "finish"]) = H1 at s1 g1 ⊢
    have g1 : H1 L = some (.lst (careNs.map V.str)) := g1
    refine ⟨L, rfl, ⟨_, SqL.of g1⟩, for_it (walk_list (xs := careNs.map V.str)) (fun i σ Hi => ∃ o4 : Option V, σ = [some (.ref tA), some (.ref tL), some (.ref tE), some (.ref D), o4] ∧ Hi = H1 ∧ ∀ j, j < i → gs[j]? = some true) ?_ ?_ ?_ ?_⟩
    · exact ⟨_, rfl, rfl, fun j hj => absurd hj (Nat.not_lt_zero j)⟩
    · rintro i σ Hi _ ⟨_, _, rfl, _⟩
      exact SqL.of g1
    · rintro i x σ Hi0 Hi hi ⟨o4, rfl, rfl, gd⟩ ⟨rfl, hx⟩
      have hi4 : i < 4 := hi
      obtain ⟨nm, t, e1, e2, e3⟩ := c4_val hC.lt hi4
      rw [List.getElem?_map, e1] at hx
      obtain rfl : V.str nm = x := Option.some.inj hx
      obtain ⟨v, ev⟩ : ∃ v, vs[i]? = some v := ⟨_, List.getElem?_eq_getElem (by rw [hC.lv]; exact hi4)⟩
      obtain ⟨g, eg⟩ : ∃ g, gs[i]? = some g := ⟨_, List.getElem?_eq_getElem (by rw [hC.lg]; exact hi4)⟩
      have ht := s1 _ _ (hC.at_ i t v g e2 ev eg)
      have hD := s1 _ _ hC.d
      refine ⟨_, rfl, _, rfl, D, _, rfl, dget_of hD e3, t, _, 1, .bl g, rfl, rfl, SqT.of ht, rfl, g, rfl, ?_⟩
      cases g with
      | true =>
        refine iteF ⟨_, rfl, rfl, fun j hj => ?_⟩
        by_cases hji : j < i
        · exact gd j hji
        · have : j = i := by omega
          rw [this]
          exact eg
      | false =>
        refine iteT ?_
        refine ⟨_, rfl, _, rfl, _, rfl, D, _, rfl, dget_of hD e3, t, _, 0, v, rfl, rfl, SqT.of ht, rfl, (by show 4 ≤ sizeLine; decide), fun r hr => ?_⟩
        have ed : dueC vs gs = [tx "care", .str nm, v, .bl true] := by
          unfold dueC
          have ef : (List.range 4).find? (fun i => !(gs.getD i true)) = some i := by
            exact find_first hi4 hC.lg eg gd
          rw [ef]
          show [tx "care", .str (careNs.getD i (Str.ofString "")), vs.getD i .non, .bl true] = _
          rw [List.getD_eq_getElem?_getD, e1, List.getD_eq_getElem?_getD, ev]
          rfl
        refine k _ r (s1.upd (s1.none hr)) (s1.none hr) ?_
        rw [upd_same, ec, ed]
    · rintro σ Hi ⟨o4, rfl, rfl, gd⟩
      refine ⟨(by decide), fun r hr => ?_⟩
      have ed : dueC vs gs = [] := by
        unfold dueC
        have ef : (List.range 4).find? (fun i => !(gs.getD i true)) = none := by
          refine List.find?_eq_none.mpr fun j hj => ?_
          have := gd j (show j < 4 by simpa using hj)
          rw [List.getD_eq_getElem?_getD, this]
          decide
        rw [ef]
      refine k _ r (s1.upd (s1.none hr)) (s1.none hr) ?_
      rw [upd_same, ec, ed]
end
end K50
namespace K50
open PySem PySem.Spec PyProof.Rows L2 FL
abbrev sIs : Stmt := topS 43
abbrev nIs : List Str := ["_law_made", "_law_alphabet_here", "_law_labels_here", "_law_ending", "_law_cares", "_law_told_here", "_law_due_here"]
/-- the class, all that its users need -/
structure RdF (P : Program) (w : World) (K : PySem.W.Frag) (mg : Str → Option Value) (base : Heap) (CS CM CT CC : Addr) where
  C : Addr
  T : RdTxt K mg C
  I : IsT K C
  fi : Addr
  di : FuncData
  mkc : Mk K C fi
  oi : FnOk P w K mg base (L2.CX P w) 4 fi di pInit (spRInitA C CS CM CT CC)
  ki : KBn K di pInit 4 ["sight", "order", "further", "finish"] (fun us ws => us ++ ws) (fun vs zs => vs ++ zs)
  kr : KBn K di pInit 1 ["finish", "further", "order", "sight", "tail", "marks", "signs"] (fun us ws => us ++ ws.reverse) (fun vs zs => vs ++ zs.reverse)
  ds : List Value
  bi : Binds K di pInit ds
  vd : Vals [tx "whole", tx "inner", tx "refuse", tx "refuse"] ds
  p1 : ∃ f g d, PropOf K C "signs" f g ∧ FnOk P w K mg base CX0 1 g d ["self"] (spRG C fun z _ _ _ => .str z) ∧ Binds K d ["self"] []
  p2 : ∃ f g d, PropOf K C "tail" f g ∧ FnOk P w K mg base CX0 1 g d ["self"] (spRG C fun _ _ tl _ => .str tl) ∧ Binds K d ["self"] []
  p3 : ∃ f g d, PropOf K C "depth" f g ∧ FnOk P w K mg base CX0 1 g d ["self"] (spRG C fun _ ms _ _ => .int ((ms.length : Nat) : Int)) ∧ Binds K d ["self"] []
  p4 : ∃ f g d, PropOf K C "sight" f g ∧ FnOk P w K mg base CX0 1 g d ["self"] (spRG C fun _ _ _ c => .str c.si) ∧ Binds K d ["self"] []
  p5 : ∃ f g d, PropOf K C "order" f g ∧ FnOk P w K mg base CX0 1 g d ["self"] (spRG C fun _ _ _ c => .str c.od) ∧ Binds K d ["self"] []
  p6 : ∃ f g d, PropOf K C "further" f g ∧ FnOk P w K mg base CX0 1 g d ["self"] (spRG C fun _ _ _ c => .str c.fu) ∧ Binds K d ["self"] []
  p7 : ∃ f g d, PropOf K C "finish" f g ∧ FnOk P w K mg base CX0 1 g d ["self"] (spRG C fun _ _ _ c => .str c.fi) ∧ Binds K d ["self"] []
  pm : ∃ f d, Meth K C "marks" f ∧ FnOk P w K mg base CX0 1 f d ["self"] (spRMarks C) ∧ Binds K d ["self"] []
  fe : Addr
  de : FuncData
  te : EqT K C fe de
  oe : FnOk P w K mg base CX0 1 fe de ["self", "other"] (spREq C)
def careVs (c : Cares) : List V := [.str c.si, .str c.od, .str c.fu, .str c.fi]
def spIs (C : Addr) : Sp := fun us H Q _ => ∃ (p a D : Addr) (z : Str) (ms : List Str) (tl : Str) (c : Cares) (b : Bool) (ts : List Addr) (gs : List Bool), us = [.ref p, .str z, .ref a, .str tl, .ref D] ∧ ReaderAt C H p z ms tl c ∧ RdOk z ms tl c ∧ H a = some (seqO b (ms.map V.str)) ∧
  CsAt H D ts (careVs c) gs ∧ ∀ H', Same H H' → Q (.bl true) H'
theorem care_plain {z nm v : Str} (az : Abc z) (h : CareOk z nm v) : Plain v := by
  have ws : ∀ x ∈ [Str.ofString "whole", Str.ofString "start", Str.ofString "inner", Str.ofString "outer", Str.ofString "refuse", Str.ofString "close"], ∀ c ∈ x.cps.toList, c < 128 := by decide +kernel
  rcases h with ⟨_, rfl | rfl | ⟨o, _⟩⟩ | ⟨_, rfl | rfl⟩ | ⟨_, rfl | rfl⟩ | ⟨_, rfl | rfl⟩
  · exact ws _ (by simp)
  · exact ws _ (by simp)
  · exact az.plain o
  all_goals exact ws _ (by simp)
section
variable {P : Program} {w : World} {K : PySem.W.Frag} {mg : Str → Option Value} {base : Heap} {CS CM CT CC : Addr}
theorem scIs : FnScope nIs ["_law_made", "_law_alphabet_here", "_law_labels_here", "_law_ending", "_law_cares"] (defScope sIs) := ⟨rfl, rfl, rfl, by decide +kernel, rfl, by decide +kernel, by decide +kernel⟩
theorem ok_is {f : Addr} {fd : FuncData} (F : Fun K "_law_is" "_law_is" sIs f fd) (R : RdF P w K mg base CS CM CT CC) (hs : (K.lookup sysModules).isSome = true) (mR : mg "repr" = none) (mL : mg "list" = none) (mN : mg "len" = none) :
    FnG P w K mg base CX0 5 f fd ["_law_made", "_law_alphabet_here", "_law_labels_here", "_law_ending", "_law_cares"] (spIs R.C) := by
  refine okG F scIs (fun vs H Q E h => ?_) (fun cdv A outer s H vs Q E hr hg h => ?_)
  · obtain ⟨_, _, _, _, _, _, _, _, _, _, rfl, _⟩ := h
    rfl
  · obtain ⟨p, a, D, z, ms, tl, c, b, ts, gs, rfl, hp, ok, ha, hC, k⟩ := h
    have nd := scIs.nd
    have hu := hu_of hr
    have r2 := hr.mono (show 2 ≤ 4 by decide)
    have r1 := hr.mono (show 1 ≤ 4 by decide)
    obtain ⟨f1, g1, d1, q1, o1, b1⟩ := R.p1
    obtain ⟨f2, g2, d2, q2, o2, b2⟩ := R.p2
    obtain ⟨f3, g3, d3, q3, o3, b3⟩ := R.p3
    obtain ⟨f4, g4, d4, q4, o4, b4⟩ := R.p4
    obtain ⟨f5, g5, d5, q5, o5, b5⟩ := R.p5
    obtain ⟨f6, g6, d6, q6, o6, b6⟩ := R.p6
    obtain ⟨f7, g7, d7, q7, o7, b7⟩ := R.p7
    obtain ⟨fm, dm, qm, om, bm⟩ := R.pm
    refine ⟨_, pss_cons (ps_set (i := 5) nd rfl (.inl rfl) (pe_lst (pa_cons (pe_prop (pv 0) R.T.cl q1 o1 r2 b1 .nil pass0 (by rfl)) (pa_cons (pe_meth0 (pv 0) R.T.cl qm om r1 bm .nil pass0) (pa_cons (pe_prop (pv 0) R.T.cl q2 o2 r2 b2 .nil pass0 (by rfl))
        (pa_cons (pe_prop (pv 0) R.T.cl q3 o3 r2 b3 .nil pass0 (by rfl)) (pa_cons (pe_prop (pv 0) R.T.cl q4 o4 r2 b4 .nil pass0 (by rfl)) (pa_cons (pe_prop (pv 0) R.T.cl q5 o5 r2 b5 .nil pass0 (by rfl)) (pa_cons (pe_prop (pv 0) R.T.cl q6 o6 r2 b6 .nil pass0 (by rfl))
        (pa_cons (pe_prop (pv 0) R.T.cl q7 o7 r2 b7 .nil pass0 (by rfl)) pa_nil))))))))))
      (pss_cons (ps_set (i := 6) nd rfl (.inl rfl) (pe_lst (pa_cons (pv 1) (pa_cons (pe_callTy call_list_of (by rfl) mL (by decide +kernel) (pa_cons (pv 2) pa_nil)) (pa_cons (pv 3) (pa_cons (pe_callB callLen (by rfl) mN PySem.boot_len (pa_cons (pv 2) pa_nil)) pa_nil))))))
      (pss_cons (ps_set (i := 6) nd rfl (.inl rfl) (pe_op op_cat (pv 6) (pe_lst (pa_cons (pe_ix ix_tup (pe_dget hu (pv 4) pe_str (fun _ _ => rfl)) pe_int (fun _ _ => rfl)) (pa_cons (pe_ix ix_tup (pe_dget hu (pv 4) pe_str (fun _ _ => rfl)) pe_int (fun _ _ => rfl))
        (pa_cons (pe_ix ix_tup (pe_dget hu (pv 4) pe_str (fun _ _ => rfl)) pe_int (fun _ _ => rfl)) (pa_cons (pe_ix ix_tup (pe_dget hu (pv 4) pe_str (fun _ _ => rfl)) pe_int (fun _ _ => rfl)) pa_nil)))))))
      (pss_one (ps_ret (pe_cmpR op_eq (pe_callB (call_reprD hs hg hr.units) (by rfl) mR (by decide +kernel) (pa_cons (pv 5) pa_nil)) (pe_callB (call_reprD hs hg hr.units) (by rfl) mR (by decide +kernel) (pa_cons (pv 6) pa_nil)) (nomark _)))))), ?_⟩
    have hp' := hp
    obtain ⟨dx, ma, ca, i1, i2, i3⟩ := hp'
    have here : ∀ {val : Str → List Str → Str → Cares → V} {Q' : VK} {H' : Hp} (s : Same H H'), Q' (val z ms tl c) H' → ∃ a dx fs, V.ref p = .ref a ∧ H' a = some (.ins R.C dx fs) ∧ spRG R.C val (.ref a :: []) H' Q' E0 := fun s q => ⟨p, dx, _, rfl, s _ _ i1, p, z, ms, tl, c, rfl, hp.same s, q⟩
    refine ⟨_, rfl, here (Same.refl H) ?_⟩
    refine ⟨_, rfl, p, dx, _, rfl, i1, rflds_no z ma tl ca (by decide +kernel) (by decide +kernel) (by decide +kernel) (by decide +kernel), ?_⟩
    refine ⟨p, z, ms, tl, c, rfl, hp, fun L hL => ?_⟩
    have s1 : Same H (upd H L (.lst (ms.map V.str))) := (Same.refl H).upd hL
    have gL : upd H L (.lst (ms.map V.str)) L = some (.lst (ms.map V.str)) := upd_same
    generalize upd H L (.lst (ms.map V.str)) = H1 at s1 gL ⊢
    refine ⟨_, rfl, here s1 ?_⟩
    refine ⟨_, rfl, here s1 ?_⟩
    refine ⟨_, rfl, here s1 ?_⟩
    refine ⟨_, rfl, here s1 ?_⟩
    refine ⟨_, rfl, here s1 ?_⟩
    refine ⟨_, rfl, here s1 ?_⟩
    refine ⟨(by show 8 ≤ sizeLine; decide), fun T hT => ?_⟩
    have s2 : Same H1 (upd H1 T (.lst [.str z, .ref L, .str tl, .int ((ms.length : Nat) : Int), .str c.si, .str c.od, .str c.fu, .str c.fi])) := (Same.refl H1).upd hT
    have gT : upd H1 T (.lst [.str z, .ref L, .str tl, .int ((ms.length : Nat) : Int), .str c.si, .str c.od, .str c.fu, .str c.fi]) T = some (.lst [.str z, .ref L, .str tl, .int ((ms.length : Nat) : Int), .str c.si, .str c.od, .str c.fu, .str c.fi]) := upd_same
    replace gL := s2 _ _ gL
    generalize upd H1 T (.lst [.str z, .ref L, .str tl, .int ((ms.length : Nat) : Int), .str c.si, .str c.od, .str c.fu, .str c.fi]) = H2 at s2 gL gT ⊢
    have s12 := s1.trans s2
    have ha2 := s12 _ _ ha
    refine ⟨_, rfl, _, rfl, a, ms.map V.str, rfl, (by
      cases b with
      | true => exact .inr (SqT.of ha2)
      | false => exact .inl (SqL.of ha2)), fun M hM => ?_⟩
    have s3 : Same H2 (upd H2 M (.lst (ms.map V.str))) := (Same.refl H2).upd hM
    have gM : upd H2 M (.lst (ms.map V.str)) M = some (.lst (ms.map V.str)) := upd_same
    replace gL := s3 _ _ gL
    replace gT := s3 _ _ gT
    have ha3 := s3 _ _ ha2
    generalize upd H2 M (.lst (ms.map V.str)) = H3 at s3 gL gT gM ha3 ⊢
    refine ⟨_, rfl, _, rfl, _, ms.length, rfl, (by
      cases b with
      | true => exact .inr ⟨_, SqT.of ha3, (List.length_map _).symm⟩
      | false => exact .inl ⟨_, SqL.of ha3, (List.length_map _).symm⟩), (by show 4 ≤ sizeLine; decide), fun N1 hN1 => ?_⟩
    have s4 : Same H3 (upd H3 N1 (.lst [.str z, .ref M, .str tl, .int ((ms.length : Nat) : Int)])) := (Same.refl H3).upd hN1
    have gN : upd H3 N1 (.lst [.str z, .ref M, .str tl, .int ((ms.length : Nat) : Int)]) N1 = some (.lst [.str z, .ref M, .str tl, .int ((ms.length : Nat) : Int)]) := upd_same
    replace gL := s4 _ _ gL
    replace gT := s4 _ _ gT
    replace gM := s4 _ _ gM
    generalize upd H3 N1 (.lst [.str z, .ref M, .str tl, .int ((ms.length : Nat) : Int)]) = H4 at s4 gL gT gM gN ⊢
    have s14 := (s12.trans s3).trans s4
    have hD := s14 _ _ hC.d
    have lg : ∀ i < 4, ∃ g, gs[i]? = some g := fun i hi => ⟨_, List.getElem?_eq_getElem (by rw [hC.lg]; exact hi)⟩
    obtain ⟨_, t0, e0, r0, w0⟩ := c4_val hC.lt (show 0 < 4 by decide)
    obtain ⟨_, t1, e1, r1', w1⟩ := c4_val hC.lt (show 1 < 4 by decide)
    obtain ⟨_, t2, e2, r2', w2⟩ := c4_val hC.lt (show 2 < 4 by decide)
    obtain ⟨_, t3, e3, r3', w3⟩ := c4_val hC.lt (show 3 < 4 by decide)
    cases e0
    cases e1
    cases e2
    cases e3
    obtain ⟨y0, ey0⟩ := lg 0 (by decide)
    obtain ⟨y1, ey1⟩ := lg 1 (by decide)
    obtain ⟨y2, ey2⟩ := lg 2 (by decide)
    obtain ⟨y3, ey3⟩ := lg 3 (by decide)
    have h0 := s14 _ _ (hC.at_ 0 t0 (.str c.si) y0 r0 rfl ey0)
    have h1 := s14 _ _ (hC.at_ 1 t1 (.str c.od) y1 r1' rfl ey1)
    have h2 := s14 _ _ (hC.at_ 2 t2 (.str c.fu) y2 r2' rfl ey2)
    have h3 := s14 _ _ (hC.at_ 3 t3 (.str c.fi) y3 r3' rfl ey3)
    refine ⟨_, rfl, _, rfl, D, _, rfl, dget_of hD w0, t0, _, 0, .str c.si, rfl, rfl, SqT.of h0, rfl, ?_⟩
    refine ⟨_, rfl, D, _, rfl, dget_of hD w1, t1, _, 0, .str c.od, rfl, rfl, SqT.of h1, rfl, ?_⟩
    refine ⟨_, rfl, D, _, rfl, dget_of hD w2, t2, _, 0, .str c.fu, rfl, rfl, SqT.of h2, rfl, ?_⟩
    refine ⟨_, rfl, D, _, rfl, dget_of hD w3, t3, _, 0, .str c.fi, rfl, rfl, SqT.of h3, rfl, ?_⟩
    refine ⟨(by show 4 ≤ sizeLine; decide), fun N2 hN2 => ?_⟩
    have s5 : Same H4 (upd H4 N2 (.lst [.str c.si, .str c.od, .str c.fu, .str c.fi])) := (Same.refl H4).upd hN2
    have gN2 : upd H4 N2 (.lst [.str c.si, .str c.od, .str c.fu, .str c.fi]) N2 = some (.lst [.str c.si, .str c.od, .str c.fu, .str c.fi]) := upd_same
    replace gL := s5 _ _ gL
    replace gT := s5 _ _ gT
    replace gM := s5 _ _ gM
    replace gN := s5 _ _ gN
    generalize upd H4 N2 (.lst [.str c.si, .str c.od, .str c.fu, .str c.fi]) = H5 at s5 gL gT gM gN gN2 ⊢
    refine ⟨N1, N2, _, _, rfl, rfl, gN, gN2, (by show 8 ≤ sizeLine; decide), fun N3 hN3 => ?_⟩
    have s6 : Same H5 (upd H5 N3 (.lst [.str z, .ref M, .str tl, .int ((ms.length : Nat) : Int), .str c.si, .str c.od, .str c.fu, .str c.fi])) := (Same.refl H5).upd hN3
    have gN3 : upd H5 N3 (.lst [.str z, .ref M, .str tl, .int ((ms.length : Nat) : Int), .str c.si, .str c.od, .str c.fu, .str c.fi]) N3 = some (.lst [.str z, .ref M, .str tl, .int ((ms.length : Nat) : Int), .str c.si, .str c.od, .str c.fu, .str c.fi]) := upd_same
    have gL6 := s6 _ _ gL
    have gT6 := s6 _ _ gT
    have gM6 := s6 _ _ gM
    have s16 := (s14.trans s5).trans s6
    have lo := ok.ms.lo
    have hi3 := ok.ms.hi
    have plain : ∀ y : Str, Over z y → y.length ≤ 20 → Sz 1 1000 (.str y) := fun y o l => (Sz.str (ok.az.plain o)).mono (by decide) (by omega)
    have dq : ∀ {G : Hp} {A : Addr}, G A = some (.lst (ms.map V.str)) → Dq G (.ref A) (.list (ms.map PyData.str)) := fun {G A} e => .lst e (by
      clear gL6 gT6 gM6 gN3 hN3 gN2 gN gM gT gL hN2 hM hL hT ha3 ha2 ha hi3 lo
      generalize ms = l at e ⊢
      clear e
      induction l with
      | nil => exact .nil
      | cons x l ih => exact .cons (.str x) ih)
    have dd : ∀ {G : Hp} {A B : Addr}, G A = some (.lst (ms.map V.str)) → G B = some (.lst [.str z, .ref A, .str tl, .int ((ms.length : Nat) : Int), .str c.si, .str c.od, .str c.fu, .str c.fi]) →
        Dq G (.ref B) (.list [.str z, .list (ms.map PyData.str), .str tl, .int ((ms.length : Nat) : Int), .str c.si, .str c.od, .str c.fu, .str c.fi]) := fun e1 e2 =>
      .lst e2 (.cons (.str _) (.cons (dq e1) (.cons (.str _) (.cons (.int _) (.cons (.str _) (.cons (.str _) (.cons (.str _) (.cons (.str _) .nil))))))))
    have nice : NiceD (.list [.str z, .list (ms.map PyData.str), .str tl, .int ((ms.length : Nat) : Int), .str c.si, .str c.od, .str c.fu, .str c.fi]) := by
      have zi : Sz 2 1000 (.int ((ms.length : Nat) : Int)) := by
        generalize ms.length = n at lo hi3
        match n, lo, hi3 with
        | 1, _, _ => exact ⟨by decide +kernel, by decide +kernel, by decide +kernel⟩
        | 2, _, _ => exact ⟨by decide +kernel, by decide +kernel, by decide +kernel⟩
        | 3, _, _ => exact ⟨by decide +kernel, by decide +kernel, by decide +kernel⟩
      have zc : ∀ q ∈ caresL c, Sz 2 1000 (.str q.2) := fun q hq => (Sz.str (care_plain ok.az (ok.ca.all q hq))).mono (by decide) (by have := (ok.ca.all q hq).len; omega)
      have zm : Sz 2 1000 (.list (ms.map PyData.str)) := by
        have l := SzL.allL (k := 1) (m := 122) (ds := ms.map PyData.str) fun d hd => by
          obtain ⟨m, hm, rfl⟩ := List.mem_map.mp hd
          exact (Sz.str (ok.az.plain (ok.ms.ov m hm))).mono (by decide) (by have := ok.ms.l2 m hm; omega)
        refine (Sz.list l).mono (by decide) ?_
        rw [List.length_map]
        omega
      have zz := plain z (fun _ h => h) (by have := ok.az.hi; omega)
      have zt := plain tl ok.tl.ov (by have := ok.tl.l2; omega)
      refine (Sz.list (SzL.allL (k := 2) (m := 1000) fun d hd => ?_)).nice (by decide) (by show (1000 + 2) * 8 + 2 ≤ 16777216; decide)
      simp only [List.mem_cons, List.mem_nil_iff, or_false] at hd
      rcases hd with rfl | rfl | rfl | rfl | rfl | rfl | rfl | rfl
      · exact zz.mono (by decide) (by decide)
      · exact zm
      · exact zt.mono (by decide) (by decide)
      · exact zi
      · exact zc (Str.ofString "sight", c.si) (by simp [caresL])
      · exact zc (Str.ofString "order", c.od) (by simp [caresL])
      · exact zc (Str.ofString "further", c.fu) (by simp [caresL])
      · exact zc (Str.ofString "finish", c.fi) (by simp [caresL])
    refine ⟨_, rfl, _, _, rfl, dd gL6 gT6, nice, _, rfl, _, _, rfl, dd gM6 gN3, nice, rfl, ?_⟩
    show Q (.bl (decide (_ = _))) _
    rw [decide_eq_true rfl]
    exact k _ s16
end
end K50
namespace K50
open PySem PySem.Spec PyProof.Rows L2 FL
/-- (value, whether it is right) of a tail -/
def EndAt (H : Hp) (p t : Addr) (z : Str) (e : V) (ge : Bool) (d : PyData) : Prop := t ≠ p ∧ H t = some (.tup [e, .bl ge]) ∧ Odv H p e d ∧ (ge = false → boxB 3 z e = false) ∧ (ge = true → ∃ y, e = .str y ∧ TailOk z y)
theorem EndAt.bx {H H' : Hp} {p t : Addr} {z : Str} {e : V} {ge : Bool} {d : PyData} (h : EndAt H p t z e ge d) (b : ByX p H H') : EndAt H' p t z e ge d := ⟨h.1, b _ _ h.2.1 h.1 not_tbl_t, h.2.2.1.bx b, h.2.2.2⟩
theorem CsAt.bx {H H' : Hp} {p D : Addr} {ts : List Addr} {vs : List V} {gs : List Bool} (h : CsAt H D ts vs gs) (nD : D ≠ p) (nt : ∀ t ∈ ts, t ≠ p) (b : ByX p H H') : CsAt H' D ts vs gs :=
  ⟨h.lt, h.lv, h.lg, b _ _ h.d nD not_tbl_d, fun i t v g h1 h2 h3 => b _ _ (h.at_ i t v g h1 h2 h3) (nt t (List.mem_of_getElem? h1)) not_tbl_t⟩
/-- all that a law's turn has drawn -/
structure Rdy (G : Hp) (p tA tL tE D : Addr) (z : Str) (va m pos e : V) (ga ge : Bool) (ts : List Addr) (vs : List V) (gs : List Bool) (da dm de : PyData) : Prop where
  hz : z ∈ alphaL
  A : AlphaAt G p tA va ga da
  az : ga = true → va = .str z
  L : LabAt G p tL z m pos dm
  E : EndAt G p tE z e ge de
  nD : D ≠ p
  C : CsAt G D ts vs gs
  nt : ∀ t ∈ ts, t ≠ p
  cv : ∀ v ∈ vs, ∃ d, Odv G p v d
  cb : ∀ (i : Nat) (v : V), vs[i]? = some v → gs[i]? = some false → careT v = true
  cg : ∀ (i : Nat) (v : V), vs[i]? = some v → gs[i]? = some true → ∃ nm x, careNs[i]? = some nm ∧ v = .str x ∧ CareOk z nm x
theorem Rdy.bx {G G' : Hp} {p tA tL tE D : Addr} {z : Str} {va m pos e : V} {ga ge : Bool} {ts : List Addr} {vs : List V} {gs : List Bool} {da dm de : PyData} (h : Rdy G p tA tL tE D z va m pos e ga ge ts vs gs da dm de) (b : ByX p G G') :
    Rdy G' p tA tL tE D z va m pos e ga ge ts vs gs da dm de :=
  ⟨h.hz, h.A.bx b, h.az, h.L.bx b, h.E.bx b, h.nD, h.C.bx h.nD h.nt b, h.nt, fun v hv => by
    obtain ⟨d, o⟩ := h.cv v hv
    exact ⟨d, o.bx b⟩, h.cb, h.cg⟩
theorem odv_any {H : Hp} {p : Addr} {v : V} {d : PyData} (h : Odv H p v d) : AnyS H v := ⟨h.dr.any, h.short⟩
/-- which error with which fields is told as what -/
def MatchE (CS CM CT CC C : Addr) (fs : List (Str × V)) (xs : List V) : Prop :=
  (C = CS ∧ ∃ v, fs = [(vN, v)] ∧ xs = [tx "signs", v, .bl true]) ∨ (C = CM ∧ ∃ v, fs = [(pN, v)] ∧ xs = [tx "marks", v, .bl true]) ∨ (C = CT ∧ ∃ v, fs = [(vN, v)] ∧ xs = [tx "tail", v, .bl true]) ∨
    (C = CC ∧ ∃ u v, fs = [(vN, v), (nmN, u)] ∧ xs = [tx "care", u, v, .bl true])
theorem alpha_pool : ∀ z ∈ alphaL, z.cps.toList.Pairwise (· < ·) ∧ ∀ c ∈ z.cps.toList, c ∈ poolCodes := by decide +kernel
theorem alpha_abc {z : Str} (h : z ∈ alphaL) : Abc z := by
  obtain ⟨_, l2, l4, _⟩ := alpha_ok z h
  obtain ⟨h1, h2⟩ := alpha_pool z h
  exact ⟨l2, l4, h1, h2⟩
theorem careOk_B {z nm x : Str} (h : CareOk z nm x) : careB z nm (.str x) = true := by
  have w1 : wordB (.str (Str.ofString "whole")) sightWs = true ∧ wordB (.str (Str.ofString "start")) sightWs = true ∧ wordB (.str (Str.ofString "inner")) orderWs = true ∧ wordB (.str (Str.ofString "outer")) orderWs = true ∧ wordB (.str (Str.ofString "refuse")) closeWs = true ∧ wordB (.str (Str.ofString "close")) closeWs = true := by decide +kernel
  obtain ⟨a1, a2, a3, a4, a5, a6⟩ := w1
  unfold careB
  rcases h with ⟨rfl, h⟩ | ⟨rfl, h⟩ | ⟨rfl, h⟩ | ⟨rfl, h⟩
  · rw [if_pos rfl]
    unfold sightB
    rcases h with rfl | rfl | ⟨o, l⟩
    · rw [a1]
      rfl
    · rw [a2]
      rfl
    · have e : lenB 1 1 (.str x) = true := by
        show (decide (1 ≤ x.length) && decide (x.length ≤ 1)) = true
        rw [l]
        rfl
      rw [over_line o, e]
      simp
  · rw [if_neg (fun q => nk1 q.symm), if_pos rfl]
    rcases h with rfl | rfl <;> assumption
  · rw [if_neg (fun q => nk2 q.symm), if_neg (fun q => nk4 q.symm)]
    rcases h with rfl | rfl <;> assumption
  · rw [if_neg (fun q => nk3 q.symm), if_neg (fun q => nk5 q.symm)]
    rcases h with rfl | rfl <;> assumption
theorem marks_mk {z : Str} {ms : List Str} (om : MarksOk z ms) : ∀ i, i < (ms.map V.str).length → mkB z (ms.map V.str) i = true := fun i hi => mk_ok (fun m hm => ⟨om.ov m hm, om.l1 m hm, om.l2 m hm⟩) om.nd (by rwa [List.length_map] at hi)
theorem dueC_nil {vs : List V} {gs : List Bool} (l : gs.length = 4) (h : dueC vs gs = []) : ∀ i, i < 4 → gs[i]? = some true := by
  unfold dueC at h
  cases e : (List.range 4).find? (fun i => !(gs.getD i true)) with
  | some i =>
    rw [e] at h
    cases h
  | none =>
    intro i hi
    have := List.find?_eq_none.mp e i (List.mem_range.mpr hi)
    cases q : gs[i]? with
    | none =>
      rw [List.getElem?_eq_none_iff] at q
      omega
    | some g =>
      rw [List.getD_eq_getElem?_getD, q] at this
      cases g with
      | true => rfl
      | false => exact absurd rfl this
theorem made_ok {C CS CM CT CC p tA tL tE D x dx : Addr} {z : Str} {va m pos e : V} {ga ge : Bool} {ts : List Addr} {s o f e' : V} {gs : List Bool} {da dm de : PyData} {H : Hp} {Q : VK} {E : XK} (rd : Rdy H p tA tL tE D z va m pos e ga ge ts [s, o, f, e'] gs da dm de) (hx : H x = some (.ins C dx []))
    (kE : ∀ Cc fs, MatchE CS CM CT CC Cc fs (dueL va ga pos e ge [s, o, f, e'] gs) → ∀ H' d, Same H H' → H' d = none → E (.ref Cc) (some d) (upd H' d (.xd fs)))
    (kQ : dueL va ga pos e ge [s, o, f, e'] gs = [] → ∀ (a : Addr) (b : Bool) (ms : List Str) (tl : Str) (c : Cares), va = .str z → m = .ref a → H a = some (seqO b (ms.map V.str)) → e = .str tl → [s, o, f, e'] = careVs c → RdOk z ms tl c → ∀ H', ReaderAt C H' x z ms tl c → But x H H' → Q .non H') :
    spRInitA C CS CM CT CC [.ref x, va, m, e, s, o, f, e'] H Q E := by
  refine ⟨x, dx, va, m, e, s, o, f, e', rfl, hx, ?_⟩
  obtain ⟨nA, hA, oA, bA, gA⟩ := rd.A
  cases ga with
  | false =>
    refine .inl ⟨odv_any oA, bA rfl, fun H' d s1 hd => kE CS _ (.inl ⟨rfl, va, rfl, rfl⟩) H' d s1 hd⟩
  | true =>
  have eva := rd.az rfl
  subst eva
  obtain ⟨zs, z2, z4, _⟩ := alpha_ok z rd.hz
  refine .inr ⟨z, rfl, by omega, zs, ?_⟩
  obtain ⟨nL, hL, dL, shL, szL, res⟩ := rd.L
  have items : ∀ {a : Addr} {b : Bool} {xs : List V}, m = .ref a → H a = some (seqO b xs) → (∀ x ∈ xs, Short x) → ∀ x ∈ xs, AnyS H x := fun {a b xs} e1 e2 sh y hy => by
    rw [e1] at dL
    have all : ∃ ds, DrAll H p xs ds := by
      cases dL with
      | lst _ g h =>
        rw [g] at e2
        cases b <;> cases e2
        exact ⟨_, h⟩
      | tup _ g h =>
        rw [g] at e2
        cases b <;> cases e2
        exact ⟨_, h⟩
      | dct _ g _ _ =>
        rw [g] at e2
        cases b <;> cases e2
    obtain ⟨ds, all⟩ := all
    obtain ⟨d, h⟩ := DrAll.get all y hy
    exact ⟨h.any, sh y hy⟩
  have badM : pos ≠ .int (-1) → ∀ H' d, Same H H' → H' d = none → E (.ref CM) (some d) (upd H' d (.xd [(pN, pos)])) := fun hp H' d s1 hd =>
    kE CM _ (.inr (.inl ⟨rfl, pos, rfl, by unfold dueL; rw [if_neg (by decide), if_pos hp]⟩)) H' d s1 hd
  rcases res with ⟨rfl, a, b, ms, rfl, na, ha, om⟩ | ⟨sq, rfl⟩ | ⟨a, b, xs, rfl, na, ha, sh, l4, hw⟩
  · refine .inr ⟨ms.map V.str, ⟨a, b, rfl, ha, items rfl ha (fun y hy => ?_), by rw [List.length_map]; exact om.lo, by rw [List.length_map]; exact om.hi, marks_mk om⟩, ?_⟩
    · obtain ⟨m', hm, rfl⟩ := List.mem_map.mp hy
      have := om.l2 m' hm
      exact fun u e => by cases e; show m'.length ≤ 16777216; omega
    obtain ⟨nE, hE, oE, bE, gE⟩ := rd.E
    cases ge with
    | false =>
      refine .inl ⟨odv_any oE, bE rfl, fun H' d s1 hd => kE CT _ (.inr (.inr (.inl ⟨rfl, e, rfl, by unfold dueL; rw [if_neg (by decide), if_neg (fun q => q rfl), if_pos rfl]⟩))) H' d s1 hd⟩
    | true =>
    obtain ⟨tl, rfl, ot⟩ := gE rfl
    have ed : dueL (.str z) true (.int (-1)) (.str tl) true [s, o, f, e'] gs = dueC [s, o, f, e'] gs := by
      unfold dueL
      rw [if_neg (by decide), if_neg (fun q => q rfl), if_neg (by decide)]
    have t3 := ot.l2
    have fact : ∀ (i : Nat) (q : Str × V), (carV s o f e')[i]? = some q → ∃ v, [s, o, f, e'][i]? = some v ∧ careNs[i]? = some q.1 ∧ q.2 = v ∧ i < 4 := fun i q hq => by
      match i, hq with
      | 0, hq => cases hq; exact ⟨_, rfl, rfl, rfl, by decide⟩
      | 1, hq => cases hq; exact ⟨_, rfl, rfl, rfl, by decide⟩
      | 2, hq => cases hq; exact ⟨_, rfl, rfl, rfl, by decide⟩
      | 3, hq => cases hq; exact ⟨_, rfl, rfl, rfl, by decide⟩
    have lg := rd.C.lg
    have right : ∀ (i : Nat) (q : Str × V), (carV s o f e')[i]? = some q → (gs[i]? = some true ↔ careB z q.1 q.2 = true) := fun i q hq => by
      obtain ⟨v, h1, h2, h3, hi⟩ := fact i q hq
      constructor
      · intro hg
        obtain ⟨nm, y, e1, e2, ok⟩ := rd.cg i v h1 hg
        rw [h2] at e1
        cases e1
        rw [h3, e2]
        exact careOk_B ok
      · intro hc
        cases hg : gs[i]? with
        | none =>
          rw [List.getElem?_eq_none_iff] at hg
          omega
        | some g =>
          cases g with
          | true => rfl
          | false =>
            have := careT_ok (rd.cb i v h1 hg) z rd.hz q.1 (List.mem_of_getElem? h2)
            rw [h3, this] at hc
            cases hc
    refine .inr ⟨tl, rfl, by omega, box_ok ot.ov ot.l1 ot.l2, fun q hq => ?_, fun i q hq g b' H' d s1 hd => ?_, fun g H' ra b' => ?_⟩
    · obtain ⟨j, hj, ej⟩ := List.getElem_of_mem hq
      obtain ⟨v, h1, h2, h3, _⟩ := fact j q (by rw [List.getElem?_eq_getElem hj, ej])
      obtain ⟨d, od⟩ := rd.cv v (List.mem_of_getElem? h1)
      rw [h3]
      exact odv_any od
    · obtain ⟨v, h1, h2, h3, hi⟩ := fact i q hq
      refine kE CC _ (.inr (.inr (.inr ⟨rfl, .str q.1, q.2, rfl, ?_⟩))) H' d s1 hd
      rw [ed]
      have gi : gs[i]? = some false := by
        cases hg : gs[i]? with
        | none =>
          rw [List.getElem?_eq_none_iff] at hg
          omega
        | some gg =>
          cases gg with
          | false => rfl
          | true =>
            rw [(right i q hq).mp hg] at b'
            cases b'
      have gj : ∀ j, j < i → gs[j]? = some true := fun j hj => by
        have : ∃ q', (carV s o f e')[j]? = some q' := ⟨_, List.getElem?_eq_getElem (show j < 4 by omega)⟩
        obtain ⟨q', hq'⟩ := this
        exact (right j q' hq').mpr (g j q' hj hq')
      unfold dueC
      rw [find_first hi lg gi gj]
      show [tx "care", .str (careNs.getD i (Str.ofString "")), [s, o, f, e'].getD i .non, .bl true] = _
      rw [List.getD_eq_getElem?_getD, h2, List.getD_eq_getElem?_getD, h1, h3]
      rfl
    · have gt : ∀ (i : Nat) (q : Str × V), (carV s o f e')[i]? = some q → gs[i]? = some true := fun i q hq => (right i q hq).mpr (g q (List.mem_of_getElem? hq))
      have i0 := gt 0 _ rfl
      have i1 := gt 1 _ rfl
      have i2 := gt 2 _ rfl
      have i3 := gt 3 _ rfl
      obtain ⟨n0, y0, e0, rfl, k0⟩ := rd.cg 0 s rfl i0
      obtain ⟨n1, y1, e1, rfl, k1⟩ := rd.cg 1 o rfl i1
      obtain ⟨n2, y2, e2, rfl, k2⟩ := rd.cg 2 f rfl i2
      obtain ⟨n3, y3, e3, rfl, k3⟩ := rd.cg 3 e' rfl i3
      cases e0
      cases e1
      cases e2
      cases e3
      have co : CaresOk z ⟨y0, y1, y2, y3⟩ := ⟨fun q hq => by
        simp only [caresL, List.mem_cons, List.mem_nil_iff, or_false] at hq
        rcases hq with rfl | rfl | rfl | rfl <;> assumption⟩
      refine kQ ?_ a b ms tl ⟨y0, y1, y2, y3⟩ rfl rfl ha rfl rfl ⟨alpha_abc rd.hz, om, ot, co⟩ H' ra b'
      rw [ed]
      have lg' := lg
      match gs, lg', i0, i1, i2, i3 with
      | [_, _, _, _], _, i0, i1, i2, i3 =>
        cases i0
        cases i1
        cases i2
        cases i3
        rfl
  · obtain ⟨n, an, hn⟩ := Dr.kind dL
    exact .inl ⟨.non, .inl ⟨n, an, by rw [hn, sq], rfl⟩, badM (by intro q; cases q)⟩
  · have hpos : pos ≠ .int (-1) := by
      rcases hw with ⟨_, rfl⟩ | ⟨_, _, i, _, _, _, rfl⟩
      · intro q
        cases q
      · intro q
        have := V.int.inj q
        omega
    exact .inl ⟨pos, .inr ⟨a, b, xs, rfl, ha, by omega, items rfl ha sh, hw⟩, badM hpos⟩
end K50
namespace FL
open PySem PySem.Spec PyProof.Rows L2
/-! ### xs != [], whatever stands in xs; d[k] = v as one of several targets -/
def rNeNil : R2 := fun x y H Q => ∃ a b xs, x = .ref a ∧ y = .ref b ∧ H a = some (.lst xs) ∧ H b = some (.lst []) ∧ Q (.bl (!xs.isEmpty)) H
theorem op_neNil {X : Cx} (hu : X.A.units + 64 < cLine) : OpR X (compareOp .NotEq) rNeNil := by
  intro pins s σ H x y v u Q I rx ry h
  obtain ⟨a, b, xs, rfl, rfl, ha, hb, q⟩ := h
  obtain rfl : v = Value.ref a := rx
  obtain rfl : u = Value.ref b := ry
  obtain ⟨us, r1, p1, _⟩ := I.list (SqL.of (K := X.K) ha)
  obtain ⟨ws, r2, p2, _⟩ := I.list (SqL.of (K := X.K) hb)
  cases r2
  cases xs with
  | nil =>
    cases r1
    obtain ⟨o1, n1, e1, c1, _, d1⟩ := p1
    obtain ⟨o2, n2, e2, c2, _, d2⟩ := p2
    exact SeqAt.compareNe_shaped (da := .list []) (db := .list []) (Reads.list e1 c1 d1 .nil) (Reads.list e2 c2 d2 .nil) rfl rfl hu ⟨.bl _, H, I, rfl, q⟩
  | cons x xs =>
    have hl := r1.length
    refine SeqAt.RcNeAt.lists_lengths p1.isList p2.isList ?_ (by omega) X.prog X.w _ _ ⟨.bl _, H, I, rfl, q⟩
    rw [List.size_toArray, List.size_toArray, ← hl]
    rfl
def rSetD : V → V → V → Hp → (Hp → Prop) → Prop := fun o i v H Q => ∃ a H', o = .ref a ∧ DPut H a i v H' ∧ Q H'
theorem set_dK {X : Cx} (hu : X.A.units + 1 < cLine) : PSet X rSetD := by
  intro pins s σ H o i v ov iv u Q I ro ri rv h
  obtain ⟨a, H', rfl, g, q⟩ := h
  obtain rfl : ov = Value.ref a := ro
  exact d_setItem hu I g ri rv fun s' J => ⟨H', J, q⟩
end FL
namespace K50
open PySem PySem.Spec PyProof.Rows L2 FL
open LamX
abbrev sRight : Stmt := topS 44
abbrev nRight : List Str := ["_law_pot_here", "_law_alphabet_here", "_law_letters", "_law_labels_here", "_law_ending", "_law_cares", "_law_due_here", "_law_kept", "_law_way_seen", "_law_way_asked", "_law_way_far", "_law_way_done", "_law_told_here", "_law_plain", "_law_usual", "_law_label", "_law_one_told"]
abbrev ritQ : Str := ((Str.ofString "_law_right") ++ (Str.ofString ".<locals>.")) ++ (Str.ofString "<lambda>")
def spRight (T : List (Addr × Str)) : Sp := fun vs H Q _ => ∃ p : Addr, vs = [.ref p] ∧ PotAt H p ∧ Tabs T H ∧ ∀ H', PotAt H' p → ByX p H H' → Tabs T H' → Q (.bl true) H'
theorem scRight : FnScope nRight ["_law_pot_here"] (defScope sRight) := ⟨rfl, rfl, rfl, by decide +kernel, rfl, by decide +kernel, by decide +kernel⟩
section
variable {X : Cx}
theorem pe_told {g c P0 CS CM CT CC CB : Addr} {gd : FuncData} {k : Nat} {params : Arguments} {body : Expr} {scope : Scope} {t : XK → TE} {p lpos pos : Pos} (FH : Fun X.K "_law_told" "_law_told" sTold g gd) (bH : L2.Binds X.K gd ["_law_deed"] []) (hg : Gl X "_law_told") (hm : X.mg "_law_told" = some (.ref g))
    (T : ErF X.K X.mg CS CM CT CC CB) (hr : Room (k + 2) X.A) (mI : X.mg "isinstance" = none) (mV : X.mg "ValueError" = none)
    (TB : TabB X.base X.mg c P0) (hcode : X.env.code = .ref c) (L : LamS X.env.scope scope) (hdef : defaultsOf params X.env = ([], []))
    (hbind : ∀ (q : Str) (cl : List (Str × Addr)) (pm cv ctv : Value), bindArgs (PySem.W.kla_fn "<lambda>" q params body scope cl pm cv ctv) ⟨[], []⟩ = pure [])
    (hbody : ∀ (A : Around) (outer : List Env) (s : Shared) (H : Hp) (E : XK) (f c' : Addr), Room k (A.deeper (lamEnv X scope s.heap.objs.size f c')) → PE (lamCx X A outer s H E scope f c') body (t E)) :
    PE X (.Call (.Name "_law_told" p) [.Lambda params body scope lpos] [] pos) (tLam [(P0, X.env.qual ++ "<lambda>")] (TTh CS CM CT CC) t) := by
  obtain ⟨oc, od, kV, doc, pm, an, cdv, ct, osl, rfl, lk, hc⟩ := FH.ex
  exact pe_lamcall hg hm FH.kp lk hc bH scTold rfl (by first | exact .inl rfl | exact .inr (.inl rfl)) (told_gives T mI mV) TB hcode List.mem_cons_self (fun q hq _ => by rw [List.mem_singleton.mp hq]) hr L hdef hbind hbody
/-- what the lambda's body lets out is what is wished -/
theorem ix_tupK {X : Cx} {K : PySem.W.Frag} (hK : X.K = K) : IxR X (rIxT K) := hK ▸ ix_tup
theorem pass_lam {A : Around} {outer : List Env} {s : Shared} {H : Hp} {E : XK} {scope : Scope} {f c' : Addr} : Passes (L2.CX X.prog X.w) (lamCx X A outer s H E scope f c') E :=
  passes_call (W := fun cls d _ H => E cls d H) (takes_of rfl rfl rfl rfl) fun _ _ _ _ h => h
end
theorem tabs_updD {T : List (Addr × Str)} {H : Hp} {D : Addr} {kvs : List (Key × V)} {o : HO} (t : Tabs T H) (hD : H D = some (.dK kvs)) : Tabs T (upd H D o) := fun q hq => by
  obtain ⟨ps, h1, h2, h3⟩ := t q hq
  have ne : ∀ {c : Addr} {u : HO}, H c = some u → u ≠ .dK kvs → c ≠ D := fun e n z => by
    rw [z, hD] at e
    exact n (Option.some.inj e).symm
  refine ⟨ps, by rw [upd_ne (ne h1 fun z => nomatch z)]; exact h1, h2, fun pos cv hc => ?_⟩
  obtain ⟨c, e1, e2⟩ := h3 pos cv hc
  exact ⟨c, e1, by rw [upd_ne (ne e2 fun z => by unfold CodeO at z; cases z)]; exact e2⟩
theorem byX_updD {p D : Addr} {Hm H' : Hp} {o : HO} (b : ByX p Hm H') (n : Hm D = none) : ByX p Hm (upd H' D o) := fun c u e hc ht => by
  rw [upd_ne (ne_of_none e n)]
  exact b c u e hc ht
theorem puts (t1 t2 t3 t4 : V) :
    putK ([] : List (Key × V)) (Sum.inr (Str.ofString "sight")) t1 = [(Sum.inr (Str.ofString "sight"), t1)] ∧
    putK [((Sum.inr (Str.ofString "sight") : Key), t1)] (Sum.inr (Str.ofString "order")) t2 = [(Sum.inr (Str.ofString "sight"), t1), (Sum.inr (Str.ofString "order"), t2)] ∧
    putK [((Sum.inr (Str.ofString "sight") : Key), t1), (Sum.inr (Str.ofString "order"), t2)] (Sum.inr (Str.ofString "further")) t3 = [(Sum.inr (Str.ofString "sight"), t1), (Sum.inr (Str.ofString "order"), t2), (Sum.inr (Str.ofString "further"), t3)] ∧
    putK [((Sum.inr (Str.ofString "sight") : Key), t1), (Sum.inr (Str.ofString "order"), t2), (Sum.inr (Str.ofString "further"), t3)] (Sum.inr (Str.ofString "finish")) t4 = carK t1 t2 t3 t4 :=
  ⟨putK_new _ rfl, putK_new _ (by rw [valV_neg (keyN nk1)]; rfl), putK_new _ (by rw [valV_neg (keyN nk2), valV_neg (keyN nk4)]; rfl), putK_new _ (by rw [valV_neg (keyN nk3), valV_neg (keyN nk5), valV_neg (keyN nk6)]; rfl)⟩
def posD : V → PyData
  | .int i => .int i
  | _ => .none
theorem lab_pos {H : Hp} {p : Addr} {z : Str} {m pos : V} {d : PyData} (h : LabRes H p z m pos d) : (pos = .non ∨ ∃ i, pos = .int i) ∧ Sz 0 100 (posD pos) := by
  have ii : ∀ i : Nat, i < 4 → Sz 0 100 (posD (.int (i : Nat))) := fun i hi => by
    match i, hi with
    | 0, _ => exact ⟨by decide +kernel, by decide +kernel, by decide +kernel⟩
    | 1, _ => exact ⟨by decide +kernel, by decide +kernel, by decide +kernel⟩
    | 2, _ => exact ⟨by decide +kernel, by decide +kernel, by decide +kernel⟩
    | 3, _ => exact ⟨by decide +kernel, by decide +kernel, by decide +kernel⟩
  have nn0 : Sz 0 100 (posD .non) := ⟨by decide +kernel, by decide +kernel, by decide +kernel⟩
  rcases h with ⟨rfl, _⟩ | ⟨_, rfl⟩ | ⟨_, _, _, _, _, _, _, _, ⟨_, rfl⟩ | ⟨l1, l3, i, hi, _, _, rfl⟩⟩
  · exact ⟨.inr ⟨_, rfl⟩, ⟨by decide +kernel, by decide +kernel, by decide +kernel⟩⟩
  · exact ⟨.inl rfl, nn0⟩
  · exact ⟨.inl rfl, nn0⟩
  · exact ⟨.inr ⟨_, rfl⟩, ii i (by omega)⟩
theorem pos_dq {H : Hp} {pos : V} (h : pos = .non ∨ ∃ i, pos = .int i) : Dq H pos (posD pos) := by
  rcases h with rfl | ⟨i, rfl⟩
  · exact .non
  · exact .int i
def keptD (da dm de pd : PyData) (ga ge : Bool) : PyData := .list [.tuple [da, .bool ga], .tuple [dm, pd], .tuple [de, .bool ge]]
theorem Rdy.kept {G : Hp} {p tA tL tE D : Addr} {z : Str} {va m pos e : V} {ga ge : Bool} {ts : List Addr} {vs : List V} {gs : List Bool} {da dm de : PyData} (h : Rdy G p tA tL tE D z va m pos e ga ge ts vs gs da dm de) {L : Addr} (g : G L = some (.lst [.ref tA, .ref tL, .ref tE])) :
    Dq G (.ref L) (keptD da dm de (posD pos) ga ge) ∧ NiceD (keptD da dm de (posD pos) ga ge) := by
  obtain ⟨_, gA, oA, _⟩ := h.A
  obtain ⟨_, gL, dL, _, sL, rL⟩ := h.L
  obtain ⟨_, gE, oE, _⟩ := h.E
  obtain ⟨hp, sp⟩ := lab_pos rL
  refine ⟨.lst g (.cons (.tup gA (.cons oA.dr.dq (.cons (.bl ga) .nil))) (.cons (.tup gL (.cons dL.dq (.cons (pos_dq hp) .nil))) (.cons (.tup gE (.cons oE.dr.dq (.cons (.bl ge) .nil))) .nil))), ?_⟩
  have t2 : ∀ {a b : PyData}, Sz 4 5000 a → Sz 4 5000 b → Sz 5 10010 (.tuple [a, b]) := fun h1 h2 => (Sz.tuple (SzL.cons h1 (SzL.cons h2 SzL.nil))).mono (by decide) (by decide)
  have bl : ∀ b, Sz 4 5000 (.bool b) := fun b => (Sz.bool b).mono (by decide) (by decide)
  exact (Sz.list (SzL.cons (t2 (oA.sz.mono (by decide) (by decide)) (bl ga)) (SzL.cons (t2 sL (sp.mono (by decide) (by decide))) (SzL.cons (t2 (oE.sz.mono (by decide) (by decide)) (bl ge)) SzL.nil)))).nice (by decide) (by decide)
/-- a right reader, all of whose parts lie apart from the pot -/
def ReadAt (C p : Addr) (H : Hp) (x : Addr) (z : Str) (m e : V) (vs : List V) : Prop := ∃ (a : Addr) (b : Bool) (ms : List Str) (tl : Str) (c : Cares) (dx ma ca : Addr), m = .ref a ∧ a ≠ p ∧ H a = some (seqO b (ms.map V.str)) ∧ e = .str tl ∧ vs = careVs c ∧ RdOk z ms tl c ∧
  x ≠ p ∧ ma ≠ p ∧ ca ≠ p ∧ H x = some (.ins C dx (rflds z ma tl ca)) ∧ H ma = some (.lst (ms.map V.str)) ∧ H ca = some (.dK (caresK c))
theorem ReadAt.bx {C p : Addr} {H H' : Hp} {x : Addr} {z : Str} {m e : V} {vs : List V} (h : ReadAt C p H x z m e vs) (b' : ByX p H H') : ReadAt C p H' x z m e vs := by
  obtain ⟨a, b, ms, tl, c, dx, ma, ca, e1, na, ha, e2, e3, ok, n1, n2, n3, h1, h2, h3⟩ := h
  exact ⟨a, b, ms, tl, c, dx, ma, ca, e1, na, b' _ _ ha na seq_tbl, e2, e3, ok, n1, n2, n3, b' _ _ h1 n1 (fun _ q => nomatch q), b' _ _ h2 n2 not_tbl_l, b' _ _ h3 n3 not_tbl_d⟩
/-- a list of refs is written: the reader stays -/
theorem ReadAt.upd {C p : Addr} {H : Hp} {x L r : Addr} {rs : List V} {o : HO} {z : Str} {m e : V} {vs : List V} (h : ReadAt C p H x z m e vs) (hL : H L = some (.lst (.ref r :: rs))) : ReadAt C p (L2.upd H L o) x z m e vs := by
  obtain ⟨a, b, ms, tl, c, dx, ma, ca, e1, na, ha, e2, e3, ok, n1, n2, n3, h1, h2, h3⟩ := h
  have ne : ∀ {q : Addr} {u : HO}, H q = some u → u ≠ .lst (.ref r :: rs) → q ≠ L := fun e n z => by
    rw [z, hL] at e
    exact n (Option.some.inj e).symm
  have lo := ok.ms.lo
  have ns : ms.map V.str ≠ .ref r :: rs := fun q => by
    cases ms with
    | nil => cases q
    | cons y ys => cases q
  refine ⟨a, b, ms, tl, c, dx, ma, ca, e1, na, ?_, e2, e3, ok, n1, n2, n3, ?_, ?_, ?_⟩
  · rw [upd_ne (ne ha fun q => by
      cases b with
      | true => cases q
      | false => exact ns (HO.lst.inj q))]
    exact ha
  · rw [upd_ne (ne h1 fun q => nomatch q)]
    exact h1
  · rw [upd_ne (ne h2 fun q => ns (HO.lst.inj q))]
    exact h2
  · rw [upd_ne (ne h3 fun q => nomatch q)]
    exact h3
/-- what a told list holds -/
def ToldX (C p : Addr) (due : List V) (H : Hp) (xs : List V) (z : Str) (m e : V) (vs : List V) : Prop := (due ≠ [] ∧ xs = due) ∨ (due = [] ∧ ∃ x, xs = [tx "made", .ref x] ∧ ReadAt C p H x z m e vs)
theorem ToldX.bx {C p : Addr} {due : List V} {H H' : Hp} {xs : List V} {z : Str} {m e : V} {vs : List V} (h : ToldX C p due H xs z m e vs) (b : ByX p H H') : ToldX C p due H' xs z m e vs := by
  rcases h with h | ⟨h1, x, h2, h3⟩
  · exact .inl h
  · exact .inr ⟨h1, x, h2, h3.bx b⟩
theorem ToldX.upd {C p L r : Addr} {rs : List V} {o : HO} {due : List V} {H : Hp} {xs : List V} {z : Str} {m e : V} {vs : List V} (h : ToldX C p due H xs z m e vs) (hL : H L = some (.lst (.ref r :: rs))) : ToldX C p due (L2.upd H L o) xs z m e vs := by
  rcases h with h | ⟨h1, x, h2, h3⟩
  · exact .inl h
  · exact .inr ⟨h1, x, h2, h3.upd hL⟩
theorem byX_updL {p L : Addr} {Hm H' : Hp} {o : HO} (b : ByX p Hm H') (n : ∀ o, Hm L = some o → ∃ ps, o = .tbl ps) : ByX p Hm (L2.upd H' L o) := fun c u e hc ht => by
  rw [upd_ne (fun z => by
    obtain ⟨ps, q⟩ := n u (by rw [← z]; exact e)
    exact ht ps q)]
  exact b c u e hc ht
theorem tabs_updL {T : List (Addr × Str)} {H : Hp} {L : Addr} {xs : List V} {o : HO} (t : Tabs T H) (hL : H L = some (.lst xs)) : Tabs T (L2.upd H L o) := fun q hq => by
  obtain ⟨ps, h1, h2, h3⟩ := t q hq
  have ne : ∀ {c : Addr} {u : HO}, H c = some u → u ≠ .lst xs → c ≠ L := fun e n z => by
    rw [z, hL] at e
    exact n (Option.some.inj e).symm
  refine ⟨ps, by rw [upd_ne (ne h1 fun z => nomatch z)]; exact h1, h2, fun pos cv hc => ?_⟩
  obtain ⟨c, e1, e2⟩ := h3 pos cv hc
  exact ⟨c, e1, by rw [upd_ne (ne e2 fun z => by unfold CodeO at z; cases z)]; exact e2⟩
mutual
theorem dq_same {H H' : Hp} (s : Same H H') : ∀ {v : V} {d : PyData}, Dq H v d → Dq H' v d
  | _, _, .non => .non
  | _, _, .bl b => .bl b
  | _, _, .int i => .int i
  | _, _, .str x => .str x
  | _, _, .lst e h => .lst (s _ _ e) (dqa_same s h)
  | _, _, .tup e h => .tup (s _ _ e) (dqa_same s h)
  | _, _, .dct e k h => .dct (s _ _ e) k (dqa_same s h)
theorem dqa_same {H H' : Hp} (s : Same H H') : ∀ {vs : List V} {ds : List PyData}, DqAll H vs ds → DqAll H' vs ds
  | _, _, .nil => .nil
  | _, _, .cons h1 h2 => .cons (dq_same s h1) (dqa_same s h2)
end
theorem strs_inj : ∀ {xs ys : List Str}, xs.map V.str = ys.map V.str → xs = ys
  | [], [], _ => rfl
  | [], _ :: _, h => nomatch h
  | _ :: _, [], h => nomatch h
  | x :: xs, y :: ys, h => by
    rw [List.map_cons, List.map_cons] at h
    injection h with h1 h2
    rw [V.str.inj h1, strs_inj h2]
theorem plain_init {C CS CM CT CC x dx a : Addr} {b : Bool} {z tl : Str} {ms : List Str} {c c0 : Cares} {H : Hp} {Q : VK} {E : XK} (ok : RdOk z ms tl c) (zs : signsB (.str z) = true) (hx : H x = some (.ins C dx [])) (ha : H a = some (seqO b (ms.map V.str))) (co : CaresOk z c0)
    (k : ∀ H', ReaderAt C H' x z ms tl c0 → But x H H' → Q .non H') : spRInitA C CS CM CT CC [.ref x, .str z, .ref a, .str tl, .str c0.si, .str c0.od, .str c0.fu, .str c0.fi] H Q E := by
  have lo := ok.ms.lo
  have hi := ok.ms.hi
  have z4 := ok.az.hi
  have t3 := ok.tl.l2
  have cb : ∀ q ∈ carV (.str c0.si) (.str c0.od) (.str c0.fu) (.str c0.fi), ∃ y : Str, q.2 = .str y ∧ CareOk z q.1 y ∧ y.length ≤ 10 := fun q hq => by
    simp only [carV, List.mem_cons, List.mem_nil_iff, or_false] at hq
    rcases hq with rfl | rfl | rfl | rfl
    · have h := co.all (Str.ofString "sight", c0.si) (by simp [caresL])
      exact ⟨_, rfl, h, h.len⟩
    · have h := co.all (Str.ofString "order", c0.od) (by simp [caresL])
      exact ⟨_, rfl, h, h.len⟩
    · have h := co.all (Str.ofString "further", c0.fu) (by simp [caresL])
      exact ⟨_, rfl, h, h.len⟩
    · have h := co.all (Str.ofString "finish", c0.fi) (by simp [caresL])
      exact ⟨_, rfl, h, h.len⟩
  have sz : sizeLine = 16777216 := rfl
  refine ⟨x, dx, .str z, .ref a, .str tl, _, _, _, _, rfl, hx, .inr ⟨z, rfl, by omega, zs, .inr ⟨ms.map V.str, ⟨a, b, rfl, ha, fun y hy => ?_, by rw [List.length_map]; exact lo, by rw [List.length_map]; exact hi, marks_mk ok.ms⟩,
    .inr ⟨tl, rfl, by omega, box_ok ok.tl.ov ok.tl.l1 ok.tl.l2, fun q hq => ?_, fun i q hq _ bad => ?_, fun _ H' ra b' => k H' ra b'⟩⟩⟩⟩
  · obtain ⟨m, hm, rfl⟩ := List.mem_map.mp hy
    have := ok.ms.l2 m hm
    exact ⟨⟨_, .str m⟩, fun u e => by cases e; rw [sz]; omega⟩
  · obtain ⟨y, e1, _, l⟩ := cb q hq
    rw [e1]
    exact ⟨⟨_, .str y⟩, fun u e => by cases e; rw [sz]; omega⟩
  · obtain ⟨y, e1, h, _⟩ := cb q (List.mem_of_getElem? hq)
    rw [e1, careOk_B h] at bad
    cases bad
theorem merge3 (t1 t2 t3 : V) : mergeK [] [((Sum.inr (Str.ofString "sight") : Key), t1), (Sum.inr (Str.ofString "order"), t2), (Sum.inr (Str.ofString "further"), t3)] = [((Sum.inr (Str.ofString "sight") : Key), t1), (Sum.inr (Str.ofString "order"), t2), (Sum.inr (Str.ofString "further"), t3)] := by
  obtain ⟨a1, a2, a3, _⟩ := puts t1 t2 t3 .non
  unfold mergeK
  simp only [List.foldl_cons, List.foldl_nil]
  rw [a1, a2, a3]
theorem Rdy.due {H : Hp} {p tA tL tE D : Addr} {z : Str} {va m pos e : V} {ga ge : Bool} {ts : List Addr} {vs : List V} {gs : List Bool} {da dm de : PyData} (rd : Rdy H p tA tL tE D z va m pos e ga ge ts vs gs da dm de) :
    ∃ ds, DqAll H (dueL va ga pos e ge vs gs) ds ∧ NiceD (.list ds) := by
  obtain ⟨_, gA, oA, _⟩ := rd.A
  obtain ⟨_, gL, dL, _, sL, rL⟩ := rd.L
  obtain ⟨_, gE, oE, _⟩ := rd.E
  obtain ⟨hp, sp⟩ := lab_pos rL
  have nice : ∀ ds : List PyData, (∀ d ∈ ds, Sz 3 1000 d) → ds.length ≤ 4 → NiceD (.list ds) := fun ds h l => (few_sz h l).1.nice (by decide) (by decide)
  have three : ∀ {s : String} {v : V} {d : PyData}, Sz 3 1000 (.str (Str.ofString s)) → Dq H v d → Sz 3 1000 d → ∃ ds, DqAll H [tx s, v, .bl true] ds ∧ NiceD (.list ds) := fun {s v d} h1 h2 h3 =>
    ⟨[.str (Str.ofString s), d, .bool true], .cons (.str _) (.cons h2 (.cons (.bl _) .nil)), nice _ (fun x hx => by
      simp only [List.mem_cons, List.mem_nil_iff, or_false] at hx
      rcases hx with rfl | rfl | rfl
      · exact h1
      · exact h3
      · exact (Sz.bool true).mono (by decide) (by decide)) (by show 3 ≤ 4; decide)⟩
  unfold dueL
  by_cases h1 : ga = false
  · rw [if_pos h1]
    exact three ⟨by decide +kernel, by decide +kernel, by decide +kernel⟩ oA.dr.dq oA.sz
  rw [if_neg h1]
  by_cases h2 : pos ≠ .int (-1)
  · rw [if_pos h2]
    exact three ⟨by decide +kernel, by decide +kernel, by decide +kernel⟩ (pos_dq hp) (sp.mono (by decide) (by decide))
  rw [if_neg h2]
  by_cases h3 : ge = false
  · rw [if_pos h3]
    exact three ⟨by decide +kernel, by decide +kernel, by decide +kernel⟩ oE.dr.dq oE.sz
  rw [if_neg h3]
  unfold dueC
  cases hf : (List.range 4).find? (fun i => !(gs.getD i true)) with
  | none => exact ⟨[], .nil, nice _ (fun _ h => nomatch h) (by decide)⟩
  | some i =>
    have hi : i < 4 := List.mem_range.mp (List.mem_of_find?_eq_some hf)
    obtain ⟨v, ev⟩ : ∃ v, vs[i]? = some v := ⟨_, List.getElem?_eq_getElem (by rw [rd.C.lv]; exact hi)⟩
    obtain ⟨d, od⟩ := rd.cv v (List.mem_of_getElem? ev)
    have nm : ∀ i < 4, Sz 3 1000 (.str (careNs.getD i (Str.ofString ""))) := fun i hi => by
      match i, hi with
      | 0, _ => exact ⟨by decide +kernel, by decide +kernel, by decide +kernel⟩
      | 1, _ => exact ⟨by decide +kernel, by decide +kernel, by decide +kernel⟩
      | 2, _ => exact ⟨by decide +kernel, by decide +kernel, by decide +kernel⟩
      | 3, _ => exact ⟨by decide +kernel, by decide +kernel, by decide +kernel⟩
    refine ⟨[.str (Str.ofString "care"), .str (careNs.getD i (Str.ofString "")), d, .bool true], .cons (.str _) (.cons (.str _) (.cons ?_ (.cons (.bl _) .nil))), nice _ (fun x hx => ?_) (by show 4 ≤ 4; decide)⟩
    · rw [List.getD_eq_getElem?_getD, ev]
      exact od.dr.dq
    · simp only [List.mem_cons, List.mem_nil_iff, or_false] at hx
      rcases hx with rfl | rfl | rfl | rfl
      · exact ⟨by decide +kernel, by decide +kernel, by decide +kernel⟩
      · exact nm i hi
      · exact od.sz
      · exact (Sz.bool true).mono (by decide) (by decide)
theorem mk_here {C CS CM CT CC p tA tL tE D : Addr} {z : Str} {va m pos e : V} {ga ge : Bool} {ts : List Addr} {v1 v2 v3 v4 : V} {gs : List Bool} {da dm de : PyData} {Hs : Hp} {Q0 R' : VK} {E : XK} (rd : Rdy Hs p tA tL tE D z va m pos e ga ge ts [v1, v2, v3, v4] gs da dm de) (pHs : PotAt Hs p)
    (hE : ∀ cls d H', hX CS CM CT CC Q0 cls d H' → E cls d H') (hR : ∀ v H', (∀ L2, H' L2 = none → Q0 (.ref L2) (upd H' L2 (.lst [tx "made", v]))) → R' v H')
    (k : ∀ H' r xs, Same Hs H' → H' r = none → ToldX C p (dueL va ga pos e ge [v1, v2, v3, v4] gs) H' xs z m e [v1, v2, v3, v4] → Q0 (.ref r) (upd H' r (.lst xs))) :
    ∀ x dx, Hs x = none → Hs dx = none → dx ≠ x → spRInitA C CS CM CT CC [.ref x, va, m, e, v1, v2, v3, v4] (upd (upd Hs dx (.own x)) x (.ins C dx [])) (fun v H2 => v = .non ∧ R' (.ref x) H2) E := by
  intro x dx hx hdx ne
  have s0 : Same Hs (upd (upd Hs dx (.own x)) x (.ins C dx [])) := ((Same.refl Hs).upd hdx).upd hx
  have nx : x ≠ p := Ne.symm (pHs.ne hx)
  refine made_ok (rd.bx (.same s0)) upd_same (fun Cc fs hm H' d sH hd => ?_) (fun hdue a b ms tl c e1 e2 ha e3 e4 ok H' ra b' => ⟨rfl, ?_⟩)
  · have s1 : Same Hs (upd H' d (.xd fs)) := (s0.trans sH).upd ((s0.trans sH).none hd)
    refine hE _ _ _ ⟨Cc, d, fs, _, rfl, rfl, upd_same, hm, fun q hq => k _ q _ s1 hq (.inl ⟨?_, rfl⟩)⟩
    rcases hm with ⟨_, v, _, h⟩ | ⟨_, v, _, h⟩ | ⟨_, v, _, h⟩ | ⟨_, u, v, _, h⟩ <;> rw [h] <;> exact fun q => nomatch q
  · have sH : Same Hs H' := fun q o e => b' q o (s0 _ _ e) (ne_of_none e hx)
    refine hR _ _ fun L2 h2 => k H' L2 _ sH h2 (.inr ⟨hdue, x, rfl, ?_⟩)
    obtain ⟨dy, ma, ca, h1, h3, h4⟩ := ra
    have pH := pot_same sH pHs
    obtain ⟨p1, p2, pe, _⟩ := id pH
    have lo := ok.ms.lo
    have sL : ∀ {q : Addr} {u : HO}, H' q = some u → u ≠ .lst [.int p1, .int p2] → q ≠ p := fun e n z => by
      rw [z, pe] at e
      exact n (Option.some.inj e).symm
    have ns : ms.map V.str ≠ [.int p1, .int p2] := fun q => by
      cases ms with
      | nil => cases q
      | cons y ys => cases q
    have haH : H' a = some (seqO b (ms.map V.str)) := b' a _ ha fun q => by
      rw [q, upd_same] at ha
      cases b <;> cases ha
    refine ⟨a, b, ms, tl, c, dy, ma, ca, e2, sL haH (fun q => by
      cases b with
      | true => cases q
      | false => exact ns (HO.lst.inj q)), haH, e3, e4, ok, nx, sL h3 (fun q => ns (HO.lst.inj q)), sL h4 (fun q => nomatch q), h1, h3, h4⟩
section
variable {P : Program} {w : World} {K : PySem.W.Frag} {mg : Str → Option Value} {base : Heap} {CS CM CT CC CB : Addr}
theorem ok_right {f g c P0 : Addr} {fd gd : FuncData} (F : Fun K "_law_right" "_law_right" sRight f fd) (hcd : fd.code = .ref c) (TB : TabB base mg c P0) (R : RdF P w K mg base CS CM CT CC) (FH : Fun K "_law_told" "_law_told" sTold g gd) (bH : L2.Binds K gd ["_law_deed"] []) (mH : mg "_law_told" = some (.ref g))
    (T : ErF K mg CS CM CT CC CB) (hs : (K.lookup sysModules).isSome = true) (mR : mg "repr" = none) (mI : mg "isinstance" = none) (mV : mg "ValueError" = none) (mA : mg "all" = none)
    (cA : Ca P w K mg base "_law_alphabet" 3 ["_law_pot_here"] spAlpha) (cL : Ca P w K mg base "_law_labels" 4 ["_law_pot_here", "_law_alphabet_here"] spLab) (cT : Ca P w K mg base "_law_text" 3 ["_law_pot_here", "_law_alphabet_here", "_law_least", "_law_top"] spText)
    (cO : Ca P w K mg base "_law_odd_text" 3 ["_law_pot_here", "_law_alphabet_here", "_law_top"] spOddT) (cC : Ca P w K mg base "_law_care" 3 ["_law_pot_here", "_law_words"] spCare) (cD : Ca P w K mg base "_law_draw" 1 ["_law_pot_here", "_law_top"] spDraw)
    (cU : Ca P w K mg base "_law_due" 1 ["_law_alphabet_here", "_law_labels_here", "_law_ending", "_law_cares"] spDue)
    (cI : CaG P w K mg base "_law_is" 5 ["_law_made", "_law_alphabet_here", "_law_labels_here", "_law_ending", "_law_cares"] (spIs R.C)) :
    FnG P w K mg base CX0 8 f fd ["_law_pot_here"] (spRight [(P0, ritQ)]) := by
  refine okGC F hcd scRight (fun vs H Q E h => ?_) (fun A outer s H vs Q E hr hg h => ?_)
  · obtain ⟨_, rfl, _⟩ := h
    rfl
  · obtain ⟨p, rfl, hp, hT, k⟩ := h
    have nd := scRight.nd
    have hu := hu_of hr
    have sz : sizeLine = 16777216 := rfl
    have r4 := hr.mono (show 4 ≤ 7 by decide)
    have r3 := hr.mono (show 3 ≤ 7 by decide)
    have r1 := hr.mono (show 1 ≤ 7 by decide)
    have r5 := hr.mono (show 5 ≤ 7 by decide)
    refine ⟨_, pss_cons (ps_set (i := 1) nd rfl (.inr rfl) (pe_ca cA r3 (by rfl) (pa_cons (pv 0) pa_nil)))
      (C8.pss_cut (ps_set (i := 2) nd rfl (.inl rfl) (pe_ifExp (pt_val (pe_ix ix_tup (pv 1) pe_int (fun _ _ => rfl))) (pe_ix ix_tup (pv 1) pe_int (fun _ _ => rfl)) pe_str))
      (pss_cons (ps_set (i := 3) nd rfl (.inr rfl) (pe_ca cL r4 (by rfl) (pa_cons (pv 0) (pa_cons (pv 2) pa_nil))))
      (pss_cons (ps_set (i := 4) nd rfl (.inr rfl) (pe_tup (pa_cons (pe_ca cT r3 (by rfl) (pa_cons (pv 0) (pa_cons (pv 2) (pa_cons pe_int (pa_cons pe_int pa_nil))))) (pa_cons pe_bl pa_nil))))
      (C8.pss_cut (ps_if (pt_cmpR op_eq (pe_ca cD r1 (by rfl) (pa_cons (pv 0) (pa_cons pe_int pa_nil))) pe_int (nomark _))
        (pss_one (ps_set (i := 4) nd rfl (.inr rfl) (pe_tup (pa_cons (pe_ca cO r3 (by rfl) (pa_cons (pv 0) (pa_cons (pv 2) (pa_cons pe_int pa_nil)))) (pa_cons pe_bl pa_nil))))) pss_nil)
      (pss_cons (ps_set (i := 5) nd rfl (.inr rfl) (pe_disp (pps_cons pe_str (pe_ca cC r3 (by rfl) (pa_cons (pv 0) (pa_cons (pe_lst (pa_cons pe_str (pa_cons pe_str (pa_cons (pe_ix ix_str (pv 2) pe_int (fun _ _ => rfl)) (pa_cons (pe_ix ix_str (pv 2) (pe_un un_neg pe_int) (fun _ _ => rfl)) pa_nil))))) pa_nil))) pps_nil) (by rfl) (by rfl) (fun z => by cases z) (by decide)))
      (pss_cons (ps_dput hu (pv 5) pe_str (pe_ca cC r3 (by rfl) (pa_cons (pv 0) (pa_cons (pe_lst (pa_cons pe_str (pa_cons pe_str pa_nil))) pa_nil))) rfl)
      (C8.pss_cut (ps_asg (pe_tup (pa_cons (pe_ca cC r3 (by rfl) (pa_cons (pv 0) (pa_cons (pe_lst (pa_cons pe_str (pa_cons pe_str pa_nil))) pa_nil))) (pa_cons (pe_ca cC r3 (by rfl) (pa_cons (pv 0) (pa_cons (pe_lst (pa_cons pe_str (pa_cons pe_str pa_nil))) pa_nil))) pa_nil)))
          (pg_tup rfl (pgs_cons (pg_sub (pv 5) pe_str (set_dK hu)) (pgs_cons (pg_sub (pv 5) pe_str (set_dK hu)) pgs_nil))))
      (pss_cons (ps_par (i := 6) (j := 7) (by rfl) nd rfl rfl (by decide) rfl rfl (pa_cons (pe_ca cU r1 (by rfl) (pa_cons (pv 1) (pa_cons (pv 3) (pa_cons (pv 4) (pa_cons (pv 5) pa_nil)))))
          (pa_cons (pe_callB (call_reprD hs hg hr.units) (by rfl) mR (by decide +kernel) (pa_cons (pe_lst (pa_cons (pv 1) (pa_cons (pv 3) (pa_cons (pv 4) pa_nil)))) pa_nil)) pa_nil)) (by rfl))
      (C8.pss_cut (ps_asg (pe_lc (own := [("_law_label", 15)]) (g := gName 15) (tt := tYes) (te := tOp (rIxT K) (tDGet (tVar 5) (tVar 15)) (tC (.int 0))) rfl nd (pi_list (pe_lst (pa_cons pe_str (pa_cons pe_str (pa_cons pe_str (pa_cons pe_str pa_nil))))))
            (blkOk_by (N := nRight) (sc := defScope sRight) (by decide +kernel)) (fun _ _ _ _ _ => pg_name (i := 15) nd rfl (Or.inl rfl)) (fun _ _ _ _ _ => pts_nil)
            (fun _ _ _ _ _ => pe_ix ix_tup (pe_dget hu (pv 5) (pv 15) (fun _ _ => rfl)) pe_int (fun _ _ => rfl)))
          (pg_unl rfl (pgs_cons (pg_name (i := 8) nd rfl (.inr rfl)) (pgs_cons (pg_name (i := 9) nd rfl (.inr rfl)) (pgs_cons (pg_name (i := 10) nd rfl (.inr rfl)) (pgs_cons (pg_name (i := 11) nd rfl (.inr rfl)) pgs_nil))))))
      (C8.pss_cut (ps_set (i := 12) nd rfl (.inl rfl) (pe_lst (pa_cons (pe_told FH bH (by rfl) mH T (k := 5) hr mI mV TB (by rfl) (lamS_by (by show lamSB (defScope sRight) _ = true; decide +kernel)) (by rfl) (by intro _ _ _ _ _; rfl) (fun A' o' s' H' E' f' c' hr' => pe_makeK (E := E') R.mkc R.oi hr' (by rfl) R.T.mgC R.ki (pass_lam (X := _)) (pa_cons (pe_ix (ix_tupK (K := K) rfl) (pv 1) pe_int (fun _ _ => rfl)) (pa_cons (pe_ix (ix_tupK (K := K) rfl) (pv 3) pe_int (fun _ _ => rfl)) (pa_cons (pe_ix (ix_tupK (K := K) rfl) (pv 4) pe_int (fun _ _ => rfl)) pa_nil))) (pk_cons (pv 8) (pk_cons (pv 9) (pk_cons (pv 10) (pk_cons (pv 11) pk_nil)))))) pa_nil)))
      (C8.pss_cut (ps_expr (pe_bm PySem.F.plainAttrs_list PySem.F.slot_list_append PySem.F.type_list_append mtAppend (pv 12) (pa_cons (pe_told FH bH (by rfl) mH T (k := 5) hr mI mV TB (by rfl) (lamS_by (by show lamSB (defScope sRight) _ = true; decide +kernel)) (by rfl) (by intro _ _ _ _ _; rfl) (fun A' o' s' H' E' f' c' hr' => pe_makeK0 (E := E') R.mkc R.oi hr' (by rfl) R.T.mgC R.kr (pass_lam (X := _)) (pk_cons (pv 11) (pk_cons (pv 10) (pk_cons (pv 9) (pk_cons (pv 8) (pk_cons (pe_ix (ix_tupK (K := K) rfl) (pv 4) pe_int (fun _ _ => rfl)) (pk_cons (pe_ix (ix_tupK (K := K) rfl) (pv 3) pe_int (fun _ _ => rfl)) (pk_cons (pe_ix (ix_tupK (K := K) rfl) (pv 1) pe_int (fun _ _ => rfl)) pk_nil))))))))) pa_nil)))
      (pss_cons (ps_if (pt_cmpR op_ne (pe_callB (call_reprD hs hg hr.units) (by rfl) mR (by decide +kernel) (pa_cons (pe_lst (pa_cons (pv 1) (pa_cons (pv 3) (pa_cons (pv 4) pa_nil)))) pa_nil)) (pv 7) (nomark _)) (pss_one (ps_ret pe_bl)) pss_nil)
      (C8.pss_cut (ps_if (pt_cmpR (op_neNil hr.units) (pv 6) (pe_lst pa_nil) (nomark _))
        (pss_one (ps_ret (pe_cmpR (op_eqV hr.units) (pe_lc (own := [("_law_one_told", 16)]) (g := gName 16) (tt := tYes) (te := tCB (fun xs H Q => ∃ v d, xs = [v] ∧ Dq H v d ∧ NiceD d ∧ Q (.str d.shown) H) (tCons (tVar 16) tNil)) rfl nd (pi_list (pv 12)) (blkOk_by (N := nRight) (sc := defScope sRight) (by decide +kernel)) (fun _ _ _ _ _ => pg_name (i := 16) nd rfl (Or.inl rfl)) (fun _ _ _ _ _ => pts_nil) (fun _ _ _ _ _ => (pe_callB (call_reprD hs hg hr.units) (by rfl) mR (by decide +kernel) (pa_cons (pv 16) pa_nil)))) (pe_op op_rep (pe_lst (pa_cons (pe_callB (call_reprD hs hg hr.units) (by rfl) mR (by decide +kernel) (pa_cons (pv 6) pa_nil)) pa_nil)) pe_int) (nomark _)))) pss_nil)
      (C8.pss_cut (ps_if (PW.pt (pw_or (pt_cmpR (op_neD hr.units) (pe_lc (own := [("_law_one_told", 16)]) (g := gName 16) (tt := tYes) (te := tOp (rIxL K) (tVar 16) (tC (.int 0))) rfl nd (pi_list (pv 12)) (blkOk_by (N := nRight) (sc := defScope sRight) (by decide +kernel)) (fun _ _ _ _ _ => pg_name (i := 16) nd rfl (Or.inl rfl)) (fun _ _ _ _ _ => pts_nil) (fun _ _ _ _ _ => pe_ix ix_list (pv 16) pe_int (fun _ _ => rfl))) (pe_lst (pa_cons pe_str (pa_cons pe_str pa_nil))) (nomark _)) (pw_or1 (pt_cmpR (op_neO R.te R.oe r3) (pe_ix ix_list (pe_ix ix_list (pv 12) pe_int (fun _ _ => rfl)) pe_int (fun _ _ => rfl)) (pe_ix ix_list (pe_ix ix_list (pv 12) pe_int (fun _ _ => rfl)) pe_int (fun _ _ => rfl)) (nomark _))))) (pss_one (ps_ret pe_bl)) pss_nil)
      (C8.pss_cut (ps_if (pt_not (pt_val (pe_callB (cr_all rfl) (by rfl) mA (by decide +kernel) (pa_cons (pe_lc (own := [("_law_one_told", 16)]) (g := gName 16) (tt := tYes) (te := tCall (spIs R.C) [] E0 (tCons (tOp (rIxL K) (tVar 16) (tC (.int 1))) (tCons (tOp (rIxT K) (tVar 1) (tC (.int 0))) (tCons (tOp (rIxT K) (tVar 3) (tC (.int 0))) (tCons (tOp (rIxT K) (tVar 4) (tC (.int 0))) (tCons (tVar 5) tNil)))))) rfl nd (pi_list (pv 12)) (blkOk_by (N := nRight) (sc := defScope sRight) (by decide +kernel)) (fun _ _ _ _ _ => pg_name (i := 16) nd rfl (Or.inl rfl)) (fun _ _ _ _ _ => pts_nil) (fun _ _ _ _ _ => pe_cg cI r5 hg (by rfl) (pa_cons (pe_ix ix_list (pv 16) pe_int (fun _ _ => rfl)) (pa_cons (pe_ix ix_tup (pv 1) pe_int (fun _ _ => rfl)) (pa_cons (pe_ix ix_tup (pv 3) pe_int (fun _ _ => rfl)) (pa_cons (pe_ix ix_tup (pv 4) pe_int (fun _ _ => rfl)) (pa_cons (pv 5) pa_nil))))))) pa_nil)))) (pss_one (ps_ret pe_bl)) pss_nil)
      (pss_cons (ps_set (i := 13) nd rfl (.inl rfl) (pe_make (E := E0) R.mkc R.oi r5 (by rfl) R.T.mgC R.bi R.vd passL (pa_cons (pe_ix ix_tup (pv 1) pe_int (fun _ _ => rfl)) (pa_cons (pe_ix ix_tup (pv 3) pe_int (fun _ _ => rfl)) (pa_cons (pe_ix ix_tup (pv 4) pe_int (fun _ _ => rfl)) pa_nil)))))
      (pss_cons (ps_set (i := 14) nd rfl (.inl rfl) (pe_disp (pps_cons pe_str (pe_tup (pa_cons pe_str (pa_cons pe_bl pa_nil))) (pps_cons pe_str (pe_tup (pa_cons pe_str (pa_cons pe_bl pa_nil))) (pps_cons pe_str (pe_tup (pa_cons pe_str (pa_cons pe_bl pa_nil))) pps_nil))) (by rfl) (by rfl) (fun z => by cases z) (by decide)))
      (pss_cons (ps_dput hu (pv 14) pe_str (pe_tup (pa_cons pe_str (pa_cons pe_bl pa_nil))) rfl)
      (pss_one (ps_ret (pe_cg cI r5 hg (by rfl) (pa_cons (pv 13) (pa_cons (pe_ix ix_tup (pv 1) pe_int (fun _ _ => rfl)) (pa_cons (pe_ix ix_tup (pv 3) pe_int (fun _ _ => rfl)) (pa_cons (pe_ix ix_tup (pv 4) pe_int (fun _ _ => rfl)) (pa_cons (pv 14) pa_nil)))))))))))))))))))))))))), ?_⟩
    refine ⟨_, rfl, p, rfl, hp, fun tA va ga da H1 p1 b1 hA => ?_⟩
    have t1 := tabs_butX hT hp b1
    have B1 : ByX p H H1 := .but b1
    obtain ⟨nA, gA, oA, bA, okA⟩ := id hA
    refine ⟨fun σ' H' => ∃ z : Str, σ' = [some (.ref p), some (.ref tA), some (.str z), none, none, none, none, none, none, none, none, none, none, none, none, none, none] ∧ H' = H1 ∧ z ∈ alphaL ∧ (ga = true → va = .str z), ?_, ?_⟩
    · refine ⟨_, rfl, tA, _, 1, .bl ga, rfl, rfl, SqT.of gA, rfl, ga, rfl, ?_⟩
      cases ga with
      | true =>
        refine iteT ?_
        obtain ⟨z, hz, rfl⟩ := okA rfl
        exact ⟨_, rfl, tA, _, 0, .str z, rfl, rfl, SqT.of gA, rfl, z, rfl, rfl, hz, fun _ => rfl⟩
      | false =>
        refine iteF ?_
        exact ⟨Str.ofString "ab", rfl, rfl, by decide +kernel, fun q => by cases q⟩
    rintro σ' H1' ⟨z, rfl, rfl, hz, az⟩
    obtain ⟨_, z2, z4, _⟩ := alpha_ok z hz
    -- labels, the tail
    refine ⟨_, rfl, _, rfl, p, z, rfl, p1, hz, fun tL m pos dm H2 p2 b2 hL => ?_⟩
    have t2 := tabs_butX t1 p1 b2
    replace hA := hA.bx (.but b2)
    have B2 := B1.trans (.but b2)
    refine ⟨_, rfl, _, rfl, p, z, 1, 3, rfl, p2, by omega, by omega, by decide, by decide, fun y H3 oy y1 y3 p3 b3 => ?_⟩
    have t3 := tabs_butX t2 p2 b3
    replace hA := hA.bx (.but b3)
    replace hL := hL.bx (.but b3)
    have B3 := B2.trans (.but b3)
    refine ⟨(by show 2 ≤ sizeLine; decide), fun tE hE => ?_⟩
    obtain ⟨s4, p4, g4, n4⟩ := fresh1 (.tup [.str y, .bl true]) p3 hE
    have t4 := t3.ext s4
    replace hA := hA.bx (.same s4)
    replace hL := hL.bx (.same s4)
    have B4 := B3.trans (.same s4)
    have hE0 : EndAt (upd H3 tE (.tup [.str y, .bl true])) p tE z (.str y) true (.str y) := ⟨n4, g4, odv_str ((alpha_abc hz).plain oy) (by omega), (fun q => by cases q), fun _ => ⟨y, rfl, oy, y1, y3⟩⟩
    generalize upd H3 tE (.tup [.str y, .bl true]) = H4 at p4 t4 hA hL B4 hE0 ⊢
    clear b1 b2 b3 s4 g4 hE p1 p2 p3 t1 t2 t3 B1 B2 B3
    refine ⟨fun σ' H' => ∃ (tE : Addr) (e : V) (ge : Bool) (de : PyData), σ' = [some (.ref p), some (.ref tA), some (.str z), some (.ref tL), some (.ref tE), none, none, none, none, none, none, none, none, none, none, none, none] ∧ PotAt H' p ∧ Tabs [(P0, ritQ)] H' ∧ ByX p H H' ∧ AlphaAt H' p tA va ga da ∧ LabAt H' p tL z m pos dm ∧ EndAt H' p tE z e ge de, ?_, ?_⟩
    · refine ⟨_, rfl, p, 9, rfl, p4, by decide, by decide, fun d H5 d0 d1 p5 b5 => ?_⟩
      have t5 := tabs_butX t4 p4 b5
      refine ⟨rfl, _, rfl, ?_⟩
      refine ite2 (fun _ => ?_) (fun _ => ⟨tE, _, _, _, rfl, p5, t5, B4.trans (.but b5), hA.bx (.but b5), hL.bx (.but b5), hE0.bx (.but b5)⟩)
      refine ⟨_, rfl, _, rfl, p, z, 3, rfl, p5, hz, by decide, by decide, fun v dv H6 p6 b6 ov bad => ?_⟩
      have t6 := tabs_butX t5 p5 b6
      refine ⟨(by show 2 ≤ sizeLine; decide), fun tE' hE' => ?_⟩
      obtain ⟨s7, p7, g7, n7⟩ := fresh1 (.tup [v, .bl false]) p6 hE'
      have b57 := ((ByX.but b5).trans (.but b6)).trans (.same s7)
      exact ⟨tE', v, false, dv, rfl, p7, t6.ext s7, B4.trans b57, hA.bx b57, hL.bx b57, n7, g7, ov.bx (.same s7), (fun _ => bad), fun q => by cases q⟩
    clear hA hL hE0 t4 p4 B4
    rintro σ' H5 ⟨tE, e, ge, de, rfl, p5, t5, B5, hA, hL, hE⟩
    obtain ⟨c0, cl, m0, ml, a0, al⟩ := last_of z2
    have lz : z.length ≤ sizeLine := by rw [sz]; omega
    have pz : ∀ c ∈ z.cps.toList, c < 128 := (alpha_ok z hz).2.2.2.1
    intro d hd
    obtain ⟨s6, p6, g6, n6⟩ := fresh1 (.dK []) p5 hd
    have t6 := t5.ext s6
    have B6 : ByX p H5 (upd H5 d (.dK [])) := .same s6
    generalize upd H5 d (.dK []) = G0 at p6 g6 t6 B6 ⊢
    refine ⟨_, rfl, _, rfl, z, 0, c0, rfl, rfl, lz, a0, _, rfl, 1, rfl, z, -1, cl, rfl, rfl, lz, al, (by show 4 ≤ sizeLine; decide), fun L1 h1 => ?_⟩
    obtain ⟨s7, p7, g7, n7⟩ := fresh1 (.lst ([Str.ofString "whole", Str.ofString "start", ⟨#[c0]⟩, ⟨#[cl]⟩].map V.str)) p6 h1
    have gd7 := s7 _ _ g6
    refine ⟨p, L1, _, rfl, p7, n7, g7, (by show 1 ≤ 4; decide), (by show 4 ≤ 10; decide), fun x hx => ?_, fun t1 v1 g1 d1 G2 pG2 bG2 k1 f1 => ?_⟩
    · simp only [List.mem_cons, List.mem_nil_iff, or_false] at hx
      rcases hx with rfl | rfl | rfl | rfl
      · exact ⟨by unfold Plain; decide +kernel, by decide +kernel⟩
      · exact ⟨by unfold Plain; decide +kernel, by decide +kernel⟩
      · exact ⟨plain_one (pz _ m0), by rw [len_one]; decide⟩
      · exact ⟨plain_one (pz _ ml), by rw [len_one]; decide⟩
    have nv1 : v1 ≠ .ref d := fun q => by
      have z0 := gd7.symm.trans (f1 d q)
      cases z0
    have tG2 := tabs_butX (t6.ext s7) p7 bG2
    have gG2 := bG2 _ _ gd7 n6
    have BG2 := (B6.trans (.same s7)).trans (.but bG2)
    refine ⟨gG2, [(Sum.inr (Str.ofString "sight"), .ref t1)], rfl, (by show 1 ≤ 15; decide), ?_⟩
    rw [show mergeK [] [((Sum.inr (Str.ofString "sight") : Key), V.ref t1)] = [((Sum.inr (Str.ofString "sight") : Key), V.ref t1)] from (puts (.ref t1) .non .non .non).1]
    have k1' := k1.put (o := .dK [((Sum.inr (Str.ofString "sight") : Key), V.ref t1)]) gG2 nv1
    have p8 : PotAt (upd G2 d (.dK [((Sum.inr (Str.ofString "sight") : Key), V.ref t1)])) p := pG2.upd (Ne.symm n6)
    have t8 := tabs_updD (o := .dK [((Sum.inr (Str.ofString "sight") : Key), V.ref t1)]) tG2 gG2
    have B8 := byX_updD (o := .dK [((Sum.inr (Str.ofString "sight") : Key), V.ref t1)]) BG2 hd
    have g8 : upd G2 d (.dK [((Sum.inr (Str.ofString "sight") : Key), V.ref t1)]) d = some (.dK [((Sum.inr (Str.ofString "sight") : Key), V.ref t1)]) := upd_same
    generalize upd G2 d (.dK [((Sum.inr (Str.ofString "sight") : Key), V.ref t1)]) = G3 at k1' p8 t8 B8 g8 ⊢
    clear k1 bG2 tG2 gG2 BG2 pG2 gd7 g7 p7 s7 h1 p6 g6 t6 B6 s6 f1
    -- order
    refine ⟨_, rfl, (by show 2 ≤ sizeLine; decide), fun L2 h2 => ?_⟩
    obtain ⟨s7, p7, g7, n7⟩ := fresh1 (.lst ([Str.ofString "inner", Str.ofString "outer"].map V.str)) p8 h2
    have gd7 := s7 _ _ g8
    have wOF : ∀ x ∈ [Str.ofString "inner", Str.ofString "outer", Str.ofString "refuse", Str.ofString "close"], Plain x ∧ x.length ≤ 10 := by unfold Plain; decide +kernel
    refine ⟨p, L2, _, rfl, p7, n7, g7, (by show 1 ≤ 2; decide), (by show 2 ≤ 10; decide), fun x hx => wOF x (by simp only [List.mem_cons, List.mem_nil_iff, or_false] at hx ⊢; rcases hx with rfl | rfl <;> simp), fun t2 v2 g2 d2 G4 p9 b9 k2 f2 => ?_⟩
    have nv2 : v2 ≠ .ref d := fun q => by
      have z0 := gd7.symm.trans (f2 d q)
      cases z0
    have t9 := tabs_butX (t8.ext s7) p7 b9
    have g9 := b9 _ _ gd7 n6
    have B9 := (B8.trans (.same s7)).trans (.but b9)
    replace k1' := (k1'.bx (.same s7)).bx (.but b9)
    refine ⟨_, rfl, d, _, rfl, DPut.k (k := Sum.inr (Str.ofString "order")) g9 (by show 1 < sizeLine; decide), ?_⟩
    rw [(puts (.ref t1) (.ref t2) .non .non).2.1]
    have k1' := k1'.put (o := .dK [((Sum.inr (Str.ofString "sight") : Key), V.ref t1), (Sum.inr (Str.ofString "order"), .ref t2)]) g9 nv1
    have k2' := k2.put (o := .dK [((Sum.inr (Str.ofString "sight") : Key), V.ref t1), (Sum.inr (Str.ofString "order"), .ref t2)]) g9 nv2
    have p10 : PotAt (upd G4 d (.dK [((Sum.inr (Str.ofString "sight") : Key), V.ref t1), (Sum.inr (Str.ofString "order"), .ref t2)])) p := p9.upd (Ne.symm n6)
    have t10 := tabs_updD (o := .dK [((Sum.inr (Str.ofString "sight") : Key), V.ref t1), (Sum.inr (Str.ofString "order"), .ref t2)]) t9 g9
    have B10 := byX_updD (o := .dK [((Sum.inr (Str.ofString "sight") : Key), V.ref t1), (Sum.inr (Str.ofString "order"), .ref t2)]) B9 hd
    have g10 : upd G4 d (.dK [((Sum.inr (Str.ofString "sight") : Key), V.ref t1), (Sum.inr (Str.ofString "order"), .ref t2)]) d = some (.dK [((Sum.inr (Str.ofString "sight") : Key), V.ref t1), (Sum.inr (Str.ofString "order"), .ref t2)]) := upd_same
    generalize upd G4 d (.dK [((Sum.inr (Str.ofString "sight") : Key), V.ref t1), (Sum.inr (Str.ofString "order"), .ref t2)]) = G5 at k1' k2' p10 t10 B10 g10 ⊢
    clear k2 b9 t9 g9 B9 p9 gd7 g7 p7 s7 h2 p8 g8 t8 B8 f2
    -- further and finish
    refine ⟨fun σ' G => ∃ (D : Addr) (ts : List Addr) (v1 v2 v3 v4 : V) (gs : List Bool), σ' = [some (.ref p), some (.ref tA), some (.str z), some (.ref tL), some (.ref tE), some (.ref D), none, none, none, none, none, none, none, none, none, none, none] ∧ PotAt G p ∧ Tabs [(P0, ritQ)] G ∧ ByX p H G ∧ Rdy G p tA tL tE D z va m pos e ga ge ts [v1, v2, v3, v4] gs da dm de, ?_, ?_⟩
    · refine ⟨_, rfl, (by show 2 ≤ sizeLine; decide), fun L3 h3 => ?_⟩
      obtain ⟨s7, p7, g7, n7⟩ := fresh1 (.lst ([Str.ofString "refuse", Str.ofString "close"].map V.str)) p10 h3
      have gd7 := s7 _ _ g10
      refine ⟨p, L3, _, rfl, p7, n7, g7, (by show 1 ≤ 2; decide), (by show 2 ≤ 10; decide), fun x hx => wOF x (by simp only [List.mem_cons, List.mem_nil_iff, or_false] at hx ⊢; rcases hx with rfl | rfl <;> simp), fun t3 v3 g3 d3 G6 p11 b11 k3 f3 => ?_⟩
      have nv3 : v3 ≠ .ref d := fun q => by
        have z0 := gd7.symm.trans (f3 d q)
        cases z0
      have t11 := tabs_butX (t10.ext s7) p7 b11
      have g11 := b11 _ _ gd7 n6
      have b711 := (ByX.same (p := p) s7).trans (.but b11)
      have B11 := B10.trans b711
      replace k1' := k1'.bx b711
      replace k2' := k2'.bx b711
      refine ⟨_, rfl, (by show 2 ≤ sizeLine; decide), fun L4 h4 => ?_⟩
      obtain ⟨s8, p8, g8, n8⟩ := fresh1 (.lst ([Str.ofString "refuse", Str.ofString "close"].map V.str)) p11 h4
      have gd8 := s8 _ _ g11
      refine ⟨p, L4, _, rfl, p8, n8, g8, (by show 1 ≤ 2; decide), (by show 2 ≤ 10; decide), fun x hx => wOF x (by simp only [List.mem_cons, List.mem_nil_iff, or_false] at hx ⊢; rcases hx with rfl | rfl <;> simp), fun t4 v4 g4 d4 G7 p12 b12 k4 f4 => ?_⟩
      have nv4 : v4 ≠ .ref d := fun q => by
        have z0 := gd8.symm.trans (f4 d q)
        cases z0
      have t12 := tabs_butX (t11.ext s8) p8 b12
      have g12 := b12 _ _ gd8 n6
      have b812 := (ByX.same (p := p) s8).trans (.but b12)
      refine ⟨(by show 2 ≤ sizeLine; decide), fun tt htt => ?_⟩
      obtain ⟨s9, p13, g13, n13⟩ := fresh1 (.tup [.ref t3, .ref t4]) p12 htt
      have bAll := b812.trans (.same s9)
      have t13 := t12.ext s9
      have gd13 := s9 _ _ g12
      have B13 := B11.trans bAll
      replace k1' := k1'.bx bAll
      replace k2' := k2'.bx bAll
      replace k3 := k3.bx bAll
      replace k4 := k4.bx (.same s9)
      refine ⟨tt, _, rfl, SqT.of g13, rfl, _, _, rfl, _, rfl, d, _, rfl, DPut.k (k := Sum.inr (Str.ofString "further")) gd13 (by show 2 < sizeLine; decide), ?_⟩
      rw [(puts (.ref t1) (.ref t2) (.ref t3) .non).2.2.1]
      refine ⟨_, _, rfl, _, rfl, d, _, rfl, DPut.k (k := Sum.inr (Str.ofString "finish")) upd_same (by show 3 < sizeLine; decide), ?_⟩
      rw [(puts (.ref t1) (.ref t2) (.ref t3) (.ref t4)).2.2.2, upd_upd]
      have q1 := k1'.put (o := .dK (carK (.ref t1) (.ref t2) (.ref t3) (.ref t4))) gd13 nv1
      have q2 := k2'.put (o := .dK (carK (.ref t1) (.ref t2) (.ref t3) (.ref t4))) gd13 nv2
      have q3 := k3.put (o := .dK (carK (.ref t1) (.ref t2) (.ref t3) (.ref t4))) gd13 nv3
      have q4 := k4.put (o := .dK (carK (.ref t1) (.ref t2) (.ref t3) (.ref t4))) gd13 nv4
      have p14 := p13.upd (o := .dK (carK (.ref t1) (.ref t2) (.ref t3) (.ref t4))) (Ne.symm n6)
      have t14 := tabs_updD (o := .dK (carK (.ref t1) (.ref t2) (.ref t3) (.ref t4))) t13 gd13
      have B14 := byX_updD (o := .dK (carK (.ref t1) (.ref t2) (.ref t3) (.ref t4))) B13 hd
      have g14 : upd (upd G7 tt (.tup [.ref t3, .ref t4])) d (.dK (carK (.ref t1) (.ref t2) (.ref t3) (.ref t4))) d = some (.dK (carK (.ref t1) (.ref t2) (.ref t3) (.ref t4))) := upd_same
      generalize upd (upd G7 tt (.tup [.ref t3, .ref t4])) d (.dK (carK (.ref t1) (.ref t2) (.ref t3) (.ref t4))) = G8 at q1 q2 q3 q4 p14 t14 B14 g14 ⊢
      refine ⟨rfl, d, [t1, t2, t3, t4], v1, v2, v3, v4, [g1, g2, g3, g4], rfl, p14, t14, B5.trans B14, hz, hA.bx B14, az, hL.bx B14, hE.bx B14, n6, ⟨rfl, rfl, rfl, g14, ?_⟩, ?_, ?_, ?_, ?_⟩
      · intro i t v g e1 e2 e3
        match i, e1, e2, e3 with
        | 0, e1, e2, e3 => cases e1; cases e2; cases e3; exact q1.2.1
        | 1, e1, e2, e3 => cases e1; cases e2; cases e3; exact q2.2.1
        | 2, e1, e2, e3 => cases e1; cases e2; cases e3; exact q3.2.1
        | 3, e1, e2, e3 => cases e1; cases e2; cases e3; exact q4.2.1
      · intro t ht
        simp only [List.mem_cons, List.mem_nil_iff, or_false] at ht
        rcases ht with rfl | rfl | rfl | rfl
        · exact q1.1
        · exact q2.1
        · exact q3.1
        · exact q4.1
      · intro v hv
        simp only [List.mem_cons, List.mem_nil_iff, or_false] at hv
        rcases hv with rfl | rfl | rfl | rfl
        · exact ⟨_, q1.2.2.1.odv⟩
        · exact ⟨_, q2.2.2.1.odv⟩
        · exact ⟨_, q3.2.2.1.odv⟩
        · exact ⟨_, q4.2.2.1.odv⟩
      · intro i v e2 e3
        match i, e2, e3 with
        | 0, e2, e3 => cases e2; cases e3; exact q1.2.2.2.1 rfl
        | 1, e2, e3 => cases e2; cases e3; exact q2.2.2.2.1 rfl
        | 2, e2, e3 => cases e2; cases e3; exact q3.2.2.2.1 rfl
        | 3, e2, e3 => cases e2; cases e3; exact q4.2.2.2.1 rfl
      · intro i v e2 e3
        match i, e2, e3 with
        | 0, e2, e3 =>
          cases e2
          cases e3
          obtain ⟨x, hx, rfl⟩ := q1.2.2.2.2 rfl
          refine ⟨Str.ofString "sight", x, rfl, rfl, .inl ⟨rfl, ?_⟩⟩
          simp only [List.mem_cons, List.mem_nil_iff, or_false] at hx
          rcases hx with rfl | rfl | rfl | rfl
          · exact .inl rfl
          · exact .inr (.inl rfl)
          · exact .inr (.inr ⟨over_one m0, rfl⟩)
          · exact .inr (.inr ⟨over_one ml, rfl⟩)
        | 1, e2, e3 =>
          cases e2
          cases e3
          obtain ⟨x, hx, rfl⟩ := q2.2.2.2.2 rfl
          simp only [List.mem_cons, List.mem_nil_iff, or_false] at hx
          exact ⟨Str.ofString "order", x, rfl, rfl, .inr (.inl ⟨rfl, hx⟩)⟩
        | 2, e2, e3 =>
          cases e2
          cases e3
          obtain ⟨x, hx, rfl⟩ := q3.2.2.2.2 rfl
          simp only [List.mem_cons, List.mem_nil_iff, or_false] at hx
          exact ⟨Str.ofString "further", x, rfl, rfl, .inr (.inr (.inl ⟨rfl, hx⟩))⟩
        | 3, e2, e3 =>
          cases e2
          cases e3
          obtain ⟨x, hx, rfl⟩ := q4.2.2.2.2 rfl
          simp only [List.mem_cons, List.mem_nil_iff, or_false] at hx
          exact ⟨Str.ofString "finish", x, rfl, rfl, .inr (.inr (.inr ⟨rfl, hx⟩))⟩
    · rintro σ' G ⟨D, ts, v1, v2, v3, v4, gs, rfl, pG, tG, BG, rd⟩
      obtain ⟨nA, gA, oA, bA, okA'⟩ := id rd.A
      obtain ⟨nL, gL, dL, shL, szL, rL⟩ := id rd.L
      obtain ⟨nE, gE, oE, bE, okE⟩ := id rd.E
      obtain ⟨hpos, spos⟩ := lab_pos rL
      refine ⟨_, rfl, _, rfl, _, rfl, _, rfl, tA, tL, tE, D, va, m, pos, e, ga, ge, ts, [v1, v2, v3, v4], gs, rfl, gA, gL, gE, hpos, rd.C, fun G1 rD s1 hrD gD => ?_⟩
      have pG1 := pot_same s1 pG
      have tG1 := tG.ext s1
      have rd1 := rd.bx (.same s1)
      refine ⟨_, rfl, _, rfl, _, rfl, (by show 3 ≤ sizeLine; decide), fun L hL => ?_⟩
      obtain ⟨s2, pG2, gK, nK⟩ := fresh1 (.lst [.ref tA, .ref tL, .ref tE]) pG1 hL
      have tG2 := tG1.ext s2
      have rd2 := rd1.bx (.same s2)
      have gD2 := s2 _ _ gD
      obtain ⟨dq, nice⟩ := rd2.kept gK
      refine ⟨_, _, rfl, dq, nice, _, _, rfl, ?_⟩
      have nrD : rD ≠ p := Ne.symm (pG.ne hrD)
      have BG2 := (BG.trans (.same s1)).trans (.same s2)
      generalize upd G1 L (.lst [.ref tA, .ref tL, .ref tE]) = G2 at pG2 tG2 rd2 gD2 BG2 ⊢
      clear dq gK s2 hL rd1 tG1 pG1 s1 hrD gD rd BG tG pG
      -- the four ways
      refine ⟨fun σ' H' => σ' = [some (.ref p), some (.ref tA), some (.str z), some (.ref tL), some (.ref tE), some (.ref D), some (.ref rD), some (.str (keptD da dm de (posD pos) ga ge).shown), some v1, some v2, some v3, some v4, none, none, none, none, none] ∧ PotAt H' p ∧ Tabs [(P0, ritQ)] H' ∧ ByX p H H' ∧ Rdy H' p tA tL tE D z va m pos e ga ge ts [v1, v2, v3, v4] gs da dm de ∧
        H' rD = some (.lst (dueL va ga pos e ge [v1, v2, v3, v4] gs)), ?_, ?_⟩
      · refine ⟨(by show 4 ≤ sizeLine; decide), fun N1 hN1 => ?_⟩
        obtain ⟨s3, pG3, g3, n3⟩ := fresh1 (.lst [tx "sight", tx "order", tx "further", tx "finish"]) pG2 hN1
        have tG3 := tG2.ext s3
        have rd3 := rd2.bx (.same s3)
        have gD3 := s3 _ _ gD2
        have BG3 := BG2.trans (.same s3)
        generalize upd G2 N1 (.lst [tx "sight", tx "order", tx "further", tx "finish"]) = G3 at s3 pG3 g3 tG3 rd3 gD3 BG3 ⊢
        have g3 : G3 N1 = some (.lst (careNs.map V.str)) := g3
        refine ⟨N1, rfl, ⟨_, SqL.of g3⟩, fun C hC => ?_⟩
        refine lc_it (walk_list (xs := careNs.map V.str)) (fun j Hj => Same G3 Hj ∧ Hj C = some (.lst ([v1, v2, v3, v4].take j))) ?_ ?_ ?_ ?_
        · exact ⟨(Same.refl G3).upd hC, upd_same⟩
        · rintro j Hj _ ⟨sj, _⟩
          exact SqL.of (sj _ _ g3)
        · rintro j x Hj0 Hj hj ⟨sj, gC⟩ ⟨rfl, hx⟩
          have hj4 : j < 4 := hj
          obtain ⟨nm, tt, e1, e2, e3⟩ := c4_val rd3.C.lt hj4
          rw [List.getElem?_map, e1] at hx
          obtain rfl : V.str nm = x := Option.some.inj hx
          obtain ⟨v, ev⟩ : ∃ v, [v1, v2, v3, v4][j]? = some v := ⟨_, List.getElem?_eq_getElem hj4⟩
          obtain ⟨g, eg⟩ : ∃ g, gs[j]? = some g := ⟨_, List.getElem?_eq_getElem (by rw [rd3.C.lg]; exact hj4)⟩
          have ht := sj _ _ (rd3.C.at_ j tt v g e2 ev eg)
          have hD := sj _ _ rd3.C.d
          refine ⟨rfl, _, rfl, _, rfl, D, _, rfl, dget_of hD e3, tt, _, 0, v, rfl, rfl, SqT.of ht, rfl, ?_⟩
          refine ⟨_, gC, by rw [List.length_take]; show min j 4 < sizeLine; rw [sz]; omega, sj.upd hC, ?_⟩
          rw [upd_same, take_snoc ev]
        · rintro Hd ⟨sd, gC⟩
          have gC : Hd C = some (.lst [v1, v2, v3, v4]) := gC
          refine ⟨C, _, rfl, SqL.of gC, rfl, _, _, rfl, _, _, rfl, _, _, rfl, _, _, rfl, ?_⟩
          exact ⟨rfl, rfl, pot_same sd pG3, tG3.ext sd, BG3.trans (.same sd), rd3.bx (.same sd), sd _ _ gD3⟩
      · rintro σ' G ⟨rfl, pG, tG, BG, rd, gD⟩
        have fresh : ∀ {Hx : Hp} {L : Addr}, ByX p G Hx → PotAt Hx p → Hx L = none → ∀ o, G L = some o → ∃ ps, o = .tbl ps := fun {Hx L} b ph hL o ho => Classical.byContradiction fun ht => by
          have := b L o ho (Ne.symm (ph.ne hL)) (fun ps z => ht ⟨ps, z⟩)
          rw [hL] at this
          cases this
        -- told once
        refine ⟨fun σ' H' => ∃ (L r1 : Addr) (xs1 : List V), σ' = [some (.ref p), some (.ref tA), some (.str z), some (.ref tL), some (.ref tE), some (.ref D), some (.ref rD), some (.str (keptD da dm de (posD pos) ga ge).shown), some v1, some v2, some v3, some v4, some (.ref L), none, none, none, none] ∧ PotAt H' p ∧ Tabs [(P0, ritQ)] H' ∧ ByX p G H' ∧
          L ≠ p ∧ (∀ o, G L = some o → ∃ ps, o = .tbl ps) ∧ H' L = some (.lst [.ref r1]) ∧ r1 ≠ p ∧ r1 ≠ L ∧ H' r1 = some (.lst xs1) ∧ ToldX R.C p (dueL va ga pos e ge [v1, v2, v3, v4] gs) H' xs1 z m e [v1, v2, v3, v4], ?_, ?_⟩
        · refine ⟨tG, fun Ha eN ta L0 hL0 E0' R0 hE hR => ?_⟩
          have Ba : ByX p G Ha := .ext eN
          have pa := pot_extN pG eN
          obtain ⟨s1, pHs, _, _⟩ := fresh1 (.lst [tx "else"]) pa hL0
          have rdA := (rd.bx Ba).bx (.same s1)
          obtain ⟨_, gA, _⟩ := id rdA.A
          obtain ⟨_, gL, _⟩ := id rdA.L
          obtain ⟨_, gE, _⟩ := id rdA.E
          refine ⟨_, rfl, tA, _, 0, va, rfl, rfl, SqT.of gA, rfl, _, rfl, tL, _, 0, m, rfl, rfl, SqT.of gL, rfl, _, rfl, tE, _, 0, e, rfl, rfl, SqT.of gE, rfl, _, rfl, _, rfl, _, rfl, _, rfl, rfl, rfl, ?_⟩
          refine mk_here rdA pHs hE hR fun Hb r xs sb hr tx1 => ?_
          have pb := pot_same sb pHs
          obtain ⟨s2, p2, g2, n2⟩ := fresh1 (.lst xs) pb hr
          have B2 := ((Ba.trans (.same s1)).trans (.same sb)).trans (.same s2)
          have t2 := ((ta.ext s1).ext sb).ext s2
          have tx2 := tx1.bx (.same (p := p) s2)
          generalize upd Hb r (.lst xs) = H2 at s2 p2 g2 B2 t2 tx2 ⊢
          refine ⟨(by show 1 ≤ sizeLine; decide), fun L hL => ?_⟩
          obtain ⟨s3, p3, g3, n3⟩ := fresh1 (.lst [.ref r]) p2 hL
          exact ⟨L, r, xs, rfl, p3, t2.ext s3, B2.trans (.same s3), n3, fresh B2 p2 hL, g3, n2, ne_of_none g2 hL, s3 _ _ g2, tx2.bx (.same s3)⟩
        · rintro σ' G1 ⟨L, r1, xs1, rfl, p1, t1, B1, nL, frL, gL1, nr1, nrL, g1, tx1⟩
          -- told twice
          refine ⟨fun σ' H' => ∃ (r2 : Addr) (xs2 : List V), σ' = [some (.ref p), some (.ref tA), some (.str z), some (.ref tL), some (.ref tE), some (.ref D), some (.ref rD), some (.str (keptD da dm de (posD pos) ga ge).shown), some v1, some v2, some v3, some v4, some (.ref L), none, none, none, none] ∧ PotAt H' p ∧ Tabs [(P0, ritQ)] H' ∧ ByX p G H' ∧
            H' L = some (.lst [.ref r1, .ref r2]) ∧ H' r1 = some (.lst xs1) ∧ H' r2 = some (.lst xs2) ∧ ToldX R.C p (dueL va ga pos e ge [v1, v2, v3, v4] gs) H' xs1 z m e [v1, v2, v3, v4] ∧ ToldX R.C p (dueL va ga pos e ge [v1, v2, v3, v4] gs) H' xs2 z m e [v1, v2, v3, v4], ?_, ?_⟩
          · refine ⟨_, rfl, .inl ⟨rfl, _, SqL.of gL1⟩, t1, fun Ha eN ta L0 hL0 E0' R0 hE hR => ?_⟩
            have Ba : ByX p G Ha := B1.trans (.ext eN)
            have pa := pot_extN p1 eN
            obtain ⟨s1, pHs, _, _⟩ := fresh1 (.lst [tx "else"]) pa hL0
            have rdA := (rd.bx Ba).bx (.same s1)
            obtain ⟨_, gA, _⟩ := id rdA.A
            obtain ⟨_, gL, _⟩ := id rdA.L
            obtain ⟨_, gE, _⟩ := id rdA.E
            refine ⟨_, rfl, _, rfl, _, rfl, _, rfl, _, rfl, tE, _, 0, e, rfl, rfl, SqT.of gE, rfl, _, rfl, tL, _, 0, m, rfl, rfl, SqT.of gL, rfl, _, rfl, tA, _, 0, va, rfl, rfl, SqT.of gA, rfl, rfl, rfl, ?_⟩
            refine mk_here rdA pHs hE hR fun Hb r xs sb hr tx2 => ?_
            have pb := pot_same sb pHs
            obtain ⟨s2, p2, g2, n2⟩ := fresh1 (.lst xs) pb hr
            have B2 := ((Ba.trans (.same s1)).trans (.same sb)).trans (.same s2)
            have t2 := ((ta.ext s1).ext sb).ext s2
            have b12 : ByX p G1 (upd Hb r (.lst xs)) := (((ByX.ext eN).trans (.same s1)).trans (.same sb)).trans (.same s2)
            have tx2 := tx2.bx (.same (p := p) s2)
            have tx1 := tx1.bx b12
            have gL2 := b12 _ _ gL1 nL not_tbl_l
            have g12 := b12 _ _ g1 nr1 not_tbl_l
            have nr2 : r ≠ L := fun q => by
              have hb := ((((ByX.ext eN).trans (.same s1)).trans (.same (p := p) sb)) : ByX p G1 Hb) _ _ gL1 nL not_tbl_l
              rw [q, hb] at hr
              cases hr
            generalize upd Hb r (.lst xs) = H2 at p2 g2 B2 t2 tx1 tx2 gL2 g12 ⊢
            refine ⟨L, _, _, rfl, rfl, gL2, (by show 1 < sizeLine; decide), ?_⟩
            refine ⟨r, xs, rfl, p2.upd (Ne.symm nL), tabs_updL t2 gL2, byX_updL B2 frL, upd_same, by rw [upd_ne nrL]; exact g12, by rw [upd_ne nr2]; exact g2, tx1.upd gL2, tx2.upd gL2⟩
          · rintro σ' Gx ⟨r2, xs2, rfl, px, tx, Bx, gLx, gx1, gx2, td1, td2⟩
            have rdx := rd.bx Bx
            refine ⟨_, rfl, _, rfl, _, rfl, (by show 3 ≤ sizeLine; decide), fun K1 hK1 => ?_⟩
            obtain ⟨sk, pk, gK, nK⟩ := fresh1 (.lst [.ref tA, .ref tL, .ref tE]) px hK1
            obtain ⟨dqk, nik⟩ := (rdx.bx (.same sk)).kept gK
            have Bk := Bx.trans (.same sk)
            have tk := tx.ext sk
            replace gLx := sk _ _ gLx
            replace gx1 := sk _ _ gx1
            replace gx2 := sk _ _ gx2
            replace td1 := td1.bx (.same (p := p) sk)
            replace td2 := td2.bx (.same (p := p) sk)
            generalize upd Gx K1 (.lst [.ref tA, .ref tL, .ref tE]) = G3 at pk gK dqk Bk tk gLx gx1 gx2 td1 td2 ⊢
            refine ⟨_, _, rfl, dqk, nik, _, rfl, rfl, _, rfl, ?_⟩
            refine ite2 (fun q => absurd q (by rw [decide_eq_true rfl]; decide)) (fun _ => ?_)
            have gDx := Bk _ _ gD nrD not_tbl_l
            have rd3 := rd.bx Bk
            -- a wrong thing
            refine ⟨fun σ' H' => dueL va ga pos e ge [v1, v2, v3, v4] gs = [] ∧ σ' = [some (.ref p), some (.ref tA), some (.str z), some (.ref tL), some (.ref tE), some (.ref D), some (.ref rD), some (.str (keptD da dm de (posD pos) ga ge).shown), some v1, some v2, some v3, some v4, some (.ref L), none, none, none, none] ∧ Same G3 H', ?_, ?_⟩
            · refine ⟨_, rfl, (by decide), fun N1 hN1 => ?_⟩
              obtain ⟨s1, pn, gN, _⟩ := fresh1 (.lst []) pk hN1
              refine ⟨rD, N1, _, rfl, rfl, s1 _ _ gDx, gN, _, rfl, ?_⟩
              cases hdue : dueL va ga pos e ge [v1, v2, v3, v4] gs with
              | nil => exact iteF ⟨rfl, rfl, s1⟩
              | cons y ys =>
                refine iteT ?_
                have rdn := rd3.bx (.same s1)
                obtain ⟨ds, dqa, nice⟩ := rdn.due
                have e1 : xs1 = dueL va ga pos e ge [v1, v2, v3, v4] gs := by
                  rcases td1 with ⟨_, h⟩ | ⟨h, _⟩
                  · exact h
                  · rw [hdue] at h
                    cases h
                have e2 : xs2 = dueL va ga pos e ge [v1, v2, v3, v4] gs := by
                  rcases td2 with ⟨_, h⟩ | ⟨h, _⟩
                  · exact h
                  · rw [hdue] at h
                    cases h
                have tn := tk.ext s1
                have Bn := Bk.trans (.same s1)
                have gL9 := s1 _ _ gLx
                have gx1' := s1 _ _ gx1
                have gx2' := s1 _ _ gx2
                have gD9 := s1 _ _ gDx
                rw [e1] at gx1'
                rw [e2] at gx2'
                generalize upd G3 N1 (.lst []) = H3 at pn gN rdn dqa tn Bn gL9 gx1' gx2' gD9 ⊢
                refine ⟨_, rfl, L, rfl, ⟨_, SqL.of gL9⟩, fun C hC => ?_⟩
                have d1 : ∀ {Hj : Hp}, Same H3 Hj → ∀ r, (r = r1 ∨ r = r2) → Dq Hj (.ref r) (.list ds) := fun {Hj} sj r hr => by
                  have dj : DqAll Hj (dueL va ga pos e ge [v1, v2, v3, v4] gs) ds := dqa_same sj dqa
                  rcases hr with rfl | rfl
                  · exact .lst (sj _ _ gx1') dj
                  · exact .lst (sj _ _ gx2') dj
                refine lc_it (walk_list (xs := [.ref r1, .ref r2])) (fun j Hj => Same H3 Hj ∧ Hj C = some (.lst ([V.str (PyData.list ds).shown, V.str (PyData.list ds).shown].take j))) ?_ ?_ ?_ ?_
                · exact ⟨(Same.refl H3).upd hC, upd_same⟩
                · rintro j Hj _ ⟨sj, _⟩
                  exact SqL.of (sj _ _ gL9)
                · rintro j x Hj0 Hj hj ⟨sj, gC⟩ ⟨rfl, hx⟩
                  have hj2 : j < 2 := hj
                  obtain ⟨r, hr, rfl⟩ : ∃ r, (r = r1 ∨ r = r2) ∧ x = .ref r := by
                    match j, hx with
                    | 0, hx => cases hx; exact ⟨_, .inl rfl, rfl⟩
                    | 1, hx => cases hx; exact ⟨_, .inr rfl, rfl⟩
                  refine ⟨rfl, _, rfl, _, _, rfl, d1 sj r hr, nice, _, gC, by rw [List.length_take]; show min j 2 < sizeLine; rw [sz]; omega, sj.upd hC, ?_⟩
                  have ge2 : [V.str (PyData.list ds).shown, V.str (PyData.list ds).shown][j]? = some (.str (PyData.list ds).shown) := by
                    match j, hj2 with
                    | 0, _ => rfl
                    | 1, _ => rfl
                  rw [upd_same, take_snoc ge2]
                · rintro Hd ⟨sd, gC⟩
                  have gC : Hd C = some (.lst [V.str (PyData.list ds).shown, V.str (PyData.list ds).shown]) := gC
                  refine ⟨_, rfl, _, _, rfl, .lst (sd _ _ gD9) (dqa_same sd dqa), nice, (by show 1 ≤ sizeLine; decide), fun M hM => ?_⟩
                  obtain ⟨s4, p4, g4, _⟩ := fresh1 (.lst [V.str (PyData.list ds).shown]) (pot_same sd pn) hM
                  refine ⟨M, 2, _, rfl, rfl, g4, (by decide), (by decide), (by show 1 * 2 ≤ sizeLine; decide), fun M2 hM2 => ?_⟩
                  obtain ⟨s5, p5, g5, _⟩ := fresh1 (.lst (List.replicate (2 : Int).toNat [V.str (PyData.list ds).shown]).flatten) p4 hM2
                  have sAll := (sd.trans s4).trans s5
                  refine ⟨1, by decide, .inl ⟨C, M2, _, _, rfl, rfl, SqL.of (s5 _ _ (s4 _ _ gC)), SqL.of g5, .cons (.inl ⟨rfl, rfl⟩) (.cons (.inl ⟨rfl, rfl⟩) .nil)⟩, ?_⟩
                  exact k _ p5 ((BG.trans Bn).trans (.same sAll)) (tn.ext sAll)
            · rintro σ' H3 ⟨hdue, rfl, s3⟩
              have p3 := pot_same s3 pk
              have t3 := tk.ext s3
              have B3 := Bk.trans (.same s3)
              have rd4 := rd3.bx (.same s3)
              have gL3 := s3 _ _ gLx
              obtain ⟨x1, rfl, ra1⟩ : ∃ x1, xs1 = [K50.tx "made", .ref x1] ∧ ReadAt R.C p H3 x1 z m e [v1, v2, v3, v4] := by
                rcases td1 with ⟨h, _⟩ | ⟨_, x, h, r⟩
                · exact absurd hdue h
                · exact ⟨x, h, r.bx (.same s3)⟩
              obtain ⟨x2, rfl, ra2⟩ : ∃ x2, xs2 = [K50.tx "made", .ref x2] ∧ ReadAt R.C p H3 x2 z m e [v1, v2, v3, v4] := by
                rcases td2 with ⟨h, _⟩ | ⟨_, x, h, r⟩
                · exact absurd hdue h
                · exact ⟨x, h, r.bx (.same s3)⟩
              have gr1 := s3 _ _ gx1
              have gr2 := s3 _ _ gx2
              obtain ⟨a, b, ms, tl, c', dx1, ma1, ca1, rfl, na, ha, rfl, ev, ok, nx1, nm1, nc1, i1, i2, i3⟩ := ra1
              obtain ⟨a', b', ms', tl', c2, dx2, ma2, ca2, ea, _, ha', et, ev', _, nx2, nm2, nc2, j1, j2, j3⟩ := ra2
              cases ea
              cases et
              have em : ms = ms' := by
                have := seq_inj ha ha'
                exact strs_inj this
              subst em
              have ec : c' = c2 := by
                rw [ev] at ev'
                unfold careVs at ev'
                obtain ⟨s1, o1, f1, e1⟩ := c'
                obtain ⟨s2, o2, f2, e2⟩ := c2
                simp only [List.cons.injEq, V.str.injEq, and_true] at ev'
                obtain ⟨rfl, rfl, rfl, rfl⟩ := ev'
                rfl
              subst ec
              have at1 : ReaderAt R.C H3 x1 z ms tl c' := ⟨dx1, ma1, ca1, i1, i2, i3⟩
              have at2 : ReaderAt R.C H3 x2 z ms tl c' := ⟨dx2, ma2, ca2, j1, j2, j3⟩
              -- both made, and equal
              refine ⟨fun σ' H' => σ' = [some (.ref p), some (.ref tA), some (.str z), some (.ref tL), some (.ref tE), some (.ref D), some (.ref rD), some (.str (keptD da dm de (posD pos) ga ge).shown), some v1, some v2, some v3, some v4, some (.ref L), none, none, none, none] ∧ Same H3 H', ?_, ?_⟩
              · refine ⟨_, rfl, L, rfl, ⟨_, SqL.of gL3⟩, fun C hC => ?_⟩
                refine lc_it (walk_list (xs := [.ref r1, .ref r2])) (fun j Hj => Same H3 Hj ∧ Hj C = some (.lst ([K50.tx "made", K50.tx "made"].take j))) ?_ ?_ ?_ ?_
                · exact ⟨(Same.refl H3).upd hC, upd_same⟩
                · rintro j Hj _ ⟨sj, _⟩
                  exact SqL.of (sj _ _ gL3)
                · rintro j x Hj0 Hj hj ⟨sj, gC⟩ ⟨rfl, hx⟩
                  have hj2 : j < 2 := hj
                  obtain ⟨r, y, hr, rfl⟩ : ∃ r y, Hj r = some (.lst [K50.tx "made", y]) ∧ x = .ref r := by
                    match j, hx with
                    | 0, hx => cases hx; exact ⟨_, _, sj _ _ gr1, rfl⟩
                    | 1, hx => cases hx; exact ⟨_, _, sj _ _ gr2, rfl⟩
                  refine ⟨rfl, _, rfl, r, _, 0, _, rfl, rfl, SqL.of hr, rfl, ?_⟩
                  refine ⟨_, gC, by rw [List.length_take]; show min j 2 < sizeLine; rw [sz]; omega, sj.upd hC, ?_⟩
                  have ge2 : [K50.tx "made", K50.tx "made"][j]? = some (K50.tx "made") := by
                    match j, hj2 with
                    | 0, _ => rfl
                    | 1, _ => rfl
                  rw [upd_same, take_snoc ge2]
                · rintro Hd ⟨sd, gC⟩
                  have gC : Hd C = some (.lst [K50.tx "made", K50.tx "made"]) := gC
                  refine ⟨(by show 2 ≤ sizeLine; decide), fun N hN => ?_⟩
                  obtain ⟨s4, p4, g4, _⟩ := fresh1 (.lst [K50.tx "made", K50.tx "made"]) (pot_same sd p3) hN
                  have s34 := sd.trans s4
                  have two : ∀ {G : Hp} {A : Addr}, G A = some (.lst [K50.tx "made", K50.tx "made"]) → Dp K G (.ref A) (.list [.str (Str.ofString "made"), .str (Str.ofString "made")]) := fun g => .lst (SqL.of g) (.cons (.str _) (.cons (.str _) .nil))
                  refine ⟨_, _, two (s4 _ _ gC), two g4, by decide +kernel, by decide +kernel, _, rfl, ?_⟩
                  rw [show (!PyData.eqv (.list [.str (Str.ofString "made"), .str (Str.ofString "made")]) (.list [.str (Str.ofString "made"), .str (Str.ofString "made")])) = false by decide +kernel]
                  refine iteF ?_
                  refine ⟨_, rfl, L, _, 0, .ref r1, rfl, rfl, SqL.of (s34 _ _ gL3), rfl, r1, _, 1, .ref x1, rfl, rfl, SqL.of (s34 _ _ gr1), rfl, _, rfl, L, _, 1, .ref r2, rfl, rfl, SqL.of (s34 _ _ gL3), rfl, r2, _, 1, .ref x2, rfl, rfl, SqL.of (s34 _ _ gr2), rfl, ?_⟩
                  refine ⟨x1, dx1, _, rfl, s34 _ _ i1, .inr ⟨x2, dx2, _, rfl, s34 _ _ j1⟩, x1, x2, z, ms, tl, c', rfl, ok, at1.same s34, at2.same s34, true, rfl, _, rfl, ?_⟩
                  exact iteF ⟨rfl, s34⟩
              · rintro σ' H4 ⟨rfl, s4⟩
                have hga : ga = true := by
                  cases ga with
                  | true => rfl
                  | false =>
                    unfold dueL at hdue
                    rw [if_pos rfl] at hdue
                    cases hdue
                have hva := rd4.az hga
                have p4 := pot_same s4 p3
                have t4 := t3.ext s4
                have B4 := B3.trans (.same s4)
                have rd5 := rd4.bx (.same s4)
                -- both are as they were asked for
                refine ⟨fun σ' H' => σ' = [some (.ref p), some (.ref tA), some (.str z), some (.ref tL), some (.ref tE), some (.ref D), some (.ref rD), some (.str (keptD da dm de (posD pos) ga ge).shown), some v1, some v2, some v3, some v4, some (.ref L), none, none, none, none] ∧ Same H4 H', ?_, ?_⟩
                · refine ⟨_, rfl, L, rfl, ⟨_, SqL.of (s4 _ _ gL3)⟩, fun C hC => ?_⟩
                  refine lc_it (walk_list (xs := [.ref r1, .ref r2])) (fun j Hj => Same H4 Hj ∧ Hj C = some (.lst (([true, true].take j).map V.bl))) ?_ ?_ ?_ ?_
                  · exact ⟨(Same.refl H4).upd hC, upd_same⟩
                  · rintro j Hj _ ⟨sj, _⟩
                    exact SqL.of (sj _ _ (s4 _ _ gL3))
                  · rintro j x Hj0 Hj hj ⟨sj, gC⟩ ⟨rfl, hx⟩
                    have hj2 : j < 2 := hj
                    have s34 := s4.trans sj
                    obtain ⟨r, xx, hr, rfl, hat⟩ : ∃ r xx, Hj r = some (.lst [K50.tx "made", .ref xx]) ∧ x = .ref r ∧ ReaderAt R.C Hj xx z ms tl c' := by
                      match j, hx with
                      | 0, hx => cases hx; exact ⟨_, _, s34 _ _ gr1, rfl, at1.same s34⟩
                      | 1, hx => cases hx; exact ⟨_, _, s34 _ _ gr2, rfl, at2.same s34⟩
                    have rdj := rd5.bx (.same sj)
                    obtain ⟨_, gA, _⟩ := id rdj.A
                    obtain ⟨_, gL, _⟩ := id rdj.L
                    obtain ⟨_, gE, _⟩ := id rdj.E
                    refine ⟨rfl, _, rfl, r, _, 1, .ref xx, rfl, rfl, SqL.of hr, rfl, _, rfl, tA, _, 0, va, rfl, rfl, SqT.of gA, rfl, _, rfl, tL, _, 0, _, rfl, rfl, SqT.of gL, rfl, _, rfl, tE, _, 0, _, rfl, rfl, SqT.of gE, rfl, _, rfl, ?_⟩
                    refine ⟨xx, a, D, z, ms, tl, c', b, ts, gs, by rw [hva]; rfl, hat, ok, s34 _ _ ha, by rw [← ev]; exact rdj.C, fun Hk sk => ?_⟩
                    refine ⟨_, sk _ _ gC, by rw [List.length_map, List.length_take]; show min j 2 < sizeLine; rw [sz]; omega, (sj.trans sk).upd hC, ?_⟩
                    have ge2 : [true, true][j]? = some true := by
                      match j, hj2 with
                      | 0, _ => rfl
                      | 1, _ => rfl
                    rw [upd_same, take_snoc ge2, List.map_append]
                    rfl
                  · rintro Hd ⟨sd, gC⟩
                    have gC : Hd C = some (.lst ([true, true].map V.bl)) := gC
                    refine ⟨C, [true, true], rfl, SqL.of gC, _, rfl, ?_⟩
                    exact iteF ⟨rfl, sd⟩
                · rintro σ' H5 ⟨rfl, s5⟩
                  have p5 := pot_same s5 p4
                  have t5 := t4.ext s5
                  have B5 := B4.trans (.same s5)
                  have rd6 := rd5.bx (.same s5)
                  obtain ⟨_, gA, _⟩ := id rd6.A
                  obtain ⟨_, gL, _⟩ := id rd6.L
                  obtain ⟨_, gE, _⟩ := id rd6.E
                  have ha5 := s5 _ _ (s4 _ _ ha)
                  have zs := (alpha_ok z hz).1
                  refine ⟨_, rfl, tA, _, 0, va, rfl, rfl, SqT.of gA, rfl, _, rfl, tL, _, 0, _, rfl, rfl, SqT.of gL, rfl, _, rfl, tE, _, 0, _, rfl, rfl, SqT.of gE, rfl, fun x dx hx hdx ne => ?_⟩
                  have s6 : Same H5 (upd (upd H5 dx (.own x)) x (.ins R.C dx [])) := ((Same.refl H5).upd hdx).upd hx
                  have co : CaresOk z ⟨Str.ofString "whole", Str.ofString "inner", Str.ofString "refuse", Str.ofString "refuse"⟩ := ⟨fun q hq => by
                    simp only [caresL, List.mem_cons, List.mem_nil_iff, or_false] at hq
                    rcases hq with rfl | rfl | rfl | rfl
                    · exact .inl ⟨rfl, .inl rfl⟩
                    · exact .inr (.inl ⟨rfl, .inl rfl⟩)
                    · exact .inr (.inr (.inl ⟨rfl, .inl rfl⟩))
                    · exact .inr (.inr (.inr ⟨rfl, .inl rfl⟩))⟩
                  rw [hva]
                  refine plain_init (c0 := ⟨Str.ofString "whole", Str.ofString "inner", Str.ofString "refuse", Str.ofString "refuse"⟩) ok zs upd_same (s6 _ _ ha5) co fun H6 ra b6 => ⟨rfl, ?_⟩
                  have s56 : Same H5 H6 := fun q o e => b6 q o (s6 _ _ e) (ne_of_none e hx)
                  have p6 := pot_same s56 p5
                  have t6 := t5.ext s56
                  have B6 := B5.trans (.same s56)
                  have rd7 := rd6.bx (.same s56)
                  have ha6 := s56 _ _ ha5
                  intro d' hd'
                  obtain ⟨q1, p7, g7, n7⟩ := fresh1 (.dK []) p6 hd'
                  refine ⟨(by show 2 ≤ sizeLine; decide), fun u1 h1 => ?_⟩
                  obtain ⟨q2, p8, g8, n8⟩ := fresh1 (.tup [K50.tx "whole", .bl true]) p7 h1
                  refine ⟨(by show 2 ≤ sizeLine; decide), fun u2 h2 => ?_⟩
                  obtain ⟨q3, p9, g9, n9⟩ := fresh1 (.tup [K50.tx "inner", .bl true]) p8 h2
                  refine ⟨(by show 2 ≤ sizeLine; decide), fun u3 h3 => ?_⟩
                  obtain ⟨q4, p10, g10, n10⟩ := fresh1 (.tup [K50.tx "refuse", .bl true]) p9 h3
                  refine ⟨q4 _ _ (q3 _ _ (q2 _ _ g7)), [(Sum.inr (Str.ofString "sight"), .ref u1), (Sum.inr (Str.ofString "order"), .ref u2), (Sum.inr (Str.ofString "further"), .ref u3)], rfl, (by show 3 ≤ 15; decide), ?_⟩
                  rw [merge3]
                  have g7a := q4 _ _ (q3 _ _ (q2 _ _ g7))
                  have g8a := q4 _ _ (q3 _ _ g8)
                  have g9a := q4 _ _ g9
                  have sA : Same H6 _ := ((q1.trans q2).trans q3).trans q4
                  generalize upd (upd (upd (upd H6 d' (.dK [])) u1 (.tup [K50.tx "whole", .bl true])) u2 (.tup [K50.tx "inner", .bl true])) u3 (.tup [K50.tx "refuse", .bl true]) = H7 at sA p10 g7a g8a g9a g10 ⊢
                  have nd' : ∀ {q : Addr} {xs : List V}, H7 q = some (.tup xs) → q ≠ d' := fun e z => by
                    rw [z, g7a] at e
                    cases e
                  have p11 : PotAt (upd H7 d' (.dK [((Sum.inr (Str.ofString "sight") : Key), V.ref u1), (Sum.inr (Str.ofString "order"), .ref u2), (Sum.inr (Str.ofString "further"), .ref u3)])) p := p10.upd (Ne.symm n7)
                  have sB : Same H6 (upd H7 d' (.dK [((Sum.inr (Str.ofString "sight") : Key), V.ref u1), (Sum.inr (Str.ofString "order"), .ref u2), (Sum.inr (Str.ofString "further"), .ref u3)])) := sA.upd hd'
                  have g8b : upd H7 d' (.dK [((Sum.inr (Str.ofString "sight") : Key), V.ref u1), (Sum.inr (Str.ofString "order"), .ref u2), (Sum.inr (Str.ofString "further"), .ref u3)]) u1 = some (.tup [K50.tx "whole", .bl true]) := by rw [upd_ne (nd' g8a)]; exact g8a
                  have g9b : upd H7 d' (.dK [((Sum.inr (Str.ofString "sight") : Key), V.ref u1), (Sum.inr (Str.ofString "order"), .ref u2), (Sum.inr (Str.ofString "further"), .ref u3)]) u2 = some (.tup [K50.tx "inner", .bl true]) := by rw [upd_ne (nd' g9a)]; exact g9a
                  have g10b : upd H7 d' (.dK [((Sum.inr (Str.ofString "sight") : Key), V.ref u1), (Sum.inr (Str.ofString "order"), .ref u2), (Sum.inr (Str.ofString "further"), .ref u3)]) u3 = some (.tup [K50.tx "refuse", .bl true]) := by rw [upd_ne (nd' g10)]; exact g10
                  have gdb : upd H7 d' (.dK [((Sum.inr (Str.ofString "sight") : Key), V.ref u1), (Sum.inr (Str.ofString "order"), .ref u2), (Sum.inr (Str.ofString "further"), .ref u3)]) d' = some (.dK [((Sum.inr (Str.ofString "sight") : Key), V.ref u1), (Sum.inr (Str.ofString "order"), .ref u2), (Sum.inr (Str.ofString "further"), .ref u3)]) := upd_same
                  generalize upd H7 d' (.dK [((Sum.inr (Str.ofString "sight") : Key), V.ref u1), (Sum.inr (Str.ofString "order"), .ref u2), (Sum.inr (Str.ofString "further"), .ref u3)]) = H8 at p11 sB g8b g9b g10b gdb ⊢
                  refine ⟨(by show 2 ≤ sizeLine; decide), fun u4 h4 => ?_⟩
                  obtain ⟨q5, p12, g11, n11⟩ := fresh1 (.tup [K50.tx "refuse", .bl true]) p11 h4
                  refine ⟨_, rfl, d', _, rfl, DPut.k (k := Sum.inr (Str.ofString "finish")) (q5 _ _ gdb) (by show 3 < sizeLine; decide), ?_⟩
                  rw [(puts (.ref u1) (.ref u2) (.ref u3) (.ref u4)).2.2.2]
                  have nd2 : ∀ {q : Addr} {xs : List V}, H8 q = some (.tup xs) → q ≠ d' := fun e z => by
                    rw [z, gdb] at e
                    cases e
                  have n4 : u4 ≠ d' := fun z => by
                    rw [z, gdb] at h4
                    cases h4
                  have sF : Same H6 (upd (upd H8 u4 (.tup [K50.tx "refuse", .bl true])) d' (.dK (carK (.ref u1) (.ref u2) (.ref u3) (.ref u4)))) := (sB.trans q5).upd hd'
                  have pF : PotAt (upd (upd H8 u4 (.tup [K50.tx "refuse", .bl true])) d' (.dK (carK (.ref u1) (.ref u2) (.ref u3) (.ref u4)))) p := p12.upd (Ne.symm n7)
                  have f1 : upd (upd H8 u4 (.tup [K50.tx "refuse", .bl true])) d' (.dK (carK (.ref u1) (.ref u2) (.ref u3) (.ref u4))) u1 = some (.tup [K50.tx "whole", .bl true]) := by rw [upd_ne (nd2 g8b)]; exact q5 _ _ g8b
                  have f2 : upd (upd H8 u4 (.tup [K50.tx "refuse", .bl true])) d' (.dK (carK (.ref u1) (.ref u2) (.ref u3) (.ref u4))) u2 = some (.tup [K50.tx "inner", .bl true]) := by rw [upd_ne (nd2 g9b)]; exact q5 _ _ g9b
                  have f3 : upd (upd H8 u4 (.tup [K50.tx "refuse", .bl true])) d' (.dK (carK (.ref u1) (.ref u2) (.ref u3) (.ref u4))) u3 = some (.tup [K50.tx "refuse", .bl true]) := by rw [upd_ne (nd2 g10b)]; exact q5 _ _ g10b
                  have f4 : upd (upd H8 u4 (.tup [K50.tx "refuse", .bl true])) d' (.dK (carK (.ref u1) (.ref u2) (.ref u3) (.ref u4))) u4 = some (.tup [K50.tx "refuse", .bl true]) := by rw [upd_ne n4]; exact g11
                  have fd' : upd (upd H8 u4 (.tup [K50.tx "refuse", .bl true])) d' (.dK (carK (.ref u1) (.ref u2) (.ref u3) (.ref u4))) d' = some (.dK (carK (.ref u1) (.ref u2) (.ref u3) (.ref u4))) := upd_same
                  generalize upd (upd H8 u4 (.tup [K50.tx "refuse", .bl true])) d' (.dK (carK (.ref u1) (.ref u2) (.ref u3) (.ref u4))) = H9 at sF pF f1 f2 f3 f4 fd' ⊢
                  have rdF := rd7.bx (.same sF)
                  obtain ⟨_, gA9, _⟩ := id rdF.A
                  obtain ⟨_, gL9, _⟩ := id rdF.L
                  obtain ⟨_, gE9, _⟩ := id rdF.E
                  refine ⟨_, rfl, _, rfl, tA, _, 0, va, rfl, rfl, SqT.of gA9, rfl, _, rfl, tL, _, 0, _, rfl, rfl, SqT.of gL9, rfl, _, rfl, tE, _, 0, _, rfl, rfl, SqT.of gE9, rfl, _, rfl, ?_⟩
                  refine ⟨x, a, d', z, ms, tl, _, b, [u1, u2, u3, u4], [true, true, true, true], by rw [hva]; rfl, ra.same sF, ⟨ok.az, ok.ms, ok.tl, co⟩, sF _ _ ha6, ⟨rfl, rfl, rfl, fd', fun i t v g e1 e2 e3 => ?_⟩, fun Hk sk => ?_⟩
                  · match i, e1, e2, e3 with
                    | 0, e1, e2, e3 => cases e1; cases e2; cases e3; exact f1
                    | 1, e1, e2, e3 => cases e1; cases e2; cases e3; exact f2
                    | 2, e1, e2, e3 => cases e1; cases e2; cases e3; exact f3
                    | 3, e1, e2, e3 => cases e1; cases e2; cases e3; exact f4
                  · exact k Hk (pot_same sk pF) ((BG.trans B6).trans (.same (sF.trans sk))) ((t6.ext sF).ext sk)
end
end K50
namespace K50
open PySem PySem.Spec PyProof.Rows L2 FL
open LamX
abbrev sLaw : Stmt := topS 45
def spLawT (K : PySem.W.Frag) (T : List (Addr × Str)) : Sp := fun vs H Q _ => ∃ (a : Addr) (ns : List Int), vs = [.ref a] ∧ SqL K H a (ns.map V.int) ∧ ns.length ≤ 63 ∧ Tabs T H ∧ ∀ H', Q (.bl true) H'
section
variable {P : Program} {w : World} {K : PySem.W.Frag} {mg : Str → Option Value} {base : Heap}
theorem scLaw : FnScope ["_law_script", "_law_k"] ["_law_script"] (defScope sLaw) := ⟨rfl, rfl, rfl, by decide +kernel, rfl, by decide +kernel, by decide +kernel⟩
theorem ok_law {f : Addr} {fd : FuncData} {T : List (Addr × Str)} (F : Fun K "law" "law" sLaw f fd) (mA : mg "all" = none) (mG : mg "range" = none) (mX : mg "max" = none) (mI : mg "min" = none) (mN : mg "len" = none)
    (cP : Ca P w K mg base "_law_pot" 1 ["_law_script", "_law_k"] (spPot K)) (cR : CaG P w K mg base "_law_right" 8 ["_law_pot_here"] (spRight T)) :
    FnG P w K mg base CX0 9 f fd ["_law_script"] (spLawT K T) := by
  refine okG F scLaw (fun vs H Q E h => ?_) (fun cdv A outer s H vs Q E hr hg h => ?_)
  · obtain ⟨_, _, rfl, _⟩ := h
    rfl
  · obtain ⟨a, ns, rfl, hs, ln, hT, k⟩ := h
    have nd := scLaw.nd
    have hr1 := hr.mono (show 1 ≤ 8 by decide)
    refine ⟨_, pss_one (ps_ret (pe_callB (cr_all rfl) (by rfl) mA (by decide +kernel) (pa_cons (pe_lc (own := [("_law_k", 1)]) (g := gName 1) (tt := tYes)
      (te := tCall (spRight T) [] E0 (tCons (tCall (spPot K) [] E0 (tCons (tVar 0) (tCons (tVar 1) tNil))) tNil)) rfl nd
      (pi_range1 (by rfl) mG (pa_cons (pe_callB (call_max2 rfl) (by rfl) mX (by decide +kernel) (pa_cons pe_int (pa_cons (pe_callB (call_min2 rfl) (by rfl) mI (by decide +kernel)
        (pa_cons pe_int (pa_cons (pe_callB callLen (by rfl) mN PySem.boot_len (pa_cons (pv 0) pa_nil)) pa_nil))) pa_nil))) pa_nil))
      (blkOk_by (N := ["_law_script", "_law_k"]) (sc := defScope sLaw) (by decide +kernel)) (fun _ _ _ _ _ => pg_name (i := 1) nd rfl (Or.inl rfl)) (fun _ _ _ _ _ => pts_nil)
      (fun _ _ _ _ _ => pe_cg cR hr hg (by rfl) (pa_cons (pe_ca cP hr1 (by rfl) (pa_cons (pv 0) (pa_cons (pv 1) pa_nil))) pa_nil))) pa_nil))), ?_⟩
    have sz : sizeLine = 16777216 := rfl
    refine ⟨_, rfl, _, ns.length, rfl, .inl ⟨_, hs, (List.length_map _).symm⟩, _, _, rfl, _, _, rfl, ?_⟩
    refine ⟨_, rfl, (by split <;> split <;> omega), (by split <;> split <;> omega), fun D hD => ?_⟩
    refine lc_range (lo := 0) (n := _) (fun i Hi => Tabs T Hi ∧ SqL K Hi a (ns.map V.int) ∧ Hi D = some (.lst ((List.replicate i true).map V.bl))) ?_ ?_ ?_
    · have s0 : Same H (upd H D (.lst [])) := (Same.refl H).upd hD
      exact ⟨hT.ext s0, s0.sqL hs, upd_same⟩
    · rintro i Hi hi ⟨ti, hsi, hDi⟩
      have hi4 : i < 6 := by
        revert hi
        split <;> split <;> omega
      refine ⟨rfl, _, rfl, _, rfl, a, ns, _, rfl, hsi, by omega, by omega, ln, fun q H2 hq hp2 s2 => ?_⟩
      have t2 := ti.ext s2
      have hs2 := s2.sqL hsi
      refine ⟨q, rfl, hp2, t2, fun H3 hp3 b3 t3 => ?_⟩
      have nDq : D ≠ q := ne_of_none hDi hq
      have hD3 := b3 D _ (s2 _ _ hDi) nDq not_tbl_l
      refine ⟨_, hD3, (by rw [List.length_map, List.length_replicate, sz]; omega), tabs_updL t3 hD3, ?_, ?_⟩
      · have nqa : ∀ o, Hi a = some o → a ≠ q := fun o e => ne_of_none e hq
        have nDa : ∀ {o}, H a = some o → a ≠ D := fun e => ne_of_none e hD
        rcases hs with (e | ⟨o, e⟩) | e
        · rcases hsi with (e0 | ⟨o0, e0⟩) | e0
          · refine .inl (.inl ?_)
            rw [upd_ne (nDa e)]
            exact b3 _ _ (s2 _ _ e0) (nqa _ e0) not_tbl_l
          · refine .inl (.inr ⟨o0, ?_⟩)
            rw [upd_ne (nDa e)]
            exact b3 _ _ (s2 _ _ e0) (nqa _ e0) (fun _ z => by cases z)
          · exact .inr e0
        · rcases hsi with (e0 | ⟨o0, e0⟩) | e0
          · refine .inl (.inl ?_)
            rw [upd_ne (nDa e)]
            exact b3 _ _ (s2 _ _ e0) (nqa _ e0) not_tbl_l
          · refine .inl (.inr ⟨o0, ?_⟩)
            rw [upd_ne (nDa e)]
            exact b3 _ _ (s2 _ _ e0) (nqa _ e0) (fun _ z => by cases z)
          · exact .inr e0
        · exact .inr e
      · rw [upd_same, List.replicate_succ', List.map_append]
        rfl
    · rintro Hi ⟨ti, hsi, hDi⟩
      refine ⟨D, _, rfl, SqL.of hDi, ?_⟩
      rw [all_true]
      exact k Hi
end
end K50
namespace K50
open PySem PySem.Spec PyProof.Rows L2 FL LamX
theorem getr_rec {K : PySem.W.Frag} {m : Str} (c : recB K m = true) : ∃ rest, PySem.W.recIn K (He.ma K (He.ga K "Reader") m) "property" = some (.ref (getr m K) :: rest) := by
  unfold recB at c
  show ∃ rest, PySem.W.recIn K (me m K) "property" = _
  split at c
  · rename_i g rest e
    refine ⟨rest, ?_⟩
    unfold getr
    rw [e]
  · cases c
structure Facts (K : PySem.W.Frag) : Prop where
  gs : ∀ x ∈ glos, (He.Fa.glo x).ok K = true
  gs2 : ∀ x ∈ glos2, (He.Fa.glo x).ok K = true
  fr : ∀ x ∈ free1, (He.Fa.free x).ok K = true
  i1 : (He.Fa.int "MOST_MARK_SIGNS" 12).ok K = true
  i2 : (He.Fa.int "MOST_TAIL_SIGNS" 3).ok K = true
  i3 : (He.Fa.int "MOST_LEVELS" 3).ok K = true
  i4 : (He.Fa.str "SIGN_CHARACTERS" signChars).ok K = true
  cl : Cls K (He.ga K "Reader")
  n1 : NoAttr K (He.ga K "Reader") "_signs"
  n2 : NoAttr K (He.ga K "Reader") "_marks"
  n3 : NoAttr K (He.ga K "Reader") "_tail"
  n4 : NoAttr K (He.ga K "Reader") "_cares"
  mk_ : Mk K (He.ga K "Reader") (He.ma K (He.ga K "Reader") "__init__")
  mm_ : Meth K (He.ga K "Reader") "marks" (He.ma K (He.ga K "Reader") "marks")
  me_ : Meth K (He.ga K "Reader") "__eq__" (He.ma K (He.ga K "Reader") "__eq__")
  p1 : PropOf K (He.ga K "Reader") "signs" (He.ma K (He.ga K "Reader") "signs") (getr "signs" K)
  p2 : PropOf K (He.ga K "Reader") "tail" (He.ma K (He.ga K "Reader") "tail") (getr "tail" K)
  p3 : PropOf K (He.ga K "Reader") "depth" (He.ma K (He.ga K "Reader") "depth") (getr "depth" K)
  p4 : PropOf K (He.ga K "Reader") "sight" (He.ma K (He.ga K "Reader") "sight") (getr "sight" K)
  p5 : PropOf K (He.ga K "Reader") "order" (He.ma K (He.ga K "Reader") "order") (getr "order" K)
  p6 : PropOf K (He.ga K "Reader") "further" (He.ma K (He.ga K "Reader") "further") (getr "further" K)
  p7 : PropOf K (He.ga K "Reader") "finish" (He.ma K (He.ga K "Reader") "finish") (getr "finish" K)
  it : IsT K (He.ga K "Reader")
  kin : ∀ n ∈ FL.kinds, PySem.W.mroIn K (He.ga K "Reader") (.type n) = some false
  ne : PySem.W.findIn K (.ref (He.ga K "Reader")) "__ne__" = some (some (.builtin "object.__ne__"))
  t1 : tupB K (He.ga K "SIGHTS") [.str (Str.ofString "whole"), .str (Str.ofString "start")] = true
  t2 : tupB K (dcV K "order") [.str (Str.ofString "inner"), .str (Str.ofString "outer")] = true
  t3 : tupB K (dcV K "further") [.str (Str.ofString "refuse"), .str (Str.ofString "close")] = true
  t4 : tupB K (dcV K "finish") [.str (Str.ofString "refuse"), .str (Str.ofString "close")] = true
  e1 : dcB K "order" = true
  e2 : dcB K "further" = true
  e3 : dcB K "finish" = true
  x1 : errB K "value" (He.ga K "InvalidSigns") (er "InvalidSigns" K) = true
  x2 : errB K "position" (He.ga K "InvalidMarks") (er "InvalidMarks" K) = true
  x3 : errB K "value" (He.ga K "InvalidTail") (er "InvalidTail" K) = true
  x4 : errB2 K "name" "value" (He.ga K "InvalidCare") (er "InvalidCare" K) = true
  ss : PySem.W.exmOne K (.ref (He.ga K "InvalidSigns")) (.ref (He.ga K "InvalidSigns")) = some true
  ms : PySem.W.exmOne K (.ref (He.ga K "InvalidMarks")) (.ref (He.ga K "InvalidSigns")) = some false
  mm : PySem.W.exmOne K (.ref (He.ga K "InvalidMarks")) (.ref (He.ga K "InvalidMarks")) = some true
  ts : PySem.W.exmOne K (.ref (He.ga K "InvalidTail")) (.ref (He.ga K "InvalidSigns")) = some false
  tm : PySem.W.exmOne K (.ref (He.ga K "InvalidTail")) (.ref (He.ga K "InvalidMarks")) = some false
  tt : PySem.W.exmOne K (.ref (He.ga K "InvalidTail")) (.ref (He.ga K "InvalidTail")) = some true
  cs : PySem.W.exmOne K (.ref (He.ga K "InvalidCare")) (.ref (He.ga K "InvalidSigns")) = some false
  cm : PySem.W.exmOne K (.ref (He.ga K "InvalidCare")) (.ref (He.ga K "InvalidMarks")) = some false
  ct : PySem.W.exmOne K (.ref (He.ga K "InvalidCare")) (.ref (He.ga K "InvalidTail")) = some false
  cc : PySem.W.exmOne K (.ref (He.ga K "InvalidCare")) (.ref (He.ga K "InvalidCare")) = some true
  lS : PySem.W.kitOne K (.ref (He.ga K "InvalidSigns")) (.ref (He.ga K "LineError")) = some true
  lM : PySem.W.kitOne K (.ref (He.ga K "InvalidMarks")) (.ref (He.ga K "LineError")) = some true
  lT : PySem.W.kitOne K (.ref (He.ga K "InvalidTail")) (.ref (He.ga K "LineError")) = some true
  lC : PySem.W.kitOne K (.ref (He.ga K "InvalidCare")) (.ref (He.ga K "LineError")) = some true
  vS : PySem.W.kitOne K (.ref (He.ga K "InvalidSigns")) (.type "ValueError") = some true
  vM : PySem.W.kitOne K (.ref (He.ga K "InvalidMarks")) (.type "ValueError") = some true
  vT : PySem.W.kitOne K (.ref (He.ga K "InvalidTail")) (.type "ValueError") = some true
  vC : PySem.W.kitOne K (.ref (He.ga K "InvalidCare")) (.type "ValueError") = some true
  kw : kwOk K (me "__init__" K) [("sight", .str (Str.ofString "whole")), ("order", .str (Str.ofString "inner")), ("further", .str (Str.ofString "refuse")), ("finish", .str (Str.ofString "refuse"))] = true
  sys : (K.lookup sysModules).isSome = true
theorem prop_of {K : PySem.W.Frag} {m : Str} (r : recB K m = true) (p : propB K m = true) : PropOf K (He.ga K "Reader") m (He.ma K (He.ga K "Reader") m) (getr m K) := by
  unfold propB at p
  simp only [Bool.and_eq_true] at p
  obtain ⟨a, b, c⟩ := p
  exact ⟨He.eqO_ok c, He.eqO_ok a, of_decide_eq_true b, getr_rec r⟩
theorem facts_of {K : PySem.W.Frag} (c : exs K = true) : Facts K := by
  unfold exs clsB at c
  simp only [Bool.and_eq_true] at c
  obtain ⟨g, g2, fr0, i1, i2, i3, i4, c1, cn0, cn1, cn2, cn3, c6, c7, c8, r0, r1, r2, r3, r4, r5, r6, q0, q1, q2, q3, q4, q5, q6, ⟨k1, k2, k3, k4, k5⟩, t1, t2, t3, t4, e1, e2, e3, x1, x2, x3, x4, ss, ms, mm, ts, tm, tt, cs, cm, ct, cc, lS, lM, lT, lC, vS, vM, vT, vC, kw, sys⟩ := c
  have kk := List.all_eq_true.mp k4
  have cl := He.cls_ok c1
  exact ⟨List.all_eq_true.mp g, List.all_eq_true.mp g2, List.all_eq_true.mp fr0, i1, i2, i3, i4, cl, He.noat_ok cn0, He.noat_ok cn1, He.noat_ok cn2, He.noat_ok cn3, He.mkr_ok c6, He.meth_ok c7, He.meth_ok c8, prop_of r0 q0, prop_of r1 q1, prop_of r2 q2, prop_of r3 q3, prop_of r4 q4, prop_of r5 q5, prop_of r6 q6, ⟨cl, He.eqO_ok k1, of_decide_eq_true k2, of_decide_eq_true k3, fun n hn => of_decide_eq_true (Bool.and_eq_true_iff.mp (kk n hn)).1⟩, fun n hn => of_decide_eq_true (Bool.and_eq_true_iff.mp (kk n hn)).2, He.eqO_ok k5, t1, t2, t3, t4, e1, e2, e3, x1, x2, x3, x4, of_decide_eq_true ss, of_decide_eq_true ms, of_decide_eq_true mm, of_decide_eq_true ts, of_decide_eq_true tm, of_decide_eq_true tt, of_decide_eq_true cs, of_decide_eq_true cm, of_decide_eq_true ct, of_decide_eq_true cc, of_decide_eq_true lS, of_decide_eq_true lM, of_decide_eq_true lT, of_decide_eq_true lC, of_decide_eq_true vS, of_decide_eq_true vM, of_decide_eq_true vT, of_decide_eq_true vC, kw, sys⟩
section
variable {P : Program} {w : World} {K : PySem.W.Frag} {mg : Str → Option Value} {base : Heap}
theorem bind_one {K : PySem.W.Frag} {x qual p : Str} {st : Stmt} {f : Addr} {fd : FuncData} (F : Fun K x qual st f fd)
    (h : ∀ (kV doc pm : Value) (an : Option Addr) (cdv ct : Value) (u : Value), bindArgs (PySem.W.fnOf x qual (defArgs st) (defBody st) (defScope st) .none kV doc pm an cdv ct) ⟨[u], []⟩ = pure [(p, u)]) (s : Shared) (u : Value) : BindsTo s fd ⟨[u], []⟩ [(p, u)] := by
  obtain ⟨oc, od, kV, doc, pm, an, cdv, ct, osl, rfl, lk, hcd⟩ := F.ex
  exact .of_eq (h kV doc pm an cdv ct u)
theorem ca_of {x : Str} {qual : Str} {st : Stmt} {f : Addr} {fd : FuncData} {k : Nat} {ps : List Str} {sp : Sp} (F : Fun K x qual st f fd) (m : mg x = some (.ref f)) (o : FnOk P w K mg base CX0 k f fd ps sp) (b : Binds K fd ps []) : Ca P w K mg base x k ps sp := ⟨f, fd, o, b, F.kp, m⟩
theorem cg_of {x : Str} {qual : Str} {st : Stmt} {f : Addr} {fd : FuncData} {k : Nat} {ps : List Str} {sp : Sp} (F : Fun K x qual st f fd) (m : mg x = some (.ref f)) (o : FnG P w K mg base CX0 k f fd ps sp) (b : Binds K fd ps []) : CaG P w K mg base x k ps sp := ⟨f, fd, o, b, F.kp, m⟩
end
theorem vals_rev : ∀ {zs : List V} {ws : List Value}, Vals zs ws → Vals zs.reverse ws.reverse
  | _, _, .nil => .nil
  | _, _, .cons r b => by
    rw [List.reverse_cons, List.reverse_cons]
    exact (vals_rev b).append (.cons r .nil)
theorem kdct_of {w : World} {K : PySem.W.Frag} {x : Str} {es : Array DictEntry} {n : Nat} (kd : KDict K w (gl "CARE_WORDS" K) es n) (e : dcB K x = true) : KDct K w (He.ga K "CARE_WORDS") x (.ref (dcV K x)) :=
  ⟨es, n, .ref (dcV K x), kd.at_, kd.lit, He.eqO_ok e, rfl⟩
theorem cx_of {P : Program} {w : World} {K : PySem.W.Frag} {mg : Str → Option Value} {base : Heap} {x : Str} {qual : Str} {st : Stmt} {f : Addr} {fd : FuncData} {k : Nat} {ps : List Str} {sp : Sp} (F : Fun K x qual st f fd) (m : mg x = some (.ref f)) (o : FnOk P w K mg base (L2.CX P w) k f fd ps sp) (b : Binds K fd ps []) : CaX P w K mg base x k ps sp := ⟨f, fd, o, b, F.kp, m⟩
def dflts : List (Str × V) := [(Str.ofString "sight", .str (Str.ofString "whole")), (Str.ofString "order", .str (Str.ofString "inner")), (Str.ofString "further", .str (Str.ofString "refuse")), (Str.ofString "finish", .str (Str.ofString "refuse"))]
theorem init_binds {K : PySem.W.Frag} {f : Addr} {fd : FuncData} (F : Fun K "__init__" "Reader.__init__" (sRd 0) f fd) (c : kwOk K f dflts = true) : ∃ ds, Vals [tx "whole", tx "inner", tx "refuse", tx "refuse"] ds ∧ Binds K fd pInit ds := by
  refine (funD_of F c).binds0 4 (List.cons_ne_nil _ _) rfl fun D doc pm an cdv ct us ks l1 l2 => ?_
  match us, l1, ks, l2 with
  | [_, _, _, _], _, [_, _, _, _], _ => exact ⟨_, _, _, _, _, _, rfl, rfl, ⟨_, _, _, _, _, _, rfl, rfl, ⟨_, _, _, _, _, _, rfl, rfl, ⟨_, _, _, _, _, _, rfl, rfl, rfl⟩⟩⟩⟩
end K50
namespace K50
open PySem PySem.Spec PyProof.Rows L2 FL LamX
theorem whole {P : Program} {w : World} {K : PySem.W.Frag} {mg : Str → Option Value} {h : Heap} (KX : K.In h) (G : h.Ns mainGlobals mg) (S : SaysL defs exs lams h K)
    (ct : (tbs.map fun t => He.dicW K (t.1 K)) = tbs.map fun t => some (He.keysIn w.params t.2)) :
    ∃ fd : FuncData, mg "law" = some (.ref (gl "law" K)) ∧ (∀ (s : Shared) (u : Value), BindsTo s fd ⟨[u], []⟩ [("_law_script", u)]) ∧ ∀ base : Heap, K.In base → base.Ns mainGlobals mg → TabB base mg (He.cT K lamDef).1 (He.cT K lamDef).2 →
      FnG P w K mg base CX0 9 (gl "law" K) fd ["_law_script"] (spLawT K [((He.cT K lamDef).2, ritQ)]) := by
  have c := S.seen
  have T := facts_of (look_ex c)
  have g1 : ∀ x ∈ glos, mg x = some (.ref (gl x K)) := fun x hx => He.glo_ok KX G (T.gs x hx)
  have g2 : ∀ x ∈ glos2, mg x = some (.ref (gl x K)) := fun x hx => He.glo_ok KX G (T.gs2 x hx)
  have fr : ∀ x ∈ free1, mg x = none := fun x hx => He.free_ok KX G (T.fr x hx)
  obtain ⟨tk1, mM1⟩ := He.int_ok KX G T.i1
  obtain ⟨tk2, mM2⟩ := He.int_ok KX G T.i2
  obtain ⟨tk3, mM3⟩ := He.int_ok KX G T.i3
  obtain ⟨tk4, mC⟩ := He.str_ok KX G T.i4
  obtain ⟨es, nn, kd⟩ := tabs_at ct 0 (t := (gl "CARE_WORDS", [Str.ofString "order", Str.ofString "further", Str.ofString "finish"])) rfl
  have WT : WordsT K w mg := ⟨⟨_, g2 "SIGHTS" (by decide), tupB_ok T.t1⟩, ⟨_, g2 "CARE_WORDS" (by decide), ⟨_, kdct_of kd T.e1, tupB_ok T.t2⟩, ⟨_, kdct_of kd T.e2, tupB_ok T.t3⟩, ⟨_, kdct_of kd T.e3, tupB_ok T.t4⟩⟩⟩
  obtain ⟨d0, F0⟩ := look_fn c 0 (d := glD "is_list" 11) rfl
  obtain ⟨d1, F1⟩ := look_fn c 1 (d := glD "is_signs" 12) rfl
  obtain ⟨d2, F2⟩ := look_fn c 2 (d := glD "is_line" 13) rfl
  obtain ⟨d3, F3⟩ := look_fn c 3 (d := glD "check_signs" 19) rfl
  obtain ⟨d4, F4⟩ := look_fn c 4 (d := glD "is_word" 20) rfl
  obtain ⟨d5, F5⟩ := look_fn c 5 (d := glD "is_mark" 21) rfl
  obtain ⟨d6, F6⟩ := look_fn c 6 (d := glD "check_marks" 22) rfl
  obtain ⟨d7, F7⟩ := look_fn c 7 (d := glD "is_sight" 23) rfl
  obtain ⟨d8, F8⟩ := look_fn c 8 (d := glD "is_tail" 24) rfl
  obtain ⟨d9, F9⟩ := look_fn c 9 (d := glD "check_tail" 25) rfl
  obtain ⟨d10, F10⟩ := look_fn c 10 (d := glD "check_care" 26) rfl
  obtain ⟨d11, F11⟩ := look_fn c 11 (d := meD "__init__" "Reader.__init__" 0) rfl
  obtain ⟨d12, F12⟩ := look_fn c 12 (d := meD "marks" "Reader.marks" 8) rfl
  obtain ⟨d13, F13⟩ := look_fn c 13 (d := meD "__eq__" "Reader.__eq__" 20) rfl
  obtain ⟨d14, F14⟩ := look_fn c 14 (d := ⟨getr "signs", "signs", "Reader.signs", inClass (topS 31) 1⟩) rfl
  obtain ⟨d15, F15⟩ := look_fn c 15 (d := ⟨getr "tail", "tail", "Reader.tail", inClass (topS 31) 2⟩) rfl
  obtain ⟨d16, F16⟩ := look_fn c 16 (d := ⟨getr "depth", "depth", "Reader.depth", inClass (topS 31) 3⟩) rfl
  obtain ⟨d17, F17⟩ := look_fn c 17 (d := ⟨getr "sight", "sight", "Reader.sight", inClass (topS 31) 4⟩) rfl
  obtain ⟨d18, F18⟩ := look_fn c 18 (d := ⟨getr "order", "order", "Reader.order", inClass (topS 31) 5⟩) rfl
  obtain ⟨d19, F19⟩ := look_fn c 19 (d := ⟨getr "further", "further", "Reader.further", inClass (topS 31) 6⟩) rfl
  obtain ⟨d20, F20⟩ := look_fn c 20 (d := ⟨getr "finish", "finish", "Reader.finish", inClass (topS 31) 7⟩) rfl
  obtain ⟨d21, F21⟩ := look_fn c 21 (d := erD "InvalidSigns" "InvalidSigns.__init__" 3) rfl
  obtain ⟨d22, F22⟩ := look_fn c 22 (d := erD "InvalidMarks" "InvalidMarks.__init__" 4) rfl
  obtain ⟨d23, F23⟩ := look_fn c 23 (d := erD "InvalidTail" "InvalidTail.__init__" 5) rfl
  obtain ⟨d24, F24⟩ := look_fn c 24 (d := erD "InvalidCare" "InvalidCare.__init__" 6) rfl
  obtain ⟨d25, F25⟩ := look_fn c 25 (d := glD "_law_pot" 33) rfl
  obtain ⟨d26, F26⟩ := look_fn c 26 (d := glD "_law_draw" 34) rfl
  obtain ⟨d27, F27⟩ := look_fn c 27 (d := glD "_law_pick" 35) rfl
  obtain ⟨d28, F28⟩ := look_fn c 28 (d := glD "_law_text" 36) rfl
  obtain ⟨d29, F29⟩ := look_fn c 29 (d := glD "_law_alphabet" 37) rfl
  obtain ⟨d30, F30⟩ := look_fn c 30 (d := glD "_law_odd_text" 38) rfl
  obtain ⟨d31, F31⟩ := look_fn c 31 (d := glD "_law_labels" 39) rfl
  obtain ⟨d32, F32⟩ := look_fn c 32 (d := glD "_law_care" 40) rfl
  obtain ⟨d33, F33⟩ := look_fn c 33 (d := glD "_law_told" 41) rfl
  obtain ⟨d34, F34⟩ := look_fn c 34 (d := glD "_law_due" 42) rfl
  obtain ⟨d35, F35⟩ := look_fn c 35 (d := glD "_law_is" 43) rfl
  obtain ⟨d36, F36⟩ := look_fn c 36 (d := glD "_law_right" 44) rfl
  obtain ⟨d37, F37⟩ := look_fn c 37 (d := glD "law" 45) rfl
  have b0 : Binds K d0 ["value"] [] := F0.binds fun _ _ _ _ _ _ us hl => match us, hl with | [_], _ => rfl
  have b1 : Binds K d1 ["value"] [] := F1.binds fun _ _ _ _ _ _ us hl => match us, hl with | [_], _ => rfl
  have b2 : Binds K d2 ["signs", "value"] [] := F2.binds fun _ _ _ _ _ _ us hl => match us, hl with | [_, _], _ => rfl
  have b3 : Binds K d3 ["signs"] [] := F3.binds fun _ _ _ _ _ _ us hl => match us, hl with | [_], _ => rfl
  have b4 : Binds K d4 ["value", "words"] [] := F4.binds fun _ _ _ _ _ _ us hl => match us, hl with | [_, _], _ => rfl
  have b5 : Binds K d5 ["signs", "value"] [] := F5.binds fun _ _ _ _ _ _ us hl => match us, hl with | [_, _], _ => rfl
  have b6 : Binds K d6 ["signs", "marks", "most"] [] := F6.binds fun _ _ _ _ _ _ us hl => match us, hl with | [_, _, _], _ => rfl
  have b7 : Binds K d7 ["signs", "value"] [] := F7.binds fun _ _ _ _ _ _ us hl => match us, hl with | [_, _], _ => rfl
  have b8 : Binds K d8 ["signs", "value"] [] := F8.binds fun _ _ _ _ _ _ us hl => match us, hl with | [_, _], _ => rfl
  have b9 : Binds K d9 ["signs", "tail"] [] := F9.binds fun _ _ _ _ _ _ us hl => match us, hl with | [_, _], _ => rfl
  have b10 : Binds K d10 ["signs", "name", "value"] [] := F10.binds fun _ _ _ _ _ _ us hl => match us, hl with | [_, _, _], _ => rfl
  have b25 : Binds K d25 ["_law_script", "_law_k"] [] := F25.binds fun _ _ _ _ _ _ us hl => match us, hl with | [_, _], _ => rfl
  have b26 : Binds K d26 ["_law_pot_here", "_law_top"] [] := F26.binds fun _ _ _ _ _ _ us hl => match us, hl with | [_, _], _ => rfl
  have b27 : Binds K d27 ["_law_pot_here", "_law_some"] [] := F27.binds fun _ _ _ _ _ _ us hl => match us, hl with | [_, _], _ => rfl
  have b28 : Binds K d28 ["_law_pot_here", "_law_alphabet_here", "_law_least", "_law_top"] [] := F28.binds fun _ _ _ _ _ _ us hl => match us, hl with | [_, _, _, _], _ => rfl
  have b29 : Binds K d29 ["_law_pot_here"] [] := F29.binds fun _ _ _ _ _ _ us hl => match us, hl with | [_], _ => rfl
  have b30 : Binds K d30 ["_law_pot_here", "_law_alphabet_here", "_law_top"] [] := F30.binds fun _ _ _ _ _ _ us hl => match us, hl with | [_, _, _], _ => rfl
  have b31 : Binds K d31 ["_law_pot_here", "_law_alphabet_here"] [] := F31.binds fun _ _ _ _ _ _ us hl => match us, hl with | [_, _], _ => rfl
  have b32 : Binds K d32 ["_law_pot_here", "_law_words"] [] := F32.binds fun _ _ _ _ _ _ us hl => match us, hl with | [_, _], _ => rfl
  have b33 : Binds K d33 ["_law_deed"] [] := F33.binds fun _ _ _ _ _ _ us hl => match us, hl with | [_], _ => rfl
  have b34 : Binds K d34 ["_law_alphabet_here", "_law_labels_here", "_law_ending", "_law_cares"] [] := F34.binds fun _ _ _ _ _ _ us hl => match us, hl with | [_, _, _, _], _ => rfl
  have b35 : Binds K d35 ["_law_made", "_law_alphabet_here", "_law_labels_here", "_law_ending", "_law_cares"] [] := F35.binds fun _ _ _ _ _ _ us hl => match us, hl with | [_, _, _, _, _], _ => rfl
  have b36 : Binds K d36 ["_law_pot_here"] [] := F36.binds fun _ _ _ _ _ _ us hl => match us, hl with | [_], _ => rfl
  have b37 : Binds K d37 ["_law_script"] [] := F37.binds fun _ _ _ _ _ _ us hl => match us, hl with | [_], _ => rfl
  have b12 : Binds K d12 ["self"] [] := F12.binds fun _ _ _ _ _ _ us hl => match us, hl with | [_], _ => rfl
  have b13 : Binds K d13 ["self", "other"] [] := F13.binds fun _ _ _ _ _ _ us hl => match us, hl with | [_, _], _ => rfl
  have b14 : Binds K d14 ["self"] [] := F14.binds fun _ _ _ _ _ _ us hl => match us, hl with | [_], _ => rfl
  have b15 : Binds K d15 ["self"] [] := F15.binds fun _ _ _ _ _ _ us hl => match us, hl with | [_], _ => rfl
  have b16 : Binds K d16 ["self"] [] := F16.binds fun _ _ _ _ _ _ us hl => match us, hl with | [_], _ => rfl
  have b17 : Binds K d17 ["self"] [] := F17.binds fun _ _ _ _ _ _ us hl => match us, hl with | [_], _ => rfl
  have b18 : Binds K d18 ["self"] [] := F18.binds fun _ _ _ _ _ _ us hl => match us, hl with | [_], _ => rfl
  have b19 : Binds K d19 ["self"] [] := F19.binds fun _ _ _ _ _ _ us hl => match us, hl with | [_], _ => rfl
  have b20 : Binds K d20 ["self"] [] := F20.binds fun _ _ _ _ _ _ us hl => match us, hl with | [_], _ => rfl
  have b21 : Binds K d21 ["self", "value"] [] := F21.binds fun _ _ _ _ _ _ us hl => match us, hl with | [_, _], _ => rfl
  have b22 : Binds K d22 ["self", "position"] [] := F22.binds fun _ _ _ _ _ _ us hl => match us, hl with | [_, _], _ => rfl
  have b23 : Binds K d23 ["self", "value"] [] := F23.binds fun _ _ _ _ _ _ us hl => match us, hl with | [_, _], _ => rfl
  have b24 : Binds K d24 ["self", "name", "value"] [] := F24.binds fun _ _ _ _ _ _ us hl => match us, hl with | [_, _, _], _ => rfl
  have mIs := fr "isinstance" (by decide)
  have mSt := fr "str" (by decide)
  have mLe := fr "len" (by decide)
  have mAl := fr "all" (by decide)
  have mZi := fr "zip" (by decide)
  have mLi := fr "list" (by decide)
  have mTu := fr "tuple" (by decide)
  have mEn := fr "enumerate" (by decide)
  have mRa := fr "range" (by decide)
  have mIn := fr "int" (by decide)
  have mDi := fr "divmod" (by decide)
  have mAb := fr "abs" (by decide)
  have mMa := fr "max" (by decide)
  have mMi := fr "min" (by decide)
  have mRe := fr "repr" (by decide)
  have mVE := fr "ValueError" (by decide)
  have TT : RdTxt K mg (He.ga K "Reader") := ⟨T.cl, T.n1, T.n2, T.n3, T.n4, g2 "Reader" (by decide)⟩
  have kI : KBn K d11 pInit 4 ["sight", "order", "further", "finish"] (fun us ws => us ++ ws) (fun vs zs => vs ++ zs) := kbn_of F11 (fun _ _ _ _ _ _ us ws l1 l2 => match us, ws, l1, l2 with | [_, _, _, _], [_, _, _, _], _, _ => rfl) fun a b => a.append b
  have kR : KBn K d11 pInit 1 ["finish", "further", "order", "sight", "tail", "marks", "signs"] (fun us ws => us ++ ws.reverse) (fun vs zs => vs ++ zs.reverse) := kbn_of F11 (fun _ _ _ _ _ _ us ws l1 l2 => match us, ws, l1, l2 with | [_], [_, _, _, _, _, _, _], _, _ => rfl) fun a b => a.append (vals_rev b)
  obtain ⟨ds, vd, bI⟩ := init_binds F11 T.kw
  refine ⟨d37, g2 "law" (by decide), bind_one F37 (fun _ _ _ _ _ _ _ => rfl), fun base hB hN TB => ?_⟩
  have o_eS : FnOk P w K mg base CX0 1 _ d21 ["self", vN] (spErr K vN) := ok_err F21 ⟨rfl, rfl, rfl, by decide +kernel, rfl, by decide +kernel, by decide +kernel⟩ rfl (.inl rfl) (.inl rfl) (by decide) (by decide) (fun _ => rfl)
  let eS : Er P w K mg base "InvalidSigns" vN := ⟨_, _, _, err_ok T.x1 (g2 "InvalidSigns" (by decide)), o_eS, b21⟩
  have o_eM : FnOk P w K mg base CX0 1 _ d22 ["self", pN] (spErr K pN) := ok_err F22 ⟨rfl, rfl, rfl, by decide +kernel, rfl, by decide +kernel, by decide +kernel⟩ rfl (.inl rfl) (.inl rfl) (by decide) (by decide) (fun _ => rfl)
  let eM : Er P w K mg base "InvalidMarks" pN := ⟨_, _, _, err_ok T.x2 (g2 "InvalidMarks" (by decide)), o_eM, b22⟩
  have o_eT : FnOk P w K mg base CX0 1 _ d23 ["self", vN] (spErr K vN) := ok_err F23 ⟨rfl, rfl, rfl, by decide +kernel, rfl, by decide +kernel, by decide +kernel⟩ rfl (.inl rfl) (.inl rfl) (by decide) (by decide) (fun _ => rfl)
  let eT : Er P w K mg base "InvalidTail" vN := ⟨_, _, _, err_ok T.x3 (g2 "InvalidTail" (by decide)), o_eT, b23⟩
  have o_eC : FnOk P w K mg base CX0 1 _ d24 ["self", nmN, vN] (spErr2 K nmN vN) := ok_err2 F24 ⟨rfl, rfl, rfl, by decide +kernel, rfl, by decide +kernel, by decide +kernel⟩ rfl (.inl rfl) (.inl rfl) (.inl rfl) (by decide) (by decide) (by decide) (by decide) (fun _ => rfl) (fun _ => rfl)
  let eC : Er2 P w K mg base "InvalidCare" nmN vN := ⟨_, _, _, err_ok2 T.x4 (g2 "InvalidCare" (by decide)), o_eC, b24⟩
  have ef : ErF K mg eS.C eM.C eT.C eC.C (He.ga K "LineError") := ⟨eS.T.gC, eM.T.gC, eT.T.gC, eC.T.gC, g2 "LineError" (by decide), eS.T.xf, eM.T.xf, eT.T.xf, eC.T.xf, eS.T.no, eM.T.no, eT.T.no, eC.T.no1, eC.T.no2, eS.T.ec, eM.T.ec, eT.T.ec, eC.T.ec, T.ss, T.ms, T.mm, T.ts, T.tm, T.tt, T.cs, T.cm, T.ct, T.cc, T.lS, T.lM, T.lT, T.lC, T.vS, T.vM, T.vT, T.vC⟩
  have o2 : FnOk P w K mg base CX0 1 _ d2 ["signs", "value"] spLine := ok_isline F2 mIs mSt
  have c_is_line := ca_of F2 (g1 "is_line" (by decide)) o2 b2
  have o1 := ok_issigns F1 o2 b2 F2.kp (g1 "is_line" (by decide)) mC mIs mSt mLe mAl mZi
  have c_is_signs := ca_of F1 (g1 "is_signs" (by decide)) o1 b1
  have o3 := ok_checksigns F3 o1 b1 F1.kp (g1 "is_signs" (by decide)) eS
  have c_check_signs := cx_of F3 (g1 "check_signs" (by decide)) o3 b3
  have o0 : FnOk P w K mg base CX0 1 _ d0 ["value"] spIsList := ok_islist F0 mIs mLi mTu
  have c_is_list := ca_of F0 (g1 "is_list" (by decide)) o0 b0
  have o4 : FnOk P w K mg base CX0 1 _ d4 ["value", "words"] (spWordA K) := ok_isword F4 mIs mSt
  have c_is_word := ca_of F4 (g1 "is_word" (by decide)) o4 b4
  have o5 := ok_ismark F5 c_is_line mLe mM1
  have c_is_mark := ca_of F5 (g1 "is_mark" (by decide)) o5 b5
  have o8 := ok_istail F8 c_is_line mLe mM2
  have c_is_tail := ca_of F8 (g1 "is_tail" (by decide)) o8 b8
  have o9 := ok_checktail F9 c_is_tail eT
  have c_check_tail := cx_of F9 (g1 "check_tail" (by decide)) o9 b9
  have o7 := ok_issight F7 WT c_is_word c_is_line mLe
  have c_is_sight := ca_of F7 (g1 "is_sight" (by decide)) o7 b7
  have o10 := ok_checkcare F10 WT c_is_word c_is_sight eC
  have c_check_care := cx_of F10 (g1 "check_care" (by decide)) o10 b10
  have o6 := ok_checkmarks F6 c_is_list c_is_mark mLe mEn eM
  have c_check_marks := cx_of F6 (g1 "check_marks" (by decide)) o6 b6
  have oI := ok_init F11 TT mM3 mLi c_check_signs c_check_marks c_check_tail c_check_care
  let Rr : RdF P w K mg base eS.C eM.C eT.C eC.C := ⟨He.ga K "Reader", TT, T.it, _, d11, T.mk_, oI, kI, kR, ds, bI, vd, ⟨_, _, _, T.p1, ok_get1 F14 TT, b14⟩, ⟨_, _, _, T.p2, ok_get2 F15 TT, b15⟩, ⟨_, _, _, T.p3, ok_get3 F16 TT mLe, b16⟩, ⟨_, _, _, T.p4, ok_get4 F17 TT, b17⟩, ⟨_, _, _, T.p5, ok_get5 F18 TT, b18⟩, ⟨_, _, _, T.p6, ok_get6 F19 TT, b19⟩, ⟨_, _, _, T.p7, ok_get7 F20 TT, b20⟩, ⟨_, _, T.mm_, ok_marks F12 TT mLi, b12⟩, _, d13, ⟨T.cl, T.me_.at_, T.me_.fn, b13, T.kin, T.ne, T.it.hm⟩, ok_eq F13 TT T.it mIs⟩
  have o26 : FnOk P w K mg base CX0 1 _ d26 ["_law_pot_here", "_law_top"] spDraw := ok_draw F26 mDi mIn
  have c__law_draw := ca_of F26 (g2 "_law_draw" (by decide)) o26 b26
  have o25 : FnOk P w K mg base CX0 1 _ d25 ["_law_script", "_law_k"] (spPot K) := ok_pot F25 mAb mLe mMa mIn
  have c__law_pot := ca_of F25 (g2 "_law_pot" (by decide)) o25 b25
  have o27 := ok_pick F27 o26 b26 F26.kp (g2 "_law_draw" (by decide)) mLe
  have c__law_pick := ca_of F27 (g2 "_law_pick" (by decide)) o27 b27
  have o28 := ok_text F28 c__law_draw c__law_pick mRa
  have c__law_text := ca_of F28 (g2 "_law_text" (by decide)) o28 b28
  have o29 := ok_alpha F29 c__law_draw c__law_pick
  have c__law_alphabet := ca_of F29 (g2 "_law_alphabet" (by decide)) o29 b29
  have o30 := ok_oddT F30 c__law_pick
  have c__law_odd_text := ca_of F30 (g2 "_law_odd_text" (by decide)) o30 b30
  have o32 := ok_care F32 c__law_draw c__law_pick
  have c__law_care := ca_of F32 (g2 "_law_care" (by decide)) o32 b32
  have o31 := ok_lab F31 c__law_draw c__law_pick c__law_text c__law_odd_text mRa mLe mTu
  have c__law_labels := ca_of F31 (g2 "_law_labels" (by decide)) o31 b31
  have o34 : FnOk P w K mg base CX0 1 _ d34 ["_law_alphabet_here", "_law_labels_here", "_law_ending", "_law_cares"] spDue := ok_due F34
  have c__law_due := ca_of F34 (g2 "_law_due" (by decide)) o34 b34
  have o35 := ok_is F35 Rr T.sys mRe mLi mLe
  have c__law_is := cg_of F35 (g2 "_law_is" (by decide)) o35 b35
  have o36 := ok_right (P0 := (He.cT K lamDef).2) F36 (code_at (p := lamDef) F36) TB Rr F33 b33 (g2 "_law_told" (by decide)) ef T.sys mRe mIs mVE mAl c__law_alphabet c__law_labels c__law_text c__law_odd_text c__law_care c__law_draw c__law_due c__law_is
  have c__law_right := cg_of F36 (g2 "_law_right" (by decide)) o36 b36
  exact ok_law F37 mAl mRa mMa mMi mLe c__law_pot c__law_right
end K50
set_option maxHeartbeats 0
open PySem PySem.W PySem.Calls PyProof.Rows L2
theorem PySem.Challenge.cw_frontlines_k50_readers_refused_holds : PySem.Challenge.rw_frontlines_k50_readers_refused.Holds := by
  w_on; o_law
  refine HandSHeadRun.head_any (r := K50.R) (q := view K50.R.prog [45]) (H := K50.hk) (ob := K50.ob) (M := 20000) (loose := K50.loose) (d := HandSHeadRun.topDef K50.R.prog 45) (kwd := []) (fun s => FL.obL_eq s)
    (by kernel_rfl) (fun s => by kernel_rfl) K50.run (by kernel_rfl) (by kernel_rfl) (by kernel_rfl) (by rfl) (by first | assumption | decide +kernel) (by decide +kernel) ⟨rfl, rfl, rfl, rfl, rfl, by decide +kernel⟩ ?hw ?hc
  case hw => w_witness2
  case hc =>
    refine FL.walkTs (l := PySem.Challenge.rw_frontlines_k50_readers_refused) (n := 63) (k := 9) (x := "_law_script") rfl (by decide) (by kernel_rfl) ⟨rfl, by decide, by decide⟩ ?_
    intro w mg fa h Y G hmg0
    obtain ⟨K, KX, c, ct⟩ := Y
    have hmg : mg ("law" : PySem.Str) = some (.ref fa) := by
      have e : (HandSHeadRun.topDef K50.R.prog 45).name = ("law" : PySem.Str) := by kernel_rfl
      rw [← e]
      exact hmg0
    obtain ⟨fd, e1, bd, hF⟩ := K50.whole (P := PySem.Challenge.rw_frontlines_k50_readers_refused.prog) (w := w) KX G c ct
    have e2 := hmg.symm.trans e1
    cases e2
    exact ⟨K, fd, K50.spLawT K [((He.cT K K50.lamDef).2, K50.ritQ)], [He.cT K K50.lamDef], KX, fun p hp => by rw [List.mem_singleton.mp hp]; exact c.tab _ List.mem_cons_self, fun p hp => by rw [List.mem_singleton.mp hp]; exact c.out _ List.mem_cons_self, fun p hp => by rw [List.mem_singleton.mp hp]; exact PySem.W.codeHd_of_K KX (c.code _ List.mem_cons_self), bd, fun H a ns hl t0 hS => ⟨a, ns, rfl, hS, hl, fun q hq => by
      rw [List.mem_singleton.mp hq]
      exact LamX.TabS.nil (t0 _ List.mem_cons_self), fun _ => rfl⟩, fun base hB hN tb => hF base hB hN (tb _ List.mem_cons_self)⟩
