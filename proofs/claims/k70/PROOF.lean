import PyProof.Rows.All
import Wide.All
import OpenK.AllK
import Wide.FinOn
import HandS.Base
import HandS.Call
import HandS.Exc
import HandS.ExcOwn
import HandS.TryMany
import HandS.ExcIs
import HandS.ExcField
import HandS.ExcInit
import HandS.WordsExc
import KE.KIsAll
import KE.KTryMore
import KE.KExcIs
import HandS.ForMost
import HandS.ForExc
import HandS.Lambda
import PyProof.Rows.NestShow
import KE.GoesEnum
import HandS.Walk
import HandS.IsInst
import HandS.StrMore
import HandS.Style
import KE.KRevSl
import HandS.Codes
import KE.DataMinMax
import HandS.Head0
import HandS.Head1
import HandS.Head2
import HandS.HeadEnd
import HandS.HeadHook1
import HandS.HeadHook2
import HandS.EndTab
import HandS.NestedK
import HandS.FStr
import HandS.Star
import HandS.Property
import HandS.MakeKwOnly
import PyProof.EqKinds
import KE.SortKeyHeap
import HandS.SortKw
import HandS.HeadHook4
import PySem.Challenge.RW_frontlines_k70_pieces_told_and_refused
set_option Elab.async false
set_option linter.all false
set_option maxRecDepth 100000
set_option maxHeartbeats 4000000
namespace FL
open PySem PySem.Spec PyProof.Rows L2
/-! ### several clauses of one try, each 'except C as n' -/
/-- the name of slot i goes behind a suite -/
def gone (i : Nat) (D : Ends) : Ends :=
  { nx := fun τ G => D.nx (τ.set i none) G, rt := D.rt, bk := fun τ G => D.bk (τ.set i none) G, ct := fun τ G => D.ct (τ.set i none) G }
abbrev Clause : Type := Value × (Addr → Value → Option Addr → TS)
/-- what is wished of an error, clause by clause -/
def wClauses (K : PySem.W.Frag) (i : Nat) (out : WX) (D : Ends) : List Clause → WX
  | [] => out
  | q :: qs => fun c d τ G => ∃ hit, PySem.W.exmOne K c q.1 = some hit
      ∧ (hit = true → ∀ e, G e = none → q.2 e c d (gone i D) (τ.set i (some (.ref e))) G)
      ∧ (hit = false → wClauses K i out D qs c d τ G)
inductive Clauses (X : Cx) (n : Str) : List ExceptHandler → List Clause → Prop
  | done : Clauses X n [] []
  | more {nm : Str} {C : Value} {rd : Addr → Value → Option Addr → TS} {st : Stmt} {sts : List Stmt} {p1 p2 : Pos}
      {hs : List ExceptHandler} {qs : List Clause} (named : Names X nm C)
      (suite : ∀ (e : Addr) (oe : Obj) (c : Value) (d : Option Addr) (pn : List (Addr × Obj)), Zc c d oe →
        (∃ vs, oe.data = .fields vs) → PSs (X.suite e ((e, oe) :: pn)) (st :: sts) (rd e c d))
      (rest : Clauses X n hs qs) :
      Clauses X n (.ExceptHandler (some (.Name nm p1)) (some n) (st :: sts) p2 :: hs) ((C, rd) :: qs)
section
variable {X : Cx} {n : Str} {i : Nat} {pins : List (Addr × Obj)} {out : WX} {D : Ends}
/-- an error that has landed in front of the clauses -/
structure Landed (X : Cx) (pins : List (Addr × Obj)) (e : Addr) (c : Value) (d : Option Addr) (τ : L2.St) (G : Hp) (B : Heap) (sB t : Shared) : Prop where
  inv : Inv X pins τ G sB
  below : ∀ b o, sB.heap.get? b = some o → b ∉ frs X.stack → B.get? b = some o
  fly : HandSPX.FlyingZ B (X.env :: X.outer) e (Zc c d) t.heap
  up : sB.heap.UpToSlots t.heap
  free : G e = none
  os : t.os = sB.os
  bare : AllBare t.gens
theorem Landed.now {e : Addr} {c : Value} {d : Option Addr} {τ : L2.St} {G : Hp} {B : Heap} {sB t : Shared}
    (l : Landed X pins e c d τ G B sB t) : Inv X pins τ G t := l.inv.landed l.below l.fly.1 l.up l.os l.bare
/-- it is no frame's own address -/
theorem Landed.apart {e : Addr} {c : Value} {d : Option Addr} {τ : L2.St} {G : Hp} {B : Heap} {sB t : Shared}
    (l : Landed X pins e c d τ G B sB t) (fr : X.env.frame = some X.env.locals) : e ≠ X.env.locals ∧ e ∉ X.fs := by
  obtain ⟨oe, us, at_, _, dt⟩ := l.fly.there
  have no : e ∉ frs (X.env :: X.outer) := by
    intro m
    obtain ⟨_, u, at2, k⟩ := l.fly.2.2.1.mem m
    rw [at_] at at2
    cases at2
    exact k _ dt
  constructor
  · intro q
    exact no (List.mem_filterMap.mpr ⟨_, List.mem_cons_self, by rw [fr, q]⟩)
  · intro m
    obtain ⟨v, hv, q⟩ := List.mem_filterMap.mp m
    exact no (List.mem_filterMap.mpr ⟨v, List.mem_cons_of_mem _ hv, q⟩)
/-- no clause is left: it flies on -/
theorem none_left {e : Addr} {c : Value} {d : Option Addr} {τ : L2.St} {G : Hp} {B : Heap} {sB t : Shared}
    (l : Landed X pins e c d τ G B sB t) (st : X.stack = X.env :: X.outer) (fr : X.env.frame = some X.env.locals)
    (tk : Takes X out) (w : out c d τ G) : wpAny (model X.prog X.w) X.A (handleBy (.ref e) X.env []) (SP X pins D) X.xe t := by
  refine wpAny_handleBy_nil ?_
  obtain ⟨_, _, _, oe, us, T, oT, tv, at_, _, dt, f1, _⟩ := id l.fly
  unfold PySem.passOn
  refine wpAny_bind (wpAny_field at_ dt f1 ?_)
  rw [if_neg (by simp : ¬ ((Value.ref T == Value.none) = true))]
  have onward : wpAny (model X.prog X.w) X.A (setFlight (.ref e) X.env.frame)
      (fun _ u => wpAny (model X.prog X.w) X.A (throw (.ref e) : Sem Flow) (SP X pins D) X.xe u) X.xe t := by
    rw [fr]
    refine HandSPX.setFlight_upZ l.fly ?_
    intro h hh more
    have sky : Sky B X.stack e (Zc c d) X.env.locals h := by
      rw [st]
      exact .inr (.inr hh)
    exact wpAny_throw (tk _ _ ⟨e, B, sB, pins, τ, G, c, d, rfl, l.inv, l.below, l.up.trans more, sky, l.free, l.os, l.bare, w⟩)
  first
    | exact wpAny_bind onward
    | exact wpAny_bind (wpAny_pure (wpAny_bind onward))
/-- clause by clause -/
theorem by_clauses (st : X.stack = X.env :: X.outer) (fr : X.env.frame = some X.env.locals) (nd : X.N.Nodup) (hi : X.N[i]? = some n)
    (loc : X.env.kindOf n = some .local) (tk : Takes X out) (ok : X.Ok) {hs : List ExceptHandler} {qs : List Clause} (k : Clauses X n hs qs)
    {e : Addr} {c : Value} {d : Option Addr} {τ : L2.St} {G : Hp} {B : Heap} {sB t : Shared} (l : Landed X pins e c d τ G B sB t)
    (w : wClauses X.K i out D qs c d τ G) : wpAny (model X.prog X.w) X.A (handleBy (.ref e) X.env hs) (SP X pins D) X.xe t := by
  induction k with
  | done => exact none_left l st fr tk w
  | @more nm C rd b bs p1 p2 hs' qs' named suite rest ih =>
    obtain ⟨hit, eh, yes, no⟩ := w
    obtain ⟨a1, a2⟩ := l.apart fr
    have J := l.now
    obtain ⟨oe, us, at_, z, dt⟩ := l.fly.there
    have J1 := J.suite at_ dt l.free a1 a2
    refine wpAny_handleBy_cons (codeAny_handlers_test ?_) (fun q => nomatch q)
    have type : PySem.W.Looks (model X.prog X.w) t.heap (typeOf (.ref e)) c := by
      intro A' Q' E' s' keep q
      exact wpAny_typeOf_ref (keep _ _ at_) (by rw [z.1]; exact q)
    have ask := PySem.W.exm_one (M := model X.prog X.w) J.kIn type eh
    have read : ∀ {Q E : Value → Shared → Prop}, Q C t → wpAny (model X.prog X.w) (X.A.mark (some (.ref e))) (eval (.Name nm p1) X.env) Q E t := by
      intro Q E q
      obtain ⟨g, g2, m | ⟨m, v, nn⟩⟩ := named
      · exact ld_glob (X := X.suite e ((e, oe) :: (X.pn ++ pins))) J1 g m q g2
      · exact ld_blt (X := X.suite e ((e, oe) :: (X.pn ++ pins))) J1 g m v q nn g2
    refine read (ask.here ?_)
    cases hit with
    | false =>
      show wpAny _ X.A (handleBy (.ref e) X.env hs') _ _ _
      exact ih (no rfl)
    | true =>
      refine codeAny_handlers_suite_as ?_
      refine HandSPX.lands_againZ l.fly ?_
      intro h fly2 more
      have J2 : Inv X pins τ G { t with heap := h } := l.inv.landed l.below fly2.1 (l.up.trans more) l.os l.bare
      obtain ⟨oe2, us2, at2, z2, dt2⟩ := fly2.there
      have J3 := J2.suite at2 dt2 l.free a1 a2
      refine store_ok (X := X.suite e ((e, oe2) :: (X.pn ++ pins))) (v := .ref e) J3 nd hi (.inl loc) rfl ?_ (.inr loc)
      intro u J4
      have run := (suite e oe2 c d (X.pn ++ pins) z2 ⟨_, dt2⟩).run [] u _ G _ J4 (yes rfl e l.free)
      refine wpAny_mono run ?_ fun _ _ q => q.elim
      intro fl v after
      have leave : ∀ {τ' : L2.St} {G' : Hp} {R : Shared → Prop}, Inv (X.suite e ((e, oe2) :: (X.pn ++ pins))) [] τ' G' v →
          (∀ v', Inv X pins (τ'.set i none) G' v' → R v') →
          wpAny (model X.prog X.w) X.A (do bindName X.env n .none; unbindBehindTheSuite X.env n p2) (fun _ v' => R v') X.xe v := by
        intro τ' G' R J5 r
        exact gone_ok (J5.unsuite ok) nd hi loc r
      cases fl with
      | ret x =>
        obtain ⟨y, τ', G', J5, rx, q⟩ := after
        exact leave J5 fun _ J6 => ⟨y, _, _, J6, rx, q⟩
      | next =>
        obtain ⟨τ', G', J5, q⟩ := after
        exact leave J5 fun _ J6 => ⟨_, _, J6, q⟩
      | brk =>
        obtain ⟨τ', G', J5, q⟩ := after
        exact leave J5 fun _ J6 => ⟨_, _, J6, q⟩
      | cont =>
        obtain ⟨τ', G', J5, q⟩ := after
        exact leave J5 fun _ J6 => ⟨_, _, J6, q⟩
theorem ps_clauses {body : List Stmt} {h₀ : ExceptHandler} {hs : List ExceptHandler} {qs : List Clause} {pos : Pos} {tb : WX → TS}
    (st : X.stack = X.env :: X.outer) (fr : X.env.frame = some X.env.locals) (nd : X.N.Nodup) (hi : X.N[i]? = some n)
    (loc : X.env.kindOf n = some .local) (tk : Takes X out)
    (hb : ∀ (W : WX) (pn : List (Addr × Obj)) (xe : Value → Shared → Prop), Takes (X.tr pn xe) W →
      PassesOwn (model X.prog X.w) X.A X.env xe → PSs (X.tr pn xe) body (tb W))
    (k : Clauses X n (h₀ :: hs) qs) : PS X (.Try body (h₀ :: hs) [] [] pos) (fun D τ G => tb (wClauses X.K i out D qs) D τ G) := by
  constructor
  intro pins s τ G D I rd
  have ok := I.ok
  have frames : X.A.frames = some (X.env :: X.outer) := by rw [ok.frames, st]
  refine wpAny_Try_except ?_
  let catch_ : Value → Shared → Prop := fun x s1 =>
    wpAny (model X.prog X.w) X.A (noteFrame x X.env) (fun _ s2 => wpAny (model X.prog X.w) X.A (setFlight x none)
      (fun _ s3 => wpAny (model X.prog X.w) X.A (handleBy x X.env (h₀ :: hs)) (SP X pins D) X.xe s3) X.xe s2) X.xe s1
  have takes : Takes (X.tr (X.pn ++ pins) catch_) (wClauses X.K i out D qs) := by
    rintro x s1 ⟨e, B, sB, pins', τ1, G1, c, d, rfl, I1, below, up, sky, free, os, bare, w⟩
    have I2 : Inv X pins τ1 G1 sB := I1.ofTry ok
    have sky2 : Sky B (X.env :: X.outer) e (Zc c d) X.env.locals s1.heap := by
      rw [← st]
      exact sky
    show wpAny (model X.prog X.w) X.A (noteFrame (.ref e) X.env) _ _ _
    refine Sky.land Zc.steady frames fr sky2 ?_
    intro h fly more
    exact by_clauses st fr nd hi loc tk ok k ⟨I2, below, fly, up.trans more, free, os, bare⟩ w
  have run := (hb _ (X.pn ++ pins) catch_ takes PassesOwn.looking).run [] s τ G D (I.toTry _) rd
  refine wpAny_mono run ?_ fun _ _ q => q
  intro fl s1 after
  cases fl with
  | ret x =>
    obtain ⟨y, τ1, G1, I1, rx, q⟩ := after
    exact ⟨y, τ1, G1, I1.ofTry ok, rx, q⟩
  | next =>
    obtain ⟨τ1, G1, I1, q⟩ := after
    exact wpAny_execs_nil ⟨τ1, G1, I1.ofTry ok, q⟩
  | brk =>
    obtain ⟨τ1, G1, I1, q⟩ := after
    exact ⟨τ1, G1, I1.ofTry ok, q⟩
  | cont =>
    obtain ⟨τ1, G1, I1, q⟩ := after
    exact ⟨τ1, G1, I1.ofTry ok, q⟩
end
end FL
namespace FL
open PySem PySem.Spec PyProof.Rows L2
/-! ### isinstance(e, c), e an error with fields that the suite holds at a -/
theorem has_cls {K : PySem.W.Frag} {D : Addr} (h : PySem.W.hasDictIn K D = true) : (PySem.W.clsIn K D).isSome = true := by
  obtain ⟨cd, e, _⟩ := PySem.W.any_some h
  rw [e]
  rfl
def rIsY (K : PySem.W.Frag) (cls : Value) (d : Option Addr) (a : Addr) : List V → Hp → VK → Prop := fun xs H Q =>
  ∃ (D dd : Addr) (c : V) (cv : Value) (b : Bool) (fs : List (Str × V)), xs = [.ref a, c] ∧ cls = .ref D ∧ d = some dd ∧ ExcC K D
    ∧ (∀ u, RelV c u → u = cv) ∧ PySem.W.kitOne K (.ref D) cv = some b ∧ H dd = some (.xd fs) ∧ Q (.bl b) H
theorem call_isY {X : Cx} {a : Addr} {cls : Value} {d : Option Addr} {oe : Obj} {pn : List (Addr × Obj)} (hz : Zc cls d oe) (hf : ∃ vs, oe.data = .fields vs) :
    CallR (X.suite a ((a, oe) :: pn)) (.builtin "isinstance") (rIsY X.K cls d a) := by
  rintro pins s σ H xs us Q I r ⟨D, dd, c, cv, b, fs, rfl, rfl, rfl, C, only, e, at_, q⟩
  cases r with
  | cons r1 r2 =>
    cases r2 with
    | cons r2 r3 =>
      cases r3
      cases r1
      obtain rfl := only _ r2
      obtain ⟨vs, dt⟩ := hf
      have told := I.hok dd _ at_
      obtain ⟨m, ns, _⟩ : ∃ m, s.heap.Ns1 dd m ∧ ∀ f, RelO (fs.lookup f) (m f) := told
      obtain ⟨od, ho, _⟩ := lookIn_ns ns
      have here := (I.pin (a, oe) (List.mem_append.mpr (.inl List.mem_cons_self))).1
      have inst : PySem.W.InstAt s.heap a oe D (some od) := ⟨here, hz.1, by unfold PySem.W.notCls; rw [dt] <;> rfl, by rw [hz.2]; exact ho⟩
      refine PySem.W.kia_one (PySem.W.kitx_exc (has_cls C.hd) C.hg C.hk C.hs C.ha C.hn C.ht C.hm) I.kIn inst e (fun q => nomatch q) ?_
      intro tk
      exact ⟨.bl b, H, I.kept (t' := tk) fun _ _ k => k, rfl, q⟩
end FL
namespace FL
open PySem PySem.Spec PyProof.Rows L2
/-! A promise that is kept where no repr is under way. -/
structure FnG (P : Program) (w : World) (K : PySem.W.Frag) (mg : Str → Option Value)
    (base : Heap) (C : CXT) (k : Nat) (f : Addr) (fd : FuncData) (ps : List Str) (sp : Sp) : Prop where
  size : ∀ vs H Q E, sp vs H Q E → vs.length = ps.length
  goes : ∀ (A : Around) (outer : List Env) (s : Shared) (H : Hp) (args : Args)
      (us : List Value) (vs : List V) (Q : VK) (E : XK),
    Room k A → A.guards = some [] → Env0 P w K mg base A outer s H →
    BindsTo s fd args (ps.zip us) → Vals vs us → sp vs H Q E →
    codeAny (model P w) A (.call (.ref f) args) (CR C outer P w H s Q E) s
theorem FnG.of {P : Program} {w : World} {K : PySem.W.Frag} {mg : Str → Option Value} {base : Heap}
    {C : CXT} {k : Nat} {f : Addr} {fd : FuncData} {ps : List Str} {sp : Sp}
    (F : FnOk P w K mg base C k f fd ps sp) : FnG P w K mg base C k f fd ps sp :=
  ⟨F.len, fun A o s H a us vs Q E hr _ => F.run A o s H a us vs Q E hr⟩
section
variable {P : Program} {w : World} {K : PySem.W.Frag} {mg : Str → Option Value} {base : Heap}
theorem okG {x qual : Str} {st : Stmt} {f : Addr} {fd : FuncData} {N ps : List Str} {k : Nat} {sp : Sp}
    (F : Fun K x qual st f fd) (S : FnScope N ps (defScope st))
    (size : ∀ vs H Q E, sp vs H Q E → vs.length = ps.length)
    (body : ∀ (cdv : Value) (A : Around) (outer : List Env) (s : Shared) (H : Hp) (vs : List V) (Q : VK) (E : XK),
      Room k (A.deeper (envOfC qual (defScope st) s.heap.objs.size f cdv)) → A.guards = some [] → sp vs H Q E →
      ∃ t, PSs (cxOf CX0 P w K mg base N qual (defScope st) f cdv A outer s H E).nox (defBody st) t
        ∧ t { nx := fun _ H' => Q .non H', rt := Q } (start N vs) H) :
    FnG P w K mg base CX0 (k + 1) f fd ps sp := by
  obtain ⟨oc, od, kV, doc, pm, an, cdv, ct, osl, rfl, lk, hcd⟩ := F.ex
  refine ⟨size, fun A outer s H args us vs Q E hr hg e0 hb r hsp => ?_⟩
  refine LamX.run_ofS (k := k) lk hcd S hr e0 hb r (size _ _ _ _ hsp) fun h => ?_
  obtain ⟨t, h1, h2⟩ := body cdv A outer s H vs Q E h hg hsp
  exact ⟨t, h1.nox, h2⟩
theorem okGX {x qual : Str} {st : Stmt} {f : Addr} {fd : FuncData} {N ps : List Str} {k : Nat} {sp : Sp}
    (F : Fun K x qual st f fd) (S : FnScope N ps (defScope st))
    (size : ∀ vs H Q E, sp vs H Q E → vs.length = ps.length)
    (body : ∀ (cdv : Value) (A : Around) (outer : List Env) (s : Shared) (H : Hp) (vs : List V) (Q : VK) (E : XK),
      Room k (A.deeper (envOfC qual (defScope st) s.heap.objs.size f cdv)) → A.guards = some [] → sp vs H Q E →
      ∃ t, PSs (cxOf (L2.CX P w) P w K mg base N qual (defScope st) f cdv A outer s H E) (defBody st) t
        ∧ t { nx := fun _ H' => Q .non H', rt := Q } (start N vs) H) :
    FnG P w K mg base (L2.CX P w) (k + 1) f fd ps sp := by
  obtain ⟨oc, od, kV, doc, pm, an, cdv, ct, osl, rfl, lk, hcd⟩ := F.ex
  refine ⟨size, fun A outer s H args us vs Q E hr hg e0 hb r hsp => ?_⟩
  exact LamX.run_ofS (k := k) lk hcd S hr e0 hb r (size _ _ _ _ hsp) fun h =>
    body cdv A outer s H vs Q E h hg hsp
end
section
variable {X : Cx} {C : CXT} {k : Nat} {f : Addr} {fd : FuncData} {ps : List Str} {sp : Sp}
  {dvs : List V} {ds : List Value} {E : XK} {x : Str} {p pos : Pos} {e : Expr} {es : List Expr} {t : TA}
/-! f(e, ..) by such a promise -/
theorem pg_call (F : FnG X.prog X.w X.K X.mg X.base C k f fd ps sp) (hr : Room k X.A) (hG : X.A.guards = some [])
    (hg : Gl X x) (hm : X.mg x = some (.ref f)) (hk : PySem.W.keepIn X.K (.ref f) = true)
    (hb : Binds X.K fd ps ds) (hd : Vals dvs ds) (hx : Passes C X E) (ha : PA X (e :: es) t)
    (hdb : (x == ("__debug__" : Str)) = false := by decide)
    (he : starEach (e :: es) X.env = (false, eval e X.env) :: starEach es X.env := by rfl)
    (hpl : (backTo pos (starEach es X.env)).any (·.1) = false := by rfl) :
    PE X (.Call (.Name x p) (e :: es) [] pos) (tCall sp dvs E t) := by
  constructor
  intro pins s σ H Q I h
  refine wpAny_Call_Name_kw (ld_glob I hg hm ?_ hdb)
  refine PySem.W.callWith_K (h₀ := X.base) I.ok.mod.kin hk ?_ he hpl
  refine thn (ha.run pos pins s σ H _ I h) ?_
  rintro us s1 ⟨vs, H1, J, r, q⟩
  refine ⟨J.kIn, ?_⟩
  have r2 := r.append hd
  have hl : (us ++ ds).length = ps.length := by
    rw [← r2.length]
    exact F.size _ _ _ _ q
  have run := F.goes X.A X.stack s1 H1 ⟨us, []⟩ (us ++ ds) (vs ++ dvs) Q E hr hG J.env0 (hb s1 us J.kIn hl) r2 q
  refine wpAny_call (codeAny_mono run ?_)
  rintro (er | fl) s2 z
  · exact hx pins σ H1 s1 er s2 J z
  · cases fl with
    | ret u => exact J.after z
    | _ => exact False.elim z
end
/-! ### repr of data -/
def NiceD (d : PyData) : Prop := d.showable = true ∧ d.depth ≤ 40 ∧ d.shown.length ≤ sizeLine
/-- data of a value; an empty dict too -/
def Sh (K : PySem.W.Frag) (H : Hp) (v : V) (d : PyData) : Prop :=
  (Dp K H v d ∧ d.hasDict = false) ∨ (∃ a, v = .ref a ∧ H a = some (.dK []) ∧ d = .dict [])
section
variable {X : Cx}
theorem call_repr (hG : X.A.guards = some []) (hu : X.A.units + 64 < cLine) :
    CallR X (.builtin "repr") (fun xs H Q => ∃ v d, xs = [v] ∧ Sh X.K H v d ∧ NiceD d ∧ Q (.str d.shown) H) := by
  intro pins s σ H xs us Q I r h
  obtain ⟨v, d, rfl, hd, ⟨n1, n2, n3⟩, q⟩ := h
  cases r with
  | cons r1 r2 =>
    cases r2
    rename_i u
    rcases hd with ⟨hd, nd⟩ | ⟨a, rfl, ha, rfl⟩
    · obtain ⟨as, rd⟩ := Dp.reads I d v u hd r1
      have out : ∀ (h' : Heap) (w : Tok) (tk : Nat), (∀ b o, s.heap.get? b = some o → h'.get? b = some o) →
          EP X pins σ Q (.str d.shown w) { s with heap := h', toks := tk } :=
        fun h' w tk kp => ⟨.str d.shown, H, I.kept kp, ⟨w, rfl⟩, q⟩
      cases rd with
      | none => exact P.repr_of_none (out s.heap _ _ fun _ _ e => e)
      | bool b => exact P.repr_of_bool (out s.heap _ _ fun _ _ e => e)
      | int i t => exact P.repr_of_int (by simpa [PyData.showable] using n1) (out s.heap _ _ fun _ _ e => e)
      | str z t => exact P.repr_of_str (out s.heap _ _ fun _ _ e => e) n3
      | list h1 h2 h3 h4 =>
        exact repr_of_reads' (.list h1 h2 h3 h4) n1 (PyData.noDict_hsm nd) hG (by omega) (fun _ _ e => e) out n3
      | tuple h1 h2 h3 h4 =>
        exact repr_of_reads' (.tuple h1 h2 h3 h4) n1 (PyData.noDict_hsm nd) hG (by omega) (fun _ _ e => e) out n3
      | dict h1 h2 h3 h4 h5 => simp [PyData.hasDict] at nd
    · cases r1
      obtain ⟨_, hs, vs, kv, o, es, ep, h1, h2, h3, _, pr, _⟩ := I.hok a _ ha
      cases kv
      have e0 : es.toList = [] := by
        generalize es.toList = l at pr
        cases pr
        rfl
      refine repr_of_reads' (d := .dict []) (as := a :: [] ++ []) (.dict (kvs := []) h1 h2.1 h3 ?_ ?_) n1 (fun _ => ?_) hG
        (by omega) (fun _ _ e => e) (fun h' w tk kp => ⟨.str _, H, I.kept kp, ⟨w, rfl⟩, q⟩) n3
      · rw [e0]
        exact .nil
      · rw [e0]
        exact .nil
      · intro hm
        have : sysModules = a := by simpa using hm
        rw [this] at hs
        simp at hs
end
end FL
namespace FL
open PySem PySem.Spec PyProof.Rows L2
/-! ### zip of two texts, a target of two names -/
def ItS (x y : Str) : It :=
  ⟨fun i _ => i < min x.cps.size y.cps.size,
   fun i H v H' => ∃ T a b, v = .ref T ∧ H T = none ∧ H' = upd H T (.tup [.str ⟨#[a]⟩, .str ⟨#[b]⟩])
      ∧ x.cps[i]? = some a ∧ y.cps[i]? = some b,
   fun i _ => i = min x.cps.size y.cps.size⟩
def zSt (x y : Str) (t u : Tok) (z TI TO i1 i2 : Addr) (i : Nat) (h : Heap) : Prop :=
  IsZip h z TI TO .none ∧ IsTupOf2 h TI (.ref i1) (.ref i2) ∧ (∃ a b, IsTupOf2 h TO a b)
    ∧ h.IsStrIter i1 (strIterType x) x t i ∧ h.IsStrIter i2 (strIterType y) y u i
theorem turn_zipS {P : Program} {w : World} {K : PySem.W.Frag} {elts : List Expr} {kk : Nat} {tpos : Pos}
    {x y : Str} {t u : Tok} {z TI TO i1 i2 : Addr} (S : ZipSep2 z TI TO i1 i2 [i1] [i2]) :
    Turn P w K (.Tuple elts kk tpos) (ItS x y) [z, TI, TO, i1, i2] z (zSt x y t u z TI TO i1 i2) where
  mem := by simp
  obj := by
    rintro i h ⟨hz, hT, ⟨a, b, hO⟩, s1, s2⟩ c hc
    have e' : c = z ∨ c = TI ∨ c = TO ∨ c = i1 ∨ c = i2 := by simpa using hc
    rcases e' with rfl | rfl | rfl | rfl | rfl
    · exact ⟨_, hz, fun v q => nomatch q⟩
    · exact ⟨_, hT, fun v q => nomatch q⟩
    · exact ⟨_, hO, fun v q => nomatch q⟩
    · obtain ⟨o, e, d⟩ := s1
      exact ⟨_, e, fun v q => by simp_all⟩
    · obtain ⟨o, e, d⟩ := s2
      exact ⟨_, e, fun v q => by simp_all⟩
  keep := by
    rintro i h h' ⟨hz, hT, ⟨a, b, hO⟩, s1, s2⟩ k
    refine ⟨k z (by simp) _ hz, k TI (by simp) _ hT, ⟨a, b, k TO (by simp) _ hO⟩, ?_, ?_⟩
    · obtain ⟨o, e, d⟩ := s1
      exact ⟨o, k i1 (by simp) o e, d⟩
    · obtain ⟨o, e, d⟩ := s2
      exact ⟨o, k i2 (by simp) o e, d⟩
  item := by
    intro X hP hw hK hc i pins s σ H E I hf st hg
    subst hP hw hK
    obtain ⟨hz, hT, ⟨a, b, hO⟩, s1, s2⟩ := st
    have hh : X.A.in1.handled = none := I.ok.hd hc
    have hg' : i < min x.cps.size y.cps.size := hg
    have zl := Heap.lt_size hz
    refine wpAny_pyNext_zipD2_item S (Draws.text hh i1 x t) (Draws.text hh i2 y u) hz hT hO s1 s2 (by omega) (by omega) ?_
    rintro v1 v2 h' tk ⟨c1, t1, e1, rfl⟩ ⟨c2, t2, e2, rfl⟩ z1 o1 r1 r2 nT sz kp
    refine ⟨_, rfl, wpAny_letOwnedTupleGo_zip (s := { s with heap := h', toks := tk }) z1 fun h2 z2 sb => ?_⟩
    have nz : (s.heap.objs.size : Addr) ≠ z := Nat.ne_of_gt zl
    have nT2 : h2.get? s.heap.objs.size = some { cls := .type "tuple", data := .seq #[.str ⟨#[c1]⟩ t1, .str ⟨#[c2]⟩ t2] } :=
      (sb.2 _ nz).trans nT
    have ok : ObjOk X.prog X.w (upd H s.heap.objs.size (.tup [.str ⟨#[c1]⟩, .str ⟨#[c2]⟩])) h2 s.heap.objs.size
        (.tup [.str ⟨#[c1]⟩, .str ⟨#[c2]⟩]) :=
      ⟨(by show 2 ≤ sizeLine; decide), [_, _], .cons ⟨t1, rfl⟩ (.cons ⟨t2, rfl⟩ .nil), ⟨_, nT2, rfl, _, rfl⟩⟩
    have J := I.turnedNew (t' := tk) (ch := [z, TI, TO, i1, i2]) (h' := h2) (fun c o nc q => (sb.2 c fun q' => nc (by simp [q'])).trans
      (kp c o (fun q' => nc (by simp [q'])) (fun q' => nc (by simp [q'])) (fun q' => nc (by simp [q'])) (fun q' => nc (by simp [q'])) q)) hf (Nat.le_refl _) ok
    refine ⟨.ref s.heap.objs.size, _, J, rfl, ⟨_, c1, c2, rfl, I.hok.fresh (Nat.le_refl _), rfl, e1, e2⟩, ⟨z2, ?_, ⟨_, _, (sb.2 _ S.TOz).trans o1⟩, ?_, ?_⟩, ?_⟩
    · exact (sb.2 _ S.TIz).trans (kp _ _ S.TIz S.TITO S.TIi1 S.TIi2 hT)
    · obtain ⟨o, e, d⟩ := r1
      exact ⟨o, (sb.2 _ (Ne.symm S.zi1)).trans e, d⟩
    · obtain ⟨o, e, d⟩ := r2
      exact ⟨o, (sb.2 _ (Ne.symm S.zi2)).trans e, d⟩
    · intro c hcm
      have live : ∃ o, s.heap.get? c = some o := by
        have e' : c = z ∨ c = TI ∨ c = TO ∨ c = i1 ∨ c = i2 := by simpa using hcm
        rcases e' with rfl | rfl | rfl | rfl | rfl
        · exact ⟨_, hz⟩
        · exact ⟨_, hT⟩
        · exact ⟨_, hO⟩
        · exact ⟨_, s1.choose_spec.1⟩
        · exact ⟨_, s2.choose_spec.1⟩
      obtain ⟨o, e⟩ := live
      rw [upd_ne (Nat.ne_of_lt (Heap.lt_size e))]
      exact (hf c hcm).1
  done := by
    intro X hP hw hK hc i pins s σ H E I hf st hg
    subst hP hw hK
    obtain ⟨hz, hT, ⟨a, b, hO⟩, s1, s2⟩ := st
    have hh : X.A.in1.handled = none := I.ok.hd hc
    have hg' : i = min x.cps.size y.cps.size := hg
    refine wpAny_pyNext_zipD2_end S (Draws.text hh i1 x t) (Draws.text hh i2 y u) hz hT hO s1 s2 (by omega) (by omega) (by omega) ?_
    intro h' tk kp
    exact ⟨rfl, I.turnedL (t' := tk) (ch := [z, TI, TO, i1, i2]) (fun c o nc q =>
      kp c o (fun q' => nc (by simp [q'])) (fun q' => nc (by simp [q'])) (fun q' => nc (by simp [q'])) (fun q' => nc (by simp [q'])) q) hf⟩
  self := fun A i s Q E st h => wpAny_pyIter_zip st.1 h
def iZipS (ta : TA) : TI := fun σ H R => ta σ H fun vs H1 => ∃ x y, vs = [.str x, .str y] ∧ R (ItS x y) H1
theorem pi_zipS {X : Cx} {e e2 : Expr} {ta : TA} {p pos tpos : Pos} {elts : List Expr} {kk : Nat} (hg : Gl X "zip")
    (hm : X.mg "zip" = none) (ha : PA X [e, e2] ta)
    (hs : starEach [e, e2] X.env = (false, eval e X.env) :: starEach [e2] X.env := by rfl)
    (hpl : (backTo pos (starEach [e2] X.env)).any (·.1) = false := by rfl) :
    PI X (.Tuple elts kk tpos) (.Call (.Name "zip" p) [e, e2] [] pos) (iZipS ta) := by
  constructor
  intro pins s σ H R I h
  refine Call_ (ld_blt I hg hm PyProof.Rows.boot_zip (PyProof.Rows.callWith_type1 (thn (ha.run pos pins s σ H _ I h) ?_) hs hpl))
  rintro us s1 ⟨vs, H1, J, r, x, y, rfl, q⟩
  obtain ⟨u1, u2, rfl, ⟨t1, rfl⟩, ⟨t2, rfl⟩⟩ := vals2 r
  refine zip_begins2 (begins_text x t1) (begins_text y t2) trivial trivial ?_
  intro h' hz hT hO g1 g2 sz kp
  refine wpAny_pyIter_zip hz ?_
  have J2 : Inv X pins σ H1 { s1 with heap := h' } := J.kept (t' := s1.toks) kp
  refine ⟨_, _, _, ItS x y, H1, rfl, J2, turn_zipS (zip_sep2 (fp1 := []) (fp2 := []) (fun _ z => nomatch z) (fun _ z => nomatch z)),
    ⟨hz, hT, ⟨_, _, hO⟩, ⟨_, g1, rfl, rfl⟩, ⟨_, g2, rfl, rfl⟩⟩, fun c hcm => ?_, q⟩
  have hle : s1.heap.objs.size ≤ c := by
    have e' : c = s1.heap.objs.size + 4 ∨ c = s1.heap.objs.size + 2 ∨ c = s1.heap.objs.size + 3 ∨ c = s1.heap.objs.size ∨ c = s1.heap.objs.size + 1 := by
      simpa using hcm
    rcases e' with z | z | z | z | z <;> rw [z] <;> first | exact Nat.le_add_right _ _ | exact Nat.le_refl _
  exact J.fpOk hle (J.hok.fresh hle)
end FL
namespace FL
open PySem PySem.Spec PyProof.Rows L2
/-! ### values of any kind -/
inductive Any (H : Hp) : V → String → Prop
  | non : Any H .non "NoneType"
  | bl (b : Bool) : Any H (.bl b) "bool"
  | int (i : Int) : Any H (.int i) "int"
  | str (z : Str) : Any H (.str z) "str"
  | lst {a : Addr} {xs : List V} : H a = some (.lst xs) → Any H (.ref a) "list"
  | tup {a : Addr} {xs : List V} : H a = some (.tup xs) → Any H (.ref a) "tuple"
  | dct {a : Addr} {kvs : List (Key × V)} : H a = some (.dK kvs) → Any H (.ref a) "dict"
def kinds : List String := ["NoneType", "bool", "int", "str", "list", "tuple", "dict"]
def asked : List String := ["int", "bool", "str", "list", "tuple", "dict"]
def subB (n T : String) : Bool := n == T || (n == "bool" && T == "int")
theorem Any.kind {H : Hp} {v : V} {n : String} (h : Any H v n) : n ∈ kinds := by cases h <;> decide
theorem Any.tyx {K : PySem.W.Frag} {H : Hp} {v : V} {n : String} (h : Any H v n) : TyX K H v (.type n) := by
  cases h with
  | non => exact .base .non
  | bl b => exact .base (.bl b)
  | int i => exact .base (.int i)
  | str z => exact .base (.str z)
  | lst e => exact .base (.lst e)
  | tup e => exact .base (.tup e)
  | dct e => exact .base (.dK e)
theorem kit_all : (kinds.all fun n => asked.all fun T => decide (kitB n T = some (subB n T))) = true := by decide +kernel
theorem kit_any {n T : String} (hn : n ∈ kinds) (hT : T ∈ asked) : kitB n T = some (subB n T) := by
  have h := List.all_eq_true.mp kit_all n hn
  exact of_decide_eq_true (List.all_eq_true.mp h T hT)
section
variable {X : Cx}
theorem call_isA : CallR X (.builtin "isinstance") (fun xs H Q => ∃ x n T, xs = [x, .ty T] ∧ Any H x n ∧ T ∈ asked ∧ Q (.bl (subB n T)) H) := by
  intro pins s σ H xs us Q I r h
  obtain ⟨x, n, T, rfl, a, hT, q⟩ := h
  exact call_isi pins s σ H _ us Q I r ⟨x, .ty T, _, _, _, rfl, .ty T, a.tyx, kit_ty (kit_any a.kind hT), q⟩
end
theorem Any.same {H H' : Hp} {v : V} {n : String} (h : Any H v n) (e : ∀ a o, v = .ref a → H a = some o → H' a = some o) : Any H' v n := by
  cases h with
  | non => exact .non
  | bl b => exact .bl b
  | int i => exact .int i
  | str z => exact .str z
  | lst q => exact .lst (e _ _ rfl q)
  | tup q => exact .tup (e _ _ rfl q)
  | dct q => exact .dct (e _ _ rfl q)
/-! ### lines -/
def lineB (sg : Str) : V → Bool
  | .str z => decide (Txt.stripChars z sg = (Str.ofString ""))
  | _ => false
/-- texts are not too long -/
def Short (v : V) : Prop := ∀ z, v = .str z → z.length ≤ sizeLine
def spLine : Sp := fun vs H Q _ => ∃ (sg : Str) (v : V) (n : String), vs = [.str sg, v] ∧ Any H v n ∧ Short v ∧ Q (.bl (lineB sg v)) H
end FL
namespace FL
open PySem PySem.Spec PyProof.Rows L2
/-! ### the pot -/
def PotAt (H : Hp) (p : Addr) : Prop :=
  ∃ a b : Int, H p = some (.lst [.int a, .int b]) ∧ 0 ≤ a ∧ 0 ≤ b ∧ b ≤ 2147483646
/-- all but p is as it was -/
def But (p : Addr) (H H' : Hp) : Prop := ∀ c o, H c = some o → c ≠ p → H' c = some o
theorem But.refl (p : Addr) (H : Hp) : But p H H := fun _ _ e _ => e
theorem But.trans {p : Addr} {H H1 H2 : Hp} (a : But p H H1) (b : But p H1 H2) : But p H H2 :=
  fun c o e n => b c o (a c o e n) n
theorem But.same {p : Addr} {H H1 H2 : Hp} (a : But p H H1) (b : Same H1 H2) : But p H H2 :=
  fun c o e n => b c o (a c o e n)
theorem _root_.L2.Same.but {p : Addr} {H H1 : Hp} (a : Same H H1) : But p H H1 := fun c o e _ => a c o e
def spDraw : Sp := fun vs H Q _ => ∃ (p : Addr) (n : Int), vs = [.ref p, .int n] ∧ PotAt H p ∧ 0 < n ∧ n < 1073741824 ∧
  ∀ (d : Int) (H' : Hp), 0 ≤ d → d < n → PotAt H' p → But p H H' → Q (.int d) H'
end FL
namespace FL
open PySem PySem.Spec PyProof.Rows L2
theorem But.sqL {K : PySem.W.Frag} {p q : Addr} {H H' : Hp} {xs : List V} (b : But p H H') (n : q ≠ p) (h : SqL K H q xs) : SqL K H' q xs := by
  rcases h with (h | ⟨o, h⟩) | h
  · exact .inl (.inl (b _ _ h n))
  · exact .inl (.inr ⟨o, b _ _ h n⟩)
  · exact .inr h
def spPick (K : PySem.W.Frag) : Sp := fun vs H Q _ => ∃ (p : Addr) (v : V), vs = [.ref p, v] ∧ PotAt H p ∧
  ((∃ (q : Addr) (xs : List V), v = .ref q ∧ q ≠ p ∧ SqL K H q xs ∧ 0 < xs.length ∧ xs.length ≤ 1000 ∧
      ∀ (x : V) (H' : Hp), x ∈ xs → PotAt H' p → But p H H' → Q x H')
    ∨ (∃ z : Str, v = .str z ∧ 0 < z.length ∧ z.length ≤ 1000 ∧
      ∀ (c : Nat) (H' : Hp), c ∈ z.cps.toList → PotAt H' p → But p H H' → Q (.str ⟨#[c]⟩) H'))
def spPot (K : PySem.W.Frag) : Sp := fun vs H Q _ => ∃ (a : Addr) (ns : List Int) (k : Int), vs = [.ref a, .int k] ∧ SqL K H a (ns.map V.int) ∧ 0 ≤ k ∧ k < 64 ∧ ns.length ≤ 63 ∧
  ∀ (p : Addr) (H' : Hp), H p = none → PotAt H' p → Same H H' → Q (.ref p) H'
theorem atI_lt {α : Type} {xs : List α} {d : Int} (h0 : 0 ≤ d) (h1 : d < (xs.length : Int)) : ∃ x, x ∈ xs ∧ atI xs d = some x := by
  have hl : d.toNat < xs.length := by omega
  refine ⟨xs[d.toNat], List.getElem_mem hl, ?_⟩
  have e := atI_nat (List.getElem?_eq_getElem hl)
  rw [show ((d.toNat : Nat) : Int) = d by omega] at e
  exact e
theorem str_len (z : Str) : z.length = z.cps.toList.length := by
  show z.cps.size = _
  simp
end FL
namespace FL
open PySem PySem.Spec PyProof.Rows L2
theorem sqL_upd {K : PySem.W.Frag} {q B : Addr} {H : Hp} {xs : List V} {o : HO} (h : SqL K H q xs) (n : H B = none) : SqL K (upd H B o) q xs := by
  rcases h with (h | ⟨u, h⟩) | h
  · exact .inl (.inl (by rw [upd_ne (ne_of_none h n)]; exact h))
  · exact .inl (.inr ⟨u, by rw [upd_ne (ne_of_none h n)]; exact h⟩)
  · exact .inr h
/-- what len asks -/
def rLen (K : PySem.W.Frag) : List V → Hp → VK → Prop := fun xs H Q => ∃ x n, xs = [x] ∧ LenV K x H n ∧ Q (.int n) H
theorem callLen {X : Cx} : CallR X (.builtin "len") (rLen X.K) := call_len
/-- a text of signs of z -/
def Over (z y : Str) : Prop := ∀ c ∈ y.cps.toList, c ∈ z.cps.toList
def spNote : Sp := fun vs H Q _ => ∃ (p : Addr) (z : Str) (m : Int), vs = [.ref p, .str z, .int m] ∧ PotAt H p ∧ 0 < z.length ∧ z.length ≤ 1000 ∧ 0 ≤ m ∧ m ≤ 1000 ∧
  ∀ (y : Str) (H' : Hp), Over z y → (y.length : Int) ≤ m → PotAt H' p → But p H H' → Q (.str y) H'
theorem PotAt.upd {H : Hp} {p q : Addr} {o : HO} (h : PotAt H p) (n : p ≠ q) : PotAt (upd H q o) p := by
  obtain ⟨a, b, e, r⟩ := h
  exact ⟨a, b, by rw [upd_ne n]; exact e, r⟩
theorem PotAt.ne {H : Hp} {p q : Addr} (h : PotAt H p) (n : H q = none) : p ≠ q := by
  obtain ⟨a, b, e, r⟩ := h
  exact ne_of_none e n
theorem But.upd {p q : Addr} {H H1 : Hp} {o : HO} (b : But p H H1) (n : H q = none) : But p H (upd H1 q o) := fun c u e hc => by
  rw [upd_ne (ne_of_none e n)]
  exact b c u e hc
theorem But.new {p q : Addr} {H H1 : Hp} (b : But p H H1) (hp : PotAt H p) (n : H1 q = none) (hp1 : PotAt H1 p) : H q = none := by
  cases e : H q with
  | none => rfl
  | some o =>
    by_cases hq : q = p
    · subst hq
      obtain ⟨_, _, z, _⟩ := hp1
      rw [z] at n
      cases n
    · rw [b q o e hq] at n
      cases n
theorem join_list (ys : List Str) : (Str.join (Str.ofString "") ys).cps.toList = (ys.map fun y => y.cps.toList).flatten := by
  have e0 : (Str.ofString "").cps.toList = [] := by decide +kernel
  induction ys with
  | nil => rfl
  | cons x r ih =>
    cases r with
    | nil => simp [Str.join]
    | cons y r =>
      show (x ++ Str.ofString "" ++ Str.join (Str.ofString "") (y :: r)).cps.toList = _
      rw [Str.cps_append, Str.cps_append, Array.toList_append, Array.toList_append, ih, e0]
      simp
theorem Str_ext {a b : Str} (h : a.cps.toList = b.cps.toList) : a = b := by
  obtain ⟨a⟩ := a
  obtain ⟨b⟩ := b
  congr 1
  exact Array.toList_inj.mp h
theorem txtjoin_list (ys : List Str) : (Txt.join (Str.ofString "") ys).cps.toList = (ys.map fun y => y.cps.toList).flatten := by
  rw [← join_list]
  unfold Txt.join
  rw [StrLaws.glued_eq_join]
theorem join_signs (cs : List Nat) : Txt.join (Str.ofString "") (cs.map fun c => (⟨#[c]⟩ : Str)) = ⟨cs.toArray⟩ := by
  apply Str_ext
  rw [txtjoin_list, List.map_map]
  show (cs.map fun c => [c]).flatten = cs
  induction cs with
  | nil => rfl
  | cons c cs ih => rw [List.map_cons, List.flatten_cons, ih]; rfl
end FL
namespace FL
open PySem PySem.Spec PyProof.Rows L2
/-! ### texts: list(z), z * n, z[::-1] -/
def sign (c : Nat) : V := .str ⟨#[c]⟩
section
variable {X : Cx}
theorem vals_signs {z : Str} {acc : Array Value} (h : ItemsOf (SignAt z) acc z.cps.size) : Vals (z.cps.toList.map sign) acc.toList := by
  obtain ⟨h1, h2⟩ := h
  have key : ∀ (l : List Nat) (vs : List Value), l.length = vs.length →
      (∀ (i : Nat) (c : Nat) (v : Value), l[i]? = some c → vs[i]? = some v → ∃ u, v = .str ⟨#[c]⟩ u) → Vals (l.map sign) vs := by
    intro l
    induction l with
    | nil =>
      intro vs hl _
      cases vs with
      | nil => exact .nil
      | cons _ _ => simp at hl
    | cons c l ih =>
      intro vs hl hv
      cases vs with
      | nil => simp at hl
      | cons v vs =>
        obtain ⟨u, rfl⟩ := hv 0 c v rfl rfl
        exact .cons ⟨u, rfl⟩ (ih vs (by simpa using hl) fun i c v a b => hv (i + 1) c v (by simpa using a) (by simpa using b))
  refine key _ _ (by simp [h1]) fun i c v a b => ?_
  obtain ⟨c', u, e1, e2⟩ := h2 i v (by simpa using b)
  have : c' = c := by
    have a' : z.cps[i]? = some c := by simpa using a
    rw [e1] at a'
    exact Option.some.inj a'
  exact ⟨u, this ▸ e2⟩
theorem call_list_txt (hc : X.calm = true) : CallR X (.type "list") (fun xs H Q => ∃ z, xs = [.str z] ∧ z.length ≤ sizeLine ∧
    ∀ l, H l = none → Q (.ref l) (upd H l (.lst (z.cps.toList.map sign)))) := by
  intro pins s σ H xs us Q I r h
  obtain ⟨z, rfl, hz, q⟩ := h
  obtain ⟨u, rfl, t, rfl⟩ := vals1 r
  refine call_list_str (I.ok.hd hc) z t ?_ hz
  intro h' tk acc n kp hS hacc
  refine ⟨.ref s.heap.objs.size, _, I.laid (t' := tk) (o := .lst (z.cps.toList.map sign)) kp (Nat.le_refl _) ?_, rfl, q _ (I.hok.fresh (Nat.le_refl _))⟩
  refine ⟨by rw [List.length_map, Array.length_toList]; exact hz, acc.toList, n, vals_signs hacc, ?_⟩
  rw [hS]
def repS (z : Str) (n : Nat) : Str := ⟨(List.replicate n z.cps).foldl (· ++ ·) #[]⟩
theorem foldl_app (l : List (Array Nat)) : ∀ a : Array Nat, (l.foldl (· ++ ·) a).toList = a.toList ++ (l.map Array.toList).flatten := by
  induction l with
  | nil => intro a; simp
  | cons b l ih => intro a; rw [List.foldl_cons, ih]; simp
theorem repS_list (z : Str) (n : Nat) : (repS z n).cps.toList = (List.replicate n z.cps.toList).flatten := by
  unfold repS
  rw [foldl_app]
  simp
theorem repS_len (z : Str) (n : Nat) : (repS z n).length = n * z.length := by
  rw [str_len, repS_list, str_len]
  induction n with
  | zero => simp
  | succ n ih => rw [List.replicate_succ, List.flatten_cons, List.length_append, ih, Nat.succ_mul, Nat.add_comm]
theorem repS_mem {z : Str} {n c : Nat} (h : c ∈ (repS z n).cps.toList) : c ∈ z.cps.toList := by
  rw [repS_list] at h
  obtain ⟨l, hl, hc⟩ := List.mem_flatten.mp h
  rw [List.eq_of_mem_replicate hl] at hc
  exact hc
theorem op_mul_str : OpR X (binaryOp .Mult) (fun x y H Q => ∃ z n, x = .str z ∧ y = .int n ∧ 2 ≤ n ∧ n ≤ 10000 ∧ 0 < z.length ∧ z.length ≤ 1000 ∧ Q (.str (repS z n.toNat)) H) := by
  intro pins s σ H x y v u Q I rx ry h
  obtain ⟨z, n, rfl, rfl, n0, n1, z0, z1, q⟩ := h
  obtain ⟨t, rfl⟩ := rx
  obtain ⟨t', rfl⟩ := ry
  have b1 : (n == 1 || z.length == 0) = false := by
    have e1 : (n == 1) = false := by simp; omega
    have e2 : (z.length == 0) = false := by simp; omega
    rw [e1, e2]
    rfl
  have b2 : z.length * n.toNat ≤ 10000000 := by
    have : z.length * n.toNat ≤ 1000 * 10000 := Nat.mul_le_mul z1 (by omega)
    omega
  have sz : sizeLine = 16777216 := rfl
  refine P.mul_str ?_ ?_ ?_ ?_
  · rw [decide_eq_false (show ¬ n < -(2 ^ 63 : Int) by omega), decide_eq_false (show ¬ n ≥ 2 ^ 63 by omega)]
    rfl
  · intro _ _
    have e : (1000 : Int) ≤ (2 ^ 63 - 1) / n := by
      rw [Int.le_ediv_iff_mul_le (by omega)]
      omega
    omega
  · intro _ _
    show decide (z.length * n.toNat > sizeLine) = false
    exact decide_eq_false (by omega)
  · rw [if_neg (by omega), if_neg (by rw [b1]; decide)]
    refine ⟨?_, .str (repS z n.toNat), H, I.tok _, ⟨_, rfl⟩, q⟩
    show (repS z n.toNat).length ≤ sizeLine
    rw [repS_len, Nat.mul_comm]
    omega
def tRevS (te : TE) : TE := fun σ H Q => te σ H fun x H1 => ∃ z, x = .str z ∧ z.length ≤ sizeLine ∧
  Q (.str ⟨z.cps.toList.reverse.toArray⟩) H1
theorem pe_revS {e : Expr} {te : TE} {k : Nat} {p1 p2 p3 pos : Pos} (he : PE X e te) :
    PE X (.Subscript e (.Slice none none (some (.UnaryOp .USub (.Constant (.int 1) k p1) p2)) p3) pos) (tRevS te) := by
  constructor
  intro pins s σ H Q I h
  refine Subscript_ (thn (he.run pins s σ H _ I h) ?_)
  rintro v s1 ⟨x, H1, J, r, z, rfl, hz, q⟩
  obtain ⟨t, rfl⟩ := r
  have hst : PO X (some (.UnaryOp .USub (.Constant (.int 1) k p1) p2)) (tPart (tUn (rU fun i => .int (-i)) (tC (.int 1)))) :=
    po_some (pe_un un_neg pe_int)
  refine wpAny_Slice (thn (po_none.run pins s1 σ H1 (fun o H2 => o = none ∧ H2 = H1) J ⟨rfl, rfl⟩) ?_)
  rintro vl s2 ⟨l, H2, J2, pl, rfl, rfl⟩
  refine thn (po_none.run pins s2 σ _ (fun o H3 => o = none ∧ H3 = H2) J2 ⟨rfl, rfl⟩) ?_
  rintro vu s3 ⟨u, H3, J3, pu, rfl, rfl⟩
  refine thn (hst.run pins s3 σ _ (fun o H4 => o = some (-1) ∧ H4 = H3) J3 ⟨1, rfl, -1, rfl, rfl, rfl⟩) ?_
  rintro vs s4 ⟨o, H4, J4, ps, rfl, rfl⟩
  obtain ⟨l', rfl, el⟩ := IsPart.raw pl
  obtain ⟨u', rfl, eu⟩ := IsPart.raw pu
  obtain ⟨s', rfl, es⟩ := IsPart.raw ps
  have J5 : Inv X pins σ H4 { s4 with heap := s4.heap.push { cls := .type "slice", data := .fields #[partValue l', partValue u', partValue s'] } } :=
    J4.kept (t' := s4.toks) fun b ob q => Heap.get?_push_of_some _ q
  refine tail_any (ops := [.str z t, .ref s4.heap.objs.size]) (typeIs_str _ _ _) F.slot_str_getitem.lookup ?_ (by with_unfolding_all rfl)
  refine wpAny_getItem_str_slice (l := l') (u := u') (st := s') ⟨_, Heap.get?_push_size _ rfl, rfl, rfl⟩ (by rw [es]; rfl) ?_
  have e1 : slicePicked z l' u' s' = (List.range z.length).map fun k => z.length - 1 - k := by
    unfold slicePicked
    rw [el, eu, es]
    exact PySem.W.krv_sliceRange z.length
  unfold sliceMade
  rw [es, if_neg (by simp), e1]
  have e2 : (((List.range z.length).map fun k => z.length - 1 - k).filterMap (z.cps[·]?)) = z.cps.toList.reverse := by
    rw [PySem.W.krv_range, List.filterMap_reverse]
    have := PySem.W.krv_all z.cps
    rw [show z.length = z.cps.size from rfl, this]
  rw [e2]
  refine ⟨?_, .str _, H4, J5.tok _, ⟨_, rfl⟩, q⟩
  show (z.cps.toList.reverse.toArray).size ≤ sizeLine
  rw [List.size_toArray, List.length_reverse, Array.length_toList]
  exact hz
theorem mtPopAt : MtR X "list.pop" rPopAt := mt_popAt
theorem mtAppend : MtR X "list.append" rAppend := mt_append
theorem mtExtend : MtR X "list.extend" rExtend := mt_extend
theorem mtReverse : MtR X "list.reverse" rReverse := mt_reverse
theorem mtClear : MtR X "list.clear" rClear := mt_clear
end
end FL
namespace FL
open PySem PySem.Spec PyProof.Rows L2
/-! ### signs -/
def poolCodes : List Nat := "-.0123456789=>abcdefghijklmnopqrstuvwxyz|".toList.map (·.toNat)
structure Abc (z : Str) : Prop where
  lo : 2 ≤ z.length
  hi : z.length ≤ 4
  up : z.cps.toList.Pairwise (· < ·)
  inn : ∀ c ∈ z.cps.toList, c ∈ poolCodes
theorem perm_erase {α : Type} : ∀ (xs : List α) (i : Nat) (h : i < xs.length), (xs[i] :: xs.eraseIdx i).Perm xs
  | [], _, h => absurd h (by simp)
  | x :: xs, 0, _ => List.Perm.refl _
  | x :: xs, i + 1, h => by
    have ih := perm_erase xs i (by simpa using h)
    have hi : i < xs.length := by simpa using h
    show (xs[i] :: x :: xs.eraseIdx i).Perm (x :: xs)
    exact (List.Perm.swap _ _ _).trans (ih.cons x)
theorem erase_map {α β : Type} (f : α → β) : ∀ (xs : List α) (i : Nat), (xs.map f).eraseIdx i = (xs.eraseIdx i).map f
  | [], _ => rfl
  | _ :: _, 0 => rfl
  | x :: xs, i + 1 => by
    show f x :: (xs.map f).eraseIdx i = f x :: (xs.eraseIdx i).map f
    rw [erase_map f xs i]
def one (c : Nat) : Str := ⟨#[c]⟩
theorem one_inj {a b : Nat} (h : one a = one b) : a = b := by
  have := congrArg (fun s : Str => s.cps.toList) h
  simpa [one] using this
theorem map_one {ys : List Str} {cs : List Nat} (h : ys.Perm (cs.map one)) : ∃ ds : List Nat, ys = ds.map one ∧ ds.Perm cs := by
  have hall : ∀ y ∈ ys, ∃ c, y = one c := fun y hy => by
    obtain ⟨c, _, e⟩ := List.mem_map.mp (h.mem_iff.mp hy)
    exact ⟨c, e.symm⟩
  have hd : ∃ ds : List Nat, ys = ds.map one := by
    clear h
    induction ys with
    | nil => exact ⟨[], rfl⟩
    | cons y ys ih =>
      obtain ⟨c, rfl⟩ := hall y List.mem_cons_self
      obtain ⟨ds, rfl⟩ := ih fun y hy => hall y (List.mem_cons_of_mem _ hy)
      exact ⟨c :: ds, rfl⟩
  obtain ⟨ds, rfl⟩ := hd
  refine ⟨ds, rfl, ?_⟩
  have key : ∀ l : List Nat, (l.map one).map (fun s : Str => s.cps.toList.headD 0) = l := fun l => by
    rw [List.map_map]
    conv => rhs; rw [← List.map_id l]
    apply List.map_congr_left
    intro c _
    rfl
  have := h.map (fun s : Str => s.cps.toList.headD 0)
  rwa [key, key] at this
theorem lt_one (a b : Nat) : ltCps [a] [b] = decide (a < b) := by
  unfold ltCps
  by_cases h : a < b
  · simp [h, ltCps]
  · simp [h, ltCps]
theorem rising_one : ∀ (ds : List Nat) (a : Nat), risingS (one a) (ds.map one) = true → (∀ b ∈ ds, a ≤ b) ∧ ds.Pairwise (· ≤ ·)
  | [], _, _ => ⟨(fun _ h => nomatch h), .nil⟩
  | b :: r, a, h => by
    have h' : (!ltCps [b] [a] && risingS (one b) (r.map one)) = true := h
    rw [Bool.and_eq_true] at h'
    obtain ⟨h1, h2⟩ := h'
    have hab : a ≤ b := by
      rw [lt_one] at h1
      simpa using h1
    obtain ⟨i1, i2⟩ := rising_one r b h2
    refine ⟨fun c hc => ?_, .cons i1 i2⟩
    rcases List.mem_cons.mp hc with rfl | hc
    · exact hab
    · exact Nat.le_trans hab (i1 c hc)
theorem sorted_one : ∀ (ds : List Nat), sortedS (ds.map one) = true → ds.Pairwise (· ≤ ·)
  | [], _ => .nil
  | a :: r, h => let ⟨i1, i2⟩ := rising_one r a h; .cons i1 i2
theorem strict {ds : List Nat} (h : ds.Pairwise (· ≤ ·)) (n : ds.Nodup) : ds.Pairwise (· < ·) := by
  induction ds with
  | nil => exact .nil
  | cons a r ih =>
    cases h with
    | cons h1 h2 =>
      obtain ⟨n1, n2⟩ := List.nodup_cons.mp n
      refine .cons (fun b hb => ?_) (ih h2 n2)
      have := h1 b hb
      have : a ≠ b := fun e => n1 (e ▸ hb)
      omega
theorem pool_nodup : poolCodes.Nodup := by decide +kernel
def spAbc : Sp := fun vs H Q _ => ∃ (p : Addr), vs = [.ref p, .int 4] ∧ PotAt H p ∧
  ∀ (z : Str) (H' : Hp), Abc z → PotAt H' p → But p H H' → Q (.str z) H'
end FL
namespace FL
open PySem PySem.Spec PyProof.Rows L2
/-! ### rules -/
structure Rule where
  fr : Bool
  old : Str
  new : Str
def kd : Bool → Str
  | true => Str.ofString "front"
  | false => Str.ofString "whole"
def ruleV (r : Rule) : List V := [.str (kd r.fr), .str r.old, .str r.new]
def RuleAt (H : Hp) (v : V) (r : Rule) : Prop := ∃ t, v = .ref t ∧ H t = some (.tup (ruleV r))
abbrev RulesAt (H : Hp) : List V → List Rule → Prop := Paired (RuleAt H)
structure RuleOk (z : Str) (b : Nat) (r : Rule) : Prop where
  o1 : Over z r.old
  o2 : r.old.length ≤ b
  n1 : Over z r.new
  n2 : r.new.length ≤ b
theorem RuleOk.mono {z : Str} {b c : Nat} {r : Rule} (h : RuleOk z b r) (l : b ≤ c) : RuleOk z c r := ⟨h.o1, Nat.le_trans h.o2 l, h.n1, Nat.le_trans h.n2 l⟩
theorem RulesAt.imp {H H' : Hp} : ∀ {xs : List V} {rs : List Rule}, RulesAt H xs rs → (∀ t a, H t = some (.tup a) → H' t = some (.tup a)) → RulesAt H' xs rs
  | _, _, .nil, _ => .nil
  | _, _, .cons ⟨t, e, h⟩ r, k => .cons ⟨t, e, k _ _ h⟩ (RulesAt.imp r k)
theorem But.tups {p : Addr} {H H' : Hp} (b : But p H H') (hp : PotAt H p) : ∀ t a, H t = some (.tup a) → H' t = some (.tup a) := fun t a e =>
  b t _ e fun q => by
    obtain ⟨_, _, z, _⟩ := hp
    rw [q, z] at e
    cases e
theorem over_app {z a b : Str} (h1 : Over z a) (h2 : Over z b) : Over z (a ++ b) := fun c hc => by
  rw [Str.cps_append, Array.toList_append] at hc
  exact (List.mem_append.mp hc).elim (h1 c) (h2 c)
theorem over_cut {z y : Str} (h : Over z y) (lo hi : Option Int) : Over z (cutS y lo hi) := fun c hc => by
  apply h c
  have h' : c ∈ ((y.cps.toList.drop (HT.sIx y.length 0 lo)).take (HT.sIx y.length y.length hi - HT.sIx y.length 0 lo)) := by
    simpa [cutS] using hc
  exact List.mem_of_mem_drop (List.mem_of_mem_take h')
theorem over_rev {z y : Str} (h : Over z y) : Over z ⟨y.cps.toList.reverse.toArray⟩ := fun c hc => h c (by simpa using hc)
theorem over_one {z : Str} {c : Nat} (h : c ∈ z.cps.toList) : Over z ⟨#[c]⟩ := fun d hd => by
  have : d = c := by simpa using hd
  rw [this]
  exact h
theorem len_app (a b : Str) : (a ++ b).length = a.length + b.length := Str.length_append a b
theorem len_rev (y : Str) : (⟨y.cps.toList.reverse.toArray⟩ : Str).length = y.length := by
  show (y.cps.toList.reverse.toArray).size = y.cps.size
  simp
theorem len_one (c : Nat) : (⟨#[c]⟩ : Str).length = 1 := rfl
def spDeals : Sp := fun vs H Q _ => ∃ (p : Addr) (z : Str) (lot most : Int), vs = [.ref p, .str z, .int lot, .int most] ∧ PotAt H p ∧ 0 < z.length ∧ z.length ≤ 1000 ∧
  0 ≤ lot ∧ lot ≤ 100 ∧ 0 ≤ most ∧ most ≤ 20 ∧
  ∀ (D : Addr) (xs : List V) (rs : List Rule) (H' : Hp), H D = none → H' D = some (.lst xs) → RulesAt H' xs rs → (rs.length : Int) ≤ lot →
    (∀ r ∈ rs, RuleOk z (most.toNat + 2) r) → PotAt H' p → But p H H' → Q (.ref D) H'
theorem paired_snoc {α β : Type} {R : α → β → Prop} : ∀ {xs : List α} {ys : List β} {x : α} {y : β}, Paired R xs ys → R x y → Paired R (xs ++ [x]) (ys ++ [y])
  | _, _, _, _, .nil, h => .cons h .nil
  | _, _, _, _, .cons a b, h => .cons a (paired_snoc b h)
theorem paired_len {α β : Type} {R : α → β → Prop} {xs : List α} {ys : List β} (h : Paired R xs ys) : xs.length = ys.length := Paired.length h
end FL
namespace FL
open PySem PySem.Spec PyProof.Rows L2
/-! ### turning -/
def fits (r : Rule) (y : Str) : Bool :=
  match r.fr with
  | true => decide (cutS y none (some (r.old.length : Int)) = r.old)
  | false => decide (y = r.old)
def turnR (r : Rule) (y : Str) : Str :=
  match r.fr with
  | true => r.new ++ cutS y (some (r.old.length : Int)) none
  | false => r.new
def turn : List Rule → Str → Str
  | [], y => y
  | r :: rs, y => if fits r y = true then turnR r y else turn rs y
def spTurn (K : PySem.W.Frag) : Sp := fun vs H Q _ => ∃ (D : Addr) (y : Str) (xs : List V) (rs : List Rule), vs = [.ref D, .str y] ∧ SqL K H D xs ∧ RulesAt H xs rs ∧
  y.length ≤ 100000 ∧ (∀ r ∈ rs, r.old.length ≤ 1000 ∧ r.new.length ≤ 1000) ∧ Q (.str (turn rs y)) H
theorem kd_ne : kd true ≠ kd false := by decide +kernel
theorem strV_ne {a b : Str} (h : a ≠ b) : ¬ (V.str a = V.str b) := fun e => h (V.str.inj e)
end FL
namespace FL
open PySem PySem.Spec PyProof.Rows L2
structure NoteOk (z : Str) (b : Nat) (y : Str) : Prop where
  ov : Over z y
  le : y.length ≤ b
def spNotes : Sp := fun vs H Q _ => ∃ (z : Str) (m : Int), vs = [.str z, .int m] ∧ 0 < z.length ∧ z.length ≤ 4 ∧ 0 ≤ m ∧ m ≤ 4 ∧
  ∀ (D : Addr) (ys : List Str) (H' : Hp), H D = none → H' D = some (.lst (ys.map V.str)) → (∀ y ∈ ys, NoteOk z m.toNat y) → ys.length ≤ 2000 → Same H H' → Q (.ref D) H'
theorem _root_.L2.Same.upd {H H1 : Hp} {q : Addr} {o : HO} (s : Same H H1) (n : H q = none) : Same H (upd H1 q o) := fun c u e => by
  rw [upd_ne (ne_of_none e n)]
  exact s c u e
theorem _root_.L2.Same.none {H H1 : Hp} {q : Addr} (s : Same H H1) (n : H1 q = Option.none) : H q = Option.none := s.free n
theorem pow_bound {n i : Nat} (h1 : n ≤ 4) (h2 : i ≤ 4) (h0 : 0 < n) : n ^ i ≤ 256 :=
  Nat.le_trans (Nat.pow_le_pow_left h1 i) (Nat.le_trans (Nat.pow_le_pow_right (by decide) h2) (by decide))
end FL
namespace FL
open PySem PySem.Spec PyProof.Rows L2
/-! ### data that can be shown and compared, of at most n signs -/
structure Sm (n : Nat) (d : PyData) : Prop where
  sh : d.showable = true
  nd : d.hasDict = false
  cl : d.canLay0 = true
  dp : d.depth ≤ 12
  len : d.shown.length ≤ n
structure SmL (k n : Nat) (ds : List PyData) : Prop where
  sh : PyData.showableAll ds = true
  nd : PyData.hasDictAll ds = false
  cl : PyData.canLayAll0 ds = true
  dp : PyData.depthAll ds ≤ k
  len : piled (PyData.shownAll ds) ≤ n
theorem Sm.shaped {n : Nat} {d : PyData} (h : Sm n d) : SeqAt.shaped d = true := by
  unfold SeqAt.shaped
  rw [h.cl, decide_eq_true (Nat.le_trans h.dp (by decide))]
  rfl
theorem Sm.nice {n : Nat} {d : PyData} (h : Sm n d) (hn : n ≤ sizeLine) : NiceD d := ⟨h.sh, Nat.le_trans h.dp (by decide), Nat.le_trans h.len hn⟩
theorem Sm.mono {n m : Nat} {d : PyData} (h : Sm n d) (l : n ≤ m) : Sm m d := ⟨h.sh, h.nd, h.cl, h.dp, Nat.le_trans h.len l⟩
theorem SmL.nil {k : Nat} : SmL k 0 [] := ⟨rfl, rfl, rfl, Nat.zero_le _, Nat.le_refl _⟩
theorem SmL.cons {k m n : Nat} {d : PyData} {ds : List PyData} (h : Sm m d) (hd : d.depth ≤ k) (r : SmL k n ds) : SmL k (m + 2 + n) (d :: ds) := by
  refine ⟨?_, ?_, ?_, ?_, ?_⟩
  · show (d.showable && PyData.showableAll ds) = true
    rw [h.sh, r.sh]
    rfl
  · show (d.hasDict || PyData.hasDictAll ds) = false
    rw [h.nd, r.nd]
    rfl
  · show (d.canLay0 && PyData.canLayAll0 ds) = true
    rw [h.cl, r.cl]
    rfl
  · show max d.depth (PyData.depthAll ds) ≤ k
    have := r.dp
    omega
  · show piled (d.shown :: PyData.shownAll ds) ≤ _
    rw [piled_cons]
    have := r.len
    have := h.len
    omega
theorem textFrom_le : ∀ (ts : List Str) (k : Nat) (acc : Str), (textFrom k acc ts).length ≤ acc.length + piled ts
  | [], k, acc => Nat.le_add_right _ _
  | t :: r, k, acc => by
    have h := textFrom_le r (k + 1) (acc ++ (if k > 0 then ", " else "" : String) ++ t)
    have e : (acc ++ (if k > 0 then ", " else "" : String) ++ t).length ≤ acc.length + 2 + t.length := by
      rw [strLen_append, strLen_append]
      have : ((if k > 0 then ", " else "" : String) : Str).length ≤ 2 := by split <;> decide +kernel
      omega
    show (textFrom (k + 1) _ r).length ≤ _
    rw [piled_cons]
    omega
theorem Sm.list {k n : Nat} {ds : List PyData} (h : SmL k n ds) (hk : k < 12) : Sm (n + 2) (.list ds) := by
  refine ⟨h.sh, h.nd, h.cl, ?_, ?_⟩
  · show PyData.depthAll ds + 1 ≤ 12
    have := h.dp
    omega
  · show (listText (PyData.shownAll ds)).length ≤ _
    unfold listText
    rw [strLen_append]
    have h1 := textFrom_le (PyData.shownAll ds) 0 "["
    have h2 : (("[" : String) : Str).length = 1 := rfl
    have h3 : (("]" : String) : Str).length = 1 := rfl
    have := h.len
    omega
theorem tupleText_le (ts : List Str) : (tupleText ts).length ≤ piled ts + 3 := by
  have e3 : (((if ts.length == 1 then ",)" else ")" : String) : Str)).length ≤ 2 := by split <;> decide +kernel
  have e1 : ((("(" : String) : Str)).length = 1 := rfl
  unfold tupleText
  rw [strLen_append, strLen_append, e1]
  by_cases h : ts = []
  · subst h
    have : (Str.join ", " ([] : List Str)).length = 0 := rfl
    omega
  · have := join_length_add ts h
    omega
theorem Sm.tuple {k n : Nat} {ds : List PyData} (h : SmL k n ds) (hk : k < 12) : Sm (n + 3) (.tuple ds) := by
  refine ⟨h.sh, h.nd, h.cl, ?_, ?_⟩
  · show PyData.depthAll ds + 1 ≤ 12
    have := h.dp
    omega
  · show (tupleText (PyData.shownAll ds)).length ≤ _
    have := tupleText_le (PyData.shownAll ds)
    have := h.len
    omega
/-- plain signs -/
def Plain (y : Str) : Prop := ∀ c ∈ y.cps.toList, c < 128
theorem pool_plain : ∀ c ∈ poolCodes, c < 128 := by decide +kernel
theorem Abc.plain {z y : Str} (h : Abc z) (o : Over z y) : Plain y := fun c hc => pool_plain c (h.inn c (o c hc))
theorem Sm.str {y : Str} (h : Plain y) : Sm (10 * y.length + 2) (.str y) := by
  refine ⟨rfl, rfl, ?_, Nat.zero_le _, StrLaws.reprText_len y fun c hc => Nat.lt_trans (h c hc) (by decide)⟩
  show y.cps.all (· < 0x110000) = true
  rw [Array.all_eq_true]
  intro i hi
  refine decide_eq_true (Nat.lt_trans (h y.cps[i] ?_) (by decide))
  exact Array.getElem_mem_toList hi
theorem Sm.bool (b : Bool) : Sm 5 (.bool b) := ⟨rfl, rfl, rfl, Nat.zero_le _, by cases b <;> decide +kernel⟩
def ruleD (r : Rule) : PyData := .tuple [.str (kd r.fr), .str r.old, .str r.new]
theorem kd_plain (b : Bool) : Plain (kd b) := by
  have h : ∀ c ∈ (kd b).cps.toList, c < 128 := by cases b <;> decide +kernel
  exact h
theorem kd_len (b : Bool) : (kd b).length = 5 := by cases b <;> decide +kernel
theorem Sm.rule {b : Nat} {r : Rule} (h1 : Plain r.old) (h2 : Plain r.new) (l1 : r.old.length ≤ b) (l2 : r.new.length ≤ b) : Sm (20 * b + 75) (ruleD r) := by
  have a0 := Sm.str (kd_plain r.fr)
  rw [kd_len] at a0
  have := Sm.tuple (k := 1) (SmL.cons a0 (Nat.zero_le _) (SmL.cons ((Sm.str h1).mono (show _ ≤ 10 * b + 2 by omega)) (Nat.zero_le _) (SmL.cons ((Sm.str h2).mono (show _ ≤ 10 * b + 2 by omega)) (Nat.zero_le _) SmL.nil))) (by decide)
  exact this.mono (by omega)
theorem rule_depth (r : Rule) : (ruleD r).depth = 1 := rfl
theorem SmL.rules {b : Nat} : ∀ {rs : List Rule}, (∀ r ∈ rs, Plain r.old ∧ Plain r.new ∧ r.old.length ≤ b ∧ r.new.length ≤ b) → SmL 1 ((20 * b + 77) * rs.length) (rs.map ruleD)
  | [], _ => SmL.nil
  | r :: rs, h => by
    obtain ⟨h1, h2, h3, h4⟩ := h r List.mem_cons_self
    have ih := SmL.rules (rs := rs) fun r hr => h r (List.mem_cons_of_mem _ hr)
    have := SmL.cons (Sm.rule h1 h2 h3 h4) (Nat.le_of_eq (rule_depth r)) ih
    refine ⟨this.sh, this.nd, this.cl, this.dp, Nat.le_trans this.len ?_⟩
    rw [List.length_cons, Nat.mul_add, Nat.mul_one]
    omega
theorem Sm.rules {b : Nat} {rs : List Rule} (h : ∀ r ∈ rs, Plain r.old ∧ Plain r.new ∧ r.old.length ≤ b ∧ r.new.length ≤ b) : Sm ((20 * b + 77) * rs.length + 2) (.list (rs.map ruleD)) :=
  Sm.list (SmL.rules h) (by decide)
theorem dp_rule {K : PySem.W.Frag} {H : Hp} {v : V} {r : Rule} (h : RuleAt H v r) : Dp K H v (ruleD r) := by
  obtain ⟨t, rfl, e⟩ := h
  exact .tup (SqT.of e) (.cons (.str _) (.cons (.str _) (.cons (.str _) .nil)))
theorem dp_rules {K : PySem.W.Frag} {H : Hp} : ∀ {xs : List V} {rs : List Rule}, RulesAt H xs rs → DpAll K H xs (rs.map ruleD)
  | _, _, .nil => .nil
  | _, _, .cons a b => .cons (dp_rule a) (dp_rules b)
theorem dp_list {K : PySem.W.Frag} {H : Hp} {D : Addr} {xs : List V} {rs : List Rule} (h : SqL K H D xs) (r : RulesAt H xs rs) : Dp K H (.ref D) (.list (rs.map ruleD)) := .lst h (dp_rules r)
theorem eqv_rule (a b : Rule) : PyData.eqv (ruleD a) (ruleD b) = true ↔ a = b := by
  obtain ⟨f, o, n⟩ := a
  obtain ⟨f', o', n'⟩ := b
  show ((kd f == kd f') && ((o == o') && ((n == n') && true))) = true ↔ _
  rw [Bool.and_eq_true, Bool.and_eq_true, Bool.and_eq_true]
  constructor
  · rintro ⟨h1, h2, h3, _⟩
    have e1 : kd f = kd f' := eq_of_beq h1
    have e2 : f = f' := by
      cases f <;> cases f' <;> first | rfl | exact absurd e1 kd_ne | exact absurd e1.symm kd_ne
    rw [e2, eq_of_beq h2, eq_of_beq h3]
  · intro h
    cases h
    simp
theorem eqv_rules : ∀ (a b : List Rule), PyData.eqvAll (a.map ruleD) (b.map ruleD) = true ↔ a = b
  | [], [] => by simp [PyData.eqvAll]
  | [], _ :: _ => by simp [PyData.eqvAll]
  | _ :: _, [] => by simp [PyData.eqvAll]
  | x :: a, y :: b => by
    show (PyData.eqv (ruleD x) (ruleD y) && PyData.eqvAll (a.map ruleD) (b.map ruleD)) = true ↔ _
    rw [Bool.and_eq_true, eqv_rule, eqv_rules a b]
    simp
end FL
namespace FL
open PySem PySem.Spec PyProof.Rows L2
def spHid (K : PySem.W.Frag) : Sp := fun vs H Q _ => ∃ (p : Addr) (z : Str) (D0 : Addr) (xs : List V) (rs : List Rule) (b : Nat), vs = [.ref p, .str z, .ref D0] ∧ PotAt H p ∧ Abc z ∧
  SqL K H D0 xs ∧ RulesAt H xs rs ∧ rs.length ≤ 50 ∧ b ≤ 20 ∧ 2 ≤ b ∧ (∀ r ∈ rs, RuleOk z b r) ∧
  ∀ (D : Addr) (ys : List V) (ts : List Rule) (H' : Hp), H D = none → H' D = some (.lst ys) → RulesAt H' ys ts → ts.length ≤ rs.length + 2 →
    (∀ r ∈ ts, RuleOk z (b + 2) r) → PotAt H' p → But p H H' → Q (.ref D) H'
theorem paired_mem {α β : Type} {R : α → β → Prop} : ∀ {xs : List α} {ys : List β} {x : α}, Paired R xs ys → x ∈ xs → ∃ y, y ∈ ys ∧ R x y
  | _, _, _, .nil, h => nomatch h
  | _, _, x, .cons a r, h => by
    rcases List.mem_cons.mp h with rfl | h
    · exact ⟨_, List.mem_cons_self, a⟩
    · obtain ⟨y, h1, h2⟩ := paired_mem r h
      exact ⟨y, List.mem_cons_of_mem _ h1, h2⟩
theorem ok_plain {z : Str} {b : Nat} {rs : List Rule} (h : Abc z) (ok : ∀ r ∈ rs, RuleOk z b r) : ∀ r ∈ rs, Plain r.old ∧ Plain r.new ∧ r.old.length ≤ b ∧ r.new.length ≤ b :=
  fun r hr => ⟨h.plain (ok r hr).o1, h.plain (ok r hr).n1, (ok r hr).o2, (ok r hr).n2⟩
end FL
namespace FL
open PySem PySem.Spec PyProof.Rows L2
theorem walk_zipS {x y : Str} : Walk (ItS x y) (min x.cps.size y.cps.size) (fun _ => True)
    (fun i H v H' => ∃ T a b, v = .ref T ∧ H T = none ∧ H' = upd H T (.tup [.str ⟨#[a]⟩, .str ⟨#[b]⟩]) ∧ x.cps[i]? = some a ∧ y.cps[i]? = some b) :=
  ⟨fun _ _ h _ => h, fun _ _ => rfl, fun _ _ _ _ _ _ h => h⟩
def signChars : Str := Str.ofString "abcdefghijklmnopqrstuvwxyz0123456789.-=>|"
def rise (l : List Nat) : List Bool := List.zipWith (fun a b => decide ([a] < [b])) l l.tail
def signsB : V → Bool
  | .str z => decide (2 ≤ z.length) && (decide (z.length ≤ 4) && ((rise z.cps.toList).all id && lineB signChars (.str z)))
  | _ => false
def spSigns : Sp := fun vs H Q _ => ∃ (v : V) (n : String), vs = [v] ∧ Any H v n ∧ Short v ∧ ∀ H', Same H H' → Q (.bl (signsB v)) H'
theorem cut_tail (z : Str) : (cutS z (some 1) none).cps.toList = z.cps.toList.tail := by
  show ((z.cps.toList.drop (HT.sIx z.length 0 (some ((1 : Nat) : Int)))).take (HT.sIx z.length z.length none - HT.sIx z.length 0 (some ((1 : Nat) : Int)))).toArray.toList = _
  rw [HT.sIx_nat, HT.sIx_none]
  show (List.drop (min 1 z.length) z.cps.toList).take (z.length - min 1 z.length) = _
  have hl := str_len z
  cases h : z.cps.toList with
  | nil => simp
  | cons a l =>
    rw [h] at hl
    have : z.length = l.length + 1 := by simpa using hl
    have m : min 1 z.length = 1 := by omega
    rw [m, List.drop_succ_cons, List.drop_zero, List.tail_cons, List.take_of_length_le (by omega)]
theorem rise_get {l : List Nat} {i a b : Nat} (h1 : l[i]? = some a) (h2 : l.tail[i]? = some b) : (rise l)[i]? = some (decide ([a] < [b])) := by
  unfold rise
  rw [List.getElem?_zipWith, h1, h2]
theorem take_snoc {α : Type} {l : List α} {i : Nat} {x : α} (h : l[i]? = some x) : l.take (i + 1) = l.take i ++ [x] := by
  obtain ⟨hi, e⟩ := List.getElem?_eq_some_iff.mp h
  rw [List.take_succ_eq_append_getElem hi, e]
end FL
namespace FL
open PySem PySem.Spec PyProof.Rows L2
theorem takeWhile_len {α : Type} {p : α → Bool} : ∀ {l : List α}, (∀ a ∈ l, p a = true) → (l.takeWhile p).length = l.length
  | [], _ => rfl
  | a :: l, h => by
    rw [List.takeWhile_cons, if_pos (h a List.mem_cons_self), List.length_cons, List.length_cons, takeWhile_len fun b hb => h b (List.mem_cons_of_mem _ hb)]
theorem over_line {z y : Str} (h : Over z y) : lineB z (.str y) = true := by
  show decide (Txt.stripChars y z = Str.ofString "") = true
  apply decide_eq_true
  unfold Txt.stripChars
  rw [stripBy_eq]
  have e1 : stripLo z.cps.contains true y = y.cps.size := by
    unfold stripLo
    rw [if_pos rfl, takeWhile_len, Array.length_toList]
    intro c hc
    have := h c hc
    rw [Array.contains_iff_mem]
    exact Array.mem_def.mpr this
  rw [e1]
  apply Str_ext
  show (y.cps.extract y.cps.size _).toList = (Str.ofString "").cps.toList
  rw [show (Str.ofString "").cps.toList = [] by decide +kernel]
  have : (y.cps.extract y.cps.size (stripHi z.cps.contains true y y.cps.size)).size = 0 := by
    rw [Array.size_extract]
    omega
  exact List.length_eq_zero_iff.mp (by rw [Array.length_toList]; exact this)
theorem pool_line : ∀ c ∈ poolCodes, c ∈ signChars.cps.toList := by decide +kernel
theorem rise_all : ∀ {l : List Nat}, l.Pairwise (· < ·) → (rise l).all id = true
  | [], _ => rfl
  | [a], _ => rfl
  | a :: b :: r, h => by
    cases h with
    | cons h1 h2 =>
      have ih := rise_all h2
      show (decide ([a] < [b]) && (rise (b :: r)).all id) = true
      rw [ih, decide_eq_true]
      · rfl
      · exact List.Lex.rel (h1 b List.mem_cons_self)
theorem abc_signs {z : Str} (h : Abc z) : signsB (.str z) = true := by
  show (decide (2 ≤ z.length) && (decide (z.length ≤ 4) && ((rise z.cps.toList).all id && lineB signChars (.str z)))) = true
  rw [decide_eq_true h.lo, decide_eq_true h.hi, rise_all h.up, over_line fun c hc => pool_line c (h.inn c hc)]
  rfl
/-! checks that raise nothing -/
def spCheckSigns : Sp := fun vs H Q _ => ∃ z : Str, vs = [.str z] ∧ Abc z ∧ ∀ H', Same H H' → Q .non H'
def spCheckLine : Sp := fun vs H Q _ => ∃ (z y : Str), vs = [.str z, .str y] ∧ Over z y ∧ y.length ≤ sizeLine ∧ Q .non H
end FL
namespace FL
open PySem PySem.Spec PyProof.Rows L2
def spIsList : Sp := fun vs H Q _ => ∃ (v : V) (n : String), vs = [v] ∧ Any H v n ∧ ∀ H', Same H H' → Q (.bl (n == "list" || n == "tuple")) H'
def spRuleLine : Sp := fun vs H Q _ => ∃ (z y : Str), vs = [.str z, .str y] ∧ Over z y ∧ y.length ≤ 40 ∧ Q (.bl true) H
def spIsRule : Sp := fun vs H Q _ => ∃ (z : Str) (v : V) (r : Rule), vs = [.str z, v] ∧ RuleAt H v r ∧ RuleOk z 40 r ∧ ∀ H', Same H H' → Q (.bl true) H'
theorem kitL_all : (kinds.all fun n => decide (kitB n "list" = some (n == "list")) && decide (kitB n "tuple" = some (n == "tuple"))) = true := by decide +kernel
theorem kit_lt {K : PySem.W.Frag} {n : String} (h : n ∈ kinds) : PySem.W.kitAny K (.type n) [.type "list", .type "tuple"] = some (n == "list" || n == "tuple") := by
  have h' := List.all_eq_true.mp kitL_all n h
  rw [Bool.and_eq_true] at h'
  have h1 : kitB n "list" = some (n == "list") := of_decide_eq_true h'.1
  have h2 : kitB n "tuple" = some (n == "tuple") := of_decide_eq_true h'.2
  refine kitAny_cons (kit_ty h1) (fun e => ?_) (fun e => by rw [e]; rfl)
  refine kitAny_cons (kit_ty h2) (fun e2 => ?_) (fun e2 => by rw [e2, Bool.or_true])
  rw [e, e2]
  exact kitAny_nil
end FL
namespace PySem
open Builtin
theorem fl_enum_new {v : Value} {o : Obj} {G : Heap → Prop} (B : Begins v o G) :
    Meets (Builtin.«enumerate.__new__» ⟨[.type "enumerate", v], []⟩) (fun _ R s => G s.heap ∧
      R (.ok (.ret (.ref (s.heap.push o).objs.size)))
        { s with heap := (s.heap.push o).push { cls := .type "enumerate", data := .fields #[.none, .bool false, .ref s.heap.objs.size, rawInt 0, .none, .none] } }) := by
  refine .of_wp ?_
  rintro prog w A R ⟨hp, g, d, tk, os⟩ ⟨h1, h⟩
  have known := sub_enumerate
  have it0 : ∀ {A' : Around} {E : Value → Shared → Prop} {Q : Value → Shared → Prop}, Q (.ref hp.objs.size) ⟨hp.push o, g, d, tk, os⟩ →
      wpAny (model prog w) A' (pyIter v) Q E ⟨hp, g, d, tk, os⟩ := fun q => B.iter prog w _ _ ⟨hp, g, d, tk, os⟩ _ h1 q
  wp_walk using it0
  refine wpAny_stack_any fun st => wpAny_pure ?_
  split
  · rename_i c _ _ _ _ _
    cases (c == Value.type "enumerate") <;>
      (wp_walk using it0
       exact ⟨_, rfl, h⟩)
  · wp_walk using it0
    exact ⟨_, rfl, h⟩
theorem fl_enum {prog : Program} {w : World} {A : Around} {E : Value → Shared → Prop} {s : Shared} {v : Value} {o : Obj} {G : Heap → Prop} {Q : Value → Shared → Prop} (B : Begins v o G) (h1 : G s.heap)
    (h : ∀ h', IsEnum h' (s.heap.objs.size + 1) s.heap.objs.size 0 .none → h'.get? s.heap.objs.size = some o →
      (∀ b u, s.heap.get? b = some u → h'.get? b = some u) → Q (.ref (s.heap.objs.size + 1)) { s with heap := h' }) :
    wpAny (model prog w) A (call (.type "enumerate") [v]) Q E s := by
  refine callType_new F.called_enumerate (by decide) (F.typeCall_enumerate_1 _) (F.newCall_enumerate_1 _) (fun obj => F.args_object_init_2 obj _) F.entry_enumerate_new
    (fl_enum_new B) ⟨h1, ?_⟩
  have hz : (s.heap.push o).objs.size = s.heap.objs.size + 1 := Heap.size_push ..
  have he : IsEnum ((s.heap.push o).push { cls := .type "enumerate", data := .fields #[.none, .bool false, .ref s.heap.objs.size, rawInt 0, .none, .none] }) (s.heap.objs.size + 1) s.heap.objs.size 0 .none := by
    have q := Heap.get?_push_size (s.heap.push o) (o := { cls := .type "enumerate", data := .fields #[.none, .bool false, .ref s.heap.objs.size, rawInt 0, .none, .none] }) rfl
    rw [hz] at q
    exact q
  show _ ∧ _
  rw [hz]
  exact ⟨⟨_, he, rfl⟩, h _ he (Heap.get?_push_of_some _ (Heap.get?_push_size _ B.free)) fun b u e => Heap.get?_push_of_some _ (Heap.get?_push_of_some _ e)⟩
end PySem
namespace FL
open PySem PySem.Spec PyProof.Rows L2
/-! ### enumerate of a tuple -/
def IteT (K : PySem.W.Frag) (a : Addr) (xs : List V) : It :=
  ⟨fun i H => SqT K H a xs ∧ i < xs.length,
   fun i H v H' => ∃ T x, v = .ref T ∧ H T = none ∧ H' = upd H T (.tup [.int (i : Nat), x]) ∧ xs[i]? = some x,
   fun i H => SqT K H a xs ∧ i = xs.length⟩
theorem sqT_inj {X : Cx} {pins : List (Addr × Obj)} {σ : L2.St} {H : Hp} {s : Shared} (I : L2.Inv X pins σ H s) {a : Addr} {xs : List V} (h : SqT X.K H a xs) :
    ∃ its : List Value, Vals xs its ∧ s.heap.IsTuple a its.toArray := by
  obtain ⟨its, r, e, _⟩ := I.tuple h
  exact ⟨its, r, e⟩
theorem turn_enumT {P : Program} {w : World} {K : PySem.W.Frag} {elts : List Expr} {kk : Nat} {tpos : Pos} (a e it : Addr) (xs : List V) :
    Turn P w K (.Tuple elts kk tpos) (IteT K a xs) [e, it] e (fun i h => (∃ old, IsEnum h e it ((i : Nat) : Int) old) ∧ h.IsTupleIter it a i ∧ e ≠ it ∧ a ≠ it ∧ a ≠ e) where
  mem := by simp
  obj := by
    rintro i h ⟨⟨old, he⟩, ⟨o, ho, hd⟩, _⟩ b hb
    have e' : b = e ∨ b = it := by simpa using hb
    rcases e' with rfl | rfl
    · exact ⟨_, he, fun v q => nomatch q⟩
    · exact ⟨_, ho, fun v q => by simp_all⟩
  keep := by
    rintro i h h' ⟨⟨old, he⟩, hi, n1, n2⟩ k
    exact ⟨⟨old, k e (by simp) _ he⟩, hi.at fun o q => k it (by simp) o q, n1, n2⟩
  item := by
    intro X hP hw hK hc i pins s σ H E I hf st hg
    subst hP hw hK
    obtain ⟨⟨old, he⟩, hit, hne, hna, hnb⟩ := st
    obtain ⟨hq, hlt⟩ := hg
    obtain ⟨its, rv, p⟩ := sqT_inj I hq
    have hl := rv.length
    have hh : X.A.in1.handled = none := I.ok.hd hc
    have el := Heap.lt_size he
    have il : it < s.heap.objs.size := by
      obtain ⟨_, q, _⟩ := hit
      exact Heap.lt_size q
    refine wpAny_pyNext_enum_itemD (Draws.tuple hh it a hna its.toArray) he ⟨hit, p⟩ (by simp; omega) hne (by simp [hne, Ne.symm hnb]) ?_
    rintro u h' tk hu ho ⟨hit', _⟩ hT sz kp
    have hx : xs[i]? = some xs[i] := List.getElem?_eq_getElem hlt
    obtain ⟨u', hu', ru⟩ := rv.get hx
    have : u' = u := by
      have hu2 : its[i]? = some u := by simpa using hu
      rw [hu2] at hu'
      exact (Option.some.inj hu').symm
    subst this
    refine ⟨_, rfl, wpAny_letOwnedTupleGo_enum (s := { s with heap := h', toks := tk + 1 }) ho fun h2 he2 sb => ?_⟩
    have T2 : h2.get? s.heap.objs.size = some { cls := .type "tuple", data := .seq #[.int i tk, u'] } := (sb.2 _ (Nat.ne_of_gt el)).trans hT
    have ok : ObjOk X.prog X.w (upd H s.heap.objs.size (.tup [.int (i : Nat), xs[i]])) h2 s.heap.objs.size (.tup [.int (i : Nat), xs[i]]) :=
      ⟨(by show 2 ≤ sizeLine; decide), [_, _], .cons ⟨tk, rfl⟩ (.cons ru .nil), ⟨_, T2, rfl, _, rfl⟩⟩
    have J := I.turnedNew (t' := tk + 1) (ch := [e, it]) (h' := h2) (fun b ob nb q => (sb.2 b fun z => nb (by simp [z])).trans
      (kp b ob (fun z => nb (by simp [z])) (fun z => nb (by simp [z])) q)) hf (Nat.le_refl _) ok
    refine ⟨.ref s.heap.objs.size, _, J, rfl, ⟨_, xs[i], rfl, I.hok.fresh (Nat.le_refl _), rfl, hx⟩, ⟨⟨u', ?_⟩, hit'.at fun o q => (sb.2 it (Ne.symm hne)).trans q, hne, hna, hnb⟩, fun b hb => ?_⟩
    · rw [show ((i + 1 : Nat) : Int) = (i : Int) + 1 by omega]
      exact he2
    · have lb : b < s.heap.objs.size := by
        have e' : b = e ∨ b = it := by simpa using hb
        rcases e' with rfl | rfl
        · exact el
        · exact il
      rw [upd_ne (Nat.ne_of_lt lb)]
      exact (hf b hb).1
  done := by
    intro X hP hw hK hc i pins s σ H E I hf st hg
    subst hP hw hK
    obtain ⟨⟨old, he⟩, hit, hne, hna, hnb⟩ := st
    obtain ⟨hq, rfl⟩ := hg
    obtain ⟨its, rv, p⟩ := sqT_inj I hq
    have hl := rv.length
    have hh : X.A.in1.handled = none := I.ok.hd hc
    have ez : its.toArray.size = xs.length := by simp [hl]
    obtain ⟨f0, f1, f2, f3, f4, f5⟩ := hf it (by simp)
    refine wpAny_pyNext_enum_endD (Draws.tuple hh it a hna its.toArray) he (by rw [ez]; exact ⟨hit, p⟩) fun h' eb => ?_
    exact ⟨rfl, I.turned (t' := s.toks) (fun b o nb q => eb b o nb q) f0 f1 f3 f4 f5⟩
  self := fun A i s Q E st h => let ⟨⟨_, he⟩, _⟩ := st; wpAny_pyIter_enum he h
def iEnumT (K : PySem.W.Frag) (ta : TA) : TI := fun σ H R => ta σ H fun vs H1 => ∃ a xs, vs = [.ref a] ∧ SqT K H1 a xs ∧ R (IteT K a xs) H1
theorem pi_enumT {X : Cx} {e : Expr} {ta : TA} {p pos tpos : Pos} {elts : List Expr} {kk : Nat} (hg : Gl X "enumerate") (hm : X.mg "enumerate" = none) (ha : PA X [e] ta)
    (hs : starEach [e] X.env = [(false, eval e X.env)] := by rfl) :
    PI X (.Tuple elts kk tpos) (.Call (.Name "enumerate" p) [e] [] pos) (iEnumT X.K ta) := by
  constructor
  intro pins s σ H R I h
  refine Call_ (ld_blt I hg hm boot_enumerate (PyProof.Rows.callWith_type1 (thn (ha.run pos pins s σ H _ I h) fun us s1 hu => ?_) hs rfl))
  obtain ⟨vs, H1, J, r, a, xs, rfl, hq, q⟩ := hu
  obtain ⟨u, rfl, ru⟩ := vals1 r
  cases ru
  obtain ⟨its, rv, pt⟩ := sqT_inj J hq
  refine fl_enum (begins_tuple a its.toArray) pt ?_
  intro h' he hit kp
  refine wpAny_pyIter_enum he ?_
  have J2 : Inv X pins σ H1 { s1 with heap := h' } := J.kept (t' := s1.toks) kp
  have la : a < s1.heap.objs.size := by
    obtain ⟨_, q, _⟩ := pt
    exact Heap.lt_size q
  refine ⟨_, _, _, IteT X.K a xs, H1, rfl, J2, turn_enumT a (s1.heap.objs.size + 1) s1.heap.objs.size xs,
    ⟨⟨.none, he⟩, ⟨_, hit, rfl, rfl⟩, Nat.succ_ne_self _, Nat.ne_of_lt la, Nat.ne_of_lt (Nat.lt_succ_of_lt la)⟩, fun b hb => ?_, q⟩
  have e' : b = s1.heap.objs.size + 1 ∨ b = s1.heap.objs.size := by simpa using hb
  have hle : s1.heap.objs.size ≤ b := by
    rcases e' with z | z <;> rw [z]
    · exact Nat.le_add_right _ _
    · exact Nat.le_refl _
  exact J.fpOk hle (J.hok.fresh hle)
/-- either, by one rule -/
def IteS (K : PySem.W.Frag) (a : Addr) (xs : List V) (t : Bool) : It := if t then IteT K a xs else Ite K a
def SqX (K : PySem.W.Frag) (H : Hp) (a : Addr) (xs : List V) (t : Bool) : Prop := if t = true then SqT K H a xs else SqL K H a xs
def iEnumX (K : PySem.W.Frag) (t : Bool) (ta : TA) : TI := fun σ H R => ta σ H fun vs H1 => ∃ a xs, vs = [.ref a] ∧ SqX K H1 a xs t ∧ R (IteS K a xs t) H1
theorem pi_enumX {X : Cx} {e : Expr} {ta : TA} {p pos tpos : Pos} {elts : List Expr} {kk : Nat} (t : Bool) (hg : Gl X "enumerate") (hm : X.mg "enumerate" = none) (ha : PA X [e] ta)
    (hs : starEach [e] X.env = [(false, eval e X.env)] := by rfl) :
    PI X (.Tuple elts kk tpos) (.Call (.Name "enumerate" p) [e] [] pos) (iEnumX X.K t ta) := by
  cases t with
  | true => exact pi_enumT hg hm ha hs
  | false => exact pi_enum hg hm ha hs
theorem SqX.kept {K : PySem.W.Frag} {H H' : Hp} {a : Addr} {xs : List V} {t : Bool} (h : SqX K H a xs t) (s : ∀ o, H a = some o → H' a = some o) : SqX K H' a xs t := by
  cases t with
  | true =>
    have h' : SqT K H a xs := h
    show SqT K H' a xs
    rcases h' with (h | ⟨o, h⟩) | h
    · exact .inl (.inl (s _ h))
    · exact .inl (.inr ⟨o, s _ h⟩)
    · exact .inr h
  | false =>
    have h' : SqL K H a xs := h
    show SqL K H' a xs
    rcases h' with (h | ⟨o, h⟩) | h
    · exact .inl (.inl (s _ h))
    · exact .inl (.inr ⟨o, s _ h⟩)
    · exact .inr h
theorem walk_enumT {K : PySem.W.Frag} {a : Addr} {xs : List V} : Walk (IteT K a xs) xs.length (fun H => SqT K H a xs) (YPair (fun i => some (.int (i : Nat))) (fun i => xs[i]?)) :=
  ⟨fun i H hi h => ⟨h, hi⟩, fun H h => ⟨h, rfl⟩, fun i H x H' hi h y => by
    obtain ⟨T, v, rfl, hT, rfl, e⟩ := y
    exact ⟨T, _, _, rfl, hT, rfl, rfl, e⟩⟩
theorem walk_enumX {K : PySem.W.Frag} {a : Addr} {xs : List V} {t : Bool} : Walk (IteS K a xs t) xs.length (fun H => SqX K H a xs t) (YPair (fun i => some (.int (i : Nat))) (fun i => xs[i]?)) := by
  cases t with
  | true => exact walk_enumT
  | false => exact walk_enum
/-- rules as they are passed: a list or a tuple, tracked -/
def RuArg (H : Hp) (v : V) (rs : List Rule) : Prop := ∃ (a : Addr) (xs : List V) (t : Bool), v = .ref a ∧ H a = some (if t then .tup xs else .lst xs) ∧ RulesAt H xs rs
theorem RuArg.any {H : Hp} {v : V} {rs : List Rule} (h : RuArg H v rs) : ∃ n, Any H v n ∧ (n == "list" || n == "tuple") = true := by
  obtain ⟨a, xs, t, rfl, e, _⟩ := h
  cases t with
  | true => exact ⟨"tuple", .tup e, rfl⟩
  | false => exact ⟨"list", .lst e, rfl⟩
theorem sqX_of {K : PySem.W.Frag} {H : Hp} {a : Addr} {xs : List V} {t : Bool} (e : H a = some (if t then .tup xs else .lst xs)) : SqX K H a xs t := by
  cases t with
  | true => exact SqT.of e
  | false => exact SqL.of e
theorem Same.rules {H H' : Hp} {xs : List V} {rs : List Rule} (s : Same H H') (h : RulesAt H xs rs) : RulesAt H' xs rs := RulesAt.imp h fun t a e => s t _ e
def spCheckRules : Sp := fun vs H Q _ => ∃ (z : Str) (v : V) (rs : List Rule), vs = [.str z, v] ∧ RuArg H v rs ∧ (∀ r ∈ rs, RuleOk z 40 r) ∧ ∀ H', Same H H' → Q .non H'
end FL
namespace FL
open PySem PySem.Spec PyProof.Rows L2
def ItX (K : PySem.W.Frag) (a : Addr) (t : Bool) : It := if t then Itt K a else Itl K a
def iSeqX (K : PySem.W.Frag) (t : Bool) (tl : TE) : TI := fun σ H R => tl σ H fun x H1 => ∃ a, x = .ref a ∧ (∃ xs, SqX K H1 a xs t) ∧ R (ItX K a t) H1
theorem pi_seqX {X : Cx} {tg l : Expr} {tl : TE} (t : Bool) (hl : PE X l tl) : PI X tg l (iSeqX X.K t tl) := by
  cases t with
  | true => exact pi_tup hl
  | false => exact pi_list hl
theorem walk_seqX {K : PySem.W.Frag} {a : Addr} {xs : List V} {t : Bool} : Walk (ItX K a t) xs.length (fun H => SqX K H a xs t) (YAt xs) := by
  cases t with
  | true => exact walk_tup
  | false => exact walk_list
theorem lenX {K : PySem.W.Frag} {H : Hp} {a : Addr} {xs : List V} {t : Bool} (h : SqX K H a xs t) : LenV K (.ref a) H xs.length := by
  cases t with
  | true => exact .inr ⟨_, h, rfl⟩
  | false => exact .inl ⟨_, h, rfl⟩
/-! ### a relay as it stands -/
def flds (z : Str) (ra ia : Addr) : List (Str × V) := putF "_index" (.ref ia) (putF "_rules" (.ref ra) (putF "_signs" (.str z) []))
theorem fn1 : ¬ ((Str.ofString "_rules") = Str.ofString "_index") := by decide +kernel
theorem fn2 : ¬ ((Str.ofString "_signs") = Str.ofString "_index") := by decide +kernel
theorem fn3 : ¬ ((Str.ofString "_signs") = Str.ofString "_rules") := by decide +kernel
theorem two_len (z : Str) (ra : Addr) : (putF "_rules" (.ref ra) (putF "_signs" (.str z) [])).length < 1000 := by
  show (if Str.ofString "_signs" = Str.ofString "_rules" then [(Str.ofString "_signs", V.ref ra)] else (Str.ofString "_signs", V.str z) :: putF (Str.ofString "_rules") (.ref ra) []).length < 1000
  rw [if_neg fn3]
  show 2 < 1000
  decide
theorem flds_signs (z : Str) (ra ia : Addr) : (flds z ra ia).lookup (Str.ofString "_signs") = some (.str z) := by
  unfold flds
  rw [lookup_putF, if_neg fn2, lookup_putF, if_neg fn3, lookup_putF, if_pos rfl]
theorem flds_rules (z : Str) (ra ia : Addr) : (flds z ra ia).lookup (Str.ofString "_rules") = some (.ref ra) := by
  unfold flds
  rw [lookup_putF, if_neg fn1, lookup_putF, if_pos rfl]
theorem flds_index (z : Str) (ra ia : Addr) : (flds z ra ia).lookup (Str.ofString "_index") = some (.ref ia) := by
  unfold flds
  rw [lookup_putF, if_pos rfl]
theorem flds_no (z : Str) (ra ia : Addr) {m : Str} (h1 : ¬ m = Str.ofString "_index") (h2 : ¬ m = Str.ofString "_rules") (h3 : ¬ m = Str.ofString "_signs") : (flds z ra ia).lookup m = none := by
  unfold flds
  rw [lookup_putF, if_neg h1, lookup_putF, if_neg h2, lookup_putF, if_neg h3]
  rfl
end FL
namespace FL
open PySem PySem.Spec PyProof.Rows L2
/-! ### the index of rules -/
def ky (fr : Bool) (old : Str) : List Key := [Sum.inr (kd fr), Sum.inr old]
theorem ky_inj {f f' : Bool} {o o' : Str} (h : ky f o = ky f' o') : f = f' ∧ o = o' := by
  unfold ky at h
  injection h with h1 h2
  injection h2 with h3 _
  have e1 : kd f = kd f' := Sum.inr.inj h1
  refine ⟨?_, Sum.inr.inj h3⟩
  cases f <;> cases f' <;> first | rfl | exact absurd e1 kd_ne | exact absurd e1.symm kd_ne
def Is (r : Rule) (fr : Bool) (old : Str) : Prop := r.fr = fr ∧ r.old = old
def IdxOk (H : Hp) (kvs : List (List Key × V)) (rs : List Rule) : Prop := (∀ kv ∈ kvs, ∃ (fr : Bool) (old : Str), kv.1 = ky fr old) ∧ ∀ (fr : Bool) (old : Str),
  (valV kvs (ky fr old) = none ∧ ∀ r ∈ rs, ¬ Is r fr old) ∨
  (∃ (i : Nat) (t : Addr) (new : Str), valV kvs (ky fr old) = some (.ref t) ∧ H t = some (.tup [.int (i : Nat), .str new]) ∧ rs[i]? = some ⟨fr, old, new⟩
    ∧ ∀ (j : Nat) (r : Rule), j < i → rs[j]? = some r → ¬ Is r fr old)
theorem IdxOk.imp {H H' : Hp} {kvs : List (List Key × V)} {rs : List Rule} (h : IdxOk H kvs rs) (s : ∀ t a, H t = some (.tup a) → H' t = some (.tup a)) : IdxOk H' kvs rs := ⟨h.1, fun fr old => by
  rcases h.2 fr old with h | ⟨i, t, new, h1, h2, h3⟩
  · exact .inl h
  · exact .inr ⟨i, t, new, h1, s _ _ h2, h3⟩⟩
theorem IdxOk.nil {H : Hp} : IdxOk H [] [] := ⟨fun _ h => (nomatch h), fun fr old => .inl ⟨rfl, fun _ h => nomatch h⟩⟩
theorem get_snoc_lt {α : Type} {l : List α} {x : α} {i : Nat} {y : α} (h : l[i]? = some y) : (l ++ [x])[i]? = some y := by
  rw [List.getElem?_append_left (List.getElem?_eq_some_iff.mp h).1]
  exact h
theorem IdxOk.skip {H : Hp} {kvs : List (List Key × V)} {rs : List Rule} {r : Rule} (h : IdxOk H kvs rs) (hv : valV kvs (ky r.fr r.old) ≠ none) : IdxOk H kvs (rs ++ [r]) := ⟨h.1, fun fr old => by
  rcases h.2 fr old with ⟨h1, h2⟩ | ⟨i, t, new, h1, h2, h3, h4⟩
  · refine .inl ⟨h1, fun r' hr' => ?_⟩
    rcases List.mem_append.mp hr' with q | q
    · exact h2 r' q
    · rw [List.mem_singleton.mp q]
      rintro ⟨rfl, rfl⟩
      exact hv h1
  · refine .inr ⟨i, t, new, h1, h2, get_snoc_lt h3, fun j r' hj hr' => ?_⟩
    have hi := (List.getElem?_eq_some_iff.mp h3).1
    rw [List.getElem?_append_left (by omega)] at hr'
    exact h4 j r' hj hr'⟩
theorem valV_put {kvs : List (List Key × V)} {k k' : List Key} {v : V} (h : valV kvs k = none) : valV (kvs ++ [(k, v)]) k' = if k = k' then some v else valV kvs k' := by
  induction kvs with
  | nil =>
    by_cases e : k = k'
    · rw [if_pos e]
      exact valV_pos e
    · rw [if_neg e]
      exact valV_neg e
  | cons p r ih =>
    have hp : ¬ p.1 = k := fun e => by
      rw [valV_pos e] at h
      cases h
    rw [valV_neg hp] at h
    show valV (p :: (r ++ [(k, v)])) k' = _
    by_cases e : p.1 = k'
    · rw [valV_pos e, valV_pos e, if_neg]
      intro q
      exact hp (e.trans q.symm)
    · rw [valV_neg e, valV_neg e, ih h]
theorem IdxOk.put {H H' : Hp} {kvs : List (List Key × V)} {rs : List Rule} {r : Rule} {t : Addr} (h : IdxOk H kvs rs) (hv : valV kvs (ky r.fr r.old) = none)
    (s : ∀ t a, H t = some (.tup a) → H' t = some (.tup a)) (ht : H' t = some (.tup [.int (rs.length : Nat), .str r.new])) : IdxOk H' (putK kvs (ky r.fr r.old) (.ref t)) (rs ++ [r]) := ⟨fun kv hkv => by
  rw [putK_new _ hv] at hkv
  rcases List.mem_append.mp hkv with q | q
  · exact h.1 kv q
  · rw [List.mem_singleton.mp q]
    exact ⟨_, _, rfl⟩, fun fr old => by
  rw [putK_new _ hv, valV_put hv]
  by_cases e : ky r.fr r.old = ky fr old
  · rw [if_pos e]
    obtain ⟨e1, e2⟩ := ky_inj e
    refine .inr ⟨rs.length, t, r.new, rfl, ht, ?_, fun j r' hj hr' => ?_⟩
    · rw [List.getElem?_append_right (Nat.le_refl _), Nat.sub_self]
      subst e1
      subst e2
      rfl
    · rw [List.getElem?_append_left hj] at hr'
      rcases h.2 fr old with ⟨_, h2⟩ | ⟨i, t', new, h1, _⟩
      · exact h2 r' (List.mem_of_getElem? hr')
      · rw [← e, hv] at h1
        cases h1
  · rw [if_neg e]
    have := (h.imp s).2 fr old
    rcases this with ⟨h1, h2⟩ | ⟨i, t', new, h1, h2, h3, h4⟩
    · refine .inl ⟨h1, fun r' hr' => ?_⟩
      rcases List.mem_append.mp hr' with q | q
      · exact h2 r' q
      · rw [List.mem_singleton.mp q]
        rintro ⟨rfl, rfl⟩
        exact e rfl
    · refine .inr ⟨i, t', new, h1, h2, get_snoc_lt h3, fun j r' hj hr' => ?_⟩
      have hi := (List.getElem?_eq_some_iff.mp h3).1
      rw [List.getElem?_append_left (by omega)] at hr'
      exact h4 j r' hj hr'⟩
theorem put_len {kvs : List (List Key × V)} {k : List Key} {v : V} (h : valV kvs k = none) : (putK kvs k v).length = kvs.length + 1 := by
  rw [putK_new _ h, List.length_append]
  rfl
def IdxAt (H : Hp) (d : Addr) (rs : List Rule) : Prop := ∃ kvs, H d = some (.dT kvs) ∧ kvs.length ≤ rs.length ∧ IdxOk H kvs rs
def spIndex : Sp := fun vs H Q _ => ∃ (v : V) (rs : List Rule), vs = [v] ∧ RuArg H v rs ∧ rs.length ≤ 10000 ∧
  ∀ (d : Addr) (H' : Hp), H d = none → IdxAt H' d rs → Same H H' → Q (.ref d) H'
end FL
namespace FL
open PySem PySem.Spec PyProof.Rows L2
/-! ### min of a list of pairs (int, text) -/
abbrev Pr := Int × Str
def pairD (q : Pr) : PyData := .tuple [.int q.1, .str q.2]
def PairAt (H : Hp) (v : V) (q : Pr) : Prop := ∃ t, v = .ref t ∧ H t = some (.tup [.int q.1, .str q.2])
theorem lt_pair {q r : Pr} (h : q.1 ≠ r.1) : PySem.W.dataLt (pairD q) (pairD r) = decide (q.1 < r.1) := by
  have e : PySem.W.dataLt (pairD q) (pairD r) = PySem.W.dataLt (.int q.1) (.int r.1) := by
    show PyProof.Rows.lexLt PyProof.Rows.itemOrd (Sum.inl q.1 :: [Sum.inr q.2.cps.toList]) (Sum.inl r.1 :: [Sum.inr r.2.cps.toList]) = PyProof.Rows.lexLt PyProof.Rows.itemOrd [Sum.inl q.1] [Sum.inl r.1]
    exact PySem.W.lex_atom (fun e => h (Sum.inl.inj e)) _ _
  rw [e, PySem.W.dataLt_int]
theorem minD_pair : ∀ (qs : List Pr) (q : Pr), ∃ r, r ∈ q :: qs ∧ PySem.W.minD (pairD q) (qs.map pairD) = pairD r ∧ ∀ p ∈ q :: qs, r.1 ≤ p.1
  | [], q => ⟨q, List.mem_cons_self, rfl, fun p hp => by rw [List.mem_singleton.mp hp]; exact Int.le_refl _⟩
  | p :: qs, q => by
    have step : PySem.W.minD (pairD q) ((p :: qs).map pairD) = PySem.W.minD (if PySem.W.dataLt (pairD p) (pairD q) then pairD p else pairD q) (qs.map pairD) := rfl
    rw [step]
    by_cases hb : PySem.W.dataLt (pairD p) (pairD q) = true
    · rw [if_pos hb]
      obtain ⟨r, hr, e, m⟩ := minD_pair qs p
      refine ⟨r, List.mem_cons_of_mem _ hr, e, fun x hx => ?_⟩
      rcases List.mem_cons.mp hx with rfl | hx
      · have hp := m p List.mem_cons_self
        by_cases hne : p.1 = x.1
        · omega
        · rw [lt_pair hne] at hb
          have := of_decide_eq_true hb
          omega
      · exact m x hx
    · rw [if_neg hb]
      obtain ⟨r, hr, e, m⟩ := minD_pair qs q
      refine ⟨r, ?_, e, fun x hx => ?_⟩
      · rcases List.mem_cons.mp hr with rfl | h
        · exact List.mem_cons_self
        · exact List.mem_cons_of_mem _ (List.mem_cons_of_mem _ h)
      · rcases List.mem_cons.mp hx with rfl | hx
        · exact m x List.mem_cons_self
        · rcases List.mem_cons.mp hx with rfl | hx
          · have hq := m q List.mem_cons_self
            by_cases hne : x.1 = q.1
            · omega
            · rw [lt_pair hne] at hb
              have : q.1 ≤ x.1 := by simpa using hb
              omega
          · exact m x (List.mem_cons_of_mem _ hx)
theorem dp_pairs {K : PySem.W.Frag} {H : Hp} : ∀ {xs : List V} {qs : List Pr}, Paired (PairAt H) xs qs → DpAll K H xs (qs.map pairD)
  | _, _, .nil => .nil
  | _, _, .cons ⟨t, e, h⟩ b => .cons (by rw [e]; exact .tup (SqT.of h) (.cons (.int _) (.cons (.str _) .nil))) (dp_pairs b)
theorem depth_pairs : ∀ qs : List Pr, PyData.depthAll (qs.map pairD) ≤ 1
  | [] => Nat.zero_le _
  | q :: qs => by
    show max (pairD q).depth (PyData.depthAll (qs.map pairD)) ≤ 1
    have := depth_pairs qs
    have e : (pairD q).depth = 1 := rfl
    omega
section
variable {X : Cx}
theorem call_minP (hc : X.calm = true) (hu : X.A.units + 64 < cLine) : CallR X (.builtin "min") (fun vs H Q => ∃ (a : Addr) (xs : List V) (qs : List Pr), vs = [.ref a] ∧ SqL X.K H a xs
    ∧ Paired (PairAt H) xs qs ∧ qs ≠ [] ∧ ∀ (v : V) (q : Pr), q ∈ qs → PairAt H v q → (∀ r ∈ qs, q.1 ≤ r.1) → Q v H) := by
  intro pins s σ H vs us Q I r h
  obtain ⟨a, xs, qs, rfl, hs, hp, ne, q⟩ := h
  obtain ⟨its, rv, hl, _⟩ := I.list hs
  rw [Vals.ref1 r]
  obtain ⟨as, rd⟩ := Dp.readsAll I (qs.map pairD) xs its (dp_pairs hp) rv
  cases qs with
  | nil => exact absurd rfl ne
  | cons p qs =>
    refine PySem.W.min_list_data (I.ok.hd hc) hl.isList (vs := its.toArray) (x := pairD p) (xs := qs.map pairD) (by simpa using rd) ?_ ?_ ?_
    · refine ⟨fun x hx y hy => ?_, fun x hx e => ?_⟩
      · have e1 : ∃ q, x = pairD q := by
          rcases List.mem_cons.mp hx with rfl | hx
          · exact ⟨p, rfl⟩
          · obtain ⟨q, _, e⟩ := List.mem_map.mp hx
            exact ⟨q, e.symm⟩
        have e2 : ∃ q, y = pairD q := by
          rcases List.mem_cons.mp hy with rfl | hy
          · exact ⟨p, rfl⟩
          · obtain ⟨q, _, e⟩ := List.mem_map.mp hy
            exact ⟨q, e.symm⟩
        obtain ⟨q1, rfl⟩ := e1
        obtain ⟨q2, rfl⟩ := e2
        rfl
      · subst e
        rcases List.mem_cons.mp hx with e | hx
        · cases e
        · obtain ⟨q, _, e⟩ := List.mem_map.mp hx
          cases e
    · have := depth_pairs (p :: qs)
      have e : PyData.depthAll (pairD p :: qs.map pairD) ≤ 1 := this
      omega
    · intro i v h' tk bs hv hrd kp
      obtain ⟨m, hm, em, hmin⟩ := minD_pair qs p
      rw [em] at hrd
      have hv' : its[i]? = some v := by simpa using hv
      have hi : i < its.length := (List.getElem?_eq_some_iff.mp hv').1
      have hxi : i < xs.length := by rw [rv.length]; exact hi
      obtain ⟨u, hu', ru⟩ := rv.get (List.getElem?_eq_getElem hxi)
      rw [hv'] at hu'
      obtain rfl : v = u := Option.some.inj hu'
      obtain ⟨qi, hqi, t, et, ht⟩ := L2.paired_get hp (List.getElem?_eq_getElem hxi)
      have I' : Inv X pins σ H { s with heap := h', toks := tk } := I.kept kp
      obtain ⟨as', rd2⟩ := Dp.reads I' (pairD qi) xs[i] v (by rw [et]; exact .tup (SqT.of ht) (.cons (.int _) (.cons (.str _) .nil))) ru
      have eq : pairD qi = pairD m := (Reads.unique rd2 _ _ hrd).1
      have e1 : qi = m := by
        have h1 : [PyData.int qi.1, PyData.str qi.2] = [PyData.int m.1, PyData.str m.2] := PyData.tuple.inj eq
        injection h1 with h2 h3
        injection h3 with h4 _
        exact Prod.ext (PyData.int.inj h2) (PyData.str.inj h4)
      subst e1
      exact ⟨xs[i], H, I', ru, q xs[i] qi hm ⟨t, et, ht⟩ hmin⟩
end
end FL
namespace FL
open PySem PySem.Spec PyProof.Rows L2
/-! ### the first rule that fits, by the index -/
theorem cut_pre_len (y : Str) (i : Nat) (h : i ≤ y.length) : (cutS y none (some (i : Int))).length = i := by
  rw [str_len]
  show ((y.cps.toList.drop (HT.sIx y.length 0 none)).take (HT.sIx y.length y.length (some (i : Int)) - HT.sIx y.length 0 none)).toArray.toList.length = i
  rw [HT.sIx_nat, HT.sIx_none]
  show ((y.cps.toList.drop 0).take (min i y.length - 0)).length = i
  rw [List.drop_zero, List.length_take, ← str_len]
  omega
theorem cut_le (y : Str) (i : Nat) : (cutS y none (some (i : Int))).length ≤ y.length := cutS_length y _ _
theorem turn_no : ∀ {rs : List Rule} {y : Str}, (∀ r ∈ rs, fits r y = false) → turn rs y = y
  | [], _, _ => rfl
  | r :: rs, y, h => by
    show (if fits r y = true then _ else turn rs y) = y
    rw [h r List.mem_cons_self, if_neg Bool.false_ne_true]
    exact turn_no fun r' hr' => h r' (List.mem_cons_of_mem _ hr')
theorem turn_at : ∀ {rs : List Rule} {y : Str} {i : Nat} {r : Rule}, rs[i]? = some r → fits r y = true → (∀ j r', j < i → rs[j]? = some r' → fits r' y = false) → turn rs y = turnR r y
  | [], _, _, _, h, _, _ => by simp at h
  | r0 :: rs, y, 0, r, h, hf, _ => by
    obtain rfl : r0 = r := by simpa using h
    show (if fits r0 y = true then _ else _) = _
    rw [if_pos hf]
  | r0 :: rs, y, i + 1, r, h, hf, hn => by
    show (if fits r0 y = true then _ else turn rs y) = _
    rw [hn 0 r0 (Nat.succ_pos _) rfl, if_neg Bool.false_ne_true]
    exact turn_at (i := i) (by simpa using h) hf fun j r' hj hr' => hn (j + 1) r' (by omega) (by simpa using hr')
def Ent (rs : List Rule) (y : Str) (q : Pr) : Prop := ∃ (i : Nat) (r : Rule), q.1 = (i : Int) ∧ rs[i]? = some r ∧ fits r y = true ∧ q.2 = turnR r y
/-- the rule at i is the first one with its key -/
def FirstKey (rs : List Rule) (i : Nat) (r : Rule) : Prop := rs[i]? = some r ∧ ∀ (j : Nat) (r' : Rule), j < i → rs[j]? = some r' → ¬ Is r' r.fr r.old
structure Found (rs : List Rule) (y : Str) (qs : List Pr) (n : Nat) : Prop where
  snd : ∀ q ∈ qs, Ent rs y q
  whl : ∀ i r, FirstKey rs i r → r.fr = false → r.old = y → ∃ q ∈ qs, q.1 = (i : Int)
  frt : ∀ i r, FirstKey rs i r → r.fr = true → fits r y = true → r.old.length < n → ∃ q ∈ qs, q.1 = (i : Int)
theorem fits_same {r r' : Rule} {y : Str} (h : Is r' r.fr r.old) : fits r' y = fits r y := by
  obtain ⟨f, o, n⟩ := r
  obtain ⟨f', o', n'⟩ := r'
  obtain ⟨h1, h2⟩ := h
  dsimp only at h1 h2
  subst h1
  subst h2
  rfl
theorem first_fit {rs : List Rule} {y : Str} {i : Nat} {r : Rule} (h : rs[i]? = some r) (hf : fits r y = true) (hn : ∀ j r', j < i → rs[j]? = some r' → fits r' y = false) : FirstKey rs i r :=
  ⟨h, fun j r' hj hr' his => by
    have := hn j r' hj hr'
    rw [fits_same his, hf] at this
    cases this⟩
theorem exists_first {rs : List Rule} {y : Str} : (∀ r ∈ rs, fits r y = false) ∨ ∃ (i : Nat) (r : Rule), rs[i]? = some r ∧ fits r y = true ∧ ∀ (j : Nat) (r' : Rule), j < i → rs[j]? = some r' → fits r' y = false := by
  induction rs with
  | nil => exact .inl fun _ h => nomatch h
  | cons r rs ih =>
    cases hf : fits r y with
    | true => exact .inr ⟨0, r, rfl, hf, fun j _ hj => absurd hj (Nat.not_lt_zero j)⟩
    | false =>
      rcases ih with h | ⟨i, r', h1, h2, h3⟩
      · refine .inl fun r' hr' => ?_
        rcases List.mem_cons.mp hr' with rfl | h'
        · exact hf
        · exact h r' h'
      · refine .inr ⟨i + 1, r', by simpa using h1, h2, fun j r2 hj hr2 => ?_⟩
        cases j with
        | zero =>
          obtain rfl : r = r2 := by simpa using hr2
          exact hf
        | succ j => exact h3 j r2 (by omega) (by simpa using hr2)
theorem fits_short {r : Rule} {y : Str} (hf : fits r y = true) (h : r.fr = true) : r.old.length ≤ y.length ∧ cutS y none (some (r.old.length : Int)) = r.old := by
  obtain ⟨f, o, n⟩ := r
  dsimp only at h
  subst h
  have e : cutS y none (some (o.length : Int)) = o := of_decide_eq_true hf
  refine ⟨?_, e⟩
  have := cut_le y o.length
  rw [e] at this
  exact this
theorem Found.turn {rs : List Rule} {y : Str} {qs : List Pr} {n : Nat} (h : Found rs y qs n) (hn : ∀ r ∈ rs, r.fr = true → fits r y = true → r.old.length < n) :
    (qs = [] → turn rs y = y) ∧ ∀ q ∈ qs, (∀ p ∈ qs, q.1 ≤ p.1) → turn rs y = q.2 := by
  have has : ∀ (i : Nat) (r : Rule), rs[i]? = some r → fits r y = true → (∀ (j : Nat) (r' : Rule), j < i → rs[j]? = some r' → fits r' y = false) → ∃ q ∈ qs, q.1 = (i : Int) := by
    intro i r h1 h2 h3
    have fk := first_fit h1 h2 h3
    cases hfr : r.fr with
    | true => exact h.frt i r fk hfr h2 (hn r (List.mem_of_getElem? h1) hfr h2)
    | false =>
      refine h.whl i r fk hfr ?_
      obtain ⟨f, o, nw⟩ := r
      dsimp only at hfr
      subst hfr
      have e : y = o := of_decide_eq_true h2
      exact e.symm
  rcases exists_first (rs := rs) (y := y) with hno | ⟨i, r, h1, h2, h3⟩
  · refine ⟨fun _ => turn_no hno, fun q hq _ => ?_⟩
    obtain ⟨j, r, _, e2, e3, _⟩ := h.snd q hq
    rw [hno r (List.mem_of_getElem? e2)] at e3
    cases e3
  · obtain ⟨q0, m0, e0⟩ := has i r h1 h2 h3
    refine ⟨fun e => ?_, fun q hq hmin => ?_⟩
    · rw [e] at m0
      cases m0
    · obtain ⟨j, r', e1, e2, e3, e4⟩ := h.snd q hq
      have hle := hmin q0 m0
      have hij : ¬ j < i := fun hj => by
        rw [h3 j r' hj e2] at e3
        cases e3
      have : j = i := by omega
      subst this
      rw [h1] at e2
      obtain rfl : r = r' := Option.some.inj e2
      rw [turn_at h1 h2 h3, e4]
theorem Found.start {rs : List Rule} {y : Str} {H : Hp} {kvs : List (List Key × V)} (ix : IdxOk H kvs rs) :
    (valV kvs (ky false y) = none ∧ Found rs y [] 0) ∨ (∃ (i : Nat) (t : Addr) (new : Str), valV kvs (ky false y) = some (.ref t) ∧ H t = some (.tup [.int (i : Nat), .str new]) ∧ Found rs y [((i : Int), new)] 0) := by
  rcases ix.2 false y with ⟨h1, h2⟩ | ⟨i, t, new, h1, h2, h3, h4⟩
  · refine .inl ⟨h1, (fun _ h => nomatch h), fun i r fk e1 e2 => ?_, fun _ _ _ _ _ h => absurd h (Nat.not_lt_zero _)⟩
    exact absurd ⟨e1, e2⟩ (h2 r (List.mem_of_getElem? fk.1))
  · refine .inr ⟨i, t, new, h1, h2, fun q hq => ?_, fun j r fk e1 e2 => ?_, fun _ _ _ _ _ h => absurd h (Nat.not_lt_zero _)⟩
    · rw [List.mem_singleton.mp hq]
      exact ⟨i, _, rfl, h3, decide_eq_true rfl, rfl⟩
    · refine ⟨_, List.mem_singleton.mpr rfl, ?_⟩
      have : ¬ j < i := fun hj => h4 j r hj fk.1 ⟨e1, e2⟩
      have : ¬ i < j := fun hj => fk.2 i _ hj h3 ⟨e1.symm, e2.symm⟩
      have : i = j := by omega
      rw [this]
theorem Found.next {rs : List Rule} {y : Str} {H : Hp} {kvs : List (List Key × V)} {qs : List Pr} {n : Nat} (ix : IdxOk H kvs rs) (h : Found rs y qs n) (hn : n ≤ y.length) :
    (valV kvs (ky true (cutS y none (some (n : Int)))) = none ∧ Found rs y qs (n + 1)) ∨ (∃ (i : Nat) (t : Addr) (new : Str), valV kvs (ky true (cutS y none (some (n : Int)))) = some (.ref t)
      ∧ H t = some (.tup [.int (i : Nat), .str new]) ∧ (∃ r ∈ rs, r.new = new) ∧ Found rs y (qs ++ [((i : Int), new ++ cutS y (some (n : Int)) none)]) (n + 1)) := by
  have hl := cut_pre_len y n hn
  have key : ∀ r : Rule, r.fr = true → fits r y = true → r.old.length < n + 1 → ¬ r.old.length < n → r.old = cutS y none (some (n : Int)) := fun r h1 h2 h3 h4 => by
    obtain ⟨_, e⟩ := fits_short h2 h1
    have : r.old.length = n := by omega
    rw [this] at e
    exact e.symm
  rcases ix.2 true (cutS y none (some (n : Int))) with ⟨h1, h2⟩ | ⟨i, t, new, h1, h2, h3, h4⟩
  · refine .inl ⟨h1, h.snd, h.whl, fun i r fk e1 e2 e3 => ?_⟩
    by_cases hlt : r.old.length < n
    · exact h.frt i r fk e1 e2 hlt
    · exact absurd ⟨e1, key r e1 e2 e3 hlt⟩ (h2 r (List.mem_of_getElem? fk.1))
  · refine .inr ⟨i, t, new, h1, h2, ⟨_, List.mem_of_getElem? h3, rfl⟩, fun q hq => ?_, fun j r fk e1 e2 => ?_, fun j r fk e1 e2 e3 => ?_⟩
    · rcases List.mem_append.mp hq with q' | q'
      · exact h.snd q q'
      · rw [List.mem_singleton.mp q']
        refine ⟨i, _, rfl, h3, ?_, ?_⟩
        · show decide (cutS y none (some ((cutS y none (some (n : Int))).length : Int)) = cutS y none (some (n : Int))) = true
          rw [hl]
          exact decide_eq_true rfl
        · show new ++ cutS y (some (n : Int)) none = new ++ cutS y (some ((cutS y none (some (n : Int))).length : Int)) none
          rw [hl]
    · obtain ⟨q, hq, e⟩ := h.whl j r fk e1 e2
      exact ⟨q, List.mem_append_left _ hq, e⟩
    · by_cases hlt : r.old.length < n
      · obtain ⟨q, hq, e⟩ := h.frt j r fk e1 e2 hlt
        exact ⟨q, List.mem_append_left _ hq, e⟩
      · have eo := key r e1 e2 e3 hlt
        refine ⟨_, List.mem_append_right _ (List.mem_singleton.mpr rfl), ?_⟩
        have : ¬ j < i := fun hj => h4 j r hj fk.1 ⟨e1, eo⟩
        have : ¬ i < j := fun hj => fk.2 i _ hj h3 ⟨e1.symm, eo.symm⟩
        have : i = j := by omega
        rw [this]
def spOnce : Sp := fun vs H Q _ => ∃ (d : Addr) (y : Str) (rs : List Rule), vs = [.ref d, .str y] ∧ IdxAt H d rs ∧ y.length ≤ 100000 ∧ (∀ r ∈ rs, r.old.length ≤ 40 ∧ r.new.length ≤ 1000) ∧
  ∀ H', Same H H' → Q (.str (FL.turn rs y)) H'
end FL
namespace FL
open PySem PySem.Spec PyProof.Rows L2
def RelayAt (C : Addr) (H : Hp) (p : Addr) (z : Str) (rs : List Rule) : Prop := ∃ (dx ra ia : Addr) (xs : List V), H p = some (.ins C dx (flds z ra ia)) ∧ H ra = some (.lst xs) ∧ RulesAt H xs rs ∧ IdxAt H ia rs
theorem RelayAt.same {C : Addr} {H H' : Hp} {p : Addr} {z : Str} {rs : List Rule} (h : RelayAt C H p z rs) (s : Same H H') : RelayAt C H' p z rs := by
  obtain ⟨dx, ra, ia, xs, h1, h2, h3, kvs, h4, h5, h6⟩ := h
  exact ⟨dx, ra, ia, xs, s _ _ h1, s _ _ h2, RulesAt.imp h3 fun t a e => s t _ e, kvs, s _ _ h4, h5, h6.imp fun t a e => s t _ e⟩
/-- its list of rules at ra -/
def RelayR (C : Addr) (H : Hp) (p : Addr) (z : Str) (rs : List Rule) (ra : Addr) : Prop := ∃ (dx ia : Addr) (xs : List V), H p = some (.ins C dx (flds z ra ia)) ∧ H ra = some (.lst xs) ∧ RulesAt H xs rs ∧ IdxAt H ia rs
theorem RelayR.at_ {C : Addr} {H : Hp} {p : Addr} {z : Str} {rs : List Rule} {ra : Addr} (h : RelayR C H p z rs ra) : RelayAt C H p z rs := by
  obtain ⟨dx, ia, xs, h1, h2, h3, h4⟩ := h
  exact ⟨dx, ra, ia, xs, h1, h2, h3, h4⟩
/-- another list is changed -/
theorem RelayR.updL {C : Addr} {H : Hp} {p L : Addr} {z : Str} {rs : List Rule} {ra : Addr} {vs ws : List V} (h : RelayR C H p z rs ra) (hL : H L = some (.lst vs)) (n : ra ≠ L) : RelayR C (upd H L (.lst ws)) p z rs ra := by
  obtain ⟨dx, ia, xs, h1, h2, h3, kvs, h4, h5, h6⟩ := h
  have tp : ∀ t b, H t = some (.tup b) → upd H L (.lst ws) t = some (.tup b) := fun t b e => by
    rw [upd_ne (ne_of e hL (by intro q; cases q))]
    exact e
  exact ⟨dx, ia, xs, by rw [upd_ne (ne_of h1 hL (by intro q; cases q))]; exact h1, by rw [upd_ne n]; exact h2, RulesAt.imp h3 tp, kvs, by rw [upd_ne (ne_of h4 hL (by intro q; cases q))]; exact h4, h5, h6.imp tp⟩
theorem RelayR.same {C : Addr} {H H' : Hp} {p : Addr} {z : Str} {rs : List Rule} {ra : Addr} (h : RelayR C H p z rs ra) (s : Same H H') : RelayR C H' p z rs ra := by
  obtain ⟨dx, ia, xs, h1, h2, h3, kvs, h4, h5, h6⟩ := h
  exact ⟨dx, ia, xs, s _ _ h1, s _ _ h2, RulesAt.imp h3 fun t a e => s t _ e, kvs, s _ _ h4, h5, h6.imp fun t a e => s t _ e⟩
/-- what is needed of the class Relay -/
structure RTxt (K : PySem.W.Frag) (mg : Str → Option Value) (C : Addr) : Prop where
  cl : Cls K C
  nS : NoAttr K C "_signs"
  nR : NoAttr K C "_rules"
  nI : NoAttr K C "_index"
  mgC : mg "Relay" = some (.ref C)
def spInit (C : Addr) : Sp := fun vs H Q _ => ∃ (p dx : Addr) (z : Str) (v : V) (rs : List Rule), vs = [.ref p, .str z, v] ∧ H p = some (.ins C dx []) ∧ Abc z ∧ RuArg H v rs ∧
  (∀ r ∈ rs, RuleOk z 40 r) ∧ rs.length ≤ 400 ∧ ∀ (H' : Hp) (ra : Addr), RelayR C H' p z rs ra → H ra = none → But p H H' → Q .non H'
end FL
namespace FL
open PySem PySem.Spec PyProof.Rows L2
/-! ### what the top left, told of defs at any address -/
def seenFn (K : PySem.W.Frag) (a : Addr) : He.FnV :=
  (K.lookup a).bind fun o => match o.data with
    | .func d => some (d.name, d.qualname, d.params, d.body, d.scope, d.globals, d.closure, d.defaults, d.builtins)
    | _ => none
def seenCode (K : PySem.W.Frag) (a : Addr) (q : Str) : Bool :=
  match K.lookup a with
  | some o => (match o.data with
    | .func d => PySem.W.codeIn K d.code q && PySem.W.keepIn K (.ref a)
    | _ => false)
  | none => false
/-- a def: where it is found, its names, its statement -/
structure DA where
  ad : PySem.W.Frag → Addr
  nm : Str
  qn : Str
  st : Stmt
def DA.due (d : DA) : He.FnV := some (d.nm, d.qn, defArgs d.st, .stmts (defBody d.st), defScope d.st, mainGlobals, [], .none, builtinsNs)
theorem DA.fn {K : PySem.W.Frag} {d : DA} (e : seenFn K (d.ad K) = d.due) (c : seenCode K (d.ad K) d.qn = true) : ∃ fd, Fun K d.nm d.qn d.st (d.ad K) fd := by
  unfold seenFn DA.due at e
  unfold seenCode at c
  cases q : K.lookup (d.ad K) with
  | none =>
    rw [q] at e
    cases e
  | some o =>
    obtain ⟨oc, od, dt, sl⟩ := o
    rw [q] at e c
    cases dt with
    | func z =>
      obtain ⟨z1, z2, z3, z4, z5, z6, z7, z8, z9, z10, z11, z12, z13, z14, z15⟩ := z
      simp only [Option.bind_some, Option.some.injEq, Prod.mk.injEq] at e
      obtain ⟨rfl, rfl, rfl, rfl, rfl, rfl, rfl, rfl, rfl⟩ := e
      obtain ⟨c1, c2⟩ := Bool.and_eq_true_iff.mp c
      exact ⟨_, fun_mk q c1 c2⟩
    | _ => cases e
def lookF (ds : List DA) (ex : PySem.W.Frag → Bool) (K : PySem.W.Frag) : Bool × List He.FnV :=
  (ex K && ds.all fun d => seenCode K (d.ad K) d.qn, ds.map fun d => seenFn K (d.ad K))
def dueF (ds : List DA) : Bool × List He.FnV := (true, ds.map DA.due)
def hookF (n : Nat) (ds : List DA) (ex : PySem.W.Frag → Bool) : PySem.W.Hook where
  α := Bool × List He.FnV
  obs := fun s => lookF ds ex (He.frG s.heap.get? (He.asD s.heap.get? n))
  val := fun _ => dueF ds
  says := fun _ h => ∃ K : PySem.W.Frag, K.In h ∧ lookF ds ex K = dueF ds
  of := fun _ _ e => ⟨_, He.frG_in, e⟩
  keeps := fun _ _ _ ⟨K, i, c⟩ k => ⟨K, PySem.W.Frag.In.keeps i k, c⟩
def obF (n : Nat) (ds : List DA) (ex : PySem.W.Frag → Bool) (g : Addr → Option Obj) : Bool × List He.FnV := lookF ds ex (He.frG g (He.asD g n))
theorem obF_eq {n : Nat} {ds : List DA} {ex : PySem.W.Frag → Bool} (s : PySem.W.SharedT) : obF n ds ex (HandSHeadRun.getT s) = (hookF n ds ex).obs s.abs := by
  have e : HandSHeadRun.getT s = s.abs.heap.get? := funext fun a => HandSHeadRun.getT_eq s a
  rw [e]
  rfl
theorem look_ex {ds : List DA} {ex : PySem.W.Frag → Bool} {K : PySem.W.Frag} (c : lookF ds ex K = dueF ds) : ex K = true :=
  (Bool.and_eq_true_iff.mp (congrArg Prod.fst c)).1
theorem look_fn {ds : List DA} {ex : PySem.W.Frag → Bool} {K : PySem.W.Frag} (c : lookF ds ex K = dueF ds) (i : Nat) {d : DA} (h : ds[i]? = some d) : ∃ fd, Fun K d.nm d.qn d.st (d.ad K) fd := by
  have c1 := (Bool.and_eq_true_iff.mp (congrArg Prod.fst c)).2
  have c2 : ds.map (fun d => seenFn K (d.ad K)) = ds.map DA.due := congrArg Prod.snd c
  have c3 : (ds.map fun d => seenFn K (d.ad K))[i]? = (ds.map DA.due)[i]? := by rw [c2]
  rw [List.getElem?_map, List.getElem?_map, h] at c3
  exact DA.fn (Option.some.inj c3) (List.all_eq_true.mp c1 d (List.mem_of_getElem? h))
end FL
namespace FL
open PySem PySem.Spec PyProof.Rows L2
/-! ### the end of a law whose promise wants that no repr is under way -/
/-- the script alone, locked, unless the module holds it -/
def onlyH (K : PySem.W.Frag) (a : Addr) (o : Obj) (ns : List Int) : Hp := fun b => if b = a ∧ K.lookup a = none then some (.frz o (.lst (ns.map V.int))) else none
theorem only_at {K : PySem.W.Frag} {a b : Addr} {o : Obj} {ns : List Int} {u : HO} (h : onlyH K a o ns b = some u) : b = a ∧ K.lookup a = none ∧ u = .frz o (.lst (ns.map V.int)) := by
  unfold onlyH at h
  by_cases c : b = a ∧ K.lookup a = none
  · rw [if_pos c] at h
    exact ⟨c.1, c.2, (Option.some.inj h).symm⟩
  · rw [if_neg c] at h
    cases h
theorem endG {P : Program} {w : World} {K : PySem.W.Frag} {mg mb : Str → Option Value} {k : Nat} {fa a : Addr} {fd : FuncData} {x : Str} {sp : Sp} {s : Shared} {vs : List Value} {ns : List Int}
    (kx : K.In s.heap) (gl : s.heap.Ns mainGlobals mg) (bl : s.heap.Ns builtinsNs mb) (bb : ∀ y : Str, y ≠ "__name__" → mb y = bootBuiltins y) (nl : s.heap.NoLimit) (ng : s.gens = #[])
    (oa : s.heap.get? a = some { cls := .type "list", data := .seq vs.toArray }) (hi : IntsAre vs ns) (le : ns.length ≤ sizeLine) (rm : Room k callerA)
    (F : ∀ base : Heap, K.In base → base.Ns mainGlobals mg → FnG P w K mg base CX0 k fa fd [x] sp) (bd : ∀ (s : Shared) (u : Value), BindsTo s fd ⟨[u], []⟩ [(x, u)])
    (pr : ∀ H : Hp, SqL K H a (ns.map V.int) → sp [.ref a] H (fun v _ => v = .bl true) fun _ _ _ => False) :
    codeAny (model P w) callerA (.call (.ref fa) ⟨[.ref a], []⟩) (fun r t => r = .ok (.ret (.bool true)) ∧ OldK s.heap t.heap ∧ t.os = s.os ∧ AllBare t.gens) s := by
  have rv := vals_ints hi
  have lv := hi.length
  let o : Obj := { cls := .type "list", data := .seq vs.toArray }
  let H : Hp := onlyH K a o ns
  have sq : SqL K H a (ns.map V.int) := by
    cases q : K.lookup a with
    | none => exact .inl (.inr ⟨o, if_pos ⟨rfl, q⟩⟩)
    | some o' =>
      have e := kx a o' q
      rw [oa] at e
      cases e
      exact .inr ⟨_, vs.toArray, _, q, rfl, rfl, rfl, by rw [List.size_toArray, lv]; exact le, by simpa using rv⟩
  have ok : HOk P w H s.heap := fun b u e => by
    obtain ⟨rfl, _, rfl⟩ := only_at e
    exact ⟨oa, by rw [List.length_map]; exact le, vs, _, rv, oa⟩
  have stay : ∀ {b : Addr} {m : Str → Option Value}, s.heap.Ns b m → (hidT s.heap H).Ns b m := fun {b m} n => by
    obtain ⟨ob, es, ep, e, d, r⟩ := n
    refine ⟨ob, es, ep, hidT_get e ?_, d, r⟩
    cases q : H b with
    | none => rfl
    | some u =>
      obtain ⟨rfl, _, _⟩ := only_at q
      rw [oa] at e
      cases e
      cases d
  have kb : K.In (hidT s.heap H) := fun b ob e => by
    refine hidT_get (kx b ob e) ?_
    cases q : H b with
    | none => rfl
    | some u =>
      obtain ⟨rfl, n, _⟩ := only_at q
      rw [n] at e
      cases e
  have md : Mod K mg (hidT s.heap H) := ⟨kb, stay gl, ⟨mb, stay bl, bb⟩, by
    obtain ⟨mc, n1, n2⟩ := nl
    exact ⟨mc, stay n1, n2⟩⟩
  have env : Env0 P w K mg (hidT s.heap H) callerA [] s H :=
    ⟨rfl, md, fun b ob e => of_hidT e, Nat.le_of_eq (hidT_size _ _), trivial, fun b q => absurd (show b ∈ ([] : List Addr) from q) (by simp), ok, .of_eq ng⟩
  have run := (F _ kb (stay gl)).goes callerA [] s H ⟨[.ref a], []⟩ [.ref a] [.ref a] _ _ rm rfl env (bd s (.ref a)) (.cons rfl .nil) (pr H sq)
  refine codeAny_mono run fun r t z => ?_
  cases r with
  | error e => exact False.elim z
  | ok fl =>
    cases fl with
    | next => exact False.elim z
    | brk => exact False.elim z
    | cont => exact False.elim z
    | ret u =>
      obtain ⟨v, H', so, br, un, ok', rr, q⟩ := z
      obtain rfl : v = .bl true := q
      obtain rfl : u = Value.bool true := rr
      refine ⟨rfl, OldK.of_keep fun b ob e => ?_, so, br⟩
      cases q : H b with
      | none => exact un.keep b ob e q (by intro n; exact absurd (show b ∈ ([] : List Addr) from n) (by simp)) (by simp)
      | some u =>
        obtain ⟨rfl, n, rfl⟩ := only_at q
        obtain ⟨e2, _⟩ := ok' b _ (un.frzs b o _ q)
        rw [oa] at e
        cases e
        exact e2
theorem walkG {l : PySem.W.OpenLaw} {n k : Nat} {q : Program} {loose : List Str} {XP : (Str → Option Value) → Heap → Prop} {YP : World → Heap → Prop} {d : DefRec} {x : Str} (hn : l.most = some n) (hs : n ≤ sizeLine) (hd : d.params.defaults = []) (rm : Room k callerA)
    (F : ∀ (w : World) (mg : Str → Option Value) (fa : Addr) (h : Heap), YP w h → h.Ns mainGlobals mg → mg d.name = some (.ref fa) → ∃ (K : PySem.W.Frag) (fd : FuncData) (sp : Sp), K.In h ∧ (∀ (s : Shared) (u : Value), BindsTo s fd ⟨[u], []⟩ [(x, u)])
      ∧ (∀ (H : Hp) (a : Addr) (ns : List Int), ns.length ≤ n → SqL K H a (ns.map V.int) → sp [.ref a] H (fun v _ => v = .bl true) fun _ _ _ => False)
      ∧ ∀ base : Heap, K.In base → base.Ns mainGlobals mg → FnG l.prog w K mg base CX0 k fa fd [x] sp) :
    PySem.W.WalkO q loose XP YP l.row.toRowW d [] (fun f vs => PySem.call f vs) := by
  refine Att.attach_call hn hd ?_
  intro w s₀ s₁ mg mb fa o pm cd doc a vs ns G Y ho hd' hcd hmg hobj hints hlen hg
  obtain ⟨K, fd, sp, kx, bd, pr, FF⟩ := F w mg fa _ Y G.T.g hmg
  exact endG kx G.T.g G.T.b G.T.builtins G.T.nolimit hg hobj hints (Nat.le_trans hlen hs) rm FF bd fun H sq => pr H a ns hlen sq
end FL
/-! errors with one field, raised and caught -/
namespace FL
open PySem PySem.Spec PyProof.Rows L2
/-- what the written part says of an error's class at C, of its __init__ at fI -/
structure ErC (K : PySem.W.Frag) (mg : Str → Option Value) (x n : Str) (C fI : Addr) : Prop where
  gC : mg x = some (.ref C)
  oex : OexC K C
  iC : PySem.W.findIn K (.ref C) "__init__" = some (some (.ref fI))
  tI : PySem.W.typeIn K (.ref fI) = some (.type "function")
  no : PySem.W.findIn K (.ref C) n = some none
  xf : XfC K C
  ec : ExcC K C
/-- __init__(self, value): self.value = value -/
def spErr (K : PySem.W.Frag) (n : Str) : Sp := fun vs H Q _ => ∃ (a C : Addr) (v : V), vs = [.ref a, v] ∧ OexC K C ∧ PySem.W.findIn K (.ref C) n = some none ∧ H a = some (exo a C none) ∧
  ∀ dx, H dx = none → dx ≠ a → Q .non (upd (upd H dx (exd dx [(n, v)])) a (exo a C (some dx)))
section
variable {P : Program} {w : World} {K : PySem.W.Frag} {mg : Str → Option Value} {base : Heap}
theorem ok_err {q : Str} {st : Stmt} {n : Str} {f : Addr} {fd : FuncData} {p1 p2 p3 p4 : Pos} (F : Fun K "__init__" q st f fd) (S : FnScope ["self", n] ["self", n] (defScope st))
    (hb : defBody st = [.Assign [.Attribute (.Name "self" p1) n p2] (.Name n p3) p4]) (hs : Vis (defScope st) "self") (hn : Vis (defScope st) n) (hd : (n == ("__debug__" : Str)) = false) (hcd : (n == ("__classdict__" : Str)) = false)
    (hsw : ∀ env : Env, swapsWith (.Name n p3) (some (.Attribute (.Name "self" p1) n p2)) p4.line env = pure false) :
    FnOk P w K mg base CX0 1 f fd ["self", n] (spErr K n) := by
  refine F.ok S (fun vs H Q E h => ?_) (fun cdv A outer s H vs Q E hr h => ?_)
  · obtain ⟨_, _, _, rfl, _⟩ := h
    rfl
  · obtain ⟨a, C, v, rfl, T, hno, ha, k⟩ := h
    rw [hb]
    refine ⟨_, pss_one (ps_ost (pe_var (i := 0) rfl hs) (pe_var (i := 1) rfl hn hd hcd) (hsw _)), ?_⟩
    exact ⟨_, rfl, _, rfl, a, C, rfl, T, hno, .inl ⟨ha, fun dx h1 h2 => k dx h1 h2⟩⟩
end
theorem del_upds {H : Hp} {a d : Addr} {o1 o2 o3 o4 : HO} (n : H a = none) (hd : d ≠ a) : upd (del (upd (upd (upd H a o1) d o2) a o3) a) d o4 = upd H d o4 := by
  funext b
  by_cases h1 : b = d
  · rw [h1, upd_same, upd_same]
  · rw [upd_ne h1, upd_ne h1]
    by_cases h2 : b = a
    · rw [h2, del_same, n]
    · rw [del_ne h2, upd_ne h2, upd_ne h1, upd_ne h2]
/-- what the making of an error asks -/
theorem mkErr {K : PySem.W.Frag} {n : Str} {C : Addr} {v : V} {H : Hp} {Q : XK} (T : OexC K C) (no : PySem.W.findIn K (.ref C) n = some none) (h : ∀ d, H d = none → Q (.ref C) (some d) (upd H d (.xd [(n, v)]))) :
    [v].length ≤ 1000 ∧ ∀ a, H a = none → spErr K n (.ref a :: ([v] ++ [])) (upd H a (exo a C none))
      (fun u H2 => u = .non ∧ ∃ (d : Addr) (fs : List (Str × V)), H2 a = some (exo a C (some d)) ∧ H2 d = some (exd d fs) ∧ H d = none ∧ Q (.ref C) (some d) (upd (del H2 a) d (.xd fs))) (fun _ _ _ => False) := by
  refine ⟨by show 1 ≤ 1000; decide, fun a ha => ⟨a, C, v, rfl, T, no, upd_same, fun dx h1 h2 => ⟨rfl, dx, [(n, v)], upd_same, ?_, ?_, ?_⟩⟩⟩
  · rw [upd_ne h2, upd_same]
  · rw [upd_ne h2] at h1
    exact h1
  · rw [upd_ne h2] at h1
    rw [del_upds ha h2]
    exact h dx h1
/-- all but tables stays -/
abbrev Ext := LamX.ExtN
theorem ext_of {H H' : Hp} (s : Same H H') : Ext H H' := .of s
end FL
namespace K70
open PySem PySem.Spec PyProof.Rows L2 FL
def topS (i : Nat) : Stmt := PySem.Challenge.pw_frontlines_k70_pieces_told_and_refused.main.body.getD i (.Pass ⟨0, 0, 0, 0⟩)
end K70
namespace K70
open PySem PySem.Spec PyProof.Rows L2 FL
abbrev sIsSigns : Stmt := topS 8
abbrev sIsLine : Stmt := topS 9
section
variable {P : Program} {w : World} {K : PySem.W.Frag} {mg : Str → Option Value} {base : Heap}
theorem scIsLine : FnScope ["signs", "value"] ["signs", "value"] (defScope sIsLine) :=
  ⟨rfl, rfl, rfl, by decide +kernel, rfl, by decide +kernel, by decide +kernel⟩
theorem ok_isline {f : Addr} {fd : FuncData} (F : Fun K "is_line" "is_line" sIsLine f fd)
    (mI : mg "isinstance" = none) (mS : mg "str" = none) :
    FnOk P w K mg base CX0 1 f fd ["signs", "value"] spLine := by
  refine F.ok scIsLine (fun vs H Q E h => ?_) (fun cdv A outer s H vs Q E hr h => ?_)
  · obtain ⟨_, _, _, rfl, _⟩ := h
    rfl
  · obtain ⟨sg, v, n, rfl, an, sh, k⟩ := h
    refine ⟨_, pss_one (ps_ret (pe_and (pe_callB call_isA (by rfl) mI (by decide +kernel)
        (pa_cons (pv 1) (pa_cons (pe_bltn (v := .ty "str") (by rfl) mS (by decide +kernel) rfl) pa_nil)))
      (pe_one (pe_cmpR op_eq (pe_bm PySem.F.plainAttrs_str PySem.F.slot_str_strip PySem.F.type_str_strip mt_stripChars (pv 1) (pa_cons (pv 0) pa_nil)) pe_str (nomark _))))), ?_⟩
    refine ⟨v, rfl, v, n, "str", rfl, an, by decide, _, rfl, ?_⟩
    cases an with
    | str z =>
      refine ⟨.str z, rfl, rfl, .str sg, rfl, z, sg, rfl, rfl, sh z rfl, rfl, ?_⟩
      have e : decide (V.str (Txt.stripChars z sg) = V.str (Str.ofString "")) = lineB sg (.str z) := by
        show _ = decide (Txt.stripChars z sg = (Str.ofString ""))
        by_cases h : Txt.stripChars z sg = Str.ofString ""
        · rw [h]
          simp
        · rw [decide_eq_false h, decide_eq_false]
          intro q
          exact h (V.str.inj q)
      rw [e]
      exact k
    | _ => exact k
abbrev nIsSigns : List Str := ["value", "rising", "first", "second"]
theorem scIsSigns : FnScope nIsSigns ["value"] (defScope sIsSigns) :=
  ⟨rfl, rfl, rfl, by decide +kernel, rfl, by decide +kernel, by decide +kernel⟩
theorem ok_issigns {f g : Addr} {fd gd : FuncData} (F : Fun K "is_signs" "is_signs" sIsSigns f fd)
    (G : FnOk P w K mg base CX0 1 g gd ["signs", "value"] spLine) (bG : Binds K gd ["signs", "value"] [])
    (kG : PySem.W.keepIn K (.ref g) = true) (mG : mg "is_line" = some (.ref g)) {tk : Tok}
    (mC : mg "SIGN_CHARACTERS" = some (.str signChars tk))
    (mI : mg "isinstance" = none) (mS : mg "str" = none) (mN : mg "len" = none) (mA : mg "all" = none) (mZ : mg "zip" = none) :
    FnOk P w K mg base CX0 2 f fd ["value"] spSigns := by
  refine F.ok scIsSigns (fun vs H Q E h => ?_) (fun cdv A outer s H vs Q E hr h => ?_)
  · obtain ⟨_, _, rfl, _⟩ := h
    rfl
  · obtain ⟨v, n, rfl, an, sh, k⟩ := h
    have nd := scIsSigns.nd
    refine ⟨_, pss_cons (ps_if (PW.pt (pw_or (pt_not (pt_val (pe_callB call_isA (by rfl) mI (by decide +kernel)
          (pa_cons (pv 0) (pa_cons (pe_bltn (v := .ty "str") (by rfl) mS (by decide +kernel) rfl) pa_nil)))))
        (pw_or (pt_cmpR op_lt (pe_callB callLen (by rfl) mN PySem.boot_len (pa_cons (pv 0) pa_nil)) pe_int (nomark _))
        (pw_or1 (pt_cmpR op_gt (pe_callB callLen (by rfl) mN PySem.boot_len (pa_cons (pv 0) pa_nil)) pe_int (nomark _))))))
        (pss_one (ps_ret pe_bl)) pss_nil)
      (pss_cons (ps_set (i := 1) nd rfl (.inl rfl) (pe_callB (cr_all rfl) (by rfl) mA (by decide +kernel)
        (pa_cons (pe_lc (own := [("first", 2), ("second", 3)]) (g := gTup K 2 (gCons (gName 2) (gCons (gName 3) gNil))) (tt := tYes) rfl nd
          (pi_zipS (by rfl) mZ (pa_cons (pv 0) (pa_cons (pe_slice sl_str (pv 0) (po_some pe_int) po_none) pa_nil)))
          (blkOk_by (N := nIsSigns) (sc := defScope sIsSigns) (by decide +kernel))
          (fun _ _ _ _ _ => pg_tup rfl (pgs_cons (pg_name (i := 2) nd rfl (Or.inl rfl)) (pgs_cons (pg_name (i := 3) nd rfl (Or.inl rfl)) pgs_nil)))
          (fun _ _ _ _ _ => pts_nil)
          (fun _ _ _ _ _ => pe_cmpR op_lt_str (pv 2) (pv 3) (nomark _))) pa_nil)))
      (pss_one (ps_ret (pe_and (pv 1) (pe_one (pe_call G hr (by rfl) mG kG bG .nil pass0 (pa_cons (pe_glob (v := .str signChars) rfl mC ⟨_, rfl⟩) (pa_cons (pv 0) pa_nil)))))))), ?_⟩
    refine ⟨v, rfl, v, n, "str", rfl, an, by decide, _, rfl, ?_⟩
    cases an with
    | str z =>
      have lz : z.length ≤ sizeLine := sh z rfl
      have hl := str_len z
      refine iteF ?_
      refine ⟨_, rfl, _, z.length, rfl, ⟨lz, rfl⟩, _, _, rfl, rfl, _, rfl, ?_⟩
      by_cases h2 : (z.length : Int) < 2
      · rw [decide_eq_true h2]
        refine iteT ?_
        refine iteT ?_
        have e : signsB (.str z) = false := by
          show (decide (2 ≤ z.length) && _) = false
          rw [decide_eq_false (by omega)]
          rfl
        have := k H (Same.refl H)
        rw [e] at this
        exact this
      rw [decide_eq_false h2]
      refine iteF ?_
      refine ⟨_, rfl, _, z.length, rfl, ⟨lz, rfl⟩, _, _, rfl, rfl, _, rfl, ?_⟩
      by_cases h4 : (z.length : Int) > 4
      · rw [decide_eq_true h4]
        refine iteT ?_
        have e : signsB (.str z) = false := by
          show (decide (2 ≤ z.length) && (decide (z.length ≤ 4) && _)) = false
          rw [decide_eq_false (show ¬ z.length ≤ 4 by omega)]
          simp
        have := k H (Same.refl H)
        rw [e] at this
        exact this
      rw [decide_eq_false h4]
      refine iteF ?_
      refine ⟨_, rfl, _, rfl, 1, rfl, z, rfl, lz, z, cutS z (some 1) none, rfl, fun D hD => ?_⟩
      have sz : sizeLine = 16777216 := rfl
      have ltail : (cutS z (some 1) none).cps.size = z.cps.toList.tail.length := by rw [← cut_tail, Array.length_toList]
      refine lc_it walk_zipS (fun t Ht => Same H Ht ∧ Ht D = some (.lst (((rise z.cps.toList).take t).map V.bl))) ?_ (fun _ _ _ _ => trivial) ?_ ?_
      · exact ⟨(Same.refl H).upd hD, upd_same⟩
      · rintro t x Ht _ ht ⟨g1, g2⟩ ⟨T, a, b, rfl, hT, rfl, ha, hb⟩
        refine ⟨T, _, rfl, SqT.of upd_same, rfl, _, _, rfl, _, _, rfl, rfl, rfl, ?_⟩
        refine ⟨_, rfl, _, rfl, _, _, rfl, rfl, ?_⟩
        have nDT : D ≠ T := ne_of_none g2 hT
        have ra : z.cps.toList[t]? = some a := by simpa using ha
        have rb : z.cps.toList.tail[t]? = some b := by
          rw [← cut_tail]
          simpa using hb
        refine ⟨_, by rw [upd_ne nDT]; exact g2, ?_, (g1.upd (g1.none hT)).upd hD, ?_⟩
        · rw [List.length_map, List.length_take, sz]
          have : t < z.cps.size := by omega
          have : z.cps.size = z.length := rfl
          omega
        · rw [upd_same, take_snoc (rise_get ra rb), List.map_append]
          rfl
      · rintro Ht ⟨g1, g2⟩
        refine ⟨D, (rise z.cps.toList).take _, rfl, SqL.of g2, ?_⟩
        have eall : (rise z.cps.toList).take (min z.cps.size (cutS z (some 1) none).cps.size) = rise z.cps.toList := by
          apply List.take_of_length_le
          unfold rise
          rw [List.length_zipWith, ltail, Array.length_toList]
          exact Nat.le_refl _
        rw [eall]
        refine ⟨_, rfl, _, rfl, ?_⟩
        have es : signsB (.str z) = ((rise z.cps.toList).all id && lineB signChars (.str z)) := by
          show (decide (2 ≤ z.length) && (decide (z.length ≤ 4) && _)) = _
          rw [decide_eq_true (show 2 ≤ z.length by omega), decide_eq_true (show z.length ≤ 4 by omega)]
          rfl
        have kk := k Ht g1
        rw [es] at kk
        cases hq : (rise z.cps.toList).all id with
        | true =>
          rw [hq] at kk
          exact ⟨_, rfl, signChars, .str z, "str", rfl, .str z, sh, kk⟩
        | false =>
          rw [hq] at kk
          exact kk
    | _ => exact k H (Same.refl H)
def intB : V → Bool
  | .int _ => true
  | _ => false
def spInt : Sp := fun vs H Q _ => ∃ (v : V) (n : String), vs = [v] ∧ Any H v n ∧ Q (.bl (intB v)) H
abbrev sIsInt : Stmt := topS 7
theorem scIsInt : FnScope ["value"] ["value"] (defScope sIsInt) := ⟨rfl, rfl, rfl, by decide +kernel, rfl, by decide +kernel, by decide +kernel⟩
theorem ok_isint {f : Addr} {fd : FuncData} (F : Fun K "is_integer" "is_integer" sIsInt f fd) (mI : mg "isinstance" = none) (mN : mg "int" = none) (mB : mg "bool" = none) :
    FnOk P w K mg base CX0 1 f fd ["value"] spInt := by
  refine F.ok scIsInt (fun vs H Q E h => ?_) (fun cdv A outer s H vs Q E hr h => ?_)
  · obtain ⟨_, _, rfl, _⟩ := h
    rfl
  · obtain ⟨v, n, rfl, an, k⟩ := h
    refine ⟨_, pss_one (ps_ret (pe_and (pe_callB call_isA (by rfl) mI (by decide +kernel)
        (pa_cons (pv 0) (pa_cons (pe_bltn (v := .ty "int") (by rfl) mN (by decide +kernel) rfl) pa_nil)))
      (pe_one (pe_not (pe_callB call_isA (by rfl) mI (by decide +kernel)
        (pa_cons (pv 0) (pa_cons (pe_bltn (v := .ty "bool") (by rfl) mB (by decide +kernel) rfl) pa_nil))))))), ?_⟩
    refine ⟨v, rfl, v, n, "int", rfl, an, by decide, _, rfl, ?_⟩
    cases an with
    | int i => exact ⟨_, rfl, _, "int", "bool", rfl, .int i, by decide, _, rfl, k⟩
    | bl b => exact ⟨_, rfl, _, "bool", "bool", rfl, .bl b, by decide, _, rfl, k⟩
    | _ => exact k
end
end K70
namespace K70
open PySem PySem.Spec PyProof.Rows L2 FL
abbrev sCheckSigns : Stmt := topS 12
abbrev sCheckLine : Stmt := topS 13
abbrev sCheckWidth : Stmt := topS 14
abbrev vN : Str := Str.ofString "value"
def widthB : V → Bool
  | .int i => decide (1 ≤ i) && decide (i ≤ 4)
  | _ => false
def spCheck (C : Addr) (ok : V → Bool) : Sp := fun vs H Q E => ∃ (v : V) (n : String), vs = [v] ∧ Any H v n ∧ Short v ∧ (ok v = true → ∀ H', Same H H' → Q .non H') ∧
  (ok v = false → ∀ H' d, Same H H' → H' d = none → E (.ref C) (some d) (upd H' d (.xd [(vN, v)])))
def spCheckL (C : Addr) : Sp := fun vs H Q E => ∃ (z : Str) (v : V) (n : String), vs = [.str z, v] ∧ Any H v n ∧ Short v ∧ (lineB z v = true → Q .non H) ∧
  (lineB z v = false → ∀ d, H d = none → E (.ref C) (some d) (upd H d (.xd [(vN, v)])))
/-- an error's class and its __init__ -/
structure Er (P : Program) (w : World) (K : PySem.W.Frag) (mg : Str → Option Value) (base : Heap) (x : Str) where
  C : Addr
  fI : Addr
  fd : FuncData
  T : ErC K mg x vN C fI
  F : FnOk P w K mg base CX0 1 fI fd ["self", vN] (spErr K vN)
  b : Binds K fd ["self", vN] []
section
variable {P : Program} {w : World} {K : PySem.W.Frag} {mg : Str → Option Value} {base : Heap}
theorem scCheckSigns : FnScope ["signs"] ["signs"] (defScope sCheckSigns) := ⟨rfl, rfl, rfl, by decide +kernel, rfl, by decide +kernel, by decide +kernel⟩
theorem ok_checksigns {f g : Addr} {fd gd : FuncData} (F : Fun K "check_signs" "check_signs" sCheckSigns f fd) (G : FnOk P w K mg base CX0 2 g gd ["value"] spSigns) (bG : Binds K gd ["value"] [])
    (kG : PySem.W.keepIn K (.ref g) = true) (mG : mg "is_signs" = some (.ref g)) (T : Er P w K mg base "InvalidSigns") : FnOk P w K mg base (L2.CX P w) 3 f fd ["signs"] (spCheck T.C signsB) := by
  refine F.okX scCheckSigns (fun vs H Q E h => ?_) (fun cdv A outer s H vs Q E hr h => ?_)
  · obtain ⟨_, _, rfl, _⟩ := h
    rfl
  · obtain ⟨v, n, rfl, an, sh, k1, k2⟩ := h
    refine ⟨_, pss_one (ps_if (pt_not (pt_val (pe_call G hr (by rfl) mG kG bG .nil pass0 (pa_cons (pv 0) pa_nil))))
      (pss_one (ps_raise rfl (takes_of rfl rfl rfl rfl) (pmk_oex T.T.oex T.T.iC T.T.tI T.F hr T.b .nil pass0 (by rfl) T.T.gC (pa_cons (pv 0) pa_nil)))) pss_nil), ?_⟩
    refine ⟨_, rfl, v, n, rfl, an, sh, fun H' sm => ⟨_, rfl, ?_⟩⟩
    cases e : signsB v with
    | true => exact iteF (k1 e H' sm)
    | false => exact iteT ⟨_, rfl, mkErr T.T.oex T.T.no fun d hd => k2 e H' d sm hd⟩
theorem scCheckLine : FnScope ["signs", "line"] ["signs", "line"] (defScope sCheckLine) := ⟨rfl, rfl, rfl, by decide +kernel, rfl, by decide +kernel, by decide +kernel⟩
theorem ok_checkline {f g : Addr} {fd gd : FuncData} (F : Fun K "check_line" "check_line" sCheckLine f fd) (G : FnOk P w K mg base CX0 1 g gd ["signs", "value"] spLine) (bG : Binds K gd ["signs", "value"] [])
    (kG : PySem.W.keepIn K (.ref g) = true) (mG : mg "is_line" = some (.ref g)) (T : Er P w K mg base "InvalidLine") : FnOk P w K mg base (L2.CX P w) 3 f fd ["signs", "line"] (spCheckL T.C) := by
  refine F.okX scCheckLine (fun vs H Q E h => ?_) (fun cdv A outer s H vs Q E hr h => ?_)
  · obtain ⟨_, _, _, rfl, _⟩ := h
    rfl
  · obtain ⟨z, v, n, rfl, an, sh, k1, k2⟩ := h
    refine ⟨_, pss_one (ps_if (pt_not (pt_val (pe_call G (hr.mono (by decide)) (by rfl) mG kG bG .nil pass0 (pa_cons (pv 0) (pa_cons (pv 1) pa_nil)))))
      (pss_one (ps_raise rfl (takes_of rfl rfl rfl rfl) (pmk_oex T.T.oex T.T.iC T.T.tI T.F hr T.b .nil pass0 (by rfl) T.T.gC (pa_cons (pv 1) pa_nil)))) pss_nil), ?_⟩
    refine ⟨_, rfl, _, rfl, z, v, n, rfl, an, sh, _, rfl, ?_⟩
    cases e : lineB z v with
    | true => exact iteF (k1 e)
    | false => exact iteT ⟨_, rfl, mkErr T.T.oex T.T.no fun d hd => k2 e d hd⟩
theorem scCheckWidth : FnScope ["width"] ["width"] (defScope sCheckWidth) := ⟨rfl, rfl, rfl, by decide +kernel, rfl, by decide +kernel, by decide +kernel⟩
theorem ok_checkwidth {f g : Addr} {fd gd : FuncData} (F : Fun K "check_width" "check_width" sCheckWidth f fd) (G : FnOk P w K mg base CX0 1 g gd ["value"] spInt) (bG : Binds K gd ["value"] [])
    (kG : PySem.W.keepIn K (.ref g) = true) (mG : mg "is_integer" = some (.ref g)) (T : Er P w K mg base "InvalidWidth") {tk : Tok} (mM : mg "MOST_WIDTH" = some (.int 4 tk)) : FnOk P w K mg base (L2.CX P w) 3 f fd ["width"] (spCheck T.C widthB) := by
  refine F.okX scCheckWidth (fun vs H Q E h => ?_) (fun cdv A outer s H vs Q E hr h => ?_)
  · obtain ⟨_, _, rfl, _⟩ := h
    rfl
  · obtain ⟨v, n, rfl, an, sh, k1, k2⟩ := h
    refine ⟨_, pss_one (ps_if (PW.pt (pw_or (pt_not (pt_val (pe_call G (hr.mono (by decide)) (by rfl) mG kG bG .nil pass0 (pa_cons (pv 0) pa_nil))))
      (pw_or (pt_cmpR op_lt (pv 0) pe_int (nomark _)) (pw_or1 (pt_cmpR op_gt (pv 0) (pe_glob (v := .int 4) rfl mM ⟨_, rfl⟩) (nomark _))))))
      (pss_one (ps_raise rfl (takes_of rfl rfl rfl rfl) (pmk_oex T.T.oex T.T.iC T.T.tI T.F hr T.b .nil pass0 (by rfl) T.T.gC (pa_cons (pv 0) pa_nil)))) pss_nil), ?_⟩
    refine ⟨_, rfl, v, n, rfl, an, _, rfl, ?_⟩
    have bad : widthB v = false → tMkO T.C (spErr K vN) [] (tCons (tVar 0) tNil) [some v] H fun cls d H' => E cls d H' := fun e => ⟨_, rfl, mkErr T.T.oex T.T.no fun d hd => k2 e H d (Same.refl H) hd⟩
    cases an with
    | int i =>
      refine iteF ?_
      refine ⟨_, rfl, _, _, rfl, rfl, _, rfl, ?_⟩
      by_cases h1 : i < 1
      · rw [decide_eq_true h1]
        exact iteT (iteT (bad (by show (decide (1 ≤ i) && _) = false; rw [decide_eq_false (by omega)]; rfl)))
      · rw [decide_eq_false h1]
        refine iteF ?_
        refine ⟨_, rfl, _, _, rfl, rfl, _, rfl, ?_⟩
        by_cases h2 : i > 4
        · rw [decide_eq_true h2]
          exact iteT (bad (by show (decide (1 ≤ i) && decide (i ≤ 4)) = false; rw [decide_eq_false (show ¬ i ≤ 4 by omega), Bool.and_false]))
        · rw [decide_eq_false h2]
          exact iteF (k1 (by show (decide (1 ≤ i) && decide (i ≤ 4)) = true; rw [decide_eq_true (show 1 ≤ i by omega), decide_eq_true (show i ≤ 4 by omega)]; rfl) H (Same.refl H))
    | _ => exact iteT (iteT (bad rfl))
end
end K70
namespace FL
open PySem PySem.Spec PyProof.Rows L2 LamX
/-- a wish may count on as many slots as there are names -/
theorem takes_len {X : Cx} {W : WX} (tk : Takes X W) : Takes X (fun c d τ G => τ.length = X.N.length → W c d τ G) := by
  rintro u s ⟨e, B, sB, pins, τ, G, c, d, q, I, x1, x2, x3, x4, x5, x6, w⟩
  exact tk u s ⟨e, B, sB, pins, τ, G, c, d, q, I, x1, x2, x3, x4, x5, x6, w I.len⟩
/-- as okG, with the def's code object -/
theorem okGC {P : Program} {w : World} {K : PySem.W.Frag} {mg : Str → Option Value} {base : Heap} {x qual : Str} {st : Stmt} {f : Addr} {fd : FuncData} {N ps : List Str} {k : Nat} {sp : Sp} {c : Addr}
    (F : Fun K x qual st f fd) (code : fd.code = .ref c) (S : FnScope N ps (defScope st))
    (size : ∀ vs H Q E, sp vs H Q E → vs.length = ps.length)
    (body : ∀ (A : Around) (outer : List Env) (s : Shared) (H : Hp) (vs : List V) (Q : VK) (E : XK),
      Room k (A.deeper (envOfC qual (defScope st) s.heap.objs.size f (.ref c))) → A.guards = some [] → sp vs H Q E →
      ∃ t, PSs (cxOf CX0 P w K mg base N qual (defScope st) f (.ref c) A outer s H E).nox (defBody st) t
        ∧ t { nx := fun _ H' => Q .non H', rt := Q } (start N vs) H) :
    FnG P w K mg base CX0 (k + 1) f fd ps sp := by
  obtain ⟨oc, od, kV, doc, pm, an, cdv, ct, osl, rfl, lk, hc⟩ := F.ex
  obtain rfl : cdv = .ref c := code
  refine ⟨size, ?_⟩
  intro A outer s H args us vs Q E hr hg e0 hb r hsp
  refine LamX.run_ofS (k := k) lk hc S hr e0 hb r (size _ _ _ _ hsp) ?_
  intro room
  obtain ⟨t, h1, h2⟩ := body A outer s H vs Q E room hg hsp
  exact ⟨t, h1.nox, h2⟩
end FL
namespace K70
open PySem PySem.Spec PyProof.Rows L2 FL
abbrev sHeard : Stmt := topS 24
abbrev nHeard : List Str := ["_law_call", "_law_told", "e"]
theorem scHeard : FnScope nHeard ["_law_call"] (defScope sHeard) := ⟨rfl, rfl, rfl, by decide +kernel, rfl, by decide +kernel, by decide +kernel⟩
/-- the errors' classes, as what is caught asks of them -/
structure ErF (K : PySem.W.Frag) (mg : Str → Option Value) (CS CL CW CB : Addr) : Prop where
  gS : mg "InvalidSigns" = some (.ref CS)
  gL : mg "InvalidLine" = some (.ref CL)
  gW : mg "InvalidWidth" = some (.ref CW)
  gB : mg "LineError" = some (.ref CB)
  xS : XfC K CS
  xL : XfC K CL
  xW : XfC K CW
  nS : PySem.W.findIn K (.ref CS) vN = some none
  nL : PySem.W.findIn K (.ref CL) vN = some none
  nW : PySem.W.findIn K (.ref CW) vN = some none
  eS : ExcC K CS
  eL : ExcC K CL
  eW : ExcC K CW
  ss : PySem.W.exmOne K (.ref CS) (.ref CS) = some true
  ls : PySem.W.exmOne K (.ref CL) (.ref CS) = some false
  ll : PySem.W.exmOne K (.ref CL) (.ref CL) = some true
  ws : PySem.W.exmOne K (.ref CW) (.ref CS) = some false
  wl : PySem.W.exmOne K (.ref CW) (.ref CL) = some false
  ww : PySem.W.exmOne K (.ref CW) (.ref CW) = some true
  kS : PySem.W.kitOne K (.ref CS) (.ref CB) = some true
  kL : PySem.W.kitOne K (.ref CL) (.ref CB) = some true
  kW : PySem.W.kitOne K (.ref CW) (.ref CB) = some true
  vS : PySem.W.kitOne K (.ref CS) (.type "ValueError") = some true
/-- what comes of an error -/
def hX (K : PySem.W.Frag) (CS CL CW : Addr) (Q : VK) : XK := fun cls d H' => ∃ (C : Addr) (word : Str) (dd : Addr) (v : V) (dt : PyData), cls = .ref C ∧
  ((C = CS ∧ word = Str.ofString "signs") ∨ (C = CL ∧ word = Str.ofString "line") ∨ (C = CW ∧ word = Str.ofString "width")) ∧ d = some dd ∧ H' dd = some (.xd [(vN, v)]) ∧ Sh K H' v dt ∧ NiceD dt ∧
  ∀ p, H' p = none → Q (.ref p) (upd H' p (.lst [.str word, .str dt.shown, .bl true]))
def TTh (K : PySem.W.Frag) (CS CL CW : Addr) : (XK → Hp → VK → Prop) → Hp → VK → Prop := fun tl H Q =>
  ∀ L, H L = none → ∀ (E : XK) (R : VK), (∀ cls d H', hX K CS CL CW Q cls d H' → E cls d H') → (∀ v H', Q (.ref L) H' → R v H') → tl E (upd H L (.lst [.str (Str.ofString "none")])) R
theorem look1 (v : V) : List.lookup (Str.ofString "value") [(vN, v)] = some v := by simp [List.lookup]
theorem reprS {X : Cx} {Ng : List Str} {x : Str} {sg : Scope} {g a : Addr} {cdg : Value} {s : Shared} {H : Hp} {oe : Obj} {pn : List (Addr × Obj)} (hG : X.A.guards = some []) (hr : Room 5 X.A) :
    CallR ((cxOf CX0 X.prog X.w X.K X.mg X.base Ng x sg g cdg X.A X.stack s H E0).nox.suite a ((a, oe) :: pn)) (.builtin "repr") (fun xs H Q => ∃ v d, xs = [v] ∧ Sh X.K H v d ∧ NiceD d ∧ Q (.str d.shown) H) :=
  call_repr (X := (cxOf CX0 X.prog X.w X.K X.mg X.base Ng x sg g cdg X.A X.stack s H E0).nox.suite a ((a, oe) :: pn)) hG (by
    have := hr.un
    show X.A.units + 3 + 64 < cLine
    omega)
theorem three {τ : L2.St} (h : τ.length = 3) : ∃ a b c, τ = [a, b, c] := by
  match τ, h with
  | [a, b, c], _ => exact ⟨a, b, c, rfl⟩
theorem heard_gives {X : Cx} {g : Addr} {cdg : Value} {q : Str} {CS CL CW CB : Addr} (T : ErF X.K X.mg CS CL CW CB) (hG : X.A.guards = some []) (hr : Room 5 X.A) (mR : X.mg "repr" = none) (mI : X.mg "isinstance" = none) (mV : X.mg "ValueError" = none) :
    LamX.GivesTo X nHeard "_law_heard" (defScope sHeard) g cdg (defBody sHeard) "_law_call" q (TTh X.K CS CL CW) := by
  intro f c' s H Q tl act hc h
  have nd := scHeard.nd
  refine ⟨_, pss_cons (ps_set (i := 1) nd rfl (.inl rfl) (pe_lst (pa_cons pe_str pa_nil)))
    (pss_cons (ps_clauses (i := 2) rfl rfl nd rfl rfl takes0
      (tb := fun W D σ H => ∃ Ech : XK, (∀ c d τ G, τ.length = 3 → Ech c d G → W c d τ G) ∧ σ[0]? = some (some (V.ref f)) ∧ H c' = some (LamX.CodeO c' q) ∧ tl Ech H fun _ G => D.nx σ G)
      (fun W pn xe tk _ => ⟨fun pins s' σ H' D I rd => by
        obtain ⟨Ech, hW, h1, h2, h3⟩ := rd
        exact (pss_one (ps_expr (act _ pn xe Ech _ _ (takes_len tk) fun c d τ G e len => hW c d τ G len e))).run pins s' σ H' D I ⟨h1, h2, h3⟩⟩)
      (.more ⟨by rfl, by decide, .inl T.gS⟩ (fun a oe cls d pn hz hf => pss_one (ps_set (i := 1) nd rfl (.inl rfl) (pe_lst (pa_cons pe_str (pa_cons (pe_callB (reprS hG hr) (by rfl) mR (by decide +kernel) (pa_cons (pe_xf T.xS T.nS hz hf (pv 2)) pa_nil))
          (pa_cons (pe_and (pe_callB (call_isY hz hf) (by rfl) mI (by decide +kernel) (pa_cons (pv 2) (pa_cons (pe_glob (v := .ref CB) rfl T.gB rfl) pa_nil)))
            (pe_one (pe_callB (call_isY hz hf) (by rfl) mI (by decide +kernel) (pa_cons (pv 2) (pa_cons (pe_bltn (v := .ty "ValueError") (by rfl) mV (by decide +kernel) rfl) pa_nil))))) pa_nil))))))
      (.more ⟨by rfl, by decide, .inl T.gL⟩ (fun a oe cls d pn hz hf => pss_one (ps_set (i := 1) nd rfl (.inl rfl) (pe_lst (pa_cons pe_str (pa_cons (pe_callB (reprS hG hr) (by rfl) mR (by decide +kernel) (pa_cons (pe_xf T.xL T.nL hz hf (pv 2)) pa_nil))
          (pa_cons (pe_callB (call_isY hz hf) (by rfl) mI (by decide +kernel) (pa_cons (pv 2) (pa_cons (pe_glob (v := .ref CB) rfl T.gB rfl) pa_nil))) pa_nil))))))
      (.more ⟨by rfl, by decide, .inl T.gW⟩ (fun a oe cls d pn hz hf => pss_one (ps_set (i := 1) nd rfl (.inl rfl) (pe_lst (pa_cons pe_str (pa_cons (pe_callB (reprS hG hr) (by rfl) mR (by decide +kernel) (pa_cons (pe_xf T.xW T.nW hz hf (pv 2)) pa_nil))
          (pa_cons (pe_callB (call_isY hz hf) (by rfl) mI (by decide +kernel) (pa_cons (pv 2) (pa_cons (pe_glob (v := .ref CB) rfl T.gB rfl) pa_nil))) pa_nil)))))) .done))))
    (pss_one (ps_ret (pv 1)))), ?_⟩
  refine ⟨(by show 1 ≤ sizeLine; decide), fun L hL => ?_⟩
  refine ⟨hX X.K CS CL CW Q, ?_, rfl, by rw [upd_ne (ne_of_none hc hL)]; exact hc, h L hL _ _ (fun _ _ _ k => k) fun _ H' q => ⟨_, rfl, q⟩⟩
  intro cls d τ H' len hx
  obtain ⟨o0, o1, o2, rfl⟩ := three len
  obtain ⟨C, word, dd, v, dt, rfl, hw, rfl, hdd, sh, nc, k⟩ := hx
  rcases hw with ⟨rfl, rfl⟩ | ⟨rfl, rfl⟩ | ⟨rfl, rfl⟩
  · refine ⟨true, T.ss, fun _ a ha => ?_, fun z => Bool.noConfusion z⟩
    refine ⟨_, rfl, rfl, rfl, dd, _, v, rfl, hdd, look1 v, v, dt, rfl, sh, nc, ?_⟩
    refine ⟨_, rfl, C, dd, .ref CB, .ref CB, true, _, rfl, rfl, rfl, T.eS, (fun u hu => hu), T.kS, hdd, _, rfl, ?_⟩
    refine ⟨_, rfl, C, dd, .ty "ValueError", .type "ValueError", true, _, rfl, rfl, rfl, T.eS, (fun u hu => hu), T.vS, hdd, (by show 3 ≤ sizeLine; decide), fun p hp => ?_⟩
    exact ⟨_, rfl, k p hp⟩
  · refine ⟨false, T.ls, (fun z => Bool.noConfusion z), fun _ => ⟨true, T.ll, fun _ a ha => ?_, fun z => Bool.noConfusion z⟩⟩
    refine ⟨_, rfl, rfl, rfl, dd, _, v, rfl, hdd, look1 v, v, dt, rfl, sh, nc, ?_⟩
    refine ⟨_, rfl, C, dd, .ref CB, .ref CB, true, _, rfl, rfl, rfl, T.eL, (fun u hu => hu), T.kL, hdd, (by show 3 ≤ sizeLine; decide), fun p hp => ?_⟩
    exact ⟨_, rfl, k p hp⟩
  · refine ⟨false, T.ws, (fun z => Bool.noConfusion z), fun _ => ⟨false, T.wl, (fun z => Bool.noConfusion z), fun _ => ⟨true, T.ww, fun _ a ha => ?_, fun z => Bool.noConfusion z⟩⟩⟩
    refine ⟨_, rfl, rfl, rfl, dd, _, v, rfl, hdd, look1 v, v, dt, rfl, sh, nc, ?_⟩
    refine ⟨_, rfl, C, dd, .ref CB, .ref CB, true, _, rfl, rfl, rfl, T.eW, (fun u hu => hu), T.kW, hdd, (by show 3 ≤ sizeLine; decide), fun p hp => ?_⟩
    exact ⟨_, rfl, k p hp⟩
end K70
namespace FL
open PySem PySem.Spec PyProof.Rows L2 Builtin Builtin.Str
theorem quote_or (x : PySem.Str) : reprQuote x = 34 ∨ reprQuote x = 39 := by
  unfold reprQuote
  split <;> simp
theorem repr_chars : ∀ q ∈ [34, 39], ∀ c ∈ List.range 128, ∀ d ∈ reprChar q c, d < 1114112 := by decide +kernel
theorem fold_repr (q : Nat) (hq : q ∈ [34, 39]) : ∀ (l : List Nat) (acc : Array Nat), (∀ c ∈ l, c < 128) → (∀ d ∈ acc.toList, d < 1114112) → ∀ d ∈ (l.foldl (fun out c => out ++ (reprChar q c).toArray) acc).toList, d < 1114112
  | [], acc, _, h => h
  | c :: r, acc, hc, h => by
    refine fold_repr q hq r (acc ++ (reprChar q c).toArray) (fun d hd => hc d (List.mem_cons_of_mem _ hd)) fun d hd => ?_
    rw [Array.toList_append] at hd
    rcases List.mem_append.mp hd with k | k
    · exact h d k
    · exact repr_chars q hq c (List.mem_range.mpr (hc c List.mem_cons_self)) d (by simpa using k)
theorem repr_ok {y : PySem.Str} (h : Plain y) : PyData.strOk (reprText y) = true := by
  have hq : reprQuote y ∈ [34, 39] := by
    rcases quote_or y with e | e <;> rw [e] <;> decide
  have hlt : reprQuote y < 1114112 := by
    rcases quote_or y with e | e <;> rw [e] <;> decide
  show (reprText y).cps.all (· < 0x110000) = true
  rw [Array.all_eq_true]
  intro i hi
  refine decide_eq_true ?_
  have key : ∀ d ∈ (reprText y).cps.toList, d < 1114112 := by
    unfold reprText
    show ∀ d ∈ ((y.cps.foldl (fun out c => out ++ (reprChar (reprQuote y) c).toArray) #[reprQuote y]).push (reprQuote y)).toList, d < 1114112
    rw [← Array.foldl_toList]
    intro d hd
    rw [Array.toList_push] at hd
    rcases List.mem_append.mp hd with k | k
    · exact fold_repr _ hq _ _ h (fun d hd => by
        have : d = reprQuote y := by simpa using hd
        rw [this]
        exact hlt) d k
    · rw [List.mem_singleton.mp k]
      exact hlt
  exact key _ (Array.getElem_mem_toList hi)
theorem repr_ok' {y : PySem.Str} (h : Plain y) : PyData.strOk (PyData.shown (.str y)) = true := by
  rw [PyData.shown_str]
  exact repr_ok h
end FL
namespace FL
open PySem PySem.Spec PyProof.Rows L2 LamX
/-- all but p and tables stays -/
def BX (p : Addr) (H H' : Hp) : Prop := ∀ c o, H c = some o → c ≠ p → (∀ ps, o ≠ .tbl ps) → H' c = some o
theorem BX.refl (p : Addr) (H : Hp) : BX p H H := fun _ _ e _ _ => e
theorem BX.trans {p : Addr} {H H1 H2 : Hp} (a : BX p H H1) (b : BX p H1 H2) : BX p H H2 := fun c o e n t => b c o (a c o e n t) n t
theorem BX.but {p : Addr} {H H1 : Hp} (a : But p H H1) : BX p H H1 := fun c o e n _ => a c o e n
theorem BX.ext {p : Addr} {H H1 : Hp} (a : ExtN H H1) : BX p H H1 := fun c o e _ t => a c o e t
theorem BX.same {p : Addr} {H H1 : Hp} (a : Same H H1) : BX p H H1 := fun c o e _ _ => a c o e
theorem lst_tbl {xs : List V} : ∀ ps, (HO.lst xs) ≠ .tbl ps := fun _ z => by cases z
theorem tup_tbl {xs : List V} : ∀ ps, (HO.tup xs) ≠ .tbl ps := fun _ z => by cases z
theorem dk_tbl {xs : List (Key × V)} : ∀ ps, (HO.dK xs) ≠ .tbl ps := fun _ z => by cases z
theorem PotAt.extN {H H' : Hp} {p : Addr} (h : PotAt H p) (s : ExtN H H') : PotAt H' p := by
  obtain ⟨a, b, e, r⟩ := h
  exact ⟨a, b, s _ _ e lst_tbl, r⟩
theorem PotAt.sameX {H H' : Hp} {p : Addr} (h : PotAt H p) (s : Same H H') : PotAt H' p := by
  obtain ⟨a, b, e, r⟩ := h
  exact ⟨a, b, s _ _ e, r⟩
theorem tabs_but {T : List (Addr × Str)} {H H' : Hp} {p : Addr} (t : Tabs T H) (hp : PotAt H p) (b : But p H H') : Tabs T H' := fun q hq => by
  obtain ⟨_, _, hpe, _⟩ := hp
  obtain ⟨ps, h1, h2, h3⟩ := t q hq
  have ne : ∀ {c : Addr} {o : HO}, H c = some o → (∀ xs, o ≠ .lst xs) → c ≠ p := fun e n z => by
    rw [z, hpe] at e
    exact n _ (Option.some.inj e).symm
  refine ⟨ps, b _ _ h1 (ne h1 fun xs z => by cases z), h2, fun pos cv hc => ?_⟩
  obtain ⟨c, e1, e2⟩ := h3 pos cv hc
  exact ⟨c, e1, b _ _ e2 (ne e2 fun xs z => by unfold CodeO at z; cases z)⟩
/-- values of other kinds, as data -/
inductive Ov (H : Hp) (p : Addr) : V → PyData → Prop
  | non : Ov H p .non .none
  | bl (b : Bool) : Ov H p (.bl b) (.bool b)
  | int (i : Int) : Ov H p (.int i) (.int i)
  | str (z : Str) : Ov H p (.str z) (.str z)
  | lst {a : Addr} {xs : List V} {ds : List PyData} : a ≠ p → H a = some (.lst xs) → (∀ (K : PySem.W.Frag) (H' : Hp), DpAll K H' xs ds) → PyData.hasDict (.list ds) = false → Ov H p (.ref a) (.list ds)
  | tup {a : Addr} {xs : List V} {ds : List PyData} : a ≠ p → H a = some (.tup xs) → (∀ (K : PySem.W.Frag) (H' : Hp), DpAll K H' xs ds) → PyData.hasDict (.tuple ds) = false → Ov H p (.ref a) (.tuple ds)
  | dct {a : Addr} : a ≠ p → H a = some (.dK []) → Ov H p (.ref a) (.dict [])
theorem Ov.bx {H H' : Hp} {p : Addr} {v : V} {d : PyData} (h : Ov H p v d) (b : BX p H H') : Ov H' p v d := by
  cases h with
  | non => exact .non
  | bl b => exact .bl b
  | int i => exact .int i
  | str z => exact .str z
  | lst n e f g => exact .lst n (b _ _ e n lst_tbl) f g
  | tup n e f g => exact .tup n (b _ _ e n tup_tbl) f g
  | dct n e => exact .dct n (b _ _ e n dk_tbl)
theorem Ov.any {H : Hp} {p : Addr} {v : V} {d : PyData} (h : Ov H p v d) : ∃ n, Any H v n := by
  cases h with
  | non => exact ⟨_, .non⟩
  | bl b => exact ⟨_, .bl b⟩
  | int i => exact ⟨_, .int i⟩
  | str z => exact ⟨_, .str z⟩
  | lst n e f => exact ⟨_, .lst e⟩
  | tup n e f => exact ⟨_, .tup e⟩
  | dct n e => exact ⟨_, .dct e⟩
theorem Ov.sh {K : PySem.W.Frag} {H : Hp} {p : Addr} {v : V} {d : PyData} (h : Ov H p v d) : Sh K H v d := by
  cases h with
  | non => exact .inl ⟨.non, rfl⟩
  | bl b => exact .inl ⟨.bl b, rfl⟩
  | int i => exact .inl ⟨.int i, rfl⟩
  | str z => exact .inl ⟨.str z, rfl⟩
  | lst n e f g => exact .inl ⟨.lst (SqL.of e) (f K H), g⟩
  | tup n e f g => exact .inl ⟨.tup (SqT.of e) (f K H), g⟩
  | dct n e => exact .inr ⟨_, rfl, e, rfl⟩
/-- a picked value of some kind -/
structure Odd (H : Hp) (p : Addr) (v : V) (d : PyData) : Prop where
  ov : Ov H p v d
  short : Short v
  nice : NiceD d
  ok : PyData.strOk d.shown = true
theorem Odd.bx {H H' : Hp} {p : Addr} {v : V} {d : PyData} (h : Odd H p v d) (b : BX p H H') : Odd H' p v d := ⟨h.ov.bx b, h.short, h.nice, h.ok⟩
theorem odd_non {H : Hp} {p : Addr} : Odd H p .non .none := ⟨.non, (fun _ e => by cases e), ⟨by decide +kernel, by decide +kernel, by decide +kernel⟩, by decide +kernel⟩
theorem odd_bl {H : Hp} {p : Addr} (b : Bool) : Odd H p (.bl b) (.bool b) := ⟨.bl b, (fun _ e => by cases e), ⟨rfl, by cases b <;> decide +kernel, by cases b <;> decide +kernel⟩, by cases b <;> decide +kernel⟩
theorem odd_str {H : Hp} {p : Addr} {z : Str} (h : Plain z) (l : z.length ≤ 1000) : Odd H p (.str z) (.str z) := ⟨.str z, (fun _ e => by cases e; exact Nat.le_trans l (by decide)), (Sm.str h).nice (by have : sizeLine = 16777216 := rfl; omega), repr_ok' h⟩
end FL
namespace K70
open PySem PySem.Spec PyProof.Rows L2 FL
def glyphL : List Str := [Str.ofString "-a", Str.ofString "->a", Str.ofString "-.a", Str.ofString "=>a", Str.ofString "-.>a", Str.ofString "0aq"]
theorem glyph_ok : ∀ z ∈ glyphL, signsB (.str z) = true ∧ 2 ≤ z.length ∧ z.length ≤ 4 ∧ (∀ c ∈ z.cps.toList, c < 128) ∧ 33 ∉ z.cps.toList := by decide +kernel
theorem alien_bad : ∀ s ∈ [Str.ofString "", Str.ofString "a", Str.ofString "a-", Str.ofString "--", Str.ofString "-A", Str.ofString "-a>", Str.ofString "-0123", Str.ofString "- a", Str.ofString "aa"], signsB (.str s) = false ∧ (∀ c ∈ s.cps.toList, c < 128) ∧ s.length ≤ 1000 := by decide +kernel
theorem strange_bad : ∀ z ∈ glyphL, ∀ s ∈ [Str.ofString "b", Str.ofString "-b", Str.ofString "A", Str.ofString "a a", Str.ofString "_"], lineB z (.str s) = false ∧ (∀ c ∈ s.cps.toList, c < 128) ∧ s.length ≤ 1000 := by decide +kernel
theorem end_bad {z y e : Str} {c : Nat} (he : e.cps = #[c]) (h : c ∉ z.cps.toList) : lineB z (.str (y ++ e)) = false := by
  show decide (Txt.stripChars (y ++ e) z = Str.ofString "") = false
  apply decide_eq_false
  intro q
  have q2 := congrArg (fun s : Str => s.cps.toList.length) q
  unfold Txt.stripChars at q2
  rw [stripBy_eq] at q2
  have hcps : (y ++ e).cps = y.cps ++ #[c] := by
    show y.cps ++ e.cps = _
    rw [he]
  have hl : (y ++ e).cps.toList = y.cps.toList ++ [c] := by
    rw [hcps]
    simp
  have hsz : (y ++ e).cps.size = y.cps.size + 1 := by
    rw [hcps]
    simp
  have hc : z.cps.contains c = false := by
    rw [Bool.eq_false_iff]
    intro k
    exact h (Array.mem_def.mp (Array.contains_iff_mem.mp k))
  have lo : stripLo z.cps.contains true (y ++ e) ≤ y.cps.size := by
    unfold stripLo
    rw [if_pos rfl, hl, List.takeWhile_append]
    have h1 : (List.takeWhile z.cps.contains y.cps.toList).length ≤ y.cps.size := by
      have := (List.takeWhile_prefix (p := z.cps.contains) (l := y.cps.toList)).length_le
      simpa using this
    split
    · rw [List.takeWhile_cons, hc]
      simp
    · exact h1
  generalize stripLo z.cps.contains true (y ++ e) = n at lo q2
  have hi : stripHi z.cps.contains true (y ++ e) n = y.cps.size + 1 := by
    unfold stripHi
    rw [if_pos rfl, hl, List.drop_append_of_le_length (by simpa using lo), List.reverse_append]
    show (y ++ e).cps.size - (List.takeWhile z.cps.contains (c :: _)).length = _
    rw [List.takeWhile_cons, hc, hsz]
    rfl
  rw [hi] at q2
  have z0 : (Str.ofString "").cps.toList.length = 0 := by decide +kernel
  have q3 : ((y ++ e).cps.extract n (y.cps.size + 1)).toList.length = 0 := q2.trans z0
  rw [Array.length_toList, Array.size_extract, hsz] at q3
  omega
end K70
namespace FL
open PySem PySem.Spec PyProof.Rows L2
section
variable {X : Cx} {pins : List (Addr × Obj)} {σ : L2.St} {H : Hp} {s : Shared} {k : Nat} {f : Addr} {fd : FuncData} {ps : List Str} {sp : Sp} {Q : VK} {E : XK}
theorem run_at1 {us ws : List Value} {ks : List Str} {bs : List Value} {vs : List V} {E' : Value → Shared → Prop} (F : FnG X.prog X.w X.K X.mg X.base CX0 k f fd ps sp) (hr : Room (k + 1) X.A) (hG : X.A.guards = some [])
    (I : Inv X pins σ H s) (hb : BindsTo s fd ⟨us, ks.zip ws⟩ (ps.zip bs)) (r : Vals vs bs) (h : sp vs H Q E) :
    wpAny (model X.prog X.w) X.A.in1 (call (.ref f) us (ks.zip ws)) (EP X pins σ Q) E' s := by
  refine wpAny_call (codeAny_mono (F.goes X.A.in1 X.stack s H ⟨us, ks.zip ws⟩ bs vs Q E hr.in1 hG I.env0.in1 hb r h) ?_)
  rintro (er | fl) s2 z
  · exact False.elim z
  · cases fl with
    | ret u => exact I.after z
    | _ => exact False.elim z
theorem run_at0 {us ws : List Value} {ks : List Str} {bs : List Value} {vs : List V} {E' : Value → Shared → Prop} (F : FnG X.prog X.w X.K X.mg X.base CX0 k f fd ps sp) (hr : Room k X.A) (hG : X.A.guards = some [])
    (I : Inv X pins σ H s) (hb : BindsTo s fd ⟨us, ks.zip ws⟩ (ps.zip bs)) (r : Vals vs bs) (h : sp vs H Q E) :
    wpAny (model X.prog X.w) X.A (call (.ref f) us (ks.zip ws)) (EP X pins σ Q) E' s := by
  refine wpAny_call (codeAny_mono (F.goes X.A X.stack s H ⟨us, ks.zip ws⟩ bs vs Q E hr hG I.env0 hb r h) ?_)
  rintro (er | fl) s2 z
  · exact False.elim z
  · cases fl with
    | ret u => exact I.after z
    | _ => exact False.elim z
/-! repr of an instance by its class's own text -/
theorem call_reprI {C : Addr} (F : FnG X.prog X.w X.K X.mg X.base CX0 k f fd ["self"] sp) (hb : Binds X.K fd ["self"] []) (hr : Room (k + 1) X.A) (hG : X.A.guards = some [])
    (hs : PySem.W.findIn X.K (.ref C) "__repr__" = some (some (.ref f))) (hf : PySem.W.isFn X.K (.ref f) = true) :
    CallR X (.builtin "repr") (fun xs H Q => ∃ a dx fs, xs = [.ref a] ∧ H a = some (.ins C dx fs) ∧ sp [.ref a] H (fun v H' => ∃ z, v = .str z ∧ Q (.str z) H') E) := by
  intro pins s σ H xs us Q I r h
  obtain ⟨a, dx, fs, rfl, ha, q⟩ := h
  cases r with
  | cons r1 r2 =>
    cases r2
    cases r1
    obtain ⟨mA, O, _⟩ := ins_get I.hok ha
    obtain ⟨od, J, _⟩ := O.look
    obtain ⟨m, fr⟩ := I.fr
    refine PySem.W.repr_K (h₀ := X.base) hr.in1.units0 fr I.ok.mod.kin J hs hf ?_
    refine wpAny_mono (run_at1 (ws := []) (ks := []) (E' := X.xe) (bs := [.ref a]) F hr hG I (vs := [.ref a]) (hb s [.ref a] I.kIn rfl) (.cons rfl .nil) q) ?_ fun _ _ e => e
    rintro u s2 ⟨v, H2, I2, rv, z, rfl, q2⟩
    obtain ⟨t, rfl⟩ := rv
    exact ⟨.str z, H2, I2, ⟨t, rfl⟩, q2⟩
/-! {e!r} of a list of data -/
def tFmtL (K : PySem.W.Frag) (te : TE) : TE := fun σ H Q => te σ H fun x H1 => ∃ a xs d, x = .ref a ∧ SqL K H1 a xs ∧ Dp K H1 x d ∧ d.hasDict = false ∧ NiceD d ∧ Q (.str d.shown) H1
theorem pe_fmtL {e : Expr} {te : TE} {pos : Pos} (hG : X.A.guards = some []) (hu : X.A.units + 64 < cLine) (he : PE X e te) : PE X (.FormattedValue e 114 none pos) (tFmtL X.K te) := by
  refine ⟨fun pins s σ H Q I h => ?_⟩
  refine wpAny_FormattedValue_repr (thn (he.run pins s σ H _ I h) fun v s1 hv => ?_)
  obtain ⟨x, H1, I1, r1, a, xs, d, rfl, _, hd, nd, ⟨n1, n2, n3⟩, q⟩ := hv
  obtain ⟨as, rd⟩ := Dp.reads I1 d _ v hd r1
  cases r1
  refine pyReprObj_of_reads rd n1 (PyData.noDict_hsm nd) hG (by omega) (fun _ _ e => e) (fun h' u tk kp => ?_) n3
  have I2 : Inv X pins σ H1 { s1 with heap := h', toks := tk } := I1.kept kp
  exact wpAny_formatField_str ⟨.str d.shown, H1, I2, ⟨u, rfl⟩, q⟩ ⟨.str d.shown, H1, I2.tok _, ⟨_, rfl⟩, q⟩ n3
end
end FL
namespace FL
open PySem PySem.Spec PyProof.Rows L2
section
variable {M : Model} {A : Around} {E : Value → Shared → Prop} {s : Shared} {K : PySem.W.Frag} {x C f : Addr} {ox : Obj} {od : Option Obj}
theorem rc_own {a : Value} {T ida : String} {Q : Value → Shared → Prop} (ha : s.TypeIs a T) (X : K.In s.heap) (I : PySem.W.InstAt s.heap x ox C od) (hsub : PySem.W.mroIn K C (.type T) = some false)
    (h1 : Slot T (cmpInfo .Eq).2.1 ida) (hc1 : ∀ Q' : Value → Shared → Prop, Q' .notImplemented s → wpAny M A (call (.builtin ida) [a, .ref x]) Q' E s)
    (hs : PySem.W.findIn K (.ref C) "__eq__" = some (some (.ref f))) (hf : PySem.W.isFn K (.ref f) = true) (hu : A.units < cLine)
    (h : wpAny M A (call (.ref f) [.ref x, a]) (PySem.W.CmpBack Q) E s) : wpAny M A (richCompare .Eq a (.ref x)) Q E s := by
  have hne : (Value.type T != Value.ref C) = true := by rfl
  have two : wpAny M A (tryCompare (.ref x) (cmpInfo .Eq).2.2 a) (fun r s' => ∃ v, r = some v ∧ Q v s') E s := by
    unfold tryCompare
    refine wpAny_bind (PySem.W.ifBound_K X I hs hf (wpAny_mono h (fun v s' hv => ?_) fun _ _ e => e))
    cases v <;> first | exact hv.elim | exact wpAny_pure ⟨_, rfl, hv⟩
  rcases hi : cmpInfo CmpOp.Eq with ⟨sym, g, r⟩
  rw [hi] at h1 two
  simp only [richCompare, hi, ha.oneThing_none]
  try with_reducible refine wpAny_holding ?_
  refine wpAny_bind (wpAny_cRoomFor hu ?_)
  refine wpAny_bind (wpAny_typeOf ha (wpAny_bind (I.type.here ?_)))
  simp only [hne, if_true]
  refine wpAny_bind ((PySem.W.looks_mroIn X hsub).here ?_)
  simp only [Bool.false_eq_true, if_false, Bool.not_false, if_true]
  refine wpAny_bind (m := tryCompare a _ (.ref x)) (wpAny_tryCompare_declines ha h1 (hc1 _ ⟨rfl, ?_⟩))
  refine wpAny_bind (wpAny_mono two (fun r s' z => ?_) fun _ _ e => e)
  obtain ⟨v, rfl, hq⟩ := z
  exact wpAny_pure hq
end
section
variable {K : PySem.W.Frag} {x C l : Addr} {ox : Obj} {od : Option Obj}
theorem int_no (b : Int) (u : Tok) (c : Value) (dd : Option Addr) (sl : Array (Option Value)) :
    Meets (Builtin.«int.__eq__» ⟨[.int b u, .ref x], []⟩) (fun _ R s => s.heap.get? x = some { cls := c, dict := dd, data := .plain, slots := sl } ∧ R (.ok (.ret .notImplemented)) s) :=
  .of_wp fun prog w A R s h => by obtain ⟨hp, g, d, tk, os⟩ := s; obtain ⟨hl, h⟩ := h; wp_walk using wpAny_loadPart' hl, wpAny_load hl; exact ⟨_, rfl, h⟩
theorem bool_no (b : Bool) (c : Value) (dd : Option Addr) (sl : Array (Option Value)) :
    Meets (Builtin.«int.__eq__» ⟨[.bool b, .ref x], []⟩) (fun _ R s => s.heap.get? x = some { cls := c, dict := dd, data := .plain, slots := sl } ∧ R (.ok (.ret .notImplemented)) s) :=
  .of_wp fun prog w A R s h => by obtain ⟨hp, g, d, tk, os⟩ := s; obtain ⟨hl, h⟩ := h; wp_walk using wpAny_loadPart' hl, wpAny_load hl; exact ⟨_, rfl, h⟩
theorem str_no (b : Str) (u : Tok) (c : Value) (dd : Option Addr) (sl : Array (Option Value)) :
    Meets (Builtin.«str.__eq__» ⟨[.str b u, .ref x], []⟩) (fun _ R s => s.heap.get? x = some { cls := c, dict := dd, data := .plain, slots := sl } ∧ R (.ok (.ret .notImplemented)) s) :=
  .of_wp fun prog w A R s h => by obtain ⟨hp, g, d, tk, os⟩ := s; obtain ⟨hl, h⟩ := h; wp_walk using wpAny_loadPart' hl, wpAny_load hl; exact ⟨_, rfl, h⟩
theorem list_no (items : Array Value) (n : Nat) (dd : Option Addr) (sl : Array (Option Value)) (c : Value) (dd' : Option Addr) (sl' : Array (Option Value)) :
    Meets (Builtin.«list.__eq__» ⟨[.ref l, .ref x], []⟩) (fun _ R s => s.heap.get? l = some { cls := .type "list", dict := dd, data := .seq items n, slots := sl } ∧ s.heap.get? x = some { cls := .ref C, dict := dd', data := .plain, slots := sl' }
      ∧ (K.In s.heap ∧ PySem.W.mroIn K C (.type "list") = some false) ∧ R (.ok (.ret .notImplemented)) s) :=
  .of_wp fun prog w A R s h => by
    obtain ⟨hp, g, d, tk, os⟩ := s
    obtain ⟨hl, hx, ⟨X, hm⟩, h⟩ := h
    have L := PySem.W.looks_mroIn (M := model prog w) X hm
    wp_walk using wpAny_loadPart' hl, wpAny_load hl, wpAny_loadPart' hx, wpAny_load hx, L.here
    exact ⟨_, rfl, h⟩
theorem tuple_no (items : Array Value) (n : Nat) (dd : Option Addr) (sl : Array (Option Value)) (c : Value) (dd' : Option Addr) (sl' : Array (Option Value)) :
    Meets (Builtin.«tuple.__eq__» ⟨[.ref l, .ref x], []⟩) (fun _ R s => s.heap.get? l = some { cls := .type "tuple", dict := dd, data := .seq items n, slots := sl } ∧ s.heap.get? x = some { cls := .ref C, dict := dd', data := .plain, slots := sl' }
      ∧ (K.In s.heap ∧ PySem.W.mroIn K C (.type "tuple") = some false) ∧ R (.ok (.ret .notImplemented)) s) :=
  .of_wp fun prog w A R s h => by
    obtain ⟨hp, g, d, tk, os⟩ := s
    obtain ⟨hl, hx, ⟨X, hm⟩, h⟩ := h
    have L := PySem.W.looks_mroIn (M := model prog w) X hm
    wp_walk using wpAny_loadPart' hl, wpAny_load hl, wpAny_loadPart' hx, wpAny_load hx, L.here
    exact ⟨_, rfl, h⟩
theorem dict_no (es : Array DictEntry) (n : Nat) (dd : Option Addr) (sl : Array (Option Value)) (c : Value) (dd' : Option Addr) (sl' : Array (Option Value)) :
    Meets (Builtin.«dict.__eq__» ⟨[.ref l, .ref x], []⟩) (fun _ R s => s.heap.get? l = some { cls := .type "dict", dict := dd, data := .dict es n, slots := sl } ∧ s.heap.get? x = some { cls := .ref C, dict := dd', data := .plain, slots := sl' }
      ∧ (K.In s.heap ∧ PySem.W.mroIn K C (.type "dict") = some false) ∧ R (.ok (.ret .notImplemented)) s) :=
  .of_wp fun prog w A R s h => by
    obtain ⟨hp, g, d, tk, os⟩ := s
    obtain ⟨hl, hx, ⟨X, hm⟩, h⟩ := h
    have L := PySem.W.looks_mroIn (M := model prog w) X hm
    wp_walk using wpAny_loadPart' hl, wpAny_load hl, wpAny_loadPart' hx, wpAny_load hx, L.here
    exact ⟨_, rfl, h⟩
end
end FL
namespace FL
open PySem PySem.Spec PyProof.Rows L2
/-! ### calls with keywords of defs without defaults -/
theorem kbn_of {K : PySem.W.Frag} {x qual : Str} {st : Stmt} {f : Addr} {fd : FuncData} {ps ks : List Str} {n : Nat} {g : List Value → List Value → List Value} {gV : List V → List V → List V} (F : Fun K x qual st f fd)
    (h : ∀ (kV doc pm : Value) (an : Option Addr) (cdv ct : Value) (us ws : List Value), us.length = n → ws.length = ks.length →
      bindArgs (PySem.W.fnOf x qual (defArgs st) (defBody st) (defScope st) .none kV doc pm an cdv ct) ⟨us, ks.zip ws⟩ = pure (ps.zip (g us ws)))
    (hr : ∀ {vs : List V} {us : List Value} {zs : List V} {ws : List Value}, Vals vs us → Vals zs ws → Vals (gV vs zs) (g us ws)) : KBn K fd ps n ks g gV := by
  obtain ⟨oc, od, kV, doc, pm, an, cdv, ct, osl, rfl, lk, hcd⟩ := F.ex
  exact ⟨fun s us ws _ l1 l2 => .of_eq (h kV doc pm an cdv ct us ws l1 l2), hr⟩
/-- one value ahead, two keywords the other way round -/
def swp {α : Type} : List α → List α → List α
  | [s], [r, z] => [s, z, r]
  | us, _ => us
theorem swp_rel {vs : List V} {us : List Value} {zs : List V} {ws : List Value} (a : Vals vs us) (b : Vals zs ws) : Vals (swp vs zs) (swp us ws) := by
  cases a with
  | nil => cases b <;> exact .nil
  | cons a1 a2 =>
    cases a2 with
    | nil =>
      cases b with
      | nil => exact .cons a1 .nil
      | cons b1 b2 =>
        cases b2 with
        | nil => exact .cons a1 .nil
        | cons b2 b3 =>
          cases b3 with
          | nil => exact .cons a1 (.cons b2 (.cons b1 .nil))
          | cons _ _ => exact .cons a1 .nil
    | cons a2 a3 => cases b <;> exact .cons a1 (.cons a2 a3)
/-! ### an instance called by a keyword -/
theorem callO_kw {M : Model} {A : Around} {E : Value → Shared → Prop} {s : Shared} {a : Addr} {pos : Pos} {Q : Value → Shared → Prop} {args : List (Bool × Sem Value)} {kws : List (Option Str × Sem Value)}
    (hp : (args.any (·.1) || kws.any (·.1.isNone)) = false)
    (h : wpAny M A (evalArgs (.ref a) true args kws) (fun z s1 => (∃ C ox od, PySem.W.InstAt s1.heap a ox C od ∧ ox.data = .plain) ∧ wpAny M A (call (.ref a) z.pos z.kw) Q E s1) E s) :
    wpAny M A (callWith pos (.ref a) [] args kws) Q E s := by
  unfold callWith
  refine wpAny_bind (wpAny_holding (wpAny_mono h (fun z s1 hz => ?_) fun _ _ e => e))
  obtain ⟨⟨C, ox, od, J, hd⟩, hz⟩ := hz
  refine wpAny_bind (wpAny_standAt ?_)
  have L := PySem.W.kco_keeper (M := M) J hd
  simp only [hp]
  refine wpAny_bind (L.here ?_)
  exact wpAny_bind (wpAny_operateT (wpAny_mono hz (fun r s2 hr => wpAny_bind (wpAny_holding (wpAny_point (wpAny_pure hr)))) fun _ _ e => e))
section
variable {X : Cx} {pins : List (Addr × Obj)} {σ : L2.St} {H : Hp} {s : Shared} {k : Nat} {f C g : Addr} {fd : FuncData} {ps ks : List Str} {sp : Sp} {Q : VK} {E : XK}
/-- o(k = v), o an instance of C -/
def tCallOK (C : Addr) (m : Nat) (sp : Sp) (gV : List V → List V → List V) (E : XK) (tf : TE) (tk : TA) : TE := fun σ H Q => tf σ H fun y H1 => ∃ a, y = V.ref a ∧
  tk σ H1 fun zs H2 => zs.length = m ∧ (∃ dx fs, H2 a = some (.ins C dx fs)) ∧ sp (gV [.ref a] zs) H2 Q E
theorem pe_callOK {fe : Expr} {kws : List Keyword} {pos : Pos} {tf : TE} {tk : TA} {gg : List Value → List Value → List Value} {gV : List V → List V → List V} (hf : PE X fe tf) (c : StX.CallO X.K C g)
    (F : FnOk X.prog X.w X.K X.mg X.base CX0 k g fd ps sp) (hb : KBn X.K fd ps 1 ks gg gV) (hr : Room k X.A) (hkw : PK X kws tk)
    (hall : (backToKw pos (keywordEach kws X.env)).all (·.1.isSome) = true := by rfl) (hks : (backToKw pos (keywordEach kws X.env)).filterMap (·.1) = ks := by rfl)
    (ht : eval (.Call fe [] kws pos) X.env = (do callWith pos (← eval fe X.env) [] (backTo pos (starEach [] X.env)) (backToKw pos (keywordEach kws X.env))) := by rfl)
    (hpl : ((backTo pos (starEach [] X.env)).any (·.1) || (backToKw pos (keywordEach kws X.env)).any (·.1.isNone)) = false := by rfl) :
    PE X (.Call fe [] kws pos) (tCallOK C ks.length sp gV E tf tk) := by
  refine ⟨fun pins s σ H Q I h => ?_⟩
  rw [ht]
  refine wpAny_bind (thn (hf.run pins s σ H _ I h) fun u s1 hu => ?_)
  obtain ⟨y, H1, I1, ry, a, ey, q⟩ := hu
  subst ey
  obtain rfl : u = Value.ref a := ry
  refine callO_kw hpl (evalArgs_kw2_nil hall (thn (hkw.run pos pins s1 σ H1 _ I1 q) fun ws s2 hw => ?_))
  obtain ⟨zs, H2, I2, rz, l2, ⟨dx, fs, ha⟩, q2⟩ := hw
  rw [hks]
  obtain ⟨ox, od, J, hd⟩ := StX.insC_at I2 (.inr ⟨dx, fs, ha⟩)
  refine ⟨⟨C, ox, od, J, hd⟩, ?_⟩
  have rs : Vals [V.ref a] [Value.ref a] := .cons rfl .nil
  refine wpAny_call (PySem.W.kco_code I2.kIn J hd c.at_ c.fn c.fi ?_)
  refine codeAny_mono (F.run X.A X.stack s2 H2 ⟨[.ref a], ks.zip ws⟩ (gg [.ref a] ws) (gV [.ref a] zs) Q E hr I2.env0 (hb.to s2 [.ref a] ws I2.kIn rfl (rz.length.symm.trans l2)) (hb.rel rs rz) q2) fun r s' hq => ?_
  cases r with
  | error e => exact False.elim hq
  | ok fl =>
    cases fl with
    | ret u => exact I2.after hq
    | next => exact False.elim hq
    | brk => exact False.elim hq
    | cont => exact False.elim hq
/-! ### == and != by an own == -/
/-- a value of another kind, or an instance of C -/
def Sec (C : Addr) (H : Hp) (y : V) : Prop := (∃ n, Any H y n) ∨ ∃ b dx fs, y = .ref b ∧ H b = some (.ins C dx fs)
structure EqT (K : PySem.W.Frag) (C f : Addr) (fd : FuncData) : Prop where
  cl : Cls K C
  at_ : PySem.W.findIn K (.ref C) "__eq__" = some (some (.ref f))
  fn : PySem.W.isFn K (.ref f) = true
  bd : Binds K fd ["self", "other"] []
  kin : ∀ n ∈ kinds, PySem.W.mroIn K C (.type n) = some false
  ne : PySem.W.findIn K (.ref C) "__ne__" = some (some (.builtin "object.__ne__"))
  ob : PySem.W.mroIn K C (.type "object") = some true
theorem not_first {K : PySem.W.Frag} {C : Addr} {n : String} (h : n ∈ kinds) : PySem.W.notFirst K C (.type n) = true := by
  have h' : ((fastBuiltinMro n).map fun l => l.contains (.ref C)) = some false := by
    simp only [kinds, List.mem_cons, List.mem_nil_iff, or_false] at h
    rcases h with rfl | rfl | rfl | rfl | rfl | rfl | rfl <;> kernel_rfl
  show (_ || (((fastBuiltinMro n).map fun l => l.contains (.ref C)) == some false)) = true
  rw [h']
  simp
theorem sec_type {u : Value} {y : V} (I : Inv X pins σ H s) (r : RelV y u) (h : Sec C H y) : ∃ tb, PySem.W.Looks (model X.prog X.w) s.heap (typeOf u) tb ∧ PySem.W.notFirst X.K C tb = true := by
  rcases h with ⟨n, an⟩ | ⟨b, dx, fs, rfl, hb⟩
  · obtain ⟨P, Z, p, _⟩ := kit_of I r an.tyx
    exact ⟨_, Z.ty _ _ I.kIn p, not_first an.kind⟩
  · obtain rfl : u = Value.ref b := r
    obtain ⟨mB, J, _⟩ := ins_get I.hok hb
    obtain ⟨od, J, _⟩ := J.look
    exact ⟨_, J.type, by simp [PySem.W.notFirst]⟩
def rEqO (C : Addr) (sp : Sp) : R2 := fun x y H Q => ∃ a dx fs, x = .ref a ∧ H a = some (.ins C dx fs) ∧ Sec C H y ∧ sp [x, y] H (fun v H' => ∃ b, v = .bl b ∧ Q (.bl b) H') E0
theorem op_eqO (T : EqT X.K C f fd) (Fk : FnOk X.prog X.w X.K X.mg X.base CX0 k f fd ["self", "other"] sp) (hr : Room k X.A) : OpR X (compareOp .Eq) (rEqO C sp) := by
  intro pins s σ H x y v u Q I rx ry h
  obtain ⟨a, dx, fs, rfl, ha, sc, q⟩ := h
  obtain rfl : v = Value.ref a := rx
  obtain ⟨tb, lb, nf⟩ := sec_type I ry sc
  obtain ⟨mA, J, _⟩ := ins_get I.hok ha
  obtain ⟨od, J, _⟩ := J.look
  obtain ⟨m, hF⟩ := I.fr
  show wpAny _ _ (richCompare .Eq (.ref a) u) _ _ _
  refine PySem.W.cmp_K (op := .Eq) hr.units0 hF I.ok.mod.kin J lb nf T.at_ T.fn ?_
  have rr : Vals [V.ref a, y] [Value.ref a, u] := .cons rfl (.cons ry .nil)
  refine wpAny_mono (wpAny_call (run_fnR (Fk.raw T.bd .nil) hr pass0 I rr q)) ?_ fun _ _ e => e
  rintro w s2 ⟨z, H2, I2, rz, b, rfl, qb⟩
  obtain rfl : w = Value.bool b := rz
  exact ⟨.bl b, H2, I2, rfl, qb⟩
/-- != of an instance and another value -/
def rNeO (C : Addr) (sp : Sp) : R2 := fun x y H Q => ∃ a dx fs, x = .ref a ∧ H a = some (.ins C dx fs) ∧ Sec C H y ∧ sp [x, y] H (fun v H' => ∃ b, v = .bl b ∧ Q (.bl !b) H') E0
theorem slot_obj_ne : Slot "object" "__ne__" "object.__ne__" :=
  Slot.of (T := "object") (name := "__ne__") (owner := "object") (n := "__ne__") (by rw [typeLookup_type, builtinLookup_eq_fast]; kernel_rfl) (by decide +kernel) (by decide +kernel) (by decide +kernel) (.inl (by decide +kernel)) (by rw [isSubtype_type]; kernel_rfl)
theorem op_neO (T : EqT X.K C f fd) (Fk : FnOk X.prog X.w X.K X.mg X.base CX0 k f fd ["self", "other"] sp) (hr : Room (k + 2) X.A) : OpR X (compareOp .NotEq) (rNeO C sp) := by
  intro pins s σ H x y v u Q I rx ry h
  obtain ⟨a, dx, fs, rfl, ha, sc, q⟩ := h
  obtain rfl : v = Value.ref a := rx
  obtain ⟨tb, lb, nf⟩ := sec_type I ry sc
  obtain ⟨mA, J, _⟩ := ins_get I.hok ha
  obtain ⟨od, J, _⟩ := J.look
  show wpAny _ _ (richCompare .NotEq (.ref a) u) _ _ _
  have rr : Vals [V.ref a, y] [Value.ref a, u] := .cons rfl (.cons ry .nil)
  have inner : wpAny (model X.prog X.w) X.A (call (.builtin "object.__ne__") [.ref a, u]) (PySem.W.CmpBack (EP X pins σ Q)) X.xe s := by
    have sub : PySem.W.Looks (model X.prog X.w) s.heap (isInstance (.ref a) (.type "object")) true := J.type.andThen (PySem.W.looks_mroIn I.kIn T.ob)
    refine wpAny_call (codeAny_call_builtin slot_obj_ne.plain PySem.F.cmpEntry_ne (PySem.W.check_slot PySem.F.cmpKind_ne PySem.F.cmpSplit_ne sub (PySem.F.cmpArgs_ne _ _) ?_))
    unfold Builtin.«object.__ne__»
    repeat (first | with_reducible refine wpAny_cRoomFor hr.in1.units0 ?_ | with_reducible refine PySem.W.ifBound_K I.kIn J T.at_ T.fn ?_ | wp_step)
    have c1 : codeAny (model X.prog X.w) X.A.in1 (.call (.ref f) ⟨[.ref a, u], []⟩) (fun r s' => ∃ w, r = .ok (.ret w) ∧ EP X pins σ (fun v H' => ∃ b, v = V.bl b ∧ Q (V.bl !b) H') w s') s := by
      have hb := T.bd s [.ref a, u] I.kIn rfl
      refine codeAny_mono (Fk.run X.A.in1 X.stack s H ⟨[.ref a, u], []⟩ [.ref a, u] [.ref a, y] _ E0 (hr.mono (Nat.le_succ _)).in1 I.env0.in1 hb rr q) ?_
      rintro (er | fl) s2 z
      · exact False.elim z
      · cases fl with
        | ret w => exact ⟨w, rfl, I.after z⟩
        | _ => exact False.elim z
    refine codeAny_mono c1 ?_
    rintro r s2 ⟨w, rfl, z, H2, I2, rz, b, rfl, qb⟩
    obtain rfl : w = Value.bool b := rz
    refine wpAny_bind (wpAny_truthy_bool (wpAny_pure ?_))
    exact ⟨.bl !b, H2, I2, rfl, qb⟩
  have X0 := I.kIn
  have one : wpAny (model X.prog X.w) X.A (tryCompare (.ref a) "__ne__" u) (fun r s' => ∃ v, r = some v ∧ EP X pins σ Q v s') X.xe s := by
    unfold tryCompare callSpecialIfBound? bindSpecialIfBound?
    refine wpAny_bind (wpAny_holding (wpAny_bind (wpAny_bind (wpAny_bind (J.type.here ((PySem.W.looks_findIn X0 T.ne).here ?_))))))
    have fin : wpAny (model X.prog X.w) X.A (call (.builtin "object.__ne__") ([.ref a] ++ [u]) >>= fun v => pure (some v))
        (fun r s' => wpAny (model X.prog X.w) X.A (match r with | some .notImplemented | none => pure none | some v => pure (some v)) (fun r s' => ∃ v, r = some v ∧ EP X pins σ Q v s') X.xe s') X.xe s := by
      refine wpAny_bind (wpAny_mono inner (fun v s2 hv => wpAny_pure ?_) fun _ _ e => e)
      cases v <;> first | exact hv.elim | exact wpAny_pure ⟨_, rfl, hv⟩
    simp only [slot_obj_ne.bind]
    refine wpAny_bind (wpAny_askSetting (wpAny_ite ?_))
    split
    · exact wpAny_bind (wpAny_pure (wpAny_pure fin))
    · exact wpAny_tryCatch (wpAny_bind (wpAny_pure (wpAny_pure fin)))
  unfold richCompare
  simp only [oneThing_ref]
  refine wpAny_holding (wpAny_bind (wpAny_cRoomFor hr.units0 ?_))
  refine wpAny_bind (J.type.here (wpAny_bind (lb.here ?_)))
  split
  · rename_i qne
    have e : PySem.W.subIn X.K tb (.ref C) = some false := by
      rcases Bool.or_eq_true_iff.mp nf with e | e
      · rw [beq_iff_eq.mp e] at qne
        simp at qne
      · exact beq_iff_eq.mp e
    refine wpAny_bind ((PySem.W.looks_subIn X0 e).here ?_)
    simp only [Bool.false_eq_true, if_false]
    refine wpAny_bind (wpAny_mono one (fun r s2 hz => ?_) fun _ _ e => e)
    obtain ⟨v, rfl, hv⟩ := hz
    exact wpAny_pure hv
  · refine wpAny_bind (wpAny_pure ?_)
    simp only [Bool.false_eq_true, if_false]
    refine wpAny_bind (wpAny_mono one (fun r s2 hz => ?_) fun _ _ e => e)
    obtain ⟨v, rfl, hv⟩ := hz
    exact wpAny_pure hv
end
end FL
namespace FL
open PySem PySem.Spec PyProof.Rows L2
section
variable {x C : Addr}
theorem none_no (c : Value) (dd : Option Addr) (sl : Array (Option Value)) :
    Meets (Builtin.«NoneType.__eq__» ⟨[.none, .ref x], []⟩) (fun _ R s => s.heap.get? x = some { cls := c, dict := dd, data := .plain, slots := sl } ∧ R (.ok (.ret .notImplemented)) s) :=
  .of_wp fun prog w A R s h => by obtain ⟨hp, g, d, tk, os⟩ := s; obtain ⟨hl, h⟩ := h; wp_walk using wpAny_loadPart' hl, wpAny_load hl; exact ⟨_, rfl, h⟩
end
section
variable {X : Cx} {pins : List (Addr × Obj)} {σ : L2.St} {H : Hp} {s : Shared} {k : Nat} {f C : Addr} {fd : FuncData} {sp : Sp}
/-- a value of another kind == an instance -/
def rEqR (C : Addr) (sp : Sp) : R2 := fun x y H Q => ∃ a dx fs n, y = .ref a ∧ H a = some (.ins C dx fs) ∧ Any H x n ∧ sp [y, x] H (fun v H' => ∃ b, v = .bl b ∧ Q (.bl b) H') E0
theorem op_eqR (T : EqT X.K C f fd) (Fk : FnOk X.prog X.w X.K X.mg X.base CX0 k f fd ["self", "other"] sp) (hr : Room k X.A) : OpR X (compareOp .Eq) (rEqR C sp) := by
  intro pins s σ H x y v u Q I rx ry h
  obtain ⟨a, dx, fs, n, rfl, ha, an, q⟩ := h
  obtain rfl : u = Value.ref a := ry
  obtain ⟨mA, O, _⟩ := ins_get I.hok ha
  obtain ⟨od, J, _⟩ := O.look
  have hx : s.heap.get? a = some (PySem.W.instObj C dx) := J.at_
  show wpAny _ _ (richCompare .Eq v (.ref a)) _ _ _
  have rr : Vals [V.ref a, x] [Value.ref a, v] := .cons rfl (.cons rx .nil)
  have hu := hr.units0
  have km := T.kin n an.kind
  have own : wpAny (model X.prog X.w) X.A (call (.ref f) [.ref a, v]) (PySem.W.CmpBack (EP X pins σ Q)) X.xe s := by
    refine wpAny_mono (wpAny_call (run_fnR (Fk.raw T.bd .nil) hr pass0 I rr q)) ?_ fun _ _ e => e
    rintro w s2 ⟨z, H2, I2, rz, b, rfl, qb⟩
    obtain rfl : w = Value.bool b := rz
    exact ⟨.bl b, H2, I2, rfl, qb⟩
  cases an with
  | non =>
    obtain rfl : v = Value.none := rx
    exact rc_own (T := "NoneType") rfl I.kIn J km PySem.F.slot_NoneType_eq (fun Q' hq => call_meets PySem.F.slot_NoneType_eq rfl PySem.F.entry_NoneType_eq (PySem.F.args_NoneType_eq_2 _ _) (none_no _ _ _) ⟨hx, hq⟩) T.at_ T.fn hu own
  | bl b =>
    obtain rfl : v = Value.bool b := rx
    exact rc_own (T := "bool") rfl I.kIn J km PySem.F.slot_bool_eq (fun Q' hq => call_meets PySem.F.slot_bool_eq rfl PySem.F.entry_int_eq (PySem.F.args_int_eq_2 _ _) (bool_no _ _ _ _) ⟨hx, hq⟩) T.at_ T.fn hu own
  | int i =>
    obtain ⟨t, rfl⟩ := rx
    exact rc_own (T := "int") (typeIs_int s i t) I.kIn J km PySem.F.slot_int_eq (fun Q' hq => call_meets PySem.F.slot_int_eq (typeIs_int s i t) PySem.F.entry_int_eq (PySem.F.args_int_eq_2 _ _) (int_no _ _ _ _ _) ⟨hx, hq⟩) T.at_ T.fn hu own
  | str z =>
    obtain ⟨t, rfl⟩ := rx
    exact rc_own (T := "str") (typeIs_str s z t) I.kIn J km PySem.F.slot_str_eq (fun Q' hq => call_meets PySem.F.slot_str_eq (typeIs_str s z t) PySem.F.entry_str_eq (PySem.F.args_str_eq_2 _ _) (str_no _ _ _ _ _) ⟨hx, hq⟩) T.at_ T.fn hu own
  | @lst l xs e =>
    obtain rfl : v = Value.ref l := rx
    obtain ⟨_, its, m, _, hl⟩ := I.hok l _ e
    have ty : s.TypeIs (.ref l) "list" := ⟨_, hl, rfl⟩
    exact rc_own (T := "list") ty I.kIn J km PySem.F.slot_list_eq (fun Q' hq => call_meets PySem.F.slot_list_eq ty PySem.F.entry_list_eq (PySem.F.args_list_eq_2 _ _) (list_no _ _ _ _ .none _ _) ⟨hl, hx, ⟨I.kIn, km⟩, hq⟩) T.at_ T.fn hu own
  | @tup l xs e =>
    obtain rfl : v = Value.ref l := rx
    obtain ⟨_, its, _, o, hl, hc, m, hd⟩ := I.hok l _ e
    obtain ⟨cls, dd, data, sl⟩ := o
    simp only at hc hd
    subst hc hd
    have ty : s.TypeIs (.ref l) "tuple" := ⟨_, hl, rfl⟩
    exact rc_own (T := "tuple") ty I.kIn J km PySem.F.slot_tuple_eq (fun Q' hq => call_meets PySem.F.slot_tuple_eq ty PySem.F.entry_tuple_eq (PySem.F.args_tuple_eq_2 _ _) (tuple_no _ _ _ _ .none _ _) ⟨hl, hx, ⟨I.kIn, km⟩, hq⟩) T.at_ T.fn hu own
  | @dct l kvs e =>
    obtain rfl : v = Value.ref l := rx
    obtain ⟨_, _, vs, _, o, es, ep, hl, he, hd, _⟩ := I.hok l _ e
    obtain ⟨cls, dd, data, sl⟩ := o
    obtain ⟨hc, _⟩ := he
    simp only at hc hd
    subst hc hd
    have ty : s.TypeIs (.ref l) "dict" := ⟨_, hl, rfl⟩
    exact rc_own (T := "dict") ty I.kIn J km PySem.F.slot_dict_eq (fun Q' hq => call_meets PySem.F.slot_dict_eq ty PySem.F.entry_dict_eq (PySem.F.args_dict_eq_2 _ _) (dict_no _ _ _ _ .none _ _) ⟨hl, hx, ⟨I.kIn, km⟩, hq⟩) T.at_ T.fn hu own
end
end FL
namespace FL
open PySem PySem.Spec PyProof.Rows L2
/-! ### what a relay's methods promise -/
structure IsT (K : PySem.W.Frag) (C : Addr) : Prop where
  cl : Cls K C
  ha : PySem.W.findIn K (.ref C) "__class__" = some (some (.builtin "object.__class__"))
  hm : PySem.W.mroIn K C (.type "object") = some true
  self : PySem.W.kitOne K (.ref C) (.ref C) = some true
  oth : ∀ n ∈ kinds, PySem.W.kitOne K (.type n) (.ref C) = some false
theorem IsT.ins {K : PySem.W.Frag} {C a dx : Addr} {H : Hp} {fs : List (Str × V)} (T : IsT K C) (e : H a = some (.ins C dx fs)) : TyX K H (.ref a) (.ref C) :=
  .base (.ins e T.cl T.ha (by kernel_rfl) (by kernel_rfl) T.hm)
/-- rules that are plain and not too long -/
def RP (b : Nat) (rs : List Rule) : Prop := ∀ r ∈ rs, Plain r.old ∧ Plain r.new ∧ r.old.length ≤ b ∧ r.new.length ≤ b
def rsEq (a b : List Rule) : Bool := PyData.eqvAll (a.map ruleD) (b.map ruleD)
theorem rsEq_iff {a b : List Rule} : rsEq a b = true ↔ a = b := eqv_rules a b
theorem rsEq_self (a : List Rule) : rsEq a a = true := rsEq_iff.mpr rfl
theorem rsEq_comm (a b : List Rule) : rsEq a b = rsEq b a := by
  cases h : rsEq a b with
  | true =>
    rw [rsEq_iff] at h
    rw [h, rsEq_self]
  | false =>
    cases h2 : rsEq b a with
    | false => rfl
    | true =>
      rw [rsEq_iff] at h2
      rw [h2, rsEq_self] at h
      cases h
def spGet (C : Addr) : Sp := fun vs H Q _ => ∃ (p : Addr) (z : Str) (rs : List Rule), vs = [.ref p] ∧ RelayAt C H p z rs ∧ Q (.str z) H
def spRules (C : Addr) : Sp := fun vs H Q _ => ∃ (p : Addr) (z : Str) (rs : List Rule), vs = [.ref p] ∧ RelayAt C H p z rs ∧
  ∀ (D : Addr) (xs : List V) (H' : Hp), H D = none → H' D = some (.lst xs) → RulesAt H' xs rs → Same H H' → Q (.ref D) H'
def spCall (C : Addr) : Sp := fun vs H Q _ => ∃ (p : Addr) (z : Str) (rs : List Rule) (y : Str), vs = [.ref p, .str y] ∧ RelayAt C H p z rs ∧ Over z y ∧ y.length ≤ 100000 ∧
  (∀ r ∈ rs, r.old.length ≤ 40 ∧ r.new.length ≤ 1000) ∧ ∀ H', Same H H' → Q (.str (turn rs y)) H'
def spEqR (C : Addr) : Sp := fun vs H Q _ => ∃ (p : Addr) (z : Str) (rs : List Rule) (b : Nat) (v : V), vs = [.ref p, v] ∧ RelayAt C H p z rs ∧ RP b rs ∧
  ((∃ n, Any H v n ∧ Q (.bl false) H) ∨ ∃ (q : Addr) (rs' : List Rule), v = .ref q ∧ RelayAt C H q z rs' ∧ RP b rs' ∧ Q (.bl (rsEq rs rs')) H)
def reprR (z : Str) (rs : List Rule) : Str := (((((Str.empty ++ Str.ofString "Relay(") ++ reprText z) ++ Str.ofString ", ") ++ (PyData.list (rs.map ruleD)).shown) ++ Str.ofString ")")
def spReprR (C : Addr) : Sp := fun vs H Q _ => ∃ (p : Addr) (z : Str) (rs : List Rule), vs = [.ref p] ∧ RelayAt C H p z rs ∧ Abc z ∧ RP 40 rs ∧ rs.length ≤ 400 ∧ Q (.str (reprR z rs)) H
theorem repr_abc {z : Str} (h : Abc z) : (reprText z).length ≤ 42 := by
  have h1 := (Sm.str (h.plain fun c hc => hc)).len
  have h2 : (reprText z).length ≤ 10 * z.length + 2 := h1
  have := h.hi
  omega
theorem RP.sm {b : Nat} {rs : List Rule} (h : RP b rs) : Sm ((20 * b + 77) * rs.length + 2) (.list (rs.map ruleD)) := Sm.rules h
theorem RP.sm40 {rs : List Rule} (h : RP 40 rs) (l : rs.length ≤ 400) : Sm 400000 (.list (rs.map ruleD)) := (RP.sm h).mono (by omega)
end FL
namespace FL
open PySem PySem.Spec PyProof.Rows L2
/-! ### a def by its name, all that a caller needs of it -/
structure Ca (P : Program) (w : World) (K : PySem.W.Frag) (mg : Str → Option Value) (base : Heap) (x : Str) (k : Nat) (ps : List Str) (sp : Sp) : Prop where
  ex : ∃ f fd, FnOk P w K mg base CX0 k f fd ps sp ∧ Binds K fd ps [] ∧ PySem.W.keepIn K (.ref f) = true ∧ mg x = some (.ref f)
structure CaG (P : Program) (w : World) (K : PySem.W.Frag) (mg : Str → Option Value) (base : Heap) (x : Str) (k : Nat) (ps : List Str) (sp : Sp) : Prop where
  ex : ∃ f fd, FnG P w K mg base CX0 k f fd ps sp ∧ Binds K fd ps [] ∧ PySem.W.keepIn K (.ref f) = true ∧ mg x = some (.ref f)
section
variable {X : Cx} {x : Str} {k : Nat} {ps : List Str} {sp : Sp} {p pos : Pos} {e : Expr} {es : List Expr} {t : TA}
theorem pe_ca (c : Ca X.prog X.w X.K X.mg X.base x k ps sp) (hr : Room k X.A) (hg : Gl X x) (ha : PA X (e :: es) t)
    (hdb : (x == ("__debug__" : Str)) = false := by decide) (he : starEach (e :: es) X.env = (false, eval e X.env) :: starEach es X.env := by rfl) (hpl : (backTo pos (starEach es X.env)).any (·.1) = false := by rfl) :
    PE X (.Call (.Name x p) (e :: es) [] pos) (tCall sp [] E0 t) := by
  obtain ⟨f, fd, F, b, kp, m⟩ := c.ex
  exact pe_call F hr hg m kp b .nil pass0 ha hdb he hpl
theorem pe_cg (c : CaG X.prog X.w X.K X.mg X.base x k ps sp) (hr : Room k X.A) (hG : X.A.guards = some []) (hg : Gl X x) (ha : PA X (e :: es) t)
    (hdb : (x == ("__debug__" : Str)) = false := by decide) (he : starEach (e :: es) X.env = (false, eval e X.env) :: starEach es X.env := by rfl) (hpl : (backTo pos (starEach es X.env)).any (·.1) = false := by rfl) :
    PE X (.Call (.Name x p) (e :: es) [] pos) (tCall sp [] E0 t) := by
  obtain ⟨f, fd, F, b, kp, m⟩ := c.ex
  exact pg_call F hr hG hg m kp b .nil pass0 ha hdb he hpl
end
/-! ### the class Relay, all that its users need -/
structure RelF (P : Program) (w : World) (K : PySem.W.Frag) (mg : Str → Option Value) (base : Heap) where
  C : Addr
  T : RTxt K mg C
  I : IsT K C
  fi : Addr
  di : FuncData
  mkc : Mk K C fi
  oi : FnOk P w K mg base CX0 5 fi di ["self", "signs", "rules"] (spInit C)
  bi : Binds K di ["self", "signs", "rules"] []
  ki : KBn K di ["self", "signs", "rules"] 1 ["rules", "signs"] swp swp
  fp : Addr
  fg : Addr
  dg : FuncData
  pr : PropOf K C "signs" fp fg
  og : FnOk P w K mg base CX0 1 fg dg ["self"] (spGet C)
  bg : Binds K dg ["self"] []
  fr : Addr
  dr : FuncData
  mr : Meth K C "rules" fr
  or_ : FnOk P w K mg base CX0 1 fr dr ["self"] (spRules C)
  br : Binds K dr ["self"] []
  fc : Addr
  dc : FuncData
  cc : StX.CallO K C fc
  oc : FnOk P w K mg base CX0 3 fc dc ["self", "line"] (spCall C)
  bc : Binds K dc ["self", "line"] []
  kc : KBn K dc ["self", "line"] 1 ["line"] (fun us ws => us ++ ws) (fun vs zs => vs ++ zs)
  fe : Addr
  de : FuncData
  te : EqT K C fe de
  oe : FnOk P w K mg base CX0 1 fe de ["self", "other"] (spEqR C)
  fz : Addr
  dz : FuncData
  zs : PySem.W.findIn K (.ref C) "__repr__" = some (some (.ref fz))
  zf : PySem.W.isFn K (.ref fz) = true
  oz : FnG P w K mg base CX0 1 fz dz ["self"] (spReprR C)
  bz : Binds K dz ["self"] []
theorem make_read {C : Addr} {H : Hp} {Q : VK} {z : Str} {v : V} {rs : List Rule} (hz : Abc z) (ra : RuArg H v rs) (ok : ∀ r ∈ rs, RuleOk z 40 r) (l : rs.length ≤ 400)
    (k : ∀ (x : Addr) (H' : Hp), H x = none → RelayAt C H' x z rs → Same H H' → Q (.ref x) H') :
    ∀ x dx, H x = none → H dx = none → dx ≠ x → spInit C [.ref x, .str z, v] (upd (upd H dx (.own x)) x (.ins C dx [])) (fun v H3 => v = .non ∧ Q (.ref x) H3) E0 := by
  intro x dx hx hd hne
  have s2 : Same H (upd (upd H dx (.own x)) x (.ins C dx [])) := ((Same.refl H).upd hd).upd hx
  refine ⟨x, dx, z, v, rs, rfl, upd_same, hz, ?_, ok, l, fun H' ra' rel _ b => ⟨rfl, k x H' hx rel.at_ fun c o e => b c o (s2 c o e) (ne_of_none e hx)⟩⟩
  obtain ⟨a, xs, t, rfl, ea, hrs⟩ := ra
  exact ⟨a, xs, t, rfl, s2 _ _ ea, Same.rules s2 hrs⟩
theorem RelayAt.ins {C : Addr} {H : Hp} {p : Addr} {z : Str} {rs : List Rule} (h : RelayAt C H p z rs) : ∃ dx fs, H p = some (.ins C dx fs) ∧ ∀ {m : Str}, ¬ m = Str.ofString "_index" → ¬ m = Str.ofString "_rules" → ¬ m = Str.ofString "_signs" → fs.lookup m = none := by
  obtain ⟨dx, ra, ia, xs, h1, _⟩ := h
  exact ⟨dx, _, h1, fun a b c => flds_no z ra ia a b c⟩
theorem rules_no : ¬ (Str.ofString "rules") = Str.ofString "_index" ∧ ¬ (Str.ofString "rules") = Str.ofString "_rules" ∧ ¬ (Str.ofString "rules") = Str.ofString "_signs" := by decide +kernel
end FL
namespace FL
open PySem PySem.Spec PyProof.Rows L2
theorem RelayAt.nn {C : Addr} {H : Hp} {p : Addr} {z : Str} {rs : List Rule} (h : RelayAt C H p z rs) : H p ≠ none := by
  obtain ⟨dx, fs, e, _⟩ := h.ins
  rw [e]
  exact fun q => nomatch q
/-- what the law asks of the rules of a relay -/
structure Deal (K : PySem.W.Frag) (H : Hp) (D : Addr) (z : Str) (rs : List Rule) : Prop where
  az : Abc z
  ex : ∃ xs, H D = some (.lst xs) ∧ RulesAt H xs rs
  ok : ∀ r ∈ rs, RuleOk z 30 r
  le : rs.length ≤ 100
theorem Deal.rp {K : PySem.W.Frag} {H : Hp} {D : Addr} {z : Str} {rs : List Rule} (d : Deal K H D z rs) : RP 40 rs := fun r hr => by
  have o := d.ok r hr
  exact ⟨d.az.plain o.o1, d.az.plain o.n1, Nat.le_trans o.o2 (by decide), Nat.le_trans o.n2 (by decide)⟩
theorem _root_.L2.Same.sqL {K : PySem.W.Frag} {q : Addr} {H H' : Hp} {xs : List V} (b : Same H H') (h : SqL K H q xs) : SqL K H' q xs := by
  rcases h with (h | ⟨o, h⟩) | h
  · exact .inl (.inl (b _ _ h))
  · exact .inl (.inr ⟨o, b _ _ h⟩)
  · exact .inr h
theorem Deal.same {K : PySem.W.Frag} {H H' : Hp} {D : Addr} {z : Str} {rs : List Rule} (d : Deal K H D z rs) (s : Same H H') : Deal K H' D z rs := by
  obtain ⟨xs, h1, h2⟩ := d.ex
  exact ⟨d.az, ⟨xs, s _ _ h1, Same.rules s h2⟩, d.ok, d.le⟩
def spTold (K : PySem.W.Frag) (C : Addr) : Sp := fun vs H Q _ => ∃ (z : Str) (D p : Addr) (rs : List Rule), vs = [.str z, .ref D, .ref p] ∧ Deal K H D z rs ∧ RelayAt C H p z rs ∧
  ∀ H', Same H H' → Q (.bl true) H'
/-- the shown text of rules -/
def shR (rs : List Rule) : Str := (PyData.list (rs.map ruleD)).shown
theorem Deal.sm {K : PySem.W.Frag} {H : Hp} {D : Addr} {z : Str} {rs : List Rule} (d : Deal K H D z rs) : Sm 400000 (.list (rs.map ruleD)) := d.rp.sm40 (Nat.le_trans d.le (by decide))
theorem Deal.sh {K : PySem.W.Frag} {H : Hp} {D : Addr} {z : Str} {rs : List Rule} (d : Deal K H D z rs) : Sh K H (.ref D) (.list (rs.map ruleD)) := by
  obtain ⟨xs, h1, h2⟩ := d.ex
  exact .inl ⟨dp_list (SqL.of h1) h2, d.sm.nd⟩
theorem sh_str {K : PySem.W.Frag} {H : Hp} (y : Str) : Sh K H (.str y) (.str y) := .inl ⟨.str y, rfl⟩
theorem nice_str {y : Str} (h : Plain y) (l : y.length ≤ 1000000) : NiceD (.str y) := (Sm.str h).nice (by
  have sz : sizeLine = 16777216 := rfl
  omega)
end FL
namespace FL
open PySem PySem.Spec PyProof.Rows L2
theorem empty_app (x : Str) : Str.empty ++ x = x := by
  apply Str_ext
  rw [Str.cps_append, Array.toList_append]
  rfl
theorem reprR_eq (z : Str) (rs : List Rule) : reprR z rs = (((Str.ofString "Relay(" ++ (PyData.str z).shown) ++ Str.ofString ", ") ++ (PyData.list (rs.map ruleD)).shown) ++ Str.ofString ")" := by
  show (((((Str.empty ++ Str.ofString "Relay(") ++ (PyData.str z).shown) ++ Str.ofString ", ") ++ (PyData.list (rs.map ruleD)).shown) ++ Str.ofString ")") = _
  rw [empty_app]
end FL
namespace K70
open PySem PySem.Spec PyProof.Rows L2 FL LamX
abbrev sRef : Stmt := topS 25
abbrev nRef : List Str := ["_law_pot_here", "_law_glyphs", "_law_verse", "_law_alien", "_law_strange", "_law_odd", "_law_told", "_law_due"]
theorem scRef : FnScope nRef ["_law_pot_here", "_law_glyphs", "_law_verse"] (defScope sRef) := ⟨rfl, rfl, rfl, by decide +kernel, rfl, by decide +kernel, by decide +kernel⟩
def chk (y : Str) (w k : Nat) : Str := ⟨((y.cps.toList.drop (k * w)).take w).toArray⟩
def piecesL (y : Str) (w : Nat) : List Str := if y.length ≤ w then [y] else (List.range ((y.length + w - 1) / w)).map (chk y w)
/-- pieces(signs, line, width), of values of any kind -/
def spPieces (CS CL CW : Addr) : Sp := fun vs H Q E => ∃ (a b c : V) (na nb nc : String), vs = [a, b, c] ∧ Any H a na ∧ Any H b nb ∧ Any H c nc ∧ Short a ∧ Short b ∧ Short c ∧
  (signsB a = false → ∀ H' d, Same H H' → H' d = none → E (.ref CS) (some d) (upd H' d (.xd [(vN, a)]))) ∧
  (∀ z, a = .str z → signsB a = true → lineB z b = false → ∀ H' d, Same H H' → H' d = none → E (.ref CL) (some d) (upd H' d (.xd [(vN, b)]))) ∧
  (∀ z, a = .str z → signsB a = true → lineB z b = true → widthB c = false → ∀ H' d, Same H H' → H' d = none → E (.ref CW) (some d) (upd H' d (.xd [(vN, c)]))) ∧
  (∀ z y i, a = .str z → b = .str y → c = .int i → signsB a = true → lineB z b = true → widthB c = true → ∀ H' p, Same H H' → H p = none → H' p = some (.lst ((piecesL y i.toNat).map V.str)) → Q (.ref p) H')
theorem pi_signs {CS CL CW p : Addr} {H : Hp} {Q : VK} {E : XK} {a b c : V} {da db dc : PyData} (oa : Odd H p a da) (ob : Odd H p b db) (oc : Odd H p c dc) (h : signsB a = false) (k : ∀ H' d, Same H H' → H' d = none → E (.ref CS) (some d) (upd H' d (.xd [(vN, a)]))) :
    spPieces CS CL CW [a, b, c] H Q E := by
  obtain ⟨na, ha⟩ := oa.ov.any
  obtain ⟨nb, hb⟩ := ob.ov.any
  obtain ⟨nc, hc⟩ := oc.ov.any
  exact ⟨a, b, c, na, nb, nc, rfl, ha, hb, hc, oa.short, ob.short, oc.short, fun _ => k, (fun _ _ q => by rw [h] at q; cases q), (fun _ _ q => by rw [h] at q; cases q), fun _ _ _ _ _ _ q => by rw [h] at q; cases q⟩
theorem pi_line {CS CL CW p : Addr} {H : Hp} {Q : VK} {E : XK} {z : Str} {b c : V} {db dc : PyData} (ob : Odd H p b db) (oc : Odd H p c dc) (hz : signsB (.str z) = true) (lz : z.length ≤ 1000) (h : lineB z b = false) (k : ∀ H' d, Same H H' → H' d = none → E (.ref CL) (some d) (upd H' d (.xd [(vN, b)]))) :
    spPieces CS CL CW [.str z, b, c] H Q E := by
  obtain ⟨nb, hb⟩ := ob.ov.any
  obtain ⟨nc, hc⟩ := oc.ov.any
  refine ⟨_, b, c, _, nb, nc, rfl, .str z, hb, hc, (fun q e => by cases e; exact Nat.le_trans lz (by decide)), ob.short, oc.short, (fun q => by rw [hz] at q; cases q), (fun z' e _ _ => k), (fun z' e _ q => ?_), fun z' _ _ e _ _ _ q => ?_⟩
  · cases e
    rw [h] at q
    cases q
  · cases e
    rw [h] at q
    cases q
theorem pi_width {CS CL CW p : Addr} {H : Hp} {Q : VK} {E : XK} {z y : Str} {c : V} {dc : PyData} (oc : Odd H p c dc) (hz : signsB (.str z) = true) (lz : z.length ≤ 1000) (hy : lineB z (.str y) = true) (ly : y.length ≤ 1000) (h : widthB c = false)
    (k : ∀ H' d, Same H H' → H' d = none → E (.ref CW) (some d) (upd H' d (.xd [(vN, c)]))) : spPieces CS CL CW [.str z, .str y, c] H Q E := by
  obtain ⟨nc, hc⟩ := oc.ov.any
  refine ⟨_, _, c, _, _, nc, rfl, .str z, .str y, hc, (fun q e => by cases e; exact Nat.le_trans lz (by decide)), (fun q e => by cases e; exact Nat.le_trans ly (by decide)), oc.short, (fun q => by rw [hz] at q; cases q), (fun z' e _ q => ?_), (fun _ _ _ _ _ => k), fun z' _ _ _ _ _ _ _ q => ?_⟩
  · cases e
    rw [hy] at q
    cases q
  · rw [h] at q
    cases q
theorem pi_ok {CS CL CW : Addr} {H : Hp} {Q : VK} {E : XK} {z y : Str} {i : Int} (hz : signsB (.str z) = true) (lz : z.length ≤ 1000) (hy : lineB z (.str y) = true) (ly : y.length ≤ 1000) (h : widthB (.int i) = true)
    (k : ∀ H' p, Same H H' → H p = none → H' p = some (.lst ((piecesL y i.toNat).map V.str)) → Q (.ref p) H') : spPieces CS CL CW [.str z, .str y, .int i] H Q E := by
  refine ⟨_, _, _, _, _, _, rfl, .str z, .str y, .int i, (fun q e => by cases e; exact Nat.le_trans lz (by decide)), (fun q e => by cases e; exact Nat.le_trans ly (by decide)), (fun _ e => by cases e), (fun q => by rw [hz] at q; cases q), (fun z' e _ q => ?_), (fun _ _ _ _ q => by rw [h] at q; cases q), fun z' y' i' e1 e2 e3 _ _ _ => ?_⟩
  · cases e
    rw [hy] at q
    cases q
  · cases e2
    cases e3
    exact k
/-! ### a lambda handed to _law_heard -/
section
variable {X : Cx}
theorem pe_heard {g c P0 CS CL CW CB : Addr} {gd : FuncData} {k : Nat} {params : Arguments} {body : Expr} {scope : Scope} {t : XK → TE} {p lpos pos : Pos} (FH : Fun X.K "_law_heard" "_law_heard" sHeard g gd) (bH : L2.Binds X.K gd ["_law_call"] []) (hg : Gl X "_law_heard") (hm : X.mg "_law_heard" = some (.ref g))
    (T : ErF X.K X.mg CS CL CW CB) (hG : X.A.guards = some []) (hr : Room (k + 2) X.A) (hr5 : Room 5 X.A) (mR : X.mg "repr" = none) (mI : X.mg "isinstance" = none) (mV : X.mg "ValueError" = none)
    (TB : TabB X.base X.mg c P0) (hcode : X.env.code = .ref c) (L : LamS X.env.scope scope) (hdef : defaultsOf params X.env = ([], []))
    (hbind : ∀ (q : Str) (cl : List (Str × Addr)) (pm cv ctv : Value), bindArgs (PySem.W.kla_fn "<lambda>" q params body scope cl pm cv ctv) ⟨[], []⟩ = pure [])
    (hbody : ∀ (A : Around) (outer : List Env) (s : Shared) (H : Hp) (E : XK) (f c' : Addr), Room k (A.deeper (lamEnv X scope s.heap.objs.size f c')) → PE (lamCx X A outer s H E scope f c') body (t E)) :
    PE X (.Call (.Name "_law_heard" p) [.Lambda params body scope lpos] [] pos) (tLam [(P0, X.env.qual ++ "<lambda>")] (TTh X.K CS CL CW) t) := by
  obtain ⟨oc, od, kV, doc, pm, an, cdv, ct, osl, rfl, lk, hc⟩ := FH.ex
  exact pe_lamcall hg hm FH.kp lk hc bH scHeard rfl (by first | exact .inl rfl | exact .inr (.inl rfl)) (heard_gives T hG hr5 mR mI mV) TB hcode List.mem_cons_self (fun q hq _ => by rw [List.mem_singleton.mp hq]) hr L hdef hbind hbody
/-- what the lambda's body lets out is what is wished -/
theorem pass_lam {A : Around} {outer : List Env} {s : Shared} {H : Hp} {E : XK} {scope : Scope} {f c' : Addr} : Passes (L2.CX X.prog X.w) (lamCx X A outer s H E scope f c') E :=
  passes_call (W := fun cls d _ H => E cls d H) (takes_of rfl rfl rfl rfl) fun _ _ _ _ h => h
end
end K70
namespace K70
open PySem PySem.Spec PyProof.Rows L2 FL
theorem chunks (l : List Nat) (w : Nat) : ∀ m, ((List.range m).map fun k => (l.drop (k * w)).take w).flatten = l.take (m * w)
  | 0 => by simp
  | m + 1 => by
    rw [List.range_succ, List.map_append, List.flatten_append, chunks l w m, Nat.succ_mul, List.take_add]
    simp
theorem few {n w : Nat} (h1 : 1 ≤ w) (h4 : w ≤ 4) : n ≤ (n + w - 1) / w * w ∧ (w < n → 2 ≤ (n + w - 1) / w ∧ ((n + w - 1) / w - 1) * w < n ∧ n - ((n + w - 1) / w - 1) * w ≤ w) := by
  obtain rfl | rfl | rfl | rfl : w = 1 ∨ w = 2 ∨ w = 3 ∨ w = 4 := by omega
  all_goals omega
theorem chk_len (y : Str) (w k : Nat) : (chk y w k).length = min w (y.length - k * w) := by
  show ((y.cps.toList.drop (k * w)).take w).toArray.size = _
  rw [List.size_toArray, List.length_take, List.length_drop, str_len]
theorem pc_join {y : Str} {w : Nat} (h1 : 1 ≤ w) (h4 : w ≤ 4) : Txt.join (Str.ofString "") (piecesL y w) = y := by
  apply Str_ext
  rw [FL.txtjoin_list]
  unfold piecesL
  split
  · simp
  · rw [List.map_map]
    have e : ((fun s : Str => s.cps.toList) ∘ chk y w) = fun k => (y.cps.toList.drop (k * w)).take w := by
      funext k
      show ((y.cps.toList.drop (k * w)).take w).toArray.toList = _
      simp
    rw [e, chunks, List.take_of_length_le]
    have := (few (n := y.length) h1 h4).1
    rw [str_len] at this
    rw [str_len]
    exact this
theorem pc_count {y : Str} {w : Nat} (h1 : 1 ≤ w) (h4 : w ≤ 4) : (piecesL y w).length = max 1 ((y.length + w - 1) / w) := by
  unfold piecesL
  split
  · rename_i h
    have : (y.length + w - 1) / w ≤ 1 := by
      obtain rfl | rfl | rfl | rfl : w = 1 ∨ w = 2 ∨ w = 3 ∨ w = 4 := by omega
      all_goals omega
    show 1 = _
    omega
  · rename_i h
    have := ((few (n := y.length) h1 h4).2 (by omega)).1
    rw [List.length_map, List.length_range]
    omega
theorem pc_most {y : Str} {w : Nat} (h1 : 1 ≤ w) (h4 : w ≤ 4) : ∀ s ∈ (piecesL y w).dropLast, s.length = w := by
  unfold piecesL
  split
  · intro s hs
    cases hs
  · rename_i h
    obtain ⟨q1, q2, q3⟩ := (few (n := y.length) h1 h4).2 (by omega)
    intro s hs
    obtain ⟨m, em⟩ : ∃ m, (y.length + w - 1) / w = m + 1 := ⟨(y.length + w - 1) / w - 1, by omega⟩
    rw [em, List.range_succ, List.map_append] at hs
    have hs : s ∈ ((List.range m).map (chk y w) ++ [chk y w m]).dropLast := hs
    rw [List.dropLast_concat] at hs
    obtain ⟨k, hk, rfl⟩ := List.mem_map.mp hs
    have hk := List.mem_range.mp hk
    rw [chk_len]
    rw [em, Nat.add_sub_cancel] at q2
    have : (k + 1) * w ≤ m * w := Nat.mul_le_mul_right w hk
    rw [Nat.succ_mul] at this
    omega
theorem pc_last {y : Str} {w : Nat} (h1 : 1 ≤ w) (h4 : w ≤ 4) : ∃ s, (piecesL y w)[(piecesL y w).length - 1]? = some s ∧ s.length ≤ w := by
  have hl : 0 < (piecesL y w).length := by rw [pc_count h1 h4]; omega
  refine ⟨_, List.getElem?_eq_getElem (by omega), ?_⟩
  have hm : (piecesL y w)[(piecesL y w).length - 1]'(by omega) ∈ piecesL y w := List.getElem_mem _
  revert hm
  generalize (piecesL y w)[(piecesL y w).length - 1]'(by omega) = s
  unfold piecesL
  split
  · intro hm
    rw [List.mem_singleton.mp hm]
    assumption
  · intro hm
    obtain ⟨k, _, rfl⟩ := List.mem_map.mp hm
    rw [chk_len]
    exact Nat.min_le_left _ _
theorem pc_none {y : Str} {w : Nat} (h1 : 1 ≤ w) (h4 : w ≤ 4) (h : Str.ofString "" ∈ piecesL y w) : y = Str.ofString "" := by
  have z0 : (Str.ofString "").length = 0 := by decide +kernel
  unfold piecesL at h
  split at h
  · exact (List.mem_singleton.mp h).symm
  · rename_i hn
    obtain ⟨q1, q2, q3⟩ := (few (n := y.length) h1 h4).2 (by omega)
    obtain ⟨k, hk, e⟩ := List.mem_map.mp h
    have hk := List.mem_range.mp hk
    have l0 := congrArg Str.length e
    rw [chk_len, z0] at l0
    have : k * w ≤ ((y.length + w - 1) / w - 1) * w := Nat.mul_le_mul_right w (by omega)
    omega
end K70
namespace K70
open PySem PySem.Spec PyProof.Rows L2 FL LamX
abbrev tx (s : String) : V := .str (Str.ofString s)
theorem all1 (z : Str) : ∀ (K : PySem.W.Frag) (H' : Hp), DpAll K H' [.str z] [.str z] := fun _ _ => .cons (.str z) .nil
theorem all2 (z y : Str) : ∀ (K : PySem.W.Frag) (H' : Hp), DpAll K H' [.str z, .str y] [.str z, .str y] := fun _ _ => .cons (.str z) (.cons (.str y) .nil)
theorem alli (i : Int) : ∀ (K : PySem.W.Frag) (H' : Hp), DpAll K H' [.int i] [.int i] := fun _ _ => .cons (.int i) .nil
theorem ref_short {a : Addr} : Short (.ref a) := fun _ e => by cases e
theorem int_short {i : Int} : Short (.int i) := fun _ e => by cases e
abbrev listA (L1 T1 : Addr) : List V := [.non, .int 3, tx "", tx "a", tx "a-", tx "--", tx "-A", tx "-a>", .ref L1, .ref T1, tx "-0123", tx "- a", .bl true, tx "aa"]
theorem alien_odd {H : Hp} {p L1 T1 : Addr} {v : V} (n1 : L1 ≠ p) (e1 : H L1 = some (.lst [tx "-", tx "a"])) (n2 : T1 ≠ p) (e2 : H T1 = some (.tup [tx "-a"])) (hv : v ∈ listA L1 T1) : ∃ d, Odd H p v d ∧ signsB v = false := by
  have st : ∀ s ∈ [Str.ofString "", Str.ofString "a", Str.ofString "a-", Str.ofString "--", Str.ofString "-A", Str.ofString "-a>", Str.ofString "-0123", Str.ofString "- a", Str.ofString "aa"], ∃ d, Odd H p (.str s) d ∧ signsB (.str s) = false := fun s hs =>
    ⟨_, odd_str (alien_bad s hs).2.1 (alien_bad s hs).2.2, (alien_bad s hs).1⟩
  simp only [List.mem_cons, List.mem_nil_iff, or_false] at hv
  rcases hv with rfl | rfl | rfl | rfl | rfl | rfl | rfl | rfl | rfl | rfl | rfl | rfl | rfl | rfl
  · exact ⟨_, odd_non, rfl⟩
  · exact ⟨_, ⟨.int 3, int_short, ⟨by decide +kernel, by decide +kernel, by decide +kernel⟩, by decide +kernel⟩, rfl⟩
  · exact st _ (by simp)
  · exact st _ (by simp)
  · exact st _ (by simp)
  · exact st _ (by simp)
  · exact st _ (by simp)
  · exact st _ (by simp)
  · exact ⟨_, ⟨.lst n1 e1 (all2 _ _) (by decide +kernel), ref_short, ⟨by decide +kernel, by decide +kernel, by decide +kernel⟩, by decide +kernel⟩, rfl⟩
  · exact ⟨_, ⟨.tup n2 e2 (all1 _) (by decide +kernel), ref_short, ⟨by decide +kernel, by decide +kernel, by decide +kernel⟩, by decide +kernel⟩, rfl⟩
  · exact st _ (by simp)
  · exact st _ (by simp)
  · exact ⟨_, odd_bl true, rfl⟩
  · exact st _ (by simp)
abbrev listS (y : Str) (L1 T1 D1 : Addr) : List V := [.non, .int 7, tx "b", tx "-b", tx "A", .ref L1, .ref T1, .ref D1, .bl true, tx "a a", .str (y ++ Str.ofString "!"), tx "_"]
theorem strange_odd {H : Hp} {p L1 T1 D1 : Addr} {v : V} {z y : Str} (hz : z ∈ glyphL) (ov : Over z y) (ly : y.length ≤ 40) (n1 : L1 ≠ p) (e1 : H L1 = some (.lst [tx "-"])) (n2 : T1 ≠ p) (e2 : H T1 = some (.tup [tx "-"])) (n3 : D1 ≠ p) (e3 : H D1 = some (.dK []))
    (hv : v ∈ listS y L1 T1 D1) : ∃ d, Odd H p v d ∧ lineB z v = false := by
  have st : ∀ s ∈ [Str.ofString "b", Str.ofString "-b", Str.ofString "A", Str.ofString "a a", Str.ofString "_"], ∃ d, Odd H p (.str s) d ∧ lineB z (.str s) = false := fun s hs =>
    ⟨_, odd_str (strange_bad z hz s hs).2.1 (strange_bad z hz s hs).2.2, (strange_bad z hz s hs).1⟩
  obtain ⟨_, _, _, pz, nz⟩ := glyph_ok z hz
  simp only [List.mem_cons, List.mem_nil_iff, or_false] at hv
  rcases hv with rfl | rfl | rfl | rfl | rfl | rfl | rfl | rfl | rfl | rfl | rfl | rfl
  · exact ⟨_, odd_non, rfl⟩
  · exact ⟨_, ⟨.int 7, int_short, ⟨by decide +kernel, by decide +kernel, by decide +kernel⟩, by decide +kernel⟩, rfl⟩
  · exact st _ (by simp)
  · exact st _ (by simp)
  · exact st _ (by simp)
  · exact ⟨_, ⟨.lst n1 e1 (all1 _) (by decide +kernel), ref_short, ⟨by decide +kernel, by decide +kernel, by decide +kernel⟩, by decide +kernel⟩, rfl⟩
  · exact ⟨_, ⟨.tup n2 e2 (all1 _) (by decide +kernel), ref_short, ⟨by decide +kernel, by decide +kernel, by decide +kernel⟩, by decide +kernel⟩, rfl⟩
  · exact ⟨_, ⟨.dct n3 e3, ref_short, ⟨by decide +kernel, by decide +kernel, by decide +kernel⟩, by decide +kernel⟩, rfl⟩
  · exact ⟨_, odd_bl true, rfl⟩
  · exact st _ (by simp)
  · have e0 : (Str.ofString "!").cps = #[33] := by decide +kernel
    have hc : (y ++ Str.ofString "!").cps.toList = y.cps.toList ++ [33] := by
      show (y.cps ++ (Str.ofString "!").cps).toList = _
      rw [e0]
      simp
    refine ⟨_, odd_str (fun c hc' => ?_) ?_, end_bad e0 nz⟩
    · rw [hc] at hc'
      rcases List.mem_append.mp hc' with q | q
      · exact pz c (ov c q)
      · rw [List.mem_singleton.mp q]
        decide
    · rw [str_len, hc, List.length_append, ← str_len]
      show y.length + 1 ≤ 1000
      omega
  · exact st _ (by simp)
abbrev listO (T1 L1 D1 : Addr) : List V := [.non, .int 0, .int 5, .int (-1), .bl true, tx "2", .ref T1, .ref L1, .int ((10 : Int) ^ (29 : Int).toNat), .ref D1]
theorem odd_odd {H : Hp} {p L1 T1 D1 : Addr} {v : V} (n1 : L1 ≠ p) (e1 : H L1 = some (.lst [.int 2])) (n2 : T1 ≠ p) (e2 : H T1 = some (.tup [.int 1])) (n3 : D1 ≠ p) (e3 : H D1 = some (.dK []))
    (hv : v ∈ listO T1 L1 D1) : ∃ d, Odd H p v d ∧ widthB v = false := by
  simp only [List.mem_cons, List.mem_nil_iff, or_false] at hv
  rcases hv with rfl | rfl | rfl | rfl | rfl | rfl | rfl | rfl | rfl | rfl
  · exact ⟨_, odd_non, rfl⟩
  · exact ⟨_, ⟨.int _, int_short, ⟨by decide +kernel, by decide +kernel, by decide +kernel⟩, by decide +kernel⟩, by decide⟩
  · exact ⟨_, ⟨.int _, int_short, ⟨by decide +kernel, by decide +kernel, by decide +kernel⟩, by decide +kernel⟩, by decide⟩
  · exact ⟨_, ⟨.int _, int_short, ⟨by decide +kernel, by decide +kernel, by decide +kernel⟩, by decide +kernel⟩, by decide⟩
  · exact ⟨_, odd_bl true, rfl⟩
  · exact ⟨_, odd_str (z := Str.ofString "2") (by unfold Plain; decide +kernel) (by decide +kernel), rfl⟩
  · exact ⟨_, ⟨.tup n2 e2 (alli _) (by decide +kernel), ref_short, ⟨by decide +kernel, by decide +kernel, by decide +kernel⟩, by decide +kernel⟩, rfl⟩
  · exact ⟨_, ⟨.lst n1 e1 (alli _) (by decide +kernel), ref_short, ⟨by decide +kernel, by decide +kernel, by decide +kernel⟩, by decide +kernel⟩, rfl⟩
  · exact ⟨_, ⟨.int _, int_short, ⟨by decide +kernel, by decide +kernel, by decide +kernel⟩, by decide +kernel⟩, by decide +kernel⟩
  · exact ⟨_, ⟨.dct n3 e3, ref_short, ⟨by decide +kernel, by decide +kernel, by decide +kernel⟩, by decide +kernel⟩, rfl⟩
end K70
namespace FL
open PySem PySem.Spec PyProof.Rows L2
/-! ### what stays where only the pot changes -/
theorem But.rules {p : Addr} {H H' : Hp} {xs : List V} {rs : List Rule} (b : But p H H') (hp : PotAt H p) (h : RulesAt H xs rs) : RulesAt H' xs rs := RulesAt.imp h (b.tups hp)
theorem pot_list {H : Hp} {p : Addr} {xs : List V} {rs : List Rule} (hp : PotAt H p) (h : H p = some (.lst xs)) (r : RulesAt H xs rs) : False := by
  obtain ⟨a, b, e, _⟩ := hp
  rw [e] at h
  cases h
  cases r with
  | cons x _ =>
    obtain ⟨t, q, _⟩ := x
    cases q
theorem But.sqR {K : PySem.W.Frag} {p D : Addr} {H H' : Hp} {xs : List V} {rs : List Rule} (b : But p H H') (hp : PotAt H p) (h : SqL K H D xs) (r : RulesAt H xs rs) : SqL K H' D xs := by
  rcases h with (h | ⟨o, h⟩) | h
  · refine .inl (.inl (b _ _ h fun e => ?_))
    subst e
    exact pot_list hp h r
  · refine .inl (.inr ⟨o, b _ _ h fun e => ?_⟩)
    obtain ⟨_, _, q, _⟩ := hp
    rw [e, q] at h
    cases h
  · exact .inr h
theorem Deal.but {K : PySem.W.Frag} {H H' : Hp} {D p : Addr} {z : Str} {rs : List Rule} (d : Deal K H D z rs) (hp : PotAt H p) (b : But p H H') : Deal K H' D z rs := by
  obtain ⟨xs, h1, h2⟩ := d.ex
  exact ⟨d.az, ⟨xs, b _ _ h1 (fun e => by subst e; exact pot_list hp h1 h2), b.rules hp h2⟩, d.ok, d.le⟩
theorem RelayAt.but {C : Addr} {H H' : Hp} {p q : Addr} {z : Str} {rs : List Rule} (h : RelayAt C H p z rs) (hq : PotAt H q) (b : But q H H') : RelayAt C H' p z rs := by
  obtain ⟨dx, ra, ia, xs, h1, h2, h3, kvs, h4, h5, h6⟩ := h
  obtain ⟨_, _, e, _⟩ := id hq
  have n : ∀ {c : Addr} {o : HO}, H c = some o → (∀ l, o ≠ .lst l) → c ≠ q := fun {c o} ec no q' => by
    rw [q', e] at ec
    exact no _ (Option.some.inj ec).symm
  refine ⟨dx, ra, ia, xs, b _ _ h1 (n h1 fun l z => by cases z), b _ _ h2 (fun q' => ?_), b.rules hq h3, kvs, b _ _ h4 (n h4 fun l z => by cases z), h5, h6.imp (b.tups hq)⟩
  subst q'
  exact pot_list hq h2 h3
theorem Same.pot {H H' : Hp} {p : Addr} (s : Same H H') (h : PotAt H p) : PotAt H' p := by
  obtain ⟨a, b, e, r⟩ := h
  exact ⟨a, b, s _ _ e, r⟩
/-! ### turned lines -/
theorem turn_note {z : Str} {b : Nat} : ∀ {rs : List Rule} {y : Str}, (∀ r ∈ rs, RuleOk z b r) → Over z y → Over z (turn rs y) ∧ (turn rs y).length ≤ y.length + b
  | [], y, _, o => ⟨o, Nat.le_add_right _ _⟩
  | r :: rs, y, h, o => by
    have hr := h r List.mem_cons_self
    show Over z (if fits r y = true then turnR r y else turn rs y) ∧ (if fits r y = true then turnR r y else turn rs y).length ≤ _
    by_cases hf : fits r y = true
    · rw [if_pos hf]
      obtain ⟨f, ol, nw⟩ := r
      cases f with
      | true =>
        show Over z (nw ++ cutS y (some (ol.length : Int)) none) ∧ (nw ++ cutS y (some (ol.length : Int)) none).length ≤ _
        refine ⟨over_app hr.n1 (over_cut o _ _), ?_⟩
        rw [len_app]
        have := cutS_length y (some (ol.length : Int)) none
        have h2 : nw.length ≤ b := hr.n2
        omega
      | false => exact ⟨hr.n1, Nat.le_trans hr.n2 (Nat.le_add_left _ _)⟩
    · rw [if_neg hf]
      exact turn_note (fun r' hr' => h r' (List.mem_cons_of_mem _ hr')) o
def spTurns (K : PySem.W.Frag) (C : Addr) : Sp := fun vs H Q _ => ∃ (q : Addr) (z : Str) (D p : Addr) (rs : List Rule), vs = [.ref q, .str z, .ref D, .ref p] ∧ PotAt H q ∧ Deal K H D z rs ∧ RelayAt C H p z rs ∧
  ∀ H', PotAt H' q → But q H H' → Q (.bl true) H'
/-- a line of the signs that is not too long -/
def Ln (z y : Str) : Prop := Over z y ∧ y.length ≤ 3000
theorem three_sm {z y : Str} (az : Abc z) (o : Over z y) (l : y.length ≤ 5000) : Sm 400000 (.list [.str y, .str y, .str y]) := by
  have s := (Sm.str (az.plain o)).mono (show 10 * y.length + 2 ≤ 50002 by omega)
  exact (Sm.list (k := 0) (SmL.cons s (Nat.le_refl _) (SmL.cons s (Nat.le_refl _) (SmL.cons s (Nat.le_refl _) SmL.nil))) (by decide)).mono (by decide)
end FL
namespace FL
open PySem PySem.Spec PyProof.Rows L2
theorem snoc_of {α : Type} : ∀ {l : List α}, 0 < l.length → ∃ i x, l = i ++ [x]
  | [], h => absurd h (Nat.lt_irrefl 0)
  | a :: r, _ => by
    cases r with
    | nil => exact ⟨[], a, rfl⟩
    | cons b r =>
      obtain ⟨i, x, e⟩ := snoc_of (l := b :: r) (Nat.succ_pos _)
      exact ⟨a :: i, x, by rw [e]; rfl⟩
theorem atI_0 {α : Type} {a b : α} {r : List α} : atI (a :: b :: r) 0 = some a := atI_nat (j := 0) rfl
theorem atI_1 {α : Type} {a b : α} {r : List α} : atI (a :: b :: r) 1 = some b := atI_nat (j := 1) rfl
theorem two_signs {z : Str} (h : 2 ≤ z.length) : ∃ a b r, z.cps.toList = a :: b :: r := by
  rw [str_len] at h
  cases e : z.cps.toList with
  | nil =>
    rw [e] at h
    exact absurd h (by decide)
  | cons a l =>
    cases l with
    | nil =>
      rw [e] at h
      simp at h
    | cons b r => exact ⟨a, b, r, rfl⟩
theorem over_rep {z : Str} {c n : Nat} (h : c ∈ z.cps.toList) : Over z (repS ⟨#[c]⟩ n) := fun d hd => by
  have := repS_mem hd
  have e : d = c := by simpa using this
  rw [e]
  exact h
theorem rep_len (c n : Nat) : (repS ⟨#[c]⟩ n).length = n := by
  rw [repS_len]
  show n * 1 = n
  exact Nat.mul_one n
end FL
namespace FL
open PySem PySem.Spec PyProof.Rows L2
/-! ### rules that are hidden -/
theorem cut_pre (y : Str) (n : Nat) : (cutS y none (some (n : Int))).cps.toList = y.cps.toList.take n := by
  show ((y.cps.toList.drop (HT.sIx y.length 0 none)).take (HT.sIx y.length y.length (some (n : Int)) - HT.sIx y.length 0 none)).toArray.toList = _
  rw [HT.sIx_nat, HT.sIx_none]
  show (y.cps.toList.drop 0).take (min n y.length - 0) = _
  rw [List.drop_zero, Nat.sub_zero, str_len]
  by_cases h : n ≤ y.cps.toList.length
  · rw [Nat.min_eq_left h]
  · rw [Nat.min_eq_right (by omega), List.take_of_length_le (Nat.le_refl _), List.take_of_length_le (by omega)]
theorem pre_iff {y b : Str} : cutS y none (some (b.length : Int)) = b ↔ y.cps.toList.take b.cps.toList.length = b.cps.toList := by
  rw [← str_len]
  constructor
  · intro h
    rw [← cut_pre, h]
  · intro h
    apply Str_ext
    rw [cut_pre, h]
/-- an earlier rule says all that this one says -/
def hides (e r : Rule) : Bool := (e.fr && decide (cutS r.old none (some (e.old.length : Int)) = e.old)) || (decide (e.fr = r.fr) && decide (e.old = r.old))
theorem pre_trans {y o b : Str} (h1 : cutS o none (some (b.length : Int)) = b) (h2 : cutS y none (some (o.length : Int)) = o) : cutS y none (some (b.length : Int)) = b := by
  rw [pre_iff] at h1 h2 ⊢
  have l := congrArg List.length h1
  rw [List.length_take] at l
  rw [← h2, List.take_take, Nat.min_eq_left (by omega)] at h1
  exact h1
theorem hides_fits {e r : Rule} {y : Str} (h : hides e r = true) (hf : fits r y = true) : fits e y = true := by
  unfold hides at h
  rcases Bool.or_eq_true_iff.mp h with h | h
  · obtain ⟨h1, h2⟩ := Bool.and_eq_true_iff.mp h
    have h3 := of_decide_eq_true h2
    clear h2
    obtain ⟨f, o, n⟩ := e
    obtain ⟨f', o', n'⟩ := r
    dsimp only at h1 h3
    subst h1
    show decide (cutS y none (some (o.length : Int)) = o) = true
    apply decide_eq_true
    cases f' with
    | true => exact pre_trans h3 (of_decide_eq_true hf)
    | false =>
      have e' : y = o' := of_decide_eq_true hf
      rw [e']
      exact h3
  · obtain ⟨h1, h2⟩ := Bool.and_eq_true_iff.mp h
    rw [fits_same (r := r) ⟨of_decide_eq_true h1, of_decide_eq_true h2⟩]
    exact hf
theorem turn_fit : ∀ {l s : List Rule} {y : Str}, (∃ r ∈ l, fits r y = true) → turn (l ++ s) y = turn l y
  | [], _, _, ⟨_, h, _⟩ => nomatch h
  | a :: l, s, y, ⟨r, hr, hf⟩ => by
    show (if fits a y = true then _ else turn (l ++ s) y) = (if fits a y = true then _ else turn l y)
    by_cases ha : fits a y = true
    · rw [if_pos ha, if_pos ha]
    · rw [if_neg ha, if_neg ha]
      rcases List.mem_cons.mp hr with rfl | h
      · exact absurd hf ha
      · exact turn_fit ⟨r, h, hf⟩
theorem turn_none : ∀ {l s : List Rule} {y : Str}, (∀ r ∈ l, fits r y = false) → turn (l ++ s) y = turn s y
  | [], _, _, _ => rfl
  | a :: l, s, y, h => by
    show (if fits a y = true then _ else turn (l ++ s) y) = _
    rw [h a List.mem_cons_self, if_neg Bool.false_ne_true]
    exact turn_none fun r hr => h r (List.mem_cons_of_mem _ hr)
theorem fit_or (l : List Rule) (y : Str) : (∃ r ∈ l, fits r y = true) ∨ ∀ r ∈ l, fits r y = false := by
  rcases exists_first (rs := l) (y := y) with h | ⟨i, r, h1, h2, _⟩
  · exact .inr h
  · exact .inl ⟨r, List.mem_of_getElem? h1, h2⟩
theorem turn_skip {l t : List Rule} {r : Rule} (h : l.any (fun e => hides e r) = true) (y : Str) : turn (l ++ r :: t) y = turn (l ++ t) y := by
  obtain ⟨e, he, hh⟩ := List.any_eq_true.mp h
  rcases fit_or l y with hl | hl
  · rw [turn_fit hl, turn_fit hl]
  · rw [turn_none hl, turn_none hl]
    have : fits r y = false := by
      cases q : fits r y with
      | false => rfl
      | true =>
        have := hides_fits hh q
        rw [hl e he] at this
        cases this
    show (if fits r y = true then _ else turn t y) = _
    rw [this, if_neg Bool.false_ne_true]
theorem turn_again {l t : List Rule} (h : ∀ r ∈ t, r ∈ l) (y : Str) : turn (l ++ t) y = turn l y := by
  rcases fit_or l y with hl | hl
  · exact turn_fit hl
  · rw [turn_none hl, turn_no hl, turn_no fun r hr => hl r (h r hr)]
theorem turn_void {l : List Rule} (y : Str) : turn (l ++ [⟨true, Str.ofString "", Str.ofString ""⟩]) y = turn l y := by
  rcases fit_or l y with hl | hl
  · exact turn_fit hl
  · rw [turn_none hl, turn_no hl]
    have e0 : (Str.ofString "").cps.toList = [] := by decide +kernel
    have l0 : (Str.ofString "").length = 0 := by decide +kernel
    have hf : fits ⟨true, Str.ofString "", Str.ofString ""⟩ y = true := by
      show decide (cutS y none (some ((Str.ofString "").length : Int)) = Str.ofString "") = true
      exact decide_eq_true (pre_iff.mpr (by rw [e0]; rfl))
    show (if fits ⟨true, Str.ofString "", Str.ofString ""⟩ y = true then Str.ofString "" ++ cutS y (some ((Str.ofString "").length : Int)) none else y) = y
    rw [if_pos hf, l0]
    apply Str_ext
    rw [Str.cps_append, Array.toList_append, e0]
    show ((y.cps.toList.drop (HT.sIx y.length 0 (some ((0 : Nat) : Int)))).take (HT.sIx y.length y.length none - HT.sIx y.length 0 (some ((0 : Nat) : Int)))).toArray.toList = _
    rw [HT.sIx_nat, HT.sIx_none, Nat.zero_min, Nat.sub_zero, List.drop_zero, List.take_of_length_le (by rw [← str_len]; exact Nat.le_refl _)]
theorem eqv_key (a b : Rule) : PyData.eqv (.tuple [.str (kd a.fr), .str a.old]) (.tuple [.str (kd b.fr), .str b.old]) = (decide (a.fr = b.fr) && decide (a.old = b.old)) := by
  obtain ⟨f, o, n⟩ := a
  obtain ⟨f', o', n'⟩ := b
  show ((kd f == kd f') && ((o == o') && true)) = _
  rw [Bool.and_true]
  have e1 : (kd f == kd f') = decide (f = f') := by
    by_cases h : f = f'
    · subst h
      simp
    · rw [decide_eq_false h]
      have : kd f ≠ kd f' := by
        cases f <;> cases f' <;> first | exact absurd rfl h | exact kd_ne | exact Ne.symm kd_ne
      simpa using this
  have e2 : (o == o') = decide (o = o') := by
    by_cases h : o = o'
    · subst h
      simp
    · rw [decide_eq_false h]
      simpa using h
  rw [e1, e2]
theorem pick_rules {H : Hp} {xs : List V} {rs : List Rule} (h : RulesAt H xs rs) : ∀ {ys : List V}, (∀ y ∈ ys, y ∈ xs) → ∃ ts, RulesAt H ys ts ∧ ∀ t ∈ ts, t ∈ rs
  | [], _ => ⟨[], .nil, fun _ q => nomatch q⟩
  | y :: ys, m => by
    obtain ⟨ts, h1, h2⟩ := pick_rules h (ys := ys) fun v hv => m v (List.mem_cons_of_mem _ hv)
    obtain ⟨t, ht, hr⟩ := paired_mem h (m y List.mem_cons_self)
    refine ⟨t :: ts, .cons hr h1, fun u hu => ?_⟩
    rcases List.mem_cons.mp hu with rfl | hu
    · exact ht
    · exact h2 u hu
theorem paired_app {α β : Type} {R : α → β → Prop} : ∀ {xs zs : List α} {ys ws : List β}, Paired R xs ys → Paired R zs ws → Paired R (xs ++ zs) (ys ++ ws)
  | _, _, _, _, .nil, h => h
  | _, _, _, _, .cons a b, h => .cons a (paired_app b h)
/-! ### a call of an instance, its reading without the context -/
def tCallP (C : Addr) (sp : Sp) (tf : TE) (t : TA) : TE := fun σ H Q => tf σ H fun y H1 => ∃ a, y = V.ref a ∧ t σ H1 fun vs H2 => (∃ dx fs, H2 a = some (.ins C dx fs)) ∧ sp (V.ref a :: vs) H2 Q E0
theorem pe_callP {X : Cx} {C g : Addr} {fd : FuncData} {ps : List Str} {sp : Sp} {k : Nat} {fe e : Expr} {es : List Expr} {pos : Pos} {tf : TE} {t : TA} (hf : PE X fe tf) (c : StX.CallO X.K C g) (F : FnOk X.prog X.w X.K X.mg X.base CX0 k g fd ps sp)
    (hb : Binds X.K fd ps []) (hr : Room k X.A) (ha : PA X (e :: es) t)
    (ht : eval (.Call fe (e :: es) [] pos) X.env = (do callWith pos (← eval fe X.env) [] (backTo pos (starEach (e :: es) X.env)) (backToKw pos (keywordEach [] X.env))) := by rfl)
    (he : starEach (e :: es) X.env = (false, eval e X.env) :: starEach es X.env := by rfl) (hpl : (backTo pos (starEach es X.env)).any (·.1) = false := by rfl) : PE X (.Call fe (e :: es) [] pos) (tCallP C sp tf t) := by
  have G := F.raw hb .nil
  refine ⟨fun pins s σ H Q I h => ?_⟩
  rw [ht]
  refine wpAny_bind (thn (hf.run pins s σ H _ I h) fun u s1 hu => ?_)
  obtain ⟨y, H1, I1, ry, a, ey, q⟩ := hu
  subst ey
  obtain rfl : u = Value.ref a := ry
  refine StX.callO_with (thn (ha.run pos pins s1 σ H1 _ I1 q) fun us s2 hw => ?_) he hpl
  obtain ⟨vs, H2, I2, r, ⟨dx, fs, ea⟩, q2⟩ := hw
  obtain ⟨ox, od, J, hd⟩ := StX.insC_at I2 (.inr ⟨dx, fs, ea⟩)
  refine ⟨⟨C, ox, od, J, hd⟩, StX.run_callO c G hr pass0 I2 (.inr ⟨dx, fs, ea⟩) r ?_⟩
  show sp ((V.ref a :: vs) ++ []) H2 Q E0
  rw [List.append_nil]
  exact q2
def spHidR (K : PySem.W.Frag) (C : Addr) : Sp := fun vs H Q _ => ∃ (q : Addr) (z : Str) (D p : Addr) (rs : List Rule), vs = [.ref q, .str z, .ref D, .ref p] ∧ PotAt H q ∧ Deal K H D z rs ∧ RelayAt C H p z rs ∧
  ∀ H', PotAt H' q → But q H H' → Q (.bl true) H'
end FL
namespace FL
open PySem PySem.Spec PyProof.Rows L2
theorem key_sm {f : Bool} {o : Str} (h : Plain o) (l : o.length ≤ 40) : Sm 2000 (.tuple [.str (kd f), .str o]) := by
  have a0 := Sm.str (kd_plain f)
  rw [kd_len] at a0
  exact (Sm.tuple (k := 0) (SmL.cons a0 (Nat.le_refl _) (SmL.cons ((Sm.str h).mono (show _ ≤ 500 by omega)) (Nat.le_refl _) SmL.nil)) (by decide)).mono (by decide)
theorem any_take {α : Type} {l : List α} {j : Nat} {e : α} (f : α → Bool) (h : l[j]? = some e) : (l.take (j + 1)).any f = ((l.take j).any f || f e) := by
  rw [take_snoc h, List.any_append]
  simp
theorem drop_at {α : Type} {l : List α} {i : Nat} {r : α} (h : l[i]? = some r) : l.drop i = r :: l.drop (i + 1) := by
  obtain ⟨hi, e⟩ := List.getElem?_eq_some_iff.mp h
  rw [List.drop_eq_getElem_cons hi, e]
theorem Same.tups {H H' : Hp} (s : Same H H') : ∀ t a, H t = some (.tup a) → H' t = some (.tup a) := fun t a e => s t _ e
end FL
namespace FL
open PySem PySem.Spec PyProof.Rows L2
theorem make_one {C : Addr} {H : Hp} {G : Hp → Prop} {z : Str} {v : V} {rs : List Rule} {x dx : Addr} (hz : Abc z) (ra : RuArg H v rs) (ok : ∀ r ∈ rs, RuleOk z 40 r) (l : rs.length ≤ 400) (hx : H x = none) (hd : H dx = none) (hne : dx ≠ x)
    (k : ∀ H', RelayAt C H' x z rs → Same H H' → G H') : spInit C [.ref x, .str z, v] (upd (upd H dx (.own x)) x (.ins C dx [])) (fun v H3 => v = .non ∧ G H3) E0 := by
  have s2 : Same H (upd (upd H dx (.own x)) x (.ins C dx [])) := ((Same.refl H).upd hd).upd hx
  refine ⟨x, dx, z, v, rs, rfl, upd_same, hz, ?_, ok, l, fun H' ra' rel _ b => ⟨rfl, k H' rel.at_ fun c o e => b c o (s2 c o e) (ne_of_none e hx)⟩⟩
  obtain ⟨a, xs, t, rfl, ea, hrs⟩ := ra
  exact ⟨a, xs, t, rfl, s2 _ _ ea, Same.rules s2 hrs⟩
end FL
namespace FL
open PySem PySem.Spec PyProof.Rows L2
theorem void_ok {z : Str} : RuleOk z 40 ⟨true, Str.ofString "", Str.ofString ""⟩ := by
  have e0 : (Str.ofString "").cps.toList = [] := by decide +kernel
  have l0 : (Str.ofString "").length = 0 := by decide +kernel
  have o : Over z (Str.ofString "") := fun c hc => by
    rw [e0] at hc
    cases hc
  exact ⟨o, by show (Str.ofString "").length ≤ 40; omega, o, by show (Str.ofString "").length ≤ 40; omega⟩
/-- three relays that turn each line as these rules do -/
structure Mate (C : Addr) (H : Hp) (x : Addr) (z : Str) (rs : List Rule) : Prop where
  ex : ∃ L, RelayAt C H x z L ∧ (∀ r ∈ L, r.old.length ≤ 40 ∧ r.new.length ≤ 1000) ∧ ∀ y, turn L y = turn rs y
theorem Mate.same {C : Addr} {H H' : Hp} {x : Addr} {z : Str} {rs : List Rule} (m : Mate C H x z rs) (s : Same H H') : Mate C H' x z rs := by
  obtain ⟨L, a, b, c⟩ := m.ex
  exact ⟨L, a.same s, b, c⟩
theorem ok_lens {z : Str} {rs : List Rule} (h : ∀ r ∈ rs, RuleOk z 40 r) : ∀ r ∈ rs, r.old.length ≤ 40 ∧ r.new.length ≤ 1000 := fun r hr => ⟨(h r hr).o2, Nat.le_trans (h r hr).n2 (by decide)⟩
end FL
namespace FL
open PySem PySem.Spec PyProof.Rows L2
theorem RelayAt.updL {C C' : Addr} {H : Hp} {p M a d : Addr} {f : List (Str × V)} {z : Str} {rs : List Rule} {vs ws : List V} (h : RelayAt C H p z rs) (hM : H M = some (.lst (.ref a :: vs))) (ha : H a = some (.ins C' d f)) : RelayAt C (upd H M (.lst ws)) p z rs := by
  obtain ⟨dx, ra, ia, xs, h1, h2, h3, kvs, h4, h5, h6⟩ := h
  have tp : ∀ t b, H t = some (.tup b) → upd H M (.lst ws) t = some (.tup b) := fun t b e => by
    rw [upd_ne (ne_of e hM (by intro q; cases q))]
    exact e
  refine ⟨dx, ra, ia, xs, ?_, ?_, RulesAt.imp h3 tp, kvs, ?_, h5, h6.imp tp⟩
  · rw [upd_ne (ne_of h1 hM (by intro q; cases q))]
    exact h1
  · have n : ra ≠ M := fun e => by
      subst e
      rw [hM] at h2
      cases h2
      cases h3 with
      | cons x _ =>
        obtain ⟨t, q, g⟩ := x
        cases q
        rw [ha] at g
        cases g
    rw [upd_ne n]
    exact h2
  · rw [upd_ne (ne_of h4 hM (by intro q; cases q))]
    exact h4
end FL
namespace FL
open PySem PySem.Spec PyProof.Rows L2
theorem make_oneR {C : Addr} {H : Hp} {G : Hp → Prop} {z : Str} {v : V} {rs : List Rule} {x dx : Addr} (hz : Abc z) (ra : RuArg H v rs) (ok : ∀ r ∈ rs, RuleOk z 40 r) (l : rs.length ≤ 400) (hx : H x = none) (hd : H dx = none) (hne : dx ≠ x)
    (k : ∀ (H' : Hp) (ra : Addr), RelayR C H' x z rs ra → H ra = none → Same H H' → G H') : spInit C [.ref x, .str z, v] (upd (upd H dx (.own x)) x (.ins C dx [])) (fun v H3 => v = .non ∧ G H3) E0 := by
  have s2 : Same H (upd (upd H dx (.own x)) x (.ins C dx [])) := ((Same.refl H).upd hd).upd hx
  refine ⟨x, dx, z, v, rs, rfl, upd_same, hz, ?_, ok, l, fun H' ra' rel hn b => ⟨rfl, k H' ra' rel (s2.none hn) fun c o e => b c o (s2 c o e) (ne_of_none e hx)⟩⟩
  obtain ⟨a, xs, t, rfl, ea, hrs⟩ := ra
  exact ⟨a, xs, t, rfl, s2 _ _ ea, Same.rules s2 hrs⟩
end FL
namespace FL
open PySem PySem.Spec PyProof.Rows L2
/-! ### lists of rules, gathered -/
def RL (H : Hp) (z : Str) (a : Addr) : Prop := ∃ xs rs, H a = some (.lst xs) ∧ RulesAt H xs rs ∧ (∀ r ∈ rs, RuleOk z 40 r) ∧ rs.length ≤ 400
theorem RL.same {H H' : Hp} {z : Str} {a : Addr} (h : RL H z a) (s : Same H H') : RL H' z a := by
  obtain ⟨xs, rs, h1, h2, h3, h4⟩ := h
  exact ⟨xs, rs, s _ _ h1, Same.rules s h2, h3, h4⟩
theorem RL.updS {H : Hp} {z : Str} {a S : Addr} {ss ws : List V} (h : RL H z a) (hS : H S = some (.lst ss)) (n : a ≠ S) : RL (upd H S (.lst ws)) z a := by
  obtain ⟨xs, rs, h1, h2, h3, h4⟩ := h
  refine ⟨xs, rs, by rw [upd_ne n]; exact h1, RulesAt.imp h2 fun t b e => ?_, h3, h4⟩
  rw [upd_ne (ne_of e hS (by intro q; cases q))]
  exact e
structure Sm1 (H : Hp) (S : Addr) (z : Str) (As : List Addr) : Prop where
  at_ : H S = some (.lst (As.map V.ref))
  all : ∀ a ∈ As, a ≠ S ∧ RL H z a
theorem Sm1.same {H H' : Hp} {S : Addr} {z : Str} {As : List Addr} (h : Sm1 H S z As) (s : Same H H') : Sm1 H' S z As :=
  ⟨s _ _ h.at_, fun a ha => ⟨(h.all a ha).1, (h.all a ha).2.same s⟩⟩
theorem Sm1.add {H : Hp} {S a : Addr} {z : Str} {As : List Addr} (h : Sm1 H S z As) (ha : RL H z a) (n : a ≠ S) : Sm1 (upd H S (.lst (As.map V.ref ++ [.ref a]))) S z (As ++ [a]) := by
  refine ⟨by rw [upd_same, List.map_append]; rfl, fun b hb => ?_⟩
  rcases List.mem_append.mp hb with hb | hb
  · exact ⟨(h.all b hb).1, (h.all b hb).2.updS h.at_ (h.all b hb).1⟩
  · rw [List.mem_singleton.mp hb]
    exact ⟨n, ha.updS h.at_ n⟩
theorem paired_take {α β : Type} {R : α → β → Prop} : ∀ {xs : List α} {ys : List β}, Paired R xs ys → ∀ n, Paired R (xs.take n) (ys.take n)
  | _, _, .nil, n => by rw [List.take_nil, List.take_nil]; exact .nil
  | _, _, .cons a b, 0 => .nil
  | _, _, .cons a b, n + 1 => .cons a (paired_take b n)
theorem paired_drop {α β : Type} {R : α → β → Prop} : ∀ {xs : List α} {ys : List β}, Paired R xs ys → ∀ n, Paired R (xs.drop n) (ys.drop n)
  | _, _, .nil, n => by rw [List.drop_nil, List.drop_nil]; exact .nil
  | _, _, .cons a b, 0 => .cons a b
  | _, _, .cons a b, n + 1 => paired_drop b n
theorem paired_rev {α β : Type} {R : α → β → Prop} : ∀ {xs : List α} {ys : List β}, Paired R xs ys → Paired R xs.reverse ys.reverse
  | _, _, .nil => .nil
  | _, _, .cons a b => by
    rw [List.reverse_cons, List.reverse_cons]
    exact paired_snoc (paired_rev b) a
/-- a slice of rules is one -/
theorem cut_rules {H : Hp} {xs : List V} {rs : List Rule} (h : RulesAt H xs rs) (lo hi : Option Int) : ∃ ts, RulesAt H (cutV xs lo hi) ts ∧ (∀ t ∈ ts, t ∈ rs) ∧ ts.length ≤ rs.length := by
  refine ⟨(rs.drop (HT.sIx xs.length 0 lo)).take (HT.sIx xs.length xs.length hi - HT.sIx xs.length 0 lo), paired_take (paired_drop h _) _, fun t ht => List.mem_of_mem_drop (List.mem_of_mem_take ht), ?_⟩
  rw [List.length_take, List.length_drop]
  omega
def spEqual (K : PySem.W.Frag) (C : Addr) : Sp := fun vs H Q _ => ∃ (q : Addr) (z : Str) (D p : Addr) (rs : List Rule), vs = [.ref q, .str z, .ref D, .ref p] ∧ Deal K H D z rs ∧ RelayAt C H p z rs ∧
  ∀ H', Same H H' → Q (.bl true) H'
theorem rp_ok {z : Str} {rs : List Rule} (az : Abc z) (h : ∀ r ∈ rs, RuleOk z 40 r) : RP 40 rs := fun r hr => ⟨az.plain (h r hr).o1, az.plain (h r hr).n1, (h r hr).o2, (h r hr).n2⟩
theorem bools_sm (a b c : Bool) : Sm 100 (.list [.bool a, .bool b, .bool c]) :=
  (Sm.list (k := 0) (SmL.cons (Sm.bool a) (Nat.le_refl _) (SmL.cons (Sm.bool b) (Nat.le_refl _) (SmL.cons (Sm.bool c) (Nat.le_refl _) SmL.nil))) (by decide)).mono (by decide)
end FL
namespace FL
open PySem PySem.Spec PyProof.Rows L2
theorem comp_tail {H0 Hi : Hp} {C T : Addr} {ws : List V} {ts : List Rule} {r : Rule} (sj : Same H0 Hi) (hC0 : H0 C = none) (hC : Hi C = some (.lst ws)) (hw : RulesAt Hi ws ts) (hT : Hi T = none) :
    (upd Hi T (.tup (ruleV r))) C = some (.lst ws) ∧ Same H0 (upd (upd Hi T (.tup (ruleV r))) C (.lst (ws ++ [.ref T]))) ∧ RulesAt (upd (upd Hi T (.tup (ruleV r))) C (.lst (ws ++ [.ref T]))) (ws ++ [.ref T]) (ts ++ [r]) := by
  have n : C ≠ T := ne_of_none hC hT
  refine ⟨by rw [upd_ne n]; exact hC, (sj.upd (sj.none hT)).upd hC0, paired_snoc (RulesAt.imp hw fun t a e => ?_) ⟨T, rfl, ?_⟩⟩
  · rw [upd_ne (ne_of e hC (by intro q; cases q)), upd_ne (ne_of_none e hT)]
    exact e
  · rw [upd_ne (Ne.symm n), upd_same]
theorem map_take {α β : Type} {l : List α} {i : Nat} {x : α} (f : α → β) (h : l[i]? = some x) : (l.take (i + 1)).map f = (l.take i).map f ++ [f x] := by
  rw [take_snoc h, List.map_append]
  rfl
theorem void_rule {H : Hp} {T : Addr} {f : Bool} (h : H T = some (.tup [.str (kd f), .str (Str.ofString ""), .str (Str.ofString "")])) : RuleAt H (.ref T) ⟨f, Str.ofString "", Str.ofString ""⟩ := ⟨T, rfl, h⟩
theorem void_ok2 {z : Str} {f : Bool} : RuleOk z 40 ⟨f, Str.ofString "", Str.ofString ""⟩ := ⟨(void_ok (z := z)).o1, (void_ok (z := z)).o2, (void_ok (z := z)).n1, (void_ok (z := z)).n2⟩
end FL
namespace FL
open PySem PySem.Spec PyProof.Rows L2
def flipR (r : Rule) : Rule := ⟨!r.fr, r.old, r.new⟩
def newR (c : Nat) (r : Rule) : Rule := ⟨r.fr, r.old, r.new ++ ⟨#[c]⟩⟩
def oldR (c : Nat) (r : Rule) : Rule := ⟨r.fr, r.old ++ ⟨#[c]⟩, r.new⟩
theorem flip_ok {z : Str} {rs : List Rule} (h : ∀ r ∈ rs, RuleOk z 40 r) : ∀ r ∈ rs, RuleOk z 40 (flipR r) := fun r hr => ⟨(h r hr).o1, (h r hr).o2, (h r hr).n1, (h r hr).n2⟩
theorem new_ok {z : Str} {c : Nat} (hc : c ∈ z.cps.toList) {rs : List Rule} (h : ∀ r ∈ rs, RuleOk z 30 r) : ∀ r ∈ rs, RuleOk z 40 (newR c r) := fun r hr =>
  ⟨(h r hr).o1, Nat.le_trans (h r hr).o2 (by decide), over_app (h r hr).n1 (over_one hc), by
    show (r.new ++ ⟨#[c]⟩).length ≤ 40
    rw [len_app, len_one]
    have := (h r hr).n2
    omega⟩
theorem old_ok {z : Str} {c : Nat} (hc : c ∈ z.cps.toList) {rs : List Rule} (h : ∀ r ∈ rs, RuleOk z 30 r) : ∀ r ∈ rs, RuleOk z 40 (oldR c r) := fun r hr =>
  ⟨over_app (h r hr).o1 (over_one hc), by
    show (r.old ++ ⟨#[c]⟩).length ≤ 40
    rw [len_app, len_one]
    have := (h r hr).o2
    omega, (h r hr).n1, Nat.le_trans (h r hr).n2 (by decide)⟩
end FL
namespace FL
open PySem PySem.Spec PyProof.Rows L2
theorem Deal.updL {K : PySem.W.Frag} {H : Hp} {D L : Addr} {z : Str} {rs : List Rule} {vs ws : List V} (d : Deal K H D z rs) (hL : H L = some (.lst vs)) (n : D ≠ L) : Deal K (upd H L (.lst ws)) D z rs := by
  obtain ⟨xs, h1, h2⟩ := d.ex
  refine ⟨d.az, ⟨xs, by rw [upd_ne n]; exact h1, RulesAt.imp h2 fun t b e => ?_⟩, d.ok, d.le⟩
  rw [upd_ne (ne_of e hL (by intro q; cases q))]
  exact e
def spRight : Sp := fun vs H Q _ => ∃ q : Addr, vs = [.ref q] ∧ PotAt H q ∧ ∀ H', PotAt H' q → But q H H' → Q (.bl true) H'
def spLaw (K : PySem.W.Frag) : Sp := fun vs H Q _ => ∃ (a : Addr) (ns : List Int), vs = [.ref a] ∧ SqL K H a (ns.map V.int) ∧ ns.length ≤ 63 ∧ ∀ H', Q (.bl true) H'
theorem repr_bare (z : Str) : reprR z [] = (Str.ofString "Relay(" ++ (PyData.str z).shown) ++ Str.ofString ", [])" := by
  rw [reprR_eq]
  have e : (PyData.list (([] : List Rule).map ruleD)).shown = Str.ofString "[]" := by decide +kernel
  rw [e]
  generalize Str.ofString "Relay(" ++ (PyData.str z).shown = x
  apply Str_ext
  have e2 : (Str.ofString ", ").cps.toList ++ ((Str.ofString "[]").cps.toList ++ (Str.ofString ")").cps.toList) = (Str.ofString ", [])").cps.toList := by decide +kernel
  rw [Str.cps_append, Str.cps_append, Str.cps_append, Str.cps_append, Array.toList_append, Array.toList_append, Array.toList_append, Array.toList_append, ← e2, List.append_assoc, List.append_assoc]
theorem all_true : ∀ n : Nat, (List.replicate n true).all id = true
  | 0 => rfl
  | n + 1 => by
    rw [List.replicate_succ]
    exact all_true n
end FL
namespace FL
open PySem PySem.Spec PyProof.Rows L2
/-! ### where a turning of lines is even -/
abbrev Lns := List Nat
abbrev ls (y : Str) : Lns := y.cps.toList
abbrev st (l : Lns) : Str := ⟨l.toArray⟩
theorem ls_st (l : Lns) : ls (st l) = l := rfl
theorem st_ls (y : Str) : st (ls y) = y := Str_ext rfl
theorem ls_inj {a b : Str} (h : ls a = ls b) : a = b := Str_ext h
theorem ls_app (a b : Str) : ls (a ++ b) = ls a ++ ls b := by
  show (a ++ b).cps.toList = _
  rw [Str.cps_append, Array.toList_append]
theorem cut_take (y : Str) (n : Nat) : ls (cutS y none (some (n : Int))) = (ls y).take n := by
  show ((y.cps.toList.drop (HT.sIx y.length 0 none)).take (HT.sIx y.length y.length (some ((n : Nat) : Int)) - HT.sIx y.length 0 none)).toArray.toList = _
  rw [HT.sIx_nat, HT.sIx_none]
  show (List.drop 0 y.cps.toList).take (min n y.length - 0) = _
  rw [List.drop_zero, Nat.sub_zero, str_len]
  by_cases h : n ≤ y.cps.toList.length
  · rw [Nat.min_eq_left h]
  · rw [Nat.min_eq_right (by omega), List.take_of_length_le (Nat.le_refl _), List.take_of_length_le (show (ls y).length ≤ n by show y.cps.toList.length ≤ n; omega)]
theorem cut_drop (y : Str) (n : Nat) : ls (cutS y (some (n : Int)) none) = (ls y).drop n := by
  show ((y.cps.toList.drop (HT.sIx y.length 0 (some ((n : Nat) : Int)))).take (HT.sIx y.length y.length none - HT.sIx y.length 0 (some ((n : Nat) : Int)))).toArray.toList = _
  rw [HT.sIx_nat, HT.sIx_none]
  show (List.drop (min n y.length) y.cps.toList).take (y.length - min n y.length) = _
  rw [str_len]
  by_cases h : n ≤ y.cps.toList.length
  · rw [Nat.min_eq_left h, List.take_of_length_le (by rw [List.length_drop]; omega)]
  · rw [Nat.min_eq_right (by omega), List.drop_of_length_le (Nat.le_refl _), List.drop_of_length_le (show (ls y).length ≤ n by show y.cps.toList.length ≤ n; omega), List.take_nil]
/-- the turning by rules, on lists -/
def tL : List Rule → Lns → Lns
  | [], l => l
  | r :: rs, l => match r.fr with
    | true => if ls r.old <+: l then ls r.new ++ l.drop (ls r.old).length else tL rs l
    | false => if l = ls r.old then ls r.new else tL rs l
theorem fits_front {r : Rule} {y : Str} (h : r.fr = true) : fits r y = true ↔ ls r.old <+: ls y := by
  unfold fits
  rw [h]
  show decide (cutS y none (some (r.old.length : Int)) = r.old) = true ↔ _
  rw [decide_eq_true_eq]
  constructor
  · intro e
    have e2 : ls (cutS y none (some (r.old.length : Int))) = ls r.old := by rw [e]
    rw [cut_take] at e2
    rw [← e2]
    exact List.take_prefix _ _
  · intro e
    apply ls_inj
    rw [cut_take]
    have e3 := List.prefix_iff_eq_take.mp e
    rw [str_len]
    exact e3.symm
theorem turn_list : ∀ (rs : List Rule) (y : Str), ls (turn rs y) = tL rs (ls y)
  | [], _ => rfl
  | r :: rs, y => by
    show ls (if fits r y = true then turnR r y else turn rs y) = _
    unfold tL
    cases e : r.fr with
    | true =>
      simp only
      by_cases h : ls r.old <+: ls y
      · rw [if_pos h, if_pos ((fits_front e).mpr h)]
        unfold turnR
        rw [e]
        show ls (r.new ++ cutS y (some (r.old.length : Int)) none) = _
        rw [ls_app, cut_drop, str_len]
      · rw [if_neg h, if_neg (fun q => h ((fits_front e).mp q)), turn_list rs y]
    | false =>
      simp only
      have hf : fits r y = decide (y = r.old) := by unfold fits; rw [e]
      rw [hf]
      by_cases h : y = r.old
      · rw [if_pos (by simpa using h), if_pos (by rw [h])]
        unfold turnR
        rw [e]
      · rw [if_neg (by simpa using h), if_neg (fun q => h (ls_inj q)), turn_list rs y]
/-- rules that ask for no beginning u turn u and what stands behind it alike -/
theorem tL_app {u s : Lns} : ∀ {rs : List Rule}, (∀ r ∈ rs, ¬ u <+: ls r.old) → tL rs (u ++ s) = tL rs u ++ s
  | [], _ => rfl
  | r :: rs, h => by
    have h1 := h r List.mem_cons_self
    have ih := tL_app (s := s) fun r' hr' => h r' (List.mem_cons_of_mem _ hr')
    unfold tL
    cases e : r.fr with
    | true =>
      simp only
      by_cases hp : ls r.old <+: u
      · have hp2 : ls r.old <+: u ++ s := hp.trans (List.prefix_append _ _)
        rw [if_pos hp, if_pos hp2, List.append_assoc, List.drop_append_of_le_length hp.length_le]
      · have hp2 : ¬ ls r.old <+: u ++ s := fun q => by
          rcases Nat.le_total (ls r.old).length u.length with hl | hl
          · exact hp (List.prefix_of_prefix_length_le q (List.prefix_append _ _) hl)
          · exact h1 (List.prefix_of_prefix_length_le (List.prefix_append _ _) q hl)
        rw [if_neg hp, if_neg hp2, ih]
    | false =>
      simp only
      have n1 : ¬ u = ls r.old := fun q => h1 (by rw [q]; exact List.prefix_rfl)
      have n2 : ¬ u ++ s = ls r.old := fun q => h1 (by rw [← q]; exact List.prefix_append _ _)
      rw [if_neg n1, if_neg n2, ih]
section
variable (z : Lns) (F : Lns → Lns)
/-- even at u, for what stands behind of the signs z -/
def Evn (u : Lns) : Prop := ∀ s, (∀ c ∈ s, c ∈ z) → F (u ++ s) = F u ++ s
variable {z F}
theorem Evn.one {u : Lns} (h : Evn z F u) {c : Nat} (hc : c ∈ z) : F (u ++ [c]) = F u ++ [c] := h [c] fun d hd => by rw [List.mem_singleton.mp hd]; exact hc
theorem Evn.down {u s : Lns} (h : Evn z F u) (hs : ∀ c ∈ s, c ∈ z) : Evn z F (u ++ s) := fun t ht => by
  rw [List.append_assoc, h (s ++ t) (fun c hc => (List.mem_append.mp hc).elim (hs c) (ht c)), h s hs, List.append_assoc]
theorem evn_step {u : Lns} : Evn z F u ↔ ∀ c ∈ z, Evn z F (u ++ [c]) ∧ F (u ++ [c]) = F u ++ [c] := by
  constructor
  · intro h c hc
    exact ⟨h.down fun d hd => by rw [List.mem_singleton.mp hd]; exact hc, h.one hc⟩
  · intro h s hs
    cases s with
    | nil => rw [List.append_nil, List.append_nil]
    | cons c s =>
      have hc := h c (hs c List.mem_cons_self)
      have e := hc.1 s fun d hd => hs d (List.mem_cons_of_mem _ hd)
      rw [List.append_assoc] at e
      show F (u ++ ([c] ++ s)) = F u ++ (c :: s)
      rw [e, hc.2, List.append_assoc]
      rfl
/-- a cell's line -/
def Cell (z : Lns) (F : Lns → Lns) (l : Lns) : Prop := l = [] ∨ ¬ Evn z F l ∨ ∃ u c, c ∈ z ∧ l = u ++ [c] ∧ ¬ Evn z F u
theorem Evn.congr {G : Lns → Lns} {u : Lns} (hu : ∀ c ∈ u, c ∈ z) (e : ∀ l, (∀ c ∈ l, c ∈ z) → F l = G l) : Evn z F u ↔ Evn z G u := by
  constructor
  · intro h s hs
    rw [← e _ (fun c hc => (List.mem_append.mp hc).elim (hu c) (hs c)), ← e u hu]
    exact h s hs
  · intro h s hs
    rw [e _ (fun c hc => (List.mem_append.mp hc).elim (hu c) (hs c)), e u hu]
    exact h s hs
/-- each line is that of a whole cell, or stands behind a front cell's -/
theorem cell_of : ∀ (n : Nat) (l : Lns), l.length = n → (∀ c ∈ l, c ∈ z) → ¬ Evn z F l ∨ ∃ u s, l = u ++ s ∧ Evn z F u ∧ Cell z F u
  | 0, l, h, _ => by
    have e : l = [] := List.eq_nil_of_length_eq_zero h
    by_cases hv : Evn z F l
    · exact .inr ⟨l, [], by rw [List.append_nil], hv, .inl e⟩
    · exact .inl hv
  | n + 1, l, h, hz => by
    by_cases hv : Evn z F l
    · right
      have hne : l ≠ [] := fun e => by rw [e] at h; cases h
      obtain ⟨u, c, rfl⟩ : ∃ u c, l = u ++ [c] := ⟨l.dropLast, l.getLast hne, (List.dropLast_concat_getLast hne).symm⟩
      have hc : c ∈ z := hz c (List.mem_append_right _ (List.mem_singleton.mpr rfl))
      rcases cell_of n u (by rw [List.length_append] at h; exact Nat.succ.inj h) (fun d hd => hz d (List.mem_append_left _ hd)) with q | ⟨u', s, e, h1, h2⟩
      · exact ⟨u ++ [c], [], by rw [List.append_nil], hv, .inr (.inr ⟨u, c, hc, rfl, q⟩)⟩
      · exact ⟨u', s ++ [c], by rw [e, List.append_assoc], h1, h2⟩
    · exact .inl hv
/-- two turnings that agree at the cells of both agree at each line -/
theorem agree {G : Lns → Lns} (h : ∀ l, (∀ c ∈ l, c ∈ z) → Cell z F l ∨ Cell z G l → F l = G l) : ∀ (n : Nat) (l : Lns), l.length = n → (∀ c ∈ l, c ∈ z) → F l = G l
  | 0, l, e, hz => h l hz (.inl (.inl (List.eq_nil_of_length_eq_zero e)))
  | n + 1, l, e, hz => by
    have hne : l ≠ [] := fun q => by rw [q] at e; cases e
    obtain ⟨u, c, rfl⟩ : ∃ u c, l = u ++ [c] := ⟨l.dropLast, l.getLast hne, (List.dropLast_concat_getLast hne).symm⟩
    have hc : c ∈ z := hz c (List.mem_append_right _ (List.mem_singleton.mpr rfl))
    have hu : ∀ d ∈ u, d ∈ z := fun d hd => hz d (List.mem_append_left _ hd)
    by_cases h1 : Evn z F u
    · by_cases h2 : Evn z G u
      · rw [h1.one hc, h2.one hc, agree h n u (by rw [List.length_append] at e; exact Nat.succ.inj e) hu]
      · exact h _ hz (.inr (.inr (.inr ⟨u, c, hc, rfl, h2⟩)))
    · exact h _ hz (.inl (.inr (.inr ⟨u, c, hc, rfl, h1⟩)))
end
end FL
namespace FL
open PySem PySem.Spec PyProof.Rows L2
/-! ### sorted(lines, key=f), f a def of one's own that tells (length, line) -/
def lineKey (z : V × Str) : PyData := .tuple [.int ((z.2.length : Nat) : Int), .str z.2]
def keyT (b : Str) : List V := [.int ((b.length : Nat) : Int), .str b]
def sortL (zs : List (V × Str)) : List (V × Str) := zs.mergeSort (PySem.W.dataLe false lineKey)
/-- an object of ours that no one tracks -/
structure Own (X : Cx) (pins : List (Addr × Obj)) (b : Addr) : Prop where
  new : b ∈ X.ex ∨ X.s_0.heap.objs.size ≤ b
  loc : b ≠ X.env.locals
  cel : ∀ x c, X.env.cells.lookup x = some c → c ≠ b
  pin : ∀ p ∈ X.pn ++ pins, p.1 ≠ b
  nfs : b ∉ X.fs
section
variable {X : Cx} {pins : List (Addr × Obj)} {σ : L2.St} {H : Hp} {s : Shared}
theorem Own.of (I : Inv X pins σ H s) {b : Addr} (h : s.heap.objs.size ≤ b) : Own X pins b := by
  refine ⟨.inr (Nat.le_trans I.sz h), fun e => ?_, fun x c e z => ?_, fun p hp e => ?_, I.nofs h⟩
  · have q := I.lt
    rw [← e] at q
    exact Nat.lt_irrefl _ (Nat.lt_of_lt_of_le q h)
  · obtain ⟨v, o, ho, _⟩ := I.cell x c e
    have q := Heap.lt_size ho
    rw [z] at q
    exact Nat.lt_irrefl _ (Nat.lt_of_lt_of_le q h)
  · have q := Heap.lt_size (I.pin p hp).1
    rw [e] at q
    exact Nat.lt_irrefl _ (Nat.lt_of_lt_of_le q h)
theorem Own.cons {b c : Addr} {o : Obj} (h : Own X pins b) (n : c ≠ b) : Own X ((c, o) :: pins) b :=
  ⟨h.new, h.loc, h.cel, fun p hp => by
    rcases List.mem_append.mp hp with hp | hp
    · exact h.pin p (List.mem_append_left _ hp)
    · rcases List.mem_cons.mp hp with rfl | hp
      · exact n
      · exact h.pin p (List.mem_append_right _ hp), h.nfs⟩
theorem drop_pin {q : Addr × Obj} (I : Inv X (q :: pins) σ H s) : Inv X pins σ H s :=
  I.pins_of fun p hp => I.pin p (List.mem_append_right _ (List.mem_cons_of_mem _ hp))
theorem put_pin {b : Addr} {o : Obj} (I : Inv X pins σ H s) (w : Own X pins b) (e : s.heap.get? b = some o) (n : H b = none) (nd : ∀ v, o.data ≠ .cell v) : Inv X ((b, o) :: pins) σ H s := by
  refine I.pins_of fun p hp => ?_
  rcases List.mem_cons.mp hp with rfl | hp
  · exact ⟨e, n, w.loc, w.nfs, nd⟩
  · exact I.pin p (List.mem_append_right _ hp)
theorem re_pin {b : Addr} {o o' : Obj} {h' : Heap} {t' : Nat} (I : Inv X ((b, o) :: pins) σ H s) (w : Own X pins b) (hs : Heap.SameBut b s.heap h') (e : h'.get? b = some o') (nd : ∀ v, o'.data ≠ .cell v) :
    Inv X ((b, o') :: pins) σ H { s with heap := h', toks := t' } := by
  have n : H b = none := (I.pin (b, o) (List.mem_append_right _ List.mem_cons_self)).2.1
  have I1 : Inv X pins σ H { s with heap := h', toks := t' } := (drop_pin I).turned (fun c u hc q => (hs.2 c hc).trans q) n w.loc w.new w.cel w.pin
  exact put_pin I1 w e n nd
theorem seq_nd {t : String} {xs : Array Value} {n : Nat} : ∀ v, (seqObj t xs n).data ≠ .cell v := fun _ e => by cases e

/-- what a call f(x) must do: a new tuple (length, line), all else as it was -/
def KeyTurn (X : Cx) (A' : Around) (f : Value) (H : Hp) (σ : L2.St) (zs : List (V × Str)) : Prop :=
  ∀ (pins : List (Addr × Obj)) (s : Shared) (Hi : Hp) (u : Value) (z : V × Str), z ∈ zs → Inv X pins σ Hi s → (∀ b o, H b = some o → Hi b = some o) → RelV z.1 u →
    wpAny (model X.prog X.w) A' (call f [u]) (EP X pins σ fun v H' => ∃ p, v = .ref p ∧ Hi p = none ∧ H' = upd Hi p (.tup (keyT z.2))) (fun _ _ => False) s
theorem key_reads (I : Inv X pins σ H s) {p : Addr} {b : Str} (h : H p = some (.tup (keyT b))) : ∃ as, Reads s.heap (.ref p) (.tuple [.int ((b.length : Nat) : Int), .str b]) as :=
  Dp.reads I _ (.ref p) (.ref p) (.tup (SqT.of h) (.cons (.int _) (.cons (.str _) .nil))) rfl
theorem each_mono_mem {α β : Type} {R R' : α → β → Prop} {as : List α} {bs : List β} (h : PySem.W.EachIs R as bs) (k : ∀ a b, R a b → R' a b) : PySem.W.EachIs R' as bs := h.mono k
theorem hide1 {h : Heap} {a kS : Addr} : PySem.W.KeepsBut a (PySem.W.hideAll h [kS]) h := fun _ _ _ e => PySem.W.of_hideAll _ e
theorem alike_keys (zs : List (V × Str)) : PySem.W.AllAlike (zs.map lineKey) := PySem.W.AllAlike.of fun b b' => by simp [PySem.W.alike, PySem.W.alikeAll, lineKey]
theorem sortable_keys (zs : List (V × Str)) : PySem.W.Sortable (zs.map lineKey) := PySem.W.Sortable.tuples fun _ => ⟨_, _, rfl⟩
theorem depth_key (z : V × Str) : (lineKey z).depth = 1 := by simp [lineKey, PyData.depth, PyData.depthAll]
theorem vals_each : ∀ {zs : List (V × Str)} {us : List Value}, PySem.W.EachIs (fun u (z : V × Str) => RelV z.1 u) us zs → Vals (zs.map Prod.fst) us
  | _, _, .nil => .nil
  | _, _, .cons h t => .cons h (vals_each t)
theorem each_vals : ∀ {zs : List (V × Str)} {us : List Value}, Vals (zs.map Prod.fst) us → PySem.W.EachIs (fun u (z : V × Str) => RelV z.1 u) us zs
  | [], _, h => by cases h; exact .nil
  | _ :: _, _, h => by
    cases h with
    | cons h t => exact .cons h (each_vals t)
theorem key_rest {A' : Around} {f : Value} {a kS : Addr} {e1 : Nat} {us : List Value} {zs : List (V × Str)} {E : Value → Shared → Prop} {P : PySem.Fin → Shared → Prop}
    (I : Inv X ((kS, seqObj "list" #[] 0) :: (a, seqObj "list" #[] e1) :: pins) σ H s) (wa : Own X pins a) (wk : Own X pins kS) (hka : kS ≠ a) (r : Vals (zs.map Prod.fst) us) (hZ : zs.length ≤ sizeLine)
    (hu : A'.units + 1 < cLine) (turn : KeyTurn X A' f H σ zs)
    (h : ∀ (s' : Shared) (H' : Hp), Inv X pins σ H' s' → (∀ b o, H b = some o → H' b = some o) → H a = none → H' a = some (.lst ((sortL zs).map Prod.fst)) → P (.done (.ret .none)) s') :
    wpAny (model X.prog X.w) A' (ksk_rest a f false us.toArray e1 (.ref kS)) P E s := by
  have hl : us.length = zs.length := by rw [← r.length, List.length_map]
  have na0 : H a = none := (I.pin (a, seqObj "list" #[] e1) (List.mem_append_right _ (List.mem_cons_of_mem _ List.mem_cons_self))).2.1
  unfold ksk_rest
  refine wpAny_bind (wpAny_rule ?_)
  first
    | rw [List.forIn_toArray]
    | (rw [← Array.forIn_toList]; simp only [List.toList_toArray])
    | rw [← Array.forIn_toList]
  refine wpAny_bind (ksk_fold (fun i s' => ∃ Hi kA e, Inv X ((kS, seqObj "list" kA e) :: (a, seqObj "list" #[] e1) :: pins) σ Hi s' ∧ (∀ b o, H b = some o → Hi b = some o)
      ∧ PySem.W.EachIs (fun (v : Value) (z : V × Str) => ∃ p, v = .ref p ∧ Hi p = some (.tup (keyT z.2))) kA.toList (zs.take i)) us 0 s
    ⟨H, #[], 0, I, fun _ _ e => e, by rw [List.take_zero]; exact .nil⟩ ?step ?done)
  case step =>
    rintro j x s' hx ⟨Hi, kA, e, I', kp, ek⟩
    simp only [Nat.zero_add] at ek ⊢
    have hj : j < us.length := (List.getElem?_eq_some_iff.mp hx).1
    have hjz : j < zs.length := by omega
    have hz : zs[j]? = some zs[j] := List.getElem?_eq_getElem hjz
    have hxf : (zs.map Prod.fst)[j]? = some zs[j].1 := by rw [List.getElem?_map, hz]; rfl
    obtain ⟨u', hu', ru⟩ := r.get hxf
    rw [hx] at hu'
    obtain rfl : x = u' := Option.some.inj hu'
    refine wpAny_bind (wpAny_attempt (wpAny_mono (turn _ s' Hi x zs[j] (List.getElem_mem hjz) I' kp ru) (fun v s'' he => ?_) fun _ _ hF => hF.elim))
    obtain ⟨v', H'', I2, rv, p, rfl, np, rfl⟩ := he
    obtain rfl : v = Value.ref p := rv
    try dsimp only
    have pk := I2.pin (kS, seqObj "list" kA e) (List.mem_append_right _ List.mem_cons_self)
    have s1 := Heap.SameBut.update s''.heap kS (Obj.mapSeq (·.push (Value.ref p)))
    obtain ⟨c2, hc2⟩ : ∃ c2, (s''.heap.update kS (Obj.mapSeq (·.push (Value.ref p)))).get? kS = some (seqObj "list" (kA.push (Value.ref p)) c2) := ⟨_, get?_update_seq pk.1 (·.push (Value.ref p))⟩
    have hz2 : kA.size ≤ sizeLine := by
      have h1 := ek.length
      rw [Array.length_toList, List.length_take] at h1
      omega
    refine wpAny_bind (listUpdate_at pk.1 rfl ?_ hz2 (Nat.le_trans (Nat.le_of_eq (Array.size_push ..)) (Nat.succ_le_succ hz2)))
    have kp2 : ∀ b o, Hi b = some o → (upd Hi p (.tup (keyT zs[j].2))) b = some o := fun b o q => by rw [upd_ne (ne_of_none q np)]; exact q
    refine wpAny_pure ⟨rfl, upd Hi p (.tup (keyT zs[j].2)), kA.push (.ref p), c2, re_pin (t' := s''.toks) I2 (wk.cons hka.symm) s1 hc2 seq_nd, fun b o q => kp2 b o (kp b o q), ?_⟩
    have e2 : zs.take (j + 1) = zs.take j ++ [zs[j]] := by rw [List.take_add_one, hz]; simp
    have e3 : (kA.push (Value.ref p)).toList = kA.toList ++ [Value.ref p] := by simp
    rw [e2, e3]
    exact PySem.W.each_snoc (R := fun (v : Value) (z : V × Str) => ∃ q, v = .ref q ∧ (upd Hi p (.tup (keyT zs[j].2))) q = some (.tup (keyT z.2))) ⟨p, rfl, upd_same⟩ (ek.mono fun _ _ ⟨q, e, hq⟩ => ⟨q, e, kp2 _ _ hq⟩)
  case done =>
    rintro s' ⟨Hi, kA, e, I', kp, ek⟩
    have e3 : zs.take (0 + us.length) = zs := List.take_of_length_le (by omega)
    rw [e3] at ek
    have pk := I'.pin (kS, seqObj "list" kA e) (List.mem_append_right _ List.mem_cons_self)
    have pa := I'.pin (a, seqObj "list" #[] e1) (List.mem_append_right _ (List.mem_cons_of_mem _ List.mem_cons_self))
    have ek' : PySem.W.EachIs (fun (v : Value) (z : V × Str) => ∃ as, Reads s'.heap v (lineKey z) as) kA.toList zs := ek.mono fun v z ⟨p, e, hp⟩ => by
      subst e
      exact key_reads I' hp
    have hk' : PySem.W.EachIs (fun v k => ∃ as, Reads s'.heap v k as) kA.toList (zs.map lineKey) := PySem.W.each_map (R := fun v k => ∃ as, Reads s'.heap v k as) lineKey ek'
    have hsz : kA.size = us.length := by
      have h1 := ek.length
      rw [Array.length_toList] at h1
      omega
    try dsimp only
    refine wpAny_bind (listItems_at pk.1 rfl ?_)
    refine PySem.W.keyH_end (κ := PySem.W.dataKind s'.heap (zs.map lineKey)) (h₁ := PySem.W.hideAll s'.heap [kS]) hide1 (PySem.W.hideAll_none _ List.mem_cons_self) pk.1 pa.1 hka
      (PySem.W.SortsAt.data hk' (alike_keys zs) (sortable_keys zs) (PySem.W.bound_map (A := A') fun z _ => by rw [depth_key]; exact hu)) hsz (by omega) fun h' tk c kp3 ha3 => ?_
    have eo : PySem.W.EachIs (fun u (z : V × Str) => RelV z.1 u) (PySem.W.sortVals (PySem.W.dataKind s'.heap (zs.map lineKey)) false kA.toList us) (sortL zs) :=
      PySem.W.keyedOut_each lineKey ⟨s'.heap, kA.toList, alike_keys zs, rfl, hk'⟩ (each_vals r)
    generalize PySem.W.sortVals (PySem.W.dataKind s'.heap (zs.map lineKey)) false kA.toList us = out at eo ha3
    have I0 : Inv X pins σ Hi s' := drop_pin (drop_pin I')
    have na : Hi a = none := pa.2.1
    have nk : Hi kS = none := pk.2.1
    have keepAll : ∀ b o, b ∉ [a, kS] → s'.heap.get? b = some o → h'.get? b = some o := fun b o hb q =>
      kp3 b o (fun z => hb (by rw [z]; exact List.mem_cons_self)) (PySem.W.hideAll_get _ q fun z => hb (List.mem_cons_of_mem _ z))
    have nt : ∀ b u, Hi b = some u → b ∉ [a, kS] := fun b u q z => by
      rcases List.mem_cons.mp z with z | z
      · rw [z, na] at q; cases q
      · rw [List.mem_singleton.mp z, nk] at q; cases q
    have kpU : ∀ b o, Hi b = some o → (upd Hi a (.lst ((sortL zs).map Prod.fst))) b = some o := fun b o q => by rw [upd_ne (ne_of_none q na)]; exact q
    refine h { s' with heap := h', toks := tk } (upd Hi a (.lst ((sortL zs).map Prod.fst))) ?_ (fun b o q => kpU b o (kp b o q)) na0 upd_same
    refine I0.step (g' := s'.gens) (d' := s'.drawn) (ch := [a, kS]) (fun b hb => ?_) (fun b o _ _ hc q _ => keepAll b o hc q) (fun b o _ _ hc q _ => ⟨o.slots, keepAll b o hc q⟩)
      (fun b o hc _ n => by rw [upd_ne (fun z => hc (by rw [z]; exact List.mem_cons_self))]; exact n) (fun b o hc q => ⟨o, keepAll b o hc q⟩) (fun b xs q => kpU b _ q) (fun b o u q => kpU b _ q) (fun b ps q => ⟨#[], by rw [kpU b _ q]; simp⟩) (fun m hm => ?_) (fun b u q => ?_) I0.bare
    · rcases List.mem_cons.mp hb with rfl | hb
      · exact ⟨wa.new, wa.loc, wa.cel, wa.pin⟩
      · rw [List.mem_singleton.mp hb]
        exact ⟨wk.new, wk.loc, wk.cel, wk.pin⟩
    · obtain ⟨o, es, ep, ho, q⟩ := hm
      refine ⟨o, es, ep, keepAll _ o (fun z => ?_) ho, q⟩
      rcases List.mem_cons.mp z with z | z
      · exact wa.loc z.symm
      · exact wk.loc (List.mem_singleton.mp z).symm
    · by_cases hb : b = a
      · rw [hb] at q ⊢
        rw [upd_same] at q
        cases q
        refine ⟨?_, out, c, vals_each eo, ha3⟩
        have h1 := (vals_each eo).length
        rw [List.length_map]
        have h2 : (sortL zs).length = zs.length := (List.mergeSort_perm _ _).length_eq
        omega
      · rw [upd_ne hb] at q
        exact (I0.hok b u q).stay (fun d v hd y => keepAll d v (by
          rcases hd with z | z
          · rw [z]; exact nt b u q
          · exact nt d _ z) y) (fun d y => kpU d _ y) fun d xs y => kpU d _ y

theorem key_sorted {f l : Addr} {zs : List (V × Str)} {Q : VK} (I : Inv X pins σ H s) (hl : SqL X.K H l (zs.map Prod.fst)) (hu : X.A.units + 64 < cLine) (turn : KeyTurn X X.A.in1.in1 (.ref f) H σ zs)
    (h : ∀ (H' : Hp) (a : Addr), (∀ b o, H b = some o → H' b = some o) → H a = none → H' a = some (.lst ((sortL zs).map Prod.fst)) → Q (.ref a) H') :
    wpAny (model X.prog X.w) X.A (call (.builtin "sorted") [.ref l] [(Str.ofString "key", .ref f)]) (EP X pins σ Q) X.xe s := by
  obtain ⟨us, r, hL, hz⟩ := I.list hl
  have hzl : zs.length = us.length := by rw [← r.length, List.length_map]
  rw [List.length_map] at hz
  refine PySem.W.sorted_of_sort hL.isList (by omega) (ksk_s1 _ _) (fun _ => ksk_l1 _ _) fun E' => ?_
  rw [ksk_t1]
  have fresh : s.heap.objs.size ≤ s.heap.objs.size + 1 := Nat.le_succ _
  have wa0 : Own X pins (s.heap.objs.size + 1) := Own.of I fresh
  have hna : H (s.heap.objs.size + 1) = none := I.hok.fresh fresh
  have ho := PySem.W.copyHeap_at s.heap us
  have hsz : (PySem.W.copyHeap s.heap us).objs.size = s.heap.objs.size + 2 := by
    unfold PySem.W.copyHeap
    rw [size_push', Heap.size_update, size_push']
  obtain ⟨e1, ho1⟩ : ∃ e1, ((PySem.W.copyHeap s.heap us).update (s.heap.objs.size + 1) (Obj.mapSeq fun _ => (#[] : Array Value))).get? (s.heap.objs.size + 1) = some (seqObj "list" #[] e1) := ⟨_, get?_update_seq ho fun _ => #[]⟩
  unfold ksk_tree
  refine wpAny_bind (listItems_at ho rfl ?_)
  refine wpAny_bind (listUpdate_at ho rfl ?_ (by rw [List.size_toArray]; omega) (Nat.zero_le _))
  refine wpAny_bind (seqEpoch_at ho1 rfl ?_)
  refine wpAny_bind (wpAny_newTuple ?_ (by show us.length ≤ _; omega))
  refine wpAny_bind (wpAny_newList ?_ (Nat.zero_le _))
  refine wpAny_holding ?_
  have hkS : (((PySem.W.copyHeap s.heap us).update (s.heap.objs.size + 1) (Obj.mapSeq fun _ => (#[] : Array Value))).push (seqObj "tuple" us.toArray 0)).objs.size = s.heap.objs.size + 3 := by
    rw [size_push', Heap.size_update, hsz]
  have wk0 : Own X pins (s.heap.objs.size + 3) := Own.of I (Nat.le_add_right _ _)
  have hnk : H (s.heap.objs.size + 3) = none := I.hok.fresh (Nat.le_add_right _ _)
  have ne : s.heap.objs.size + 3 ≠ s.heap.objs.size + 1 := by omega
  have kp : ∀ b o, s.heap.get? b = some o → ((((PySem.W.copyHeap s.heap us).update (s.heap.objs.size + 1) (Obj.mapSeq fun _ => (#[] : Array Value))).push (seqObj "tuple" us.toArray 0)).push (seqObj "list" #[] 0)).get? b = some o := fun b o q => PySem.W.sorting_copy_old q
  have I1 : Inv X pins σ H { s with heap := (((PySem.W.copyHeap s.heap us).update (s.heap.objs.size + 1) (Obj.mapSeq fun _ => (#[] : Array Value))).push (seqObj "tuple" us.toArray 0)).push (seqObj "list" #[] 0) } := I.kept (t' := s.toks) kp
  have atA : ((((PySem.W.copyHeap s.heap us).update (s.heap.objs.size + 1) (Obj.mapSeq fun _ => (#[] : Array Value))).push (seqObj "tuple" us.toArray 0)).push (seqObj "list" #[] 0)).get? (s.heap.objs.size + 1) = some (seqObj "list" #[] e1) := Heap.get?_push_of_some _ (Heap.get?_push_of_some _ ho1)
  have atK : ((((PySem.W.copyHeap s.heap us).update (s.heap.objs.size + 1) (Obj.mapSeq fun _ => (#[] : Array Value))).push (seqObj "tuple" us.toArray 0)).push (seqObj "list" #[] 0)).get? (s.heap.objs.size + 3) = some (seqObj "list" #[] 0) := by
    have q := Heap.get?_push_size (h := ((PySem.W.copyHeap s.heap us).update (s.heap.objs.size + 1) (Obj.mapSeq fun _ => (#[] : Array Value))).push (seqObj "tuple" us.toArray 0)) (o := seqObj "list" #[] 0) rfl
    rw [hkS] at q
    exact q
  have I2 := put_pin (put_pin I1 wa0 atA hna seq_nd) (wk0.cons ne.symm) atK hnk seq_nd
  rw [hkS]
  exact key_rest I2 wa0 wk0 ne r (by omega) (by show X.A.units + 1 + 1 + 1 < cLine; omega) turn fun s' H' I' kp' na ha => ⟨rfl, .ref _, H', I', rfl, h H' _ kp' na ha⟩
end

/-! ### line_order, and sorted by it -/
def lineD (b : Str) : PyData := .tuple [.int ((b.length : Nat) : Int), .str b]
def ordL (bs : List Str) : List Str := bs.mergeSort (PySem.W.dataLe false lineD)
theorem sortL_map (bs : List Str) : ((sortL (bs.map fun b => (V.str b, b))).map Prod.fst) = (ordL bs).map V.str := by
  have e : sortL (bs.map fun b => (V.str b, b)) = (ordL bs).map fun b => (V.str b, b) := by
    unfold sortL ordL
    have q := List.map_mergeSort (r := PySem.W.dataLe false lineD) (s := PySem.W.dataLe false lineKey) (f := fun b : Str => (V.str b, b)) (l := bs) (fun a _ b _ => rfl)
    exact q.symm
  rw [e, List.map_map]
  rfl
def spOrder : Sp := fun vs H Q _ => ∃ b : Str, vs = [.str b] ∧ b.length ≤ sizeLine ∧ ∀ p, H p = none → Q (.ref p) (upd H p (.tup (keyT b)))
def rSortF (K : PySem.W.Frag) (f : Addr) : List V → List V → Hp → VK → Prop := fun vs ws H Q => ∃ (l : Addr) (bs : List Str), vs = [.ref l] ∧ ws = [.ref f] ∧ SqL K H l (bs.map V.str) ∧ (∀ b ∈ bs, b.length ≤ sizeLine)
  ∧ ∀ H' a, (∀ b o, H b = some o → H' b = some o) → H a = none → H' a = some (.lst ((ordL bs).map V.str)) → Q (.ref a) H'
section
variable {X : Cx}
theorem call_sortF {f : Addr} {fd : FuncData} {k : Nat} (F : FnOk X.prog X.w X.K X.mg X.base CX0 k f fd ["line"] spOrder) (hb : Binds X.K fd ["line"] []) (hr : Room (k + 2) X.A) :
    CallRK X (.builtin "sorted") [Str.ofString "key"] (rSortF X.K f) := by
  intro pins s σ H vs ws us us2 Q I r1 r2 h
  obtain ⟨l, bs, rfl, rfl, hl, hbs, q⟩ := h
  obtain rfl := Vals.ref1 r1
  obtain rfl := Vals.ref1 r2
  have e1 : (bs.map fun b => (V.str b, b)).map Prod.fst = bs.map V.str := by rw [List.map_map]; rfl
  refine key_sorted (zs := bs.map fun b => (V.str b, b)) I (by rw [e1]; exact hl) (by have := hr.un; omega) (fun pins2 s2 Hi u z hz I2 kp ru => ?_) fun H' a kp na ha => q H' a kp na (by rw [← sortL_map]; exact ha)
  obtain ⟨b, hbm, rfl⟩ := List.mem_map.mp hz
  have rv : Vals [V.str b] ([u] ++ []) := .cons ru .nil
  refine wpAny_call (codeAny_mono (F.run X.A.in1.in1 X.stack s2 Hi ⟨[u], []⟩ ([u] ++ []) [V.str b] (fun v H' => ∃ p, v = .ref p ∧ Hi p = none ∧ H' = upd Hi p (.tup (keyT b))) E0 hr.in1.in1 I2.env0.in1.in1 (hb s2 [u] I2.kIn rfl) rv ⟨b, rfl, hbs b hbm, fun p hp => ⟨p, rfl, hp, rfl⟩⟩) fun r s' hq => ?_)
  cases r with
  | error e => exact hq
  | ok fl =>
    cases fl with
    | ret u => exact I2.after hq
    | next => exact False.elim hq
    | brk => exact False.elim hq
    | cont => exact False.elim hq
end
end FL
namespace FL
open PySem PySem.Spec PyProof.Rows L2
/-! ### dicts whose keys are texts -/
def KeysOf (kvs : List (Key × V)) (bs : List Str) : Prop := kvs.map (·.1) = bs.map Sum.inr ∧ bs.Nodup
def addB (bs : List Str) (b : Str) : List Str := if b ∈ bs then bs else bs ++ [b]
theorem mem_addB {bs : List Str} {b x : Str} : x ∈ addB bs b ↔ x ∈ bs ∨ x = b := by
  unfold addB
  by_cases h : b ∈ bs
  · rw [if_pos h]
    exact ⟨.inl, fun q => q.elim id fun e => by rw [e]; exact h⟩
  · rw [if_neg h, List.mem_append, List.mem_singleton]
theorem addB_len (bs : List Str) (b : Str) : (addB bs b).length ≤ bs.length + 1 := by
  unfold addB
  by_cases h : b ∈ bs
  · rw [if_pos h]; omega
  · rw [if_neg h, List.length_append]; exact Nat.le_refl _
theorem addB_nodup {bs : List Str} {b : Str} (h : bs.Nodup) : (addB bs b).Nodup := by
  unfold addB
  by_cases q : b ∈ bs
  · rw [if_pos q]; exact h
  · rw [if_neg q]
    refine List.nodup_append.mpr ⟨h, by simp, fun x hx y hy e => ?_⟩
    rw [List.mem_singleton.mp hy] at e
    exact q (e ▸ hx)
theorem KeysOf.mem {kvs : List (Key × V)} {bs : List Str} (h : KeysOf kvs bs) {b : Str} : b ∈ bs ↔ ∃ kv ∈ kvs, kv.1 = Sum.inr b := by
  constructor
  · intro hb
    have : Sum.inr b ∈ kvs.map (·.1) := by rw [h.1]; exact List.mem_map.mpr ⟨b, hb, rfl⟩
    obtain ⟨kv, h1, h2⟩ := List.mem_map.mp this
    exact ⟨kv, h1, h2⟩
  · rintro ⟨kv, h1, h2⟩
    have : (Sum.inr b : Key) ∈ bs.map Sum.inr := by rw [← h.1]; exact List.mem_map.mpr ⟨kv, h1, h2⟩
    obtain ⟨x, h3, h4⟩ := List.mem_map.mp this
    rw [← Sum.inr.inj h4]
    exact h3
theorem KeysOf.val {kvs : List (Key × V)} {bs : List Str} (h : KeysOf kvs bs) {b : Str} : valV kvs (Sum.inr b) ≠ none ↔ b ∈ bs := by
  rw [h.mem]
  have q := valV_any (kvs := kvs) (k := (Sum.inr b : Key))
  constructor
  · intro hn
    have e : (kvs.any fun kv => decide (kv.1 = (Sum.inr b : Key))) = true := by
      rw [q]
      cases e : valV kvs (Sum.inr b : Key) with
      | none => exact absurd e hn
      | some v => rfl
    obtain ⟨kv, h1, h2⟩ := List.any_eq_true.mp e
    exact ⟨kv, h1, of_decide_eq_true h2⟩
  · rintro ⟨kv, h1, h2⟩ hn
    have e : (kvs.any fun kv => decide (kv.1 = (Sum.inr b : Key))) = true := List.any_eq_true.mpr ⟨kv, h1, decide_eq_true h2⟩
    rw [q, hn] at e
    cases e
theorem KeysOf.put {kvs : List (Key × V)} {bs : List Str} (h : KeysOf kvs bs) (b : Str) (v : V) : KeysOf (putK kvs (Sum.inr b) v) (addB bs b) := by
  refine ⟨?_, addB_nodup h.2⟩
  unfold addB
  by_cases q : b ∈ bs
  · rw [if_pos q]
    have hv := h.val.mpr q
    have e : (kvs.any fun kv => decide (kv.1 = (Sum.inr b : Key))) = true := by
      rw [valV_any]
      cases e : valV kvs (Sum.inr b : Key) with
      | none => exact absurd e hv
      | some v => rfl
    unfold putK
    rw [if_pos e, ← h.1, List.map_map]
    refine List.map_congr_left fun kv _ => ?_
    show (if kv.1 = Sum.inr b then (kv.1, v) else kv).1 = kv.1
    by_cases z : kv.1 = Sum.inr b
    · rw [if_pos z]
    · rw [if_neg z]
  · rw [if_neg q]
    have hv : valV kvs (Sum.inr b : Key) = none := by
      cases e : valV kvs (Sum.inr b : Key) with
      | none => rfl
      | some v => exact absurd (h.val.mp (by rw [e]; exact fun z => nomatch z)) q
    rw [putK_new _ hv, List.map_append, h.1, List.map_append]
    rfl
theorem KeysOf.len {kvs : List (Key × V)} {bs : List Str} (h : KeysOf kvs bs) : kvs.length = bs.length := by
  have := congrArg List.length h.1
  rw [List.length_map, List.length_map] at this
  exact this
/-- a lock is taken off -/
theorem same_unlock {H H' : Hp} {d : Addr} {o : Obj} {u : HO} (hd : H d = some u) (s : Same (upd H d (.frz o u)) H') : Same H (upd H' d u) := fun c x e => by
  by_cases h : c = d
  · rw [h] at e ⊢
    rw [upd_same, ← e, hd]
  · rw [upd_ne h]
    refine s c x ?_
    rw [upd_ne h]
    exact e
end FL
namespace FL
open PySem PySem.Spec PyProof.Rows L2
/-! ### relays one after another -/
def thr (rss : List (List Rule)) (y : Str) : Str := rss.foldl (fun y rs => turn rs y) y
theorem turnR_len {r : Rule} {y : Str} {b : Nat} (h : r.new.length ≤ b) : (turnR r y).length ≤ y.length + b := by
  unfold turnR
  split
  · rw [len_app]
    have := cutS_length y (some (r.old.length : Int)) none
    omega
  · omega
theorem turn_len {b : Nat} : ∀ {rs : List Rule} {y : Str}, (∀ r ∈ rs, r.new.length ≤ b) → (turn rs y).length ≤ y.length + b
  | [], y, _ => Nat.le_add_right _ _
  | r :: rs, y, h => by
    show (if fits r y = true then turnR r y else turn rs y).length ≤ _
    by_cases q : fits r y = true
    · rw [if_pos q]; exact turnR_len (h r List.mem_cons_self)
    · rw [if_neg q]; exact turn_len fun r' hr' => h r' (List.mem_cons_of_mem _ hr')
theorem thr_len {b : Nat} : ∀ {rss : List (List Rule)} {y : Str}, (∀ rs ∈ rss, ∀ r ∈ rs, r.new.length ≤ b) → (thr rss y).length ≤ y.length + rss.length * b
  | [], y, _ => Nat.le_add_right _ _
  | rs :: rss, y, h => by
    have h1 := turn_len (y := y) (h rs List.mem_cons_self)
    have h2 := thr_len (rss := rss) (y := turn rs y) fun rs' h' => h rs' (List.mem_cons_of_mem _ h')
    show (thr rss (turn rs y)).length ≤ _
    rw [List.length_cons, Nat.add_mul]
    omega
theorem IdxAt.same {H H' : Hp} {d : Addr} {rs : List Rule} (h : IdxAt H d rs) (s : Same H H') : IdxAt H' d rs := by
  obtain ⟨kvs, h1, h2, h3⟩ := h
  exact ⟨kvs, s _ _ h1, h2, h3.imp fun t a e => s t _ e⟩
structure Idxs (K : PySem.W.Frag) (H : Hp) (L : Addr) (rss : List (List Rule)) : Prop where
  ex : ∃ ds : List Addr, SqL K H L (ds.map V.ref) ∧ Paired (IdxAt H) ds rss
  few : rss.length ≤ 2
  rb : ∀ rs ∈ rss, ∀ r ∈ rs, r.old.length ≤ 40 ∧ r.new.length ≤ 1000
theorem paired_map {α β : Type} {R R' : α → β → Prop} : ∀ {as : List α} {bs : List β}, Paired R as bs → (∀ a b, R a b → R' a b) → Paired R' as bs
  | _, _, .nil, _ => .nil
  | _, _, .cons h t, k => .cons (k _ _ h) (paired_map t k)
end FL
namespace K70
open PySem PySem.Spec PyProof.Rows L2 FL LamX
/-- all but p and tables stays; the lambdas' table is one -/
abbrev refQ : Str := ((Str.ofString "_law_refused_right") ++ (Str.ofString ".<locals>.")) ++ (Str.ofString "<lambda>")
def spRef (Tt : List (Addr × Str)) : Sp := fun vs H Q _ => ∃ (p : Addr) (z y : Str), vs = [.ref p, .str z, .str y] ∧ PotAt H p ∧ Tabs Tt H ∧ z ∈ glyphL ∧ Over z y ∧ y.length ≤ 40 ∧ ∀ H', PotAt H' p → BX p H H' → Tabs Tt H' → Q (.bl true) H'
section
variable {P : Program} {w : World} {K : PySem.W.Frag} {mg : Str → Option Value} {base : Heap}
/-- what a def that may raise is, by its name -/
structure CaX (P : Program) (w : World) (K : PySem.W.Frag) (mg : Str → Option Value) (base : Heap) (x : Str) (k : Nat) (ps : List Str) (sp : Sp) : Prop where
  ex : ∃ f fd, FnOk P w K mg base (L2.CX P w) k f fd ps sp ∧ Binds K fd ps [] ∧ PySem.W.keepIn K (.ref f) = true ∧ mg x = some (.ref f)
theorem pe_caX {X : Cx} {x : Str} {k : Nat} {ps : List Str} {sp : Sp} {p pos : Pos} {e : Expr} {es : List Expr} {t : TA} {E : XK} (c : CaX X.prog X.w X.K X.mg X.base x k ps sp) (hr : Room k X.A) (hg : Gl X x) (hx : Passes (L2.CX X.prog X.w) X E) (ha : PA X (e :: es) t)
    (hdb : (x == ("__debug__" : Str)) = false := by decide) (he : starEach (e :: es) X.env = (false, eval e X.env) :: starEach es X.env := by rfl) (hpl : (backTo pos (starEach es X.env)).any (·.1) = false := by rfl) :
    PE X (.Call (.Name x p) (e :: es) [] pos) (tCall sp [] E t) := by
  obtain ⟨f, fd, F, b, kp, m⟩ := c.ex
  exact pe_call F hr hg m kp b .nil hx ha hdb he hpl
theorem pe_heardP {X : Cx} {g c P0 CS CL CW CB : Addr} {gd : FuncData} {n : Str} {es : List Expr} {params : Arguments} {scope : Scope} {ta : TA} {p lpos pos p1 p2 q1 : Pos} (FH : Fun X.K "_law_heard" "_law_heard" sHeard g gd) (bH : L2.Binds X.K gd ["_law_call"] []) (hg : Gl X "_law_heard") (hm : X.mg "_law_heard" = some (.ref g))
    (T : ErF X.K X.mg CS CL CW CB) (hG : X.A.guards = some []) (hr : Room 7 X.A) (mR : X.mg "repr" = none) (mI : X.mg "isinstance" = none) (mV : X.mg "ValueError" = none)
    (TB : TabB X.base X.mg c P0) (cX : CaX X.prog X.w X.K X.mg X.base "pieces" 5 ["signs", "line", "width"] (spPieces CS CL CW)) (hcode : X.env.code = .ref c) (L : LamS X.env.scope scope) (hdef : defaultsOf params X.env = ([], []))
    (hbind : ∀ (q : Str) (cl : List (Str × Addr)) (pm cv ctv : Value), bindArgs (PySem.W.kla_fn "<lambda>" q params (.Call (.Name "pieces" p1) (.Name n q1 :: es) [] p2) scope cl pm cv ctv) ⟨[], []⟩ = pure [])
    (hgp : scope.names.lookup (Str.ofString "pieces") = some NameKind.globalImplicit) (hpl : ∀ env : Env, (backTo p2 (starEach es env)).any (·.1) = false)
    (ha : ∀ (A : Around) (outer : List Env) (s : Shared) (H : Hp) (E : XK) (f c' : Addr), Room 5 (A.deeper (lamEnv X scope s.heap.objs.size f c')) → PA (lamCx X A outer s H E scope f c') (.Name n q1 :: es) ta) :
    PE X (.Call (.Name "_law_heard" p) [.Lambda params (.Call (.Name "pieces" p1) (.Name n q1 :: es) [] p2) scope lpos] [] pos) (tLam [(P0, X.env.qual ++ "<lambda>")] (TTh X.K CS CL CW) fun E => tCall (spPieces CS CL CW) [] E ta) :=
  pe_heard FH bH hg hm T hG (k := 5) hr (hr.mono (by decide)) mR mI mV TB hcode L hdef hbind fun A outer s H E f c' hr' => pe_caX (X := lamCx X A outer s H E scope f c') cX hr' hgp (pass_lam (X := X)) (ha A outer s H E f c' hr') (by decide) (by rfl) (hpl _)
end
/-- the told lists at L, which came behind Hm -/
structure Told (Hm H' : Hp) (p L : Addr) (rs : List Addr) (xss : List (List V)) : Prop where
  nL : ∀ o, Hm L = some o → ∃ ps, o = .tbl ps
  np : L ≠ p
  gL : H' L = some (.lst (rs.map V.ref))
  it : Paired (fun r xs => H' r = some (.lst xs) ∧ r ≠ L ∧ r ≠ p) rs xss
theorem Told.imp {Hm H' H'' : Hp} {p L : Addr} {rs : List Addr} {xss : List (List V)} (t : Told Hm H' p L rs xss) (s : ∀ c xs, H' c = some (.lst xs) → H'' c = some (.lst xs)) : Told Hm H'' p L rs xss :=
  ⟨t.nL, t.np, s _ _ t.gL, paired_map t.it fun _ _ q => ⟨s _ _ q.1, q.2⟩⟩
theorem Told.snoc {Hm H' : Hp} {p L r : Addr} {rs : List Addr} {xss : List (List V)} {x : List V} (t : Told Hm H' p L rs xss) (hr : H' r = some (.lst x)) (n : r ≠ L) (n2 : r ≠ p) : Told Hm (upd H' L (.lst (rs.map V.ref ++ [.ref r]))) p L (rs ++ [r]) (xss ++ [x]) :=
  ⟨t.nL, t.np, by rw [upd_same, List.map_append]; rfl, paired_snoc (paired_map t.it fun _ _ q => ⟨by rw [upd_ne q.2.1]; exact q.1, q.2⟩) ⟨by rw [upd_ne n]; exact hr, n, n2⟩⟩
theorem Told.but {Hm H' H'' : Hp} {p L : Addr} {rs : List Addr} {xss : List (List V)} (t : Told Hm H' p L rs xss) (b : But p H' H'') : Told Hm H'' p L rs xss :=
  ⟨t.nL, t.np, b _ _ t.gL t.np, paired_map t.it fun _ _ q => ⟨b _ _ q.1 q.2.2, q.2⟩⟩
theorem bx_updL {p L : Addr} {Hm H' : Hp} {o : HO} (b : BX p Hm H') (n : ∀ o, Hm L = some o → ∃ ps, o = .tbl ps) : BX p Hm (upd H' L o) := fun c u e hc ht => by
  rw [upd_ne (fun z => by
    obtain ⟨ps, q⟩ := n u (by rw [← z]; exact e)
    exact ht ps q)]
  exact b c u e hc ht
theorem tabs_updL {T : List (Addr × Str)} {H : Hp} {L : Addr} {xs : List V} {o : HO} (t : Tabs T H) (hL : H L = some (.lst xs)) : Tabs T (upd H L o) := fun q hq => by
  obtain ⟨ps, h1, h2, h3⟩ := t q hq
  have ne : ∀ {c : Addr} {o : HO}, H c = some o → (∀ xs, o ≠ .lst xs) → c ≠ L := fun e n z => by
    rw [z, hL] at e
    exact n _ (Option.some.inj e).symm
  refine ⟨ps, by rw [upd_ne (ne h1 fun xs z => by cases z)]; exact h1, h2, fun pos cv hc => ?_⟩
  obtain ⟨c, e1, e2⟩ := h3 pos cv hc
  exact ⟨c, e1, by rw [upd_ne (ne e2 fun xs z => by unfold CodeO at z; cases z)]; exact e2⟩
/-- an error is told -/
theorem e_of {K : PySem.W.Frag} {CS CL CW C p L0 : Addr} {word : Str} {Q : VK} {E : XK} {H' : Hp} {v : V} {dv : PyData} {o : HO} (hE : ∀ cls d H1, hX K CS CL CW Q cls d H1 → E cls d H1)
    (hw : (C = CS ∧ word = Str.ofString "signs") ∨ (C = CL ∧ word = Str.ofString "line") ∨ (C = CW ∧ word = Str.ofString "width")) (ov : Odd H' p v dv) (hL : H' L0 = none)
    (k : ∀ H'' r, Same H' H'' → H' r = none → H'' r = some (.lst [.str word, .str dv.shown, .bl true]) → Q (.ref r) H'') : ∀ Hb d, Same (upd H' L0 o) Hb → Hb d = none → E (.ref C) (some d) (upd Hb d (.xd [(vN, v)])) := by
  intro Hb d sb hd
  have s1 : Same H' Hb := ((Same.refl H').upd hL).trans sb
  have s2 : Same H' (upd Hb d (.xd [(vN, v)])) := s1.trans ((Same.refl Hb).upd hd)
  refine hE _ _ _ ⟨C, word, d, v, dv, rfl, hw, rfl, upd_same, (ov.bx (.same s2)).ov.sh, ov.nice, fun r hr => ?_⟩
  exact k _ r (s2.upd (s2.none hr)) (s2.none hr) upd_same
end K70
namespace FL
open PySem PySem.Spec PyProof.Rows L2
/-! ### a def called by keywords alone -/
def tFnK (n : Nat) (sp : Sp) (gV : List V → List V) (E : XK) (tk : TA) : TE := fun σ H Q => tk σ H fun zs H2 => zs.length = n ∧ sp (gV zs) H2 Q E
theorem pe_fnK {X : Cx} {CX : CXT} {k : Nat} {x : Str} {f : Addr} {fd : FuncData} {ps ks : List Str} {sp : Sp} {E : XK} {kws : List Keyword} {tk : TA} {p pos : Pos} {gg : List Value → List Value → List Value} {gV : List V → List V → List V}
    (F : FnOk X.prog X.w X.K X.mg X.base CX k f fd ps sp) (hr : Room k X.A) (hg : Gl X x) (hm : X.mg x = some (.ref f)) (hk : PySem.W.keepIn X.K (.ref f) = true) (hb : KBn X.K fd ps 0 ks gg gV) (hx : Passes CX X E) (hkw : PK X kws tk)
    (hdb : (x == ("__debug__" : Str)) = false := by decide)
    (hall : (backToKw pos (keywordEach kws X.env)).all (·.1.isSome) = true := by rfl) (hks : (backToKw pos (keywordEach kws X.env)).filterMap (·.1) = ks := by rfl)
    (hpl : ((backTo pos (starEach [] X.env)).any (·.1) || (backToKw pos (keywordEach kws X.env)).any (·.1.isNone)) = false := by rfl) :
    PE X (.Call (.Name x p) [] kws pos) (tFnK ks.length sp (gV []) E tk) := by
  constructor
  intro pins s σ H Q I h
  refine wpAny_Call_Name_kw (ld_glob I hg hm ?_ hdb)
  refine PySem.W.callWith_KW0 (first := []) (h₀ := X.base) I.ok.mod.kin hk hall (thn (hkw.run pos pins s σ H _ I h) ?_) hpl
  rintro ws s2 ⟨zs, H2, I2, rz, l2, q2⟩
  refine ⟨I2.kIn, ?_⟩
  rw [hks]
  exact run_fnN F hr hb hx I2 (.nil : Vals [] []) rz rfl l2 q2
end FL
namespace K70
open PySem PySem.Spec PyProof.Rows L2 FL
abbrev sTold : Stmt := topS 23
abbrev nTold : List Str := ["_law_glyphs", "_law_verse", "_law_wide", "_law_told", "_law_kept", "_law_part"]
theorem scTold : FnScope nTold ["_law_glyphs", "_law_verse", "_law_wide"] (defScope sTold) := ⟨rfl, rfl, rfl, by decide +kernel, rfl, by decide +kernel, by decide +kernel⟩
def spTold : Sp := fun vs H Q _ => ∃ (z y : Str) (w : Nat), vs = [.str z, .str y, .int ((w : Nat) : Int)] ∧ z ∈ glyphL ∧ Over z y ∧ y.length ≤ 40 ∧ 1 ≤ w ∧ w ≤ 4 ∧ ∀ H', Same H H' → Q (.bl true) H'
/-- signs, line, width out of width, line, signs -/
def rev3 {α : Type} : List α → List α → List α := fun _ zs => zs.reverse
theorem cut_last (xs : List V) : cutV xs none (some (-1)) = xs.dropLast := by
  rw [List.dropLast_eq_take]
  show (xs.drop 0).take ((-1 + ((xs.length : Nat) : Int)).toNat - 0) = _
  rw [List.drop_zero]
  congr 1
  omega
theorem sm_strs : ∀ {ss : List Str}, (∀ s ∈ ss, Plain s ∧ s.length ≤ 40) → SmL 0 (404 * ss.length) (ss.map PyData.str)
  | [], _ => .nil
  | s :: ss, h => by
    obtain ⟨h1, h2⟩ := h s List.mem_cons_self
    have := SmL.cons ((Sm.str h1).mono (show 10 * s.length + 2 ≤ 402 by omega)) (Nat.le_refl 0) (sm_strs fun s hs => h s (List.mem_cons_of_mem _ hs))
    rw [List.length_cons, Nat.mul_succ, Nat.add_comm (404 * ss.length)]
    exact this
theorem pc_ok {y : Str} {w : Nat} (hy : Plain y) (ly : y.length ≤ 40) (h4 : w ≤ 4) : ∀ s ∈ piecesL y w, Plain s ∧ s.length ≤ 40 := by
  unfold piecesL
  split
  · intro s hs
    rw [List.mem_singleton.mp hs]
    exact ⟨hy, ly⟩
  · intro s hs
    obtain ⟨k, _, rfl⟩ := List.mem_map.mp hs
    refine ⟨fun c hc => ?_, by rw [chk_len]; omega⟩
    have hc : c ∈ ((y.cps.toList.drop (k * w)).take w).toArray.toList := hc
    rw [List.toList_toArray] at hc
    exact hy c (List.mem_of_mem_drop (List.mem_of_mem_take hc))
theorem sum40 : ∀ {ss : List Str}, (∀ s ∈ ss, Plain s ∧ s.length ≤ 40) → (ss.map (·.length)).sum ≤ 40 * ss.length
  | [], _ => Nat.le_refl _
  | s :: ss, h => by
    have h1 := (h s List.mem_cons_self).2
    have h2 := sum40 fun s hs => h s (List.mem_cons_of_mem _ hs)
    rw [List.map_cons, List.sum_cons, List.length_cons]
    omega
theorem last_at {ss : List Str} {s : Str} (h : ss[ss.length - 1]? = some s) : atI (ss.map V.str) (-1) = some (V.str s) := by
  have hl : ss.length - 1 < ss.length := (List.getElem?_eq_some_iff.mp h).1
  have hne : ss ≠ [] := fun e => by
    rw [e] at hl
    exact absurd hl (by decide)
  have e := List.dropLast_concat_getLast hne
  have e2 : ss.getLast hne = s := by
    rw [List.getLast_eq_getElem]
    exact (List.getElem?_eq_some_iff.mp h).2
  rw [← e, e2, List.map_append]
  exact atI_last _ _
theorem any_none (n : Nat) : (List.replicate n false).any id = false := by
  induction n with
  | zero => rfl
  | succ n ih => rw [List.replicate_succ, List.any_cons, ih]; rfl
theorem in_strs {s : Str} {ss : List Str} (h : inV (.str s) (ss.map V.str) = true) : s ∈ ss := by
  unfold inV at h
  obtain ⟨v, hv, e⟩ := List.any_eq_true.mp h
  obtain ⟨u, hu, rfl⟩ := List.mem_map.mp hv
  have : u = s := by simpa [eqV] using e
  rw [← this]
  exact hu
theorem flat_strs (ss : List Str) : (ss.map V.str).all flatV = true := by
  rw [List.all_eq_true]
  intro v hv
  obtain ⟨u, _, rfl⟩ := List.mem_map.mp hv
  rfl
theorem dp_strs {K : PySem.W.Frag} {H : Hp} : ∀ (ss : List Str), DpAll K H (ss.map V.str) (ss.map PyData.str)
  | [] => .nil
  | s :: ss => .cons (.str s) (dp_strs ss)
section
variable {P : Program} {w : World} {K : PySem.W.Frag} {mg : Str → Option Value} {base : Heap}
theorem ok_told {f g CS CL CW : Addr} {fd gd : FuncData} (F : Fun K "_law_told_right" "_law_told_right" sTold f fd) (G : FnOk P w K mg base (L2.CX P w) 5 g gd ["signs", "line", "width"] (spPieces CS CL CW)) (bG : Binds K gd ["signs", "line", "width"] []) (kbG : KBn K gd ["signs", "line", "width"] 0 ["width", "line", "signs"] rev3 rev3)
    (kG : PySem.W.keepIn K (.ref g) = true) (mG : mg "pieces" = some (.ref g)) (mR : mg "repr" = none) (mI : mg "isinstance" = none) (mL : mg "list" = none) (mN : mg "len" = none) (mX : mg "max" = none) (mY : mg "any" = none) :
    FnG P w K mg base CX0 6 f fd ["_law_glyphs", "_law_verse", "_law_wide"] spTold := by
  refine okG F scTold (fun vs H Q E h => ?_) (fun cdv A outer s H vs Q E hr hg h => ?_)
  · obtain ⟨_, _, _, rfl, _⟩ := h
    rfl
  · obtain ⟨z, y, wd, rfl, hz, ov, ly, w1, w4, k⟩ := h
    have nd := scTold.nd
    have sz : sizeLine = 16777216 := rfl
    refine ⟨_, pss_cons (ps_set (i := 3) nd rfl (.inl rfl) (pe_call G hr (by rfl) mG kG bG .nil passL (pa_cons (pv 0) (pa_cons (pv 1) (pa_cons (pv 2) pa_nil)))))
      (pss_cons (ps_set (i := 4) nd rfl (.inl rfl) (pe_callB (call_repr hg hr.units) (by rfl) mR (by decide +kernel) (pa_cons (pv 3) pa_nil)))
      (pss_cons (ps_if (PW.pt (pw_or (pt_not (pt_val (pe_callB call_isA (by rfl) mI (by decide +kernel) (pa_cons (pv 3) (pa_cons (pe_bltn (v := .ty "list") (by rfl) mL (by decide +kernel) rfl) pa_nil)))))
          (pw_or (pt_cmpR op_ne (pe_join pe_str (pv 3)) (pv 1) (nomark _))
          (pw_or1 (pt_cmpR op_ne (pe_callB callLen (by rfl) mN PySem.boot_len (pa_cons (pv 3) pa_nil)) (pe_callB (call_max2 rfl) (by rfl) mX (by decide +kernel) (pa_cons pe_int (pa_cons (pe_op op_fdivN (pe_op op_sub (pe_op op_add (pe_callB callLen (by rfl) mN PySem.boot_len (pa_cons (pv 1) pa_nil)) (pv 2)) pe_int) (pv 2)) pa_nil))) (nomark _))))))
        (pss_one (ps_ret pe_bl)) pss_nil)
      (pss_cons (ps_if (PW.pt (pw_or (pt_val (pe_callB (cr_any rfl) (by rfl) mY (by decide +kernel) (pa_cons (pe_lc (own := [("_law_part", 5)]) (g := gName 5) (tt := tYes) (te := tOp rNe (tCB (FL.rLen K) (tCons (tVar 5) tNil)) (tVar 2)) rfl nd (pi_list (pe_slice sl_list (pv 3) po_none (po_some (pe_un un_neg pe_int))))
            (blkOk_by (N := nTold) (sc := defScope sTold) (by decide +kernel)) (fun _ _ _ _ _ => pg_name (i := 5) nd rfl (Or.inl rfl)) (fun _ _ _ _ _ => pts_nil)
            (fun _ _ _ _ _ => pe_cmpR op_ne (pe_callB callLen (by rfl) mN PySem.boot_len (pa_cons (pv 5) pa_nil)) (pv 2) (nomark _))) pa_nil)))
          (pw_or (pt_cmpR op_gt (pe_callB callLen (by rfl) mN PySem.boot_len (pa_cons (pe_ix ix_list (pv 3) (pe_un un_neg pe_int) (fun _ _ => rfl)) pa_nil)) (pv 2) (nomark _))
          (pw_or1 (PW.pt (pw_and (pt_cmpR op_in_seq pe_str (pv 3) (by rfl)) (pw_and1 (pt_cmpR op_ne (pv 1) pe_str (nomark _)))))))))
        (pss_one (ps_ret pe_bl)) pss_nil)
      (pss_cons (ps_expr (pe_bm PySem.F.plainAttrs_list PySem.F.slot_list_append PySem.F.type_list_append mtAppend (pv 3) (pa_cons pe_str pa_nil)))
      (pss_one (ps_ret (pe_cmpR op_eq (pe_callB (call_repr hg hr.units) (by rfl) mR (by decide +kernel) (pa_cons (pe_fnK G hr (by rfl) mG kG kbG passL (pk_cons (pv 2) (pk_cons (pv 1) (pk_cons (pv 0) pk_nil)))) pa_nil)) (pv 4) (nomark _)))))))), ?_⟩
    obtain ⟨sz1, lo, hi, pz, nz⟩ := glyph_ok z hz
    have lz : z.length ≤ 1000 := by omega
    have hy := over_line ov
    have ly2 : y.length ≤ 1000 := by omega
    have hw : widthB (.int ((wd : Nat) : Int)) = true := by
      show (decide (1 ≤ ((wd : Nat) : Int)) && decide (((wd : Nat) : Int) ≤ 4)) = true
      rw [decide_eq_true (by omega), decide_eq_true (by omega)]
      rfl
    refine ⟨_, rfl, _, rfl, _, rfl, ?_⟩
    unfold tNil
    dsimp only
    refine pi_ok sz1 lz hy ly2 hw fun H1 L s1 nL gL => ?_
    rw [Int.toNat_natCast] at gL
    have hl := pc_count (y := y) w1 w4
    have cnt : (y.length + wd - 1) / wd ≤ 44 := Nat.le_trans (Nat.div_le_self _ _) (by omega)
    have pok := pc_ok (y := y) (w := wd) (fun c hc => pz c (ov c hc)) ly w4
    have sm := Sm.list (k := 0) (sm_strs pok) (by decide)
    have jn := pc_join (y := y) w1 w4
    have hmost := pc_most (y := y) w1 w4
    obtain ⟨sl, hsl, lsl⟩ := pc_last (y := y) w1 w4
    have hnone := fun h => pc_none (y := y) w1 w4 h
    obtain ⟨ps, eps⟩ : ∃ ps, ps = piecesL y wd := ⟨_, rfl⟩
    rw [← eps] at gL hl pok sm jn hmost hsl hnone
    refine ⟨_, rfl, .ref L, _, rfl, .inl ⟨.lst (SqL.of gL) (dp_strs ps), sm.nd⟩, sm.nice (by rw [sz]; omega), ?_⟩
    refine ⟨_, rfl, .ref L, "list", "list", rfl, .lst gL, by decide, _, rfl, ?_⟩
    refine iteF ?_
    refine ⟨⟨_, rfl⟩, _, rfl, Str.ofString "", L, ps, rfl, rfl, .inl (SqL.of gL), ?_, ?_⟩
    · have e3 : (Str.ofString "").length = 0 := by decide +kernel
      have := sum40 pok
      rw [e3]
      omega
    rw [jn]
    refine ⟨_, rfl, rfl, _, rfl, ?_⟩
    refine ite2 (fun h => absurd h (by simp)) (fun _ => ?_)
    refine ⟨_, rfl, _, ps.length, rfl, .inl ⟨_, SqL.of gL, by rw [List.length_map]⟩, ?_⟩
    refine ⟨_, rfl, _, y.length, rfl, ⟨by rw [sz]; omega, rfl⟩, _, rfl, _, _, rfl, rfl, _, _, rfl, rfl, _, rfl, _, _, rfl, rfl, ⟨by omega, by omega⟩, _, _, rfl, rfl, _, rfl, ?_⟩
    have ef : (((y.length : Nat) : Int) + ((wd : Nat) : Int) - 1).fdiv ((wd : Nat) : Int) = (((y.length + wd - 1) / wd : Nat) : Int) := by
      rw [show ((y.length : Nat) : Int) + ((wd : Nat) : Int) - 1 = ((y.length + wd - 1 : Nat) : Int) by omega, Int.fdiv_eq_ediv_of_nonneg _ (by omega)]
      rfl
    have e1 : V.int ((ps.length : Nat) : Int) = V.int (if (((y.length : Nat) : Int) + ((wd : Nat) : Int) - 1).fdiv ((wd : Nat) : Int) > 1 then (((y.length : Nat) : Int) + ((wd : Nat) : Int) - 1).fdiv ((wd : Nat) : Int) else 1) := by
      rw [ef]
      congr 1
      split <;> omega
    refine ite2 (fun h => absurd h (by rw [decide_eq_true e1]; simp)) (fun _ => ?_)
    refine ⟨_, rfl, _, rfl, _, rfl, L, _, rfl, SqL.of gL, fun C hC => ?_⟩
    have ecut : cutV (ps.map V.str) none (some (-1)) = ps.dropLast.map V.str := by rw [cut_last, List.map_dropLast]
    have s2 : Same H1 (upd H1 C (.lst (cutV (ps.map V.str) none (some (-1))))) := (Same.refl H1).upd hC
    have gC : upd H1 C (.lst (cutV (ps.map V.str) none (some (-1)))) C = some (.lst (ps.dropLast.map V.str)) := by rw [upd_same, ecut]
    generalize upd H1 C (.lst (cutV (ps.map V.str) none (some (-1)))) = H2 at s2 gC ⊢
    refine ⟨C, rfl, ⟨_, SqL.of gC⟩, fun D hD => ?_⟩
    refine lc_it (walk_list (xs := ps.dropLast.map V.str)) (fun j Hj => Same H2 Hj ∧ Hj D = some (.lst ((List.replicate j false).map V.bl))) ?_ ?_ ?_ ?_
    · exact ⟨(Same.refl H2).upd hD, upd_same⟩
    · rintro j Hj _ ⟨sj, _⟩
      exact SqL.of (sj _ _ gC)
    · rintro j x Hj0 Hj hj ⟨sj, gD⟩ ⟨rfl, hxj⟩
      rw [List.getElem?_map] at hxj
      cases hs : ps.dropLast[j]? with
      | none =>
        rw [hs] at hxj
        cases hxj
      | some s =>
        rw [hs] at hxj
        obtain rfl : V.str s = x := Option.some.inj hxj
        have hm := List.mem_of_getElem? hs
        have hwl := hmost s hm
        have hjl : j < ps.length := by
          have := (List.getElem?_eq_some_iff.mp hs).1
          rw [List.length_dropLast] at this
          omega
        refine ⟨rfl, _, rfl, _, s.length, rfl, ⟨by rw [sz]; omega, rfl⟩, _, rfl, rfl, ?_⟩
        refine ⟨_, gD, by rw [List.length_map, List.length_replicate, sz]; omega, sj.upd hD, ?_⟩
        rw [upd_same, hwl, List.replicate_succ', List.map_append]
        simp
    · rintro Hj ⟨sj, gD⟩
      refine ⟨D, _, rfl, SqL.of gD, _, rfl, ?_⟩
      rw [any_none]
      refine iteF ?_
      have gLj := sj _ _ (s2 _ _ gL)
      refine ⟨_, rfl, _, rfl, L, _, _, _, rfl, rfl, SqL.of gLj, last_at hsl, _, sl.length, rfl, ⟨by rw [sz]; omega, rfl⟩, _, rfl, _, _, rfl, rfl, _, rfl, ?_⟩
      refine ite2 (fun h => absurd (of_decide_eq_true h) (by omega)) (fun _ => ?_)
      refine ⟨_, rfl, L, _, rfl, .inl (SqL.of gLj), rfl, flat_strs ps, _, rfl, ?_⟩
      have s0j : Same H Hj := (s1.trans s2).trans sj
      refine ite2 (fun h => ?A) (fun _ => ?B)
      case' A =>
        have ey := hnone (in_strs h)
        refine ⟨_, rfl, rfl, _, rfl, ?_⟩
        rw [decide_eq_true (congrArg V.str ey)]
        refine iteF ?_
      all_goals
        refine ⟨_, rfl, .inl ⟨rfl, _, SqL.of gLj⟩, L, _, _, rfl, rfl, gLj, (by rw [List.length_map, sz]; omega), ?_⟩
        have sk : Same H (upd Hj L (.lst (ps.map V.str ++ [tx "-"]))) := s0j.upd nL
        generalize upd Hj L (.lst (ps.map V.str ++ [tx "-"])) = Hk at sk ⊢
        refine ⟨_, rfl, _, rfl, _, rfl, rfl, ?_⟩
        show spPieces CS CL CW [V.str z, V.str y, V.int ((wd : Nat) : Int)] _ _ _
        refine pi_ok sz1 lz hy ly2 hw fun H3 L3 s3 n3 g3 => ?_
        rw [Int.toNat_natCast, ← eps] at g3
        refine ⟨.ref L3, _, rfl, .inl ⟨.lst (SqL.of g3) (dp_strs ps), sm.nd⟩, sm.nice (by rw [sz]; omega), ?_⟩
        refine ⟨_, rfl, rfl, ?_⟩
        rw [decide_eq_true rfl]
        exact k _ (sk.trans s3)
end
end K70
namespace K70
open PySem PySem.Spec PyProof.Rows L2 FL LamX
section
variable {P : Program} {w : World} {K : PySem.W.Frag} {mg : Str → Option Value} {base : Heap}
theorem ok_refused {f g c P0 CS CL CW CB : Addr} {fd gd : FuncData} (F : Fun K "_law_refused_right" "_law_refused_right" sRef f fd) (hcd : fd.code = .ref c) (TB : TabB base mg c P0)
    (FH : Fun K "_law_heard" "_law_heard" sHeard g gd) (bH : L2.Binds K gd ["_law_call"] []) (mH : mg "_law_heard" = some (.ref g)) (T : ErF K mg CS CL CW CB) (mR : mg "repr" = none) (mI : mg "isinstance" = none) (mV : mg "ValueError" = none)
    (cP : Ca P w K mg base "_law_pick" 2 ["_law_pot_here", "_law_some"] (spPick K)) (cD : Ca P w K mg base "_law_draw" 1 ["_law_pot_here", "_law_sides"] spDraw) (cX : CaX P w K mg base "pieces" 5 ["signs", "line", "width"] (spPieces CS CL CW)) :
    FnG P w K mg base CX0 8 f fd ["_law_pot_here", "_law_glyphs", "_law_verse"] (spRef [(P0, refQ)]) := by
  refine okGC F hcd scRef (fun vs H Q E h => ?_) (fun A outer s H vs Q E hr hg h => ?_)
  · obtain ⟨_, _, _, rfl, _⟩ := h
    rfl
  · obtain ⟨p, z, y, rfl, hp, hT, hz, ov, ly, k⟩ := h
    have nd := scRef.nd
    have sz : sizeLine = 16777216 := rfl
    have r2 := hr.mono (show 2 ≤ 7 by decide)
    have r5 := hr.mono (show 5 ≤ 7 by decide)
    refine ⟨_, pss_cons (ps_set (i := 3) nd rfl (.inr rfl) (pe_ca cP r2 (by rfl) (pa_cons (pv 0) (pa_cons (pe_lst (pa_cons pe_non (pa_cons pe_int (pa_cons pe_str (pa_cons pe_str (pa_cons pe_str (pa_cons pe_str (pa_cons pe_str (pa_cons pe_str
        (pa_cons (pe_lst (pa_cons pe_str (pa_cons pe_str pa_nil))) (pa_cons (pe_tup (pa_cons pe_str pa_nil)) (pa_cons pe_str (pa_cons pe_str (pa_cons pe_bl (pa_cons pe_str pa_nil))))))))))))))) pa_nil))))
      (pss_cons (ps_set (i := 4) nd rfl (.inr rfl) (pe_ca cP r2 (by rfl) (pa_cons (pv 0) (pa_cons (pe_lst (pa_cons pe_non (pa_cons pe_int (pa_cons pe_str (pa_cons pe_str (pa_cons pe_str (pa_cons (pe_lst (pa_cons pe_str pa_nil)) (pa_cons (pe_tup (pa_cons pe_str pa_nil))
        (pa_cons pe_dnewK (pa_cons pe_bl (pa_cons pe_str (pa_cons (pe_op op_add_str (pv 2) pe_str) (pa_cons pe_str pa_nil))))))))))))) pa_nil))))
      (C8.pss_cut (ps_set (i := 5) nd rfl (.inr rfl) (pe_ca cP r2 (by rfl) (pa_cons (pv 0) (pa_cons (pe_lst (pa_cons pe_non (pa_cons pe_int (pa_cons pe_int (pa_cons (pe_un un_neg pe_int) (pa_cons pe_bl (pa_cons pe_str (pa_cons (pe_tup (pa_cons pe_int pa_nil)) (pa_cons (pe_lst (pa_cons pe_int pa_nil))
        (pa_cons (pe_op op_pow pe_int pe_int) (pa_cons pe_dnewK pa_nil))))))))))) pa_nil))))
      (C8.pss_cut (ps_set (i := 6) nd rfl (.inl rfl) (pe_lst (pa_cons (pe_heardP FH bH (by rfl) mH T hg hr mR mI mV TB cX (by rfl) (lamS_by (by show lamSB (defScope sRef) _ = true; decide +kernel)) (by rfl) (by intro _ _ _ _ _; rfl) (by rfl) (by intro _; rfl)
          (fun A' o' s' H' E' f' c' hr' => (pa_cons (pv 3) (pa_cons (pv 4) (pa_cons (pv 5) pa_nil))))) pa_nil)))
      (C8.pss_cut (ps_expr (pe_bm PySem.F.plainAttrs_list PySem.F.slot_list_append PySem.F.type_list_append mtAppend (pv 6) (pa_cons (pe_heardP FH bH (by rfl) mH T hg hr mR mI mV TB cX (by rfl) (lamS_by (by show lamSB (defScope sRef) _ = true; decide +kernel)) (by rfl) (by intro _ _ _ _ _; rfl) (by rfl) (by intro _; rfl)
          (fun A' o' s' H' E' f' c' hr' => (pa_cons (pv 1) (pa_cons (pv 4) (pa_cons (pv 5) pa_nil))))) pa_nil)))
      (C8.pss_cut (ps_expr (pe_bm PySem.F.plainAttrs_list PySem.F.slot_list_append PySem.F.type_list_append mtAppend (pv 6) (pa_cons (pe_heardP FH bH (by rfl) mH T hg hr mR mI mV TB cX (by rfl) (lamS_by (by show lamSB (defScope sRef) _ = true; decide +kernel)) (by rfl) (by intro _ _ _ _ _; rfl) (by rfl) (by intro _; rfl)
          (fun A' o' s' H' E' f' c' hr' => (pa_cons (pv 1) (pa_cons (pv 2) (pa_cons (pv 5) pa_nil))))) pa_nil)))
      (C8.pss_cut (ps_expr (pe_bm PySem.F.plainAttrs_list PySem.F.slot_list_append PySem.F.type_list_append mtAppend (pv 6) (pa_cons (pe_heardP FH bH (by rfl) mH T hg hr mR mI mV TB cX (by rfl) (lamS_by (by show lamSB (defScope sRef) _ = true; decide +kernel)) (by rfl) (by intro _ _ _ _ _; rfl) (by rfl) (by intro _; rfl)
          (fun A' o' s' H' E' f' c' hr' => (pa_cons (pv 1) (pa_cons (pv 2) (pa_cons (pe_op op_add pe_int (pe_ca cD (hr'.mono (by decide)) (by rfl) (pa_cons (pv 0) (pa_cons pe_int pa_nil)))) pa_nil))))) pa_nil)))
      (pss_cons (ps_set (i := 7) nd rfl (.inl rfl) (pe_lst (pa_cons (pe_lst (pa_cons pe_str (pa_cons (pe_callB (call_repr hg hr.units) (by rfl) mR (by decide +kernel) (pa_cons (pv 3) pa_nil)) (pa_cons pe_bl pa_nil))))
        (pa_cons (pe_lst (pa_cons pe_str (pa_cons (pe_callB (call_repr hg hr.units) (by rfl) mR (by decide +kernel) (pa_cons (pv 4) pa_nil)) (pa_cons pe_bl pa_nil))))
        (pa_cons (pe_lst (pa_cons pe_str (pa_cons (pe_callB (call_repr hg hr.units) (by rfl) mR (by decide +kernel) (pa_cons (pv 5) pa_nil)) (pa_cons pe_bl pa_nil))))
        (pa_cons (pe_lst (pa_cons pe_str pa_nil)) pa_nil))))))
      (pss_one (ps_ret (pe_cmpR (op_eqD hr.units) (pv 6) (pv 7) (nomark _))))))))))), ?_⟩
    -- a picked alien
    refine ⟨_, rfl, (by show 2 ≤ sizeLine; decide), fun a1 ha1 => ?_⟩
    have s1 : Same H (upd H a1 (.lst [tx "-", tx "a"])) := (Same.refl H).upd ha1
    have g1 : upd H a1 (.lst [tx "-", tx "a"]) a1 = some (.lst [tx "-", tx "a"]) := upd_same
    have n1 : a1 ≠ p := Ne.symm (hp.ne ha1)
    have p1 := hp.sameX s1
    have t1 := hT.ext s1
    generalize upd H a1 (.lst [tx "-", tx "a"]) = H1 at s1 g1 p1 t1 ⊢
    refine ⟨(by show 1 ≤ sizeLine; decide), fun a2 ha2 => ?_⟩
    have s2 : Same H1 (upd H1 a2 (.tup [tx "-a"])) := (Same.refl H1).upd ha2
    have g2 : upd H1 a2 (.tup [tx "-a"]) a2 = some (.tup [tx "-a"]) := upd_same
    have n2 : a2 ≠ p := Ne.symm (p1.ne ha2)
    have p2 := p1.sameX s2
    have t2 := t1.ext s2
    replace g1 := s2 _ _ g1
    generalize upd H1 a2 (.tup [tx "-a"]) = H2 at s2 g1 g2 p2 t2 ⊢
    refine ⟨(by show 14 ≤ sizeLine; decide), fun a3 ha3 => ?_⟩
    have s3 : Same H2 (upd H2 a3 (.lst (listA a1 a2))) := (Same.refl H2).upd ha3
    have g3 : upd H2 a3 (.lst (listA a1 a2)) a3 = some (.lst (listA a1 a2)) := upd_same
    have n3 : a3 ≠ p := Ne.symm (p2.ne ha3)
    have p3 := p2.sameX s3
    have t3 := t2.ext s3
    replace g1 := s3 _ _ g1
    replace g2 := s3 _ _ g2
    refine ⟨p, .ref a3, rfl, p3, .inl ⟨a3, _, rfl, n3, SqL.of g3, (by show 0 < 14; decide), (by show 14 ≤ 1000; decide), fun va H4 hva p4 b4 => ?_⟩⟩
    have t4 := tabs_but t3 p3 b4
    obtain ⟨da, oa, bada⟩ := alien_odd (H := H4) (p := p) n1 (b4 _ _ g1 n1) n2 (b4 _ _ g2 n2) hva
    have B4 : BX p H H4 := (BX.same ((s1.trans s2).trans s3)).trans (.but b4)
    clear g1 g2 g3 s1 s2 s3 b4 p1 p2 p3 t1 t2 t3
    -- a picked strange one
    refine ⟨_, rfl, (by show 1 ≤ sizeLine; decide), fun b1 hb1 => ?_⟩
    have s1 : Same H4 (upd H4 b1 (.lst [tx "-"])) := (Same.refl H4).upd hb1
    have g1 : upd H4 b1 (.lst [tx "-"]) b1 = some (.lst [tx "-"]) := upd_same
    have m1 : b1 ≠ p := Ne.symm (p4.ne hb1)
    have p1 := p4.sameX s1
    have t1 := t4.ext s1
    generalize upd H4 b1 (.lst [tx "-"]) = H5 at s1 g1 p1 t1 ⊢
    refine ⟨(by show 1 ≤ sizeLine; decide), fun b2 hb2 => ?_⟩
    have s2 : Same H5 (upd H5 b2 (.tup [tx "-"])) := (Same.refl H5).upd hb2
    have g2 : upd H5 b2 (.tup [tx "-"]) b2 = some (.tup [tx "-"]) := upd_same
    have m2 : b2 ≠ p := Ne.symm (p1.ne hb2)
    have p2 := p1.sameX s2
    have t2 := t1.ext s2
    replace g1 := s2 _ _ g1
    generalize upd H5 b2 (.tup [tx "-"]) = H6 at s2 g1 g2 p2 t2 ⊢
    intro b3 hb3
    have s3 : Same H6 (upd H6 b3 (.dK [])) := (Same.refl H6).upd hb3
    have g3 : upd H6 b3 (.dK []) b3 = some (.dK []) := upd_same
    have m3 : b3 ≠ p := Ne.symm (p2.ne hb3)
    have p3 := p2.sameX s3
    have t3 := t2.ext s3
    replace g1 := s3 _ _ g1
    replace g2 := s3 _ _ g2
    generalize upd H6 b3 (.dK []) = H7 at s3 g1 g2 g3 p3 t3 ⊢
    refine ⟨_, rfl, _, _, rfl, rfl, (by rw [show (Str.ofString "!").length = 1 by decide +kernel, sz]; omega), ?_⟩
    refine ⟨(by show 12 ≤ sizeLine; decide), fun b5 hb5 => ?_⟩
    have s5 : Same H7 (upd H7 b5 (.lst (listS y b1 b2 b3))) := (Same.refl H7).upd hb5
    have g5 : upd H7 b5 (.lst (listS y b1 b2 b3)) b5 = some (.lst (listS y b1 b2 b3)) := upd_same
    have m5 : b5 ≠ p := Ne.symm (p3.ne hb5)
    have p5 := p3.sameX s5
    have t5 := t3.ext s5
    replace g1 := s5 _ _ g1
    replace g2 := s5 _ _ g2
    replace g3 := s5 _ _ g3
    refine ⟨p, .ref b5, rfl, p5, .inl ⟨b5, _, rfl, m5, SqL.of g5, (by show 0 < 12; decide), (by show 12 ≤ 1000; decide), fun vb H8 hvb p8 b8 => ?_⟩⟩
    have t8 := tabs_but t5 p5 b8
    obtain ⟨db, ob, badb⟩ := strange_odd (H := H8) (p := p) hz ov ly m1 (b8 _ _ g1 m1) m2 (b8 _ _ g2 m2) m3 (b8 _ _ g3 m3) hvb
    have B48 : BX p H4 H8 := (BX.same (((s1.trans s2).trans s3).trans s5)).trans (.but b8)
    replace oa := oa.bx B48
    have B8 := B4.trans B48
    clear g1 g2 g3 g5 s1 s2 s3 s5 b8 p1 p2 p3 p5 t1 t2 t3 t5
    -- a picked width
    refine ⟨fun σ' Hm => ∃ (vc : V) (dc : PyData), σ' = [some (.ref p), some (.str z), some (.str y), some va, some vb, some vc, none, none] ∧ PotAt Hm p ∧ Tabs [(P0, refQ)] Hm ∧ BX p H Hm ∧ Odd Hm p va da ∧ Odd Hm p vb db ∧ Odd Hm p vc dc ∧ widthB vc = false, ?_, ?_⟩
    refine ⟨_, rfl, _, rfl, (by show 1 ≤ sizeLine; decide), fun c1 hc1 => ?_⟩
    have s1 : Same H8 (upd H8 c1 (.tup [.int 1])) := (Same.refl H8).upd hc1
    have g1 : upd H8 c1 (.tup [.int 1]) c1 = some (.tup [.int 1]) := upd_same
    have q1 : c1 ≠ p := Ne.symm (p8.ne hc1)
    have p1 := p8.sameX s1
    have t1 := t8.ext s1
    generalize upd H8 c1 (.tup [.int 1]) = H9 at s1 g1 p1 t1 ⊢
    refine ⟨(by show 1 ≤ sizeLine; decide), fun c2 hc2 => ?_⟩
    have s2 : Same H9 (upd H9 c2 (.lst [.int 2])) := (Same.refl H9).upd hc2
    have g2 : upd H9 c2 (.lst [.int 2]) c2 = some (.lst [.int 2]) := upd_same
    have q2 : c2 ≠ p := Ne.symm (p1.ne hc2)
    have p2 := p1.sameX s2
    have t2 := t1.ext s2
    replace g1 := s2 _ _ g1
    generalize upd H9 c2 (.lst [.int 2]) = H10 at s2 g1 g2 p2 t2 ⊢
    refine ⟨_, _, rfl, rfl, ⟨by decide, by decide, by decide⟩, ?_⟩
    intro c3 hc3
    have s3 : Same H10 (upd H10 c3 (.dK [])) := (Same.refl H10).upd hc3
    have g3 : upd H10 c3 (.dK []) c3 = some (.dK []) := upd_same
    have q3 : c3 ≠ p := Ne.symm (p2.ne hc3)
    have p3 := p2.sameX s3
    have t3 := t2.ext s3
    replace g1 := s3 _ _ g1
    replace g2 := s3 _ _ g2
    generalize upd H10 c3 (.dK []) = H11 at s3 g1 g2 g3 p3 t3 ⊢
    refine ⟨(by show 10 ≤ sizeLine; decide), fun c5 hc5 => ?_⟩
    have s5 : Same H11 (upd H11 c5 (.lst (listO c1 c2 c3))) := (Same.refl H11).upd hc5
    have g5 : upd H11 c5 (.lst (listO c1 c2 c3)) c5 = some (.lst (listO c1 c2 c3)) := upd_same
    have q5 : c5 ≠ p := Ne.symm (p3.ne hc5)
    have p5 := p3.sameX s5
    have t5 := t3.ext s5
    replace g1 := s5 _ _ g1
    replace g2 := s5 _ _ g2
    replace g3 := s5 _ _ g3
    refine ⟨p, .ref c5, rfl, p5, .inl ⟨c5, _, rfl, q5, SqL.of g5, (by show 0 < 10; decide), (by show 10 ≤ 1000; decide), fun vc H12 hvc p12 b12 => ?_⟩⟩
    have t12 := tabs_but t5 p5 b12
    obtain ⟨dc, oc, badc⟩ := odd_odd (H := H12) (p := p) q2 (b12 _ _ g2 q2) q1 (b12 _ _ g1 q1) q3 (b12 _ _ g3 q3) hvc
    have B812 : BX p H8 H12 := (BX.same (((s1.trans s2).trans s3).trans s5)).trans (.but b12)
    replace oa := oa.bx B812
    replace ob := ob.bx B812
    have B12 := B8.trans B812
    · exact ⟨vc, dc, rfl, p12, t12, B12, oa, ob, oc, badc⟩
    clear oa ob B4 B8 p8 t8 p4 t4
    rintro σ' Hm ⟨vc, dc, rfl, pm, tm, Bm, oa, ob, oc, badc⟩
    obtain ⟨sz1, lo, hi, pz, nz⟩ := glyph_ok z hz
    have lz : z.length ≤ 1000 := by omega
    have hy := over_line ov
    have ly2 : y.length ≤ 1000 := by omega
    -- the first lambda
    refine ⟨fun σ' H' => ∃ (L : Addr) (rs : List Addr), σ' = [some (.ref p), some (.str z), some (.str y), some va, some vb, some vc, some (.ref L), none] ∧ PotAt H' p ∧ Tabs [(P0, refQ)] H' ∧ BX p Hm H' ∧ Told Hm H' p L rs [[tx "signs", .str da.shown, .bl true]], ?_, ?_⟩
    · refine ⟨tm, fun Ha eN ta L0 hL0 E0' R0 hE _ => ?_⟩
      have Ba := BX.ext (p := p) eN
      have s1 : Same Ha (upd Ha L0 (.lst [tx "none"])) := (Same.refl Ha).upd hL0
      refine ⟨_, rfl, _, rfl, _, rfl, pi_signs ((oa.bx Ba).bx (.same s1)) ((ob.bx Ba).bx (.same s1)) ((oc.bx Ba).bx (.same s1)) bada (e_of hE (.inl ⟨rfl, rfl⟩) (oa.bx Ba) hL0 fun Hb r sb hr gr => ?_)⟩
      refine ⟨(by show 1 ≤ sizeLine; decide), fun L hL => ?_⟩
      have s4 : Same Hb (upd Hb L (.lst [.ref r])) := (Same.refl Hb).upd hL
      have pb := (pm.extN eN).sameX sb
      have nmL : ∀ o, Hm L = some o → ∃ ps, o = .tbl ps := fun o e => Classical.byContradiction fun ht => by
        have := sb _ _ (eN _ _ e fun ps z => ht ⟨ps, z⟩)
        rw [hL] at this
        cases this
      refine ⟨L, [r], rfl, pb.sameX s4, (ta.ext sb).ext s4, Ba.trans (.same (sb.trans s4)), ⟨nmL, Ne.symm (pb.ne hL), upd_same, .cons ⟨s4 _ _ gr, ne_of_none gr hL, Ne.symm ((pm.extN eN).ne hr)⟩ .nil⟩⟩
    -- lambda 2
    · rintro σ' He ⟨L, rs, rfl, pe, te, Be, td⟩
      refine ⟨fun σ' H' => ∃ (L : Addr) (rs : List Addr), σ' = [some (.ref p), some (.str z), some (.str y), some va, some vb, some vc, some (.ref L), none] ∧ PotAt H' p ∧ Tabs [(P0, refQ)] H' ∧ BX p Hm H' ∧ Told Hm H' p L rs [[tx "signs", .str da.shown, .bl true], [tx "line", .str db.shown, .bl true]], ?_, ?_⟩
      · refine ⟨_, rfl, .inl ⟨rfl, _, SqL.of td.gL⟩, te, fun Ha eN ta L0 hL0 E0' R0 hE _ => ?_⟩
        have Ba : BX p Hm Ha := Be.trans (.ext eN)
        have s1 : Same Ha (upd Ha L0 (.lst [tx "none"])) := (Same.refl Ha).upd hL0
        have tda := td.imp fun c xs e => eN _ _ e lst_tbl
        have pa := pe.extN eN
        refine ⟨_, rfl, _, rfl, _, rfl, pi_line ((ob.bx Ba).bx (.same s1)) ((oc.bx Ba).bx (.same s1)) sz1 lz badb (e_of hE (.inr (.inl ⟨rfl, rfl⟩)) (ob.bx Ba) hL0 fun Hb r sb hr gr => ?_)⟩
        have tdb := tda.imp fun c xs e => sb _ _ e
        have nrL : r ≠ L := Ne.symm (ne_of_none tda.gL hr)
        have lrs : rs.length = 1 := paired_len td.it
        refine ⟨L, _, _, rfl, rfl, tdb.gL, (by rw [List.length_map, lrs]; exact (by decide : 1 < 16777216)), ?_⟩
        exact ⟨L, rs ++ [r], rfl, (pa.sameX sb).upd (Ne.symm td.np), tabs_updL (ta.ext sb) tdb.gL, bx_updL (Ba.trans (.same sb)) td.nL, tdb.snoc gr nrL (Ne.symm (pa.ne hr))⟩
      -- lambda 3
      · rintro σ' He ⟨L, rs, rfl, pe, te, Be, td⟩
        refine ⟨fun σ' H' => ∃ (L : Addr) (rs : List Addr), σ' = [some (.ref p), some (.str z), some (.str y), some va, some vb, some vc, some (.ref L), none] ∧ PotAt H' p ∧ Tabs [(P0, refQ)] H' ∧ BX p Hm H' ∧ Told Hm H' p L rs [[tx "signs", .str da.shown, .bl true], [tx "line", .str db.shown, .bl true], [tx "width", .str dc.shown, .bl true]], ?_, ?_⟩
        · refine ⟨_, rfl, .inl ⟨rfl, _, SqL.of td.gL⟩, te, fun Ha eN ta L0 hL0 E0' R0 hE _ => ?_⟩
          have Ba : BX p Hm Ha := Be.trans (.ext eN)
          have s1 : Same Ha (upd Ha L0 (.lst [tx "none"])) := (Same.refl Ha).upd hL0
          have tda := td.imp fun c xs e => eN _ _ e lst_tbl
          have pa := pe.extN eN
          refine ⟨_, rfl, _, rfl, _, rfl, pi_width ((oc.bx Ba).bx (.same s1)) sz1 lz hy ly2 badc (e_of hE (.inr (.inr ⟨rfl, rfl⟩)) (oc.bx Ba) hL0 fun Hb r sb hr gr => ?_)⟩
          have tdb := tda.imp fun c xs e => sb _ _ e
          have nrL : r ≠ L := Ne.symm (ne_of_none tda.gL hr)
          have lrs : rs.length = 2 := paired_len td.it
          refine ⟨L, _, _, rfl, rfl, tdb.gL, (by rw [List.length_map, lrs]; exact (by decide : 2 < 16777216)), ?_⟩
          exact ⟨L, rs ++ [r], rfl, (pa.sameX sb).upd (Ne.symm td.np), tabs_updL (ta.ext sb) tdb.gL, bx_updL (Ba.trans (.same sb)) td.nL, tdb.snoc gr nrL (Ne.symm (pa.ne hr))⟩
        · rintro σ' He ⟨L, rs, rfl, pe, te, Be, td⟩
          refine ⟨fun σ' H' => ∃ (L : Addr) (rs : List Addr), σ' = [some (.ref p), some (.str z), some (.str y), some va, some vb, some vc, some (.ref L), none] ∧ PotAt H' p ∧ Tabs [(P0, refQ)] H' ∧ BX p Hm H' ∧ Told Hm H' p L rs [[tx "signs", .str da.shown, .bl true], [tx "line", .str db.shown, .bl true], [tx "width", .str dc.shown, .bl true], [tx "none"]], ?_, ?_⟩
          · refine ⟨_, rfl, .inl ⟨rfl, _, SqL.of td.gL⟩, te, fun Ha eN ta L0 hL0 E0' R0 _ hR => ?_⟩
            have Ba : BX p Hm Ha := Be.trans (.ext eN)
            have s1 : Same Ha (upd Ha L0 (.lst [tx "none"])) := (Same.refl Ha).upd hL0
            have g0 : upd Ha L0 (.lst [tx "none"]) L0 = some (.lst [tx "none"]) := upd_same
            have tda := td.imp fun c xs e => eN _ _ e lst_tbl
            have pa := pe.extN eN
            have n0 : L0 ≠ p := Ne.symm (pa.ne hL0)
            have nrL : L0 ≠ L := Ne.symm (ne_of_none tda.gL hL0)
            have ps := pa.sameX s1
            have ts := ta.ext s1
            have tds := tda.imp fun c xs e => s1 _ _ e
            generalize upd Ha L0 (.lst [tx "none"]) = Hs at s1 g0 ps ts tds ⊢
            refine ⟨_, rfl, _, rfl, _, rfl, p, 4, rfl, ps, by decide, by decide, fun d Hq d0 d1 pq bq => ?_⟩
            refine ⟨_, _, rfl, rfl, pi_ok sz1 lz hy ly2 (by show (decide (1 ≤ 1 + d) && decide (1 + d ≤ 4)) = true; rw [decide_eq_true (by omega), decide_eq_true (by omega)]; rfl) fun Hb r sb nr gr => hR _ _ ?_⟩
            have tdb := (tds.but bq).imp fun c xs e => sb _ _ e
            have lrs : rs.length = 3 := paired_len td.it
            refine ⟨L, _, _, rfl, rfl, tdb.gL, (by rw [List.length_map, lrs]; exact (by decide : 3 < 16777216)), ?_⟩
            exact ⟨L, rs ++ [L0], rfl, (pq.sameX sb).upd (Ne.symm td.np), tabs_updL ((tabs_but ts ps bq).ext sb) tdb.gL, bx_updL (((Ba.trans (.same s1)).trans (.but bq)).trans (.same sb)) td.nL, tdb.snoc (sb _ _ (bq _ _ g0 n0)) nrL n0⟩
          · rintro σ' He ⟨L, rs, rfl, pe, te, Be, td⟩
            have it := td.it
            cases it with
            | @cons r1 _ _ _ h1 t1 =>
            cases t1 with
            | @cons r2 _ _ _ h2 t2 =>
            cases t2 with
            | @cons r3 _ _ _ h3 t3 =>
            cases t3 with
            | @cons r4 _ _ _ h4 t4 =>
            cases t4
            have gL := td.gL
            replace h1 := h1.1
            replace h2 := h2.1
            replace h3 := h3.1
            replace h4 := h4.1
            replace oa := oa.bx Be
            replace ob := ob.bx Be
            replace oc := oc.bx Be
            replace Be := Bm.trans Be
            clear Bm td
            refine ⟨_, rfl, va, da, rfl, oa.ov.sh, oa.nice, (by show 3 ≤ sizeLine; decide), fun e1 he1 => ?_⟩
            have s1 : Same He (upd He e1 (.lst [tx "signs", .str da.shown, .bl true])) := (Same.refl He).upd he1
            have k1 : upd He e1 (.lst [tx "signs", .str da.shown, .bl true]) e1 = some (.lst [tx "signs", .str da.shown, .bl true]) := upd_same
            generalize upd He e1 (.lst [tx "signs", .str da.shown, .bl true]) = Hf at s1 k1 ⊢
            refine ⟨_, rfl, vb, db, rfl, (ob.bx (.same s1)).ov.sh, ob.nice, (by show 3 ≤ sizeLine; decide), fun e2 he2 => ?_⟩
            have s2 : Same Hf (upd Hf e2 (.lst [tx "line", .str db.shown, .bl true])) := (Same.refl Hf).upd he2
            have k2 : upd Hf e2 (.lst [tx "line", .str db.shown, .bl true]) e2 = some (.lst [tx "line", .str db.shown, .bl true]) := upd_same
            generalize upd Hf e2 (.lst [tx "line", .str db.shown, .bl true]) = Hg at s2 k2 ⊢
            replace k1 := s2 _ _ k1
            replace s2 := s1.trans s2
            refine ⟨_, rfl, vc, dc, rfl, (oc.bx (.same s2)).ov.sh, oc.nice, (by show 3 ≤ sizeLine; decide), fun e3 he3 => ?_⟩
            have s3 : Same Hg (upd Hg e3 (.lst [tx "width", .str dc.shown, .bl true])) := (Same.refl Hg).upd he3
            have k3 : upd Hg e3 (.lst [tx "width", .str dc.shown, .bl true]) e3 = some (.lst [tx "width", .str dc.shown, .bl true]) := upd_same
            generalize upd Hg e3 (.lst [tx "width", .str dc.shown, .bl true]) = Hh at s3 k3 ⊢
            replace k1 := s3 _ _ k1
            replace k2 := s3 _ _ k2
            replace s3 := s2.trans s3
            refine ⟨(by show 1 ≤ sizeLine; decide), fun e4 he4 => ?_⟩
            have s4 : Same Hh (upd Hh e4 (.lst [tx "none"])) := (Same.refl Hh).upd he4
            have k4 : upd Hh e4 (.lst [tx "none"]) e4 = some (.lst [tx "none"]) := upd_same
            generalize upd Hh e4 (.lst [tx "none"]) = Hi at s4 k4 ⊢
            replace k1 := s4 _ _ k1
            replace k2 := s4 _ _ k2
            replace k3 := s4 _ _ k3
            replace s4 := s3.trans s4
            refine ⟨(by show 4 ≤ sizeLine; decide), fun e5 he5 => ?_⟩
            have s5 : Same Hi (upd Hi e5 (.lst [.ref e1, .ref e2, .ref e3, .ref e4])) := (Same.refl Hi).upd he5
            have k5 : upd Hi e5 (.lst [.ref e1, .ref e2, .ref e3, .ref e4]) e5 = some (.lst [.ref e1, .ref e2, .ref e3, .ref e4]) := upd_same
            generalize upd Hi e5 (.lst [.ref e1, .ref e2, .ref e3, .ref e4]) = Hj at s5 k5 ⊢
            replace k1 := s5 _ _ k1
            replace k2 := s5 _ _ k2
            replace k3 := s5 _ _ k3
            replace k4 := s5 _ _ k4
            replace s5 := s4.trans s5
            have dp3 : ∀ {r : Addr} {a b : Str}, Hj r = some (.lst [.str a, .str b, .bl true]) → Dp K Hj (.ref r) (.list [.str a, .str b, .bool true]) := fun e => .lst (SqL.of e) (.cons (.str _) (.cons (.str _) (.cons (.bl _) .nil)))
            have dp1 : ∀ {r : Addr} {a : Str}, Hj r = some (.lst [.str a]) → Dp K Hj (.ref r) (.list [.str a]) := fun e => .lst (SqL.of e) (.cons (.str _) .nil)
            have shp : SeqAt.shaped (.list [.list [.str (Str.ofString "signs"), .str da.shown, .bool true], .list [.str (Str.ofString "line"), .str db.shown, .bool true], .list [.str (Str.ofString "width"), .str dc.shown, .bool true], .list [.str (Str.ofString "none")]]) = true := by
              have f1 := oa.ok
              have f2 := ob.ok
              have f3 := oc.ok
              generalize da.shown = w1 at f1 ⊢
              generalize db.shown = w2 at f2 ⊢
              generalize dc.shown = w3 at f3 ⊢
              unfold SeqAt.shaped
              rw [Bool.and_eq_true]
              refine ⟨?_, rfl⟩
              show ((PyData.strOk (Str.ofString "signs") && (PyData.strOk w1 && true)) && ((PyData.strOk (Str.ofString "line") && (PyData.strOk w2 && true)) && ((PyData.strOk (Str.ofString "width") && (PyData.strOk w3 && true)) && ((PyData.strOk (Str.ofString "none") && true) && true)))) = true
              rw [f1, f2, f3]
              decide +kernel
            refine ⟨_, rfl, _, rfl, _, _, .lst (SqL.of (s5 _ _ gL)) (.cons (dp3 (s5 _ _ h1)) (.cons (dp3 (s5 _ _ h2)) (.cons (dp3 (s5 _ _ h3)) (.cons (dp1 (s5 _ _ h4)) .nil)))), .lst (SqL.of k5) (.cons (dp3 k1) (.cons (dp3 k2) (.cons (dp3 k3) (.cons (dp1 k4) .nil)))), shp, shp, ?_⟩
            rw [SeqAt.eqv_refl _ (SeqAt.canLay_of_shaped shp)]
            exact k _ (pe.sameX s5) (Be.trans (.same s5)) (te.ext s5)
end
end K70
namespace K70
open PySem PySem.Spec PyProof.Rows L2 FL
abbrev sDraw : Stmt := topS 21
abbrev sPot : Stmt := topS 20
abbrev sPick : Stmt := topS 22
section
variable {P : Program} {w : World} {K : PySem.W.Frag} {mg : Str → Option Value} {base : Heap}
theorem scDraw : FnScope ["_law_pot_here", "_law_sides", "_law_digit"] ["_law_pot_here", "_law_sides"] (defScope sDraw) :=
  ⟨rfl, rfl, rfl, by decide +kernel, rfl, by decide +kernel, by decide +kernel⟩
theorem ok_draw {f : Addr} {fd : FuncData} (F : Fun K "_law_draw" "_law_draw" sDraw f fd)
    (mD : mg "divmod" = none) (mI : mg "int" = none) :
    FnOk P w K mg base CX0 1 f fd ["_law_pot_here", "_law_sides"] spDraw := by
  refine F.ok scDraw (fun vs H Q E h => ?_) (fun cdv A outer s H vs Q E hr h => ?_)
  · obtain ⟨p, n, rfl, _⟩ := h
    rfl
  · obtain ⟨p, n, rfl, ⟨a, b, hp, a0, b0, b1⟩, n0, n1, k⟩ := h
    refine ⟨_, pss_cons (ps_if (pt_cmpR op_gt (pe_ix ix_list (pv 0) pe_int (fun _ _ => rfl)) pe_int (nomark _))
        (pss_cons (ps_asg (pe_callB call_divmod (by rfl) mD (by decide +kernel)
            (pa_cons (pe_ix ix_list (pv 0) pe_int (fun _ _ => rfl)) (pa_cons (pv 1) pa_nil)))
            (pg_tup rfl (pgs_cons (pg_sub (pv 0) pe_int set_list) (pgs_cons (pg_name (i := 2) scDraw.nd rfl (.inl rfl)) pgs_nil))))
          (pss_one (ps_ret (pv 2)))) pss_nil)
      (pss_cons (ps_asg (pe_op op_mod (pe_callTy call_int1 (by rfl) mI (by decide +kernel)
            (pa_cons (pe_op op_add (pe_op op_mul (pe_ix ix_list (pv 0) pe_int (fun _ _ => rfl)) pe_int) pe_int) pa_nil)) pe_int)
          (pg_sub (pv 0) pe_int set_list))
      (pss_one (ps_ret (pe_op op_mod (pe_callTy call_int1 (by rfl) mI (by decide +kernel)
        (pa_cons (pe_op op_fdiv (pe_op op_mod (pe_callTy call_int1 (by rfl) mI (by decide +kernel)
          (pa_cons (pe_op op_mul (pe_ix ix_list (pv 0) pe_int (fun _ _ => rfl)) (pe_ix ix_list (pv 0) pe_int (fun _ _ => rfl))) pa_nil)) pe_int) pe_int) pa_nil)) (pv 1))))), ?_⟩
    refine ⟨_, rfl, p, _, _, .int a, rfl, rfl, SqL.of hp, rfl, _, _, rfl, rfl, _, rfl, ?_⟩
    refine ite2 (fun hc => ?_) (fun hc => ?_)
    · refine ⟨_, rfl, p, _, _, .int a, rfl, rfl, SqL.of hp, rfl, _, rfl, a, n, rfl, ⟨n0, n1⟩, fun q hq => ?_⟩
      have npq : p ≠ q := ne_of_none hp hq
      have hp1 : upd H q (.tup [.int (a / n), .int (a % n)]) p = some (.lst [.int a, .int b]) := by
        rw [upd_ne npq]
        exact hp
      refine ⟨q, _, rfl, SqT.of upd_same, rfl, _, _, rfl, _, rfl, p, _, _, 0, rfl, rfl, hp1, rfl, _, _, rfl, rfl, _, rfl, ?_⟩
      refine k (a % n) _ (Int.emod_nonneg _ (by omega)) (Int.emod_lt_of_pos _ n0) ?_ fun c o e nc => ?_
      · exact ⟨a / n, b, upd_same, Int.ediv_nonneg a0 (by omega), b0, b1⟩
      · rw [upd_ne nc, upd_ne (ne_of_none e hq)]
        exact e
    · refine ⟨_, rfl, p, _, _, .int b, rfl, rfl, SqL.of hp, rfl, _, _, rfl, rfl, .inl ⟨by omega, by omega⟩, _, _, rfl, rfl, .inl ⟨_, rfl, _, _, rfl, rfl, (by show (0 : Int) < 2147483587; decide), ?_⟩⟩
      refine ⟨_, rfl, p, _, _, 1, rfl, rfl, hp, rfl, ?_⟩
      have c0 : 0 ≤ (b * 40699 + 30013) % 2147483587 := Int.emod_nonneg _ (by decide)
      have c1 : (b * 40699 + 30013) % 2147483587 < 2147483587 := Int.emod_lt_of_pos _ (by decide)
      refine ⟨_, rfl, p, _, _, _, rfl, rfl, SqL.of upd_same, rfl, _, rfl, p, _, _, _, rfl, rfl, SqL.of upd_same, rfl, _, _, rfl, rfl, .inl ⟨Int.lt_of_lt_of_le (by decide) c0, Int.lt_trans c1 (by decide)⟩, .inl ⟨_, rfl, _, _, rfl, rfl, (by show (0 : Int) < 2147483549; decide), _, _, rfl, rfl, ⟨by decide, by decide⟩, .inl ⟨_, rfl, _, rfl, _, _, rfl, rfl, n0, ?_⟩⟩⟩
      refine k _ _ (Int.emod_nonneg _ (by omega)) (Int.emod_lt_of_pos _ n0) ?_ fun c o e nc => ?_
      · exact ⟨a, _, upd_same, a0, c0, by omega⟩
      · rw [upd_ne nc]
        exact e
theorem scPick : FnScope ["_law_pot_here", "_law_some"] ["_law_pot_here", "_law_some"] (defScope sPick) :=
  ⟨rfl, rfl, rfl, by decide +kernel, rfl, by decide +kernel, by decide +kernel⟩
theorem ok_pick {f g : Addr} {fd gd : FuncData} (F : Fun K "_law_pick" "_law_pick" sPick f fd)
    (G : FnOk P w K mg base CX0 1 g gd ["_law_pot_here", "_law_sides"] spDraw) (bG : Binds K gd ["_law_pot_here", "_law_sides"] [])
    (kG : PySem.W.keepIn K (.ref g) = true) (mG : mg "_law_draw" = some (.ref g)) (mL : mg "len" = none) :
    FnOk P w K mg base CX0 2 f fd ["_law_pot_here", "_law_some"] (spPick K) := by
  refine F.ok scPick (fun vs H Q E h => ?_) (fun cdv A outer s H vs Q E hr h => ?_)
  · obtain ⟨p, v, rfl, _⟩ := h
    rfl
  · obtain ⟨p, v, rfl, hp, h⟩ := h
    refine ⟨_, pss_one (ps_ret (pe_ix ix_seq (pv 1) (pe_call G hr (by rfl) mG kG bG .nil pass0
      (pa_cons (pv 0) (pa_cons (pe_callB call_len (by rfl) mL PySem.boot_len (pa_cons (pv 1) pa_nil)) pa_nil))) (fun _ _ => rfl))), ?_⟩
    rcases h with ⟨q, xs, rfl, nq, hq, l0, l1, k⟩ | ⟨z, rfl, l0, l1, k⟩
    · refine ⟨_, rfl, _, rfl, _, rfl, _, xs.length, rfl, .inl ⟨_, hq, rfl⟩, p, (xs.length : Int), rfl, hp, by omega, by omega, fun d H' d0 d1 hp' bt => ?_⟩
      obtain ⟨x, hx, e⟩ := atI_lt d0 d1
      exact .inl ⟨q, xs, d, x, rfl, rfl, bt.sqL nq hq, e, k x H' hx hp' bt⟩
    · refine ⟨_, rfl, _, rfl, _, rfl, _, z.length, rfl, ⟨Nat.le_trans l1 (by decide), rfl⟩, p, (z.length : Int), rfl, hp, by omega, by omega, fun d H' d0 d1 hp' bt => ?_⟩
      rw [str_len] at d1
      obtain ⟨x, hx, e⟩ := atI_lt d0 d1
      exact .inr (.inr ⟨z, d, x, rfl, rfl, Nat.le_trans l1 (by decide), e, k x H' hx hp' bt⟩)
theorem scPot : FnScope ["_law_script", "_law_k", "_law_start"] ["_law_script", "_law_k"] (defScope sPot) :=
  ⟨rfl, rfl, rfl, by decide +kernel, rfl, by decide +kernel, by decide +kernel⟩
theorem ok_pot {f : Addr} {fd : FuncData} (F : Fun K "_law_pot" "_law_pot" sPot f fd)
    (mA : mg "abs" = none) (mL : mg "len" = none) (mM : mg "max" = none) (mI : mg "int" = none) :
    FnOk P w K mg base CX0 1 f fd ["_law_script", "_law_k"] (spPot K) := by
  refine F.ok scPot (fun vs H Q E h => ?_) (fun cdv A outer s H vs Q E hr h => ?_)
  · obtain ⟨_, _, _, rfl, _⟩ := h
    rfl
  · obtain ⟨a, ns, j, rfl, hs, j0, j1, hn, k⟩ := h
    refine ⟨_, pss_cons (ps_set (i := 2) scPot.nd rfl (.inl rfl) (pe_op op_add (pe_op op_mul pe_int (pv 1)) pe_int))
      (C8.pss_cut (ps_if (pt_cmpR op_lt (pv 1) (pe_callB call_len (by rfl) mL PySem.boot_len (pa_cons (pv 0) pa_nil)) (nomark _))
        (pss_one (ps_set (i := 2) scPot.nd rfl (.inl rfl) (pe_callB call_abs (by rfl) mA (by decide +kernel) (pa_cons (pe_ix ix_list (pv 0) (pv 1) (fun _ _ => rfl)) pa_nil)))) pss_nil)
      (pss_one (ps_ret (pe_lst (pa_cons (pe_callB (call_max2 rfl) (by rfl) mM (by decide +kernel)
          (pa_cons pe_int (pa_cons (pe_op op_sub (pv 2) (pe_op op_pow pe_int pe_int)) pa_nil)))
        (pa_cons (pe_op op_add (pe_op op_mod (pe_callTy call_int1 (by rfl) mI (by decide +kernel)
          (pa_cons (pe_op op_add (pe_op op_add (pe_op op_mul (pe_op op_mod (pe_callTy call_int1 (by rfl) mI (by decide +kernel) (pa_cons (pv 2) pa_nil)) pe_int) pe_int)
            (pe_op op_mul pe_int (pv 1))) pe_int) pa_nil)) pe_int) pe_int) pa_nil)))))), ?_⟩
    refine ⟨_, rfl, _, _, rfl, rfl, .inl ⟨by decide, by decide⟩, _, _, rfl, rfl, ?_⟩
    refine ⟨fun σ' H' => ∃ z : Int, σ' = [some (.ref a), some (.int j), some (.int z)] ∧ H' = H, ?_, ?_⟩
    · refine ⟨_, rfl, _, rfl, _, _, rfl, .inl ⟨_, hs, rfl⟩, _, _, rfl, rfl, _, rfl, ?_⟩
      refine ite2 (fun hc => ?_) (fun hc => ⟨_, rfl, rfl⟩)
      have hlt : j < ((ns.map V.int).length : Int) := of_decide_eq_true hc
      obtain ⟨x, hx, e⟩ := atI_lt j0 hlt
      obtain ⟨i, _, rfl⟩ := List.mem_map.mp hx
      exact ⟨_, rfl, _, rfl, a, _, j, .int i, rfl, rfl, hs, e, i, rfl, _, rfl, rfl⟩
    · rintro σ' H' ⟨z, rfl, rfl⟩
      refine ⟨_, rfl, _, _, rfl, rfl, ⟨by decide, by decide, by decide⟩, _, _, rfl, rfl, _, _, rfl, ?_⟩
      refine ⟨_, rfl, .inl ⟨_, rfl, _, _, rfl, rfl, (by show (0 : Int) < 2147483549; decide), _, _, rfl, rfl, .inr ⟨by decide, by decide⟩, _, rfl, _, _, rfl, rfl, .inl ⟨by decide, by decide⟩, _, _, rfl, rfl, _, _, rfl, rfl, .inl ⟨_, rfl, _, _, rfl, rfl, (by show (0 : Int) < 2147483587; decide), _, _, rfl, rfl, ?_⟩⟩⟩
      refine ⟨(by show 2 ≤ sizeLine; decide), fun p hp => ?_⟩
      refine k p _ hp ⟨_, _, upd_same, ?_, ?_, ?_⟩ fun c o e => ?_
      · split <;> omega
      · have := Int.emod_nonneg (z % 2147483549 * 48271 + 7919 * j + 61) (show (2147483587 : Int) ≠ 0 by decide)
        omega
      · have := Int.emod_lt_of_pos (z % 2147483549 * 48271 + 7919 * j + 61) (show (0 : Int) < 2147483587 by decide)
        omega
      · rw [upd_ne (ne_of_none e hp)]
        exact e
end
end K70
namespace K70
open PySem PySem.Spec PyProof.Rows L2 FL LamX
abbrev sRight : Stmt := topS 26
abbrev sLaw : Stmt := topS 27
abbrev nRight : List Str := ["_law_pot_here", "_law_glyphs", "_law_verse", "_law_turn", "_law_wide"]
theorem scRight : FnScope nRight ["_law_pot_here"] (defScope sRight) := ⟨rfl, rfl, rfl, by decide +kernel, rfl, by decide +kernel, by decide +kernel⟩
theorem scLaw : FnScope ["_law_script", "_law_k", "_law_pot_here", "_law_turn"] ["_law_script"] (defScope sLaw) := ⟨rfl, rfl, rfl, by decide +kernel, rfl, by decide +kernel, by decide +kernel⟩
abbrev Tt1 (P0 : Addr) : List (Addr × Str) := [(P0, refQ)]
def spRight (Tt : List (Addr × Str)) : Sp := fun vs H Q _ => ∃ p : Addr, vs = [.ref p] ∧ PotAt H p ∧ Tabs Tt H ∧ ∀ H', PotAt H' p → BX p H H' → Tabs Tt H' → Q (.bl true) H'
def spLawT (K : PySem.W.Frag) (Tt : List (Addr × Str)) : Sp := fun vs H Q _ => ∃ (a : Addr) (ns : List Int), vs = [.ref a] ∧ SqL K H a (ns.map V.int) ∧ ns.length ≤ 63 ∧ Tabs Tt H ∧ ∀ H', Q (.bl true) H'
section
variable {P : Program} {w : World} {K : PySem.W.Frag} {mg : Str → Option Value} {base : Heap}
theorem ok_right {f P0 : Addr} {fd : FuncData} (F : Fun K "_law_right" "_law_right" sRight f fd) (mR : mg "range" = none) (mA : mg "all" = none)
    (cP : Ca P w K mg base "_law_pick" 2 ["_law_pot_here", "_law_some"] (spPick K)) (cT : CaG P w K mg base "_law_told_right" 6 ["_law_glyphs", "_law_verse", "_law_wide"] spTold) (cF : CaG P w K mg base "_law_refused_right" 8 ["_law_pot_here", "_law_glyphs", "_law_verse"] (spRef (Tt1 P0))) :
    FnG P w K mg base CX0 9 f fd ["_law_pot_here"] (spRight (Tt1 P0)) := by
  refine okG F scRight (fun vs H Q E h => ?_) (fun cdv A outer s H vs Q E hr hg h => ?_)
  · obtain ⟨_, rfl, _⟩ := h
    rfl
  · obtain ⟨p, rfl, hp, hT, k⟩ := h
    have nd := scRight.nd
    have sz : sizeLine = 16777216 := rfl
    have r2 := hr.mono (show 2 ≤ 8 by decide)
    have r6 := hr.mono (show 6 ≤ 8 by decide)
    refine ⟨_, pss_cons (ps_set (i := 1) nd rfl (.inr rfl) (pe_ca cP r2 (by rfl) (pa_cons (pv 0) (pa_cons (pe_lst (pa_cons pe_str (pa_cons pe_str (pa_cons pe_str (pa_cons pe_str (pa_cons pe_str (pa_cons pe_str pa_nil))))))) pa_nil))))
      (C8.pss_cut (ps_set (i := 2) nd rfl (.inr rfl) (pe_join pe_str (pe_lc (own := [("_law_turn", 3)]) (g := gName 3) (tt := tYes) (te := tCall (spPick K) [] E0 (tCons (tVar 0) (tCons (tVar 1) tNil))) rfl nd
          (pi_range1 (by rfl) mR (pa_cons (pe_ca cP r2 (by rfl) (pa_cons (pv 0) (pa_cons (pe_lst (pa_cons pe_int (pa_cons pe_int (pa_cons pe_int (pa_cons pe_int (pa_cons pe_int (pa_cons pe_int (pa_cons pe_int (pa_cons pe_int (pa_cons pe_int pa_nil)))))))))) pa_nil))) pa_nil))
          (blkOk_by (N := nRight) (sc := defScope sRight) (by decide +kernel)) (fun _ _ _ _ _ => pg_name (i := 3) nd rfl (Or.inl rfl)) (fun _ _ _ _ _ => pts_nil)
          (fun _ _ _ _ _ => pe_ca cP r2 (by rfl) (pa_cons (pv 0) (pa_cons (pv 1) pa_nil))))))
      (pss_cons (ps_if (pt_not (pt_val (pe_callB (cr_all rfl) (by rfl) mA (by decide +kernel) (pa_cons (pe_lc (own := [("_law_wide", 4)]) (g := gName 4) (tt := tYes) (te := tCall spTold [] E0 (tCons (tVar 1) (tCons (tVar 2) (tCons (tVar 4) tNil)))) rfl nd
          (pi_tup (pe_tup (pa_cons pe_int (pa_cons pe_int (pa_cons pe_int (pa_cons pe_int pa_nil))))))
          (blkOk_by (N := nRight) (sc := defScope sRight) (by decide +kernel)) (fun _ _ _ _ _ => pg_name (i := 4) nd rfl (Or.inl rfl)) (fun _ _ _ _ _ => pts_nil)
          (fun _ _ _ _ _ => pe_cg cT r6 hg (by rfl) (pa_cons (pv 1) (pa_cons (pv 2) (pa_cons (pv 4) pa_nil))))) pa_nil))))
        (pss_one (ps_ret pe_bl)) pss_nil)
      (pss_one (ps_ret (pe_cg cF hr hg (by rfl) (pa_cons (pv 0) (pa_cons (pv 1) (pa_cons (pv 2) pa_nil)))))))), ?_⟩
    -- signs
    refine ⟨_, rfl, (by show 6 ≤ sizeLine; decide), fun L hL => ?_⟩
    have s1 : Same H (upd H L (.lst (glyphL.map V.str))) := (Same.refl H).upd hL
    have p1 := hp.sameX s1
    refine ⟨p, _, rfl, p1, .inl ⟨L, _, rfl, Ne.symm (hp.ne hL), SqL.of upd_same, (by show 0 < 6; decide), (by show 6 ≤ 1000; decide), fun v H2 hv p2 b2 => ?_⟩⟩
    obtain ⟨z, hz, rfl⟩ : ∃ z, z ∈ glyphL ∧ v = V.str z := by
      have hv : v ∈ glyphL.map V.str := hv
      obtain ⟨z, hz, e⟩ := List.mem_map.mp hv
      exact ⟨z, hz, e.symm⟩
    have t2 := tabs_but (hT.ext s1) p1 b2
    have B2 : BX p H H2 := (BX.same s1).trans (.but b2)
    obtain ⟨sz1, lo, hi, pz, nz⟩ := glyph_ok z hz
    clear s1 p1 b2
    -- a line
    refine ⟨fun σ' H' => ∃ y : Str, σ' = [some (.ref p), some (.str z), some (.str y), none, none] ∧ Over z y ∧ y.length ≤ 40 ∧ PotAt H' p ∧ Tabs (Tt1 P0) H' ∧ BX p H H', ?_, ?_⟩
    · refine ⟨⟨_, rfl⟩, _, rfl, (by show 9 ≤ sizeLine; decide), fun L3 h3 => ?_⟩
      have s3 : Same H2 (upd H2 L3 (.lst ([0, 1, 2, 3, 4, 5, 8, 12, 40].map V.int))) := (Same.refl H2).upd h3
      have p3 := p2.sameX s3
      refine ⟨p, _, rfl, p3, .inl ⟨L3, _, rfl, Ne.symm (p2.ne h3), SqL.of upd_same, (by show 0 < 9; decide), (by show 9 ≤ 1000; decide), fun v H4 hv p4 b4 => ?_⟩⟩
      obtain ⟨d, hd, rfl⟩ : ∃ d : Int, d ∈ ([0, 1, 2, 3, 4, 5, 8, 12, 40] : List Int) ∧ v = V.int d := by
        have hv : v ∈ ([0, 1, 2, 3, 4, 5, 8, 12, 40] : List Int).map V.int := hv
        obtain ⟨d, hd, e⟩ := List.mem_map.mp hv
        exact ⟨d, hd, e.symm⟩
      have d0 : 0 ≤ d ∧ d ≤ 40 := by
        revert d
        decide
      have t4 := tabs_but (t2.ext s3) p3 b4
      have B4 : BX p H H4 := (B2.trans (.same s3)).trans (.but b4)
      refine ⟨d, rfl, by omega, by omega, fun D hD => ?_⟩
      have npD : p ≠ D := p4.ne hD
      refine lc_range (lo := 0) (n := d.toNat) (fun i Hi => PotAt Hi p ∧ Tabs (Tt1 P0) Hi ∧ But p H4 Hi ∧ ∃ cs : List Nat, Hi D = some (.lst (cs.map sign)) ∧ cs.length = i ∧ ∀ c ∈ cs, c ∈ z.cps.toList) ?_ ?_ ?_
      · exact ⟨p4.upd npD, t4.ext ((Same.refl H4).upd hD), (But.refl p H4).upd hD, [], upd_same, rfl, fun _ h => nomatch h⟩
      · rintro i Hi hi' ⟨hpi, ti, bi, cs, hDi, hl, hc⟩
        refine ⟨rfl, ?_⟩
        refine ⟨_, rfl, _, rfl, p, _, rfl, hpi, .inr ⟨z, rfl, by omega, by omega, fun c H5 cz hp5 b5 => ?_⟩⟩
        have gD5 := b5 D _ hDi (Ne.symm npD)
        refine ⟨cs.map sign, gD5, ?_, hp5.upd npD, tabs_updL (tabs_but ti hpi b5) gD5, fun a o e na => ?_, cs ++ [c], ?_, ?_, ?_⟩
        · rw [List.length_map, hl, sz]
          omega
        · rw [upd_ne (ne_of_none e hD)]
          exact b5 a o (bi a o e na) na
        · rw [upd_same, List.map_append]
          rfl
        · rw [List.length_append, hl]
          rfl
        · intro c' hc'
          rcases List.mem_append.mp hc' with h | h
          · exact hc c' h
          · rw [List.mem_singleton.mp h]
            exact cz
      · rintro Hi ⟨hpi, ti, bi, cs, hDi, hl, hc⟩
        have e1 : cs.map sign = (cs.map fun c => (⟨#[c]⟩ : Str)).map V.str := by
          rw [List.map_map]
          rfl
        rw [e1] at hDi
        refine ⟨Str.ofString "", D, cs.map fun c => (⟨#[c]⟩ : Str), rfl, rfl, .inl (SqL.of hDi), ?_, ?_⟩
        · have e2 : ((cs.map fun c => (⟨#[c]⟩ : Str)).map (·.length)).sum = cs.length := by
            rw [List.map_map]
            clear hDi hl hc e1
            induction cs with
            | nil => rfl
            | cons c cs ih =>
              rw [List.map_cons, List.sum_cons, ih, List.length_cons, Nat.add_comm]
              rfl
          have e3 : (Str.ofString "").length = 0 := by decide +kernel
          rw [e2, e3, hl]
          omega
        · rw [join_signs]
          refine ⟨⟨cs.toArray⟩, rfl, fun c h => hc c (by simpa using h), ?_, hpi, ti, B4.trans (.but bi)⟩
          show cs.toArray.size ≤ 40
          rw [List.size_toArray]
          omega
    · rintro σ' H3 ⟨y, rfl, ov, ly, p3, t3, B3⟩
      refine ⟨(by show 4 ≤ sizeLine; decide), fun W hW => ?_⟩
      have s4 : Same H3 (upd H3 W (.tup [.int 1, .int 2, .int 3, .int 4])) := (Same.refl H3).upd hW
      have gW : upd H3 W (.tup [.int 1, .int 2, .int 3, .int 4]) W = some (.tup ([1, 2, 3, 4].map V.int)) := upd_same
      have p4 := p3.sameX s4
      have t4 := t3.ext s4
      have B4 := B3.trans (.same s4)
      refine ⟨W, rfl, ⟨_, SqT.of gW⟩, fun D hD => ?_⟩
      have gW' : upd H3 W (.tup [.int 1, .int 2, .int 3, .int 4]) W = some (.tup ([1, 2, 3, 4].map V.int)) := gW
      generalize upd H3 W (.tup [.int 1, .int 2, .int 3, .int 4]) = H4 at s4 gW' p4 t4 B4 hD ⊢
      refine lc_tup (K := K) (a := W) (xs := ([1, 2, 3, 4] : List Int).map V.int) (fun j Hj => Same H4 Hj ∧ Hj D = some (.lst ((List.replicate j true).map V.bl))) ?_ ?_ ?_ ?_
      · exact ⟨(Same.refl H4).upd hD, upd_same⟩
      · rintro j Hj _ ⟨sj, _⟩
        exact SqT.of (sj _ _ gW')
      · rintro j x Hj hx ⟨sj, gD⟩
        rw [List.getElem?_map] at hx
        cases hw : ([1, 2, 3, 4] : List Int)[j]? with
        | none =>
          rw [hw] at hx
          cases hx
        | some i =>
          rw [hw] at hx
          obtain rfl : V.int i = x := Option.some.inj hx
          have hi2 : i ∈ ([1, 2, 3, 4] : List Int) := List.mem_of_getElem? hw
          have i0 : 1 ≤ i ∧ i ≤ 4 := by
            simp only [List.mem_cons, List.mem_nil_iff, or_false] at hi2
            omega
          have hj : j < 4 := (List.getElem?_eq_some_iff.mp hw).1
          refine ⟨rfl, _, rfl, _, rfl, _, rfl, z, y, i.toNat, by rw [Int.toNat_of_nonneg (by omega)]; rfl, hz, ov, ly, by omega, by omega, fun H5 s5 => ?_⟩
          refine ⟨_, s5 _ _ gD, by rw [List.length_map, List.length_replicate, sz]; omega, (sj.trans s5).upd hD, ?_⟩
          rw [upd_same, List.replicate_succ', List.map_append]
          rfl
      · rintro Hj ⟨sj, gD⟩
        refine ⟨D, _, rfl, SqL.of gD, _, rfl, ?_⟩
        rw [all_true]
        refine iteF ?_
        refine ⟨_, rfl, _, rfl, _, rfl, p, z, y, rfl, p4.sameX sj, t4.ext sj, hz, ov, ly, fun H6 p6 b6 t6 => ?_⟩
        exact k _ p6 ((B4.trans (.same sj)).trans b6) t6
theorem ok_law {f P0 : Addr} {fd : FuncData} (F : Fun K "law" "law" sLaw f fd) (mA : mg "all" = none) (mG : mg "range" = none) (mX : mg "max" = none) (mI : mg "min" = none) (mN : mg "len" = none)
    (cP : Ca P w K mg base "_law_pot" 1 ["_law_script", "_law_k"] (spPot K)) (cR : CaG P w K mg base "_law_right" 9 ["_law_pot_here"] (spRight (Tt1 P0))) :
    FnG P w K mg base CX0 10 f fd ["_law_script"] (spLawT K (Tt1 P0)) := by
  refine okG F scLaw (fun vs H Q E h => ?_) (fun cdv A outer s H vs Q E hr hg h => ?_)
  · obtain ⟨_, _, rfl, _⟩ := h
    rfl
  · obtain ⟨a, ns, rfl, hs, ln, hT, k⟩ := h
    have nd := scLaw.nd
    have sz : sizeLine = 16777216 := rfl
    have hr1 := hr.mono (show 1 ≤ 9 by decide)
    refine ⟨_, pss_cons (ps_for PassesOwn.never rfl (pi_range1 (by rfl) mG (pa_cons (pe_callB (call_max2 rfl) (by rfl) mX (by decide +kernel) (pa_cons pe_int (pa_cons (pe_callB (call_min2 rfl) (by rfl) mI (by decide +kernel)
        (pa_cons (pe_callB callLen (by rfl) mN PySem.boot_len (pa_cons (pv 0) pa_nil)) (pa_cons pe_int pa_nil))) pa_nil))) pa_nil)) (pg_name (i := 1) nd rfl (.inl rfl))
        (pss_cons (ps_set (i := 2) nd rfl (.inr rfl) (pe_ca cP hr1 (by rfl) (pa_cons (pv 0) (pa_cons (pv 1) pa_nil))))
        (pss_one (ps_if (pt_not (pt_val (pe_callB (cr_all rfl) (by rfl) mA (by decide +kernel) (pa_cons (pe_lc (own := [("_law_turn", 3)]) (g := gName 3) (tt := tYes) (te := tCall (spRight (Tt1 P0)) [] E0 (tCons (tVar 2) tNil)) rfl nd
            (pi_range1 (by rfl) mG (pa_cons pe_int pa_nil))
            (blkOk_by (N := ["_law_script", "_law_k", "_law_pot_here", "_law_turn"]) (sc := defScope sLaw) (by decide +kernel)) (fun _ _ _ _ _ => pg_name (i := 3) nd rfl (Or.inl rfl)) (fun _ _ _ _ _ => pts_nil)
            (fun _ _ _ _ _ => pe_cg cR hr hg (by rfl) (pa_cons (pv 2) pa_nil))) pa_nil))))
          (pss_one (ps_ret pe_bl)) pss_nil))))
      (pss_one (ps_ret pe_bl)), ?_⟩
    refine ⟨_, rfl, _, ns.length, rfl, .inl ⟨_, hs, (List.length_map _).symm⟩, _, _, rfl, _, _, rfl, ?_⟩
    refine ⟨_, rfl, (by split <;> split <;> omega), (by split <;> split <;> omega), ?_⟩
    refine for_range (lo := 0) (n := _) (fun i σ Hi => ∃ o1 o2 : Option V, σ = [some (.ref a), o1, o2, none] ∧ Tabs (Tt1 P0) Hi ∧ SqL K Hi a (ns.map V.int)) ?_ ?_ ?_
    · exact ⟨none, none, rfl, hT, hs⟩
    · rintro i σ Hi hi ⟨o1, o2, rfl, ti, hsi⟩
      have hi4 : i < 4 := by
        revert hi
        split <;> split <;> omega
      refine ⟨_, rfl, _, rfl, a, ns, _, rfl, hsi, by omega, by omega, ln, fun q H2 hq hp2 s2 => ?_⟩
      have t2 := ti.ext s2
      have hs2 := s2.sqL hsi
      refine ⟨6, rfl, by decide, by decide, fun D hD => ?_⟩
      refine lc_range (lo := 0) (n := 6) (fun j Hj => PotAt Hj q ∧ Tabs (Tt1 P0) Hj ∧ BX q H2 Hj ∧ Hj D = some (.lst ((List.replicate j true).map V.bl))) ?_ ?_ ?_
      · exact ⟨hp2.upd (hp2.ne hD), t2.ext ((Same.refl H2).upd hD), .same ((Same.refl H2).upd hD), upd_same⟩
      · rintro j Hj hj ⟨pj, tj, bj, gD⟩
        refine ⟨rfl, _, rfl, q, rfl, pj, tj, fun H5 p5 b5 t5 => ?_⟩
        have nDq : D ≠ q := fun z => by
          obtain ⟨x, y, e, _⟩ := hp2
          rw [← z, hD] at e
          cases e
        have gD5 := b5 D _ gD nDq lst_tbl
        refine ⟨_, gD5, by rw [List.length_map, List.length_replicate, sz]; omega, p5.upd (Ne.symm nDq), tabs_updL t5 gD5, bx_updL (bj.trans b5) (fun o e => by rw [hD] at e; cases e), ?_⟩
        rw [upd_same, List.replicate_succ', List.map_append]
        rfl
      · rintro Hj ⟨pj, tj, bj, gD⟩
        refine ⟨D, _, rfl, SqL.of gD, _, rfl, ?_⟩
        rw [all_true]
        refine iteF ?_
        refine ⟨_, _, rfl, tj, ?_⟩
        have nqa : ∀ o, Hi a = some o → a ≠ q := fun o e => ne_of_none e hq
        rcases hs2 with (e | ⟨o, e⟩) | e
        · rcases hsi with (e0 | ⟨o0, e0⟩) | e0
          · exact .inl (.inl (bj _ _ e (nqa _ e0) lst_tbl))
          · exact .inl (.inl (bj _ _ e (nqa _ e0) lst_tbl))
          · exact .inr e0
        · rcases hsi with (e0 | ⟨o0, e0⟩) | e0
          · exact .inl (.inr ⟨o, bj _ _ e (nqa _ e0) (fun _ z => by cases z)⟩)
          · exact .inl (.inr ⟨o, bj _ _ e (nqa _ e0) (fun _ z => by cases z)⟩)
          · exact .inr e0
        · exact .inr e
    · rintro σ Hi ⟨o1, o2, rfl, ti, hsi⟩
      exact k Hi
end
end K70
namespace K70
open PySem PySem.Spec PyProof.Rows L2 FL
abbrev sPieces : Stmt := topS 18
abbrev sPiecesOf : Stmt := topS 16
abbrev nPiecesOf : List Str := ["line", "width", "at"]
theorem scPieces : FnScope ["signs", "line", "width"] ["signs", "line", "width"] (defScope sPieces) := ⟨rfl, rfl, rfl, by decide +kernel, rfl, by decide +kernel, by decide +kernel⟩
theorem scPiecesOf : FnScope nPiecesOf ["line", "width"] (defScope sPiecesOf) := ⟨rfl, rfl, rfl, by decide +kernel, rfl, by decide +kernel, by decide +kernel⟩
theorem signs_str {a : V} (h : signsB a = true) : ∃ z, a = .str z := by
  cases a with
  | str z => exact ⟨z, rfl⟩
  | _ => cases h
theorem line_str {z : Str} {b : V} (h : lineB z b = true) : ∃ y, b = .str y := by
  cases b with
  | str y => exact ⟨y, rfl⟩
  | _ => cases h
theorem width_int {c : V} (h : widthB c = true) : ∃ w : Nat, c = .int ((w : Nat) : Int) ∧ 1 ≤ w ∧ w ≤ 4 := by
  cases c with
  | int i =>
    obtain ⟨h1, h2⟩ := Bool.and_eq_true_iff.mp (show (decide (1 ≤ i) && decide (i ≤ 4)) = true from h)
    have h1 := of_decide_eq_true h1
    have h2 := of_decide_eq_true h2
    exact ⟨i.toNat, by rw [Int.toNat_of_nonneg (by omega)], by omega, by omega⟩
  | _ => cases h
theorem cut_chk {y : Str} {w k : Nat} (h : k * w < y.length) : cutS y (some ((k * w : Nat) : Int)) (some ((k * w + w : Nat) : Int)) = chk y w k := by
  have hl := str_len y
  apply Str_ext
  show ((y.cps.toList.drop (HT.sIx y.length 0 (some ((k * w : Nat) : Int)))).take (HT.sIx y.length y.length (some ((k * w + w : Nat) : Int)) - HT.sIx y.length 0 (some ((k * w : Nat) : Int)))).toArray.toList = ((y.cps.toList.drop (k * w)).take w).toArray.toList
  rw [HT.sIx_nat, HT.sIx_nat]
  generalize k * w = m at h ⊢
  generalize y.cps.toList = l at hl ⊢
  rw [show min m y.length = m by omega]
  by_cases c : m + w ≤ y.length
  · rw [show min (m + w) y.length - m = w by omega]
  · rw [List.take_of_length_le (by rw [List.length_drop]; omega), List.take_of_length_le (l := l.drop m) (i := w) (by rw [List.length_drop]; omega)]
theorem step_ok {n w : Nat} (hn : n ≤ 16777216) (hw : w < n) (w1 : 1 ≤ w) (w4 : w ≤ 4) : RgC 0 ((n : Nat) : Int) ((w : Nat) : Int) ((n + w - 1) / w) := by
  obtain ⟨m, rfl⟩ : ∃ m, n = m + 1 := ⟨n - 1, by omega⟩
  rw [show m + 1 + w - 1 = m + w by omega]
  have e : Builtin.Range.rangeSize 0 ((m + 1 : Nat) : Int) ((w : Nat) : Int) = (((m + w) / w : Nat) : Int) := by
    unfold Builtin.Range.rangeSize
    rw [if_pos (by omega), if_pos (by omega)]
    obtain rfl | rfl | rfl | rfl : w = 1 ∨ w = 2 ∨ w = 3 ∨ w = 4 := by omega
    all_goals omega
  refine ⟨by omega, by omega, ?_, e⟩
  unfold Builtin.Range.small
  rw [e]
  simp only [Builtin.Range.rangeFitsLong, Bool.and_eq_true, Bool.or_eq_true, decide_eq_true_eq, beq_iff_eq]
  obtain rfl | rfl | rfl | rfl : w = 1 ∨ w = 2 ∨ w = 3 ∨ w = 4 := by omega
  all_goals (split <;> (try simp only [Bool.and_eq_true, decide_eq_true_eq]) <;> omega)
def spPcOf : Sp := fun vs H Q _ => ∃ (y : Str) (wd : Nat), vs = [.str y, .int ((wd : Nat) : Int)] ∧ y.length ≤ sizeLine ∧ 1 ≤ wd ∧ wd ≤ 4 ∧ ∀ H' p, Same H H' → H p = none → H' p = some (.lst ((piecesL y wd).map V.str)) → Q (.ref p) H'
section
variable {P : Program} {w : World} {K : PySem.W.Frag} {mg : Str → Option Value} {base : Heap}
theorem ok_piecesof {f : Addr} {fd : FuncData} (F : Fun K "pieces_of" "pieces_of" sPiecesOf f fd) (mN : mg "len" = none) (mR : mg "range" = none) : FnOk P w K mg base CX0 1 f fd ["line", "width"] spPcOf := by
  refine F.ok scPiecesOf (fun vs H Q E h => ?_) (fun cdv A outer s H3 vs Q E hr h => ?_)
  · obtain ⟨_, _, rfl, _⟩ := h
    rfl
  · obtain ⟨y, wd, rfl, ly, w1, w4, done⟩ := h
    have nd := scPiecesOf.nd
    have sz : sizeLine = 16777216 := rfl
    refine ⟨_, pss_cons (ps_if (pt_cmpR op_le (pe_callB callLen (by rfl) mN PySem.boot_len (pa_cons (pv 0) pa_nil)) (pv 1) (nomark _)) (pss_one (ps_ret (pe_lst (pa_cons (pv 0) pa_nil)))) pss_nil)
      (pss_one (ps_ret (pe_lc (own := [("at", 2)]) (g := gName 2) (tt := tYes) rfl nd (pi_range3 (by rfl) mR (pa_cons pe_int (pa_cons (pe_callB callLen (by rfl) mN PySem.boot_len (pa_cons (pv 0) pa_nil)) (pa_cons (pv 1) pa_nil))))
          (blkOk_by (N := nPiecesOf) (sc := defScope sPiecesOf) (by decide +kernel)) (fun _ _ _ _ _ => pg_name (i := 2) nd rfl (Or.inl rfl)) (fun _ _ _ _ _ => pts_nil)
          (fun _ _ _ _ _ => pe_slice sl_str (pv 0) (po_some (pv 2)) (po_some (pe_op op_add (pv 2) (pv 1))))))), ?_⟩
    refine ⟨_, rfl, _, y.length, rfl, ⟨ly, rfl⟩, _, rfl, _, _, rfl, rfl, _, rfl, ?_⟩
    refine ite2 (fun q => ?_) (fun q => ?_)
    · have q := of_decide_eq_true q
      refine ⟨_, rfl, (by show 1 ≤ sizeLine; decide), fun p hp => ?_⟩
      refine done _ p ((Same.refl H3).upd hp) hp ?_
      rw [upd_same]
      unfold piecesL
      rw [if_pos (by omega)]
      rfl
    · have q : ¬ ((y.length : Nat) : Int) ≤ ((wd : Nat) : Int) := fun z => q (decide_eq_true z)
      have hlt : wd < y.length := by omega
      obtain ⟨r1, r2⟩ := few (n := y.length) w1 w4
      obtain ⟨r3, r4, r5⟩ := r2 hlt
      refine ⟨_, rfl, _, y.length, rfl, ⟨ly, rfl⟩, _, rfl, 0, _, _, _, rfl, step_ok (by rw [sz] at ly; exact ly) hlt w1 w4, fun D hD => ?_⟩
      refine lc_it walk_rangeC (fun j Hj => Same H3 Hj ∧ Hj D = some (.lst (((List.range j).map (chk y wd)).map V.str))) ?_ (fun _ _ _ _ => trivial) ?_ ?_
      · exact ⟨(Same.refl H3).upd hD, upd_same⟩
      · rintro j x Ht Hj hj ⟨sj, gD⟩ ⟨rfl, rfl⟩
        have hk : j * wd ≤ ((y.length + wd - 1) / wd - 1) * wd := Nat.mul_le_mul_right wd (by omega)
        have ek : (0 : Int) + ((j : Nat) : Int) * ((wd : Nat) : Int) = ((j * wd : Nat) : Int) := by rw [Int.zero_add, Int.natCast_mul]
        refine ⟨rfl, _, rfl, _, rfl, _, rfl, _, rfl, _, rfl, _, _, rfl, rfl, _, rfl, y, rfl, ly, ?_⟩
        have ec : cutS y (some ((0 : Int) + ((j : Nat) : Int) * ((wd : Nat) : Int))) (some ((0 : Int) + ((j : Nat) : Int) * ((wd : Nat) : Int) + ((wd : Nat) : Int))) = chk y wd j := by
          rw [ek]
          exact cut_chk (by omega)
        have lj : (y.length + wd - 1) / wd ≤ y.length + wd := Nat.le_trans (Nat.div_le_self _ _) (by omega)
        refine ⟨_, gD, ?_, sj.upd hD, ?_⟩
        · rw [List.length_map, List.length_map, List.length_range]
          have : j ≤ j * wd := Nat.le_mul_of_pos_right j (by omega)
          omega
        · rw [upd_same, List.range_succ, List.map_append, List.map_append]
          show some (HO.lst (_ ++ [V.str (cutS y _ _)])) = _
          rw [ec]
          rfl
      · rintro Hj ⟨sj, gD⟩
        refine done Hj D sj hD ?_
        rw [gD]
        unfold piecesL
        rw [if_neg (by omega)]
theorem ok_pieces {f : Addr} {fd : FuncData} {CS CL CW : Addr} (F : Fun K "pieces" "pieces" sPieces f fd) {g1 g2 g3 g4 : Addr} {d1 d2 d3 d4 : FuncData}
    (G1 : FnOk P w K mg base (L2.CX P w) 3 g1 d1 ["signs"] (spCheck CS signsB)) (b1 : Binds K d1 ["signs"] []) (k1 : PySem.W.keepIn K (.ref g1) = true) (m1 : mg "check_signs" = some (.ref g1))
    (G2 : FnOk P w K mg base (L2.CX P w) 3 g2 d2 ["signs", "line"] (spCheckL CL)) (b2 : Binds K d2 ["signs", "line"] []) (k2 : PySem.W.keepIn K (.ref g2) = true) (m2 : mg "check_line" = some (.ref g2))
    (G3 : FnOk P w K mg base (L2.CX P w) 3 g3 d3 ["width"] (spCheck CW widthB)) (b3 : Binds K d3 ["width"] []) (k3 : PySem.W.keepIn K (.ref g3) = true) (m3 : mg "check_width" = some (.ref g3))
    (G4 : FnOk P w K mg base CX0 1 g4 d4 ["line", "width"] spPcOf) (b4 : Binds K d4 ["line", "width"] []) (k4 : PySem.W.keepIn K (.ref g4) = true) (m4 : mg "pieces_of" = some (.ref g4)) : FnOk P w K mg base (L2.CX P w) 4 f fd ["signs", "line", "width"] (spPieces CS CL CW) := by
  refine F.okX scPieces (fun vs H Q E h => ?_) (fun cdv A outer s H vs Q E hr h => ?_)
  · obtain ⟨_, _, _, _, _, _, rfl, _⟩ := h
    rfl
  · obtain ⟨a, b, c, na, nb, nc, rfl, ha, hb, hc, sa, sb, sc, e1, e2, e3, e4⟩ := h
    have sz : sizeLine = 16777216 := rfl
    have px : ∀ {X : Cx}, X = cxOf (L2.CX P w) P w K mg base ["signs", "line", "width"] "pieces" (defScope sPieces) f cdv A outer s H E → Passes (L2.CX X.prog X.w) X E := by
      rintro X rfl
      exact passes_call (W := fun cls d _ H => E cls d H) (takes_of rfl rfl rfl rfl) fun _ _ _ _ h => h
    refine ⟨_, pss_cons (ps_expr (pe_call G1 hr (by rfl) m1 k1 b1 .nil (px rfl) (pa_cons (pv 0) pa_nil)))
      (pss_cons (ps_expr (pe_call G2 hr (by rfl) m2 k2 b2 .nil (px rfl) (pa_cons (pv 0) (pa_cons (pv 1) pa_nil))))
      (pss_cons (ps_expr (pe_call G3 hr (by rfl) m3 k3 b3 .nil (px rfl) (pa_cons (pv 2) pa_nil)))
      (pss_one (ps_ret (pe_call G4 (hr.mono (by decide)) (by rfl) m4 k4 b4 .nil pass0 (pa_cons (pv 1) (pa_cons (pv 2) pa_nil))))))), ?_⟩
    refine ⟨_, rfl, a, na, rfl, ha, sa, fun h1 H1 s1 => ?_, fun h1 H1 d s1 hd => e1 h1 H1 d s1 hd⟩
    obtain ⟨z, rfl⟩ := signs_str h1
    have keep : ∀ {v : V} {n : String}, Any H v n → Any H1 v n := fun q => q.same fun _ _ _ e => s1 _ _ e
    refine ⟨_, rfl, _, rfl, z, b, nb, rfl, keep hb, sb, fun h2 => ?_, fun h2 d hd => e2 z rfl h1 h2 H1 d s1 hd⟩
    obtain ⟨y, rfl⟩ := line_str h2
    refine ⟨_, rfl, c, nc, rfl, keep hc, sc, fun h3 H3 s3 => ?_, fun h3 H3 d s3 hd => e3 z rfl h1 h2 h3 H3 d (s1.trans s3) hd⟩
    obtain ⟨wd, rfl, w1, w4⟩ := width_int h3
    have sH := s1.trans s3
    have ly := sb y rfl
    have done := e4 z y ((wd : Nat) : Int) rfl rfl rfl h1 h2 h3
    rw [Int.toNat_natCast] at done
    exact ⟨_, rfl, _, rfl, y, wd, rfl, ly, w1, w4, fun H' p sp hp e => done H' p (sH.trans sp) (sH.none hp) e⟩
end
end K70
namespace FL
open PySem PySem.Spec PyProof.Rows L2 LamX
/-! ### the end of a law one of whose defs makes lambdas: its table of code objects at T0 -/
abbrev bareTab : Obj := { cls := .none, data := .fields #[] }
def withT (T0 : Addr) (G : Hp) : Hp := fun b => if b = T0 then some (.tbl #[]) else G b
theorem with_at {T0 b : Addr} {G : Hp} {u : HO} (h : withT T0 G b = some u) : (b = T0 ∧ u = .tbl #[]) ∨ (b ≠ T0 ∧ G b = some u) := by
  unfold withT at h
  by_cases c : b = T0
  · rw [if_pos c] at h
    exact .inl ⟨c, (Option.some.inj h).symm⟩
  · rw [if_neg c] at h
    exact .inr ⟨c, h⟩
theorem endT {P : Program} {w : World} {K : PySem.W.Frag} {mg mb : Str → Option Value} {k : Nat} {fa a c0 T0 : Addr} {fd : FuncData} {x : Str} {sp : Sp} {s : Shared} {vs : List Value} {ns : List Int}
    (kx : K.In s.heap) (gl : s.heap.Ns mainGlobals mg) (bl : s.heap.Ns builtinsNs mb) (bb : ∀ y : Str, y ≠ "__name__" → mb y = bootBuiltins y) (nl : s.heap.NoLimit) (ng : s.gens = #[])
    (tab : s.heap.get? T0 = some bareTab) (out : K.lookup T0 = none) (cd : PySem.W.CodeHd s.heap c0 T0)
    (bmod : ∃ (bm : Addr) (ob : Obj), mg "__builtins__" = some (.ref bm) ∧ bm ≠ builtinsNs ∧ s.heap.get? bm = some ob ∧ ob.cls = .type "module" ∧ ob.dict = some builtinsNs ∧ ob.data = .plain)
    (oa : s.heap.get? a = some { cls := .type "list", data := .seq vs.toArray }) (hi : IntsAre vs ns) (le : ns.length ≤ sizeLine) (rm : Room k callerA)
    (F : ∀ base : Heap, K.In base → base.Ns mainGlobals mg → TabB base mg c0 T0 → FnG P w K mg base CX0 k fa fd [x] sp) (bd : ∀ (s : Shared) (u : Value), BindsTo s fd ⟨[u], []⟩ [(x, u)])
    (pr : ∀ H : Hp, H T0 = some (.tbl #[]) → SqL K H a (ns.map V.int) → sp [.ref a] H (fun v _ => v = .bl true) fun _ _ _ => False) :
    codeAny (model P w) callerA (.call (.ref fa) ⟨[.ref a], []⟩) (fun r t => r = .ok (.ret (.bool true)) ∧ OldK s.heap t.heap ∧ t.os = s.os ∧ AllBare t.gens) s := by
  have rv := vals_ints hi
  have lv := hi.length
  let o : Obj := { cls := .type "list", data := .seq vs.toArray }
  let H : Hp := withT T0 (onlyH K a o ns)
  have na : a ≠ T0 := fun z => by
    rw [z, tab] at oa
    cases oa
  have hT : H T0 = some (.tbl #[]) := if_pos rfl
  have hA : H a = onlyH K a o ns a := if_neg na
  have sq : SqL K H a (ns.map V.int) := by
    cases q : K.lookup a with
    | none => exact .inl (.inr ⟨o, hA.trans (if_pos ⟨rfl, q⟩)⟩)
    | some o' =>
      have e := kx a o' q
      rw [oa] at e
      cases e
      exact .inr ⟨_, vs.toArray, _, q, rfl, rfl, rfl, by rw [List.size_toArray, lv]; exact le, by simpa using rv⟩
  have ok : HOk P w H s.heap := fun b u e => by
    rcases with_at e with ⟨rfl, rfl⟩ | ⟨_, e⟩
    · exact tab
    · obtain ⟨rfl, _, rfl⟩ := only_at e
      exact ⟨oa, by rw [List.length_map]; exact le, vs, _, rv, oa⟩
  have seen : ∀ {b : Addr} {u : HO}, H b = some u → s.heap.get? b = some bareTab ∨ s.heap.get? b = some o := fun {b u} e => by
    rcases with_at e with ⟨rfl, _⟩ | ⟨_, e⟩
    · exact .inl tab
    · obtain ⟨rfl, _, _⟩ := only_at e
      exact .inr oa
  have stays : ∀ {b : Addr} {u : Obj}, s.heap.get? b = some u → (∀ v n, u.data ≠ .seq v n) → u.data ≠ .fields #[] → (hidT s.heap H).get? b = some u := fun {b u} e h1 h2 => by
    refine hidT_get e ?_
    cases q : H b with
    | none => rfl
    | some v =>
      rcases seen q with z | z
      · rw [e] at z
        cases z
        exact absurd rfl h2
      · rw [e] at z
        cases z
        exact absurd rfl (h1 _ _)
  have stay : ∀ {b : Addr} {m : Str → Option Value}, s.heap.Ns b m → (hidT s.heap H).Ns b m := fun {b m} n => by
    obtain ⟨ob, es, ep, e, d, r⟩ := n
    refine ⟨ob, es, ep, stays e (fun v n z => ?_) (fun z => ?_), d, r⟩
    · rw [d] at z
      cases z
    · rw [d] at z
      cases z
  have kb : K.In (hidT s.heap H) := fun b ob e => by
    refine hidT_get (kx b ob e) ?_
    cases q : H b with
    | none => rfl
    | some u =>
      rcases with_at q with ⟨rfl, _⟩ | ⟨_, q⟩
      · rw [out] at e
        cases e
      · obtain ⟨rfl, n, _⟩ := only_at q
        rw [n] at e
        cases e
  have md : Mod K mg (hidT s.heap H) := ⟨kb, stay gl, ⟨mb, stay bl, bb⟩, by
    obtain ⟨mc, n1, n2⟩ := nl
    exact ⟨mc, stay n1, n2⟩⟩
  have tb : TabB (hidT s.heap H) mg c0 T0 := by
    refine ⟨?_, ?_, ?_⟩
    · obtain ⟨u, us, f1, f2, f3, f4, f5, f6, f7, e1, r1, r2, r3, rest⟩ := cd
      refine ⟨u, us, f1, f2, f3, f4, f5, f6, f7, stays e1 (fun v n z => ?_) (fun z => ?_), r1, r2, r3, rest⟩
      · rw [r2] at z
        cases z
      · rw [r2] at z
        cases z
        simp at r3
    · obtain ⟨bm, ob, m1, m2, m3, m4, m5, m6⟩ := bmod
      refine ⟨bm, ob, m1, m2, fun q => ?_, fun q => ?_, stays m3 (fun v n z => ?_) (fun z => ?_), m4, m5, m6⟩
      · obtain ⟨u, es, ep, e, d, _⟩ := gl
        rw [q, e] at m3
        cases m3
        rw [d] at m6
        cases m6
      · rw [q, tab] at m3
        cases m3
        cases m6
      · rw [m6] at z
        cases z
      · rw [m6] at z
        cases z
    · intro q
      obtain ⟨u, es, ep, e, d, _⟩ := gl
      rw [q, tab] at e
      cases e
      cases d
  have env : Env0 P w K mg (hidT s.heap H) callerA [] s H :=
    ⟨rfl, md, fun b ob e => of_hidT e, Nat.le_of_eq (hidT_size _ _), trivial, fun b q => absurd (show b ∈ ([] : List Addr) from q) (by simp), ok, .of_eq ng⟩
  have run := (F _ kb (stay gl) tb).goes callerA [] s H ⟨[.ref a], []⟩ [.ref a] [.ref a] _ _ rm rfl env (bd s (.ref a)) (.cons rfl .nil) (pr H hT sq)
  refine codeAny_mono run fun r t z => ?_
  cases r with
  | error e => exact False.elim z
  | ok fl =>
    cases fl with
    | next => exact False.elim z
    | brk => exact False.elim z
    | cont => exact False.elim z
    | ret u =>
      obtain ⟨v, H', so, br, un, ok', rr, q⟩ := z
      obtain rfl : v = .bl true := q
      obtain rfl : u = Value.bool true := rr
      obtain ⟨more, gm⟩ : ∃ more : Array Value, t.heap.get? T0 = some { cls := .none, data := .fields more } := by
        obtain ⟨m, z⟩ := un.tbls T0 #[] hT
        exact ⟨_, ok' T0 _ z⟩
      have old : ∀ b ob, b ≠ T0 → s.heap.get? b = some ob → t.heap.get? b = some ob := fun b ob nb e => by
        cases q : H b with
        | none => exact un.keep b ob e q (by intro n; exact absurd (show b ∈ ([] : List Addr) from n) (by simp)) (by simp)
        | some u =>
          rcases with_at q with ⟨z, _⟩ | ⟨_, q2⟩
          · exact absurd z nb
          · obtain ⟨rfl, n, rfl⟩ := only_at q2
            obtain ⟨e2, _⟩ := ok' b _ (un.frzs b o _ q)
            rw [oa] at e
            cases e
            exact e2
      refine ⟨rfl, ⟨fun b ob e => ?_, fun b ob e => ?_⟩, so, br⟩
      · by_cases z : b = T0
        · subst z
          rw [tab] at e
          cases e
          exact .inr (.inl ⟨(cd.tab tab).isCodeTable, rfl, #[], more, rfl, by rw [Array.empty_append]; exact gm⟩)
        · exact .inl (old b ob z e)
      · by_cases z : b = T0
        · subst z
          exact ⟨_, gm⟩
        · exact ⟨ob, old b ob z e⟩
theorem walkT {l : PySem.W.OpenLaw} {n k : Nat} {q : Program} {loose : List Str} {XP : (Str → Option Value) → Heap → Prop} {YP : World → Heap → Prop} {d : DefRec} {x : Str} (hn : l.most = some n) (hs : n ≤ sizeLine) (hd : d.params.defaults = []) (rm : Room k callerA)
    (F : ∀ (w : World) (mg : Str → Option Value) (fa : Addr) (h : Heap), YP w h → h.Ns mainGlobals mg → mg d.name = some (.ref fa) → ∃ (K : PySem.W.Frag) (fd : FuncData) (sp : Sp) (c0 T0 : Addr), K.In h ∧ h.get? T0 = some bareTab ∧ K.lookup T0 = none ∧ PySem.W.CodeHd h c0 T0
      ∧ (∀ (s : Shared) (u : Value), BindsTo s fd ⟨[u], []⟩ [(x, u)])
      ∧ (∀ (H : Hp) (a : Addr) (ns : List Int), ns.length ≤ n → H T0 = some (.tbl #[]) → SqL K H a (ns.map V.int) → sp [.ref a] H (fun v _ => v = .bl true) fun _ _ _ => False)
      ∧ ∀ base : Heap, K.In base → base.Ns mainGlobals mg → TabB base mg c0 T0 → FnG l.prog w K mg base CX0 k fa fd [x] sp) :
    PySem.W.WalkO q loose XP YP l.row.toRowW d [] (fun f vs => PySem.call f vs) := by
  refine Att.attach_call hn hd ?_
  intro w s₀ s₁ mg mb fa o pm cd doc a vs ns G Y ho hd' hcd hmg hobj hints hlen hg
  obtain ⟨K, fd, sp, c0, T0, kx, tab, out, code, bd, pr, FF⟩ := F w mg fa _ Y G.T.g hmg
  exact endT kx G.T.g G.T.b G.T.builtins G.T.nolimit hg tab out code G.T.bmain hobj hints (Nat.le_trans hlen hs) rm FF bd fun H t0 sq => pr H a ns hlen t0 sq
end FL
namespace FL
open PySem PySem.Spec PyProof.Rows L2 LamX
/-! ### what the top left, where a def makes lambdas -/
abbrev Saw : Type := (Bool × List He.FnV) × Bool
def sawT (n : Nat) (ds : List DA) (ex : PySem.W.Frag → Bool) (p : He.Defn) (g : Addr → Option Obj) : Saw :=
  (lookF ds ex (He.frT g (He.asD g n)), He.tabsB g [p] (He.frT g (He.asD g n)))
structure SaysT (ds : List DA) (ex : PySem.W.Frag → Bool) (p : He.Defn) (h : Heap) (K : PySem.W.Frag) : Prop where
  seen : lookF ds ex K = dueF ds
  code : PySem.W.codeHdIn K (He.cT K p).1 (He.cT K p).2 = true
  out : K.lookup (He.cT K p).2 = none
  tab : h.get? (He.cT K p).2 = some bareTab
theorem says_of {n : Nat} {ds : List DA} {ex : PySem.W.Frag → Bool} {p : He.Defn} {h : Heap} (e : sawT n ds ex p h.get? = (dueF ds, true)) : SaysT ds ex p h (He.frT h.get? (He.asD h.get? n)) := by
  have e1 : lookF ds ex (He.frT h.get? (He.asD h.get? n)) = dueF ds := congrArg Prod.fst e
  have e2 : He.tabsB h.get? [p] (He.frT h.get? (He.asD h.get? n)) = true := congrArg Prod.snd e
  obtain ⟨a1, a2⟩ := Bool.and_eq_true_iff.mp (List.all_eq_true.mp e2 p List.mem_cons_self)
  cases q : h.get? (He.cT (He.frT h.get? (He.asD h.get? n)) p).2 with
  | none =>
    rw [q] at a2
    cases a2
  | some o =>
    rw [q] at a2
    exact ⟨e1, a1, He.frT_none q a2, by rw [q, He.emptyTab_eq a2]⟩
def hookT (n : Nat) (ds : List DA) (ex : PySem.W.Frag → Bool) (p : He.Defn) : PySem.W.Hook where
  α := Saw
  obs := fun s => sawT n ds ex p s.heap.get?
  val := fun _ => (dueF ds, true)
  says := fun _ h => ∃ K : PySem.W.Frag, K.In h ∧ SaysT ds ex p h K
  of := fun _ _ e => ⟨_, He.frT_in, says_of e⟩
  keeps := fun _ _ _ ⟨K, i, c⟩ k => ⟨K, PySem.W.Frag.In.keeps i k, c.seen, c.code, c.out, k _ _ c.tab⟩
def obT (n : Nat) (ds : List DA) (ex : PySem.W.Frag → Bool) (p : He.Defn) (s : PySem.W.SharedT) : Saw := sawT n ds ex p (HandSHeadRun.getT s)
theorem obT_eq {n : Nat} {ds : List DA} {ex : PySem.W.Frag → Bool} {p : He.Defn} (s : PySem.W.SharedT) : obT n ds ex p s = (hookT n ds ex p).obs s.abs := by
  have e : HandSHeadRun.getT s = s.abs.heap.get? := funext fun a => HandSHeadRun.getT_eq s a
  unfold obT
  rw [e]
  rfl
theorem code_at {K : PySem.W.Frag} {p : He.Defn} {x q : Str} {st : Stmt} {fd : FuncData} (F : Fun K x q st (He.fAd K p) fd) : fd.code = .ref (He.cT K p).1 := by
  obtain ⟨oc, od, kV, doc, pm, an, cdv, ct, osl, rfl, lk, hc⟩ := F.ex
  obtain ⟨c, rfl⟩ := He.codeIn_ref hc
  have e : He.codeOf K p = c := He.codeOf_eq lk rfl
  show Value.ref c = .ref (He.codeOf K p)
  rw [e]
end FL
namespace FL
open PySem PySem.Spec PyProof.Rows L2 LamX
/-! ### an error's class, as the top left it -/
def oexB (K : PySem.W.Frag) (C : Addr) : Bool := match K.lookup C with
  | some ⟨.type t, _, .cls cd, sl⟩ => decide (t = "type") && (match cd.mro, sl.toList with
    | .ref D :: bm, [_, _, _, _, some (.builtin m), _] => decide (D = C) && (decide (m = "ValueError.__new__") && (!cd.hasDel && (cd.hasDict && PySem.HandSPX.refsVE bm)))
    | _, _ => false)
  | _ => false
theorem oex_cls {K : PySem.W.Frag} {C : Addr} (h : oexB K C = true) : ∃ nm q N bs bm sn sub ab col dd k0 k1 k2 k3 k5, K.lookup C = some (excClassObj nm q C N bs bm true sn sub ab col dd k0 k1 k2 k3 k5 "ValueError.__new__") ∧ PySem.HandSPX.refsVE bm = true := by
  unfold oexB at h
  cases e : K.lookup C with
  | none =>
    rw [e] at h
    cases h
  | some o =>
    obtain ⟨oc, od, dt, sl⟩ := o
    rw [e] at h
    cases oc with
    | type t =>
      cases dt with
      | cls cd =>
        obtain ⟨et, h⟩ := Bool.and_eq_true_iff.mp h
        have et := of_decide_eq_true et
        obtain ⟨nm, bs, mro, ns, qn, hd, sn, sub, ab, col, del⟩ := cd
        obtain ⟨l⟩ := sl
        dsimp only at h
        split at h
        · obtain ⟨h1, h⟩ := Bool.and_eq_true_iff.mp h
          obtain ⟨h2, h⟩ := Bool.and_eq_true_iff.mp h
          obtain ⟨h3, h⟩ := Bool.and_eq_true_iff.mp h
          obtain ⟨h4, h5⟩ := Bool.and_eq_true_iff.mp h
          have h1 := of_decide_eq_true h1
          have h2 := of_decide_eq_true h2
          subst h1 h2 et
          have h3 : del = false := by simpa using h3
          have h4 : hd = true := h4
          subst h3 h4
          exact ⟨_, _, _, _, _, _, _, _, _, _, _, _, _, _, _, rfl, h5⟩
        · cases h
      | _ => cases h
    | _ => cases h
def ecB (K : PySem.W.Frag) (C : Addr) : Bool :=
  decide (PySem.W.findIn K (.ref C) "__getattribute__" = some (some (.builtin "BaseException.__getattribute__"))) && (decide (PySem.W.findIn K (.ref C) "__getattr__" = some none)
  && (decide (PySem.W.subIn K (.ref C) (.type "BaseException") = some true) && (PySem.W.hasDictIn K C && (decide (PySem.W.findIn K (.ref C) "__class__" = some (some (.builtin "object.__class__")))
  && (decide (PySem.W.specialIn K (.builtin "object.__class__") "__get__" = some (some (.builtin "getset_descriptor.__get__"))) && (decide (PySem.W.takesIn K (.builtin "object.__class__") = some true)
  && decide (PySem.W.mroIn K C (.type "object") = some true)))))))
theorem ec_ok {K : PySem.W.Frag} {C : Addr} (h : ecB K C = true) : ExcC K C := by
  unfold ecB at h
  simp only [Bool.and_eq_true, decide_eq_true_eq] at h
  obtain ⟨h1, h2, h3, h4, h5, h6, h7, h8⟩ := h
  exact ⟨h1, h2, h3, h4, h5, h6, h7, h8⟩
def errB (K : PySem.W.Frag) (n : Str) (C fI : Addr) : Bool :=
  oexB K C && (decide (PySem.W.findIn K (.ref C) "__setattr__" = some (some (.builtin "object.__setattr__"))) && (decide (PySem.W.subIn K (.ref C) (.type "BaseException") = some true)
  && (decide (PySem.W.typeIn K (.ref C) = some (.type "type")) && (PySem.W.keepIn K (.ref C) && (decide (PySem.W.findIn K (.ref C) "__init__" = some (some (.ref fI)))
  && (decide (PySem.W.typeIn K (.ref fI) = some (.type "function")) && (decide (PySem.W.findIn K (.ref C) n = some none) && (xfB K C && ecB K C))))))))
theorem err_ok {K : PySem.W.Frag} {mg : Str → Option Value} {x n : Str} {C fI : Addr} (h : errB K n C fI = true) (g : mg x = some (.ref C)) : ErC K mg x n C fI := by
  unfold errB at h
  simp only [Bool.and_eq_true, decide_eq_true_eq] at h
  obtain ⟨h1, h2, h3, h4, h5, h6, h7, h8, h9, h10⟩ := h
  exact ⟨g, ⟨oex_cls h1, h2, h3, h4, h5⟩, h6, h7, h8, xfB_ok h9, ec_ok h10⟩
end FL
set_option maxHeartbeats 0
namespace K70
open PySem PySem.Spec PyProof.Rows L2 FL
abbrev R : PySem.W.OpenRow := PySem.W.OpenLaw.row PySem.Challenge.rw_frontlines_k70_pieces_told_and_refused
def gl (x : Str) (K : PySem.W.Frag) : Addr := He.ga K x
def er (x : Str) (K : PySem.W.Frag) : Addr := He.ma K (He.ga K x) "__init__"
def glD (x : Str) (i : Nat) : DA := ⟨gl x, x, x, topS i⟩
def erD (x q : Str) (i : Nat) : DA := ⟨er x, "__init__", q, inClass (topS i) 0⟩
def defs : List DA := [glD "is_integer" 7, glD "is_signs" 8, glD "is_line" 9, glD "check_signs" 12, glD "check_line" 13, glD "check_width" 14, glD "pieces_of" 16, glD "pieces" 18, glD "_law_pot" 20, glD "_law_draw" 21, glD "_law_pick" 22, glD "_law_told_right" 23, glD "_law_heard" 24, glD "_law_refused_right" 25, glD "_law_right" 26, glD "law" 27, erD "InvalidSigns" "InvalidSigns.__init__" 2, erD "InvalidLine" "InvalidLine.__init__" 3, erD "InvalidWidth" "InvalidWidth.__init__" 4]
def free1 : List Str := ["isinstance", "str", "len", "all", "any", "zip", "list", "int", "bool", "range", "divmod", "abs", "max", "min", "repr", "ValueError"]
def glos : List Str := ["is_integer", "is_signs", "is_line", "check_signs", "check_line", "check_width", "pieces_of", "pieces", "_law_pot", "_law_draw", "_law_pick", "_law_told_right", "_law_heard", "_law_refused_right", "_law_right", "law", "InvalidSigns", "InvalidLine", "InvalidWidth", "LineError"]
def exs (K : PySem.W.Frag) : Bool :=
  glos.all (fun x => (He.Fa.glo x).ok K)
  && (free1.all (fun x => (He.Fa.free x).ok K)
  && ((He.Fa.int "MOST_WIDTH" 4).ok K
  && ((He.Fa.str "SIGN_CHARACTERS" signChars).ok K
  && (errB K "value" (He.ga K "InvalidSigns") (He.ma K (He.ga K "InvalidSigns") "__init__")
  && (errB K "value" (He.ga K "InvalidLine") (He.ma K (He.ga K "InvalidLine") "__init__")
  && (errB K "value" (He.ga K "InvalidWidth") (He.ma K (He.ga K "InvalidWidth") "__init__")
  && (decide (PySem.W.exmOne K (.ref (He.ga K "InvalidSigns")) (.ref (He.ga K "InvalidSigns")) = some true)
  && (decide (PySem.W.exmOne K (.ref (He.ga K "InvalidLine")) (.ref (He.ga K "InvalidSigns")) = some false)
  && (decide (PySem.W.exmOne K (.ref (He.ga K "InvalidLine")) (.ref (He.ga K "InvalidLine")) = some true)
  && (decide (PySem.W.exmOne K (.ref (He.ga K "InvalidWidth")) (.ref (He.ga K "InvalidSigns")) = some false)
  && (decide (PySem.W.exmOne K (.ref (He.ga K "InvalidWidth")) (.ref (He.ga K "InvalidLine")) = some false)
  && (decide (PySem.W.exmOne K (.ref (He.ga K "InvalidWidth")) (.ref (He.ga K "InvalidWidth")) = some true)
  && (decide (PySem.W.kitOne K (.ref (He.ga K "InvalidSigns")) (.ref (He.ga K "LineError")) = some true)
  && (decide (PySem.W.kitOne K (.ref (He.ga K "InvalidLine")) (.ref (He.ga K "LineError")) = some true)
  && (decide (PySem.W.kitOne K (.ref (He.ga K "InvalidWidth")) (.ref (He.ga K "LineError")) = some true)
  && (decide (PySem.W.kitOne K (.ref (He.ga K "InvalidSigns")) (.type "ValueError") = some true)))))))))))))))))
def loose1 : List Str := ["__name__", "LineError", "InvalidSigns", "InvalidLine", "InvalidWidth", "SIGN_CHARACTERS", "is_integer", "is_signs", "is_line", "MOST_WIDTH", "check_signs"]
def loose2 : List Str := ["check_line", "check_width", "pieces_of", "pieces", "_law_pot", "_law_draw", "_law_pick", "_law_told_right", "_law_heard", "_law_refused_right", "_law_right"]
def loose : List Str := loose1 ++ loose2
abbrev lamDef : He.Defn := ("_law_refused_right", none)
abbrev hk : PySem.W.Hook := hookT 7 defs exs lamDef
def ob (s : PySem.W.SharedT) : Saw := obT 7 defs exs lamDef s
end K70
namespace K70
open PySem PySem.Spec PyProof.Rows L2 FL LamX
section
variable {P : Program} {w : World} {K : PySem.W.Frag} {mg : Str → Option Value} {base : Heap}
theorem bind_one {K : PySem.W.Frag} {x qual p : Str} {st : Stmt} {f : Addr} {fd : FuncData} (F : Fun K x qual st f fd)
    (h : ∀ (kV doc pm : Value) (an : Option Addr) (cdv ct : Value) (u : Value), bindArgs (PySem.W.fnOf x qual (defArgs st) (defBody st) (defScope st) .none kV doc pm an cdv ct) ⟨[u], []⟩ = pure [(p, u)]) (s : Shared) (u : Value) : BindsTo s fd ⟨[u], []⟩ [(p, u)] := by
  obtain ⟨oc, od, kV, doc, pm, an, cdv, ct, osl, rfl, lk, hcd⟩ := F.ex
  exact .of_eq (h kV doc pm an cdv ct u)
theorem ca_of {x : Str} {qual : Str} {st : Stmt} {f : Addr} {fd : FuncData} {k : Nat} {ps : List Str} {sp : Sp} (F : Fun K x qual st f fd) (m : mg x = some (.ref f)) (o : FnOk P w K mg base CX0 k f fd ps sp) (b : Binds K fd ps []) : Ca P w K mg base x k ps sp := ⟨f, fd, o, b, F.kp, m⟩
theorem cg_of {x : Str} {qual : Str} {st : Stmt} {f : Addr} {fd : FuncData} {k : Nat} {ps : List Str} {sp : Sp} (F : Fun K x qual st f fd) (m : mg x = some (.ref f)) (o : FnG P w K mg base CX0 k f fd ps sp) (b : Binds K fd ps []) : CaG P w K mg base x k ps sp := ⟨f, fd, o, b, F.kp, m⟩
end
theorem vals_rev : ∀ {zs : List V} {ws : List Value}, Vals zs ws → Vals zs.reverse ws.reverse
  | _, _, .nil => .nil
  | _, _, .cons r b => by
    rw [List.reverse_cons, List.reverse_cons]
    exact (vals_rev b).append (.cons r .nil)
structure Facts (K : PySem.W.Frag) : Prop where
  gs : ∀ x ∈ glos, (He.Fa.glo x).ok K = true
  fr : ∀ x ∈ free1, (He.Fa.free x).ok K = true
  i1 : (He.Fa.int "MOST_WIDTH" 4).ok K = true
  i2 : (He.Fa.str "SIGN_CHARACTERS" signChars).ok K = true
  e1 : errB K "value" (He.ga K "InvalidSigns") (er "InvalidSigns" K) = true
  e2 : errB K "value" (He.ga K "InvalidLine") (er "InvalidLine" K) = true
  e3 : errB K "value" (He.ga K "InvalidWidth") (er "InvalidWidth" K) = true
  x1 : PySem.W.exmOne K (.ref (He.ga K "InvalidSigns")) (.ref (He.ga K "InvalidSigns")) = some true
  x2 : PySem.W.exmOne K (.ref (He.ga K "InvalidLine")) (.ref (He.ga K "InvalidSigns")) = some false
  x3 : PySem.W.exmOne K (.ref (He.ga K "InvalidLine")) (.ref (He.ga K "InvalidLine")) = some true
  x4 : PySem.W.exmOne K (.ref (He.ga K "InvalidWidth")) (.ref (He.ga K "InvalidSigns")) = some false
  x5 : PySem.W.exmOne K (.ref (He.ga K "InvalidWidth")) (.ref (He.ga K "InvalidLine")) = some false
  x6 : PySem.W.exmOne K (.ref (He.ga K "InvalidWidth")) (.ref (He.ga K "InvalidWidth")) = some true
  t1 : PySem.W.kitOne K (.ref (He.ga K "InvalidSigns")) (.ref (He.ga K "LineError")) = some true
  t2 : PySem.W.kitOne K (.ref (He.ga K "InvalidLine")) (.ref (He.ga K "LineError")) = some true
  t3 : PySem.W.kitOne K (.ref (He.ga K "InvalidWidth")) (.ref (He.ga K "LineError")) = some true
  t4 : PySem.W.kitOne K (.ref (He.ga K "InvalidSigns")) (.type "ValueError") = some true
theorem facts_of {K : PySem.W.Frag} (c : exs K = true) : Facts K := by
  unfold exs at c
  simp only [Bool.and_eq_true, decide_eq_true_eq] at c
  obtain ⟨g, f, i1, i2, e1, e2, e3, x1, x2, x3, x4, x5, x6, t1, t2, t3, t4⟩ := c
  exact ⟨List.all_eq_true.mp g, List.all_eq_true.mp f, i1, i2, e1, e2, e3, x1, x2, x3, x4, x5, x6, t1, t2, t3, t4⟩
theorem whole {P : Program} {w : World} {K : PySem.W.Frag} {mg : Str → Option Value} {h : Heap} (KX : K.In h) (G : h.Ns mainGlobals mg) (S : SaysT defs exs lamDef h K) :
    ∃ fd : FuncData, mg "law" = some (.ref (gl "law" K)) ∧ (∀ (s : Shared) (u : Value), BindsTo s fd ⟨[u], []⟩ [("_law_script", u)]) ∧ ∀ base : Heap, K.In base → base.Ns mainGlobals mg → TabB base mg (He.cT K lamDef).1 (He.cT K lamDef).2 →
      FnG P w K mg base CX0 10 (gl "law" K) fd ["_law_script"] (spLawT K (Tt1 (He.cT K lamDef).2)) := by
  have c := S.seen
  have T := facts_of (look_ex c)
  have g1 : ∀ x ∈ glos, mg x = some (.ref (gl x K)) := fun x hx => He.glo_ok KX G (T.gs x hx)
  have fr : ∀ x ∈ free1, mg x = none := fun x hx => He.free_ok KX G (T.fr x hx)
  obtain ⟨tk1, mM⟩ := He.int_ok KX G T.i1
  obtain ⟨tk2, mC⟩ := He.str_ok KX G T.i2
  obtain ⟨d0, F0⟩ := look_fn c 0 (d := glD "is_integer" 7) rfl
  obtain ⟨d1, F1⟩ := look_fn c 1 (d := glD "is_signs" 8) rfl
  obtain ⟨d2, F2⟩ := look_fn c 2 (d := glD "is_line" 9) rfl
  obtain ⟨d3, F3⟩ := look_fn c 3 (d := glD "check_signs" 12) rfl
  obtain ⟨d4, F4⟩ := look_fn c 4 (d := glD "check_line" 13) rfl
  obtain ⟨d5, F5⟩ := look_fn c 5 (d := glD "check_width" 14) rfl
  obtain ⟨d6, F6⟩ := look_fn c 6 (d := glD "pieces_of" 16) rfl
  obtain ⟨d7, F7⟩ := look_fn c 7 (d := glD "pieces" 18) rfl
  obtain ⟨d8, F8⟩ := look_fn c 8 (d := glD "_law_pot" 20) rfl
  obtain ⟨d9, F9⟩ := look_fn c 9 (d := glD "_law_draw" 21) rfl
  obtain ⟨d10, F10⟩ := look_fn c 10 (d := glD "_law_pick" 22) rfl
  obtain ⟨d11, F11⟩ := look_fn c 11 (d := glD "_law_told_right" 23) rfl
  obtain ⟨d12, F12⟩ := look_fn c 12 (d := glD "_law_heard" 24) rfl
  obtain ⟨d13, F13⟩ := look_fn c 13 (d := glD "_law_refused_right" 25) rfl
  obtain ⟨d14, F14⟩ := look_fn c 14 (d := glD "_law_right" 26) rfl
  obtain ⟨d15, F15⟩ := look_fn c 15 (d := glD "law" 27) rfl
  obtain ⟨d16, F16⟩ := look_fn c 16 (d := erD "InvalidSigns" "InvalidSigns.__init__" 2) rfl
  obtain ⟨d17, F17⟩ := look_fn c 17 (d := erD "InvalidLine" "InvalidLine.__init__" 3) rfl
  obtain ⟨d18, F18⟩ := look_fn c 18 (d := erD "InvalidWidth" "InvalidWidth.__init__" 4) rfl
  have b0 : Binds K d0 ["value"] [] := F0.binds fun _ _ _ _ _ _ us hl => match us, hl with | [_], _ => rfl
  have b1 : Binds K d1 ["value"] [] := F1.binds fun _ _ _ _ _ _ us hl => match us, hl with | [_], _ => rfl
  have b2 : Binds K d2 ["signs", "value"] [] := F2.binds fun _ _ _ _ _ _ us hl => match us, hl with | [_, _], _ => rfl
  have b3 : Binds K d3 ["signs"] [] := F3.binds fun _ _ _ _ _ _ us hl => match us, hl with | [_], _ => rfl
  have b4 : Binds K d4 ["signs", "line"] [] := F4.binds fun _ _ _ _ _ _ us hl => match us, hl with | [_, _], _ => rfl
  have b5 : Binds K d5 ["width"] [] := F5.binds fun _ _ _ _ _ _ us hl => match us, hl with | [_], _ => rfl
  have b6 : Binds K d6 ["line", "width"] [] := F6.binds fun _ _ _ _ _ _ us hl => match us, hl with | [_, _], _ => rfl
  have b7 : Binds K d7 ["signs", "line", "width"] [] := F7.binds fun _ _ _ _ _ _ us hl => match us, hl with | [_, _, _], _ => rfl
  have b8 : Binds K d8 ["_law_script", "_law_k"] [] := F8.binds fun _ _ _ _ _ _ us hl => match us, hl with | [_, _], _ => rfl
  have b9 : Binds K d9 ["_law_pot_here", "_law_sides"] [] := F9.binds fun _ _ _ _ _ _ us hl => match us, hl with | [_, _], _ => rfl
  have b10 : Binds K d10 ["_law_pot_here", "_law_some"] [] := F10.binds fun _ _ _ _ _ _ us hl => match us, hl with | [_, _], _ => rfl
  have b11 : Binds K d11 ["_law_glyphs", "_law_verse", "_law_wide"] [] := F11.binds fun _ _ _ _ _ _ us hl => match us, hl with | [_, _, _], _ => rfl
  have b12 : Binds K d12 ["_law_call"] [] := F12.binds fun _ _ _ _ _ _ us hl => match us, hl with | [_], _ => rfl
  have b13 : Binds K d13 ["_law_pot_here", "_law_glyphs", "_law_verse"] [] := F13.binds fun _ _ _ _ _ _ us hl => match us, hl with | [_, _, _], _ => rfl
  have b14 : Binds K d14 ["_law_pot_here"] [] := F14.binds fun _ _ _ _ _ _ us hl => match us, hl with | [_], _ => rfl
  have b15 : Binds K d15 ["_law_script"] [] := F15.binds fun _ _ _ _ _ _ us hl => match us, hl with | [_], _ => rfl
  have b16 : Binds K d16 ["self", "value"] [] := F16.binds fun _ _ _ _ _ _ us hl => match us, hl with | [_, _], _ => rfl
  have b17 : Binds K d17 ["self", "value"] [] := F17.binds fun _ _ _ _ _ _ us hl => match us, hl with | [_, _], _ => rfl
  have b18 : Binds K d18 ["self", "value"] [] := F18.binds fun _ _ _ _ _ _ us hl => match us, hl with | [_, _], _ => rfl
  have mIs := fr "isinstance" (by decide)
  have mSt := fr "str" (by decide)
  have mLe := fr "len" (by decide)
  have mAl := fr "all" (by decide)
  have mAy := fr "any" (by decide)
  have mZi := fr "zip" (by decide)
  have mLi := fr "list" (by decide)
  have mIn := fr "int" (by decide)
  have mBo := fr "bool" (by decide)
  have mRa := fr "range" (by decide)
  have mDi := fr "divmod" (by decide)
  have mAb := fr "abs" (by decide)
  have mMa := fr "max" (by decide)
  have mMi := fr "min" (by decide)
  have mRe := fr "repr" (by decide)
  have mVE := fr "ValueError" (by decide)
  have kP : KBn K d7 ["signs", "line", "width"] 0 ["width", "line", "signs"] rev3 rev3 := kbn_of F7 (fun _ _ _ _ _ _ us ws l1 l2 => match us, ws, l1, l2 with | [], [_, _, _], _, _ => rfl) (fun _ b => vals_rev b)
  refine ⟨d15, g1 "law" (by decide), bind_one F15 (fun _ _ _ _ _ _ _ => rfl), fun base hB hN TB => ?_⟩
  have ins : ∀ (x : Str) (f : Addr) (fd : FuncData) (q : Str) (st : Stmt), Fun K "__init__" q st f fd → True := fun _ _ _ _ _ _ => trivial
  have o_S : FnOk P w K mg base CX0 1 _ d16 ["self", vN] (spErr K vN) := ok_err F16 ⟨rfl, rfl, rfl, by decide +kernel, rfl, by decide +kernel, by decide +kernel⟩ rfl (.inl rfl) (.inl rfl) (by decide) (by decide) (fun _ => rfl)
  have o_L : FnOk P w K mg base CX0 1 _ d17 ["self", vN] (spErr K vN) := ok_err F17 ⟨rfl, rfl, rfl, by decide +kernel, rfl, by decide +kernel, by decide +kernel⟩ rfl (.inl rfl) (.inl rfl) (by decide) (by decide) (fun _ => rfl)
  have o_W : FnOk P w K mg base CX0 1 _ d18 ["self", vN] (spErr K vN) := ok_err F18 ⟨rfl, rfl, rfl, by decide +kernel, rfl, by decide +kernel, by decide +kernel⟩ rfl (.inl rfl) (.inl rfl) (by decide) (by decide) (fun _ => rfl)
  let eS : Er P w K mg base "InvalidSigns" := ⟨_, _, _, err_ok T.e1 (g1 "InvalidSigns" (by decide)), o_S, b16⟩
  let eL : Er P w K mg base "InvalidLine" := ⟨_, _, _, err_ok T.e2 (g1 "InvalidLine" (by decide)), o_L, b17⟩
  let eW : Er P w K mg base "InvalidWidth" := ⟨_, _, _, err_ok T.e3 (g1 "InvalidWidth" (by decide)), o_W, b18⟩
  have ef : ErF K mg eS.C eL.C eW.C (He.ga K "LineError") := ⟨eS.T.gC, eL.T.gC, eW.T.gC, g1 "LineError" (by decide), eS.T.xf, eL.T.xf, eW.T.xf, eS.T.no, eL.T.no, eW.T.no, eS.T.ec, eL.T.ec, eW.T.ec, T.x1, T.x2, T.x3, T.x4, T.x5, T.x6, T.t1, T.t2, T.t3, T.t4⟩
  have o2 : FnOk P w K mg base CX0 1 _ d2 ["signs", "value"] spLine := ok_isline F2 mIs mSt
  have o1 := ok_issigns F1 o2 b2 F2.kp (g1 "is_line" (by decide)) mC mIs mSt mLe mAl mZi
  have o0 : FnOk P w K mg base CX0 1 _ d0 ["value"] spInt := ok_isint F0 mIs mIn mBo
  have o3 := ok_checksigns F3 o1 b1 F1.kp (g1 "is_signs" (by decide)) eS
  have o4 := ok_checkline F4 o2 b2 F2.kp (g1 "is_line" (by decide)) eL
  have o5 := ok_checkwidth F5 o0 b0 F0.kp (g1 "is_integer" (by decide)) eW mM
  have o6 : FnOk P w K mg base CX0 1 _ d6 ["line", "width"] spPcOf := ok_piecesof F6 mLe mRa
  have o7 := ok_pieces F7 o3 b3 F3.kp (g1 "check_signs" (by decide)) o4 b4 F4.kp (g1 "check_line" (by decide)) o5 b5 F5.kp (g1 "check_width" (by decide)) o6 b6 F6.kp (g1 "pieces_of" (by decide))
  have p5 := o7.mono (show 4 ≤ 5 by decide)
  have o9 : FnOk P w K mg base CX0 1 _ d9 ["_law_pot_here", "_law_sides"] spDraw := ok_draw F9 mDi mIn
  have cD := ca_of F9 (g1 "_law_draw" (by decide)) o9 b9
  have o10 := ok_pick F10 o9 b9 F9.kp (g1 "_law_draw" (by decide)) mLe
  have cP := ca_of F10 (g1 "_law_pick" (by decide)) o10 b10
  have o8 : FnOk P w K mg base CX0 1 _ d8 ["_law_script", "_law_k"] (spPot K) := ok_pot F8 mAb mLe mMa mIn
  have o11 := ok_told F11 p5 b7 kP F7.kp (g1 "pieces" (by decide)) mRe mIs mLi mLe mMa mAy
  have o13 := ok_refused (P0 := (He.cT K lamDef).2) F13 (code_at (p := lamDef) F13) TB F12 b12 (g1 "_law_heard" (by decide)) ef mRe mIs mVE cP cD ⟨⟨_, _, p5, b7, F7.kp, g1 "pieces" (by decide)⟩⟩
  have o14 := ok_right F14 mRa mAl cP (cg_of F11 (g1 "_law_told_right" (by decide)) o11 b11) (cg_of F13 (g1 "_law_refused_right" (by decide)) o13 b13)
  exact ok_law F15 mAl mRa mMa mMi mLe (ca_of F8 (g1 "_law_pot" (by decide)) o8 b8) (cg_of F14 (g1 "_law_right" (by decide)) o14 b14)
end K70
set_option maxHeartbeats 0
namespace K70
open PySem PySem.W PySem.Calls PySem.Spec PyProof.Rows L2 FL
theorem run (w : World) : HandSHeadRun.RunEq R (view R.prog [27]) hk ob 20000 loose w := by
  intro os
  kernel_rfl
end K70
set_option maxHeartbeats 0
open PySem PySem.W PySem.Calls PyProof.Rows L2
theorem PySem.Challenge.cw_frontlines_k70_pieces_told_and_refused_holds : PySem.Challenge.rw_frontlines_k70_pieces_told_and_refused.Holds := by
  w_on; o_law
  refine HandSHeadRun.head_any (r := K70.R) (q := view K70.R.prog [27]) (H := K70.hk) (ob := K70.ob) (M := 20000) (loose := K70.loose) (d := HandSHeadRun.topDef K70.R.prog 27) (kwd := []) (fun s => FL.obT_eq s)
    (by kernel_rfl) (fun s => by kernel_rfl) K70.run (by kernel_rfl) (by kernel_rfl) (by kernel_rfl) (by rfl) (by first | assumption | decide +kernel) (by decide +kernel) ⟨rfl, rfl, rfl, rfl, rfl, by decide +kernel⟩ ?hw ?hc
  case hw => w_witness2
  case hc =>
    refine FL.walkT (l := PySem.Challenge.rw_frontlines_k70_pieces_told_and_refused) (n := 63) (k := 10) (x := "_law_script") rfl (by decide) (by kernel_rfl) ⟨rfl, by decide, by decide⟩ ?_
    intro w mg fa h Y G hmg0
    obtain ⟨K, KX, c⟩ := Y
    have hmg : mg ("law" : PySem.Str) = some (.ref fa) := by
      have e : (HandSHeadRun.topDef K70.R.prog 27).name = ("law" : PySem.Str) := by kernel_rfl
      rw [← e]
      exact hmg0
    obtain ⟨fd, e1, bd, hF⟩ := K70.whole (P := PySem.Challenge.rw_frontlines_k70_pieces_told_and_refused.prog) (w := w) KX G c
    have e2 := hmg.symm.trans e1
    cases e2
    exact ⟨K, fd, K70.spLawT K (K70.Tt1 (He.cT K K70.lamDef).2), _, _, KX, c.tab, c.out, PySem.W.codeHd_of_K KX c.code, bd, fun H a ns hl t0 hS => ⟨a, ns, rfl, hS, hl, fun q hq => by
      rw [List.mem_singleton.mp hq]
      exact LamX.TabS.nil t0, fun _ => rfl⟩, hF⟩
