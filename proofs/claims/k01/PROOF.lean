import PyProof.Rows.All
import Wide.All
import OpenK.AllK
import Wide.FinOn
import HandS.ForMost
import HandS.Exc
import HandS.TryOnly
import HandS.ExcOwn
import HandS.WordsExc
import HandS.Evl
import HandS.IsInst
import HandS.ExcIs
import HandS.DictTup
import HandS.SortInts
import HandS.SortRule
import HandS.Wide
import PySem.Challenge.RW_joinside_k01_webs
import HandS.More
import HandS.Walk
set_option Elab.async false
set_option maxRecDepth 100000
set_option maxHeartbeats 4000000
set_option linter.all false
namespace Jk
open PySem PySem.Spec PyProof.Rows L2

/-! ## an exception that is kept as a value behind its except suite -/
/-- an exception object of the class cls (own dict d) stands at a -/
def ExK (cls : Value) (d : Option Addr) (a : Addr) : HO := .ext fun h => ∃ (ob : Obj) (fv : Array Value), h.get? a = some ob ∧ Zc cls d ob ∧ ob.data = .fields fv
theorem exK_ok {P : Program} {w : World} {H : Hp} {h : Heap} {a : Addr} {cls : Value} {d : Option Addr} {ob : Obj} {fv : Array Value} (e : h.get? a = some ob) (z : Zc cls d ob) (dd : ob.data = .fields fv) : ObjOk P w H h a (ExK cls d a) :=
  ⟨⟨ob, fv, e, z, dd⟩, ⟨ob, e⟩, fun _ _ ⟨o1, v1, q1, r1⟩ kk => ⟨o1, v1, kk o1 q1, r1⟩⟩

section
variable {X : Cx} {pins : List (Addr × Obj)} {σ : L2.St} {H : Hp} {s : Shared}
/-- an untracked record of ours, new since the entry, is tracked from here on -/
theorem Inv.track {a : Addr} {ob : Obj} {o : HO} (I : Inv X pins σ H s) (ea : s.heap.get? a = some ob) (hn : H a = none) (new : X.s_0.heap.get? a = none) (hex : a ∉ X.ex)
    (nL : a ≠ X.env.locals) (nc : ∀ v, ob.data ≠ .cell v) (np : ∀ p ∈ X.pn ++ pins, p.1 ≠ a) (ok : ObjOk X.prog X.w (upd H a o) s.heap a o) : Inv X pins σ (upd H a o) s := by
  have neT : ∀ {b u}, H b = some u → b ≠ a := fun {b u} q z => by rw [z, hn] at q; cases q
  have neZ : ∀ {b u}, X.s_0.heap.get? b = some u → b ≠ a := fun {b u} q z => by rw [z, new] at q; cases q
  have old := I.base
  refine ⟨I.ok, I.os, I.bare, ⟨old.keep, old.slot, fun b u e1 e2 e3 => ?_, old.there, fun b xs e1 => ?_, fun b u v e1 => ?_, fun b ps e1 => ?_⟩, I.loc, I.cell, ?_, fun x c e1 => ?_, fun p hp => ?_, fun b u e1 => ?_, I.len⟩
  · rw [upd_ne (neZ e1)]; exact old.free b u e1 e2 e3
  · have q := old.tups b xs e1
    rw [upd_ne (neT q)]; exact q
  · have q := old.frzs b u v e1
    rw [upd_ne (neT q)]; exact q
  · obtain ⟨m, q⟩ := old.tbls b ps e1
    exact ⟨m, by rw [upd_ne (neT q)]; exact q⟩
  · rw [upd_ne (Ne.symm nL)]; exact I.free
  · have hc : c ≠ a := fun z => by
      obtain ⟨v, o', q, hd⟩ := I.cell x c e1
      rw [z, ea] at q; cases q
      exact nc v hd
    rw [upd_ne hc]; exact I.freeC x c e1
  · obtain ⟨p1, p2, p3⟩ := I.pin p hp
    exact ⟨p1, by rw [upd_ne (np p hp)]; exact p2, p3⟩
  · by_cases hb : b = a
    · subst hb
      rw [upd_same] at e1; cases e1
      exact ok
    · rw [upd_ne hb] at e1
      refine (I.hok b u e1).stay (fun c v _ q => q) (fun c q => ?_) fun c xs q => ?_
      · rw [upd_ne (neT q)]; exact q
      · rw [upd_ne (neT q)]; exact q
end

/-- what 'except x as n: suite' wishes, where the exception stays a value behind the suite: slot i is n's -/
def wKeep (K : PySem.W.Frag) (c : Value) (i : Nat) (ts : Addr → Value → Option Addr → TS) (Wout : WX) (D : Ends) : WX := fun cls d σ H =>
  ∃ b, PySem.W.exmOne K cls c = some b ∧
    (b = true → ∀ a, H a = none → ts a cls d { nx := fun σ' H' => H' a = none → D.nx (σ'.set i none) (upd H' a (ExK cls d a)), rt := fun _ _ => False, bk := fun _ _ => False, ct := fun _ _ => False } (σ.set i (some (.ref a))) H) ∧
    (b = false → Wout cls d σ H)

section
variable {X : Cx} {x n : Str} {c : Value} {i : Nat} {body suite : List Stmt} {b₀ : Stmt} {np pos pos' : Pos} {tb : WX → TS} {ts : Addr → Value → Option Addr → TS} {Wout : WX}
theorem ps_try_keep (hst : X.stack = X.env :: X.outer) (hfr : X.env.frame = some X.env.locals) (hex : X.ex = []) (hpn : X.pn = []) (hnd : X.N.Nodup) (hi : X.N[i]? = some n) (hln : X.env.kindOf n = some .local) (hc : Names X x c) (tk : Takes X Wout)
    (hb : ∀ (W : WX) (pn : List (Addr × Obj)) (xe : Value → Shared → Prop), Takes (X.tr pn xe) W → PassesOwn (model X.prog X.w) X.A X.env xe → PSs (X.tr pn xe) body (tb W))
    (hsu : ∀ (a : Addr) (oe : Obj) (cls : Value) (d : Option Addr) (pn : List (Addr × Obj)), Zc cls d oe → (∃ vs, oe.data = .fields vs) → PSs (X.suite a ((a, oe) :: pn)) (b₀ :: suite) (ts a cls d)) :
    PS X (.Try body [.ExceptHandler (some (.Name x np)) (some n) (b₀ :: suite) pos'] [] [] pos) (fun D σ H => tb (wKeep X.K c i ts Wout D) D σ H) := by
  refine ⟨fun pins s σ H D I h => ?_⟩
  have good := I.ok
  have hA : X.A.frames = some (X.env :: X.outer) := by rw [good.frames, hst]
  refine wpAny_Try_except ?_
  refine wpAny_mono ((hb (wKeep X.K c i ts Wout D) (X.pn ++ pins) (fun e s₁ => wpAny (model X.prog X.w) X.A (noteFrame e X.env) (fun _ s₂ => wpAny (model X.prog X.w) X.A (setFlight e none) (fun _ s₃ =>
    wpAny (model X.prog X.w) X.A (handleBy e X.env [.ExceptHandler (some (.Name x np)) (some n) (b₀ :: suite) pos']) (SP X pins D) X.xe s₃) X.xe s₂) X.xe s₁) (fun u s' xx => ?_) PassesOwn.looking).run [] s σ H D (I.toTry _) h) (fun f s1 hsp => ?_) (fun e s1 he => he)
  · obtain ⟨a, B, sI, pin1, σ1, H1, cls, d, rfl, J0, nb, up, sky, na, os, ag, b, hbx, hyes, hno⟩ := xx
    have J : Inv X pins σ1 H1 sI := J0.ofTry good
    have sk : Sky B (X.env :: X.outer) a (Zc cls d) X.env.locals s'.heap := by rw [← hst]; exact sky
    -- the exception is none of the entry's objects
    have sIa : sI.heap.get? a = none ∨ a ∈ frs X.stack := by
      cases q : sI.heap.get? a with
      | none => exact .inl rfl
      | some o =>
        by_cases hm : a ∈ frs X.stack
        · exact .inr hm
        · have z := nb a o q hm
          have Ba : B.get? a = none := by
            rcases sk with ⟨_, r, _⟩ | ⟨_, r, _⟩ | ⟨_, r, _⟩ <;> exact r
          rw [Ba] at z; cases z
    show wpAny (model X.prog X.w) X.A (noteFrame (.ref a) X.env) _ _ _
    refine Sky.land Zc.steady hA hfr sk fun h3 fl3 up3 => ?_
    have J3 : Inv X pins σ1 H1 { s' with heap := h3 } := J.landed nb fl3.1 (up.trans up3) os ag
    obtain ⟨oe3, vs3, he3, hz3, hd3⟩ := fl3.there
    have notFr : ∀ {g : Heap} {o : Obj} {vs : Array Value}, g.FunFrames B (X.env :: X.outer) → g.get? a = some o → o.data = .fields vs → a ∉ frs (X.env :: X.outer) := fun {g o vs} ff e dd hm => by
      obtain ⟨_, o', e', hnf⟩ := ff.mem hm
      rw [e] at e'; cases e'
      exact hnf _ dd
    have nfr := notFr fl3.2.2.1 he3 hd3
    have sIn : sI.heap.get? a = none := sIa.resolve_right (by rw [hst]; exact nfr)
    have new0 : X.s_0.heap.get? a = none := by
      cases q : X.s_0.heap.get? a with
      | none => rfl
      | some o =>
        obtain ⟨o', q'⟩ := J.base.there a o q (by rw [hex]; exact fun z => nomatch z)
        rw [sIn] at q'; cases q'
    have nL : a ≠ X.env.locals := fun z => nfr (List.mem_filterMap.mpr ⟨X.env, List.mem_cons_self, by rw [hfr, z]⟩)
    have nF : a ∉ X.fs := fun hm => by
      obtain ⟨e, he, q⟩ := List.mem_filterMap.mp hm
      exact nfr (List.mem_filterMap.mpr ⟨e, List.mem_cons_of_mem _ he, q⟩)
    have npin : ∀ p ∈ X.pn ++ pins, p.1 ≠ a := fun p hp z => by
      have q := (J.pin p hp).1
      rw [z, sIn] at q; cases q
    have S3 := J3.suite he3 hd3 na nL nF
    refine wpAny_handleBy_cons (codeAny_handlers_test ?_) (by intro q; cases q)
    have LT : PySem.W.Looks (model X.prog X.w) h3 (typeOf (.ref a)) cls := fun A Q E s k q => wpAny_typeOf_ref (k _ _ he3) (by rw [hz3.1]; exact q)
    have LM := PySem.W.exm_one (M := model X.prog X.w) (J3.kIn) LT hbx
    have test : ∀ {Q : Value → Shared → Prop} {E : Value → Shared → Prop}, Q c { s' with heap := h3 } → wpAny (model X.prog X.w) (X.A.mark (some (.ref a))) (eval (.Name x np) X.env) Q E { s' with heap := h3 } := fun {Q E} q => by
      obtain ⟨hg, hdbg, hm | ⟨hm, hv, hnn⟩⟩ := hc
      · exact ld_glob (X := X.suite a ((a, oe3) :: (X.pn ++ pins))) S3 hg hm q hdbg
      · exact ld_blt (X := X.suite a ((a, oe3) :: (X.pn ++ pins))) S3 hg hm hv q hnn hdbg
    refine test (LM.here ?_)
    cases b with
    | true =>
      refine codeAny_handlers_suite_as ?_
      refine HandSPX.lands_againZ fl3 fun h4 fl4 up4 => ?_
      have J4 : Inv X pins σ1 H1 { s' with heap := h4 } := J.landed nb fl4.1 ((up.trans up3).trans up4) os ag
      obtain ⟨oe4, vs4, he4, hz4, hd4⟩ := fl4.there
      have S4 := J4.suite he4 hd4 na nL nF
      refine store_ok (X := X.suite a ((a, oe4) :: (X.pn ++ pins))) (v := .ref a) S4 hnd hi (.inl hln) rfl (fun s5 S5 => ?_) (.inr hln)
      refine wpAny_mono ((hsu a oe4 cls d (X.pn ++ pins) hz4 ⟨_, hd4⟩).run [] s5 _ H1 _ S5 (hyes rfl a na)) (fun f s6 hsp => ?_) (fun _ _ z => False.elim z)
      cases f with
      | next =>
        obtain ⟨σ6, H6, S6, q6⟩ := hsp
        have pa := S6.pin (a, oe4) (List.mem_append_left _ List.mem_cons_self)
        have h6a : H6 a = none := pa.2.1
        have T6 : Inv X pins σ6 (upd H6 a (ExK cls d a)) s6 := Inv.track (S6.unsuite good) pa.1 h6a new0 (by rw [hex]; exact fun z => nomatch z) nL (fun v z => by rw [hd4] at z; cases z) npin (exK_ok pa.1 hz4 hd4)
        exact gone_ok T6 hnd hi hln fun s7 J7 => ⟨_, _, J7, q6 h6a⟩
      | brk =>
        obtain ⟨_, _, _, q6⟩ := hsp
        exact q6.elim
      | cont =>
        obtain ⟨_, _, _, q6⟩ := hsp
        exact q6.elim
      | ret u =>
        obtain ⟨_, _, _, _, _, q6⟩ := hsp
        exact q6.elim
    | false =>
      show wpAny _ X.A (handleBy (.ref a) X.env []) _ _ _
      refine wpAny_handleBy_nil ?_
      obtain ⟨k1, k2, k3, oe, vs, T, oT, ts', he, hz, hd, h1, hr⟩ := id fl3
      unfold PySem.passOn
      refine wpAny_bind (wpAny_field he hd h1 ?_)
      rw [if_neg (show ¬ ((Value.ref T == Value.none) = true) from by simp)]
      have fin : wpAny (model X.prog X.w) X.A (setFlight (.ref a) X.env.frame) (fun _ s4 => wpAny (model X.prog X.w) X.A (throw (.ref a) : Sem Flow) (SP X pins D) X.xe s4) X.xe { s' with heap := h3 } := by
        rw [hfr]
        refine HandSPX.setFlight_upZ fl3 fun h4 hh4 up4 => wpAny_throw (tk _ _ ?_)
        exact ⟨a, B, sI, pins, σ1, H1, cls, d, rfl, J, nb, (up.trans up3).trans up4, .inr (.inr (by rw [hst]; exact hh4)), na, os, ag, hno rfl⟩
      first
        | exact wpAny_bind (wpAny_pure (wpAny_bind fin))
        | exact wpAny_bind fin
  · cases f with
    | next =>
      obtain ⟨σ', H', J', q⟩ := hsp
      exact wpAny_execs_nil ⟨σ', H', J'.ofTry good, q⟩
    | brk =>
      obtain ⟨σ', H', J', q⟩ := hsp
      exact ⟨σ', H', J'.ofTry good, q⟩
    | cont =>
      obtain ⟨σ', H', J', q⟩ := hsp
      exact ⟨σ', H', J'.ofTry good, q⟩
    | ret u =>
      obtain ⟨v, σ', H', J', r, q⟩ := hsp
      exact ⟨v, σ', H', J'.ofTry good, r, q⟩
end

/-! ## isinstance of such a value -/
def rIsX (K : PySem.W.Frag) : List V → Hp → VK → Prop := fun xs H Q => ∃ (a D : Addr) (c : V) (cv : Value) (b : Bool), xs = [.ref a, c] ∧ H a = some (ExK (.ref D) none a) ∧ ExcC K D ∧ ClsV c cv ∧ PySem.W.kitOne K (.ref D) cv = some b ∧ Q (.bl b) H
theorem call_isX {X : Cx} : CallR X (.builtin "isinstance") (rIsX X.K) := by
  intro pins s σ H xs us Q I r h
  obtain ⟨a, D, c, cv, b, rfl, ha, C, hcv, e, q⟩ := h
  obtain ⟨u1, u2, rfl, r1, r2⟩ := vals2 r
  have e2 := hcv.eq r2
  subst e2
  cases r1
  obtain ⟨⟨ob, fv, hget, hz, hv⟩, _⟩ := I.hok a _ ha
  have J : PySem.W.InstAt s.heap a ob D none := by
    obtain ⟨oc, od, oda, osl⟩ := ob
    obtain ⟨h1, h2⟩ := hz
    dsimp only at h1 h2 hv
    subst h1 h2 hv
    exact ⟨hget, rfl, rfl, trivial⟩
  exact PySem.W.kia_one (PySem.W.handS_kitx_exc C.hg C.hk C.hs C.hd C.ha C.hn C.ht C.hm) I.kIn J e (fun z => nomatch z) fun tk => ⟨.bl b, H, I.kept (t' := tk) fun _ _ z => z, rfl, q⟩
end Jk

namespace Jk
open PySem PySem.Spec PyProof.Rows L2

/-! ## repr of data, where no repr is under way -/
theorem call_reprD {X : Cx} (hg : X.A.guards = some []) (hu : X.A.units + 64 < cLine) : CallR X (.builtin "repr") (fun xs H Q => ∃ (a : Addr) (d : PyData), xs = [.ref a] ∧ Dp X.K H (.ref a) d ∧ d.showable = true ∧ d.hasDict = false ∧ d.depth < 63 ∧ d.shown.length ≤ sizeLine ∧ Q (.str d.shown) H) := by
  intro pins s σ H xs us Q I r h
  obtain ⟨a, d, rfl, hd, h1, h2, h3, h4, q⟩ := h
  obtain ⟨u, rfl, ru⟩ := vals1 r
  obtain ⟨as, rd⟩ := Dp.reads I d _ _ hd ru
  cases ru
  exact PySem.repr_of_reads' rd h1 (fun z => absurd z (by rw [h2]; decide)) hg (by omega) (fun _ _ z => z) (fun h' u tk k => ⟨.str d.shown, H, I.kept (t' := tk) k, ⟨u, rfl⟩, q⟩) h4

/-! ## a def that is called where no repr is under way -/
structure FnG (P : Program) (w : World) (K : PySem.W.Frag) (mg : Str → Option Value) (base : Heap) (k : Nat) (f : Addr) (fd : FuncData) (ps : List Str) (sp : Sp) : Prop where
  many : ∀ vs H Q E, sp vs H Q E → vs.length = ps.length
  runs : ∀ (A : Around) (outer : List Env) (s : Shared) (H : Hp) (args : Args) (us : List Value) (vs : List V) (Q : VK) (E : XK), A.guards = some [] → Room k A → Env0 P w K mg base A outer s H → BindsTo s fd args (ps.zip us) →
    Vals vs us → sp vs H Q E → codeAny (model P w) A (.call (.ref f) args) (CR CX0 outer P w H s Q E) s
theorem guards_deeper {A : Around} {env : Env} (h : A.guards = some []) : (A.deeper env).guards = some [] := h
section
variable {P : Program} {w : World} {K : PySem.W.Frag} {mg : Str → Option Value} {base : Heap}
theorem _root_.L2.Fun.okG {x qual : Str} {st : Stmt} {f : Addr} {fd : FuncData} {N ps : List Str} {k : Nat} {sp : Sp} (F : Fun K x qual st f fd) (S : FnScope N ps (defScope st)) (many : ∀ vs H Q E, sp vs H Q E → vs.length = ps.length)
    (hb : ∀ (cdv : Value) (A : Around) (outer : List Env) (s : Shared) (H : Hp) (vs : List V) (Q : VK) (E : XK), A.guards = some [] → Room k (A.deeper (envOfC qual (defScope st) s.heap.objs.size f cdv)) → sp vs H Q E →
      ∃ t, PSs (cxOf CX0 P w K mg base N qual (defScope st) f cdv A outer s H E).nox (defBody st) t ∧ t { nx := fun _ H' => Q .non H', rt := Q } (L2.start N vs) H) : FnG P w K mg base (k + 1) f fd ps sp := by
  obtain ⟨oc, od, kV, doc, pm, an, cdv, ct, osl, rfl, lk, hcd⟩ := F.ex
  refine ⟨many, fun A outer s H args us vs Q E hg hr e0 hbi r hsp => ?_⟩
  have one : ∀ (sp1 : Sp), sp1 = (fun vs' H' Q' E' => vs' = vs ∧ H' = H ∧ Q' = Q ∧ E' = E) → True := fun _ _ => trivial
  have hl := many _ _ _ _ hsp
  have KX : K.In s.heap := e0.mod.kin.keeps fun b o e => (e0.bs b o e).1
  have lim : s.heap.NoLimit := e0.mod.nolimit.keeps fun b o e => (e0.bs b o e).1
  have kinds : ∀ y ∈ ps.zip us, (defScope st).names.lookup y.1 = some .local ∨ ((defScope st).names.lookup y.1 = some .cell ∧ ((cellsFrom (s.heap.objs.size + 1) (defScope st).names []).lookup y.1).isSome = true) := fun ⟨n, v⟩ hy => by
    rcases S.par n (List.of_mem_zip hy).1 with q | q
    · exact .inl q
    · exact .inr ⟨q, PySem.W.cellsFrom_some _ _ _ (.inl q)⟩
  refine codeAny_call_function hr.depth (KX _ _ lk) rfl S.co S.gen rfl (PySem.W.codeRec_of KX hcd) (hbi _ _ _ _ ?_)
  refine wpAny_newFunctionEnv_cells S.kind kinds fun env he s1 x => ?_
  subst he
  refine ⟨lim.keeps x.toInCall.keep, codeAny_func ?_⟩
  obtain ⟨t, ht, hq⟩ := hb cdv A outer s H vs Q E hg (hr.deeper _) hsp
  have I : Inv (cxOf CX0 P w K mg base N qual (defScope st) f cdv A outer s H E) [] (L2.start N vs) H s1 := inv_start S hr.hd e0 hl r x
  refine wpAny_mono (ht.nox.run [] s1 (L2.start N vs) H _ I hq) (fun fl s' hs => ?_) fun e s' hs => hs
  have fin : ∀ {σ' : L2.St} {H' : Hp} {v : V} {u : Value}, Inv (cxOf CX0 P w K mg base N qual (defScope st) f cdv A outer s H E) [] σ' H' s' → RelV v u → Q v H' → CE outer P w H s Q u s' :=
    fun {σ' H' v u} J rv q => ⟨v, H', J.os, J.bare, J.base, J.hok, rv, q⟩
  cases fl with
  | ret u =>
    obtain ⟨v, σ', H', J, rv, q⟩ := hs
    exact fin J rv q
  | next =>
    obtain ⟨σ', H', J, q⟩ := hs
    exact fin (v := V.non) (u := Value.none) J rfl q
  | brk =>
    obtain ⟨_, _, _, q⟩ := hs
    exact False.elim q
  | cont =>
    obtain ⟨_, _, _, q⟩ := hs
    exact False.elim q
end
section
variable {X : Cx} {k : Nat} {f : Addr} {fd : FuncData} {ps : List Str} {sp : Sp} {x : Str} {p pos : Pos} {e : Expr} {es : List Expr} {t : TA}
/-- f(..) of such a def -/
theorem pe_callG (F : FnG X.prog X.w X.K X.mg X.base k f fd ps sp) (hg0 : X.A.guards = some []) (hr : Room k X.A) (hg : Gl X x) (hm : X.mg x = some (.ref f)) (hk : PySem.W.keepIn X.K (.ref f) = true) (hb : Binds X.K fd ps [])
    (ha : PA X (e :: es) t) (hdb : (x == ("__debug__" : Str)) = false := by decide) (he : starEach (e :: es) X.env = (false, eval e X.env) :: starEach es X.env := by rfl) (hpl : (backTo pos (starEach es X.env)).any (·.1) = false := by rfl) :
    PE X (.Call (.Name x p) (e :: es) [] pos) (tCall sp [] E0 t) := by
  refine ⟨fun pins s σ H Q I h => ?_⟩
  refine wpAny_Call_Name_kw (ld_glob I hg hm ?_ hdb)
  refine PySem.W.callWith_K (h₀ := X.base) I.ok.mod.kin hk (thn (ha.run pos pins s σ H _ I h) fun us s1 ⟨vs, H1, I1, r, q⟩ => ⟨I1.kIn, ?_⟩) he hpl
  have q : sp vs H1 Q E0 := by have z := q; simp only [List.append_nil] at z; exact z
  have hl : (us ++ []).length = ps.length := by rw [List.append_nil, ← r.length]; exact F.many _ _ _ _ q
  have bt := hb s1 us I1.kIn hl
  rw [List.append_nil] at bt
  refine wpAny_call (codeAny_mono (F.runs X.A X.stack s1 H1 ⟨us, []⟩ us vs Q E0 hg0 hr I1.env0 bt r q) fun r s' hq => ?_)
  cases r with
  | error e => exact False.elim hq
  | ok fl =>
    cases fl with
    | ret u => exact I1.after hq
    | next => exact False.elim hq
    | brk => exact False.elim hq
    | cont => exact False.elim hq
end

/-! ## the law's own call, where its def is one of these -/
section
variable {P : Program} {w : World} {K : PySem.W.Frag} {mg mb : Str → Option Value} {k : Nat} {fa a : Addr} {fd : FuncData} {x : Str} {sp : Sp} {z : Shared} {vs : List Value} {ns : List Int}
theorem law_callG (kin : K.In z.heap) (gl : z.heap.Ns mainGlobals mg) (bl : z.heap.Ns builtinsNs mb) (bb : ∀ y : Str, y ≠ "__name__" → mb y = bootBuiltins y) (lim : z.heap.NoLimit) (gens : z.gens = #[])
    (there : z.heap.get? a = some { cls := .type "list", data := .seq vs.toArray }) (hint : IntsAre vs ns) (few : ns.length ≤ sizeLine) (room : Room k callerA)
    (F : ∀ base : Heap, K.In base → base.Ns mainGlobals mg → FnG P w K mg base k fa fd [x] sp) (bind : ∀ (s : Shared) (u : Value), BindsTo s fd ⟨[u], []⟩ [(x, u)])
    (asked : ∀ H : Hp, Only H → SqL K H a (ns.map V.int) → sp [.ref a] H (fun v _ => v = .bl true) fun _ _ _ => False) :
    codeAny (model P w) callerA (.call (.ref fa) ⟨[.ref a], []⟩) (fun r s' => r = .ok (.ret (.bool true)) ∧ OldK z.heap s'.heap ∧ s'.os = z.os ∧ AllBare s'.gens) z := by
  have rel := vals_ints hint
  have len := hint.length
  have core : ∀ G : Hp, Only G → SqL K G a (ns.map V.int) → HOk P w G z.heap → (∀ b, G b ≠ none → b = a) → (G a ≠ none → K.lookup a = none) →
      codeAny (model P w) callerA (.call (.ref fa) ⟨[.ref a], []⟩) (fun r s' => r = .ok (.ret (.bool true)) ∧ OldK z.heap s'.heap ∧ s'.os = z.os ∧ AllBare s'.gens) z := by
    intro G only sql gok onlyA noK
    have dictFree : ∀ {b : Addr} {u : Obj} {es : Array DictEntry} {ep : Nat}, z.heap.get? b = some u → u.data = .dict es ep → G b = none := fun {b u es ep} e1 e2 => by
      cases q : G b with
      | none => rfl
      | some v =>
        obtain rfl : b = a := onlyA b (by rw [q]; simp)
        rw [there] at e1; cases e1
        have e3 : Data.seq vs.toArray _ = Data.dict es ep := e2
        cases e3
    have nsHid : ∀ {b : Addr} {m : Str → Option Value}, z.heap.Ns b m → (hidT z.heap G).Ns b m := fun {b m} ⟨u, es, ep, e1, e2, e3⟩ => ⟨u, es, ep, hidT_get e1 (dictFree e1 e2), e2, e3⟩
    have kinHid : K.In (hidT z.heap G) := fun b u e1 => hidT_get (kin b u e1) (by
      cases q : G b with
      | none => rfl
      | some v =>
        obtain rfl : b = a := onlyA b (by rw [q]; simp)
        rw [noK (by rw [q]; simp)] at e1; cases e1)
    have modul : Mod K mg (hidT z.heap G) := ⟨kinHid, nsHid gl, ⟨mb, nsHid bl, bb⟩, let ⟨mc, l1, l2⟩ := lim; ⟨mc, nsHid l1, l2⟩⟩
    have env0 : Env0 P w K mg (hidT z.heap G) callerA [] z G := ⟨rfl, modul, fun b u e1 => of_hidT e1, Nat.le_of_eq (hidT_size _ _), trivial, fun b hb => absurd (show b ∈ ([] : List Addr) from hb) (by simp), gok, .of_eq gens⟩
    refine codeAny_mono ((F _ kinHid (nsHid gl)).runs callerA [] z G ⟨[.ref a], []⟩ [.ref a] [.ref a] _ _ rfl room env0 (bind z (.ref a)) (.cons rfl .nil) (asked G only sql)) fun r s' hh => ?_
    cases r with
    | error e => exact False.elim hh
    | ok fl =>
      cases fl with
      | next => exact False.elim hh
      | brk => exact False.elim hh
      | cont => exact False.elim hh
      | ret u =>
        obtain ⟨v, G', os1, bare1, un1, gok', rv, qv⟩ := hh
        obtain rfl : v = .bl true := qv
        obtain rfl : u = Value.bool true := rv
        refine ⟨rfl, OldK.of_keep fun b u e1 => ?_, os1, bare1⟩
        cases q : G b with
        | none => exact un1.keep b u e1 q (by intro y; exact absurd (show b ∈ ([] : List Addr) from y) (by simp)) (by simp)
        | some v =>
          rcases only b with y | ⟨ob, xs, y⟩
          · rw [q] at y; cases y
          · obtain ⟨g1, _⟩ := gok b _ y
            obtain ⟨g2, _⟩ := gok' b _ (un1.frzs b ob _ y)
            rw [e1] at g1; cases g1
            exact g2
  cases hk : K.lookup a with
  | some u =>
    have e1 := kin a u hk
    rw [there] at e1
    cases e1
    exact core (fun _ => none) (fun _ => .inl rfl) (.inr ⟨_, vs.toArray, _, hk, rfl, rfl, rfl, by rw [List.size_toArray, len]; exact few, by simpa using rel⟩) (fun b v y => nomatch (show (none : Option HO) = some v from y)) (fun b y => absurd rfl y) fun y => absurd rfl y
  | none =>
    refine core (fun b => if b = a then some (.frz { cls := .type "list", data := .seq vs.toArray } (.lst (ns.map V.int))) else none) (fun b => ?_) (.inl (.inr ⟨{ cls := .type "list", data := .seq vs.toArray }, if_pos rfl⟩)) (fun b v y => ?_) (fun b y => ?_) fun _ => hk
    · by_cases hb : b = a
      · exact .inr ⟨_, _, if_pos hb⟩
      · exact .inl (if_neg hb)
    · by_cases hb : b = a
      · have y' := (if_pos hb).symm.trans y
        cases y'
        subst hb
        exact ⟨there, by rw [List.length_map]; exact few, vs, _, rel, there⟩
      · have y' := (if_neg hb).symm.trans y
        cases y'
    · by_cases hb : b = a
      · exact hb
      · exact absurd (if_neg hb) y
end
theorem walk_ofG {l : PySem.W.OpenLaw} {n k : Nat} {q : Program} {loose : List Str} {XP : (Str → Option Value) → Heap → Prop} {YP : World → Heap → Prop} {d : DefRec} {K : Params → PySem.W.Frag} {sp : PySem.W.Frag → Sp} {x : Str}
    (most : l.most = some n) (few : n ≤ sizeLine) (nodef : d.params.defaults = []) (room : Room k callerA) (hY : ∀ (w : World) (h : Heap), YP w h → (K w.params).In h)
    (F : ∀ (w : World) (mg : Str → Option Value) (fa : Addr) (h : Heap), (K w.params).In h → h.Ns mainGlobals mg → mg d.name = some (.ref fa) →
      ∃ fd : FuncData, (∀ (s : Shared) (u : Value), BindsTo s fd ⟨[u], []⟩ [(x, u)]) ∧ ∀ base : Heap, (K w.params).In base → base.Ns mainGlobals mg → FnG l.prog w (K w.params) mg base k fa fd [x] (sp (K w.params)))
    (asked : ∀ (K : PySem.W.Frag) (H : Hp) (a : Addr) (ns : List Int), ns.length ≤ n → Only H → SqL K H a (ns.map V.int) → sp K [.ref a] H (fun v _ => v = .bl true) fun _ _ _ => False) :
    PySem.W.WalkO q loose XP YP l.row.toRowW d [] (fun f vs => PySem.call f vs) := by
  refine Att.attach_call most nodef fun w s₀ s₁ mg mb fa o pm cd doc a vs ns G Y ho hd hcd hmg hobj hints hlen hg => ?_
  obtain ⟨fd, b1, b2⟩ := F w mg fa _ (hY w _ Y) G.T.g hmg
  exact law_callG (hY w _ Y) G.T.g G.T.b G.T.builtins G.T.nolimit hg hobj hints (Nat.le_trans hlen few) room b2 b1 fun H hO hS => asked (K w.params) H a ns hlen hO hS

/-! ## methods and new objects whose refusal is wished for at the caller's slots -/
section
variable {X : Cx} {CX : CXT} {k : Nat} {f C : Addr} {fd : FuncData} {ps : List Str} {sp : Sp} {E : L2.St → XK} {x m : Str} {p pos apos : Pos} {e o : Expr} {es : List Expr} {ta : TE} {t : TA}
def jMethS (C : Addr) (m : Str) (sp : Sp) (E : L2.St → XK) (ta : TE) (t : TA) : TE := fun σ H Q => ta σ H fun x H1 => ∃ a dx fs, x = .ref a ∧ H1 a = some (.ins C dx fs) ∧ fs.lookup m = none ∧ t σ H1 fun vs H2 => sp (x :: vs) H2 Q (E σ)
theorem pe_methJ {pl : Sem Bool} (ho : PE X o ta) (cls : Cls X.K C) (met : Meth X.K C m f) (F : FnOk X.prog X.w X.K X.mg X.base CX k f fd ps sp) (room : Room k X.A) (bnd : L2.Binds X.K fd ps []) (hx : ∀ σ, PassesAt CX X σ (E σ)) (ha : PA X (e :: es) t)
    (h1 : starEach (e :: es) X.env = (false, eval e X.env) :: starEach es X.env := by rfl) (h2 : (backTo pos (starEach es X.env)).any (·.1) = false := by rfl)
    (h3 : eval (.Call (.Attribute o m apos) (e :: es) [] pos) X.env = (do
      let ov ← eval o X.env
      standAt apos.atName
      let (f, first) ← holding [ov] (getMethod ov m pl)
      callWith pos f first (backTo pos (starEach (e :: es) X.env)) (backToKw pos (keywordEach [] X.env))) := by rfl) :
    PE X (.Call (.Attribute o m apos) (e :: es) [] pos) (jMethS C m sp E ta t) := by
  refine ⟨fun pins s σ H Q I q => PySem.W.methodCall_KW (pl := pl) (thn (ho.run pins s σ H _ I q) fun u s1 ⟨y, H1, I1, ry, a, dx, fs, ey, at1, nof, q1⟩ => ?_) h3⟩
  subst ey
  obtain rfl : u = Value.ref a := ry
  refine getmeth_ok I1 at1 cls met nof (PySem.W.callWith_K (first := [.ref a]) (h₀ := X.base) I.ok.mod.kin met.kp (thn (ha.run pos pins s1 σ H1 _ I1 q1) fun us s2 ⟨vs, H2, I2, rv, q2⟩ => ⟨I2.kIn, ?_⟩) h1 h2)
  exact run_fnS (us := .ref a :: us) (vs := .ref a :: vs) F room bnd (hx σ) I2 (.cons rfl rv) q2
def jMakeS (C : Addr) (sp : Sp) (E : L2.St → XK) (t : TA) : TE := fun σ H Q => t σ H fun vs H1 => ∀ x dx, H1 x = none → H1 dx = none → dx ≠ x →
  sp (.ref x :: vs) (upd (upd H1 dx (.own x)) x (.ins C dx [])) (fun v H2 => v = .non ∧ Q (.ref x) H2) (E σ)
theorem pe_makeJ (M : Mk X.K C f) (F : FnOk X.prog X.w X.K X.mg X.base CX k f fd ps sp) (room : Room (k + 1) X.A) (hg : Gl X x) (hm : X.mg x = some (.ref C)) (bnd : L2.Binds X.K fd ps []) (hx : ∀ σ, PassesAt CX X σ (E σ))
    (ha : PA X (e :: es) t) (hdb : (x == ("__debug__" : Str)) = false := by decide) (h1 : starEach (e :: es) X.env = (false, eval e X.env) :: starEach es X.env := by rfl) (h2 : (backTo pos (starEach es X.env)).any (·.1) = false := by rfl) :
    PE X (.Call (.Name x p) (e :: es) [] pos) (jMakeS C sp E t) := by
  refine ⟨fun pins s σ H Q I q => wpAny_Call_Name_kw (ld_glob I hg hm ?_ hdb)⟩
  refine PySem.W.callWith_K (h₀ := X.base) I.ok.mod.kin M.kp (thn (ha.run pos pins s σ H _ I q) fun us s1 ⟨vs, H1, I1, r, q1⟩ => ⟨I1.kIn, ?_⟩) h1 h2
  show wpAny _ _ (call (.ref C) us) _ _ s1
  have hq := q1 (s1.heap.objs.size + 1) s1.heap.objs.size (I1.hok.fresh (Nat.le_succ _)) (I1.hok.fresh (Nat.le_refl _)) (Nat.ne_of_lt (Nat.lt_succ_self _))
  have J := Inv.made (C := C) I1
  have rr : Vals (V.ref (s1.heap.objs.size + 1) :: vs) (Value.ref (s1.heap.objs.size + 1) :: us) := .cons rfl r
  have hl : (Value.ref (s1.heap.objs.size + 1) :: us ++ []).length = ps.length := by
    rw [List.append_nil, ← rr.length]
    exact F.len _ _ _ _ hq
  have bt := bnd _ (Value.ref (s1.heap.objs.size + 1) :: us) J.kIn hl
  rw [List.append_nil] at bt
  refine wpAny_call (make_map (f := f) I1.kIn M.makes M.init (beq_iff_eq.mp M.fn) (codeAny_mono (F.run _ X.stack _ _ ⟨Value.ref (s1.heap.objs.size + 1) :: us, []⟩ (Value.ref (s1.heap.objs.size + 1) :: us) _ _ (E σ) (room.make C us []) (J.env0.make C us []) bt rr hq) fun r s' hq' => ?_))
  cases r with
  | error e => exact hx σ pins _ _ e s' J hq'
  | ok fl =>
    cases fl with
    | ret u =>
      obtain ⟨v, H', I3, rv, ev, q3⟩ := J.after hq'
      subst ev
      exact ⟨rv, ⟨V.ref (s1.heap.objs.size + 1), H', I3, rfl, q3⟩⟩
    | next => exact False.elim hq'
    | brk => exact False.elim hq'
    | cont => exact False.elim hq'
end
end Jk

namespace Jk
open PySem PySem.Spec PyProof.Rows L2

/-! ## sorted(d), d a dict whose keys are pairs of ints -/
section
variable {prog : Program} {w : World}
/-- the keys of a dict as it lies -/
theorem rawSrc {d : Addr} {o : Obj} {es : Array DictEntry} {ep : Nat} (lo : (d == sysModules) = false) (hx : o.ExactDict) (hd : o.data = .dict es ep) :
    PySem.W.KdlSrc prog w "dict" d d es.size (fun i v => ∃ en, es[i]? = some en ∧ v = en.key) (fun h => h.get? d = some o) where
  type := fun _ e => ⟨o, e, hx.1⟩
  there := fun _ e => ⟨Heap.lt_size e, Heap.lt_size e⟩
  keep := fun _ _ e k => k d (.inl rfl) o e
  notList := by decide
  notTuple := by decide
  hint := fun _ _ _ _ e q => PySem.W.kdl_hint_dict ⟨o, e, hx.1⟩ q
  iter := fun A s hh e => ⟨{ cls := .type "dict_keyiterator", data := .fields #[.ref d, .int 0 0, .int es.size 0, .int ep 0] }, fun i h => h.IsKeyIter s.heap.objs.size d i es.size ep ∧ h.get? d = some o,
    (fun _ _ hq => iter_keys lo e hx hd hq),
    { sub := fun b hb => by simp at hb; simp [hb]
      frame := fun _ _ _ st k => ⟨st.1.at fun o' e' => k _ (by simp) o' e', k d (by simp) o st.2⟩
      item := fun i s' Q E hi st hQ => by
        have hen : es[i]? = some es[i] := Array.getElem?_eq_getElem hi
        refine next_key_item st.1 st.2 hd rfl hen fun h' hit' hs' => ?_
        have ne : d ≠ s.heap.objs.size := Nat.ne_of_lt (Heap.lt_size e)
        exact hQ _ h' s'.toks ⟨_, hen, rfl⟩ ⟨hit', (hs'.2 d ne).trans st.2⟩ fun b o' hb e' => (hs'.2 b (fun z => hb (by simp [z]))).trans e'
      done := fun s' Q E st hQ => next_key_end hh st.1 st.2 hd rfl (Nat.le_refl _) fun h' he' => hQ h' s'.toks fun b o' hb e' => he' b o' (fun z => hb (by simp [z])) e'
      self := fun i s' Q E st hQ => wpAny_pyIter_keyiter st.1 hQ },
    ⟨⟨_, Heap.get?_push_size _ rfl, rfl, rfl⟩, Heap.get?_push_of_some _ e⟩⟩
end
/-- the pair that a value stands for -/
def pairAt (H : Hp) : Value → Int × Int
  | .ref q => match H q with
    | some (.tup [.int i, .int j]) => (i, j)
    | _ => (0, 0)
  | _ => (0, 0)
def keyP (p : Int × Int) : List Key := [Sum.inl p.1, Sum.inl p.2]
theorem keyP_inj {p q : Int × Int} (h : keyP p = keyP q) : p = q := by
  obtain ⟨a, b⟩ := p
  obtain ⟨c, d⟩ := q
  simp [keyP] at h
  simp [h.1, h.2]
theorem keyP_at {H : Hp} {q : Addr} {p : Int × Int} (h : H q = some (.tup ((keyP p).map kV))) : pairAt H (.ref q) = p := by
  have h' : H q = some (.tup [.int p.1, .int p.2]) := h
  simp [pairAt, h']
def lexLe (p q : Int × Int) : Prop := p.1 < q.1 ∨ (p.1 = q.1 ∧ p.2 ≤ q.2)
theorem paired_ix {α β : Type} {F : α → β → Prop} : ∀ {l : List α} {m : List β}, Paired F l m → ∀ (j : Nat) (y : β), m[j]? = some y → ∃ x, l[j]? = some x ∧ F x y
  | _, _, .nil, j, y, h => by simp at h
  | _, _, .cons f t, 0, y, h => by simp at h; subst h; exact ⟨_, rfl, f⟩
  | _, _, .cons f t, j + 1, y, h => by
    obtain ⟨x, h1, h2⟩ := paired_ix t j y (by simpa using h)
    exact ⟨x, by simpa using h1, h2⟩
def rSortDT : List V → Hp → VK → Prop := fun xs H Q => ∃ (a : Addr) (kvs : List (List Key × V)) (ps : List (Int × Int)), xs = [.ref a] ∧ H a = some (.dT kvs) ∧ kvs.map (·.1) = ps.map keyP ∧
  ∀ (qs : List (Addr × (Int × Int))) (D : Addr), (qs.map (·.2)).Perm ps → (qs.map (·.2)).Pairwise lexLe → (∀ q ∈ qs, H q.1 = some (.tup [.int q.2.1, .int q.2.2])) → H D = none → Q (.ref D) (upd H D (.lst (qs.map fun q => .ref q.1)))
theorem srtd_pairs {k : Value → Int × Int} {out : List Value} (h : SrtO.Srtd (fun v u => SrtO.lexB (k v) (k u)) out) : (out.map k).Pairwise lexLe := by
  rw [List.pairwise_map]
  refine List.Pairwise.imp ?_ h
  intro a b hab
  have z := SrtO.lexB_no.mp hab
  unfold lexLe
  omega
theorem call_sortedDT {X : Cx} (hc : X.calm = true) : CallR X (.builtin "sorted") rSortDT := by
  intro pins s σ H xs us Q I r h
  obtain ⟨a, kvs, ps, rfl, ha, hks, q⟩ := h
  obtain ⟨u, rfl, ru⟩ := vals1 r
  cases ru
  obtain ⟨hz, lo, ks, rel, o, es, ep, ho, hx, hd, hes, his, hnd⟩ := dt_of I.hok ha
  have hsz : es.size = kvs.length := by
    have z := congrArg List.length hes
    rw [List.length_map, Array.length_toList] at z
    rw [z, Paired.length rel]
  refine Calls.call_function_entry PyProof.Rows.kind_sorted PyProof.Rows.plain_sorted PyProof.Rows.entry_sorted (PyProof.Rows.args_sorted1 _) ?_
  unfold Builtin.«sorted»
  refine wpAny_bind (m := checkCount "sorted" 1 1 _) (wpAny_pure ?_)
  refine wpAny_bind (PySem.W.kdu_collect (A := X.A.in1) (rawSrc lo hx hd) (I.ok.hd hc) ho (by rw [hsz]; exact hz) fun h' tk acc hk hacc => ?_)
  have hkey : ∀ (j : Nat) (v : Value), acc.toList[j]? = some v → ∃ (p : Int × Int) (t : Addr), ps[j]? = some p ∧ v = .ref t ∧ H t = some (.tup ((keyP p).map kV)) := fun j v e => by
    obtain ⟨en, e1, rfl⟩ := hacc.2 j v (by rw [← Array.getElem?_toList]; exact e)
    have e2 : (ks.map (entryOfKey (tupleKind (mixKind X.prog X.w))))[j]? = some en := by rw [← hes, Array.getElem?_toList]; exact e1
    rw [List.getElem?_map] at e2
    cases e3 : ks[j]? with
    | none => rw [e3] at e2; cases e2
    | some y =>
      rw [e3] at e2
      obtain rfl : entryOfKey (tupleKind (mixKind X.prog X.w)) y = en := Option.some.inj e2
      obtain ⟨x, g1, g2, g3, _⟩ := paired_ix rel j y e3
      have g4 : (kvs.map (·.1))[j]? = some x.1 := by rw [List.getElem?_map, g1]; rfl
      rw [hks, List.getElem?_map] at g4
      cases g5 : ps[j]? with
      | none => rw [g5] at g4; cases g4
      | some p =>
        rw [g5] at g4
        have g6 : keyP p = x.1 := Option.some.inj g4
        exact ⟨p, y.2.1, rfl, rfl, by rw [g6]; exact g3⟩
  have hlen : acc.toList.length = ps.length := by
    have z := congrArg List.length hks
    rw [List.length_map, List.length_map] at z
    rw [Array.length_toList, hacc.1, hsz, z]
  have hmap : acc.toList.map (pairAt H) = ps := by
    refine List.ext_getElem? fun j => ?_
    rw [List.getElem?_map]
    cases e : acc.toList[j]? with
    | none =>
      have e' : ps[j]? = none := by
        rw [List.getElem?_eq_none_iff] at e ⊢
        omega
      rw [e']; rfl
    | some v =>
      obtain ⟨p, t, e1, rfl, e2⟩ := hkey j v e
      rw [e1]
      show some (pairAt H (.ref t)) = some p
      rw [keyP_at e2]
  have hmem : ∀ v ∈ acc.toList, ∃ t, v = .ref t ∧ H t = some (.tup [.int (pairAt H v).1, .int (pairAt H v).2]) := fun v hv => by
    obtain ⟨j, hj, e⟩ := List.mem_iff_getElem.mp hv
    obtain ⟨p, t, _, rfl, e2⟩ := hkey j v (by rw [List.getElem?_eq_getElem hj, e])
    refine ⟨t, rfl, ?_⟩
    rw [keyP_at e2]
    exact e2
  have I1 : Inv X pins σ H { s with heap := h', toks := tk } := I.kept hk
  have hfit : acc.toList.length ≤ sizeLine := by rw [Array.length_toList, hacc.1, hsz]; exact hz
  refine wpAny_bind (wpAny_newList ?_ hfit)
  have hoL : (h'.push (seqObj "list" acc.toList.toArray 0)).get? h'.objs.size = some (seqObj "list" acc.toList.toArray 0) := Heap.get?_push_size _ rfl
  show wpAny _ _ _ _ _ { s with heap := h'.push (seqObj "list" acc.toList.toArray 0), toks := tk }
  have hpair : ∀ v ∈ acc.toList, Srt.IsPair (h'.push (seqObj "list" acc.toList.toArray 0)) v (pairAt H v).1 (pairAt H v).2 := fun v hv => by
    obtain ⟨t, ev, ht⟩ := hmem v hv
    obtain ⟨_, its, rv, ob, hob, hcl, n, hdt⟩ := I1.hok t _ ht
    obtain ⟨u1, u2, rfl, ri, rj⟩ := vals2 rv
    obtain ⟨t1, rfl⟩ := ri
    obtain ⟨t2, rfl⟩ := rj
    exact ⟨t, ob, t1, t2, n, ev, Heap.get?_push_of_some _ hob, hcl, hdt⟩
  refine wpAny_bind (wpAny_holding (wpAny_call_entry PyProof.Rows.slot_list_sort ⟨_, hoL, rfl⟩ PyProof.Rows.entry_list_sort
    (SrtO.list_sort_ord (s := { s with heap := h'.push (seqObj "list" acc.toList.toArray 0), toks := tk }) (SrtO.swo_lex (pairAt H)) hoL hfit (fun h2 => SrtO.pairs_sortableO (by omega) hpair fun ob e c => ?_) fun out g1 g2 => ⟨_, rfl, ?_⟩) (PyProof.Rows.args_list_sort _)))
  · have e' := e.symm.trans hoL
    cases e'
    exact absurd (Value.type.inj c) (by decide)
  · obtain ⟨e', he'⟩ := PyProof.Rows.sortedHeap_at (vs := acc.toList) (out := out.toArray) hoL
    have hout : ∀ v ∈ out, ∃ t, v = .ref t ∧ H t = some (.tup [.int (pairAt H v).1, .int (pairAt H v).2]) := fun v hv => hmem v (g2.perm.mem_iff.mp hv)
    have hol : out.length = acc.toList.length := g2.perm.length_eq
    let adr : Value → Addr := fun v => match v with | .ref t => t | _ => 0
    have hvals : Vals (out.map fun v => V.ref (adr v)) out := by
      have gen : ∀ l : List Value, (∀ v ∈ l, ∃ t, v = Value.ref t) → Vals (l.map fun v => V.ref (adr v)) l := by
        intro l
        induction l with
        | nil => intro _; exact .nil
        | cons v l ih =>
          intro hl
          obtain ⟨t, rfl⟩ := hl v List.mem_cons_self
          exact .cons rfl (ih fun u hu => hl u (List.mem_cons_of_mem _ hu))
      exact gen out fun v hv => let ⟨t, e, _⟩ := hout v hv; ⟨t, e⟩
    have fin := q (out.map fun v => (adr v, pairAt H v)) h'.objs.size (by
        rw [List.map_map]
        show (out.map fun v => pairAt H v).Perm ps
        rw [← hmap]
        exact g2.perm.map _) (by
        rw [List.map_map]
        exact srtd_pairs g1) (fun z hz' => by
        obtain ⟨v, hv, rfl⟩ := List.mem_map.mp hz'
        obtain ⟨t, rfl, ht⟩ := hout v hv
        exact ht) (I1.hok.fresh (Nat.le_refl _))
    rw [List.map_map] at fin
    refine wpAny_pure ⟨_, rfl, .ref h'.objs.size, upd H h'.objs.size (.lst (out.map fun v => V.ref (adr v))), I1.laid (t' := tk) (fun b u e => ?_) (Nat.le_refl _)
      (show ObjOk X.prog X.w _ _ _ (.lst (out.map fun v => V.ref (adr v))) from ⟨by rw [List.length_map, hol]; exact hfit, out, e', hvals, he'⟩), rfl, fin⟩
    have hb : b < h'.objs.size := Heap.lt_size e
    rw [PyProof.Rows.sortedHeap_old (Nat.ne_of_lt hb) (by rw [size_push']; exact Nat.lt_succ_of_lt hb)]
    exact Heap.get?_push_of_some _ e

/-! ## d.pop(k), k a tuple that is there -/
section
variable {prog : Program} {w : World} {K : Type} [DecidableEq K] {knd : HeapKind prog w K}
theorem meetsPop1 {d b : Addr} {k : K} (lo : (d == sysModules) = false) :
    MeetsIn prog w (Builtin.«dict.pop» ⟨[.ref d, .ref b], []⟩) (fun A R s => ∃ xs p, knd.room A.in1 ∧ knd.is s.heap k b ∧ s.heap.DictOfH knd d xs ∧ xs.length ≤ sizeLine ∧ atKey xs k = some p ∧
      ∀ h' tk, h'.DictOfH knd d (DT.dropH xs k) → Heap.SameBut d s.heap h' → R (.ok (.ret p.2)) { s with heap := h', toks := tk }) :=
  .of_wp fun A R s ⟨xs, p, room, key, dict, few, found, fin⟩ => by
    obtain ⟨o, es, ep, ho, hc, hdat, he, his, hn⟩ := id dict
    have hes : es.size = xs.length := size_of_entries he
    have hpart : (keyPart (Value.ref b)).isSome = false := rfl
    unfold Builtin.«dict.pop»
    refine wpAny_bind ?_
    unfold Builtin.Dict.keyAndDefault
    refine wpAny_bind (wpAny_notOrdered_dict dict.typeIs ?_)
    show wpAny _ _ (pure (d, Value.ref b, none)) _ _ s
    refine wpAny_pure ?_
    simp only [hpart, Bool.false_eq_true, if_false]
    refine wpAny_bind (wpAny_dictEntries ho hdat (wpAny_bind (wpAny_pure ?_)))
    cases hem : es.isEmpty with
    | true =>
      have h0 : xs = [] := by
        have z : es.size = 0 := by simpa using hem
        exact List.length_eq_zero_iff.mp (by omega)
      rw [h0] at found
      cases found
    | false =>
      simp only [Bool.false_eq_true, if_false]
      refine wpAny_bind (DT.takeH room key dict few (fun hno => ?_) fun p' e hp hev h' hm' hs' => ?_)
      · rw [found] at hno; cases hno
      · rw [found] at hp
        cases hp
        simp only [Option.isNone_some, Bool.false_eq_true, if_false]
        exact wpAny_bind (wpAny_letGo (wpAny_pure ⟨e.val, rfl, by rw [hev]; exact fin h' _ hm' hs'⟩))
end
def rPopT1 : V → List V → Hp → VK → Prop := fun x xs H Q => ∃ (a : Addr) (kvs : List (List Key × V)) (k : List Key) (b : Addr) (v : V), x = .ref a ∧ xs = [.ref b] ∧ H a = some (.dT kvs) ∧ H b = some (.tup (k.map kV)) ∧ valV kvs k = some v ∧
  Q v (upd H a (.dT (dropK kvs k)))
theorem mt_popT1 {X : Cx} (hu : X.A.units + 1 < cLine) : MtR X "dict.pop" rPopT1 := by
  intro pins s σ H x xs v us Q I rx rxs h
  obtain ⟨a, kvs, k, b, v0, rfl, rfl, ha, hb, hv, q⟩ := h
  cases rx
  obtain ⟨u1, rfl, r1⟩ := vals1 rxs
  cases r1
  obtain ⟨z, lo, ks, rel, dd⟩ := dt_of I.hok ha
  have few : ks.length ≤ sizeLine := by rw [← Paired.length rel]; exact z
  have r := rel.val k
  rw [hv] at r
  obtain ⟨p, hp, rv⟩ : ∃ p, atKey ks k = some p ∧ RelV v0 p.2 := by
    cases ev : atKey ks k with
    | none => rw [ev] at r; exact (show False from r).elim
    | some p => rw [ev] at r; exact ⟨p, rfl, r⟩
  refine call_meetsIn PySem.F.slot_dict_pop dd.typeIs PySem.F.entry_dict_pop (PySem.F.args_dict_pop_2 _ _) (meetsPop1 (knd := tupleKind (mixKind X.prog X.w)) (k := k) lo)
    ⟨ks, p, tupleKind_room_in1 hu, key_of I.hok hb, dd, few, hp, fun h' tk dd' hs => ?_⟩
  obtain ⟨o, es, ep, hq, h2, h3, h4, _, h5⟩ := dd'
  have I2 : Inv X pins σ (upd H a (.dT (dropK kvs k))) { s with heap := h', toks := tk } :=
    d_write I (by rw [ha]; exact True.intro) hs ⟨o, hq⟩ ⟨Nat.le_trans (dropK_le kvs k) z, lo, _, (DX.KT_drop k rel).keeps (fun c ys ec => (by rw [upd_ne (ne_of ec ha (fun z => nomatch z))]; exact ec)), o, es, ep, hq, h2, h3, h4, h5⟩
  show EP X pins σ Q p.2 _
  exact ⟨v0, _, I2, rv, q⟩
end Jk

namespace Jk
open PySem PySem.Spec L2 Evl

/-! ## readings that simp can run -/
/-- no attribute of that name -/
def NoFld (fs : List (Str × V)) (m : Str) : Prop := fs.lookup m = none
section
variable {σ : L2.St} {H : Hp} {D : Ends} {Q : VK} {QB : Bool → Hp → Prop} {QA : List V → Hp → Prop} {QS : L2.St → Hp → Prop} {t u ts : TS} {ta tb te tv tc : TE} {c c1 c2 : TT} {tr : TA} {g : TG} {gs : TGs} {v x y : V} {r : R2} {K : PySem.W.Frag}
@[simp] theorem j_seq : tSeq t u D σ H = t { D with nx := u D } σ H := rfl
@[simp] theorem j_next : tNext D σ H = D.nx σ H := rfl
@[simp] theorem j_asg : tAsg te g D σ H = te σ H fun x H1 => g x σ H1 D.nx := rfl
@[simp] theorem j_gname {i : Nat} : gName i v σ H QS = QS (σ.set i (some v)) H := rfl
@[simp] theorem j_gnil : gNil [] σ H QS = QS σ H := by simp [gNil]
@[simp] theorem j_gcons {vs : List V} : gCons g gs (v :: vs) σ H QS = g v σ H fun s1 H1 => gs vs s1 H1 QS := propext ⟨fun ⟨_, _, e, q⟩ => by cases e; exact q, fun q => ⟨v, vs, rfl, q⟩⟩
@[simp] theorem j_drop : tDrop te D σ H = te σ H fun _ H1 => D.nx σ H1 := rfl
@[simp] theorem j_ret : tRet te D σ H = te σ H D.rt := rfl
@[simp] theorem j_retN : tRetN D σ H = D.rt .non H := rfl
@[simp] theorem j_if : tIfS c t u D σ H = c σ H fun b H1 => if b = true then t D σ H1 else u D σ H1 := rfl
@[simp] theorem j_brk : tBreak D σ H = D.bk σ H := rfl
@[simp] theorem j_cont : tCont D σ H = D.ct σ H := rfl
@[simp] theorem j_var {i : Nat} : tVar i σ H Q = ∃ v, σ[i]? = some (some v) ∧ Q v H := rfl
@[simp] theorem j_c : tC v σ H Q = Q v H := rfl
@[simp] theorem j_B : tB te σ H QB = te σ H fun x H1 => ∃ c, x = .bl c ∧ QB c H1 := rfl
@[simp] theorem j_test : tTest te σ H QB = te σ H fun x H1 => ∃ c, x = .bl c ∧ QB c H1 := rfl
@[simp] theorem j_and : tAnd c1 c2 σ H QB = c1 σ H fun b H1 => if b = true then c2 σ H1 QB else QB false H1 := rfl
@[simp] theorem j_or : tOr c1 c2 σ H QB = c1 σ H fun b H1 => if b = true then QB true H1 else c2 σ H1 QB := rfl
@[simp] theorem j_not : tNot c σ H QB = c σ H fun b H1 => QB (!b) H1 := rfl
@[simp] theorem j_andV : tAndV ta tb σ H Q = ta σ H fun x H1 => ∃ c, x = .bl c ∧ if c = true then tb σ H1 Q else Q (.bl false) H1 := rfl
@[simp] theorem j_orV : tOrV ta tb σ H Q = ta σ H fun x H1 => ∃ c, x = .bl c ∧ if c = true then Q (.bl true) H1 else tb σ H1 Q := rfl
@[simp] theorem j_notV : tNotV ta σ H Q = ta σ H fun x H1 => ∃ c, x = .bl c ∧ Q (.bl (!c)) H1 := rfl
@[simp] theorem j_ifE : tIf c ta tb σ H Q = c σ H fun b H1 => if b = true then ta σ H1 Q else tb σ H1 Q := rfl
@[simp] theorem j_op : tOp r ta tb σ H Q = ta σ H fun x H1 => tb σ H1 fun y H2 => r x y H2 Q := rfl
@[simp] theorem j_un {r1 : V → Hp → VK → Prop} : tUn r1 ta σ H Q = ta σ H fun x H1 => r1 x H1 Q := rfl
@[simp] theorem j_rI {C : Int → Int → Prop} {f : Int → Int → V} {i j : Int} : rI C f (.int i) (.int j) H Q = (C i j ∧ Q (f i j) H) := by simp [rI]
@[simp] theorem j_rI0 {f : Int → Int → V} {i j : Int} : rI0 f (.int i) (.int j) H Q = Q (f i j) H := by simp [rI0]
@[simp] theorem j_rU {f : Int → V} {i : Int} : rU f (.int i) H Q = Q (f i) H := by simp [rU]
@[simp] theorem j_eq_ii {i j : Int} : rEq (.int i) (.int j) H Q = Q (.bl (decide (i = j))) H := by simp [rEq, scal]
@[simp] theorem j_ne_ii {i j : Int} : rNe (.int i) (.int j) H Q = Q (.bl (!decide (i = j))) H := by simp [rNe, scal]
@[simp] theorem j_eq_ss {i j : Str} : rEq (.str i) (.str j) H Q = Q (.bl (decide (i = j))) H := by simp [rEq, scal]
@[simp] theorem j_ne_ss {i j : Str} : rNe (.str i) (.str j) H Q = Q (.bl (!decide (i = j))) H := by simp [rNe, scal]
@[simp] theorem j_eq_bb {i j : Bool} : rEq (.bl i) (.bl j) H Q = Q (.bl (decide (i = j))) H := by simp [rEq, scal]
@[simp] theorem j_ne_bb {i j : Bool} : rNe (.bl i) (.bl j) H Q = Q (.bl (!decide (i = j))) H := by simp [rNe, scal]
@[simp] theorem j_chain {r' : R2} : tChain r r' ta tb tc σ H Q = ta σ H fun x H1 => tb σ H1 fun y H2 => r x y H2 fun z H3 => ∃ k, z = .bl k ∧ (if k = true then tc σ H3 fun w' H4 => r' y w' H4 Q else Q (.bl false) H3) := rfl
@[simp] theorem j_fld {f : Str} : tFld K ta f σ H Q = ta σ H fun x H1 => ∃ a C dx fs v, x = .ref a ∧ H1 a = some (.ins C dx fs) ∧ Cls K C ∧ NoAttr K C f ∧ fs.lookup f = some v ∧ Q v H1 := rfl
@[simp] theorem j_sfld {f : Str} : sFld K ta tv f D σ H = tv σ H fun y H1 => ta σ H1 fun x H2 => ∃ a C dx fs, x = .ref a ∧ H2 a = some (.ins C dx fs) ∧ Cls K C ∧ NoAttr K C f ∧ fs.length < 1000 ∧ D.nx σ (upd H2 a (.ins C dx (putF f y fs))) := rfl
@[simp] theorem j_nil : tNil σ H QA = QA [] H := rfl
@[simp] theorem j_cons : tCons ta tr σ H QA = ta σ H fun x H1 => tr σ H1 fun xs H2 => QA (x :: xs) H2 := rfl
@[simp] theorem j_cb {r1 : List V → Hp → VK → Prop} : tCB r1 tr σ H Q = tr σ H fun vs H1 => r1 vs H1 Q := rfl
@[simp] theorem j_call {sp : Sp} {E : XK} : tCall sp [] E tr σ H Q = tr σ H fun vs H1 => sp vs H1 Q E := by simp [tCall]
@[simp] theorem j_meth {sp : Sp} {E : XK} {C : Addr} {m : Str} : tMeth C m sp [] E ta tr σ H Q = ta σ H fun x H1 => ∃ a dx fs, x = .ref a ∧ H1 a = some (.ins C dx fs) ∧ NoFld fs m ∧ tr σ H1 fun vs H2 => sp (x :: vs) H2 Q E := by simp [tMeth, NoFld]
@[simp] theorem j_methS {sp : Sp} {E : L2.St → XK} {C : Addr} {m : Str} : jMethS C m sp E ta tr σ H Q = ta σ H fun x H1 => ∃ a dx fs, x = .ref a ∧ H1 a = some (.ins C dx fs) ∧ NoFld fs m ∧ tr σ H1 fun vs H2 => sp (x :: vs) H2 Q (E σ) := rfl
@[simp] theorem j_makeS {sp : Sp} {E : L2.St → XK} {C : Addr} : jMakeS C sp E tr σ H Q = tr σ H fun vs H1 => ∀ x dx, H1 x = none → H1 dx = none → dx ≠ x → sp (.ref x :: vs) (upd (upd H1 dx (.own x)) x (.ins C dx [])) (fun v H2 => v = .non ∧ Q (.ref x) H2) (E σ) := rfl
@[simp] theorem j_make {sp : Sp} {E : XK} {C : Addr} : tMake C sp [] E tr σ H Q = tr σ H fun vs H1 => ∀ x dx, H1 x = none → H1 dx = none → dx ≠ x → sp (.ref x :: vs) (upd (upd H1 dx (.own x)) x (.ins C dx [])) (fun v H2 => v = .non ∧ Q (.ref x) H2) E := by simp [tMake]
@[simp] theorem j_isN {y : V} : (fun (x y : V) (H : Hp) (Q : VK) => y = V.non ∧ Q (.bl (decide (x = .non))) H) x y H Q = (y = V.non ∧ Q (.bl (decide (x = .non))) H) := rfl
@[simp] theorem kV_int {n : Int} {k : Key} : (V.int n = kV k) = (k = Sum.inl n) := by
  cases k with
  | inl i => simp [kV, eq_comm]
  | inr s => simp [kV]
@[simp] theorem kV_str {n : Str} {k : Key} : (V.str n = kV k) = (k = Sum.inr n) := by
  cases k with
  | inl i => simp [kV]
  | inr s => simp [kV, eq_comm]
end

section
variable {X : Cx}
/-- a reading that asks more -/
theorem _root_.L2.PE.by {e : Expr} {t t' : TE} (h : PE X e t) (k : ∀ σ H Q, t' σ H Q → t σ H Q) : PE X e t' := ⟨fun pins s σ H Q I q => h.run pins s σ H Q I (k σ H Q q)⟩
theorem _root_.L2.PG.by {e : Expr} {t t' : TG} (h : PG X e t) (k : ∀ v σ H Q, t' v σ H Q → t v σ H Q) : PG X e t' := ⟨fun pins s σ H v u Q I r q => h.run pins s σ H v u Q I r (k v σ H Q q)⟩
theorem _root_.L2.PS.by {e : Stmt} {t t' : TS} (h : PS X e t) (k : ∀ D σ H, t' D σ H → t D σ H) : PS X e t' := ⟨fun pins s σ H D I q => h.run pins s σ H D I (k D σ H q)⟩
theorem callBy {f : Value} {r r' : List V → Hp → VK → Prop} (h : CallR X f r) (k : ∀ xs H Q, r' xs H Q → r xs H Q) : CallR X f r' := fun pins s σ H xs us Q I rr q => h pins s σ H xs us Q I rr (k xs H Q q)

/-- an attribute, the written part named -/
theorem pe_fldK {K0 : PySem.W.Frag} {e : Expr} {ta : TE} {f : Str} {pos : Pos} (he : PE X e ta) (hb : attributeBase e f X.env (eval e X.env) = eval e X.env := by rfl) (hK : X.K = K0 := by rfl) : PE X (.Attribute e f pos) (tFld K0 ta f) := by
  subst hK
  exact pe_fld he hb
/-! new tuples and lists, what was tracked kept -/
def jTup (tr : TA) : TE := fun σ H Q => tr σ H fun xs H1 => xs.length ≤ 1000 ∧ ∀ p H2, H1 p = none → Ex H1 H2 → H2 p = some (.tup xs) → Q (.ref p) H2
def jLst (tr : TA) : TE := fun σ H Q => tr σ H fun xs H1 => xs.length ≤ 1000 ∧ ∀ p H2, H1 p = none → Ex H1 H2 → H2 p = some (.lst xs) → Q (.ref p) H2
@[simp] theorem j_tup {σ H Q} {tr : TA} : jTup tr σ H Q = tr σ H fun xs H1 => xs.length ≤ 1000 ∧ ∀ p H2, H1 p = none → Ex H1 H2 → H2 p = some (.tup xs) → Q (.ref p) H2 := rfl
@[simp] theorem j_lst {σ H Q} {tr : TA} : jLst tr σ H Q = tr σ H fun xs H1 => xs.length ≤ 1000 ∧ ∀ p H2, H1 p = none → Ex H1 H2 → H2 p = some (.lst xs) → Q (.ref p) H2 := rfl
theorem line1000 {n : Nat} (h : n ≤ 1000) : n ≤ sizeLine := Nat.le_trans h (by decide)
theorem pe_tupJ {es : List Expr} {t : TA} {x1} {pos : Pos} (h : PA X es t) : PE X (.Tuple es x1 pos) (jTup t) := by
  refine ⟨fun pins s σ H Q I hq => ?_⟩
  refine (pe_tup (x1 := x1) (pos := pos) (t := fun σ H Q => ∃ Q', t σ H Q' ∧ ∀ vs H', Q' vs H' → Q vs H') ⟨fun pos pins s σ H Q I q => ?_⟩).run pins s σ H Q I ⟨_, hq, fun xs H1 ⟨z, k⟩ => ⟨line1000 z, fun p hp => k p _ hp (Ex.new hp) upd_same⟩⟩
  obtain ⟨Q', q1, q2⟩ := q
  exact thn (h.run pos pins s σ H Q' I q1) fun us s1 ⟨xs, H1, I1, r, k⟩ => ⟨xs, H1, I1, r, q2 _ _ k⟩
theorem pe_lstJ {es : List Expr} {t : TA} {pos : Pos} (h : PA X es t) : PE X (.List es pos) (jLst t) := by
  refine ⟨fun pins s σ H Q I hq => ?_⟩
  refine (pe_lst (pos := pos) (t := fun σ H Q => ∃ Q', t σ H Q' ∧ ∀ vs H', Q' vs H' → Q vs H') ⟨fun pos pins s σ H Q I q => ?_⟩).run pins s σ H Q I ⟨_, hq, fun xs H1 ⟨z, k⟩ => ⟨line1000 z, fun p hp => k p _ hp (Ex.new hp) upd_same⟩⟩
  obtain ⟨Q', q1, q2⟩ := q
  exact thn (h.run pos pins s σ H Q' I q1) fun us s1 ⟨xs, H1, I1, r, k⟩ => ⟨xs, H1, I1, r, q2 _ _ k⟩
def jDict : TE := fun _ H Q => ∀ p H2, H p = none → Ex H H2 → H2 p = some (.dK []) → Q (.ref p) H2
@[simp] theorem j_dict {σ H Q} : jDict σ H Q = ∀ p H2, H p = none → Ex H H2 → H2 p = some (.dK []) → Q (.ref p) H2 := rfl
theorem pe_dictJ {pos : Pos} : PE X (.Dict [] [] pos) jDict := pe_dnewK.by fun σ H Q q p hp => q p _ hp (Ex.new hp) upd_same

/-! operators -/
theorem opBy {f : Value → Value → Sem Value} {r r' : R2} (h : OpR X f r) (k : ∀ x y H Q, r' x y H Q → r x y H Q) : OpR X f r' := fun pins s σ H x y v u Q I r1 r2 q => h pins s σ H x y v u Q I r1 r2 (k x y H Q q)
def jCat : R2 := fun x y H Q => ∃ l b xs zs, x = .ref l ∧ y = .ref b ∧ H l = some (.lst xs) ∧ H b = some (.lst zs) ∧ xs.length + zs.length ≤ 100000 ∧ ∀ p H2, H p = none → Ex H H2 → H2 p = some (.lst (xs ++ zs)) → Q (.ref p) H2
theorem op_catJ : OpR X (binaryOp .Add) jCat := opBy op_cat fun x y H Q ⟨l, b, xs, zs, e1, e2, h1, h2, z, k⟩ => ⟨l, b, xs, zs, e1, e2, h1, h2, Nat.le_trans z (by decide), fun p hp => k p _ hp (Ex.new hp) upd_same⟩
def jRep : R2 := fun x y H Q => ∃ l k xs, x = .ref l ∧ y = .int k ∧ H l = some (.lst xs) ∧ 0 ≤ k ∧ k ≤ 1000 ∧ xs.length ≤ 1000 ∧ ∀ p H2, H p = none → Ex H H2 → H2 p = some (.lst (List.replicate k.toNat xs).flatten) → Q (.ref p) H2
theorem op_repJ : OpR X (binaryOp .Mult) jRep := opBy op_rep fun x y H Q ⟨l, k, xs, e1, e2, h1, h2, h3, h4, q⟩ => ⟨l, k, xs, e1, e2, h1, by omega, by omega, by
    have z : xs.length * k.toNat ≤ 1000 * 1000 := Nat.mul_le_mul h4 (by omega)
    exact Nat.le_trans z (by decide), fun p hp => q p _ hp (Ex.new hp) upd_same⟩
def jIxL : R2 := fun x y H Q => ∃ p xs i v, x = .ref p ∧ y = .int i ∧ H p = some (.lst xs) ∧ 0 ≤ i ∧ xs[i.toNat]? = some v ∧ Q v H
def jIxT : R2 := fun x y H Q => ∃ p xs i v, x = .ref p ∧ y = .int i ∧ H p = some (.tup xs) ∧ 0 ≤ i ∧ xs[i.toNat]? = some v ∧ Q v H
theorem at_toNat {xs : List V} {i : Int} {v : V} (h : 0 ≤ i) (e : xs[i.toNat]? = some v) : atI xs i = some v := at_of (j := i.toNat) (by omega) e
theorem ix_listJ : IxR X jIxL := fun vl sl pins s σ H x y v u Q I rx ry q hs => ix_list vl sl pins s σ H x y v u Q I rx ry (by
  obtain ⟨p, xs, i, z, e1, e2, h1, h2, h3, k⟩ := q
  exact ⟨p, xs, i, z, e1, e2, .inl (.inl h1), at_toNat h2 h3, k⟩) hs
theorem ix_tupJ : IxR X jIxT := fun vl sl pins s σ H x y v u Q I rx ry q hs => ix_tup vl sl pins s σ H x y v u Q I rx ry (by
  obtain ⟨p, xs, i, z, e1, e2, h1, h2, h3, k⟩ := q
  exact ⟨p, xs, i, z, e1, e2, .inl (.inl h1), at_toNat h2 h3, k⟩) hs

/-! dicts -/
variable {o i value : Expr} {td ty : TE} {pos tpos : Pos}
def jDGet (td ty : TE) : TE := fun σ H Q => td σ H fun x H1 => ty σ H1 fun y H2 => ∃ a kvs k v, x = .ref a ∧ H2 a = some (.dK kvs) ∧ y = kV k ∧ valV kvs k = some v ∧ Q v H2
@[simp] theorem j_dget {σ H Q} : jDGet td ty σ H Q = td σ H fun x H1 => ty σ H1 fun y H2 => ∃ a kvs k v, x = .ref a ∧ H2 a = some (.dK kvs) ∧ y = kV k ∧ valV kvs k = some v ∧ Q v H2 := rfl

/-- a reading that may be weakened behind -/
def cl (t : TE) : TE := fun σ H Q => ∃ Q', t σ H Q' ∧ ∀ v H', Q' v H' → Q v H'
theorem _root_.L2.PE.cl {e : Expr} {t : TE} (h : PE X e t) : PE X e (cl t) := ⟨fun pins s σ H Q I ⟨Q', q1, q2⟩ => thn (h.run pins s σ H Q' I q1) fun u s1 ⟨v, H1, I1, r, k⟩ => ⟨v, H1, I1, r, q2 _ _ k⟩⟩
theorem pe_dgetJ (hu : X.A.units + 1 < cLine) (ho : PE X o td) (hi : PE X i ty) (hs : NoSl i) : PE X (.Subscript o i pos) (jDGet td ty) :=
  (pe_dget hu ho.cl hi.cl hs).by fun σ H Q q => ⟨_, q, fun x H1 k => ⟨_, k, fun y H2 ⟨a, kvs, k, v, e1, h1, e2, e3, q⟩ => ⟨a, v, e1, by rw [e2, ← e3]; exact DGet.k h1, q⟩⟩⟩
def jDIn (ty td : TE) : TE := fun σ H Q => ty σ H fun y H1 => td σ H1 fun x H2 => ∃ a kvs k, x = .ref a ∧ H2 a = some (.dK kvs) ∧ y = kV k ∧ Q (.bl (valV kvs k).isSome) H2
@[simp] theorem j_din {σ : L2.St} {H : Hp} {Q : VK} : jDIn ty td σ H Q = ty σ H fun y H1 => td σ H1 fun x H2 => ∃ a kvs k, x = .ref a ∧ H2 a = some (.dK kvs) ∧ y = kV k ∧ Q (.bl (valV kvs k).isSome) H2 := rfl
theorem pc_dinJ (hu : X.A.units + 1 < cLine) (hi : PE X i ty) (ho : PE X o td) : PC X .In i o (jDIn ty td) := by
  refine ⟨fun pins s σ H Q I q => (pc_din hu hi.cl ho.cl).run pins s σ H Q I ⟨_, q, fun y H1 k => ⟨_, k, fun x H2 ⟨a, kvs, k, e1, h1, e2, q⟩ => ⟨a, _, e1, by rw [e2]; exact DGet.k h1, q⟩⟩⟩⟩
/-- a pair of ints in a dict of such -/
def jDInT (ty td : TE) : TE := fun σ H Q => ty σ H fun y H1 => td σ H1 fun x H2 => ∃ a kvs b m n, x = .ref a ∧ H2 a = some (.dT kvs) ∧ y = .ref b ∧ H2 b = some (.tup [.int m, .int n]) ∧ Q (.bl (valV kvs (keyP (m, n))).isSome) H2
@[simp] theorem j_dinT {σ : L2.St} {H : Hp} {Q : VK} : jDInT ty td σ H Q = ty σ H fun y H1 => td σ H1 fun x H2 => ∃ a kvs b m n, x = .ref a ∧ H2 a = some (.dT kvs) ∧ y = .ref b ∧ H2 b = some (.tup [.int m, .int n]) ∧ Q (.bl (valV kvs (keyP (m, n))).isSome) H2 := rfl
theorem pc_dinT (hu : X.A.units + 1 < cLine) (hi : PE X i ty) (ho : PE X o td) : PC X .In i o (jDInT ty td) := by
  refine ⟨fun pins s σ H Q I q => (pc_din hu hi.cl ho.cl).run pins s σ H Q I ⟨_, q, fun y H1 k => ⟨_, k, fun x H2 ⟨a, kvs, b, m, n, e1, h1, e2, h2, q⟩ => ⟨a, _, e1, by rw [e2]; exact DGet.t (k := keyP (m, n)) h1 h2, q⟩⟩⟩⟩
def jDPut (td ty tv : TE) : TS := fun D σ H => tv σ H fun v H1 => td σ H1 fun x H2 => ty σ H2 fun y H3 => ∃ a kvs k, x = .ref a ∧ H3 a = some (.dK kvs) ∧ y = kV k ∧ kvs.length ≤ 100000 ∧ D.nx σ (upd H3 a (.dK (putK kvs k v)))
@[simp] theorem j_dput {tv : TE} {D : Ends} {σ : L2.St} {H : Hp} : jDPut td ty tv D σ H = tv σ H fun v H1 => td σ H1 fun x H2 => ty σ H2 fun y H3 => ∃ a kvs k, x = .ref a ∧ H3 a = some (.dK kvs) ∧ y = kV k ∧ kvs.length ≤ 100000 ∧ D.nx σ (upd H3 a (.dK (putK kvs k v))) := rfl
theorem lt_line {n : Nat} (h : n ≤ 100000) : n < sizeLine := Nat.lt_of_le_of_lt h (by decide)
theorem ps_dputJ {tv : TE} {pos' : Pos} (hu : X.A.units + 1 < cLine) (ho : PE X o td) (hi : PE X i ty) (hv : PE X value tv) (hs : swapsWith value (some (.Subscript o i pos')) pos.line X.env = pure false) :
    PS X (.Assign [.Subscript o i pos'] value pos) (jDPut td ty tv) :=
  (ps_dput hu ho.cl hi.cl hv.cl hs).by fun D σ H q => ⟨_, q, fun v H1 k => ⟨_, k, fun x H2 k => ⟨_, k, fun y H3 ⟨a, kvs, k, e1, h1, e2, z, q⟩ => ⟨a, _, e1, by rw [e2]; exact DPut.k h1 (lt_line z), q⟩⟩⟩⟩
def jDPutT (td ty tv : TE) : TS := fun D σ H => tv σ H fun v H1 => td σ H1 fun x H2 => ty σ H2 fun y H3 => ∃ a kvs b m n, x = .ref a ∧ H3 a = some (.dT kvs) ∧ y = .ref b ∧ H3 b = some (.tup [.int m, .int n]) ∧ kvs.length ≤ 100000 ∧ D.nx σ (upd H3 a (.dT (putK kvs (keyP (m, n)) v)))
@[simp] theorem j_dputT {tv : TE} {D : Ends} {σ : L2.St} {H : Hp} : jDPutT td ty tv D σ H = tv σ H fun v H1 => td σ H1 fun x H2 => ty σ H2 fun y H3 => ∃ a kvs b m n, x = .ref a ∧ H3 a = some (.dT kvs) ∧ y = .ref b ∧ H3 b = some (.tup [.int m, .int n]) ∧ kvs.length ≤ 100000 ∧ D.nx σ (upd H3 a (.dT (putK kvs (keyP (m, n)) v))) := rfl
theorem ps_dputT {tv : TE} {pos' : Pos} (hu : X.A.units + 1 < cLine) (ho : PE X o td) (hi : PE X i ty) (hv : PE X value tv) (hs : swapsWith value (some (.Subscript o i pos')) pos.line X.env = pure false) :
    PS X (.Assign [.Subscript o i pos'] value pos) (jDPutT td ty tv) :=
  (ps_dput hu ho.cl hi.cl hv.cl hs).by fun D σ H q => ⟨_, q, fun v H1 k => ⟨_, k, fun x H2 k => ⟨_, k, fun y H3 ⟨a, kvs, b, m, n, e1, h1, e2, h2, z, q⟩ => ⟨a, _, e1, by rw [e2]; exact DPut.t (k := keyP (m, n)) h1 h2 (lt_line z), q⟩⟩⟩⟩
@[simp] theorem j_ddel {D : Ends} {σ : L2.St} {H : Hp} : sDDel td ty D σ H = td σ H fun x H1 => ty σ H1 fun y H2 => ∃ a kvs k, x = .ref a ∧ H2 a = some (.dK kvs) ∧ y = kV k ∧ (valV kvs k).isSome = true ∧ D.nx σ (upd H2 a (.dK (dropK kvs k))) := rfl

/-! calls of built-ins by values -/
def tyN (H : Hp) : V → Option String
  | .non => some "NoneType"
  | .bl _ => some "bool"
  | .int _ => some "int"
  | .str _ => some "str"
  | .ref a => match H a with
    | some (.lst _) => some "list"
    | some (.tup _) => some "tuple"
    | some (.dK _) => some "dict"
    | some (.dT _) => some "dict"
    | _ => none
  | _ => none
theorem tyN_of {K : PySem.W.Frag} {H : Hp} {x : V} {n : String} (h : tyN H x = some n) : TyX K H x (.type n) := by
  cases x with
  | non => cases h; exact .base .non
  | bl b => cases h; exact .base (.bl b)
  | int i => cases h; exact .base (.int i)
  | str s => cases h; exact .base (.str s)
  | byt b => cases h
  | flt b => cases h
  | ty n => cases h
  | ref a =>
    unfold tyN at h
    dsimp only at h
    split at h
    · rename_i e; cases h; exact .base (.lst e)
    · rename_i e; cases h; exact .base (.tup e)
    · rename_i e; cases h; exact .base (.dK e)
    · rename_i e; cases h; exact .base (.dT e)
    · cases h
def jIs : List V → Hp → VK → Prop := fun xs H Q => ∃ x n t b, xs = [x, .ty n] ∧ tyN H x = some t ∧ kitB t n = some b ∧ Q (.bl b) H
theorem call_isJ : CallR X (.builtin "isinstance") jIs := callBy call_isi fun xs H Q ⟨x, n, t, b, e1, e2, e3, q⟩ => ⟨x, .ty n, _, _, b, e1, .ty n, tyN_of e2, kit_ty e3, q⟩
def jLen : List V → Hp → VK → Prop := fun vs H Q => ∃ p xs, vs = [.ref p] ∧ H p = some (.lst xs) ∧ Q (.int xs.length) H
theorem call_lenJ : CallR X (.builtin "len") jLen := callBy call_len_seq fun vs H Q ⟨p, xs, e, h, q⟩ => ⟨p, xs, e, .inl (.inl (.inl h)), q⟩
def jLenT : List V → Hp → VK → Prop := fun vs H Q => ∃ p xs, vs = [.ref p] ∧ H p = some (.tup xs) ∧ Q (.int xs.length) H
theorem call_lenT : CallR X (.builtin "len") jLenT := callBy call_len_seq fun vs H Q ⟨p, xs, e, h, q⟩ => ⟨p, xs, e, .inr (.inl (.inl h)), q⟩
def jList : List V → Hp → VK → Prop := fun vs H Q => ∃ p xs, vs = [.ref p] ∧ (H p = some (.lst xs) ∨ H p = some (.tup xs)) ∧ ∀ l H2, H l = none → Ex H H2 → H2 l = some (.lst xs) → Q (.ref l) H2
theorem call_listJ : CallR X (.type "list") jList := callBy call_list_of fun vs H Q ⟨p, xs, e, h, q⟩ => ⟨p, xs, e, h.imp (fun h => .inl (.inl h)) (fun h => .inl (.inl h)), fun l hl => q l _ hl (Ex.new hl) upd_same⟩
@[simp] theorem kb_ii : kitB "int" "int" = some true := by decide +kernel
@[simp] theorem kb_bi : kitB "bool" "int" = some true := by decide +kernel
@[simp] theorem kb_bb : kitB "bool" "bool" = some true := by decide +kernel
@[simp] theorem kb_ib : kitB "int" "bool" = some false := by decide +kernel
@[simp] theorem kb_ni : kitB "NoneType" "int" = some false := by decide +kernel
@[simp] theorem kb_si : kitB "str" "int" = some false := by decide +kernel
@[simp] theorem kb_li : kitB "list" "int" = some false := by decide +kernel
@[simp] theorem kb_ti : kitB "tuple" "int" = some false := by decide +kernel
@[simp] theorem kb_di : kitB "dict" "int" = some false := by decide +kernel
@[simp] theorem kb_nb : kitB "NoneType" "bool" = some false := by decide +kernel
@[simp] theorem kb_sb : kitB "str" "bool" = some false := by decide +kernel
@[simp] theorem kb_lb : kitB "list" "bool" = some false := by decide +kernel
@[simp] theorem kb_tb : kitB "tuple" "bool" = some false := by decide +kernel
@[simp] theorem kb_db : kitB "dict" "bool" = some false := by decide +kernel
@[simp] theorem kb_ll : kitB "list" "list" = some true := by decide +kernel
@[simp] theorem kb_tt : kitB "tuple" "tuple" = some true := by decide +kernel
@[simp] theorem kb_it : kitB "int" "tuple" = some false := by decide +kernel
@[simp] theorem kb_bt : kitB "bool" "tuple" = some false := by decide +kernel
@[simp] theorem kb_nt : kitB "NoneType" "tuple" = some false := by decide +kernel
@[simp] theorem kb_st : kitB "str" "tuple" = some false := by decide +kernel
@[simp] theorem kb_lt : kitB "list" "tuple" = some false := by decide +kernel
@[simp] theorem kb_dt : kitB "dict" "tuple" = some false := by decide +kernel
@[simp] theorem kb_ss : kitB "str" "str" = some true := by decide +kernel
@[simp] theorem tyN_non {H : Hp} : tyN H .non = some "NoneType" := rfl
@[simp] theorem tyN_bl {H : Hp} {b : Bool} : tyN H (.bl b) = some "bool" := rfl
@[simp] theorem tyN_int {H : Hp} {b : Int} : tyN H (.int b) = some "int" := rfl
@[simp] theorem tyN_str {H : Hp} {b : Str} : tyN H (.str b) = some "str" := rfl
theorem tyN_lst {H : Hp} {a : Addr} {xs : List V} (h : H a = some (.lst xs)) : tyN H (.ref a) = some "list" := by simp [tyN, h]
theorem tyN_tup {H : Hp} {a : Addr} {xs : List V} (h : H a = some (.tup xs)) : tyN H (.ref a) = some "tuple" := by simp [tyN, h]
theorem tyN_dK {H : Hp} {a : Addr} {xs : List (Key × V)} (h : H a = some (.dK xs)) : tyN H (.ref a) = some "dict" := by simp [tyN, h]
@[simp] theorem j_is {x : V} {n : String} {H : Hp} {Q : VK} : jIs [x, .ty n] H Q = ∃ t b, tyN H x = some t ∧ kitB t n = some b ∧ Q (.bl b) H := propext ⟨fun ⟨_, _, t, b, e, h⟩ => by cases e; exact ⟨t, b, h⟩, fun ⟨t, b, h⟩ => ⟨_, _, t, b, rfl, h⟩⟩
@[simp] theorem j_len {p : Addr} {H : Hp} {Q : VK} : jLen [.ref p] H Q = ∃ xs, H p = some (.lst xs) ∧ Q (.int xs.length) H := by simp [jLen]
@[simp] theorem j_app {l : Addr} {y : V} {H : Hp} {Q : VK} : rAppend (.ref l) [y] H Q = ∃ xs, H l = some (.lst xs) ∧ xs.length < sizeLine ∧ Q .non (upd H l (.lst (xs ++ [y]))) := by simp [rAppend]
@[simp] theorem j_ixL {p : Addr} {i : Int} {H : Hp} {Q : VK} : jIxL (.ref p) (.int i) H Q = ∃ xs v, H p = some (.lst xs) ∧ 0 ≤ i ∧ xs[i.toNat]? = some v ∧ Q v H := by simp [jIxL]
@[simp] theorem j_ixT {p : Addr} {i : Int} {H : Hp} {Q : VK} : jIxT (.ref p) (.int i) H Q = ∃ xs v, H p = some (.tup xs) ∧ 0 ≤ i ∧ xs[i.toNat]? = some v ∧ Q v H := by simp [jIxT]

/-! methods of lists, targets that are pairs -/
def jBM (r : V → List V → Hp → VK → Prop) (to : TE) (tr : TA) : TE := fun σ H Q => to σ H fun x H1 => (∃ p xs, x = .ref p ∧ H1 p = some (.lst xs)) ∧ tr σ H1 fun vs H2 => r x vs H2 Q
@[simp] theorem j_bm {r : V → List V → Hp → VK → Prop} {to : TE} {tr : TA} {σ : L2.St} {H : Hp} {Q : VK} : jBM r to tr σ H Q = to σ H fun x H1 => (∃ p xs, x = .ref p ∧ H1 p = some (.lst xs)) ∧ tr σ H1 fun vs H2 => r x vs H2 Q := rfl
theorem pe_bmL {o e : Expr} {es : List Expr} {to : TE} {tr : TA} {name : Str} {apos cpos : Pos} {id : String} {r : V → List V → Hp → VK → Prop} (slot : Slot "list" name id) (hty : typeOf (.builtin id) = pure (.type "method_descriptor")) (hm : MtR X id r) (ho : PE X o to) (ha : PA X (e :: es) tr)
    (h1 : attributeBase o name X.env (eval o X.env) = eval o X.env := by rfl)
    (h2 : ((backTo cpos (starEach (e :: es) X.env)).all (fun x => !x.1) && (backToKw cpos (keywordEach [] X.env)).all (fun x => x.1.isSome) && decide ((e :: es).length + ([] : List Keyword).length + (if ([] : List Keyword).isEmpty then 0 else 1) < 30)) = true := by rfl)
    (h3 : (apos.endLine == cpos.line) = true := by rfl) (h4 : starEach (e :: es) X.env = (false, eval e X.env) :: starEach es X.env := by rfl) (h5 : (backTo cpos (starEach es X.env)).any (·.1) = false := by rfl) :
    PE X (.Call (.Attribute o name apos) (e :: es) [] cpos) (jBM r to tr) :=
  (pe_bm PySem.F.plainAttrs_list slot hty hm ho.cl ha h1 h2 h3 h4 h5).by fun σ H Q q => ⟨_, q, fun x H1 ⟨⟨p, xs, e, h⟩, k⟩ => ⟨by rw [e]; exact .inl ⟨rfl, xs, .inl (.inl h)⟩, k⟩⟩
def jBM0 (r : V → List V → Hp → VK → Prop) (to : TE) : TE := fun σ H Q => to σ H fun x H1 => (∃ p xs, x = .ref p ∧ H1 p = some (.lst xs)) ∧ r x [] H1 Q
@[simp] theorem j_bm0 {r : V → List V → Hp → VK → Prop} {to : TE} {σ : L2.St} {H : Hp} {Q : VK} : jBM0 r to σ H Q = to σ H fun x H1 => (∃ p xs, x = .ref p ∧ H1 p = some (.lst xs)) ∧ r x [] H1 Q := rfl
theorem pe_bmL0 {o : Expr} {to : TE} {name : Str} {apos cpos : Pos} {id : String} {r : V → List V → Hp → VK → Prop} (slot : Slot "list" name id) (hty : typeOf (.builtin id) = pure (.type "method_descriptor")) (hm : MtR X id r) (ho : PE X o to)
    (h1 : attributeBase o name X.env (eval o X.env) = eval o X.env := by rfl) (h2 : (apos.endLine == cpos.line) = true := by rfl) : PE X (.Call (.Attribute o name apos) [] [] cpos) (jBM0 r to) :=
  (pe_bm0 PySem.F.plainAttrs_list slot hty hm ho.cl h1 h2).by fun σ H Q q => ⟨_, q, fun x H1 ⟨⟨p, xs, e, h⟩, k⟩ => ⟨by rw [e]; exact .inl ⟨rfl, xs, .inl (.inl h)⟩, k⟩⟩
def jBMD (r : V → List V → Hp → VK → Prop) (to : TE) (tr : TA) : TE := fun σ H Q => to σ H fun x H1 => (∃ p xs, x = .ref p ∧ H1 p = some (.dT xs)) ∧ tr σ H1 fun vs H2 => r x vs H2 Q
@[simp] theorem j_bmd {r : V → List V → Hp → VK → Prop} {to : TE} {tr : TA} {σ : L2.St} {H : Hp} {Q : VK} : jBMD r to tr σ H Q = to σ H fun x H1 => (∃ p xs, x = .ref p ∧ H1 p = some (.dT xs)) ∧ tr σ H1 fun vs H2 => r x vs H2 Q := rfl
theorem pe_popT {o e : Expr} {to : TE} {tr : TA} {apos cpos : Pos} (hu : X.A.units + 1 < cLine) (ho : PE X o to) (ha : PA X [e] tr)
    (h1 : attributeBase o "pop" X.env (eval o X.env) = eval o X.env := by rfl)
    (h2 : ((backTo cpos (starEach [e] X.env)).all (fun x => !x.1) && (backToKw cpos (keywordEach [] X.env)).all (fun x => x.1.isSome) && decide ([e].length + ([] : List Keyword).length + (if ([] : List Keyword).isEmpty then 0 else 1) < 30)) = true := by rfl)
    (h3 : (apos.endLine == cpos.line) = true := by rfl) (h4 : starEach [e] X.env = (false, eval e X.env) :: starEach [] X.env := by rfl) (h5 : (backTo cpos (starEach [] X.env)).any (·.1) = false := by rfl) :
    PE X (.Call (.Attribute o "pop" apos) [e] [] cpos) (jBMD rPopT1 to tr) :=
  (pe_bm PySem.F.plainAttrs_dict PySem.F.slot_dict_pop PySem.F.type_dict_pop (mt_popT1 hu) ho.cl ha h1 h2 h3 h4 h5).by fun σ H Q q => ⟨_, q, fun x H1 ⟨⟨p, xs, e, h⟩, k⟩ => ⟨by rw [e]; exact .inr (.inr (.inl ⟨rfl, .inr ⟨xs, h⟩⟩)), k⟩⟩
def jTupG (n : Nat) (t : TGs) : TG := fun v σ H Q => ∃ a xs, v = .ref a ∧ H a = some (.tup xs) ∧ xs.length = n ∧ t xs σ H Q
@[simp] theorem j_tupG {n : Nat} {t : TGs} {a : Addr} {σ : L2.St} {H : Hp} {Q : L2.St → Hp → Prop} : jTupG n t (.ref a) σ H Q = ∃ xs, H a = some (.tup xs) ∧ xs.length = n ∧ t xs σ H Q := by simp [jTupG]
theorem pg_tupJ {es : List Expr} {k : Nat} {t : TGs} {n : Nat} {pos : Pos} (hc : X.calm = true) (h : PGs X es t) (hn : (assignEach es X.env).length = n := by rfl) (hst : (assignEach es X.env).findIdx? (·.1) = none := by rfl) : PG X (.Tuple es k pos) (jTupG n t) :=
  (pg_tup hc h hn hst).by fun v σ H Q ⟨a, xs, e, h, z, q⟩ => ⟨a, xs, e, .inl (.inl h), z, q⟩
end
/-- the statement ahead is read for any word that follows from Mid -/
theorem seq_by {t u : TS} {D : Ends} {σ : L2.St} {H : Hp} (Mid : L2.St → Hp → Prop) (h : ∀ N : L2.St → Hp → Prop, (∀ s1 H1, Mid s1 H1 → N s1 H1) → t { D with nx := N } σ H) (k : ∀ s1 H1, Mid s1 H1 → u D s1 H1) : tSeq t u D σ H := h (u D) k
/-! ## isinstance's answers from what the top says of the classes -/
theorem kit_ref {K : PySem.W.Frag} {D C : Addr} {b : Bool} (hd : PySem.W.hasDictIn K C = true) (ht : PySem.W.typeIn K (.ref C) = some (.type "type")) (hs : PySem.W.subIn K (.ref C) (.ref C) = some true) (h : PySem.W.subIn K (.ref D) (.ref C) = some b) :
    PySem.W.kitOne K (.ref D) (.ref C) = some b := by
  unfold PySem.W.kitOne
  by_cases e : D = C
  · subst e
    rw [hs] at h
    cases h
    simp
  · rw [if_neg (by simp [e])]
    obtain ⟨cd, hc, _⟩ := PySem.W.any_some hd
    show (if ((PySem.W.clsIn K C).isSome && PySem.W.typeIn K (.ref C) == some (.type "type")) = true then PySem.W.subIn K (.ref D) (.ref C) else none) = some b
    rw [hc, ht, if_pos (by rfl)]
    exact h
theorem kit_tyo {K : PySem.W.Frag} {D : Addr} {n : String} {b : Bool} (hm : PySem.W.kitMeta n = true) (h : PySem.W.subIn K (.ref D) (.type n) = some b) : PySem.W.kitOne K (.ref D) (.type n) = some b := by
  unfold PySem.W.kitOne
  rw [if_neg (by simp)]
  show (if PySem.W.kitMeta n = true then PySem.W.subIn K (.ref D) (.type n) else none) = some b
  rw [if_pos hm]
  exact h
section
variable {CX : CXT} {P : Program} {w : World} {K : PySem.W.Frag} {mg : Str → Option Value} {base : Heap} {N : List Str} {qual : Str} {scope : Scope} {f : Addr} {cd : Value} {A : Around} {outer : List Env} {s : Shared} {H : Hp} {E : XK}
@[simp] theorem cx_K : (cxOf CX P w K mg base N qual scope f cd A outer s H E).K = K := rfl
@[simp] theorem nox_K {X : Cx} : X.nox.K = X.K := rfl
end
end Jk

namespace Jk
open PySem L2 Evl
def top (i : Nat) : Stmt := PySem.Challenge.pw_joinside_k01_webs.main.body.getD i (.Pass ⟨0, 0, 0, 0⟩)

abbrev s_whole_within : Stmt := top 12
theorem sc_whole_within : FnScope ["number", "least", "most"] ["number", "least", "most"] (defScope s_whole_within) := ⟨rfl, rfl, rfl, by decide +kernel, rfl, by decide +kernel, by decide +kernel⟩

abbrev s_pairs : Stmt := top 13
theorem sc_pairs : FnScope ["many", "one", "other"] ["many"] (defScope s_pairs) := ⟨rfl, rfl, rfl, by decide +kernel, rfl, by decide +kernel, by decide +kernel⟩

abbrev s_Web_init : Stmt := inClass (top 14) 0
theorem sc_Web_init : FnScope ["self", "many", "point"] ["self", "many"] (defScope s_Web_init) := ⟨rfl, rfl, rfl, by decide +kernel, rfl, by decide +kernel, by decide +kernel⟩

abbrev s_Web_many : Stmt := inClass (top 14) 1
theorem sc_Web_many : FnScope ["self"] ["self"] (defScope s_Web_many) := ⟨rfl, rfl, rfl, by decide +kernel, rfl, by decide +kernel, by decide +kernel⟩

abbrev s_Web_has : Stmt := inClass (top 14) 2
theorem sc_Web_has : FnScope ["self", "one", "other"] ["self", "one", "other"] (defScope s_Web_has) := ⟨rfl, rfl, rfl, by decide +kernel, rfl, by decide +kernel, by decide +kernel⟩

abbrev s_Web_put : Stmt := inClass (top 14) 3
theorem sc_Web_put : FnScope ["self", "one", "other"] ["self", "one", "other"] (defScope s_Web_put) := ⟨rfl, rfl, rfl, by decide +kernel, rfl, by decide +kernel, by decide +kernel⟩

abbrev s_Web_take : Stmt := inClass (top 14) 4
theorem sc_Web_take : FnScope ["self", "one", "other"] ["self", "one", "other"] (defScope s_Web_take) := ⟨rfl, rfl, rfl, by decide +kernel, rfl, by decide +kernel, by decide +kernel⟩

abbrev s_Web_grow : Stmt := inClass (top 14) 5
theorem sc_Web_grow : FnScope ["self", "number"] ["self"] (defScope s_Web_grow) := ⟨rfl, rfl, rfl, by decide +kernel, rfl, by decide +kernel, by decide +kernel⟩

abbrev s_Web_beside : Stmt := inClass (top 14) 6
theorem sc_Web_beside : FnScope ["self", "point"] ["self", "point"] (defScope s_Web_beside) := ⟨rfl, rfl, rfl, by decide +kernel, rfl, by decide +kernel, by decide +kernel⟩

abbrev s_Web_ties : Stmt := inClass (top 14) 7
theorem sc_Web_ties : FnScope ["self", "one", "other"] ["self"] (defScope s_Web_ties) := ⟨rfl, rfl, rfl, by decide +kernel, rfl, by decide +kernel, by decide +kernel⟩

abbrev s_Web_need_point : Stmt := inClass (top 14) 8
theorem sc_Web_need_point : FnScope ["self", "point"] ["self", "point"] (defScope s_Web_need_point) := ⟨rfl, rfl, rfl, by decide +kernel, rfl, by decide +kernel, by decide +kernel⟩

abbrev s_l_mixed : Stmt := top 16
theorem sc_l_mixed : FnScope ["_law_cell", "_law_k", "_law_number_here"] ["_law_cell", "_law_k"] (defScope s_l_mixed) := ⟨rfl, rfl, rfl, by decide +kernel, rfl, by decide +kernel, by decide +kernel⟩

abbrev s_l_number : Stmt := top 17
theorem sc_l_number : FnScope ["_law_script", "_law_k", "_law_cell"] ["_law_script", "_law_k"] (defScope s_l_number) := ⟨rfl, rfl, rfl, by decide +kernel, rfl, by decide +kernel, by decide +kernel⟩

abbrev s_l_kind : Stmt := top 18
theorem sc_l_kind : FnScope ["_law_e", "_law_found"] ["_law_e"] (defScope s_l_kind) := ⟨rfl, rfl, rfl, by decide +kernel, rfl, by decide +kernel, by decide +kernel⟩

abbrev s_l_whole : Stmt := top 19
theorem sc_l_whole : FnScope ["_law_thing"] ["_law_thing"] (defScope s_l_whole) := ⟨rfl, rfl, rfl, by decide +kernel, rfl, by decide +kernel, by decide +kernel⟩

abbrev s_l_is_point : Stmt := top 20
theorem sc_l_is_point : FnScope ["_law_own", "_law_thing"] ["_law_own", "_law_thing"] (defScope s_l_is_point) := ⟨rfl, rfl, rfl, by decide +kernel, rfl, by decide +kernel, by decide +kernel⟩

abbrev s_l_due : Stmt := top 21
theorem sc_l_due : FnScope ["_law_own", "_law_word", "_law_one", "_law_other", "_law_is_there"] ["_law_own", "_law_word", "_law_one", "_law_other"] (defScope s_l_due) := ⟨rfl, rfl, rfl, by decide +kernel, rfl, by decide +kernel, by decide +kernel⟩

abbrev s_l_call : Stmt := top 22
theorem sc_l_call : FnScope ["_law_web", "_law_word", "_law_one", "_law_other"] ["_law_web", "_law_word", "_law_one", "_law_other"] (defScope s_l_call) := ⟨rfl, rfl, rfl, by decide +kernel, rfl, by decide +kernel, by decide +kernel⟩

abbrev s_l_said : Stmt := top 23
theorem sc_l_said : FnScope ["_law_web", "_law_word", "_law_one", "_law_other", "_law_error", "_law_told", "_law_e"] ["_law_web", "_law_word", "_law_one", "_law_other"] (defScope s_l_said) := ⟨rfl, rfl, rfl, by decide +kernel, rfl, by decide +kernel, by decide +kernel⟩

abbrev s_l_done : Stmt := top 24
theorem sc_l_done : FnScope ["_law_web", "_law_own", "_law_word", "_law_one", "_law_other", "_law_due_here", "_law_kind_here", "_law_told", "_law_tie"] ["_law_web", "_law_own", "_law_word", "_law_one", "_law_other"] (defScope s_l_done) := ⟨rfl, rfl, rfl, by decide +kernel, rfl, by decide +kernel, by decide +kernel⟩

abbrev s_l_beside_refused : Stmt := top 25
theorem sc_l_beside_refused : FnScope ["_law_web", "_law_thing", "_law_error", "_law_e"] ["_law_web", "_law_thing"] (defScope s_l_beside_refused) := ⟨rfl, rfl, rfl, by decide +kernel, rfl, by decide +kernel, by decide +kernel⟩

abbrev s_l_looked : Stmt := top 26
theorem sc_l_looked : FnScope ["_law_web", "_law_own", "_law_point", "_law_held", "_law_near", "_law_told", "_law_found", "_law_due_here", "_law_one", "_law_other"] ["_law_web", "_law_own", "_law_point", "_law_held"] (defScope s_l_looked) := ⟨rfl, rfl, rfl, by decide +kernel, rfl, by decide +kernel, by decide +kernel⟩

abbrev s_l_size_refused : Stmt := top 27
theorem sc_l_size_refused : FnScope ["_law_thing", "_law_error", "_law_e"] ["_law_thing"] (defScope s_l_size_refused) := ⟨rfl, rfl, rfl, by decide +kernel, rfl, by decide +kernel, by decide +kernel⟩

abbrev s_law : Stmt := top 28
theorem sc_law : FnScope ["_law_script", "_law_webs", "_law_owns", "_law_k", "_law_number_here", "_law_many", "_law_held", "_law_cell", "_law_more", "_law_which", "_law_own", "_law_one", "_law_other", "_law_odd", "_law_pair", "_law_word", "_law_far"] ["_law_script"] (defScope s_law) := ⟨rfl, rfl, rfl, by decide +kernel, rfl, by decide +kernel, by decide +kernel⟩

structure Adr where
  a_whole_within : Addr
  d_whole_within : FuncData
  a_pairs : Addr
  d_pairs : FuncData
  a_Web_init : Addr
  d_Web_init : FuncData
  a_Web_many : Addr
  d_Web_many : FuncData
  a_Web_has : Addr
  d_Web_has : FuncData
  a_Web_put : Addr
  d_Web_put : FuncData
  a_Web_take : Addr
  d_Web_take : FuncData
  a_Web_grow : Addr
  d_Web_grow : FuncData
  a_Web_beside : Addr
  d_Web_beside : FuncData
  a_Web_ties : Addr
  d_Web_ties : FuncData
  a_Web_need_point : Addr
  d_Web_need_point : FuncData
  a_l_mixed : Addr
  d_l_mixed : FuncData
  a_l_number : Addr
  d_l_number : FuncData
  a_l_kind : Addr
  d_l_kind : FuncData
  a_l_whole : Addr
  d_l_whole : FuncData
  a_l_is_point : Addr
  d_l_is_point : FuncData
  a_l_due : Addr
  d_l_due : FuncData
  a_l_call : Addr
  d_l_call : FuncData
  a_l_said : Addr
  d_l_said : FuncData
  a_l_done : Addr
  d_l_done : FuncData
  a_l_beside_refused : Addr
  d_l_beside_refused : FuncData
  a_l_looked : Addr
  d_l_looked : FuncData
  a_l_size_refused : Addr
  d_l_size_refused : FuncData
  a_law : Addr
  d_law : FuncData
  c_BadPoint : Addr
  c_BadSize : Addr
  c_BadText : Addr
  c_BadTree : Addr
  c_JoinError : Addr
  c_NoTie : Addr
  c_NoTree : Addr
  c_TooMany : Addr
  c_Twice : Addr
  c_Web : Addr

structure Txt (K : PySem.W.Frag) (mg : Str → Option Value) (A : Adr) : Prop where
  g_whole_within : mg "whole_within" = some (.ref A.a_whole_within)
  k_whole_within : PySem.W.keepIn K (.ref A.a_whole_within) = true
  b_whole_within : L2.Binds K A.d_whole_within ["number", "least", "most"] []
  F_whole_within : Fun K "whole_within" "whole_within" s_whole_within A.a_whole_within A.d_whole_within
  g_pairs : mg "pairs" = some (.ref A.a_pairs)
  k_pairs : PySem.W.keepIn K (.ref A.a_pairs) = true
  b_pairs : L2.Binds K A.d_pairs ["many"] []
  F_pairs : Fun K "pairs" "pairs" s_pairs A.a_pairs A.d_pairs
  b_Web_init : L2.Binds K A.d_Web_init ["self", "many"] []
  F_Web_init : Fun K "__init__" "Web.__init__" s_Web_init A.a_Web_init A.d_Web_init
  m_Web_many : Meth K A.c_Web "many" A.a_Web_many
  b_Web_many : L2.Binds K A.d_Web_many ["self"] []
  F_Web_many : Fun K "many" "Web.many" s_Web_many A.a_Web_many A.d_Web_many
  m_Web_has : Meth K A.c_Web "has" A.a_Web_has
  b_Web_has : L2.Binds K A.d_Web_has ["self", "one", "other"] []
  F_Web_has : Fun K "has" "Web.has" s_Web_has A.a_Web_has A.d_Web_has
  m_Web_put : Meth K A.c_Web "put" A.a_Web_put
  b_Web_put : L2.Binds K A.d_Web_put ["self", "one", "other"] []
  F_Web_put : Fun K "put" "Web.put" s_Web_put A.a_Web_put A.d_Web_put
  m_Web_take : Meth K A.c_Web "take" A.a_Web_take
  b_Web_take : L2.Binds K A.d_Web_take ["self", "one", "other"] []
  F_Web_take : Fun K "take" "Web.take" s_Web_take A.a_Web_take A.d_Web_take
  m_Web_grow : Meth K A.c_Web "grow" A.a_Web_grow
  b_Web_grow : L2.Binds K A.d_Web_grow ["self"] []
  F_Web_grow : Fun K "grow" "Web.grow" s_Web_grow A.a_Web_grow A.d_Web_grow
  m_Web_beside : Meth K A.c_Web "beside" A.a_Web_beside
  b_Web_beside : L2.Binds K A.d_Web_beside ["self", "point"] []
  F_Web_beside : Fun K "beside" "Web.beside" s_Web_beside A.a_Web_beside A.d_Web_beside
  m_Web_ties : Meth K A.c_Web "ties" A.a_Web_ties
  b_Web_ties : L2.Binds K A.d_Web_ties ["self"] []
  F_Web_ties : Fun K "ties" "Web.ties" s_Web_ties A.a_Web_ties A.d_Web_ties
  m_Web_need_point : Meth K A.c_Web "_need_point" A.a_Web_need_point
  b_Web_need_point : L2.Binds K A.d_Web_need_point ["self", "point"] []
  F_Web_need_point : Fun K "_need_point" "Web._need_point" s_Web_need_point A.a_Web_need_point A.d_Web_need_point
  g_l_mixed : mg "_law_mixed" = some (.ref A.a_l_mixed)
  k_l_mixed : PySem.W.keepIn K (.ref A.a_l_mixed) = true
  b_l_mixed : L2.Binds K A.d_l_mixed ["_law_cell", "_law_k"] []
  F_l_mixed : Fun K "_law_mixed" "_law_mixed" s_l_mixed A.a_l_mixed A.d_l_mixed
  g_l_number : mg "_law_number" = some (.ref A.a_l_number)
  k_l_number : PySem.W.keepIn K (.ref A.a_l_number) = true
  b_l_number : L2.Binds K A.d_l_number ["_law_script", "_law_k"] []
  F_l_number : Fun K "_law_number" "_law_number" s_l_number A.a_l_number A.d_l_number
  g_l_kind : mg "_law_kind" = some (.ref A.a_l_kind)
  k_l_kind : PySem.W.keepIn K (.ref A.a_l_kind) = true
  b_l_kind : L2.Binds K A.d_l_kind ["_law_e"] []
  F_l_kind : Fun K "_law_kind" "_law_kind" s_l_kind A.a_l_kind A.d_l_kind
  g_l_whole : mg "_law_whole" = some (.ref A.a_l_whole)
  k_l_whole : PySem.W.keepIn K (.ref A.a_l_whole) = true
  b_l_whole : L2.Binds K A.d_l_whole ["_law_thing"] []
  F_l_whole : Fun K "_law_whole" "_law_whole" s_l_whole A.a_l_whole A.d_l_whole
  g_l_is_point : mg "_law_is_point" = some (.ref A.a_l_is_point)
  k_l_is_point : PySem.W.keepIn K (.ref A.a_l_is_point) = true
  b_l_is_point : L2.Binds K A.d_l_is_point ["_law_own", "_law_thing"] []
  F_l_is_point : Fun K "_law_is_point" "_law_is_point" s_l_is_point A.a_l_is_point A.d_l_is_point
  g_l_due : mg "_law_due" = some (.ref A.a_l_due)
  k_l_due : PySem.W.keepIn K (.ref A.a_l_due) = true
  b_l_due : L2.Binds K A.d_l_due ["_law_own", "_law_word", "_law_one", "_law_other"] []
  F_l_due : Fun K "_law_due" "_law_due" s_l_due A.a_l_due A.d_l_due
  g_l_call : mg "_law_call" = some (.ref A.a_l_call)
  k_l_call : PySem.W.keepIn K (.ref A.a_l_call) = true
  b_l_call : L2.Binds K A.d_l_call ["_law_web", "_law_word", "_law_one", "_law_other"] []
  F_l_call : Fun K "_law_call" "_law_call" s_l_call A.a_l_call A.d_l_call
  g_l_said : mg "_law_said" = some (.ref A.a_l_said)
  k_l_said : PySem.W.keepIn K (.ref A.a_l_said) = true
  b_l_said : L2.Binds K A.d_l_said ["_law_web", "_law_word", "_law_one", "_law_other"] []
  F_l_said : Fun K "_law_said" "_law_said" s_l_said A.a_l_said A.d_l_said
  g_l_done : mg "_law_done" = some (.ref A.a_l_done)
  k_l_done : PySem.W.keepIn K (.ref A.a_l_done) = true
  b_l_done : L2.Binds K A.d_l_done ["_law_web", "_law_own", "_law_word", "_law_one", "_law_other"] []
  F_l_done : Fun K "_law_done" "_law_done" s_l_done A.a_l_done A.d_l_done
  g_l_beside_refused : mg "_law_beside_refused" = some (.ref A.a_l_beside_refused)
  k_l_beside_refused : PySem.W.keepIn K (.ref A.a_l_beside_refused) = true
  b_l_beside_refused : L2.Binds K A.d_l_beside_refused ["_law_web", "_law_thing"] []
  F_l_beside_refused : Fun K "_law_beside_refused" "_law_beside_refused" s_l_beside_refused A.a_l_beside_refused A.d_l_beside_refused
  g_l_looked : mg "_law_looked" = some (.ref A.a_l_looked)
  k_l_looked : PySem.W.keepIn K (.ref A.a_l_looked) = true
  b_l_looked : L2.Binds K A.d_l_looked ["_law_web", "_law_own", "_law_point", "_law_held"] []
  F_l_looked : Fun K "_law_looked" "_law_looked" s_l_looked A.a_l_looked A.d_l_looked
  g_l_size_refused : mg "_law_size_refused" = some (.ref A.a_l_size_refused)
  k_l_size_refused : PySem.W.keepIn K (.ref A.a_l_size_refused) = true
  b_l_size_refused : L2.Binds K A.d_l_size_refused ["_law_thing"] []
  F_l_size_refused : Fun K "_law_size_refused" "_law_size_refused" s_l_size_refused A.a_l_size_refused A.d_l_size_refused
  g_law : mg "law" = some (.ref A.a_law)
  k_law : PySem.W.keepIn K (.ref A.a_law) = true
  b_law : L2.Binds K A.d_law ["_law_script"] []
  F_law : Fun K "law" "law" s_law A.a_law A.d_law
  cl_Web : Cls K A.c_Web
  mk_Web : Mk K A.c_Web A.a_Web_init
  n_Web__near : NoAttr K A.c_Web "_near"
  gBadPoint : mg "BadPoint" = some (.ref A.c_BadPoint)
  gBadSize : mg "BadSize" = some (.ref A.c_BadSize)
  gBadText : mg "BadText" = some (.ref A.c_BadText)
  gBadTree : mg "BadTree" = some (.ref A.c_BadTree)
  gJoinError : mg "JoinError" = some (.ref A.c_JoinError)
  gNoTie : mg "NoTie" = some (.ref A.c_NoTie)
  gNoTree : mg "NoTree" = some (.ref A.c_NoTree)
  gTooMany : mg "TooMany" = some (.ref A.c_TooMany)
  gTwice : mg "Twice" = some (.ref A.c_Twice)
  gWeb : mg "Web" = some (.ref A.c_Web)
  xBadSize : PySem.W.excIn K A.c_BadSize [.type "ValueError", .type "Exception", .type "BaseException", .type "object"] "ValueError.__new__" = true
  kBadSize : PySem.W.keepIn K (.ref A.c_BadSize) = true
  bBadSize : PySem.W.subIn K (.ref A.c_BadSize) (.type "BaseException") = some true
  tBadSize : PySem.W.typeIn K (.ref A.c_BadSize) = some (.type "type")
  xBadPoint : PySem.W.excIn K A.c_BadPoint [.type "ValueError", .type "Exception", .type "BaseException", .type "object"] "ValueError.__new__" = true
  kBadPoint : PySem.W.keepIn K (.ref A.c_BadPoint) = true
  bBadPoint : PySem.W.subIn K (.ref A.c_BadPoint) (.type "BaseException") = some true
  tBadPoint : PySem.W.typeIn K (.ref A.c_BadPoint) = some (.type "type")
  xTwice : PySem.W.excIn K A.c_Twice [.type "ValueError", .type "Exception", .type "BaseException", .type "object"] "ValueError.__new__" = true
  kTwice : PySem.W.keepIn K (.ref A.c_Twice) = true
  bTwice : PySem.W.subIn K (.ref A.c_Twice) (.type "BaseException") = some true
  tTwice : PySem.W.typeIn K (.ref A.c_Twice) = some (.type "type")
  xNoTie : PySem.W.excIn K A.c_NoTie [.type "ValueError", .type "Exception", .type "BaseException", .type "object"] "ValueError.__new__" = true
  kNoTie : PySem.W.keepIn K (.ref A.c_NoTie) = true
  bNoTie : PySem.W.subIn K (.ref A.c_NoTie) (.type "BaseException") = some true
  tNoTie : PySem.W.typeIn K (.ref A.c_NoTie) = some (.type "type")
  xTooMany : PySem.W.excIn K A.c_TooMany [.type "ValueError", .type "Exception", .type "BaseException", .type "object"] "ValueError.__new__" = true
  kTooMany : PySem.W.keepIn K (.ref A.c_TooMany) = true
  bTooMany : PySem.W.subIn K (.ref A.c_TooMany) (.type "BaseException") = some true
  tTooMany : PySem.W.typeIn K (.ref A.c_TooMany) = some (.type "type")
  hb_JoinError : PySem.W.subIn K (.ref A.c_JoinError) (.type "BaseException") = some true
  hd_JoinError : PySem.W.hasDictIn K A.c_JoinError = true
  ht_JoinError : PySem.W.typeIn K (.ref A.c_JoinError) = some (.type "type")
  su_BadSize_JoinError : PySem.W.subIn K (.ref A.c_BadSize) (.ref A.c_JoinError) = some true
  su_BadPoint_JoinError : PySem.W.subIn K (.ref A.c_BadPoint) (.ref A.c_JoinError) = some true
  su_Twice_JoinError : PySem.W.subIn K (.ref A.c_Twice) (.ref A.c_JoinError) = some true
  su_NoTie_JoinError : PySem.W.subIn K (.ref A.c_NoTie) (.ref A.c_JoinError) = some true
  su_TooMany_JoinError : PySem.W.subIn K (.ref A.c_TooMany) (.ref A.c_JoinError) = some true
  ec_BadSize : ExcC K A.c_BadSize
  is_BadSize_BadSize : PySem.W.kitOne K (.ref A.c_BadSize) (.ref A.c_BadSize) = some true
  is_BadSize_BadPoint : PySem.W.kitOne K (.ref A.c_BadSize) (.ref A.c_BadPoint) = some false
  is_BadSize_Twice : PySem.W.kitOne K (.ref A.c_BadSize) (.ref A.c_Twice) = some false
  is_BadSize_NoTie : PySem.W.kitOne K (.ref A.c_BadSize) (.ref A.c_NoTie) = some false
  is_BadSize_TooMany : PySem.W.kitOne K (.ref A.c_BadSize) (.ref A.c_TooMany) = some false
  is_BadSize_NoTree : PySem.W.kitOne K (.ref A.c_BadSize) (.ref A.c_NoTree) = some false
  is_BadSize_BadTree : PySem.W.kitOne K (.ref A.c_BadSize) (.ref A.c_BadTree) = some false
  is_BadSize_BadText : PySem.W.kitOne K (.ref A.c_BadSize) (.ref A.c_BadText) = some false
  is_BadSize_ValueError : PySem.W.kitOne K (.ref A.c_BadSize) (.type "ValueError") = some true
  ec_BadPoint : ExcC K A.c_BadPoint
  is_BadPoint_BadSize : PySem.W.kitOne K (.ref A.c_BadPoint) (.ref A.c_BadSize) = some false
  is_BadPoint_BadPoint : PySem.W.kitOne K (.ref A.c_BadPoint) (.ref A.c_BadPoint) = some true
  is_BadPoint_Twice : PySem.W.kitOne K (.ref A.c_BadPoint) (.ref A.c_Twice) = some false
  is_BadPoint_NoTie : PySem.W.kitOne K (.ref A.c_BadPoint) (.ref A.c_NoTie) = some false
  is_BadPoint_TooMany : PySem.W.kitOne K (.ref A.c_BadPoint) (.ref A.c_TooMany) = some false
  is_BadPoint_NoTree : PySem.W.kitOne K (.ref A.c_BadPoint) (.ref A.c_NoTree) = some false
  is_BadPoint_BadTree : PySem.W.kitOne K (.ref A.c_BadPoint) (.ref A.c_BadTree) = some false
  is_BadPoint_BadText : PySem.W.kitOne K (.ref A.c_BadPoint) (.ref A.c_BadText) = some false
  is_BadPoint_ValueError : PySem.W.kitOne K (.ref A.c_BadPoint) (.type "ValueError") = some true
  ec_Twice : ExcC K A.c_Twice
  is_Twice_BadSize : PySem.W.kitOne K (.ref A.c_Twice) (.ref A.c_BadSize) = some false
  is_Twice_BadPoint : PySem.W.kitOne K (.ref A.c_Twice) (.ref A.c_BadPoint) = some false
  is_Twice_Twice : PySem.W.kitOne K (.ref A.c_Twice) (.ref A.c_Twice) = some true
  is_Twice_NoTie : PySem.W.kitOne K (.ref A.c_Twice) (.ref A.c_NoTie) = some false
  is_Twice_TooMany : PySem.W.kitOne K (.ref A.c_Twice) (.ref A.c_TooMany) = some false
  is_Twice_NoTree : PySem.W.kitOne K (.ref A.c_Twice) (.ref A.c_NoTree) = some false
  is_Twice_BadTree : PySem.W.kitOne K (.ref A.c_Twice) (.ref A.c_BadTree) = some false
  is_Twice_BadText : PySem.W.kitOne K (.ref A.c_Twice) (.ref A.c_BadText) = some false
  is_Twice_ValueError : PySem.W.kitOne K (.ref A.c_Twice) (.type "ValueError") = some true
  ec_NoTie : ExcC K A.c_NoTie
  is_NoTie_BadSize : PySem.W.kitOne K (.ref A.c_NoTie) (.ref A.c_BadSize) = some false
  is_NoTie_BadPoint : PySem.W.kitOne K (.ref A.c_NoTie) (.ref A.c_BadPoint) = some false
  is_NoTie_Twice : PySem.W.kitOne K (.ref A.c_NoTie) (.ref A.c_Twice) = some false
  is_NoTie_NoTie : PySem.W.kitOne K (.ref A.c_NoTie) (.ref A.c_NoTie) = some true
  is_NoTie_TooMany : PySem.W.kitOne K (.ref A.c_NoTie) (.ref A.c_TooMany) = some false
  is_NoTie_NoTree : PySem.W.kitOne K (.ref A.c_NoTie) (.ref A.c_NoTree) = some false
  is_NoTie_BadTree : PySem.W.kitOne K (.ref A.c_NoTie) (.ref A.c_BadTree) = some false
  is_NoTie_BadText : PySem.W.kitOne K (.ref A.c_NoTie) (.ref A.c_BadText) = some false
  is_NoTie_ValueError : PySem.W.kitOne K (.ref A.c_NoTie) (.type "ValueError") = some true
  ec_TooMany : ExcC K A.c_TooMany
  is_TooMany_BadSize : PySem.W.kitOne K (.ref A.c_TooMany) (.ref A.c_BadSize) = some false
  is_TooMany_BadPoint : PySem.W.kitOne K (.ref A.c_TooMany) (.ref A.c_BadPoint) = some false
  is_TooMany_Twice : PySem.W.kitOne K (.ref A.c_TooMany) (.ref A.c_Twice) = some false
  is_TooMany_NoTie : PySem.W.kitOne K (.ref A.c_TooMany) (.ref A.c_NoTie) = some false
  is_TooMany_TooMany : PySem.W.kitOne K (.ref A.c_TooMany) (.ref A.c_TooMany) = some true
  is_TooMany_NoTree : PySem.W.kitOne K (.ref A.c_TooMany) (.ref A.c_NoTree) = some false
  is_TooMany_BadTree : PySem.W.kitOne K (.ref A.c_TooMany) (.ref A.c_BadTree) = some false
  is_TooMany_BadText : PySem.W.kitOne K (.ref A.c_TooMany) (.ref A.c_BadText) = some false
  is_TooMany_ValueError : PySem.W.kitOne K (.ref A.c_TooMany) (.type "ValueError") = some true
  ValueError : mg "ValueError" = none
  bool : mg "bool" = none
  int : mg "int" = none
  isinstance : mg "isinstance" = none
  len : mg "len" = none
  list : mg "list" = none
  max : mg "max" = none
  min : mg "min" = none
  range : mg "range" = none
  repr : mg "repr" = none
  sorted : mg "sorted" = none
  zip : mg "zip" = none
  cMOST_POINTS : ∃ t, mg "MOST_POINTS" = some (.int (30) t)

end Jk

namespace Jk
open PySem L2 Evl
/-! ## numbers -/
def mixN (c k : Int) : Int := (c % 1000000007 + 7919 * k * k + 31 * k + 17) * 48271 % 2147483647
def mixed (c k : Int) : Int := mixN c k * (mixN c k % 65521 + 16807) % 2147483629 / 4
theorem mixed_nn (c k : Int) : 0 ≤ mixed c k := by unfold mixed; omega
theorem mixed_lt (c k : Int) : mixed c k < 600000000 := by unfold mixed; omega
def spMixed : Sp := fun vs H Q _ => ∃ (c k : Int), vs = [.int c, .int k] ∧ (0 ≤ k ∧ k ≤ 100000) ∧ Q (.int (mixed c k)) H
def cellAt (ns : List Int) (k : Int) : Int := if ns.length = 0 then 0 else ns.getD (k % (ns.length : Int)).toNat 0
def num (ns : List Int) (k : Int) : Int := mixed (cellAt ns k) k
theorem cell_ix {ns : List Int} {k : Int} (h : 0 < ns.length) (hk : 0 ≤ k) : (ns.map V.int)[(k % (ns.length : Int)).toNat]? = some (.int (cellAt ns k)) := by
  have h1 : (k % (ns.length : Int)).toNat < ns.length := by
    have a := Int.emod_lt_of_pos k (show (0 : Int) < ns.length by omega)
    have b := Int.emod_nonneg k (show (ns.length : Int) ≠ 0 by omega)
    omega
  unfold cellAt
  rw [if_neg (by omega), List.getElem?_map, List.getD_eq_getElem?_getD, List.getElem?_eq_getElem h1]
  rfl
def spNumber (K : PySem.W.Frag) : Sp := fun vs H Q _ => ∃ (a : Addr) (ns : List Int) (k : Int), vs = [.ref a, .int k] ∧ SqL K H a (ns.map V.int) ∧ (0 ≤ k ∧ k ≤ 100000) ∧ Q (.int (num ns k)) H
section
variable {P : Program} {w : World} {K : PySem.W.Frag} {mg : Str → Option Value} {base : Heap} {A : Adr}
theorem ok_l_mixed (T : Txt K mg A) : FnOk P w K mg base CX0 1 A.a_l_mixed A.d_l_mixed ["_law_cell", "_law_k"] spMixed := by
  refine T.F_l_mixed.ok sc_l_mixed (fun vs H Q E h => ?_) (fun cdv C outer s H vs Q E hr h => ?_)
  · obtain ⟨c, k, rfl, _⟩ := h
    rfl
  · obtain ⟨c, k, rfl, hk, q⟩ := h
    refine ⟨_, (pss_cons (ps_set (i := 2) sc_l_mixed.nd rfl (Or.inl rfl) (pe_op op_mod (pe_op op_mul (pe_op op_add (pe_op op_add (pe_op op_add (pe_op op_mod (pv 0) pe_int) (pe_op op_mul (pe_op op_mul pe_int (pv 1)) (pv 1))) (pe_op op_mul pe_int (pv 1))) pe_int) pe_int) pe_int))
  (pss_one (ps_ret (pe_op op_fdiv (pe_op op_mod (pe_op op_mul (pv 2) (pe_op op_add (pe_op op_mod (pv 2) pe_int) pe_int)) pe_int) pe_int)))), ?_⟩
    have e : mixN c k = (c % 1000000007 + 7919 * k * k + 31 * k + 17) * 48271 % 2147483647 := rfl
    simp [L2.start, CMul, CDiv, ← e]
    refine ⟨?_, ?_, q⟩ <;> omega
theorem ok_l_number (T : Txt K mg A) : FnOk P w K mg base CX0 2 A.a_l_number A.d_l_number ["_law_script", "_law_k"] (spNumber K) := by
  refine T.F_l_number.ok sc_l_number (fun vs H Q E h => ?_) (fun cdv C outer s H vs Q E hr h => ?_)
  · obtain ⟨a, ns, k, rfl, _⟩ := h
    rfl
  · obtain ⟨a, ns, k, rfl, hS, hk, q⟩ := h
    refine ⟨_, (pss_cons (ps_set (i := 2) sc_l_number.nd rfl (Or.inl rfl) pe_int)
  (pss_cons (ps_if (pt_cmpR op_gt (pe_callB call_len_seq (by rfl) T.len (by decide +kernel) (pa_cons (pv 0) pa_nil)) pe_int (nomark _))
    (pss_one (ps_set (i := 2) sc_l_number.nd rfl (Or.inl rfl) (pe_ix ix_list (pv 0) (pe_op op_mod (pv 1) (pe_callB call_len_seq (by rfl) T.len (by decide +kernel) (pa_cons (pv 0) pa_nil))) (fun _ _ => rfl))))
    pss_nil)
  (pss_one (ps_ret (pe_call (ok_l_mixed T) (hr.mono (by decide)) rfl T.g_l_mixed T.k_l_mixed T.b_l_mixed .nil pass0 (pa_cons (pv 2) (pa_cons (pv 1) pa_nil))))))), ?_⟩
    simp [L2.start]
    refine ⟨_, .inl hS, ?_⟩
    simp [spMixed, hk, and_assoc]
    by_cases hn : ns = []
    · subst hn
      exact .inl ⟨rfl, q⟩
    · have h0 : 0 < ns.length := by cases ns with | nil => exact absurd rfl hn | cons _ _ => simp
      refine .inr ⟨h0, _, .inl hS, by simpa using h0, a, _, _, _, rfl, rfl, hS, at_toNat ?_ ?_, _, rfl, q⟩
      · exact Int.emod_nonneg k (by rw [List.length_map]; omega)
      · rw [List.length_map]
        exact cell_ix h0 hk.1
end
end Jk

namespace Jk
open PySem L2 Evl
/-! ## things -/
inductive Thing (H : Hp) : V → Prop where
  | non : Thing H .non
  | bl (b : Bool) : Thing H (.bl b)
  | int (i : Int) : Thing H (.int i)
  | str (s : Str) : Thing H (.str s)
  | lst {a : Addr} {xs : List V} (h : H a = some (.lst xs)) : Thing H (.ref a)
  | tup {a : Addr} {xs : List V} (h : H a = some (.tup xs)) : Thing H (.ref a)
  | dK {a : Addr} {xs : List (Key × V)} (h : H a = some (.dK xs)) : Thing H (.ref a)
theorem Thing.up {H H' : Hp} {x : V} (t : Thing H x) (e : Ex H H') : Thing H' x := by
  cases t with
  | non => exact .non
  | bl b => exact .bl b
  | int i => exact .int i
  | str s => exact .str s
  | lst h => exact .lst (e _ _ h)
  | tup h => exact .tup (e _ _ h)
  | dK h => exact .dK (e _ _ h)
def inR (x : V) (lo hi : Int) : Bool := match x with
  | .int i => decide (lo ≤ i ∧ i ≤ hi)
  | _ => false
def spWhole : Sp := fun vs H Q _ => ∃ (x : V) (lo hi : Int), vs = [x, .int lo, .int hi] ∧ Thing H x ∧ Q (.bl (inR x lo hi)) H
section
variable {P : Program} {w : World} {K : PySem.W.Frag} {mg : Str → Option Value} {base : Heap} {A : Adr}
theorem ok_whole_within (T : Txt K mg A) : FnOk P w K mg base CX0 1 A.a_whole_within A.d_whole_within ["number", "least", "most"] spWhole := by
  refine T.F_whole_within.ok sc_whole_within (fun vs H Q E h => ?_) (fun cdv C outer s H vs Q E hr h => ?_)
  · obtain ⟨x, lo, hi, rfl, _⟩ := h
    rfl
  · obtain ⟨x, lo, hi, rfl, th, q⟩ := h
    refine ⟨_, (pss_cons (ps_if (PW.pt (pw_or (pt_not (pt_val (pe_callB call_isJ (by rfl) T.isinstance (by decide +kernel) (pa_cons (pv 0) (pa_cons (pe_bltn (v := .ty "int") (u := .type "int") (by rfl) T.int (by decide +kernel) rfl) pa_nil))))) (pw_or1 (pt_val (pe_callB call_isJ (by rfl) T.isinstance (by decide +kernel) (pa_cons (pv 0) (pa_cons (pe_bltn (v := .ty "bool") (u := .type "bool") (by rfl) T.bool (by decide +kernel) rfl) pa_nil)))))))
    (pss_one (ps_ret pe_bl))
    pss_nil)
  (pss_one (ps_ret (pe_chain op_le op_le (pv 1) (pv 0) (pv 2))))), ?_⟩
    cases th with
    | non => simpa [L2.start, inR] using q
    | bl b => simpa [L2.start, inR] using q
    | int i =>
      simp [L2.start]
      by_cases h1 : lo ≤ i
      · refine .inr ⟨h1, ?_⟩
        simpa [inR, h1] using q
      · refine .inl ⟨by omega, ?_⟩
        simpa [inR, h1] using q
    | str s => simpa [L2.start, inR] using q
    | lst h => simpa [L2.start, inR, tyN_lst h] using q
    | tup h => simpa [L2.start, inR, tyN_tup h] using q
    | dK h => simpa [L2.start, inR, tyN_dK h] using q
end
end Jk

namespace Jk
open PySem L2 Evl
/-! ## webs in the heap -/
def wf (l : Addr) : List (Str × V) := putF "_near" (.ref l) []
theorem wf_near (l : Addr) : (wf l).lookup ("_near" : Str) = some (.ref l) := by unfold wf; rw [lookup_putF, if_pos rfl]
theorem wf_no (l : Addr) {m : Str} (h : ¬ m = "_near") : (wf l).lookup m = none := by unfold wf; rw [lookup_putF, if_neg h]; rfl
@[simp] theorem wf_has (l : Addr) : NoFld (wf l) "has" := wf_no l (by decide +kernel)
@[simp] theorem wf_put (l : Addr) : NoFld (wf l) "put" := wf_no l (by decide +kernel)
@[simp] theorem wf_take (l : Addr) : NoFld (wf l) "take" := wf_no l (by decide +kernel)
@[simp] theorem wf_grow (l : Addr) : NoFld (wf l) "grow" := wf_no l (by decide +kernel)
@[simp] theorem wf_many (l : Addr) : NoFld (wf l) "many" := wf_no l (by decide +kernel)
@[simp] theorem wf_ties (l : Addr) : NoFld (wf l) "ties" := wf_no l (by decide +kernel)
@[simp] theorem wf_beside (l : Addr) : NoFld (wf l) "beside" := wf_no l (by decide +kernel)
@[simp] theorem wf_need (l : Addr) : NoFld (wf l) "_need_point" := wf_no l (by decide +kernel)
def rowD (r : List Int) : List (Key × V) := r.map fun j => (Sum.inl j, V.bl true)
structure WebAt (C : Addr) (H : Hp) (p l : Addr) (ds : List Addr) (rows : List (List Int)) : Prop where
  ob : ∃ dx, H p = some (.ins C dx (wf l))
  ls : H l = some (.lst (ds.map V.ref))
  nd : ds.Nodup
  len : ds.length = rows.length
  row : ∀ (i : Nat) (d : Addr) (r : List Int), ds[i]? = some d → rows[i]? = some r → H d = some (.dK (rowD r))
theorem WebAt.uniq {C : Addr} {H : Hp} {p l l' : Addr} {ds ds' : List Addr} {rows rows' : List (List Int)} (W : WebAt C H p l ds rows) (W' : WebAt C H p l' ds' rows') : l' = l ∧ ds' = ds ∧ rows' = rows := by
  obtain ⟨⟨dx, a1⟩, a2, _, a4, a5⟩ := W
  obtain ⟨⟨dx', b1⟩, b2, _, b4, b5⟩ := W'
  have e1 : l' = l := by
    rw [a1] at b1
    have z : wf l = wf l' := by cases b1; rfl
    have y := congrArg (fun fs => List.lookup ("_near" : Str) fs) z
    simp only [wf_near] at y
    cases y; rfl
  subst e1
  have e2 : ds' = ds := by
    rw [a2] at b2
    have z : ds.map V.ref = ds'.map V.ref := HO.lst.inj (Option.some.inj b2)
    exact ((List.map_inj_right (fun x y h => by cases h; rfl)).mp z).symm
  subst e2
  refine ⟨rfl, rfl, ?_⟩
  refine List.ext_getElem? fun i => ?_
  by_cases h : i < rows.length
  · have h' : i < rows'.length := by omega
    have hd : i < ds'.length := by omega
    have x := a5 i _ _ (List.getElem?_eq_getElem hd) (List.getElem?_eq_getElem h)
    have y := b5 i _ _ (List.getElem?_eq_getElem hd) (List.getElem?_eq_getElem h')
    rw [x] at y
    have z : rowD rows[i] = rowD rows'[i] := HO.dK.inj (Option.some.inj y)
    unfold rowD at z
    have z' := (List.map_inj_right (fun a b h => by cases h; rfl)).mp z
    rw [List.getElem?_eq_getElem h, List.getElem?_eq_getElem h', z']
  · rw [List.getElem?_eq_none (by omega), List.getElem?_eq_none (by omega)]
theorem web_ex {C : Addr} {H : Hp} {p l : Addr} {ds : List Addr} {rows : List (List Int)} {R : Addr → List Addr → List (List Int) → Prop} (W : WebAt C H p l ds rows) : (∃ l' ds' rows', WebAt C H p l' ds' rows' ∧ R l' ds' rows') ↔ R l ds rows :=
  ⟨fun ⟨_, _, _, W', r⟩ => by obtain ⟨rfl, rfl, rfl⟩ := W.uniq W'; exact r, fun r => ⟨l, ds, rows, W, r⟩⟩
def spNeed (A : Adr) : Sp := fun vs H Q E => ∃ (p l : Addr) (ds : List Addr) (rows : List (List Int)) (x : V), vs = [.ref p, x] ∧ WebAt A.c_Web H p l ds rows ∧ Thing H x ∧
  (inR x 0 ((rows.length : Int) - 1) = true → Q .non H) ∧ (inR x 0 ((rows.length : Int) - 1) = false → E (.ref A.c_BadPoint) none H)
section
variable {P : Program} {w : World} {K : PySem.W.Frag} {mg : Str → Option Value} {base : Heap} {A : Adr}
theorem ok_Web_need_point (T : Txt K mg A) : FnOk P w K mg base (L2.CX P w) 2 A.a_Web_need_point A.d_Web_need_point ["self", "point"] (spNeed A) := by
  refine T.F_Web_need_point.okX sc_Web_need_point (fun vs H Q E h => ?_) (fun cdv C outer s H vs Q E hr h => ?_)
  · obtain ⟨p, l, ds, rows, x, rfl, _⟩ := h
    rfl
  · obtain ⟨p, l, ds, rows, x, rfl, W, th, k1, k2⟩ := h
    obtain ⟨⟨dx, h1⟩, h2, h3, h4, h5⟩ := W
    refine ⟨_, (pss_one (ps_if (pt_not (pt_val (pe_call (ok_whole_within T) (hr.mono (by decide)) rfl T.g_whole_within T.k_whole_within T.b_whole_within .nil pass0 (pa_cons (pv 1) (pa_cons pe_int (pa_cons (pe_op op_sub (pe_callB call_lenJ (by rfl) T.len (by decide +kernel) (pa_cons (pe_fld (pv 0) rfl) pa_nil)) pe_int) pa_nil))))))
    (pss_one (ps_raise rfl (takes_of rfl rfl rfl rfl) (pmk_own PySem.F.excBase_ValueError T.xBadPoint T.gBadPoint T.kBadPoint (raises_own T.bBadPoint T.tBadPoint) rfl)))
    pss_nil)), ?_⟩
    simp [L2.start, and_assoc, h1, h2, T.cl_Web, T.n_Web__near, wf_near, spWhole, h4, th]
    cases e : inR x 0 ((rows.length : Int) - 1) with
    | true => exact .inr ⟨rfl, k1 e⟩
    | false => exact .inl ⟨rfl, k2 e⟩

/-! has -/
def okPt (rows : List (List Int)) (x : V) : Bool := inR x 0 ((rows.length : Int) - 1)
def tied (rows : List (List Int)) (i j : Int) : Bool := decide (j ∈ rows.getD i.toNat [])
theorem okPt_int {rows : List (List Int)} {x : V} (h : okPt rows x = true) : ∃ i, x = .int i ∧ 0 ≤ i ∧ i.toNat < rows.length := by
  unfold okPt inR at h
  cases x with
  | int i =>
    have h' := of_decide_eq_true h
    exact ⟨i, rfl, h'.1, by omega⟩
  | _ => cases h
theorem okPt_of {rows : List (List Int)} {i : Int} (h0 : 0 ≤ i) (h1 : i.toNat < rows.length) : okPt rows (.int i) = true := by
  unfold okPt inR
  simp
  omega
theorem rowD_val (r : List Int) (j : Int) : valV (rowD r) (Sum.inl j) = if j ∈ r then some (.bl true) else none := by
  unfold rowD
  induction r with
  | nil => rfl
  | cons a r ih =>
    by_cases e : a = j
    · subst e
      simp [valV_pos]
    · have e' : ¬ (Sum.inl a : Key) = Sum.inl j := fun z => e (Sum.inl.inj z)
      rw [List.map_cons, valV_neg (by exact e'), ih]
      have : j ∈ a :: r ↔ j ∈ r := by simp [Ne.symm e]
      simp [this]
theorem WebAt.at {C : Addr} {H : Hp} {p l : Addr} {ds : List Addr} {rows : List (List Int)} (W : WebAt C H p l ds rows) {i : Nat} (h : i < rows.length) : ∃ d, ds[i]? = some d ∧ H d = some (.dK (rowD (rows.getD i []))) ∧ (ds.map V.ref)[i]? = some (.ref d) := by
  have h' : i < ds.length := by rw [W.len]; exact h
  refine ⟨ds[i], List.getElem?_eq_getElem h', W.row i _ _ (List.getElem?_eq_getElem h') ?_, by rw [List.getElem?_map, List.getElem?_eq_getElem h']; rfl⟩
  rw [List.getD_eq_getElem?_getD, List.getElem?_eq_getElem h]
  rfl
/-- two points of the web, unlike -/
def okTwo (rows : List (List Int)) (x y : V) : Bool := okPt rows x && (okPt rows y && !decide (x = y))
def iOf : V → Int
  | .int i => i
  | _ => 0
def spHas (A : Adr) : Sp := fun vs H Q E => ∃ (p l : Addr) (ds : List Addr) (rows : List (List Int)) (x y : V), vs = [.ref p, x, y] ∧ WebAt A.c_Web H p l ds rows ∧ Thing H x ∧ Thing H y ∧
  (okTwo rows x y = true → Q (.bl (tied rows (iOf x) (iOf y))) H) ∧ (okTwo rows x y = false → E (.ref A.c_BadPoint) none H)
theorem ok_Web_has (T : Txt K mg A) : FnOk P w K mg base (L2.CX P w) 3 A.a_Web_has A.d_Web_has ["self", "one", "other"] (spHas A) := by
  refine T.F_Web_has.okX sc_Web_has (fun vs H Q E h => ?_) (fun cdv C outer s H vs Q E hr h => ?_)
  · obtain ⟨p, l, ds, rows, x, y, rfl, _⟩ := h
    rfl
  · obtain ⟨p, l, ds, rows, x, y, rfl, W, tx, ty, k1, k2⟩ := h
    have hu := hu_of hr
    refine ⟨_, (pss_cons (ps_expr (pe_meth (pv 0) T.cl_Web T.m_Web_need_point (ok_Web_need_point T) (hr.mono (by decide)) T.b_Web_need_point .nil (passes_call (E := E) (takes_of rfl rfl rfl rfl) fun _ _ _ _ z => z) (pa_cons (pv 1) pa_nil)))
  (pss_cons (ps_expr (pe_meth (pv 0) T.cl_Web T.m_Web_need_point (ok_Web_need_point T) (hr.mono (by decide)) T.b_Web_need_point .nil (passes_call (E := E) (takes_of rfl rfl rfl rfl) fun _ _ _ _ z => z) (pa_cons (pv 2) pa_nil)))
  (pss_cons (ps_if (pt_cmpR op_eq (pv 1) (pv 2) (nomark _))
    (pss_one (ps_raise rfl (takes_of rfl rfl rfl rfl) (pmk_own PySem.F.excBase_ValueError T.xBadPoint T.gBadPoint T.kBadPoint (raises_own T.bBadPoint T.tBadPoint) rfl)))
    pss_nil)
  (pss_one (ps_ret (pe_cmp (pc_dinJ hu (pv 2) (pe_ix ix_listJ (pe_fld (pv 0) rfl) (pv 1) (fun _ _ => rfl))) rfl)))))), ?_⟩
    obtain ⟨⟨dx, h1⟩, h2, h3, h4, h5⟩ := id W
    have key : (okPt rows x = true → okPt rows y = true → ∃ i j, x = .int i ∧ y = .int j ∧ 0 ≤ i ∧ i.toNat < rows.length) := fun e1 e2 => by
      obtain ⟨i, rfl, a1, a2⟩ := okPt_int e1
      obtain ⟨j, rfl, _, _⟩ := okPt_int e2
      exact ⟨i, j, rfl, rfl, a1, a2⟩
    simp [L2.start, and_assoc, h1, h2, T.cl_Web, T.n_Web__near, wf_near, spNeed, web_ex W, tx, ty]
    change (okPt rows x = true → (okPt rows y = true → _) ∧ (okPt rows y = false → _)) ∧ (okPt rows x = false → _)
    refine ⟨fun e1 => ⟨fun e2 => ?_, fun e2 => k2 (by simp [okTwo, e1, e2])⟩, fun e1 => k2 (by simp [okTwo, e1])⟩
    obtain ⟨i, j, rfl, rfl, a1, a2⟩ := key e1 e2
    obtain ⟨d, b1, b2, b3⟩ := W.at a2
    simp [okTwo, e1, e2, tied, iOf] at k1 k2
    by_cases hij : i = j
    · subst hij
      simpa using k2 rfl
    · simp at b2
      simp [and_assoc, hij, a1, b1, b2, h1, h2, T.cl_Web, T.n_Web__near, wf_near, rowD_val]
      by_cases hm : j ∈ rows[i.toNat]?.getD [] <;> simpa [hm] using k1 hij
end
end Jk

namespace Jk
open PySem L2 Evl
/-- all but what stands at M is as it was, and nothing is forgotten -/
structure But (M : List Addr) (H H' : Hp) : Prop where
  kp : ∀ b o, H b = some o → b ∉ M → H' b = some o
  dm : ∀ b, H' b = none → H b = none
theorem But.of_ex {M : List Addr} {H H' : Hp} (e : Ex H H') : But M H H' := ⟨fun b o h _ => e b o h, fun _ h => fresh_back e h⟩
theorem But.trans {M : List Addr} {H H1 H2 : Hp} (a : But M H H1) (b : But M H1 H2) : But M H H2 := ⟨fun c o h n => b.kp c o (a.kp c o h n) n, fun c h => a.dm c (b.dm c h)⟩
theorem But.mono {M N : List Addr} {H H' : Hp} (a : But M H H') (s : ∀ x ∈ M, x ∈ N) : But N H H' := ⟨fun c o h n => a.kp c o h fun z => n (s c z), a.dm⟩
theorem But.upd {M : List Addr} {H : Hp} {d : Addr} {o : HO} (h : d ∈ M) : But M H (upd H d o) := ⟨fun b u e n => by
  rw [upd_ne (show b ≠ d from fun z => n (by rw [z]; exact h))]
  exact e, fun b z => by
  by_cases q : b = d
  · subst q; rw [upd_same] at z; cases z
  · rw [upd_ne q] at z; exact z⟩
theorem But.updT {M : List Addr} {H H' : Hp} {d : Addr} {o : HO} (a : But M H H') (h : d ∈ M) : But M H (L2.upd H' d o) := a.trans (But.upd h)
def putR (rows : List (List Int)) (i j : Nat) : List (List Int) := (rows.set i (rows.getD i [] ++ [(j : Int)])).set j (rows.getD j [] ++ [(i : Int)])
def takeR (rows : List (List Int)) (i j : Nat) : List (List Int) := (rows.set i ((rows.getD i []).filter fun z => decide (z ≠ (j : Int)))).set j ((rows.getD j []).filter fun z => decide (z ≠ (i : Int)))
theorem rowD_put {r : List Int} {j : Int} (h : ¬ j ∈ r) : putK (rowD r) (Sum.inl j) (.bl true) = rowD (r ++ [j]) := by
  rw [putK_new _ (by rw [rowD_val, if_neg h])]
  unfold rowD
  rw [List.map_append]
  rfl
theorem rowD_drop (r : List Int) (j : Int) : dropK (rowD r) (Sum.inl j) = rowD (r.filter fun z => decide (z ≠ j)) := by
  unfold rowD dropK
  rw [List.filter_map]
  congr 1
  refine List.filter_congr fun z _ => ?_
  show decide ((Sum.inl z : Key) ≠ Sum.inl j) = decide (z ≠ j)
  by_cases e : z = j <;> simp [e]
theorem WebAt.set {C : Addr} {H : Hp} {p l : Addr} {ds : List Addr} {rows : List (List Int)} (W : WebAt C H p l ds rows) {i : Nat} {d : Addr} {r : List Int} (hd : ds[i]? = some d) (hi : i < rows.length) : WebAt C (upd H d (.dK (rowD r))) p l ds (rows.set i r) := by
  obtain ⟨dx, h1⟩ := W.ob
  have hD : H d = some (.dK (rowD (rows.getD i []))) := by
    obtain ⟨d', e1, e2, _⟩ := W.at hi
    rw [hd] at e1; cases e1; exact e2
  refine ⟨⟨dx, ?_⟩, ?_, W.nd, by rw [List.length_set]; exact W.len, fun k d' r' e1 e2 => ?_⟩
  · rw [upd_ne (ne_of h1 hD (by intro z; cases z))]; exact h1
  · rw [upd_ne (ne_of W.ls hD (by intro z; cases z))]; exact W.ls
  · by_cases hk : k = i
    · subst hk
      rw [hd] at e1; cases e1
      rw [List.getElem?_set_self hi] at e2; cases e2
      exact upd_same
    · have hne : d' ≠ d := fun z => hk (nd_ix W.nd e1 (z ▸ hd))
      rw [upd_ne hne]
      rw [List.getElem?_set_ne (Ne.symm hk)] at e2
      exact W.row k d' r' e1 e2
theorem WebAt.up {C : Addr} {H H' : Hp} {p l : Addr} {ds : List Addr} {rows : List (List Int)} (W : WebAt C H p l ds rows) (e : Ex H H') : WebAt C H' p l ds rows :=
  ⟨let ⟨dx, h⟩ := W.ob; ⟨dx, e _ _ h⟩, e _ _ W.ls, W.nd, W.len, fun i d r a b => e _ _ (W.row i d r a b)⟩
theorem WebAt.but {C : Addr} {H H' : Hp} {p l : Addr} {ds : List Addr} {rows : List (List Int)} {M : List Addr} (W : WebAt C H p l ds rows) (e : But M H H') (n : ∀ x ∈ M, x ≠ p ∧ x ≠ l ∧ x ∉ ds) : WebAt C H' p l ds rows :=
  ⟨let ⟨dx, h⟩ := W.ob; ⟨dx, e.kp _ _ h fun z => (n _ z).1 rfl⟩, e.kp _ _ W.ls fun z => (n _ z).2.1 rfl, W.nd, W.len, fun i d r a b => e.kp _ _ (W.row i d r a b) fun z => (n _ z).2.2 (List.mem_of_getElem? a)⟩
/-- ties go both ways -/
def Sym (rows : List (List Int)) : Prop := ∀ i j : Nat, i < rows.length → j < rows.length → ((j : Int) ∈ rows.getD i [] ↔ (i : Int) ∈ rows.getD j [])
def spPut (A : Adr) : Sp := fun vs H Q E => ∃ (p l : Addr) (ds : List Addr) (rows : List (List Int)) (x y : V), vs = [.ref p, x, y] ∧ WebAt A.c_Web H p l ds rows ∧ Thing H x ∧ Thing H y ∧ Sym rows ∧ (∀ r ∈ rows, r.length ≤ 100) ∧
  (okTwo rows x y = false → E (.ref A.c_BadPoint) none H) ∧ (okTwo rows x y = true → tied rows (iOf x) (iOf y) = true → E (.ref A.c_Twice) none H) ∧
  (okTwo rows x y = true → tied rows (iOf x) (iOf y) = false → ∀ H', WebAt A.c_Web H' p l ds (putR rows (iOf x).toNat (iOf y).toNat) → But ds H H' → Q .non H')
def spTake (A : Adr) : Sp := fun vs H Q E => ∃ (p l : Addr) (ds : List Addr) (rows : List (List Int)) (x y : V), vs = [.ref p, x, y] ∧ WebAt A.c_Web H p l ds rows ∧ Thing H x ∧ Thing H y ∧ Sym rows ∧
  (okTwo rows x y = false → E (.ref A.c_BadPoint) none H) ∧ (okTwo rows x y = true → tied rows (iOf x) (iOf y) = false → E (.ref A.c_NoTie) none H) ∧
  (okTwo rows x y = true → tied rows (iOf x) (iOf y) = true → ∀ H', WebAt A.c_Web H' p l ds (takeR rows (iOf x).toNat (iOf y).toNat) → But ds H H' → Q .non H')
theorem okTwo_ints {rows : List (List Int)} {x y : V} (h : okTwo rows x y = true) : ∃ i j : Nat, x = .int i ∧ y = .int j ∧ i < rows.length ∧ j < rows.length ∧ i ≠ j := by
  unfold okTwo at h
  simp only [Bool.and_eq_true, Bool.not_eq_true', decide_eq_false_iff_not] at h
  obtain ⟨h1, h2, h3⟩ := h
  obtain ⟨i, rfl, a1, a2⟩ := okPt_int h1
  obtain ⟨j, rfl, b1, b2⟩ := okPt_int h2
  refine ⟨i.toNat, j.toNat, by rw [Int.toNat_of_nonneg a1], by rw [Int.toNat_of_nonneg b1], a2, b2, fun z => h3 ?_⟩
  have : i = j := by omega
  rw [this]
section
variable {P : Program} {w : World} {K : PySem.W.Frag} {mg : Str → Option Value} {base : Heap} {A : Adr}
theorem ok_Web_put (T : Txt K mg A) : FnOk P w K mg base (L2.CX P w) 4 A.a_Web_put A.d_Web_put ["self", "one", "other"] (spPut A) := by
  refine T.F_Web_put.okX sc_Web_put (fun vs H Q E h => ?_) (fun cdv C outer s H vs Q E hr h => ?_)
  · obtain ⟨p, l, ds, rows, x, y, rfl, _⟩ := h
    rfl
  · obtain ⟨p, l, ds, rows, x, y, rfl, W, tx, ty, sy, small, k1, k2, k3⟩ := h
    have hu := hu_of hr
    refine ⟨_, (pss_cons (ps_if (pt_val (pe_meth (pv 0) T.cl_Web T.m_Web_has (ok_Web_has T) (hr.mono (by decide)) T.b_Web_has .nil (passes_call (E := E) (takes_of rfl rfl rfl rfl) fun _ _ _ _ z => z) (pa_cons (pv 1) (pa_cons (pv 2) pa_nil))))
    (pss_one (ps_raise rfl (takes_of rfl rfl rfl rfl) (pmk_own PySem.F.excBase_ValueError T.xTwice T.gTwice T.kTwice (raises_own T.bTwice T.tTwice) rfl)))
    pss_nil)
  (pss_cons (ps_dputJ hu (pe_ix ix_listJ (pe_fld (pv 0) rfl) (pv 1) (fun _ _ => rfl)) (pv 2) pe_bl rfl)
  (pss_one (ps_dputJ hu (pe_ix ix_listJ (pe_fld (pv 0) rfl) (pv 2) (fun _ _ => rfl)) (pv 1) pe_bl rfl)))), ?_⟩
    obtain ⟨⟨dx, h1⟩, h2, h3, h4, h5⟩ := id W
    simp [L2.start, and_assoc, h1, h2, T.cl_Web, T.n_Web__near, wf_near, spHas, web_ex W, tx, ty]
    refine ⟨fun ok => ?_, k1⟩
    cases ht : tied rows (iOf x) (iOf y) with
    | true => simpa [ht] using k2 ok ht
    | false =>
      obtain ⟨i, j, rfl, rfl, hi, hj, hij⟩ := okTwo_ints ok
      obtain ⟨d, b1, b2, b3⟩ := W.at hi
      obtain ⟨d', c1, c2, c3⟩ := W.at hj
      have nij : ¬ (j : Int) ∈ rows.getD i [] := by simpa [tied, iOf] using ht
      have nji : ¬ (i : Int) ∈ rows.getD j [] := fun z => nij ((sy i j hi hj).mpr z)
      have W1 := W.set (r := rows.getD i [] ++ [(j : Int)]) b1 hi
      have W2 := W1.set (r := rows.getD j [] ++ [(i : Int)]) c1 (by rw [List.length_set]; exact hj)
      have ndd : d' ≠ d := fun z => hij (nd_ix W.nd b1 (z ▸ c1))
      have l1 : (rowD (rows.getD i [])).length ≤ 100000 := by
        unfold rowD; rw [List.length_map, List.getD_eq_getElem?_getD, List.getElem?_eq_getElem hi]
        exact Nat.le_trans (small _ (List.getElem_mem hi)) (by decide)
      have l2 : (rowD (rows.getD j [])).length ≤ 100000 := by
        unfold rowD; rw [List.length_map, List.getD_eq_getElem?_getD, List.getElem?_eq_getElem hj]
        exact Nat.le_trans (small _ (List.getElem_mem hj)) (by decide)
      have g1 : (upd H d (.dK (rowD (rows.getD i [] ++ [(j : Int)])))) p = some (.ins A.c_Web dx (wf l)) := by rw [upd_ne (ne_of h1 b2 (by intro z; cases z))]; exact h1
      have g2 := W1.ls
      have g3 : (upd H d (.dK (rowD (rows.getD i [] ++ [(j : Int)])))) d' = some (.dK (rowD (rows.getD j []))) := by rw [upd_ne ndd]; exact c2
      have fin := k3 ok ht _ W2 ((But.upd (List.mem_of_getElem? b1)).updT (List.mem_of_getElem? c1))
      simp only [List.getD_eq_getElem?_getD] at *
      simp [and_assoc, ht, h1, h2, b1, b2, T.cl_Web, T.n_Web__near, wf_near, rowD_put nij, l1, g1, g2, c1, g3, rowD_put nji, l2]
      exact fin
end
end Jk

namespace Jk
open PySem L2 Evl
def spGrow (A : Adr) : Sp := fun vs H Q E => ∃ (p l : Addr) (ds : List Addr) (rows : List (List Int)), vs = [.ref p] ∧ WebAt A.c_Web H p l ds rows ∧ rows.length ≤ 1000 ∧
  (30 ≤ rows.length → E (.ref A.c_TooMany) none H) ∧ (rows.length < 30 → ∀ d H', H d = none → WebAt A.c_Web H' p l (ds ++ [d]) (rows ++ [[]]) → But [l] H H' → Q (.int (rows.length : Int)) H')
def spMany (A : Adr) : Sp := fun vs H Q _ => ∃ (p l : Addr) (ds : List Addr) (rows : List (List Int)), vs = [.ref p] ∧ WebAt A.c_Web H p l ds rows ∧ Q (.int (rows.length : Int)) H
def spBeside (A : Adr) : Sp := fun vs H Q E => ∃ (p l : Addr) (ds : List Addr) (rows : List (List Int)) (x : V), vs = [.ref p, x] ∧ WebAt A.c_Web H p l ds rows ∧ Thing H x ∧ (∀ r ∈ rows, r.length < 64) ∧
  (okPt rows x = false → E (.ref A.c_BadPoint) none H) ∧
  (okPt rows x = true → ∀ (ys : List Int) q H', ys.Perm (rows.getD (iOf x).toNat []) → ys.Pairwise (· ≤ ·) → H q = none → Ex H H' → H' q = some (.lst (ys.map V.int)) → Q (.ref q) H')
section
variable {P : Program} {w : World} {K : PySem.W.Frag} {mg : Str → Option Value} {base : Heap} {A : Adr}
theorem ok_Web_take (T : Txt K mg A) : FnOk P w K mg base (L2.CX P w) 4 A.a_Web_take A.d_Web_take ["self", "one", "other"] (spTake A) := by
  refine T.F_Web_take.okX sc_Web_take (fun vs H Q E h => ?_) (fun cdv C outer s H vs Q E hr h => ?_)
  · obtain ⟨p, l, ds, rows, x, y, rfl, _⟩ := h
    rfl
  · obtain ⟨p, l, ds, rows, x, y, rfl, W, tx, ty, sy, k1, k2, k3⟩ := h
    have hu := hu_of hr
    refine ⟨_, (pss_cons (ps_if (pt_not (pt_val (pe_meth (pv 0) T.cl_Web T.m_Web_has (ok_Web_has T) (hr.mono (by decide)) T.b_Web_has .nil (passes_call (E := E) (takes_of rfl rfl rfl rfl) fun _ _ _ _ z => z) (pa_cons (pv 1) (pa_cons (pv 2) pa_nil)))))
    (pss_one (ps_raise rfl (takes_of rfl rfl rfl rfl) (pmk_own PySem.F.excBase_ValueError T.xNoTie T.gNoTie T.kNoTie (raises_own T.bNoTie T.tNoTie) rfl)))
    pss_nil)
  (pss_cons (ps_ddel (pe_ix ix_listJ (pe_fld (pv 0) rfl) (pv 1) (fun _ _ => rfl)) (pv 2))
  (pss_one (ps_ddel (pe_ix ix_listJ (pe_fld (pv 0) rfl) (pv 2) (fun _ _ => rfl)) (pv 1))))), ?_⟩
    obtain ⟨⟨dx, h1⟩, h2, h3, h4, h5⟩ := id W
    simp [L2.start, and_assoc, h1, h2, T.cl_Web, T.n_Web__near, wf_near, spHas, web_ex W, tx, ty]
    refine ⟨fun ok => ?_, k1⟩
    cases ht : tied rows (iOf x) (iOf y) with
    | false => simpa [ht] using k2 ok ht
    | true =>
      obtain ⟨i, j, rfl, rfl, hi, hj, hij⟩ := okTwo_ints ok
      obtain ⟨d, b1, b2, b3⟩ := W.at hi
      obtain ⟨d', c1, c2, c3⟩ := W.at hj
      have mij : (j : Int) ∈ rows.getD i [] := by simpa [tied, iOf] using ht
      have mji : (i : Int) ∈ rows.getD j [] := (sy i j hi hj).mp mij
      have W1 := W.set (r := (rows.getD i []).filter fun z => decide (z ≠ (j : Int))) b1 hi
      have W2 := W1.set (r := (rows.getD j []).filter fun z => decide (z ≠ (i : Int))) c1 (by rw [List.length_set]; exact hj)
      have ndd : d' ≠ d := fun z => hij (nd_ix W.nd b1 (z ▸ c1))
      have v1 : valV (rowD (rows.getD i [])) (Sum.inl (j : Int)) = some (.bl true) := by rw [rowD_val, if_pos mij]
      have v2 : valV (rowD (rows.getD j [])) (Sum.inl (i : Int)) = some (.bl true) := by rw [rowD_val, if_pos mji]
      have g1 : (upd H d (.dK (rowD ((rows.getD i []).filter fun z => decide (z ≠ (j : Int)))))) p = some (.ins A.c_Web dx (wf l)) := by rw [upd_ne (ne_of h1 b2 (by intro z; cases z))]; exact h1
      have g2 := W1.ls
      have g3 : (upd H d (.dK (rowD ((rows.getD i []).filter fun z => decide (z ≠ (j : Int)))))) d' = some (.dK (rowD (rows.getD j []))) := by rw [upd_ne ndd]; exact c2
      have fin := k3 ok ht _ W2 ((But.upd (List.mem_of_getElem? b1)).updT (List.mem_of_getElem? c1))
      simp only [List.getD_eq_getElem?_getD] at *
      have q1 := rowD_drop (rows[i]?.getD []) (j : Int)
      have q2 := rowD_drop (rows[j]?.getD []) (i : Int)
      simp [and_assoc, ht, h1, h2, b1, b2, v1, T.cl_Web, T.n_Web__near, wf_near, q1]
      simp at g1 g2 g3 fin q2
      simp [and_assoc, g1, g2, c1, g3, v2, T.cl_Web, T.n_Web__near, wf_near, q2]
      exact fin
theorem ok_Web_many (T : Txt K mg A) : FnOk P w K mg base CX0 1 A.a_Web_many A.d_Web_many ["self"] (spMany A) := by
  refine T.F_Web_many.ok sc_Web_many (fun vs H Q E h => ?_) (fun cdv C outer s H vs Q E hr h => ?_)
  · obtain ⟨p, l, ds, rows, rfl, _⟩ := h
    rfl
  · obtain ⟨p, l, ds, rows, rfl, W, k⟩ := h
    obtain ⟨⟨dx, h1⟩, h2, h3, h4, h5⟩ := id W
    refine ⟨_, (pss_one (ps_ret (pe_callB call_lenJ (by rfl) T.len (by decide +kernel) (pa_cons (pe_fld (pv 0) rfl) pa_nil)))), ?_⟩
    simpa [L2.start, and_assoc, h1, h2, T.cl_Web, T.n_Web__near, wf_near, h4] using k
theorem ok_Web_grow (T : Txt K mg A) : FnOk P w K mg base (L2.CX P w) 1 A.a_Web_grow A.d_Web_grow ["self"] (spGrow A) := by
  refine T.F_Web_grow.okX sc_Web_grow (fun vs H Q E h => ?_) (fun cdv C outer s H vs Q E hr h => ?_)
  · obtain ⟨p, l, ds, rows, rfl, _⟩ := h
    rfl
  · obtain ⟨p, l, ds, rows, rfl, W, hl, k1, k2⟩ := h
    obtain ⟨⟨dx, h1⟩, h2, h3, h4, h5⟩ := id W
    refine ⟨_, (pss_cons (ps_set (i := 1) sc_Web_grow.nd rfl (Or.inl rfl) (pe_callB call_lenJ (by rfl) T.len (by decide +kernel) (pa_cons (pe_fld (pv 0) rfl) pa_nil)))
  (pss_cons (ps_if (pt_cmpR op_ge (pv 1) (pe_glob (v := .int 30) rfl T.cMOST_POINTS.choose_spec ⟨_, rfl⟩) (nomark _))
    (pss_one (ps_raise rfl (takes_of rfl rfl rfl rfl) (pmk_own PySem.F.excBase_ValueError T.xTooMany T.gTooMany T.kTooMany (raises_own T.bTooMany T.tTooMany) rfl)))
    pss_nil)
  (pss_cons (ps_expr (pe_bmL PySem.F.slot_list_append PySem.F.type_list_append mt_append (pe_fld (pv 0) rfl) (pa_cons pe_dictJ pa_nil)))
  (pss_one (ps_ret (pv 1)))))), ?_⟩
    simp [L2.start, and_assoc, h1, h2, T.cl_Web, T.n_Web__near, wf_near, h4]
    by_cases h30 : 30 ≤ rows.length
    · have : (30 : Int) ≤ (rows.length : Int) := by omega
      refine .inr ⟨this, k1 h30⟩
    · have : ¬ (30 : Int) ≤ (rows.length : Int) := by omega
      refine .inl ⟨by omega, fun d H2 hd e hd2 => ?_⟩
      have nl : d ≠ l := fun z => by rw [z, h2] at hd; cases hd
      refine ⟨ds.map V.ref, e _ _ h2, by rw [List.length_map, h4]; exact lt_line (by omega), ?_⟩
      have nin : d ∉ ds := fun z => by
        obtain ⟨i, hi, ei⟩ := List.mem_iff_getElem.mp z
        obtain ⟨d', c1, c2, _⟩ := W.at (i := i) (by rw [← h4]; exact hi)
        rw [List.getElem?_eq_getElem hi, ei] at c1
        cases c1
        rw [c2] at hd; cases hd
      refine k2 (by omega) d _ hd ⟨⟨dx, ?_⟩, ?_, ?_, by simp [h4], fun i d' r e1 e2 => ?_⟩ ((But.of_ex e).updT (by simp))
      · rw [upd_ne (ne_of h1 h2 (by intro z; cases z))]; exact e _ _ h1
      · rw [upd_same, List.map_append]; rfl
      · exact nd_snoc h3 nin
      · by_cases hi : i < ds.length
        · rw [List.getElem?_append_left hi] at e1
          rw [List.getElem?_append_left (by omega)] at e2
          have z := h5 i d' r e1 e2
          rw [upd_ne (ne_of z h2 (by intro z; cases z))]
          exact e _ _ z
        · rw [List.getElem?_append_right (by omega)] at e1 e2
          have i0 : i - ds.length = 0 := by
            have := (List.getElem?_eq_some_iff.mp e1).1
            simp at this; omega
          rw [i0] at e1
          rw [show i - rows.length = 0 by omega] at e2
          simp at e1 e2
          subst e1 e2
          rw [upd_ne nl]
          exact hd2
theorem ok_Web_beside (T : Txt K mg A) : FnOk P w K mg base (L2.CX P w) 3 A.a_Web_beside A.d_Web_beside ["self", "point"] (spBeside A) := by
  refine T.F_Web_beside.okX sc_Web_beside (fun vs H Q E h => ?_) (fun cdv C outer s H vs Q E hr h => ?_)
  · obtain ⟨p, l, ds, rows, x, rfl, _⟩ := h
    rfl
  · obtain ⟨p, l, ds, rows, x, rfl, W, tx, few, k1, k2⟩ := h
    obtain ⟨⟨dx, h1⟩, h2, h3, h4, h5⟩ := id W
    refine ⟨_, (pss_cons (ps_expr (pe_meth (pv 0) T.cl_Web T.m_Web_need_point (ok_Web_need_point T) (hr.mono (by decide)) T.b_Web_need_point .nil (passes_call (E := E) (takes_of rfl rfl rfl rfl) fun _ _ _ _ z => z) (pa_cons (pv 1) pa_nil)))
  (pss_one (ps_ret (pe_callB (call_sortedDI rfl) (by rfl) T.sorted (by decide +kernel) (pa_cons (pe_ix ix_listJ (pe_fld (pv 0) rfl) (pv 1) (fun _ _ => rfl)) pa_nil))))), ?_⟩
    simp [L2.start, and_assoc, h1, h2, T.cl_Web, T.n_Web__near, wf_near, spNeed, web_ex W, tx]
    refine ⟨fun ok => ?_, k1⟩
    obtain ⟨i, rfl, a1, a2⟩ := okPt_int ok
    obtain ⟨d, b1, b2, b3⟩ := W.at a2
    have few' : (rows.getD i.toNat []).length < 64 := by
      rw [List.getD_eq_getElem?_getD, List.getElem?_eq_getElem a2]
      exact few _ (List.getElem_mem a2)
    simp [and_assoc, a1, b1, h1, h2, T.cl_Web, T.n_Web__near, wf_near]
    refine ⟨_, .inl b2, rows.getD i.toNat [], ?_, few', fun ys q hp hs hq => ?_⟩
    · unfold rowD; rw [List.map_map]; rfl
    · exact k2 ok ys q _ hp hs hq (Ex.new hq) upd_same
end
end Jk

namespace Jk
open PySem L2 Evl
/-! ## comprehensions -/
def CompI (D : Addr) (H1 : Hp) (R : Nat → List V → Hp → Prop) (i : Nat) (H : Hp) : Prop := Ex H1 H ∧ ∃ acc, H D = some (.lst acc) ∧ acc.length ≤ 100000 ∧ R i acc H
theorem CompI.push {D : Addr} {H1 H4 : Hp} {R : Nat → List V → Hp → Prop} {i : Nat} {y : V} {acc : List V} (hD : H1 D = none) (e : Ex H1 H4) (ha : H4 D = some (.lst acc)) (hl : acc.length < 100000) (r : R (i + 1) (acc ++ [y]) (upd H4 D (.lst (acc ++ [y])))) :
    ∃ acc, H4 D = some (.lst acc) ∧ acc.length < sizeLine ∧ CompI D H1 R (i + 1) (upd H4 D (.lst (acc ++ [y]))) :=
  ⟨acc, ha, lt_line (by omega), Ex.mut e hD, _, upd_same, by rw [List.length_append]; exact hl, r⟩
/-- tuples of two ints -/
def TupsAt (H : Hp) (ts : List Addr) (prs : List (Int × Int)) : Prop := ts.length = prs.length ∧ ∀ (k : Nat) (t : Addr) (p : Int × Int), ts[k]? = some t → prs[k]? = some p → H t = some (.tup [.int p.1, .int p.2])
theorem TupsAt.up {H H' : Hp} {ts : List Addr} {prs : List (Int × Int)} (h : TupsAt H ts prs) (e : Ex H H') : TupsAt H' ts prs := ⟨h.1, fun k t p a b => e _ _ (h.2 k t p a b)⟩
theorem TupsAt.but {M : List Addr} {H H' : Hp} {ts : List Addr} {prs : List (Int × Int)} (h : TupsAt H ts prs) (e : But M H H') (n : ∀ t ∈ ts, t ∉ M) : TupsAt H' ts prs := ⟨h.1, fun k t p a b => e.kp _ _ (h.2 k t p a b) (n t (List.mem_of_getElem? a))⟩
theorem TupsAt.upd {H : Hp} {ts : List Addr} {prs : List (Int × Int)} {D : Addr} {xs : List V} {o : HO} (h : TupsAt H ts prs) (hD : H D = some (.lst xs)) : TupsAt (L2.upd H D o) ts prs := ⟨h.1, fun k t p a b => by
  have z := h.2 k t p a b
  rw [upd_ne (ne_of z hD (by intro y; cases y))]
  exact z⟩
theorem TupsAt.nil (H : Hp) : TupsAt H [] [] := ⟨rfl, fun k t p a b => by simp at a⟩
theorem TupsAt.snoc {H : Hp} {ts : List Addr} {prs : List (Int × Int)} {t : Addr} {p : Int × Int} (h : TupsAt H ts prs) (ht : H t = some (.tup [.int p.1, .int p.2])) : TupsAt H (ts ++ [t]) (prs ++ [p]) := by
  refine ⟨by simp [h.1], fun k t' p' a b => ?_⟩
  by_cases hk : k < ts.length
  · rw [List.getElem?_append_left hk] at a
    rw [List.getElem?_append_left (by rw [← h.1]; exact hk)] at b
    exact h.2 k t' p' a b
  · rw [List.getElem?_append_right (by omega)] at a
    rw [List.getElem?_append_right (by rw [← h.1]; omega)] at b
    have k0 : k - ts.length = 0 := by
      have := (List.getElem?_eq_some_iff.mp a).1
      simp at this; omega
    rw [k0] at a
    rw [show k - prs.length = 0 by rw [← h.1]; exact k0] at b
    simp at a b
    subst a b
    exact ht
def rowP (n i : Nat) : List (Int × Int) := (List.range (n - (i + 1))).map fun k => ((i : Int), ((i + 1 + k : Nat) : Int))
def pairsL (n : Nat) : List (Int × Int) := (List.range n).flatMap (rowP n)
theorem rows_len (n : Nat) : ∀ i : Nat, ((List.range i).flatMap (rowP n)).length ≤ i * n
  | 0 => by simp
  | i + 1 => by
    have ih := rows_len n i
    rw [List.range_succ, List.flatMap_append, List.length_append]
    have : ([i].flatMap (rowP n)).length ≤ n := by simp [rowP]
    have e : (i + 1) * n = i * n + n := Nat.succ_mul i n
    omega
def RetTups (prs : List (Int × Int)) (H : Hp) (Q : VK) : Prop := ∀ (ts : List Addr) q H', H q = none → Ex H H' → H' q = some (.lst (ts.map V.ref)) → TupsAt H' ts prs → Q (.ref q) H'
def spPairs : Sp := fun vs H Q _ => ∃ (n : Nat), vs = [.int (n : Int)] ∧ n ≤ 30 ∧ RetTups (pairsL n) H Q
section
variable {P : Program} {w : World} {K : PySem.W.Frag} {mg : Str → Option Value} {base : Heap} {A : Adr}
theorem ok_pairs (T : Txt K mg A) : FnOk P w K mg base CX0 1 A.a_pairs A.d_pairs ["many"] spPairs := by
  refine T.F_pairs.ok sc_pairs (fun vs H Q E h => ?_) (fun cdv C outer s H vs Q E hr h => ?_)
  · obtain ⟨n, rfl, _⟩ := h
    rfl
  · obtain ⟨n, rfl, hn, k⟩ := h
    refine ⟨_, (pss_one (ps_ret (pe_lc2 (own := [("one", 1), ("other", 2)]) (vs1 := [2]) rfl sc_pairs.nd (pi_range1 rfl T.range (pa_cons (pv 0) pa_nil)) (blkOk_by (own := [("one", 1), ("other", 2)]) (N := ["many", "one", "other"]) (sc := defScope s_pairs) (by decide +kernel)) (by decide) (fun _ _ _ _ _ => (pg_name (i := 1) sc_pairs.nd rfl (Or.inl rfl))) (fun _ _ _ _ _ => pts_nil) (fun _ _ _ _ _ => (pi_range2 rfl T.range (pa_cons (pe_op op_add (pv 1) pe_int) (pa_cons (pv 0) pa_nil)))) (fun _ _ _ _ _ => (pg_name (i := 2) sc_pairs.nd rfl (Or.inl rfl))) (fun _ _ _ _ _ => pts_nil) (fun _ _ _ _ _ => (pe_tupJ (pa_cons (pv 1) (pa_cons (pv 2) pa_nil))))))), ?_⟩
    let R : Nat → List V → Hp → Prop := fun i acc H' => ∃ ts : List Addr, acc = ts.map V.ref ∧ TupsAt H' ts ((List.range i).flatMap (rowP n))
    refine ⟨_, rfl, (n : Int), rfl, by omega, by omega, fun D hD => ⟨fun i m H' => m = n - i ∧ i ≤ n ∧ CompI D H R i H', ⟨n, by simp, Nat.zero_le _, Ex.new hD, [], upd_same, by simp, [], rfl, TupsAt.nil _⟩, ?_⟩⟩
    rintro i m H1 ⟨rfl, hi, c⟩
    by_cases hlt : i < n
    · refine .inr ⟨by show i < (n : Int).toNat; omega, CompI D H R (i + 1), fun H' p' => ⟨n - (i + 1), by omega, rfl, hlt, p'⟩, fun x H' y => ?_⟩
      obtain ⟨rfl, rfl⟩ := y
      let R2 : Nat → List V → Hp → Prop := fun j acc H' => ∃ ts : List Addr, acc = ts.map V.ref ∧ TupsAt H' ts ((List.range i).flatMap (rowP n) ++ (rowP n i).take j)
      refine ⟨rfl, ?_⟩
      refine ⟨_, rfl, _, _, rfl, rfl, _, rfl, _, _, rfl, ⟨by omega, by omega, by omega, by omega⟩, fun j m H' => m = (n - (i + 1)) - j ∧ j ≤ n - (i + 1) ∧ CompI D H R2 j H', ⟨n - (i + 1), by simp, Nat.zero_le _, ?_⟩, ?_⟩
      · obtain ⟨e, acc, h1, h2, ts, h3, h4⟩ := c
        exact ⟨e, acc, h1, h2, ts, h3, by simpa using h4⟩
      · rintro j m H2 ⟨rfl, hj, c2⟩
        by_cases hlt2 : j < n - (i + 1)
        · refine .inr ⟨by show j < ((n : Int) - (0 + (i : Int) + 1)).toNat; omega, CompI D H R2 (j + 1), fun H' p' => ⟨n - (i + 1) - (j + 1), by omega, rfl, hlt2, p'⟩, fun x H' y => ?_⟩
          obtain ⟨rfl, rfl⟩ := y
          obtain ⟨e, acc, h1, h2, ts, h3, h4⟩ := c2
          refine ⟨rfl, ?_⟩
          have e0 : (0 : Int) + (i : Int) + 1 + (j : Int) = ((i + 1 + j : Nat) : Int) := by omega
          have hat : (rowP n i).take (j + 1) = (rowP n i).take j ++ [((i : Int), ((i + 1 + j : Nat) : Int))] := by
            rw [List.take_add_one]
            congr 1
            have : (rowP n i)[j]? = some ((i : Int), ((i + 1 + j : Nat) : Int)) := by
              unfold rowP
              rw [List.getElem?_map, List.getElem?_range hlt2]
              rfl
            rw [this]; rfl
          have hlen : acc.length < 100000 := by
            have z := h4.1
            have z2 := rows_len n i
            rw [List.length_append] at z
            have z3 : ((rowP n i).take j).length ≤ n := by rw [List.length_take]; simp [rowP]; omega
            have z4 : i * n ≤ 30 * 30 := Nat.mul_le_mul (by omega) hn
            rw [h3, List.length_map]
            omega
          simp [L2.start, wipe, tYes]
          intro p H4 hp e4 hp4
          refine CompI.push (acc := acc) ?_ (e.trans e4) (e4 _ _ h1) hlen ?_
          · exact hD
          · refine ⟨ts ++ [p], by rw [h3, List.map_append]; rfl, ?_⟩
            rw [hat, ← List.append_assoc]
            have ne : p ≠ D := fun z => by rw [z, h1] at hp; cases hp
            refine TupsAt.snoc ((h4.up e4).upd (e4 _ _ h1)) ?_
            rw [upd_ne ne, hp4]
            simp
        · have ej : j = n - (i + 1) := by omega
          refine .inl ⟨by show ((n : Int) - (0 + (i : Int) + 1)).toNat ≤ j; omega, ?_⟩
          obtain ⟨e, acc, h1, h2, ts, h3, h4⟩ := c2
          refine ⟨e, acc, h1, h2, ts, h3, ?_⟩
          have z : (rowP n i).take j = rowP n i := List.take_of_length_le (by simp [rowP]; omega)
          rw [z] at h4
          rw [List.range_succ, List.flatMap_append]
          simpa using h4
    · have ei : i = n := by omega
      refine .inl ⟨by show (n : Int).toNat ≤ i; omega, ?_⟩
      obtain ⟨e, acc, h1, h2, ts, h3, h4⟩ := c
      subst ei
      subst h3
      exact k ts D H1 hD e h1 h4
def tiesL (rows : List (List Int)) : List (Int × Int) := (pairsL rows.length).filter fun p => tied rows p.1 p.2
def spTies (A : Adr) : Sp := fun vs H Q _ => ∃ (p l : Addr) (ds : List Addr) (rows : List (List Int)), vs = [.ref p] ∧ WebAt A.c_Web H p l ds rows ∧ rows.length ≤ 30 ∧ RetTups (tiesL rows) H Q
theorem pairs_in {n : Nat} {p : Int × Int} (h : p ∈ pairsL n) : ∃ i j : Nat, p = ((i : Int), (j : Int)) ∧ i < j ∧ j < n := by
  unfold pairsL rowP at h
  obtain ⟨i, hi, h⟩ := List.mem_flatMap.mp h
  obtain ⟨k, hk, rfl⟩ := List.mem_map.mp h
  have a := List.mem_range.mp hi
  have b := List.mem_range.mp hk
  exact ⟨i, i + 1 + k, rfl, by omega, by omega⟩
theorem ok_Web_ties (T : Txt K mg A) : FnOk P w K mg base CX0 2 A.a_Web_ties A.d_Web_ties ["self"] (spTies A) := by
  refine T.F_Web_ties.ok sc_Web_ties (fun vs H Q E h => ?_) (fun cdv C outer s H vs Q E hr h => ?_)
  · obtain ⟨p, l, ds, rows, rfl, _⟩ := h
    rfl
  · obtain ⟨p, l, ds, rows, rfl, W, h30, k⟩ := h
    have hu := hu_of hr
    refine ⟨_, (pss_one (ps_ret (pe_lc (own := [("one", 1), ("other", 2)]) rfl sc_Web_ties.nd (pi_list (pe_call (ok_pairs T) (hr.mono (by decide)) rfl T.g_pairs T.k_pairs T.b_pairs .nil pass0 (pa_cons (pe_meth0 (pv 0) T.cl_Web T.m_Web_many (ok_Web_many T) (hr.mono (by decide)) T.b_Web_many .nil pass0) pa_nil))) (blkOk_by (own := [("one", 1), ("other", 2)]) (N := ["self", "one", "other"]) (sc := defScope s_Web_ties) (by decide +kernel)) (fun _ _ _ _ _ => by exact (pg_tupJ (n := 2) rfl (pgs_cons (pg_name (i := 1) sc_Web_ties.nd rfl (Or.inl rfl)) (pgs_cons (pg_name (i := 2) sc_Web_ties.nd rfl (Or.inl rfl)) pgs_nil)))) (fun _ _ _ _ _ => by exact (pts_one (pt_cmp (pc_dinJ (by exact hu) (pv 2) (pe_ix ix_listJ (pe_fldK (K0 := K) (pv 0)) (pv 1) (fun _ _ => rfl)))))) (fun _ _ _ _ _ => by exact (pe_tupJ (pa_cons (pv 1) (pa_cons (pv 2) pa_nil))))))), ?_⟩
    obtain ⟨⟨dx, h1⟩, h2, h3, h4, h5⟩ := id W
    refine ⟨_, rfl, p, dx, wf l, rfl, h1, wf_many l, p, l, ds, rows, rfl, W, rows.length, rfl, h30, fun ts q H1 hq e hlq ht => ⟨q, rfl, ⟨_, .inl (.inl hlq)⟩, fun D hD => ?_⟩⟩
    have hqD : q ≠ D := fun z => by rw [z, hD] at hlq; cases hlq
    have W1 := W.up e
    refine lc_list (xs := ts.map V.ref) (CompI D H1 fun i acc H' => ∃ us : List Addr, acc = us.map V.ref ∧ TupsAt H' us (((pairsL rows.length).take i).filter fun p => tied rows p.1 p.2)) ⟨Ex.new hD, [], upd_same, by simp, [], rfl, TupsAt.nil _⟩ (fun i H' _ c => .inl (.inl (c.1 _ _ hlq))) (fun i x H' hx c => ?_) (fun H' c => ?_)
    · rw [List.getElem?_map] at hx
      cases ht0 : ts[i]? with
      | none => rw [ht0] at hx; cases hx
      | some t =>
        rw [ht0] at hx
        cases hx
        have hi : i < ts.length := (List.getElem?_eq_some_iff.mp ht0).1
        have hi' : i < (pairsL rows.length).length := by rw [← ht.1]; exact hi
        have hp0 : (pairsL rows.length)[i]? = some (pairsL rows.length)[i] := List.getElem?_eq_getElem hi'
        obtain ⟨m, n, hp, hmn, hnr⟩ := pairs_in (List.mem_of_getElem? hp0)
        have htup := ht.2 i t _ ht0 hp0
        rw [hp] at htup hp0
        obtain ⟨e2, acc, g1, g2, us, g3, g4⟩ := c
        have W2 := W1.up e2
        obtain ⟨⟨dx', w1⟩, w2, w3, w4, w5⟩ := id W2
        obtain ⟨d, b1, b2, b3⟩ := W2.at (show m < rows.length by omega)
        have hlen : acc.length < 100000 := by
          have z := g4.1
          have z1 := List.length_filter_le (fun p => tied rows p.1 p.2) ((pairsL rows.length).take i)
          have z2 := rows_len rows.length rows.length
          have z3 : rows.length * rows.length ≤ 30 * 30 := Nat.mul_le_mul h30 h30
          have z4 : ((pairsL rows.length).take i).length ≤ (pairsL rows.length).length := by rw [List.length_take]; omega
          have z5 : (pairsL rows.length).length ≤ rows.length * rows.length := z2
          rw [g3, List.length_map]; omega
        have step : (((pairsL rows.length).take (i + 1)).filter fun p => tied rows p.1 p.2) = (((pairsL rows.length).take i).filter fun p => tied rows p.1 p.2) ++ (if tied rows m n = true then [((m : Int), (n : Int))] else []) := by
          rw [List.take_add_one, hp0, List.filter_append]
          simp [List.filter_cons]
        simp only [List.getD_eq_getElem?_getD] at b2
        simp [L2.start, wipe, and_assoc, e2 _ _ htup, w1, w2, b1, b2, T.cl_Web, T.n_Web__near, wf_near, rowD_val]
        have td : tied rows m n = decide ((n : Int) ∈ rows[m]?.getD []) := by simp [tied]
        by_cases hm : (n : Int) ∈ rows[m]?.getD []
        · refine .inr ⟨hm, fun p H3 hp3 e3 hq3 => ?_⟩
          have ne : p ≠ D := fun z => by rw [z, g1] at hp3; cases hp3
          refine CompI.push hD (e2.trans e3) (e3 _ _ g1) hlen ⟨us ++ [p], by rw [g3, List.map_append]; rfl, ?_⟩
          rw [step, td, if_pos (decide_eq_true hm)]
          refine TupsAt.snoc ((g4.up e3).upd (e3 _ _ g1)) ?_
          rw [upd_ne ne, hq3]
        · refine .inl ⟨hm, e2, acc, g1, g2, us, g3, ?_⟩
          rw [step, td, if_neg (by simp [hm]), List.append_nil]
          exact g4
    · obtain ⟨e2, acc, g1, g2, us, g3, g4⟩ := c
      subst g3
      rw [List.length_map, ht.1, List.take_length] at g4
      have nq : H D = none := by
        cases z : H D with
        | none => rfl
        | some o => rw [e _ _ z] at hD; cases hD
      exact k us D H' nq (e.trans e2) g1 g4
end
end Jk

namespace Jk
open PySem L2 Evl
def spInit (A : Adr) : Sp := fun vs H Q E => ∃ (p dx : Addr) (x : V), vs = [.ref p, x] ∧ H p = some (.ins A.c_Web dx []) ∧ Thing H x ∧
  (inR x 1 30 = false → E (.ref A.c_BadSize) none H) ∧
  (inR x 1 30 = true → ∀ l ds H', WebAt A.c_Web H' p l ds (List.replicate (iOf x).toNat []) → But [p] H H' → H l = none → (∀ d ∈ ds, H d = none) → Q .non H')
section
variable {P : Program} {w : World} {K : PySem.W.Frag} {mg : Str → Option Value} {base : Heap} {A : Adr}
theorem ok_Web_init (T : Txt K mg A) : FnOk P w K mg base (L2.CX P w) 2 A.a_Web_init A.d_Web_init ["self", "many"] (spInit A) := by
  refine T.F_Web_init.okX sc_Web_init (fun vs H Q E h => ?_) (fun cdv C outer s H vs Q E hr h => ?_)
  · obtain ⟨p, dx, x, rfl, _⟩ := h
    rfl
  · obtain ⟨p, dx, x, rfl, h1, tx, k1, k2⟩ := h
    refine ⟨_, (pss_cons (ps_if (pt_not (pt_val (pe_call (ok_whole_within T) (hr.mono (by decide)) rfl T.g_whole_within T.k_whole_within T.b_whole_within .nil pass0 (pa_cons (pv 1) (pa_cons pe_int (pa_cons (pe_glob (v := .int 30) rfl T.cMOST_POINTS.choose_spec ⟨_, rfl⟩) pa_nil))))))
    (pss_one (ps_raise rfl (takes_of rfl rfl rfl rfl) (pmk_own PySem.F.excBase_ValueError T.xBadSize T.gBadSize T.kBadSize (raises_own T.bBadSize T.tBadSize) rfl)))
    pss_nil)
  (pss_one (ps_fld (pv 0) (pe_lc (own := [("point", 2)]) rfl sc_Web_init.nd (pi_range1 rfl T.range (pa_cons (pv 1) pa_nil)) (blkOk_by (own := [("point", 2)]) (N := ["self", "many", "point"]) (sc := defScope s_Web_init) (by decide +kernel)) (fun _ _ _ _ _ => by exact (pg_name (i := 2) sc_Web_init.nd rfl (Or.inl rfl))) (fun _ _ _ _ _ => by exact pts_nil) (fun _ _ _ _ _ => by exact pe_dictJ)) rfl))), ?_⟩
    simp [L2.start, and_assoc, spWhole, tx]
    cases hx : inR x 1 30 with
    | false => simpa using k1 hx
    | true =>
      obtain ⟨i, rfl, i1, i30⟩ : ∃ i, x = .int i ∧ 1 ≤ i ∧ i ≤ 30 := by
        cases x with
        | int i => simp [inR] at hx; exact ⟨i, rfl, hx.1, hx.2⟩
        | _ => cases hx
      simp
      refine ⟨_, rfl, i, rfl, by omega, by omega, fun D hD => ?_⟩
      refine lc_range (lo := 0) (n := i.toNat) (CompI D H fun k acc H' => ∃ ds : List Addr, acc = ds.map V.ref ∧ ds.length = k ∧ ds.Nodup ∧ ∀ d ∈ ds, H' d = some (.dK []) ∧ H d = none) ⟨Ex.new hD, [], upd_same, by simp, [], rfl, rfl, List.nodup_nil, fun d z => nomatch z⟩ (fun k H' hk c => ?_) (fun H' c => ?_)
      · obtain ⟨e, acc, g1, g2, ds, g3, g4, g5, g6⟩ := c
        simp [wipe, tYes]
        intro d H2 hd e2 hd2
        have ne : d ≠ D := fun z => by rw [z, g1] at hd; cases hd
        refine CompI.push hD (e.trans e2) (e2 _ _ g1) (by rw [g3, List.length_map]; omega) ⟨ds ++ [d], by rw [g3, List.map_append]; rfl, by rw [List.length_append, g4]; rfl, nd_snoc g5 (fun z => by rw [(g6 d z).1] at hd; cases hd), fun d' z => ?_⟩
        rcases List.mem_append.mp z with z | z
        · have y := e2 _ _ (g6 d' z).1
          rw [upd_ne (ne_of y (e2 _ _ g1) (by intro q; cases q))]
          exact ⟨y, (g6 d' z).2⟩
        · have z' : d' = d := by simpa using z
          subst z'
          rw [upd_ne ne]
          exact ⟨hd2, fresh_back e hd⟩
      · obtain ⟨e, acc, g1, g2, ds, g3, g4, g5, g6⟩ := c
        have hp := e _ _ h1
        subst g3
        simp [and_assoc, hp, T.cl_Web, T.n_Web__near]
        have npD : D ≠ p := fun z => by rw [z, h1] at hD; cases hD
        refine k2 hx D ds _ ⟨⟨dx, upd_same⟩, by rw [upd_ne npD]; exact g1, g5, by rw [List.length_replicate, g4]; rfl, fun k d r a b => ?_⟩ ((But.of_ex e).updT (by simp)) hD (fun d z => (g6 d z).2)
        have hd := g6 d (List.mem_of_getElem? a)
        have er : r = [] := by
          have := List.mem_of_getElem? b
          exact (List.mem_replicate.mp this).2
        subst er
        rw [upd_ne (ne_of hd.1 hp (by intro z; cases z))]
        exact hd.1
end
end Jk

namespace Jk
open PySem L2 Evl
/-! ## the class of a refusal -/
section
variable {K : PySem.W.Frag} {σ : L2.St} {H : Hp} {ta tb : TE}
theorem el_lstJ {tr : TA} {vs : List V} (h : EvA tr σ H vs) (hl : vs.length ≤ 1000) : EvL (jLst tr) σ H vs := fun H1 e Q q =>
  h H1 e _ fun H2 e2 => ⟨hl, fun p H3 hp e3 h3 => q p H3 (fresh_back e2 hp) (e2.trans e3) h3⟩
theorem el_catJ {xs ys : List V} (ha : EvL ta σ H xs) (hb : EvL tb σ H ys) (z : xs.length + ys.length ≤ 100000) : EvL (tOp jCat ta tb) σ H (xs ++ ys) := fun H1 e Q q =>
  ha H1 e _ fun p H2 hp e2 h2 => hb H2 (e.trans e2) _ fun r H3 hr e3 h3 => ⟨p, r, xs, ys, rfl, rfl, e3 _ _ h2, h3, z, fun l H4 hl e4 h4 => q l H4 (fresh_back (e2.trans e3) hl) ((e2.trans e3).trans e4) h4⟩
theorem el_catV {p : Addr} {xs ys : List V} (ha : Ev ta σ H (.ref p)) (hx : H p = some (.lst xs)) (hb : EvL tb σ H ys) (z : xs.length + ys.length ≤ 100000) : EvL (tOp jCat ta tb) σ H (xs ++ ys) := fun H1 e Q q =>
  ha H1 e _ fun H2 e2 => hb H2 (e.trans e2) _ fun r H3 hr e3 h3 => ⟨p, r, xs, ys, rfl, rfl, ((e.trans e2).trans e3) _ _ hx, h3, z, fun l H4 hl e4 h4 => q l H4 (fresh_back (e2.trans e3) hl) ((e2.trans e3).trans e4) h4⟩
theorem el_repJ {xs : List V} {k : Int} (ha : EvL ta σ H xs) (hb : Ev tb σ H (.int k)) (h0 : 0 ≤ k ∧ k ≤ 1000) (z : xs.length ≤ 1000) : EvL (tOp jRep ta tb) σ H (List.replicate k.toNat xs).flatten := fun H1 e Q q =>
  ha H1 e _ fun p H2 hp e2 h2 => hb H2 (e.trans e2) _ fun H3 e3 => ⟨p, k, xs, rfl, rfl, e3 _ _ h2, h0.1, h0.2, z, fun l H4 hl e4 h4 => q l H4 (fresh_back (e2.trans e3) hl) ((e2.trans e3).trans e4) h4⟩
def rInt1 : List V → Hp → VK → Prop := fun xs H Q => (∃ i, xs = [.int i] ∧ Q (.int i) H) ∨ ∃ k, xs = [.bl k] ∧ Q (.int (if k then 1 else 0)) H
theorem ev_intb {b : Bool} (h : Ev ta σ H (.bl b)) : Ev (tCB rInt1 (tCons ta tNil)) σ H (.int (if b then 1 else 0)) := fun H1 e Q q =>
  h H1 e _ fun H2 e2 => .inr ⟨b, rfl, q H2 e2⟩
theorem ev_isX {a D : Addr} {c : V} {cv : Value} {b : Bool} (h0 : σ[0]? = some (some (.ref a))) (ha : H a = some (ExK (.ref D) none a)) (ec : ExcC K D) (hc : ClsV c cv) (hk : PySem.W.kitOne K (.ref D) cv = some b) :
    Ev (tCB (rIsX K) (tCons (tVar 0) (tCons (tC c) tNil))) σ H (.bl b) := fun H1 e Q q => ⟨_, h0, a, D, c, cv, b, rfl, e _ _ ha, ec, hc, hk, q H1 (Ex.refl H1)⟩
def pcV (w : Str) (b : Bool) : List V := if b then [.str w] else []
def pc (w : Str) (b : Bool) : List Str := if b then [w] else []
theorem pcV_eq (w : Str) (b : Bool) : pcV w b = (pc w b).map V.str := by cases b <;> rfl
theorem pcV_len (w : Str) (b : Bool) : (pcV w b).length ≤ 1 := by cases b <;> simp [pcV]
theorem el_piece {w : Str} {b : Bool} (h : Ev ta σ H (.bl b)) : EvL (tOp jRep (jLst (tCons (tC (.str w)) tNil)) (tCB rInt1 (tCons ta tNil))) σ H (pcV w b) := by
  have z := el_repJ (el_lstJ (ea_cons (ev_c (v := .str w)) ea_nil) (by simp)) (ev_intb h) (by cases b <;> simp) (by simp)
  cases b <;> simpa [pcV] using z
end
def kinds (A : Adr) : List (Addr × Str) := [(A.c_BadSize, "size"), (A.c_BadPoint, "point"), (A.c_Twice, "twice"), (A.c_NoTie, "no tie"), (A.c_TooMany, "many")]
def spKind (A : Adr) : Sp := fun vs H Q _ => ∃ (a D : Addr) (z : Str), vs = [.ref a] ∧ H a = some (ExK (.ref D) none a) ∧ (D, z) ∈ kinds A ∧ ∀ H', Ex H H' → Q (.str z) H'
section
variable {P : Program} {w : World} {K : PySem.W.Frag} {mg : Str → Option Value} {base : Heap} {A : Adr}
def allPc (b1 b2 b3 b4 b5 b6 b7 b8 b9 : Bool) : List Str := ((((((((pc "size" b1 ++ pc "point" b2) ++ pc "twice" b3) ++ pc "no tie" b4) ++ pc "many" b5) ++ pc "row" b6) ++ pc "tree" b7) ++ pc "text" b8) ++ pc "base" (!b9))
structure Asked (K : PySem.W.Frag) (A : Adr) (D : Addr) (z : Str) (b1 b2 b3 b4 b5 b6 b7 b8 b9 : Bool) : Prop where
  ec : ExcC K D
  h1 : PySem.W.kitOne K (.ref D) (.ref A.c_BadSize) = some b1
  h2 : PySem.W.kitOne K (.ref D) (.ref A.c_BadPoint) = some b2
  h3 : PySem.W.kitOne K (.ref D) (.ref A.c_Twice) = some b3
  h4 : PySem.W.kitOne K (.ref D) (.ref A.c_NoTie) = some b4
  h5 : PySem.W.kitOne K (.ref D) (.ref A.c_TooMany) = some b5
  h6 : PySem.W.kitOne K (.ref D) (.ref A.c_NoTree) = some b6
  h7 : PySem.W.kitOne K (.ref D) (.ref A.c_BadTree) = some b7
  h8 : PySem.W.kitOne K (.ref D) (.ref A.c_BadText) = some b8
  h9 : PySem.W.kitOne K (.ref D) (.type "ValueError") = some b9
  all : Txt.join "/" (allPc b1 b2 b3 b4 b5 b6 b7 b8 b9) = z
  len : ((allPc b1 b2 b3 b4 b5 b6 b7 b8 b9).map (fun y => y.length)).sum + (allPc b1 b2 b3 b4 b5 b6 b7 b8 b9).length ≤ 1000
theorem asked_of (T : Txt K mg A) {D : Addr} {z : Str} (h : (D, z) ∈ kinds A) : ∃ b1 b2 b3 b4 b5 b6 b7 b8 b9, Asked K A D z b1 b2 b3 b4 b5 b6 b7 b8 b9 := by
  unfold kinds at h
  simp only [List.mem_cons, Prod.mk.injEq, List.not_mem_nil, or_false] at h
  rcases h with ⟨rfl, rfl⟩ | ⟨rfl, rfl⟩ | ⟨rfl, rfl⟩ | ⟨rfl, rfl⟩ | ⟨rfl, rfl⟩
  · exact ⟨_, _, _, _, _, _, _, _, _, T.ec_BadSize, T.is_BadSize_BadSize, T.is_BadSize_BadPoint, T.is_BadSize_Twice, T.is_BadSize_NoTie, T.is_BadSize_TooMany, T.is_BadSize_NoTree, T.is_BadSize_BadTree, T.is_BadSize_BadText, T.is_BadSize_ValueError, by decide +kernel, by decide +kernel⟩
  · exact ⟨_, _, _, _, _, _, _, _, _, T.ec_BadPoint, T.is_BadPoint_BadSize, T.is_BadPoint_BadPoint, T.is_BadPoint_Twice, T.is_BadPoint_NoTie, T.is_BadPoint_TooMany, T.is_BadPoint_NoTree, T.is_BadPoint_BadTree, T.is_BadPoint_BadText, T.is_BadPoint_ValueError, by decide +kernel, by decide +kernel⟩
  · exact ⟨_, _, _, _, _, _, _, _, _, T.ec_Twice, T.is_Twice_BadSize, T.is_Twice_BadPoint, T.is_Twice_Twice, T.is_Twice_NoTie, T.is_Twice_TooMany, T.is_Twice_NoTree, T.is_Twice_BadTree, T.is_Twice_BadText, T.is_Twice_ValueError, by decide +kernel, by decide +kernel⟩
  · exact ⟨_, _, _, _, _, _, _, _, _, T.ec_NoTie, T.is_NoTie_BadSize, T.is_NoTie_BadPoint, T.is_NoTie_Twice, T.is_NoTie_NoTie, T.is_NoTie_TooMany, T.is_NoTie_NoTree, T.is_NoTie_BadTree, T.is_NoTie_BadText, T.is_NoTie_ValueError, by decide +kernel, by decide +kernel⟩
  · exact ⟨_, _, _, _, _, _, _, _, _, T.ec_TooMany, T.is_TooMany_BadSize, T.is_TooMany_BadPoint, T.is_TooMany_Twice, T.is_TooMany_NoTie, T.is_TooMany_TooMany, T.is_TooMany_NoTree, T.is_TooMany_BadTree, T.is_TooMany_BadText, T.is_TooMany_ValueError, by decide +kernel, by decide +kernel⟩
theorem ok_l_kind (T : Txt K mg A) : FnOk P w K mg base CX0 1 A.a_l_kind A.d_l_kind ["_law_e"] (spKind A) := by
  refine T.F_l_kind.ok sc_l_kind (fun vs H Q E h => ?_) (fun cdv C outer s H vs Q E hr h => ?_)
  · obtain ⟨a, D, z, rfl, _⟩ := h
    rfl
  · obtain ⟨a, D, z, rfl, ha, hm, k⟩ := h
    obtain ⟨b1, b2, b3, b4, b5, b6, b7, b8, b9, S⟩ := asked_of T hm
    refine ⟨_, (pss_cons (ps_set (i := 1) sc_l_kind.nd rfl (Or.inl rfl) (pe_op op_catJ (pe_op op_repJ (pe_lstJ (pa_cons pe_str pa_nil)) (pe_callTy call_int1 (by rfl) T.int (by decide +kernel) (pa_cons (pe_callB call_isX (by rfl) T.isinstance (by decide +kernel) (pa_cons (pv 0) (pa_cons (pe_glob (v := .ref A.c_BadSize) rfl T.gBadSize rfl) pa_nil))) pa_nil))) (pe_op op_repJ (pe_lstJ (pa_cons pe_str pa_nil)) (pe_callTy call_int1 (by rfl) T.int (by decide +kernel) (pa_cons (pe_callB call_isX (by rfl) T.isinstance (by decide +kernel) (pa_cons (pv 0) (pa_cons (pe_glob (v := .ref A.c_BadPoint) rfl T.gBadPoint rfl) pa_nil))) pa_nil)))))
  (pss_cons (ps_set (i := 1) sc_l_kind.nd rfl (Or.inl rfl) (pe_op op_catJ (pe_op op_catJ (pv 1) (pe_op op_repJ (pe_lstJ (pa_cons pe_str pa_nil)) (pe_callTy call_int1 (by rfl) T.int (by decide +kernel) (pa_cons (pe_callB call_isX (by rfl) T.isinstance (by decide +kernel) (pa_cons (pv 0) (pa_cons (pe_glob (v := .ref A.c_Twice) rfl T.gTwice rfl) pa_nil))) pa_nil)))) (pe_op op_repJ (pe_lstJ (pa_cons pe_str pa_nil)) (pe_callTy call_int1 (by rfl) T.int (by decide +kernel) (pa_cons (pe_callB call_isX (by rfl) T.isinstance (by decide +kernel) (pa_cons (pv 0) (pa_cons (pe_glob (v := .ref A.c_NoTie) rfl T.gNoTie rfl) pa_nil))) pa_nil)))))
  (pss_cons (ps_set (i := 1) sc_l_kind.nd rfl (Or.inl rfl) (pe_op op_catJ (pe_op op_catJ (pv 1) (pe_op op_repJ (pe_lstJ (pa_cons pe_str pa_nil)) (pe_callTy call_int1 (by rfl) T.int (by decide +kernel) (pa_cons (pe_callB call_isX (by rfl) T.isinstance (by decide +kernel) (pa_cons (pv 0) (pa_cons (pe_glob (v := .ref A.c_TooMany) rfl T.gTooMany rfl) pa_nil))) pa_nil)))) (pe_op op_repJ (pe_lstJ (pa_cons pe_str pa_nil)) (pe_callTy call_int1 (by rfl) T.int (by decide +kernel) (pa_cons (pe_callB call_isX (by rfl) T.isinstance (by decide +kernel) (pa_cons (pv 0) (pa_cons (pe_glob (v := .ref A.c_NoTree) rfl T.gNoTree rfl) pa_nil))) pa_nil)))))
  (pss_cons (ps_set (i := 1) sc_l_kind.nd rfl (Or.inl rfl) (pe_op op_catJ (pe_op op_catJ (pv 1) (pe_op op_repJ (pe_lstJ (pa_cons pe_str pa_nil)) (pe_callTy call_int1 (by rfl) T.int (by decide +kernel) (pa_cons (pe_callB call_isX (by rfl) T.isinstance (by decide +kernel) (pa_cons (pv 0) (pa_cons (pe_glob (v := .ref A.c_BadTree) rfl T.gBadTree rfl) pa_nil))) pa_nil)))) (pe_op op_repJ (pe_lstJ (pa_cons pe_str pa_nil)) (pe_callTy call_int1 (by rfl) T.int (by decide +kernel) (pa_cons (pe_callB call_isX (by rfl) T.isinstance (by decide +kernel) (pa_cons (pv 0) (pa_cons (pe_glob (v := .ref A.c_BadText) rfl T.gBadText rfl) pa_nil))) pa_nil)))))
  (pss_one (ps_ret (pe_join pe_str (pe_op op_catJ (pv 1) (pe_op op_repJ (pe_lstJ (pa_cons pe_str pa_nil)) (pe_callTy call_int1 (by rfl) T.int (by decide +kernel) (pa_cons (pe_not (pe_callB call_isX (by rfl) T.isinstance (by decide +kernel) (pa_cons (pv 0) (pa_cons (pe_bltn (v := .ty "ValueError") (u := .type "ValueError") (by rfl) T.ValueError (by decide +kernel) rfl) pa_nil)))) pa_nil))))))))))), ?_⟩
    refine q_asgL (el_catJ (el_piece (ev_isX rfl ha S.ec (.own _) S.h1)) (el_piece (ev_isX rfl ha S.ec (.own _) S.h2)) ?_) (fun p1 H1 n1 e1 g1 => ?_)
    · have := pcV_len "size" b1; have := pcV_len "point" b2; omega
    have a1 := e1 _ _ ha
    have l1 : ∀ (w : Str) (b : Bool), (pcV w b).length ≤ 1 := pcV_len
    refine q_asgL (el_catJ (el_catV (ev_var rfl) g1 (el_piece (ev_isX rfl a1 S.ec (.own _) S.h3)) ?_) (el_piece (ev_isX rfl a1 S.ec (.own _) S.h4)) ?_) (fun p2 H2 n2 e2 g2 => ?_)
    · simp only [List.length_append]; have := l1 "size" b1; have := l1 "point" b2; have := l1 "twice" b3; omega
    · simp only [List.length_append]; have := l1 "size" b1; have := l1 "point" b2; have := l1 "twice" b3; have := l1 "no tie" b4; omega
    have a2 := e2 _ _ a1
    refine q_asgL (el_catJ (el_catV (ev_var rfl) g2 (el_piece (ev_isX rfl a2 S.ec (.own _) S.h5)) ?_) (el_piece (ev_isX rfl a2 S.ec (.own _) S.h6)) ?_) (fun p3 H3 n3 e3 g3 => ?_)
    · simp only [List.length_append]; have := l1 "size" b1; have := l1 "point" b2; have := l1 "twice" b3; have := l1 "no tie" b4; have := l1 "many" b5; omega
    · simp only [List.length_append]; have := l1 "size" b1; have := l1 "point" b2; have := l1 "twice" b3; have := l1 "no tie" b4; have := l1 "many" b5; have := l1 "row" b6; omega
    have a3 := e3 _ _ a2
    refine q_asgL (el_catJ (el_catV (ev_var rfl) g3 (el_piece (ev_isX rfl a3 S.ec (.own _) S.h7)) ?_) (el_piece (ev_isX rfl a3 S.ec (.own _) S.h8)) ?_) (fun p4 H4 n4 e4 g4 => ?_)
    · simp only [List.length_append]; have := l1 "size" b1; have := l1 "point" b2; have := l1 "twice" b3; have := l1 "no tie" b4; have := l1 "many" b5; have := l1 "row" b6; have := l1 "tree" b7; omega
    · simp only [List.length_append]; have := l1 "size" b1; have := l1 "point" b2; have := l1 "twice" b3; have := l1 "no tie" b4; have := l1 "many" b5; have := l1 "row" b6; have := l1 "tree" b7; have := l1 "text" b8; omega
    have a4 := e4 _ _ a3
    refine ⟨⟨_, rfl⟩, el_catV (ev_var rfl) g4 (el_piece (ev_notV (ev_isX rfl a4 S.ec (.ty _) S.h9))) ?_ H4 (Ex.refl _) _ fun p5 H5 n5 e5 g5 => ?_⟩
    · simp only [List.length_append]; have := l1 "size" b1; have := l1 "point" b2; have := l1 "twice" b3; have := l1 "no tie" b4; have := l1 "many" b5; have := l1 "row" b6; have := l1 "tree" b7; have := l1 "text" b8; have := l1 "base" (!b9); omega
    refine ⟨"/", p5, allPc b1 b2 b3 b4 b5 b6 b7 b8 b9, rfl, rfl, .inl (.inl (.inl ?_)), ?_, ?_⟩
    · rw [g5]
      simp only [allPc, List.map_append, pcV_eq]
    · have := S.len
      have e : (Str.ofString "/").length = 1 := by decide +kernel
      rw [e, Nat.mul_one]
      exact Nat.le_trans this (by decide)
    · rw [S.all]
      exact k _ ((((e1.trans e2).trans e3).trans e4).trans e5)
end
end Jk

namespace Jk
open PySem L2 Evl
/-! ## words that differ -/
@[simp] theorem w_put_take : ((Str.ofString "put") = (Str.ofString "take")) = False := eq_false (by decide +kernel)
@[simp] theorem w_put_has : ((Str.ofString "put") = (Str.ofString "has")) = False := eq_false (by decide +kernel)
@[simp] theorem w_put_grow : ((Str.ofString "put") = (Str.ofString "grow")) = False := eq_false (by decide +kernel)
@[simp] theorem w_take_put : ((Str.ofString "take") = (Str.ofString "put")) = False := eq_false (by decide +kernel)
@[simp] theorem w_take_has : ((Str.ofString "take") = (Str.ofString "has")) = False := eq_false (by decide +kernel)
@[simp] theorem w_take_grow : ((Str.ofString "take") = (Str.ofString "grow")) = False := eq_false (by decide +kernel)
@[simp] theorem w_has_put : ((Str.ofString "has") = (Str.ofString "put")) = False := eq_false (by decide +kernel)
@[simp] theorem w_has_take : ((Str.ofString "has") = (Str.ofString "take")) = False := eq_false (by decide +kernel)
@[simp] theorem w_has_grow : ((Str.ofString "has") = (Str.ofString "grow")) = False := eq_false (by decide +kernel)
@[simp] theorem w_grow_put : ((Str.ofString "grow") = (Str.ofString "put")) = False := eq_false (by decide +kernel)
@[simp] theorem w_grow_take : ((Str.ofString "grow") = (Str.ofString "take")) = False := eq_false (by decide +kernel)
@[simp] theorem w_grow_has : ((Str.ofString "grow") = (Str.ofString "has")) = False := eq_false (by decide +kernel)
/-! ## the law's own web -/
def ownD (n : Int) (t : Addr) : List (Key × V) := [(Sum.inr "many", .int n), (Sum.inr "ties", .ref t)]
theorem own_many (n : Int) (t : Addr) : valV (ownD n t) (Sum.inr "many") = some (.int n) := valV_pos rfl
theorem own_ties (n : Int) (t : Addr) : valV (ownD n t) (Sum.inr "ties") = some (.ref t) := by
  unfold ownD
  rw [valV_neg (by show ¬ (Sum.inr ("many" : Str) : Key) = Sum.inr ("ties" : Str); intro z; exact absurd (Sum.inr.inj z) (by decide +kernel)), valV_pos rfl]
def tieD (ties : List (Int × Int)) : List (List Key × V) := ties.map fun p => (keyP p, V.bl true)
theorem tieD_val (ties : List (Int × Int)) (p : Int × Int) : valV (tieD ties) (keyP p) = if p ∈ ties then some (.bl true) else none := by
  unfold tieD
  induction ties with
  | nil => rfl
  | cons a r ih =>
    by_cases e : a = p
    · subst e
      simp [valV_pos]
    · have e' : ¬ keyP a = keyP p := fun z => e (keyP_inj z)
      rw [List.map_cons, valV_neg (by exact e'), ih]
      have : p ∈ a :: r ↔ p ∈ r := by simp [Ne.symm e]
      simp [this]
structure OwnAt (H : Hp) (o t : Addr) (n : Int) (ties : List (Int × Int)) : Prop where
  ob : H o = some (.dK (ownD n t))
  dt : H t = some (.dT (tieD ties))
theorem OwnAt.up {H H' : Hp} {o t : Addr} {n : Int} {ties : List (Int × Int)} (h : OwnAt H o t n ties) (e : Ex H H') : OwnAt H' o t n ties := ⟨e _ _ h.ob, e _ _ h.dt⟩
theorem OwnAt.uniq {H : Hp} {o t t' : Addr} {n n' : Int} {ties ties' : List (Int × Int)} (W : OwnAt H o t n ties) (W' : OwnAt H o t' n' ties') : t' = t ∧ n' = n ∧ ties' = ties := by
  have z : ownD n t = ownD n' t' := HO.dK.inj (Option.some.inj (W.ob.symm.trans W'.ob))
  have y1 := congrArg (fun l => valV l (Sum.inr ("many" : Str) : Key)) z
  have y2 := congrArg (fun l => valV l (Sum.inr ("ties" : Str) : Key)) z
  simp only [own_many, own_ties] at y1 y2
  have e1 : n = n' := V.int.inj (Option.some.inj y1)
  have e2 : t = t' := V.ref.inj (Option.some.inj y2)
  subst e1 e2
  have z2 : tieD ties = tieD ties' := HO.dT.inj (Option.some.inj (W.dt.symm.trans W'.dt))
  unfold tieD at z2
  exact ⟨rfl, rfl, ((List.map_inj_right (fun a b h => keyP_inj (Prod.mk.inj h).1)).mp z2).symm⟩
theorem own_ex {H : Hp} {o t : Addr} {n : Int} {ties : List (Int × Int)} {R : Addr → Int → List (Int × Int) → Prop} (W : OwnAt H o t n ties) : (∃ t' n' ties', OwnAt H o t' n' ties' ∧ R t' n' ties') ↔ R t n ties :=
  ⟨fun ⟨_, _, _, W', r⟩ => by obtain ⟨rfl, rfl, rfl⟩ := W.uniq W'; exact r, fun r => ⟨t, n, ties, W, r⟩⟩
theorem own_ex2 {H : Hp} {o t : Addr} {n : Int} {ties : List (Int × Int)} {R : Addr → Int → Prop} (W : OwnAt H o t n ties) : (∃ t' n', (∃ ties', OwnAt H o t' n' ties') ∧ R t' n') ↔ R t n :=
  ⟨fun ⟨_, _, ⟨_, W'⟩, r⟩ => by obtain ⟨rfl, rfl, _⟩ := W.uniq W'; exact r, fun r => ⟨t, n, ⟨ties, W⟩, r⟩⟩
def isInt : V → Bool
  | .int _ => true
  | _ => false
def spWholeL : Sp := fun vs H Q _ => ∃ (x : V), vs = [x] ∧ Thing H x ∧ Q (.bl (isInt x)) H
def okN (n : Int) (x : V) : Bool := inR x 0 (n - 1)
def spIsPt : Sp := fun vs H Q _ => ∃ (o t : Addr) (n : Int) (ties : List (Int × Int)) (x : V), vs = [.ref o, x] ∧ OwnAt H o t n ties ∧ Thing H x ∧ Q (.bl (okN n x)) H
def tieOf (x y : V) : Int × Int := (min (iOf x) (iOf y), max (iOf x) (iOf y))
def dueS (n : Int) (ties : List (Int × Int)) (w : Str) (x y : V) : Str :=
  if w = "grow" then (if n = 30 then "many" else "") else
  if (okN n x && (okN n y && !decide (x = y))) = false then "point" else
  if w = "put" ∧ tieOf x y ∈ ties then "twice" else
  if w = "take" ∧ ¬ tieOf x y ∈ ties then "no tie" else ""
def spDue : Sp := fun vs H Q _ => ∃ (o t : Addr) (n : Int) (ties : List (Int × Int)) (wd : Str) (x y : V), vs = [.ref o, .str wd, x, y] ∧ OwnAt H o t n ties ∧ Thing H x ∧ Thing H y ∧ ∀ H', Ex H H' → Q (.str (dueS n ties wd x y)) H'
section
variable {P : Program} {w : World} {K : PySem.W.Frag} {mg : Str → Option Value} {base : Heap} {A : Adr}
theorem ok_l_whole (T : Txt K mg A) : FnOk P w K mg base CX0 1 A.a_l_whole A.d_l_whole ["_law_thing"] spWholeL := by
  refine T.F_l_whole.ok sc_l_whole (fun vs H Q E h => ?_) (fun cdv C outer s H vs Q E hr h => ?_)
  · obtain ⟨x, rfl, _⟩ := h
    rfl
  · obtain ⟨x, rfl, th, q⟩ := h
    refine ⟨_, (pss_one (ps_ret (pe_and (pe_callB call_isJ (by rfl) T.isinstance (by decide +kernel) (pa_cons (pv 0) (pa_cons (pe_bltn (v := .ty "int") (u := .type "int") (by rfl) T.int (by decide +kernel) rfl) pa_nil))) (pe_one (pe_not (pe_callB call_isJ (by rfl) T.isinstance (by decide +kernel) (pa_cons (pv 0) (pa_cons (pe_bltn (v := .ty "bool") (u := .type "bool") (by rfl) T.bool (by decide +kernel) rfl) pa_nil)))))))), ?_⟩
    cases th with
    | non => simpa [L2.start, isInt] using q
    | bl b => simpa [L2.start, isInt] using q
    | int i => simpa [L2.start, isInt] using q
    | str s => simpa [L2.start, isInt] using q
    | lst h => simpa [L2.start, isInt, tyN_lst h] using q
    | tup h => simpa [L2.start, isInt, tyN_tup h] using q
    | dK h => simpa [L2.start, isInt, tyN_dK h] using q
theorem ok_l_is_point (T : Txt K mg A) : FnOk P w K mg base CX0 2 A.a_l_is_point A.d_l_is_point ["_law_own", "_law_thing"] spIsPt := by
  refine T.F_l_is_point.ok sc_l_is_point (fun vs H Q E h => ?_) (fun cdv C outer s H vs Q E hr h => ?_)
  · obtain ⟨o, t, n, ties, x, rfl, _⟩ := h
    rfl
  · obtain ⟨o, t, n, ties, x, rfl, W, th, q⟩ := h
    have hu := hu_of hr
    refine ⟨_, (pss_one (ps_ret (pe_and (pe_call (ok_l_whole T) (hr.mono (by decide)) rfl T.g_l_whole T.k_l_whole T.b_l_whole .nil pass0 (pa_cons (pv 1) pa_nil)) (pe_one (pe_chain op_le op_lt pe_int (pv 1) (pe_dgetJ (by exact hu) (pv 0) pe_str (fun _ _ => rfl))))))), ?_⟩
    simp [L2.start, and_assoc, spWholeL, th]
    cases hi : isInt x with
    | false =>
      have : okN n x = false := by cases x <;> first | rfl | cases hi
      simpa [this] using q
    | true =>
      obtain ⟨i, rfl⟩ : ∃ i, x = .int i := by cases x <;> first | exact ⟨_, rfl⟩ | cases hi
      simp [and_assoc, W.ob, own_many]
      by_cases h0 : 0 ≤ i
      · have e : okN n (.int i) = decide (i < n) := by
          simp only [okN, inR]
          rw [decide_eq_decide]
          omega
        refine .inr ⟨h0, ?_⟩
        rw [← e]; exact q
      · have e : okN n (.int i) = false := by
          simp only [okN, inR]
          rw [decide_eq_false_iff_not]
          omega
        refine .inl ⟨by omega, ?_⟩
        rw [← e]; exact q
theorem ok_l_due (T : Txt K mg A) : FnOk P w K mg base CX0 3 A.a_l_due A.d_l_due ["_law_own", "_law_word", "_law_one", "_law_other"] spDue := by
  refine T.F_l_due.ok sc_l_due (fun vs H Q E h => ?_) (fun cdv C outer s H vs Q E hr h => ?_)
  · obtain ⟨o, t, n, ties, wd, x, y, rfl, _⟩ := h
    rfl
  · obtain ⟨o, t, n, ties, wd, x, y, rfl, W, tx, ty, q⟩ := h
    have hu := hu_of hr
    refine ⟨_, (pss_cons (ps_if (pt_cmpR op_eq (pv 1) pe_str (nomark _))
    (pss_one (ps_ret (pe_ix ix_listJ (pe_lstJ (pa_cons pe_str (pa_cons pe_str pa_nil))) (pe_callTy call_int1 (by rfl) T.int (by decide +kernel) (pa_cons (pe_cmpR op_eq (pe_dgetJ (by exact hu) (pv 0) pe_str (fun _ _ => rfl)) pe_int (nomark _)) pa_nil)) (fun _ _ => rfl))))
    pss_nil)
  (pss_cons (ps_if (PW.pt (pw_or (pt_not (pt_val (pe_call (ok_l_is_point T) (hr.mono (by decide)) rfl T.g_l_is_point T.k_l_is_point T.b_l_is_point .nil pass0 (pa_cons (pv 0) (pa_cons (pv 2) pa_nil))))) (pw_or (pt_not (pt_val (pe_call (ok_l_is_point T) (hr.mono (by decide)) rfl T.g_l_is_point T.k_l_is_point T.b_l_is_point .nil pass0 (pa_cons (pv 0) (pa_cons (pv 3) pa_nil))))) (pw_or1 (pt_cmpR op_eq (pv 2) (pv 3) (nomark _))))))
    (pss_one (ps_ret pe_str))
    pss_nil)
  (pss_cons (ps_set (i := 4) sc_l_due.nd rfl (Or.inl rfl) (pe_cmp (pc_dinT (by exact hu) (pe_tupJ (pa_cons (pe_callB (call_min2 rfl) (by rfl) T.min (by decide +kernel) (pa_cons (pv 2) (pa_cons (pv 3) pa_nil))) (pa_cons (pe_callB (call_max2 rfl) (by rfl) T.max (by decide +kernel) (pa_cons (pv 2) (pa_cons (pv 3) pa_nil))) pa_nil))) (pe_dgetJ (by exact hu) (pv 0) pe_str (fun _ _ => rfl))) rfl))
  (pss_cons (ps_if (PW.pt (pw_and (pt_cmpR op_eq (pv 1) pe_str (nomark _)) (pw_and1 (pt_val (pv 4)))))
    (pss_one (ps_ret pe_str))
    pss_nil)
  (pss_cons (ps_if (PW.pt (pw_and (pt_cmpR op_eq (pv 1) pe_str (nomark _)) (pw_and1 (pt_not (pt_val (pv 4))))))
    (pss_one (ps_ret pe_str))
    pss_nil)
  (pss_one (ps_ret pe_str))))))), ?_⟩
    by_cases hg : wd = "grow"
    · subst hg
      have e : dueS n ties "grow" x y = (if n = 30 then "many" else "" : Str) := by unfold dueS; rw [if_pos rfl]
      rw [e] at q
      simp [L2.start, and_assoc, W.ob, own_many]
      intro p H2 hp e2 h2
      have W2 := W.up e2
      have q2 := q H2 e2
      refine ⟨_, W2.ob, _, own_many n t, ?_⟩
      by_cases h30 : n = 30
      · rw [if_pos h30] at q2
        simp [h30, h2]
        exact q2
      · rw [if_neg h30] at q2
        simp [h30, h2]
        exact q2
    · simp [L2.start, and_assoc, hg, spIsPt, own_ex2 W, tx, ty]
      have q0 := q H (Ex.refl H)
      unfold dueS at q q0
      rw [if_neg hg] at q0
      cases e1 : okN n x with
      | false => simpa [e1] using q0
      | true =>
        cases e2 : okN n y with
        | false => simpa [e1, e2] using q0
        | true =>
          obtain ⟨i, rfl⟩ : ∃ i, x = .int i := by cases x <;> first | exact ⟨_, rfl⟩ | cases e1
          obtain ⟨j, rfl⟩ : ∃ i, y = .int i := by cases y <;> first | exact ⟨_, rfl⟩ | cases e2
          by_cases hij : i = j
          · subst hij
            simpa [e1] using q0
          · simp [hij]
            intro p H2 hp ex h2
            have W2 := W.up ex
            have q2 := q H2 ex
            rw [if_neg hg, if_neg (by simp [e1, e2, hij])] at q2
            have et : tieOf (.int i) (.int j) = ((if j < i then j else i), (if i < j then j else i)) := by
              unfold tieOf iOf
              refine Prod.ext ?_ ?_
              · show min i j = _
                rw [Int.min_def]; split <;> split <;> omega
              · show max i j = _
                rw [Int.max_def]; split <;> split <;> omega
            simp [and_assoc, W2.ob, own_ties, W2.dt, h2, tieD_val, ← et]
            clear q q0
            by_cases hm : tieOf (.int i) (.int j) ∈ ties <;> by_cases h1 : wd = "put" <;> by_cases h2 : wd = "take"
            · rw [h1] at h2; exact absurd h2 (by decide +kernel)
            · simpa [hm, h1, h2] using q2
            · simpa [hm, h1, h2] using q2
            · simpa [hm, h1, h2] using q2
            · rw [h1] at h2; exact absurd h2 (by decide +kernel)
            · refine .inr ⟨h1, .inl ⟨hm, .inl ⟨h2, ?_⟩⟩⟩
              simpa [hm, h1, h2] using q2
            · refine .inl ⟨h1, .inr ⟨h2, .inl ⟨hm, ?_⟩⟩⟩
              simpa [hm, h1, h2] using q2
            · refine .inl ⟨h1, .inl ⟨h2, ?_⟩⟩
              simpa [hm, h1, h2] using q2
end
end Jk

namespace Jk
open PySem L2 Evl
/-! ## deeds -/
def deed (A : Adr) (rows : List (List Int)) (wd : Str) (x y : V) : Option Addr :=
  if wd = "grow" then (if 30 ≤ rows.length then some A.c_TooMany else none) else
  if okTwo rows x y = false then some A.c_BadPoint else
  if wd = "put" ∧ tied rows (iOf x) (iOf y) = true then some A.c_Twice else
  if wd = "take" ∧ tied rows (iOf x) (iOf y) = false then some A.c_NoTie else none
def after (rows : List (List Int)) (wd : Str) (x y : V) : List (List Int) :=
  if wd = "grow" then rows ++ [[]] else if wd = "put" then putR rows (iOf x).toNat (iOf y).toNat else if wd = "take" then takeR rows (iOf x).toNat (iOf y).toNat else rows
def answer (rows : List (List Int)) (wd : Str) (x y : V) : V :=
  if wd = "grow" then .int rows.length else if wd = "has" then .bl (tied rows (iOf x) (iOf y)) else .non
def Word (wd : Str) : Prop := wd = "put" ∨ wd = "take" ∨ wd = "has" ∨ wd = "grow"
structure Rows (rows : List (List Int)) : Prop where
  sy : Sym rows
  small : ∀ r ∈ rows, r.length < 60
  few : rows.length ≤ 30
def NewIn (H : Hp) (ds ds' : List Addr) : Prop := ∀ d ∈ ds', d ∈ ds ∨ H d = none
theorem NewIn.self (H : Hp) (ds : List Addr) : NewIn H ds ds := fun _ h => .inl h
def spCall (A : Adr) : Sp := fun vs H Q E => ∃ (p l : Addr) (ds : List Addr) (rows : List (List Int)) (wd : Str) (x y : V), vs = [.ref p, .str wd, x, y] ∧ WebAt A.c_Web H p l ds rows ∧ Word wd ∧ Thing H x ∧ Thing H y ∧ Rows rows ∧
  (∀ D, deed A rows wd x y = some D → E (.ref D) none H) ∧
  (deed A rows wd x y = none → ∀ ds' H', WebAt A.c_Web H' p l ds' (after rows wd x y) → But (l :: ds) H H' → NewIn H ds ds' → Q (answer rows wd x y) H')
section
variable {P : Program} {w : World} {K : PySem.W.Frag} {mg : Str → Option Value} {base : Heap} {A : Adr}
theorem ok_l_call (T : Txt K mg A) : FnOk P w K mg base (L2.CX P w) 5 A.a_l_call A.d_l_call ["_law_web", "_law_word", "_law_one", "_law_other"] (spCall A) := by
  refine T.F_l_call.okX sc_l_call (fun vs H Q E h => ?_) (fun cdv C outer s H vs Q E hr h => ?_)
  · obtain ⟨p, l, ds, rows, wd, x, y, rfl, _⟩ := h
    rfl
  · obtain ⟨p, l, ds, rows, wd, x, y, rfl, W, hw, tx, ty, R, k1, k2⟩ := h
    refine ⟨_, (pss_cons (ps_if (pt_cmpR op_eq (pv 1) pe_str (nomark _))
    (pss_one (ps_ret (pe_meth0 (pv 0) T.cl_Web T.m_Web_grow (ok_Web_grow T) (hr.mono (by decide)) T.b_Web_grow .nil (passes_call (E := E) (takes_of rfl rfl rfl rfl) fun _ _ _ _ z => z))))
    pss_nil)
  (pss_cons (ps_if (pt_cmpR op_eq (pv 1) pe_str (nomark _))
    (pss_one (ps_ret (pe_meth (pv 0) T.cl_Web T.m_Web_put (ok_Web_put T) (hr.mono (by decide)) T.b_Web_put .nil (passes_call (E := E) (takes_of rfl rfl rfl rfl) fun _ _ _ _ z => z) (pa_cons (pv 2) (pa_cons (pv 3) pa_nil)))))
    pss_nil)
  (pss_cons (ps_if (pt_cmpR op_eq (pv 1) pe_str (nomark _))
    (pss_one (ps_ret (pe_meth (pv 0) T.cl_Web T.m_Web_take (ok_Web_take T) (hr.mono (by decide)) T.b_Web_take .nil (passes_call (E := E) (takes_of rfl rfl rfl rfl) fun _ _ _ _ z => z) (pa_cons (pv 2) (pa_cons (pv 3) pa_nil)))))
    pss_nil)
  (pss_one (ps_ret (pe_meth (pv 0) T.cl_Web T.m_Web_has (ok_Web_has T) (hr.mono (by decide)) T.b_Web_has .nil (passes_call (E := E) (takes_of rfl rfl rfl rfl) fun _ _ _ _ z => z) (pa_cons (pv 2) (pa_cons (pv 3) pa_nil)))))))), ?_⟩
    obtain ⟨⟨dx, h1⟩, h2, h3, h4, h5⟩ := id W
    have s100 : ∀ r ∈ rows, r.length ≤ 100 := fun r h => by have := R.small r h; omega
    have l1000 : rows.length ≤ 1000 := by have := R.few; omega
    have sub : ∀ z ∈ ds, z ∈ l :: ds := fun z h => List.mem_cons_of_mem _ h
    rcases hw with rfl | rfl | rfl | rfl
    · simp [L2.start, and_assoc, h1, spPut, web_ex W, tx, ty, R.sy]
      refine ⟨s100, fun a => k1 _ (by simp [deed, a]), fun a b => k1 _ (by simp [deed, a, b]), fun a b H' W' e => ?_⟩
      have := k2 (by simp [deed, a, b]) ds H' (by simpa [after] using W') (e.mono sub) (NewIn.self _ _)
      simpa [answer] using this
    · simp [L2.start, and_assoc, h1, spTake, web_ex W, tx, ty, R.sy]
      refine ⟨fun a => k1 _ (by simp [deed, a]), fun a b => k1 _ (by simp [deed, a, b]), fun a b H' W' e => ?_⟩
      have := k2 (by simp [deed, a, b]) ds H' (by simpa [after] using W') (e.mono sub) (NewIn.self _ _)
      simpa [answer] using this
    · simp [L2.start, and_assoc, h1, spHas, web_ex W, tx, ty]
      refine ⟨fun a => ?_, fun a => k1 _ (by simp [deed, a])⟩
      have := k2 (by simp [deed, a]) ds H (by simpa [after] using W) (But.of_ex (Ex.refl H)) (NewIn.self _ _)
      simpa [answer] using this
    · simp [L2.start, and_assoc, h1, spGrow, web_ex W, l1000]
      refine ⟨fun a => k1 _ (by simp [deed, a]), fun a d H' hd W' e => ?_⟩
      have := k2 (by simp [deed]; omega) (ds ++ [d]) H' (by simpa [after] using W') (e.mono (by simp)) (fun z hz => by
        rcases List.mem_append.mp hz with q | q
        · exact .inl q
        · have : z = d := by simpa using q
          exact .inr (this ▸ hd))
      simpa [answer] using this
/-! a refusal kept as a value -/
theorem exmJ (T : Txt K mg A) {D : Addr} {z : Str} (h : (D, z) ∈ kinds A) : PySem.W.exmOne K (.ref D) (.ref A.c_JoinError) = some true := by
  unfold kinds at h
  simp only [List.mem_cons, Prod.mk.injEq, List.not_mem_nil, or_false] at h
  rcases h with ⟨rfl, rfl⟩ | ⟨rfl, rfl⟩ | ⟨rfl, rfl⟩ | ⟨rfl, rfl⟩ | ⟨rfl, rfl⟩
  · exact PySem.W.exm_ref T.hb_JoinError T.hd_JoinError T.ht_JoinError T.su_BadSize_JoinError
  · exact PySem.W.exm_ref T.hb_JoinError T.hd_JoinError T.ht_JoinError T.su_BadPoint_JoinError
  · exact PySem.W.exm_ref T.hb_JoinError T.hd_JoinError T.ht_JoinError T.su_Twice_JoinError
  · exact PySem.W.exm_ref T.hb_JoinError T.hd_JoinError T.ht_JoinError T.su_NoTie_JoinError
  · exact PySem.W.exm_ref T.hb_JoinError T.hd_JoinError T.ht_JoinError T.su_TooMany_JoinError
end
end Jk

namespace Jk
open PySem L2 Evl
@[simp] theorem j_callS {sp : Sp} {E : L2.St → XK} {tr : TA} {σ : L2.St} {H : Hp} {Q : VK} : tCallS sp E tr σ H Q = tr σ H fun vs H1 => sp vs H1 Q (E σ) := rfl
def deedS (rows : List (List Int)) (wd : Str) (x y : V) : Str :=
  if wd = "grow" then (if 30 ≤ rows.length then "many" else "") else
  if okTwo rows x y = false then "point" else
  if wd = "put" ∧ tied rows (iOf x) (iOf y) = true then "twice" else
  if wd = "take" ∧ tied rows (iOf x) (iOf y) = false then "no tie" else ""
theorem deed_kind {A : Adr} {rows : List (List Int)} {wd : Str} {x y : V} {D : Addr} (h : deed A rows wd x y = some D) : (D, deedS rows wd x y) ∈ kinds A := by
  unfold deed at h
  unfold deedS kinds
  split at h
  · rename_i h1
    rw [if_pos h1]
    split at h
    · rename_i h2
      rw [if_pos h2]
      cases h; simp
    · cases h
  · rename_i h1
    rw [if_neg h1]
    split at h
    · rename_i h2
      rw [if_pos h2]
      cases h; simp
    · rename_i h2
      rw [if_neg h2]
      split at h
      · rename_i h3
        rw [if_pos h3]
        cases h; simp
      · rename_i h3
        rw [if_neg h3]
        split at h
        · rename_i h4
          rw [if_pos h4]
          cases h; simp
        · cases h
theorem deed_none {A : Adr} {rows : List (List Int)} {wd : Str} {x y : V} (h : deed A rows wd x y = none) : deedS rows wd x y = "" := by
  unfold deed at h
  unfold deedS
  split at h
  · rename_i h1
    rw [if_pos h1]
    split at h
    · cases h
    · rename_i h2
      rw [if_neg h2]
  · rename_i h1
    rw [if_neg h1]
    split at h
    · cases h
    · rename_i h2
      rw [if_neg h2]
      split at h
      · cases h
      · rename_i h3
        rw [if_neg h3]
        split at h
        · cases h
        · rename_i h4
          rw [if_neg h4]
theorem kinds_ne {A : Adr} {D : Addr} {z : Str} (h : (D, z) ∈ kinds A) : ¬ z = "" := by
  unfold kinds at h
  simp only [List.mem_cons, Prod.mk.injEq, List.not_mem_nil, or_false] at h
  rcases h with ⟨_, rfl⟩ | ⟨_, rfl⟩ | ⟨_, rfl⟩ | ⟨_, rfl⟩ | ⟨_, rfl⟩ <;> decide +kernel
def spSaid (A : Adr) : Sp := fun vs H Q _ => ∃ (p l : Addr) (ds : List Addr) (rows : List (List Int)) (wd : Str) (x y : V), vs = [.ref p, .str wd, x, y] ∧ WebAt A.c_Web H p l ds rows ∧ Word wd ∧ Thing H x ∧ Thing H y ∧ Rows rows ∧
  (∀ q ds' H', H q = none → WebAt A.c_Web H' p l ds' (if deedS rows wd x y = "" then after rows wd x y else rows) → But (l :: ds) H H' → NewIn H ds ds' →
    H' q = some (.tup [.str (deedS rows wd x y), if deedS rows wd x y = "" then answer rows wd x y else .non]) → Q (.ref q) H')
section
variable {P : Program} {w : World} {K : PySem.W.Frag} {mg : Str → Option Value} {base : Heap} {A : Adr}
theorem ok_l_said (T : Txt K mg A) : FnOk P w K mg base CX0 6 A.a_l_said A.d_l_said ["_law_web", "_law_word", "_law_one", "_law_other"] (spSaid A) := by
  refine T.F_l_said.ok sc_l_said (fun vs H Q E h => ?_) (fun cdv C outer s H vs Q E hr h => ?_)
  · obtain ⟨p, l, ds, rows, wd, x, y, rfl, _⟩ := h
    rfl
  · obtain ⟨p, l, ds, rows, wd, x, y, rfl, W, hw, tx, ty, R, k⟩ := h
    refine ⟨_, (pss_cons (ps_set (i := 4) sc_l_said.nd rfl (Or.inl rfl) pe_non)
  (pss_cons (ps_set (i := 5) sc_l_said.nd rfl (Or.inl rfl) pe_non)
  (pss_cons (ps_try_keep (i := 6) rfl rfl rfl rfl sc_l_said.nd rfl rfl ⟨rfl, by decide, .inl T.gJoinError⟩ takes0 (fun W pn xe tk _ => by exact (pss_one (ps_set (i := 5) sc_l_said.nd rfl (Or.inl rfl) (pe_callS (ok_l_call T) (hr.mono (by decide)) rfl T.g_l_call T.k_l_call T.b_l_call (fun σ => passAt tk σ) (pa_cons (pv 0) (pa_cons (pv 1) (pa_cons (pv 2) (pa_cons (pv 3) pa_nil)))))))) (fun a oe cls d pn hz hf => by exact (pss_one (ps_set (i := 4) sc_l_said.nd rfl (Or.inl rfl) (pv 6)))))
  (pss_cons (ps_if (pt_cmpR op_notN (pv 4) pe_non (nomark _))
    (pss_one (ps_ret (pe_tupJ (pa_cons (pe_call (ok_l_kind T) (hr.mono (by decide)) rfl T.g_l_kind T.k_l_kind T.b_l_kind .nil pass0 (pa_cons (pv 4) pa_nil)) (pa_cons pe_non pa_nil)))))
    pss_nil)
  (pss_one (ps_ret (pe_tupJ (pa_cons pe_str (pa_cons (pv 5) pa_nil))))))))), ?_⟩
    simp [L2.start, and_assoc, spCall, web_ex W, hw, tx, ty, R]
    refine ⟨fun D hD => ?_, fun hD ds' H' W' e n => ?_⟩
    · have hk := deed_kind hD
      have hne := kinds_ne hk
      refine ⟨true, exmJ T hk, fun _ a ha => ?_, fun z => nomatch z⟩
      simp
      intro na
      have e1 : Ex H (upd H a (ExK (.ref D) none a)) := Ex.new na
      refine ⟨a, D, deedS rows wd x y, rfl, upd_same, hk, fun H2 e2 q H3 hq e3 h3 => ?_⟩
      have e4 := (e1.trans e2).trans e3
      refine k q ds H3 (fresh_back (e1.trans e2) hq) (by rw [if_neg hne]; exact W.up e4) (But.of_ex e4) (NewIn.self _ _) ?_
      rw [if_neg hne]
      exact h3
    · have hz := deed_none hD
      intro q H3 hq e3 h3
      exact k q ds' H3 (e.dm q hq) (by rw [if_pos hz]; exact W'.up e3) (e.trans (But.of_ex e3)) n (by rw [if_pos hz, hz]; exact h3)
end
end Jk

namespace Jk
open PySem L2 Evl
/-! ## webs and ties, as they are counted -/
theorem getD_set (rows : List (List Int)) (i k : Nat) (x : List Int) (hi : i < rows.length) : (rows.set i x).getD k [] = if k = i then x else rows.getD k [] := by
  by_cases h : k = i
  · subst h
    rw [if_pos rfl, List.getD_eq_getElem?_getD, List.getElem?_set_self hi]; rfl
  · rw [if_neg h, List.getD_eq_getElem?_getD, List.getElem?_set_ne (Ne.symm h), ← List.getD_eq_getElem?_getD]
theorem getD_mem {rows : List (List Int)} {i : Nat} (h : i < rows.length) : rows.getD i [] ∈ rows := by
  rw [List.getD_eq_getElem?_getD, List.getElem?_eq_getElem h]
  exact List.getElem_mem h
theorem getD_far {rows : List (List Int)} {i : Nat} (h : ¬ i < rows.length) : rows.getD i [] = [] := by
  rw [List.getD_eq_getElem?_getD, List.getElem?_eq_none (by omega)]; rfl
structure Good (rows : List (List Int)) : Prop where
  one : 1 ≤ rows.length
  few : rows.length ≤ 30
  sy : Sym rows
  nd : ∀ i : Nat, (rows.getD i []).Nodup
  rng : ∀ (i : Nat) (j : Int), j ∈ rows.getD i [] → 0 ≤ j ∧ j < rows.length
  irr : ∀ i : Nat, ¬ (i : Int) ∈ rows.getD i []
def tN (rows : List (List Int)) (i j : Nat) : Prop := (j : Int) ∈ rows.getD i []
theorem tied_iff (rows : List (List Int)) (i j : Nat) : tied rows i j = true ↔ tN rows i j := by
  unfold tied tN
  rw [decide_eq_true_iff]
  rfl
theorem len_putR (rows : List (List Int)) (i j : Nat) : (putR rows i j).length = rows.length := by unfold putR; rw [List.length_set, List.length_set]
theorem len_takeR (rows : List (List Int)) (i j : Nat) : (takeR rows i j).length = rows.length := by unfold takeR; rw [List.length_set, List.length_set]
theorem putR_at (rows : List (List Int)) (i j k : Nat) (hi : i < rows.length) (hj : j < rows.length) : (putR rows i j).getD k [] = if k = j then rows.getD j [] ++ [(i : Int)] else if k = i then rows.getD i [] ++ [(j : Int)] else rows.getD k [] := by
  unfold putR
  rw [getD_set _ _ _ _ (by rw [List.length_set]; exact hj), getD_set _ _ _ _ hi]
theorem takeR_at (rows : List (List Int)) (i j k : Nat) (hi : i < rows.length) (hj : j < rows.length) : (takeR rows i j).getD k [] = if k = j then (rows.getD j []).filter (fun z => decide (z ≠ (i : Int))) else if k = i then (rows.getD i []).filter (fun z => decide (z ≠ (j : Int))) else rows.getD k [] := by
  unfold takeR
  rw [getD_set _ _ _ _ (by rw [List.length_set]; exact hj), getD_set _ _ _ _ hi]
theorem tN_put {rows : List (List Int)} {i j : Nat} (hi : i < rows.length) (hj : j < rows.length) (hij : i ≠ j) (a b : Nat) : tN (putR rows i j) a b ↔ tN rows a b ∨ (a = i ∧ b = j) ∨ (a = j ∧ b = i) := by
  unfold tN
  rw [putR_at _ _ _ _ hi hj]
  by_cases h1 : a = j
  · subst h1
    rw [if_pos rfl, List.mem_append, List.mem_singleton]
    constructor
    · rintro (h | h)
      · exact .inl h
      · exact .inr (.inr ⟨rfl, by omega⟩)
    · rintro (h | ⟨h, _⟩ | ⟨_, h⟩)
      · exact .inl h
      · exact absurd h.symm hij
      · exact .inr (by omega)
  · rw [if_neg h1]
    by_cases h2 : a = i
    · subst h2
      rw [if_pos rfl, List.mem_append, List.mem_singleton]
      constructor
      · rintro (h | h)
        · exact .inl h
        · exact .inr (.inl ⟨rfl, by omega⟩)
      · rintro (h | ⟨_, h⟩ | ⟨h, _⟩)
        · exact .inl h
        · exact .inr (by omega)
        · exact absurd h h1
    · rw [if_neg h2]
      constructor
      · exact .inl
      · rintro (h | ⟨h, _⟩ | ⟨h, _⟩)
        · exact h
        · exact absurd h h2
        · exact absurd h h1
theorem tN_take {rows : List (List Int)} {i j : Nat} (hi : i < rows.length) (hj : j < rows.length) (hij : i ≠ j) (a b : Nat) : tN (takeR rows i j) a b ↔ tN rows a b ∧ ¬ (a = i ∧ b = j) ∧ ¬ (a = j ∧ b = i) := by
  unfold tN
  rw [takeR_at _ _ _ _ hi hj]
  by_cases h1 : a = j
  · subst h1
    rw [if_pos rfl, List.mem_filter, decide_eq_true_iff]
    constructor
    · rintro ⟨h, h'⟩
      exact ⟨h, fun ⟨q, _⟩ => hij q.symm, fun ⟨_, q⟩ => h' (by omega)⟩
    · rintro ⟨h, _, h'⟩
      exact ⟨h, fun q => h' ⟨rfl, by omega⟩⟩
  · rw [if_neg h1]
    by_cases h2 : a = i
    · subst h2
      rw [if_pos rfl, List.mem_filter, decide_eq_true_iff]
      constructor
      · rintro ⟨h, h'⟩
        exact ⟨h, fun ⟨_, q⟩ => h' (by omega), fun ⟨q, _⟩ => h1 q⟩
      · rintro ⟨h, h', _⟩
        exact ⟨h, fun q => h' ⟨rfl, by omega⟩⟩
    · rw [if_neg h2]
      exact ⟨fun h => ⟨h, fun ⟨q, _⟩ => h2 q, fun ⟨q, _⟩ => h1 q⟩, fun h => h.1⟩
theorem nd_add {l : List Int} {x : Int} (h : l.Nodup) (hx : ¬ x ∈ l) : (l ++ [x]).Nodup := nd_snoc h hx
theorem Good.lt {rows : List (List Int)} (G : Good rows) {i j : Nat} (h : tN rows i j) : i < rows.length ∧ j < rows.length := by
  have hi : i < rows.length := by
    by_cases q : i < rows.length
    · exact q
    · unfold tN at h; rw [getD_far q] at h; cases h
  have := (G.rng i j h).2
  exact ⟨hi, by omega⟩
theorem Good.symm {rows : List (List Int)} (G : Good rows) {i j : Nat} (h : tN rows i j) : tN rows j i := (G.sy i j (G.lt h).1 (G.lt h).2).mp h
theorem good_put {rows : List (List Int)} (G : Good rows) {i j : Nat} (hi : i < rows.length) (hj : j < rows.length) (hij : i ≠ j) (h : ¬ tN rows i j) : Good (putR rows i j) := by
  have h' : ¬ tN rows j i := fun z => h (G.symm z)
  refine ⟨by rw [len_putR]; exact G.one, by rw [len_putR]; exact G.few, fun a b ha hb => ?_, fun a => ?_, fun a b hb => ?_, fun a ha => ?_⟩
  · show tN _ a b ↔ tN _ b a
    rw [len_putR] at ha hb
    rw [tN_put hi hj hij, tN_put hi hj hij]
    have := G.sy a b ha hb
    have t : tN rows a b ↔ tN rows b a := this
    rw [t]
    constructor <;> rintro (q | ⟨q, r⟩ | ⟨q, r⟩) <;> first | exact .inl q | exact .inr (.inl ⟨r, q⟩) | exact .inr (.inr ⟨r, q⟩)
  · rw [putR_at _ _ _ _ hi hj]
    split
    · exact nd_add (G.nd j) h'
    · split
      · exact nd_add (G.nd i) h
      · exact G.nd a
  · rw [len_putR]
    rw [putR_at _ _ _ _ hi hj] at hb
    split at hb
    · rcases List.mem_append.mp hb with q | q
      · exact G.rng j b q
      · have : b = (i : Int) := by simpa using q
        omega
    · split at hb
      · rcases List.mem_append.mp hb with q | q
        · exact G.rng i b q
        · have : b = (j : Int) := by simpa using q
          omega
      · exact G.rng a b hb
  · have ha' : tN (putR rows i j) a a := ha
    rw [tN_put hi hj hij] at ha'
    rcases ha' with q | ⟨q, r⟩ | ⟨q, r⟩
    · exact G.irr a q
    · exact hij (q.symm.trans r)
    · exact hij (r.symm.trans q)
theorem good_take {rows : List (List Int)} (G : Good rows) {i j : Nat} (hi : i < rows.length) (hj : j < rows.length) (hij : i ≠ j) : Good (takeR rows i j) := by
  refine ⟨by rw [len_takeR]; exact G.one, by rw [len_takeR]; exact G.few, fun a b ha hb => ?_, fun a => ?_, fun a b hb => ?_, fun a ha => ?_⟩
  · show tN _ a b ↔ tN _ b a
    rw [len_takeR] at ha hb
    rw [tN_take hi hj hij, tN_take hi hj hij]
    have t : tN rows a b ↔ tN rows b a := G.sy a b ha hb
    rw [t]
    constructor <;> rintro ⟨q, r, s⟩ <;> exact ⟨q, fun z => s ⟨z.2, z.1⟩, fun z => r ⟨z.2, z.1⟩⟩
  · rw [takeR_at _ _ _ _ hi hj]
    split
    · exact (G.nd j).sublist List.filter_sublist
    · split
      · exact (G.nd i).sublist List.filter_sublist
      · exact G.nd a
  · rw [len_takeR]
    rw [takeR_at _ _ _ _ hi hj] at hb
    split at hb
    · exact G.rng j b (List.mem_filter.mp hb).1
    · split at hb
      · exact G.rng i b (List.mem_filter.mp hb).1
      · exact G.rng a b hb
  · have ha' : tN (takeR rows i j) a a := ha
    rw [tN_take hi hj hij] at ha'
    exact G.irr a ha'.1
theorem grow_at (rows : List (List Int)) (k : Nat) : (rows ++ [[]]).getD k [] = rows.getD k [] := by
  by_cases h : k < rows.length
  · rw [List.getD_eq_getElem?_getD, List.getElem?_append_left h, ← List.getD_eq_getElem?_getD]
  · rw [getD_far h, List.getD_eq_getElem?_getD, List.getElem?_append_right (by omega)]
    cases k - rows.length with
    | zero => rfl
    | succ n => rfl
theorem good_grow {rows : List (List Int)} (G : Good rows) (h : rows.length < 30) : Good (rows ++ [[]]) := by
  have e : (rows ++ [[]]).length = rows.length + 1 := by simp
  refine ⟨by omega, by omega, fun a b _ _ => ?_, fun a => by rw [grow_at]; exact G.nd a, fun a b hb => ?_, fun a => by rw [grow_at]; exact G.irr a⟩
  · rw [grow_at, grow_at]
    exact ⟨fun z => G.symm z, fun z => G.symm z⟩
  · rw [grow_at] at hb
    have := G.rng a b hb
    omega
theorem good_init {n : Nat} (h1 : 1 ≤ n) (h2 : n ≤ 30) : Good (List.replicate n []) := by
  have e : ∀ k : Nat, (List.replicate n ([] : List Int)).getD k [] = [] := fun k => by
    rw [List.getD_eq_getElem?_getD, List.getElem?_replicate]
    split <;> rfl
  refine ⟨by simpa using h1, by simpa using h2, fun a b _ _ => ?_, fun a => ?_, fun a b hb => ?_, fun a ha => ?_⟩
  · rw [e, e]; simp
  · rw [e]; exact List.nodup_nil
  · rw [e] at hb; cases hb
  · rw [e] at ha; cases ha
/-! the law's own ties -/
structure Rel (rows : List (List Int)) (n : Int) (ties : List (Int × Int)) : Prop where
  n : n = (rows.length : Int)
  nd : ties.Nodup
  ti : ∀ p : Int × Int, p ∈ ties ↔ ∃ i j : Nat, p = ((i : Int), (j : Int)) ∧ i < j ∧ tN rows i j
theorem pairs_iff {n : Nat} {p : Int × Int} : p ∈ pairsL n ↔ ∃ i j : Nat, p = ((i : Int), (j : Int)) ∧ i < j ∧ j < n := by
  refine ⟨pairs_in, ?_⟩
  rintro ⟨i, j, rfl, h1, h2⟩
  unfold pairsL rowP
  refine List.mem_flatMap.mpr ⟨i, List.mem_range.mpr (by omega), List.mem_map.mpr ⟨j - (i + 1), List.mem_range.mpr (by omega), ?_⟩⟩
  rw [show i + 1 + (j - (i + 1)) = j by omega]
def lexLt (p q : Int × Int) : Prop := p.1 < q.1 ∨ (p.1 = q.1 ∧ p.2 < q.2)
theorem pairs_sorted (n : Nat) : (pairsL n).Pairwise lexLt := by
  unfold pairsL
  rw [List.pairwise_flatMap]
  refine ⟨fun i _ => ?_, ?_⟩
  · unfold rowP
    rw [List.pairwise_map]
    refine List.Pairwise.imp ?_ List.pairwise_lt_range
    intro a b h
    exact .inr ⟨rfl, by show ((i + 1 + a : Nat) : Int) < ((i + 1 + b : Nat) : Int); omega⟩
  · refine List.Pairwise.imp ?_ List.pairwise_lt_range
    intro a b h x hx y hy
    unfold rowP at hx hy
    obtain ⟨_, _, rfl⟩ := List.mem_map.mp hx
    obtain ⟨_, _, rfl⟩ := List.mem_map.mp hy
    exact .inl (by show (a : Int) < b; omega)
theorem lexLt_ne {p q : Int × Int} (h : lexLt p q) : p ≠ q := by
  intro e
  subst e
  unfold lexLt at h
  omega
theorem ties_sorted (rows : List (List Int)) : (tiesL rows).Pairwise lexLt := (pairs_sorted _).sublist List.filter_sublist
theorem ties_nd (rows : List (List Int)) : (tiesL rows).Nodup := (ties_sorted rows).imp lexLt_ne
theorem ties_iff {rows : List (List Int)} (G : Good rows) {p : Int × Int} : p ∈ tiesL rows ↔ ∃ i j : Nat, p = ((i : Int), (j : Int)) ∧ i < j ∧ tN rows i j := by
  unfold tiesL
  rw [List.mem_filter, pairs_iff]
  constructor
  · rintro ⟨⟨i, j, rfl, h1, h2⟩, h3⟩
    exact ⟨i, j, rfl, h1, (tied_iff rows i j).mp h3⟩
  · rintro ⟨i, j, rfl, h1, h2⟩
    exact ⟨⟨i, j, rfl, h1, (G.lt h2).2⟩, (tied_iff rows i j).mpr h2⟩
theorem Rel.perm {rows : List (List Int)} {n : Int} {ties : List (Int × Int)} (G : Good rows) (R : Rel rows n ties) : ties.Perm (tiesL rows) :=
  (List.perm_ext_iff_of_nodup R.nd (ties_nd rows)).mpr fun p => by rw [R.ti, ties_iff G]
theorem lexLe_anti {p q : Int × Int} (h1 : lexLe p q) (h2 : lexLe q p) : p = q := by
  unfold lexLe at h1 h2
  exact Prod.ext (by omega) (by omega)
theorem sorted_ties {rows : List (List Int)} {n : Int} {ties qs : List (Int × Int)} (G : Good rows) (R : Rel rows n ties) (hp : qs.Perm ties) (hs : qs.Pairwise lexLe) : qs = tiesL rows :=
  List.Perm.eq_of_pairwise (fun a b _ _ h1 h2 => lexLe_anti h1 h2) hs ((ties_sorted rows).imp fun h => by unfold lexLt at h; unfold lexLe; omega) (hp.trans (R.perm G))
theorem Rel.few {rows : List (List Int)} {n : Int} {ties : List (Int × Int)} (G : Good rows) (R : Rel rows n ties) : ties.length ≤ 900 := by
  rw [(R.perm G).length_eq]
  have z1 : (tiesL rows).length ≤ (pairsL rows.length).length := List.length_filter_le _ _
  have z2 := rows_len rows.length rows.length
  have z3 : rows.length * rows.length ≤ 30 * 30 := Nat.mul_le_mul G.few G.few
  have z5 : (pairsL rows.length).length ≤ rows.length * rows.length := z2
  omega
theorem rel_init {n : Nat} : Rel (List.replicate n []) (n : Int) [] := by
  refine ⟨by simp, List.nodup_nil, fun p => ⟨fun h => (by cases h), ?_⟩⟩
  rintro ⟨i, j, _, _, h⟩
  unfold tN at h
  rw [List.getD_eq_getElem?_getD, List.getElem?_replicate] at h
  split at h <;> cases h
def tieN (i j : Nat) : Int × Int := (((min i j : Nat) : Int), ((max i j : Nat) : Int))
theorem tieN_of (i j : Nat) : tieOf (.int i) (.int j) = tieN i j := by
  unfold tieOf tieN iOf
  refine Prod.ext ?_ ?_
  · show min (i : Int) (j : Int) = ((min i j : Nat) : Int); omega
  · show max (i : Int) (j : Int) = ((max i j : Nat) : Int); omega
theorem Rel.tie {rows : List (List Int)} {n : Int} {ties : List (Int × Int)} (G : Good rows) (R : Rel rows n ties) {i j : Nat} (hij : i ≠ j) : tieN i j ∈ ties ↔ tN rows i j := by
  rw [R.ti]
  constructor
  · rintro ⟨a, b, e, h1, h2⟩
    have e1 : ((min i j : Nat) : Int) = a := (Prod.mk.inj e).1
    have e2 : ((max i j : Nat) : Int) = b := (Prod.mk.inj e).2
    by_cases h : i < j
    · rw [show i = a by omega, show j = b by omega]; exact h2
    · rw [show i = b by omega, show j = a by omega]; exact G.symm h2
  · intro h
    by_cases q : i < j
    · exact ⟨i, j, Prod.ext (by show ((min i j : Nat) : Int) = i; omega) (by show ((max i j : Nat) : Int) = j; omega), q, h⟩
    · exact ⟨j, i, Prod.ext (by show ((min i j : Nat) : Int) = j; omega) (by show ((max i j : Nat) : Int) = i; omega), by omega, G.symm h⟩
theorem rel_put {rows : List (List Int)} {n : Int} {ties : List (Int × Int)} (G : Good rows) (R : Rel rows n ties) {i j : Nat} (hi : i < rows.length) (hj : j < rows.length) (hij : i ≠ j) (h : ¬ tN rows i j) : Rel (putR rows i j) n (ties ++ [tieN i j]) := by
  refine ⟨by rw [len_putR]; exact R.n, nd_snoc R.nd fun z => h ((R.tie G hij).mp z), fun p => ?_⟩
  rw [List.mem_append, R.ti, List.mem_singleton]
  constructor
  · rintro (⟨a, b, rfl, h1, h2⟩ | rfl)
    · exact ⟨a, b, rfl, h1, (tN_put hi hj hij a b).mpr (.inl h2)⟩
    · refine ⟨min i j, max i j, rfl, by omega, (tN_put hi hj hij _ _).mpr ?_⟩
      by_cases q : i < j
      · exact .inr (.inl ⟨by omega, by omega⟩)
      · exact .inr (.inr ⟨by omega, by omega⟩)
  · rintro ⟨a, b, rfl, h1, h2⟩
    rcases (tN_put hi hj hij a b).mp h2 with q | ⟨rfl, rfl⟩ | ⟨rfl, rfl⟩
    · exact .inl ⟨a, b, rfl, h1, q⟩
    · exact .inr (Prod.ext (by show (a : Int) = ((min a b : Nat) : Int); omega) (by show (b : Int) = ((max a b : Nat) : Int); omega))
    · exact .inr (Prod.ext (by show (a : Int) = ((min b a : Nat) : Int); omega) (by show (b : Int) = ((max b a : Nat) : Int); omega))
theorem rel_take {rows : List (List Int)} {n : Int} {ties : List (Int × Int)} (R : Rel rows n ties) {i j : Nat} (hi : i < rows.length) (hj : j < rows.length) (hij : i ≠ j) : Rel (takeR rows i j) n (ties.filter fun p => decide (p ≠ tieN i j)) := by
  refine ⟨by rw [len_takeR]; exact R.n, R.nd.sublist List.filter_sublist, fun p => ?_⟩
  rw [List.mem_filter, R.ti, decide_eq_true_iff]
  constructor
  · rintro ⟨⟨a, b, rfl, h1, h2⟩, h3⟩
    refine ⟨a, b, rfl, h1, (tN_take hi hj hij a b).mpr ⟨h2, fun ⟨q, r⟩ => h3 ?_, fun ⟨q, r⟩ => h3 ?_⟩⟩
    · subst q r
      exact Prod.ext (by show (a : Int) = ((min a b : Nat) : Int); omega) (by show (b : Int) = ((max a b : Nat) : Int); omega)
    · subst q r
      exact Prod.ext (by show (a : Int) = ((min b a : Nat) : Int); omega) (by show (b : Int) = ((max b a : Nat) : Int); omega)
  · rintro ⟨a, b, rfl, h1, h2⟩
    obtain ⟨q, r, s⟩ := (tN_take hi hj hij a b).mp h2
    refine ⟨⟨a, b, rfl, h1, q⟩, fun z => ?_⟩
    have e1 : (a : Int) = ((min i j : Nat) : Int) := (Prod.mk.inj z).1
    have e2 : (b : Int) = ((max i j : Nat) : Int) := (Prod.mk.inj z).2
    by_cases h : i < j
    · exact r ⟨by omega, by omega⟩
    · exact s ⟨by omega, by omega⟩
theorem rel_grow {rows : List (List Int)} {n : Int} {ties : List (Int × Int)} (R : Rel rows n ties) : Rel (rows ++ [[]]) (n + 1) ties := by
  refine ⟨by rw [R.n]; simp, R.nd, fun p => ?_⟩
  rw [R.ti]
  unfold tN
  simp only [grow_at]
/-! rows are short -/
theorem Good.row {rows : List (List Int)} (G : Good rows) (i : Nat) : (rows.getD i []).length ≤ 30 := by
  have e : (rows.getD i []).Perm (((List.range rows.length).map fun (k : Nat) => (k : Int)).filter fun z => decide (z ∈ rows.getD i [])) := by
    refine (List.perm_ext_iff_of_nodup (G.nd i) ?_).mpr fun z => ?_
    · refine List.Pairwise.sublist List.filter_sublist ?_
      rw [List.pairwise_map]
      exact List.pairwise_lt_range.imp fun h => by omega
    · rw [List.mem_filter, decide_eq_true_iff, List.mem_map]
      constructor
      · intro h
        have := G.rng i z h
        exact ⟨⟨z.toNat, List.mem_range.mpr (by omega), by omega⟩, h⟩
      · exact fun h => h.2
  rw [e.length_eq]
  refine Nat.le_trans (List.length_filter_le _ _) ?_
  rw [List.length_map, List.length_range]
  exact G.few
theorem Good.rows {rows : List (List Int)} (G : Good rows) : Rows rows := ⟨G.sy, fun r h => by
  obtain ⟨i, hi, rfl⟩ := List.mem_iff_getElem.mp h
  have := G.row i
  rw [List.getD_eq_getElem?_getD, List.getElem?_eq_getElem hi] at this
  have this : rows[i].length ≤ 30 := this
  omega, G.few⟩
end Jk

namespace Jk
open PySem L2 Evl
theorem okN_pt {rows : List (List Int)} {n : Int} (h : n = (rows.length : Int)) (x : V) : okN n x = okPt rows x := by unfold okN okPt; rw [h]
theorem due_deed {rows : List (List Int)} {n : Int} {ties : List (Int × Int)} (G : Good rows) (R : Rel rows n ties) (wd : Str) (x y : V) : dueS n ties wd x y = deedS rows wd x y := by
  have hn := R.n
  have few := G.few
  unfold dueS deedS
  rw [okN_pt hn x, okN_pt hn y]
  by_cases h1 : wd = "grow"
  · rw [if_pos h1, if_pos h1]
    by_cases h2 : n = 30
    · rw [if_pos h2, if_pos (by omega)]
    · rw [if_neg h2, if_neg (by omega)]
  · rw [if_neg h1, if_neg h1]
    show (if okTwo rows x y = false then _ else _) = _
    by_cases h2 : okTwo rows x y = false
    · rw [if_pos h2, if_pos h2]
    · rw [if_neg h2, if_neg h2]
      have h2' : okTwo rows x y = true := by cases h : okTwo rows x y <;> simp_all
      obtain ⟨i, j, rfl, rfl, hi, hj, hij⟩ := okTwo_ints h2'
      have e : tieOf (.int i) (.int j) ∈ ties ↔ tied rows i j = true := by rw [tieN_of, R.tie G hij, tied_iff]
      show (if wd = "put" ∧ tieOf (.int i) (.int j) ∈ ties then _ else if wd = "take" ∧ ¬ tieOf (.int i) (.int j) ∈ ties then _ else _) = (if wd = "put" ∧ tied rows i j = true then _ else if wd = "take" ∧ tied rows i j = false then _ else _)
      by_cases h3 : tied rows i j = true
      · have := e.mpr h3
        simp [h3, this]
      · have n3 : ¬ tieOf (.int i) (.int j) ∈ ties := fun z => h3 (e.mp z)
        have f3 : tied rows i j = false := by simpa using h3
        simp [f3, n3]
def spDone (A : Adr) : Sp := fun vs H Q _ => ∃ (p l o t : Addr) (ds : List Addr) (rows : List (List Int)) (n : Int) (ties : List (Int × Int)) (wd : Str) (x y : V), vs = [.ref p, .ref o, .str wd, x, y] ∧
  WebAt A.c_Web H p l ds rows ∧ OwnAt H o t n ties ∧ Good rows ∧ Rel rows n ties ∧ Word wd ∧ Thing H x ∧ Thing H y ∧ o ∉ ds ∧
  ∀ ds' rows' n' ties' H', WebAt A.c_Web H' p l ds' rows' → OwnAt H' o t n' ties' → Good rows' → Rel rows' n' ties' → But (l :: o :: t :: ds) H H' → NewIn H ds ds' → rows.length ≤ rows'.length → Q (.bl true) H'
theorem own_put (n : Int) (t : Addr) (m : Int) : putK (ownD n t) (Sum.inr "many") (.int m) = ownD m t := by
  unfold putK ownD
  have h : ¬ (Sum.inr ("ties" : Str) : Key) = Sum.inr ("many" : Str) := fun z => absurd (Sum.inr.inj z) (by decide +kernel)
  simp [h]
theorem tieD_put {ties : List (Int × Int)} {p : Int × Int} (h : ¬ p ∈ ties) : putK (tieD ties) (keyP p) (.bl true) = tieD (ties ++ [p]) := by
  rw [putK_new _ (by rw [tieD_val, if_neg h])]
  unfold tieD
  rw [List.map_append]; rfl
theorem tieD_drop (ties : List (Int × Int)) (p : Int × Int) : dropK (tieD ties) (keyP p) = tieD (ties.filter fun q => decide (q ≠ p)) := by
  unfold tieD dropK
  rw [List.filter_map]
  congr 1
  refine List.filter_congr fun z _ => ?_
  show decide (keyP z ≠ keyP p) = decide (z ≠ p)
  by_cases e : z = p
  · subst e; simp
  · have : ¬ keyP z = keyP p := fun q => e (keyP_inj q)
    simp [e, this]
section
variable {P : Program} {w : World} {K : PySem.W.Frag} {mg : Str → Option Value} {base : Heap} {A : Adr}
theorem ok_l_done (T : Txt K mg A) : FnOk P w K mg base CX0 7 A.a_l_done A.d_l_done ["_law_web", "_law_own", "_law_word", "_law_one", "_law_other"] (spDone A) := by
  refine T.F_l_done.ok sc_l_done (fun vs H Q E h => ?_) (fun cdv C outer s H vs Q E hr h => ?_)
  · obtain ⟨p, l, o, t, ds, rows, n, ties, wd, x, y, rfl, _⟩ := h
    rfl
  · obtain ⟨p, l, o, t, ds, rows, n, ties, wd, x, y, rfl, W, O, G, R, hw, tx, ty, no, k⟩ := h
    have hu := hu_of hr
    refine ⟨_, (pss_cons (ps_set (i := 5) sc_l_done.nd rfl (Or.inl rfl) (pe_call (ok_l_due T) (hr.mono (by decide)) rfl T.g_l_due T.k_l_due T.b_l_due .nil pass0 (pa_cons (pv 1) (pa_cons (pv 2) (pa_cons (pv 3) (pa_cons (pv 4) pa_nil))))))
  (pss_cons (ps_asg (pe_call (ok_l_said T) (hr.mono (by decide)) rfl T.g_l_said T.k_l_said T.b_l_said .nil pass0 (pa_cons (pv 0) (pa_cons (pv 2) (pa_cons (pv 3) (pa_cons (pv 4) pa_nil))))) (pg_tupJ (n := 2) rfl (pgs_cons (pg_name (i := 6) sc_l_done.nd rfl (.inl rfl)) (pgs_cons (pg_name (i := 7) sc_l_done.nd rfl (.inl rfl)) pgs_nil))))
  (pss_cons (ps_if (pt_cmpR op_ne (pv 6) (pv 5) (nomark _))
    (pss_one (ps_ret pe_bl))
    pss_nil)
  (pss_cons (ps_if (pt_cmpR op_ne (pv 5) pe_str (nomark _))
    (pss_one (ps_ret pe_bl))
    pss_nil)
  (pss_cons (ps_if (pt_cmpR op_eq (pv 2) pe_str (nomark _))
    (pss_cons (ps_dputJ (by exact hu) (pv 1) pe_str (pe_op op_add (pe_dgetJ (by exact hu) (pv 1) pe_str (fun _ _ => rfl)) pe_int) rfl)
      (pss_one (ps_ret (pe_and (pe_call (ok_l_whole T) (hr.mono (by decide)) rfl T.g_l_whole T.k_l_whole T.b_l_whole .nil pass0 (pa_cons (pv 7) pa_nil)) (pe_one (pe_cmpR op_eq (pv 7) (pe_op op_sub (pe_dgetJ (by exact hu) (pv 1) pe_str (fun _ _ => rfl)) pe_int) (nomark _)))))))
    pss_nil)
  (pss_cons (ps_set (i := 8) sc_l_done.nd rfl (Or.inl rfl) (pe_tupJ (pa_cons (pe_callB (call_min2 rfl) (by rfl) T.min (by decide +kernel) (pa_cons (pv 3) (pa_cons (pv 4) pa_nil))) (pa_cons (pe_callB (call_max2 rfl) (by rfl) T.max (by decide +kernel) (pa_cons (pv 3) (pa_cons (pv 4) pa_nil))) pa_nil))))
  (pss_cons (ps_if (pt_cmpR op_eq (pv 2) pe_str (nomark _))
    (pss_one (ps_ret (pe_and (pe_callB call_isJ (by rfl) T.isinstance (by decide +kernel) (pa_cons (pv 7) (pa_cons (pe_bltn (v := .ty "bool") (u := .type "bool") (by rfl) T.bool (by decide +kernel) rfl) pa_nil))) (pe_one (pe_cmpR op_eq (pv 7) (pe_cmp (pc_dinT (by exact hu) (pv 8) (pe_dgetJ (by exact hu) (pv 1) pe_str (fun _ _ => rfl))) rfl) (nomark _))))))
    pss_nil)
  (pss_cons (ps_if (pt_cmpR op_eq (pv 2) pe_str (nomark _))
    (pss_one (ps_dputT (by exact hu) (pe_dgetJ (by exact hu) (pv 1) pe_str (fun _ _ => rfl)) (pv 8) pe_bl rfl))
    (pss_one (ps_expr (pe_popT (by exact hu) (pe_dgetJ (by exact hu) (pv 1) pe_str (fun _ _ => rfl)) (pa_cons (pv 8) pa_nil)))))
  (pss_one (ps_ret (pe_cmpR op_isN (pv 7) pe_non (nomark _)))))))))))), ?_⟩
    simp [L2.start, and_assoc, spDue, own_ex O, tx, ty]
    intro H1 e1
    have W1 := W.up e1
    have O1 := O.up e1
    rw [due_deed G R wd x y]
    simp [spSaid, and_assoc, web_ex W1, hw, tx.up e1, ty.up e1, G.rows]
    intro q ds' H2 hq W2 b2 n2 h2
    have nol : o ∉ l :: ds := fun z => (List.mem_cons.mp z).elim (fun z => by have a := O1.ob; rw [z, W1.ls] at a; cases a) no
    have ntl : t ∉ l :: ds := fun z => by
      rcases List.mem_cons.mp z with z | z
      · have a := O1.dt; rw [z, W1.ls] at a; cases a
      · obtain ⟨i, hi, ei⟩ := List.mem_iff_getElem.mp z
        obtain ⟨d', c1, c2, _⟩ := W1.at (i := i) (by rw [← W1.len]; exact hi)
        rw [List.getElem?_eq_getElem hi, ei] at c1
        cases c1
        have a := O1.dt; rw [c2] at a; cases a
    have O2 : OwnAt H2 o t n ties := ⟨b2.kp _ _ O1.ob nol, b2.kp _ _ O1.dt ntl⟩
    have b02 : But (l :: o :: t :: ds) H H2 := (But.of_ex e1).trans (b2.mono (by intro z; simp; intro h; rcases h with h | h <;> simp [h]))
    have n02 : NewIn H ds ds' := fun d hd => (n2 d hd).imp id (fresh_back e1)
    simp [h2]
    by_cases hd : deedS rows wd x y = ""
    · rw [if_pos hd] at W2
      rw [if_pos hd, hd] at h2
      simp [hd]
      have two : ¬ wd = "grow" → okTwo rows x y = true := fun h => by
        cases q : okTwo rows x y with
        | true => rfl
        | false =>
          unfold deedS at hd
          rw [if_neg h, if_pos q] at hd
          exact absurd hd (by decide +kernel)
      have mn : ∀ i j : Nat, (if j < i then (j : Int) else (i : Int)) = (tieN i j).1 := fun i j => by
        unfold tieN; show _ = ((min i j : Nat) : Int); split <;> omega
      have mx : ∀ i j : Nat, (if i < j then (j : Int) else (i : Int)) = (tieN i j).2 := fun i j => by
        unfold tieN; show _ = ((max i j : Nat) : Int); split <;> omega
      have fewT : (tieD ties).length ≤ 100000 := by unfold tieD; rw [List.length_map]; have := R.few G; omega
      rcases hw with rfl | rfl | rfl | rfl
      · -- put
        have ok := two (by decide +kernel)
        obtain ⟨i, j, rfl, rfl, hi, hj, hij⟩ := okTwo_ints ok
        have nt : ¬ tN rows i j := fun z => by
          unfold deedS at hd
          rw [if_neg (by decide +kernel), if_neg (by rw [ok]; decide), if_pos ⟨rfl, (tied_iff rows i j).mpr z⟩] at hd
          exact absurd hd (by decide +kernel)
        have ea : after rows "put" (.int i) (.int j) = putR rows i j := by simp [after, iOf]
        rw [ea] at W2
        have nin : ¬ tieN i j ∈ ties := fun z => nt ((R.tie G hij).mp z)
        simp [and_assoc, mn, mx]
        intro z H3 hz e3 h3
        have W3 := W2.up e3
        have O3 := O2.up e3
        have ep := tieD_put nin
        have ct : ∀ (o1 : HO), But [t] H3 (upd H3 t o1) := fun o1 => But.upd (by simp)
        have tp : ∀ x ∈ [t], x ≠ p ∧ x ≠ l ∧ x ∉ ds' := fun x hx => by
          obtain rfl : x = t := by simpa using hx
          have a := O3.dt
          refine ⟨fun z => ?_, fun z => ?_, fun z => ?_⟩
          · obtain ⟨dx, b⟩ := W3.ob; rw [z, b] at a; cases a
          · rw [z, W3.ls] at a; cases a
          · obtain ⟨k1, hk1, ek1⟩ := List.mem_iff_getElem.mp z
            obtain ⟨d', c1, c2, _⟩ := W3.at (i := k1) (by rw [← W3.len]; exact hk1)
            rw [List.getElem?_eq_getElem hk1, ek1] at c1
            cases c1
            rw [c2] at a; cases a
        have not : o ≠ t := fun z => by have a := O3.ob; rw [z, O3.dt] at a; cases a
        simp [answer, and_assoc, O3.ob, own_ties, O3.dt, h3, fewT, ep]
        refine k _ _ _ _ _ (W3.but (ct _) tp) ⟨?_, upd_same⟩ (good_put G hi hj hij nt) (rel_put G R hi hj hij nt) (b02.trans ((But.of_ex e3).updT (by simp))) n02 (by rw [len_putR]; exact Nat.le_refl _)
        rw [upd_ne not]; exact O3.ob
      · -- take
        have ok := two (by decide +kernel)
        obtain ⟨i, j, rfl, rfl, hi, hj, hij⟩ := okTwo_ints ok
        have nt : tN rows i j := by
          rw [← tied_iff]
          cases q : tied rows i j with
          | true => rfl
          | false =>
            unfold deedS at hd
            rw [if_neg (by decide +kernel), if_neg (by rw [ok]; decide), if_neg (fun z => absurd z.1 (by decide +kernel)), if_pos ⟨rfl, q⟩] at hd
            exact absurd hd (by decide +kernel)
        have ea : after rows "take" (.int i) (.int j) = takeR rows i j := by simp [after, iOf]
        rw [ea] at W2
        have nin : tieN i j ∈ ties := (R.tie G hij).mpr nt
        simp [and_assoc, mn, mx]
        intro z H3 hz e3 h3
        have W3 := W2.up e3
        have O3 := O2.up e3
        have ep := tieD_drop ties (tieN i j)
        have ev : valV (tieD ties) (keyP (tieN i j)) = some (.bl true) := by rw [tieD_val, if_pos nin]
        have ct : ∀ (o1 : HO), But [t] H3 (upd H3 t o1) := fun o1 => But.upd (by simp)
        have tp : ∀ x ∈ [t], x ≠ p ∧ x ≠ l ∧ x ∉ ds' := fun x hx => by
          obtain rfl : x = t := by simpa using hx
          have a := O3.dt
          refine ⟨fun z => ?_, fun z => ?_, fun z => ?_⟩
          · obtain ⟨dx, b⟩ := W3.ob; rw [z, b] at a; cases a
          · rw [z, W3.ls] at a; cases a
          · obtain ⟨k1, hk1, ek1⟩ := List.mem_iff_getElem.mp z
            obtain ⟨d', c1, c2, _⟩ := W3.at (i := k1) (by rw [← W3.len]; exact hk1)
            rw [List.getElem?_eq_getElem hk1, ek1] at c1
            cases c1
            rw [c2] at a; cases a
        have not : o ≠ t := fun z => by have a := O3.ob; rw [z, O3.dt] at a; cases a
        simp [answer, and_assoc, O3.ob, own_ties, O3.dt]
        refine ⟨t, tieD ties, keyP (tieN i j), z, .bl true, rfl, rfl, O3.dt, h3, ev, ?_⟩
        rw [ep]
        refine k _ _ _ _ _ (W3.but (ct _) tp) ⟨?_, upd_same⟩ (good_take G hi hj hij) (rel_take R hi hj hij) (b02.trans ((But.of_ex e3).updT (by simp))) n02 (by rw [len_takeR]; exact Nat.le_refl _)
        rw [upd_ne not]; exact O3.ob
      · -- has
        have ok := two (by decide +kernel)
        obtain ⟨i, j, rfl, rfl, hi, hj, hij⟩ := okTwo_ints ok
        have ea : after rows "has" (.int i) (.int j) = rows := by simp [after]
        rw [ea] at W2
        simp [and_assoc, mn, mx]
        intro z H3 hz e3 h3
        have W3 := W2.up e3
        have O3 := O2.up e3
        have et : tied rows (iOf (.int i)) (iOf (.int j)) = decide (tieN i j ∈ ties) := by
          rw [Bool.eq_iff_iff, decide_eq_true_iff, R.tie G hij, ← tied_iff]
          rfl
        simp [answer, and_assoc, O3.ob, own_ties, O3.dt, h3]
        rw [show (((tieN i j).fst, (tieN i j).snd) : Int × Int) = tieN i j from rfl, tieD_val, et]
        have fin := k _ _ _ _ _ W3 O3 G R (b02.trans (But.of_ex e3)) n02 (Nat.le_refl _)
        by_cases hm : tieN i j ∈ ties <;> simpa [hm] using fin
      · -- grow
        have h30 : rows.length < 30 := by
          by_cases q : 30 ≤ rows.length
          · unfold deedS at hd
            rw [if_pos rfl, if_pos q] at hd
            exact absurd hd (by decide +kernel)
          · omega
        have ea : after rows "grow" x y = rows ++ [[]] := by simp [after]
        have ean : answer rows "grow" x y = .int rows.length := by simp [answer]
        rw [ea] at W2
        have nt : t ≠ o := fun z => by have a := O2.ob; rw [← z, O2.dt] at a; cases a
        have lO : (ownD n t).length ≤ 100000 := by simp [ownD]
        simp [ean, and_assoc, O2.ob, own_many, lO, own_put, spWholeL, isInt]
        refine ⟨.int _, _, upd_same, _, own_many _ _, ?_⟩
        have en : (rows.length : Int) = n := R.n.symm
        simp [en]
        have op : ∀ x ∈ [o], x ≠ p ∧ x ≠ l ∧ x ∉ ds' := fun x hx => by
          obtain rfl : x = o := by simpa using hx
          have a := O2.ob
          refine ⟨fun z => ?_, fun z => ?_, fun z => ?_⟩
          · obtain ⟨dx, b⟩ := W2.ob; rw [z, b] at a; cases a
          · rw [z, W2.ls] at a; cases a
          · rcases n02 _ z with q | q
            · exact no q
            · rw [O.ob] at q; cases q
        refine k _ _ _ _ _ (W2.but (But.upd (M := [o]) (by simp)) op) ⟨upd_same, ?_⟩ (good_grow G h30) (rel_grow R) (b02.updT (by simp)) n02 (by simp)
        rw [upd_ne nt]; exact O2.dt
    · rw [if_neg hd] at W2
      simp [hd]
      exact k _ _ _ _ _ W2 O2 G R b02 n02 (Nat.le_refl _)
end
end Jk

namespace Jk
open PySem L2 Evl
def spBesRef (A : Adr) : Sp := fun vs H Q _ => ∃ (p l : Addr) (ds : List Addr) (rows : List (List Int)) (x : V), vs = [.ref p, x] ∧ WebAt A.c_Web H p l ds rows ∧ Thing H x ∧ Good rows ∧ okPt rows x = false ∧ ∀ H', Ex H H' → Q (.bl true) H'
def spSizeRef : Sp := fun vs H Q _ => ∃ (x : V), vs = [x] ∧ Thing H x ∧ inR x 1 30 = false ∧ ∀ H', Ex H H' → Q (.bl true) H'
section
variable {P : Program} {w : World} {K : PySem.W.Frag} {mg : Str → Option Value} {base : Heap} {A : Adr}
theorem in_point (A : Adr) : (A.c_BadPoint, ("point" : Str)) ∈ kinds A := by simp [kinds]
theorem in_size (A : Adr) : (A.c_BadSize, ("size" : Str)) ∈ kinds A := by simp [kinds]
theorem ok_l_beside_refused (T : Txt K mg A) : FnOk P w K mg base CX0 4 A.a_l_beside_refused A.d_l_beside_refused ["_law_web", "_law_thing"] (spBesRef A) := by
  refine T.F_l_beside_refused.ok sc_l_beside_refused (fun vs H Q E h => ?_) (fun cdv C outer s H vs Q E hr h => ?_)
  · obtain ⟨p, l, ds, rows, x, rfl, _⟩ := h
    rfl
  · obtain ⟨p, l, ds, rows, x, rfl, W, tx, G, bad, k⟩ := h
    refine ⟨_, (pss_cons (ps_set (i := 2) sc_l_beside_refused.nd rfl (Or.inl rfl) pe_non)
  (pss_cons (ps_try_keep (i := 3) rfl rfl rfl rfl sc_l_beside_refused.nd rfl rfl ⟨rfl, by decide, .inl T.gJoinError⟩ takes0 (fun W pn xe tk _ => by exact (pss_one (ps_expr (pe_methJ (pv 0) T.cl_Web T.m_Web_beside (ok_Web_beside T) (hr.mono (by decide)) T.b_Web_beside (fun σ => passAt tk σ) (pa_cons (pv 1) pa_nil))))) (fun a oe cls d pn hz hf => by exact (pss_one (ps_set (i := 2) sc_l_beside_refused.nd rfl (Or.inl rfl) (pv 3)))))
  (pss_one (ps_ret (pe_and (pe_cmpR op_notN (pv 2) pe_non (nomark _)) (pe_one (pe_cmpR op_eq (pe_call (ok_l_kind T) (hr.mono (by decide)) rfl T.g_l_kind T.k_l_kind T.b_l_kind .nil pass0 (pa_cons (pv 2) pa_nil)) pe_str (nomark _)))))))), ?_⟩
    obtain ⟨dx, h1⟩ := W.ob
    simp [L2.start, and_assoc, h1, spBeside, web_ex W, tx, bad]
    refine ⟨fun r hr => by have := G.rows.small r hr; omega, true, exmJ T (in_point A), fun _ a ha => ?_, fun z => nomatch z⟩
    simp
    intro na
    have e1 : Ex H (upd H a (ExK (.ref A.c_BadPoint) none a)) := Ex.new na
    refine ⟨a, A.c_BadPoint, "point", rfl, upd_same, in_point A, fun H2 e2 => ?_⟩
    simp
    exact k _ (e1.trans e2)
theorem ok_l_size_refused (T : Txt K mg A) : FnOk P w K mg base CX0 4 A.a_l_size_refused A.d_l_size_refused ["_law_thing"] spSizeRef := by
  refine T.F_l_size_refused.ok sc_l_size_refused (fun vs H Q E h => ?_) (fun cdv C outer s H vs Q E hr h => ?_)
  · obtain ⟨x, rfl, _⟩ := h
    rfl
  · obtain ⟨x, rfl, tx, bad, k⟩ := h
    refine ⟨_, (pss_cons (ps_set (i := 1) sc_l_size_refused.nd rfl (Or.inl rfl) pe_non)
  (pss_cons (ps_try_keep (i := 2) rfl rfl rfl rfl sc_l_size_refused.nd rfl rfl ⟨rfl, by decide, .inl T.gJoinError⟩ takes0 (fun W pn xe tk _ => by exact (pss_one (ps_expr (pe_makeJ T.mk_Web (ok_Web_init T) (hr.mono (by decide)) rfl T.gWeb T.b_Web_init (fun σ => passAt tk σ) (pa_cons (pv 0) pa_nil))))) (fun a oe cls d pn hz hf => by exact (pss_one (ps_set (i := 1) sc_l_size_refused.nd rfl (Or.inl rfl) (pv 2)))))
  (pss_one (ps_ret (pe_and (pe_cmpR op_notN (pv 1) pe_non (nomark _)) (pe_one (pe_cmpR op_eq (pe_call (ok_l_kind T) (hr.mono (by decide)) rfl T.g_l_kind T.k_l_kind T.b_l_kind .nil pass0 (pa_cons (pv 1) pa_nil)) pe_str (nomark _)))))))), ?_⟩
    simp [L2.start, and_assoc, spInit, bad]
    intro x1 dx1 n1 n2 n3
    have e0 : Ex H (upd (upd H dx1 (.own x1)) x1 (.ins A.c_Web dx1 [])) := fun b o e => by
      rw [upd_ne (ne_of_none e n1), upd_ne (ne_of_none e n2)]; exact e
    refine ⟨⟨dx1, upd_same⟩, tx.up e0, true, exmJ T (in_size A), fun _ a ha => ?_, fun z => nomatch z⟩
    simp
    intro na
    refine ⟨a, A.c_BadSize, "size", rfl, upd_same, in_size A, fun H2 e2 => ?_⟩
    simp
    exact k _ ((e0.trans (Ex.new na)).trans e2)
end
end Jk

namespace Jk
open PySem L2 Evl
/-! ## small data -/
inductive Tny (H : Hp) : V → PyData → Prop where
  | int (i : Int) (h : 0 ≤ i ∧ i < 100) : Tny H (.int i) (.int i)
  | pair (t : Addr) (i j : Int) (h : (0 ≤ i ∧ i < 100) ∧ (0 ≤ j ∧ j < 100)) (e : H t = some (.tup [.int i, .int j])) : Tny H (.ref t) (.tuple [.int i, .int j])
inductive TnyAll (H : Hp) : List V → List PyData → Prop where
  | nil : TnyAll H [] []
  | cons {x : V} {d : PyData} {xs : List V} {ds : List PyData} (h : Tny H x d) (t : TnyAll H xs ds) : TnyAll H (x :: xs) (d :: ds)
theorem Tny.dp {K : PySem.W.Frag} {H : Hp} {x : V} {d : PyData} (h : Tny H x d) : Dp K H x d := by
  cases h with
  | int i h => exact .int i
  | pair t i j h e => exact .tup (.inl (.inl e)) (.cons (.int i) (.cons (.int j) .nil))
theorem TnyAll.dp {K : PySem.W.Frag} {H : Hp} {xs : List V} {ds : List PyData} (h : TnyAll H xs ds) : DpAll K H xs ds := by
  induction h with
  | nil => exact .nil
  | cons h _ ih => exact .cons h.dp ih
theorem TnyAll.len {H : Hp} {xs : List V} {ds : List PyData} (h : TnyAll H xs ds) : xs.length = ds.length := by
  induction h with
  | nil => rfl
  | cons h _ ih => simp [ih]
theorem TnyAll.map {H H' : Hp} (k : ∀ t o, H t = some (.tup o) → H' t = some (.tup o)) {xs : List V} {ds : List PyData} (h : TnyAll H xs ds) : TnyAll H' xs ds := by
  induction h with
  | nil => exact .nil
  | cons h _ ih =>
    refine .cons ?_ ih
    cases h with
    | int i h => exact .int i h
    | pair t i j h e => exact .pair t i j h (k _ _ e)
theorem TnyAll.snoc {H : Hp} {xs : List V} {ds : List PyData} {x : V} {d : PyData} (h : TnyAll H xs ds) (hx : Tny H x d) : TnyAll H (xs ++ [x]) (ds ++ [d]) := by
  induction h with
  | nil => exact .cons hx .nil
  | cons h _ ih => exact .cons h ih
theorem tny_ints {H : Hp} : ∀ {ys : List Int}, (∀ y ∈ ys, 0 ≤ y ∧ y < 100) → TnyAll H (ys.map V.int) (ys.map PyData.int)
  | [], _ => .nil
  | y :: ys, h => .cons (.int y (h y (by simp))) (tny_ints fun z hz => h z (by simp [hz]))
def pd (p : Int × Int) : PyData := .tuple [.int p.1, .int p.2]
theorem tny_pairs {H : Hp} : ∀ {ts : List Addr} {prs : List (Int × Int)}, TupsAt H ts prs → (∀ p ∈ prs, (0 ≤ p.1 ∧ p.1 < 100) ∧ (0 ≤ p.2 ∧ p.2 < 100)) → TnyAll H (ts.map V.ref) (prs.map pd)
  | [], [], _, _ => .nil
  | [], p :: prs, h, _ => by have := h.1; simp at this
  | t :: ts, [], h, _ => by have := h.1; simp at this
  | t :: ts, p :: prs, h, hp => .cons (.pair t p.1 p.2 (hp p (by simp)) (h.2 0 t p rfl rfl)) (tny_pairs ⟨by have := h.1; simpa using this, fun k t' p' a b => h.2 (k + 1) t' p' (by simpa using a) (by simpa using b)⟩ fun q hq => hp q (by simp [hq]))
theorem int_small {i : Int} (h : 0 ≤ i ∧ i < 100) : PyData.showable (.int i) = true ∧ PyData.weight (.int i) ≤ 8 ∧ PyData.intsShort 13 (.int i) = true := by
  have hl : i.natAbs.log2 < 7 := by
    by_cases h0 : i.natAbs = 0
    · rw [h0]; decide
    · exact (Nat.log2_lt h0).mpr (by omega)
  refine ⟨?_, ?_, ?_⟩
  · simp only [PyData.showable, decide_eq_true_eq]; omega
  · simp only [PyData.weight]; split <;> omega
  · simp only [PyData.intsShort, PyData.shown]
    refine decide_eq_true ?_
    exact Nat.le_trans (PyProof.Rows.toString_length_le h.1 (k := 2) (by decide) (by omega)) (show 2 ≤ 13 by decide)
structure Sml (ds : List PyData) : Prop where
  can : PyData.canLayAll0 ds = true
  shw : PyData.showableAll ds = true
  nod : PyData.hasDictAll ds = false
  dep : PyData.depthAll ds ≤ 1
  wgt : PyData.weightAll ds ≤ 30 * ds.length
  sho : PyData.intsShortAll 13 ds = true
theorem TnyAll.sml {H : Hp} {xs : List V} {ds : List PyData} (h : TnyAll H xs ds) : Sml ds := by
  induction h with
  | nil => exact ⟨rfl, rfl, rfl, by decide, by decide, rfl⟩
  | @cons x d xs ds h t ih =>
    obtain ⟨a1, a2, a3, a4, a5, a6⟩ := ih
    cases h with
    | int i h =>
      obtain ⟨b1, b2, b3⟩ := int_small h
      refine ⟨?_, ?_, ?_, ?_, ?_, ?_⟩
      · simp [PyData.canLayAll0, PyData.canLay0, a1]
      · simp [PyData.showableAll, b1, a2]
      · simp [PyData.hasDictAll, PyData.hasDict, a3]
      · simp [PyData.depthAll, PyData.depth, a4]
      · simp only [PyData.weightAll, List.length_cons]; omega
      · simp [PyData.intsShortAll, b3, a6]
    | pair t i j h e =>
      obtain ⟨b1, b2, b3⟩ := int_small h.1
      obtain ⟨c1, c2, c3⟩ := int_small h.2
      refine ⟨?_, ?_, ?_, ?_, ?_, ?_⟩
      · simp [PyData.canLayAll0, PyData.canLay0, a1]
      · rw [PyData.showableAll, a2, PyData.showable]; simp [PyData.showableAll, b1, c1]
      · simp [PyData.hasDictAll, PyData.hasDict, a3]
      · simp [PyData.depthAll, PyData.depth, a4]
      · have e : PyData.weight (.tuple [.int i, .int j]) = PyData.weight (.int i) + 1 + (PyData.weight (.int j) + 1 + 0) := by simp only [PyData.weight, PyData.weightAll]
        simp only [PyData.weightAll, List.length_cons, e]; omega
      · rw [PyData.intsShortAll, a6, PyData.intsShort]; simp [PyData.intsShortAll, b3, c3]
theorem Sml.list {ds : List PyData} (h : Sml ds) (hl : ds.length ≤ 2000) : (PyData.list ds).showable = true ∧ (PyData.list ds).hasDict = false ∧ (PyData.list ds).depth < 63 ∧ (PyData.list ds).shown.length ≤ sizeLine := by
  obtain ⟨a1, a2, a3, a4, a5, a6⟩ := h
  have hd : (PyData.list ds).depth ≤ 2 := by simp only [PyData.depth]; omega
  refine ⟨by simpa [PyData.showable] using a2, by simpa [PyData.hasDict] using a3, by omega, ?_⟩
  refine Nat.le_trans (PyProof.Rows.shown_le13 ?_ ?_) (by rw [sizeLine_eq]; decide)
  · show (PyData.canLay0 (.list ds) && decide (PyData.depth (.list ds) ≤ 64) && decide (PyData.weight (.list ds) ≤ 2 ^ 20)) = true
    have hw : PyData.weight (.list ds) ≤ 2 ^ 20 := by simp only [PyData.weight]; omega
    simp [PyData.canLay0, a1, hw, show (PyData.list ds).depth ≤ 64 by omega]
  · simpa [PyData.intsShort] using a6
theorem Sml.shaped {ds : List PyData} (h : Sml ds) : SeqAt.shaped (.list ds) = true ∧ PyData.eqv (.list ds) (.list ds) = true := by
  obtain ⟨a1, a2, a3, a4, a5, a6⟩ := h
  have hd : (PyData.list ds).depth ≤ 64 := by simp only [PyData.depth]; omega
  refine ⟨?_, PySem.SeqAt.eqv_refl _ (by simpa [PyData.canLay0] using a1)⟩
  show (PyData.canLay0 (.list ds) && decide (PyData.depth (.list ds) ≤ 64)) = true
  simp [PyData.canLay0, a1, hd]
/-! ## the points beside, by the law's own ties -/
def nearF (i : Int) (p : Int × Int) : Option Int := if i = p.1 ∨ i = p.2 then some (p.1 + p.2 - i) else none
theorem near_nd {i : Int} {ties : List (Int × Int)} (nd : ties.Nodup) (lt : ∀ p ∈ ties, p.1 < p.2) : (ties.filterMap (nearF i)).Nodup := by
  unfold List.Nodup
  rw [List.pairwise_filterMap]
  refine List.Pairwise.imp_of_mem ?_ nd
  intro p q hp hq hne b hb b' hb'
  have h1 := lt p hp
  have h2 := lt q hq
  unfold nearF at hb hb'
  split at hb
  · split at hb'
    · cases hb; cases hb'
      intro e
      exact hne (Prod.ext (by omega) (by omega))
    · cases hb'
  · cases hb
theorem near_perm {rows : List (List Int)} {n : Int} {ties : List (Int × Int)} (G : Good rows) (R : Rel rows n ties) (i : Nat) : (ties.filterMap (nearF i)).Perm (rows.getD i []) := by
  refine (List.perm_ext_iff_of_nodup (near_nd R.nd fun p hp => ?_) (G.nd i)).mpr fun z => ?_
  · obtain ⟨a, b, rfl, h, _⟩ := (R.ti p).mp hp
    show (a : Int) < b
    omega
  · rw [List.mem_filterMap]
    constructor
    · rintro ⟨p, hp, hz⟩
      obtain ⟨a, b, rfl, h, t⟩ := (R.ti p).mp hp
      unfold nearF at hz
      split at hz
      · rename_i q
        have hz : (a : Int) + b - i = z := Option.some.inj hz
        rcases q with q | q
        · have q : (i : Int) = a := q
          have : i = a := by omega
          subst this
          rw [show z = (b : Int) by omega]
          exact t
        · have q : (i : Int) = b := q
          have : i = b := by omega
          subst this
          rw [show z = (a : Int) by omega]
          exact G.symm t
      · cases hz
    · intro hz
      have hr := G.rng i z hz
      obtain ⟨j, rfl⟩ : ∃ j : Nat, z = (j : Int) := ⟨z.toNat, by omega⟩
      have t : tN rows i j := hz
      have hij : i ≠ j := fun e => by subst e; exact G.irr i t
      refine ⟨tieN i j, (R.tie G hij).mpr t, ?_⟩
      unfold nearF tieN
      by_cases h : i < j
      · rw [show min i j = i by omega, show max i j = j by omega]
        rw [if_pos (.inl rfl)]
        congr 1
        show (i : Int) + j - i = j
        omega
      · rw [show min i j = j by omega, show max i j = i by omega]
        rw [if_pos (.inr rfl)]
        congr 1
        show (j : Int) + i - i = j
        omega
end Jk

namespace Jk
open PySem L2 Evl
/-! ## what was looked at -/
def HeldP (H : Hp) (x : V) : Prop := ∃ (p f c : Addr) (zs : List V) (ds : List PyData), x = .ref p ∧ H p = some (.tup [.ref f, .ref c]) ∧ H f = some (.lst (zs ++ [.int 0])) ∧ H c = some (.lst (zs ++ [.int 0])) ∧ TnyAll H (zs ++ [.int 0]) ds
def Soft (H : Hp) (m : Addr) : Prop := (∃ kv, H m = some (.dK kv)) ∨ (∃ kv, H m = some (.dT kv)) ∨ ∃ as : List Addr, H m = some (.lst (as.map V.ref))
theorem HeldP.but {H H' : Hp} {M : List Addr} {x : V} (h : HeldP H x) (b : But M H H') (s : ∀ m ∈ M, Soft H m) : HeldP H' x := by
  obtain ⟨p, f, c, zs, ds, rfl, h1, h2, h3, h4⟩ := h
  have tup : ∀ (t : Addr) (o : List V), H t = some (.tup o) → t ∉ M := fun t o e hm => by
    rcases s t hm with ⟨_, z⟩ | ⟨_, z⟩ | ⟨_, z⟩ <;> (rw [z] at e; cases e)
  have lst : ∀ (t : Addr), H t = some (.lst (zs ++ [.int 0])) → t ∉ M := fun t e hm => by
    rcases s t hm with ⟨_, z⟩ | ⟨_, z⟩ | ⟨as, z⟩
    · rw [z] at e; cases e
    · rw [z] at e; cases e
    · rw [z] at e
      have e' : as.map V.ref = zs ++ [.int 0] := HO.lst.inj (Option.some.inj e)
      have : V.int 0 ∈ as.map V.ref := by rw [e']; simp
      obtain ⟨_, _, q⟩ := List.mem_map.mp this
      cases q
  exact ⟨p, f, c, zs, ds, rfl, b.kp _ _ h1 (tup _ _ h1), b.kp _ _ h2 (lst _ h2), b.kp _ _ h3 (lst _ h3), h4.map fun t o e => b.kp _ _ e (tup t o e)⟩
def PairAt (H : Hp) (z : Addr × Addr × Addr) : Prop := ∃ (zs : List V) (ds : List PyData), H z.1 = some (.tup [.ref z.2.1, .ref z.2.2]) ∧ H z.2.1 = some (.lst (zs ++ [.int 0])) ∧ H z.2.2 = some (.lst (zs ++ [.int 0])) ∧ TnyAll H (zs ++ [.int 0]) ds
theorem PairAt.held {H : Hp} {z : Addr × Addr × Addr} (h : PairAt H z) : HeldP H (.ref z.1) := by
  obtain ⟨zs, ds, h1, h2, h3, h4⟩ := h
  exact ⟨_, _, _, zs, ds, rfl, h1, h2, h3, h4⟩
def Lst (H : Hp) (m : Addr) : Prop := ∃ xs, H m = some (.lst xs)
theorem PairAt.but {H H' : Hp} {M : List Addr} {z : Addr × Addr × Addr} (h : PairAt H z) (b : But M H H') (s : ∀ m ∈ M, Lst H m) (n1 : z.2.1 ∉ M) (n2 : z.2.2 ∉ M) : PairAt H' z := by
  obtain ⟨zs, ds, h1, h2, h3, h4⟩ := h
  have tup : ∀ (t : Addr) (o : List V), H t = some (.tup o) → t ∉ M := fun t o e hm => by
    obtain ⟨xs, z⟩ := s t hm
    rw [z] at e; cases e
  exact ⟨zs, ds, b.kp _ _ h1 (tup _ _ h1), b.kp _ _ h2 n1, b.kp _ _ h3 n2, h4.map fun t o e => b.kp _ _ e (tup t o e)⟩
theorem no_ref_int {as : List Addr} {zs : List V} (h : as.map V.ref = zs ++ [.int 0]) : False := by
  have : V.int 0 ∈ as.map V.ref := by rw [h]; simp
  obtain ⟨_, _, q⟩ := List.mem_map.mp this
  cases q
theorem tny_of {H : Hp} {qs : List (Addr × (Int × Int))} (h : ∀ q ∈ qs, H q.1 = some (.tup [.int q.2.1, .int q.2.2])) (hp : ∀ q ∈ qs, (0 ≤ q.2.1 ∧ q.2.1 < 100) ∧ (0 ≤ q.2.2 ∧ q.2.2 < 100)) : TnyAll H (qs.map fun q => .ref q.1) ((qs.map (·.2)).map pd) := by
  induction qs with
  | nil => exact .nil
  | cons q qs ih => exact .cons (.pair q.1 q.2.1 q.2.2 (hp q (by simp)) (h q (by simp))) (ih (fun z hz => h z (by simp [hz])) fun z hz => hp z (by simp [hz]))
def HeldAt (H : Hp) (hl : Addr) (k : Nat) : Prop := ∃ as : List Addr, H hl = some (.lst (as.map V.ref)) ∧ as.length ≤ k ∧ ∀ x ∈ as, HeldP H (.ref x)
theorem HeldAt.but {H H' : Hp} {M : List Addr} {hl : Addr} {k : Nat} (h : HeldAt H hl k) (b : But M H H') (s : ∀ m ∈ M, Soft H m) (n : hl ∉ M) : HeldAt H' hl k := by
  obtain ⟨as, h1, h2, h3⟩ := h
  exact ⟨as, b.kp _ _ h1 n, h2, fun x hx => (h3 x hx).but b s⟩
theorem HeldAt.up {H H' : Hp} {hl : Addr} {k : Nat} (h : HeldAt H hl k) (e : Ex H H') : HeldAt H' hl k := h.but (M := []) (But.of_ex e) (fun _ h => nomatch h) (fun h => nomatch h)
structure LkI (H : Hp) (hl q4 q5 q6 q7 q8 D : Addr) (as : List Addr) (ys : List Int) (ts : List Addr) (prs : List (Int × Int)) (qs : List (Addr × (Int × Int))) (j : Nat) (ps : List (Addr × Addr × Addr)) (H' : Hp) : Prop where
  but : But [hl] H H'
  at_hl : H' hl = some (.lst ((as ++ ps.map (·.1)).map V.ref))
  len : ps.length = j
  pr : ∀ z ∈ ps, PairAt H' z ∧ (j = 1 → z.2.1 ≠ q6 ∧ z.2.2 ≠ q6)
  a7 : H' q7 = some (.lst [.ref q5, .ref q6])
  a8 : H' q8 = some (.lst [.ref q4, .ref D])
  a4 : H' q4 = some (.lst (ys.map V.int))
  aD : H' D = some (.lst (qs.map fun q => V.ref q.1))
  aq : ∀ q ∈ qs, H' q.1 = some (.tup [.int q.2.1, .int q.2.2])
  a5 : j = 0 → H' q5 = some (.lst (ys.map V.int))
  a6 : j ≤ 1 → H' q6 = some (.lst (ts.map V.ref)) ∧ TupsAt H' ts prs
theorem LkI.step {H H' H2 : Hp} {hl q4 q5 q6 q7 q8 D f c p : Addr} {as : List Addr} {ys : List Int} {ts : List Addr} {prs : List (Int × Int)} {qs : List (Addr × (Int × Int))} {j : Nat} {ps : List (Addr × Addr × Addr)}
    (L : LkI H hl q4 q5 q6 q7 q8 D as ys ts prs qs j ps H') (b : But [f, hl] H' H2) (hf : (f = q5 ∧ j = 0) ∨ (f = q6 ∧ j = 1)) (hfl : Lst H' f) (fH : H f = none) (nfh : f ≠ hl)
    (dis : (q4 ≠ q5 ∧ q4 ≠ q6 ∧ q4 ≠ hl) ∧ (q7 ≠ q5 ∧ q7 ≠ q6 ∧ q7 ≠ hl) ∧ (q8 ≠ q5 ∧ q8 ≠ q6 ∧ q8 ≠ hl) ∧ (D ≠ q5 ∧ D ≠ q6 ∧ D ≠ hl) ∧ q5 ≠ q6 ∧ q6 ≠ hl)
    (cH : H' c = none) (h1 : H2 hl = some (.lst ((as ++ ps.map (·.1)).map V.ref ++ [.ref p]))) (h2 : PairAt H2 (p, f, c)) : LkI H hl q4 q5 q6 q7 q8 D as ys ts prs qs (j + 1) (ps ++ [(p, f, c)]) H2 := by
  obtain ⟨⟨d1, d2, d3⟩, ⟨d4, d5, d6⟩, ⟨d7, d8, d9⟩, ⟨d10, d11, d12⟩, d13, d14⟩ := dis
  have f56 : f = q5 ∨ f = q6 := hf.imp And.left And.left
  have nf : ∀ x, x ≠ q5 → x ≠ q6 → x ≠ f := fun x a b e => f56.elim (fun z => a (e.trans z)) (fun z => b (e.trans z))
  have kp : ∀ x o, H' x = some o → x ≠ f → x ≠ hl → H2 x = some o := fun x o e a b' => b.kp x o e (by simp [a, b'])
  have hhl : Lst H' hl := ⟨_, L.at_hl⟩
  have tup : ∀ x o, H' x = some (.tup o) → H2 x = some (.tup o) := fun x o e => kp x _ e (fun z => by obtain ⟨xs, y⟩ := hfl; rw [z, y] at e; cases e) (fun z => by obtain ⟨xs, y⟩ := hhl; rw [z, y] at e; cases e)
  refine ⟨?_, ?_, by simp [L.len], fun z hz => ?_, kp _ _ L.a7 (nf _ d4 d5) d6, kp _ _ L.a8 (nf _ d7 d8) d9, kp _ _ L.a4 (nf _ d1 d2) d3, kp _ _ L.aD (nf _ d10 d11) d12, fun q hq => tup _ _ (L.aq q hq), fun z => by omega, fun z => ?_⟩
  · refine ⟨fun x o e n => ?_, fun x e => L.but.dm x (b.dm x e)⟩
    have nh : x ≠ hl := by simpa using n
    exact kp x o (L.but.kp x o e n) (ne_of_none e fH) nh
  · rw [h1]; simp
  · rcases List.mem_append.mp hz with hz | hz
    · obtain ⟨z1, z2⟩ := L.pr z hz
      have j1 : f = q6 ∧ j = 1 := by
        rcases hf with ⟨_, h⟩ | h
        · have := L.len
          rw [h] at this
          rw [List.length_eq_zero_iff.mp this] at hz
          cases hz
        · exact h
      obtain ⟨y1, y2⟩ := z2 j1.2
      have nhl : ∀ x zs, H' x = some (.lst (zs ++ [.int 0])) → x ≠ hl := fun x zs e z => by
        rw [z, L.at_hl] at e
        exact no_ref_int (HO.lst.inj (Option.some.inj e))
      obtain ⟨zs, dd, p1, p2, p3, p4⟩ := id z1
      refine ⟨z1.but b ?_ ?_ ?_, fun z => by omega⟩
      · intro m hm
        rcases List.mem_cons.mp hm with rfl | hm
        · exact hfl
        · rw [List.mem_singleton.mp hm]; exact hhl
      · simp [j1.1, y1, nhl _ _ p2]
      · simp [j1.1, y2, nhl _ _ p3]
    · obtain rfl : z = (p, f, c) := by simpa using hz
      refine ⟨h2, fun z => ?_⟩
      have f5 : f = q5 := by rcases hf with h | h
                             · exact h.1
                             · omega
      refine ⟨by show f ≠ q6; rw [f5]; exact d13, fun y => ?_⟩
      have y : c = q6 := y
      have := (L.a6 (by omega)).1
      rw [← y, cH] at this
      cases this
  · have f5 : f = q5 := by rcases hf with h | h
                           · exact h.1
                           · omega
    obtain ⟨y1, y2⟩ := L.a6 (by omega)
    refine ⟨kp _ _ y1 (by rw [f5]; exact d13.symm) d14, y2.1, fun k t p' a b => tup _ _ (y2.2 k t p' a b)⟩
def spLooked (A : Adr) : Sp := fun vs H Q _ => ∃ (p l o t hl : Addr) (ds : List Addr) (rows : List (List Int)) (n : Int) (ties : List (Int × Int)) (i k : Nat), vs = [.ref p, .ref o, .int (i : Int), .ref hl] ∧
  WebAt A.c_Web H p l ds rows ∧ OwnAt H o t n ties ∧ Good rows ∧ Rel rows n ties ∧ i < rows.length ∧ HeldAt H hl k ∧ k ≤ 10000 ∧ hl ≠ l ∧
  ∀ H', But [hl] H H' → HeldAt H' hl (k + 2) → Q (.bl true) H'
section
variable {P : Program} {w : World} {K : PySem.W.Frag} {mg : Str → Option Value} {base : Heap} {A : Adr}
theorem ok_l_looked (T : Txt K mg A) : FnG P w K mg base 8 A.a_l_looked A.d_l_looked ["_law_web", "_law_own", "_law_point", "_law_held"] (spLooked A) := by
  refine T.F_l_looked.okG sc_l_looked (fun vs H Q E h => ?_) (fun cdv C outer s H vs Q E hg hr h => ?_)
  · obtain ⟨p, l, o, t, hl, ds, rows, n, ties, i, k, rfl, _⟩ := h
    rfl
  · obtain ⟨p, l, o, t, hl, ds, rows, n, ties, i, k, rfl, W, O, G, R, hi, hh, hk, hne, q⟩ := h
    have hu := hu_of hr
    refine ⟨_, (pss_cons (ps_set (i := 4) sc_l_looked.nd rfl (Or.inl rfl) (pe_callB cr_sorted (by rfl) T.sorted (by decide +kernel) (pa_cons (pe_lock (pe_lc (own := [("_law_one", 8), ("_law_other", 9)]) rfl sc_l_looked.nd (pi_keys (pe_dgetJ (by exact hu) (pv 1) pe_str (fun _ _ => rfl))) (blkOk_by (own := [("_law_one", 8), ("_law_other", 9)]) (N := ["_law_web", "_law_own", "_law_point", "_law_held", "_law_near", "_law_told", "_law_found", "_law_due_here", "_law_one", "_law_other"]) (sc := defScope s_l_looked) (by decide +kernel)) (fun _ _ _ _ _ => by exact (pg_tupJ (n := 2) rfl (pgs_cons (pg_name (i := 8) sc_l_looked.nd rfl (Or.inl rfl)) (pgs_cons (pg_name (i := 9) sc_l_looked.nd rfl (Or.inl rfl)) pgs_nil)))) (fun _ _ _ _ _ => by exact (pts_one (PW.pt (pw_or (pt_cmpR op_eq (pv 2) (pv 8) (nomark _)) (pw_or1 (pt_cmpR op_eq (pv 2) (pv 9) (nomark _))))))) (fun _ _ _ _ _ => by exact (pe_op op_sub (pe_op op_add (pv 8) (pv 9)) (pv 2))))) pa_nil)))
  (pss_cons (ps_set (i := 5) sc_l_looked.nd rfl (Or.inl rfl) (pe_lstJ (pa_cons (pe_meth (pv 0) T.cl_Web T.m_Web_beside (ok_Web_beside T) (hr.mono (by decide)) T.b_Web_beside .nil passL (pa_cons (pv 2) pa_nil)) (pa_cons (pe_meth0 (pv 0) T.cl_Web T.m_Web_ties (ok_Web_ties T) (hr.mono (by decide)) T.b_Web_ties .nil pass0) pa_nil))))
  (pss_cons (ps_if (PW.pt (pw_or (pt_cmpR op_ne (pe_meth0 (pv 0) T.cl_Web T.m_Web_many (ok_Web_many T) (hr.mono (by decide)) T.b_Web_many .nil pass0) (pe_dgetJ (by exact hu) (pv 1) pe_str (fun _ _ => rfl)) (nomark _)) (pw_or1 (pt_not (pt_val (pe_call (ok_l_whole T) (hr.mono (by decide)) rfl T.g_l_whole T.k_l_whole T.b_l_whole .nil pass0 (pa_cons (pe_meth0 (pv 0) T.cl_Web T.m_Web_many (ok_Web_many T) (hr.mono (by decide)) T.b_Web_many .nil pass0) pa_nil)))))))
    (pss_one (ps_ret pe_bl))
    pss_nil)
  (pss_cons (ps_for PassesOwn.never rfl (pi_zip (by rfl) T.zip (pa_cons (pv 5) (pa_cons (pe_lstJ (pa_cons (pv 4) (pa_cons (pe_callB (call_sortedDT rfl) (by rfl) T.sorted (by decide +kernel) (pa_cons (pe_dgetJ (by exact hu) (pv 1) pe_str (fun _ _ => rfl)) pa_nil)) pa_nil))) pa_nil))) (pg_tupJ (n := 2) rfl (pgs_cons (pg_name (i := 6) sc_l_looked.nd rfl (.inl rfl)) (pgs_cons (pg_name (i := 7) sc_l_looked.nd rfl (.inl rfl)) pgs_nil)))
    (pss_cons (ps_if (PW.pt (pw_or (pt_not (pt_val (pe_callB call_isJ (by rfl) T.isinstance (by decide +kernel) (pa_cons (pv 6) (pa_cons (pe_bltn (v := .ty "list") (u := .type "list") (by rfl) T.list (by decide +kernel) rfl) pa_nil))))) (pw_or1 (pt_cmpR op_ne (pe_callB (call_reprD hg hr.units) (by rfl) T.repr (by decide +kernel) (pa_cons (pv 6) pa_nil)) (pe_callB (call_reprD hg hr.units) (by rfl) T.repr (by decide +kernel) (pa_cons (pv 7) pa_nil)) (nomark _)))))
        (pss_one (ps_ret pe_bl))
        pss_nil)
      (pss_cons (ps_expr (pe_bmL PySem.F.slot_list_append PySem.F.type_list_append mt_append (pv 6) (pa_cons pe_int pa_nil)))
      (pss_one (ps_expr (pe_bmL PySem.F.slot_list_append PySem.F.type_list_append mt_append (pv 3) (pa_cons (pe_tupJ (pa_cons (pv 6) (pa_cons (pe_callTy call_listJ (by rfl) T.list (by decide +kernel) (pa_cons (pv 6) pa_nil)) pa_nil))) pa_nil)))))))
  (pss_one (ps_ret pe_bl)))))), ?_⟩
    have S1 : ∀ m, m < 10 → True := fun _ _ => trivial
    refine seq_by (fun σ' H' => ∃ (q4 : Addr) (ys : List Int), H q4 = none ∧ σ' = (L2.start (["_law_web", "_law_own", "_law_point", "_law_held", "_law_near", "_law_told", "_law_found", "_law_due_here", "_law_one", "_law_other"] : List Str) [.ref p, .ref o, .int (i : Int), .ref hl]).set 4 (some (.ref q4)) ∧ Ex H H' ∧ H' q4 = some (.lst (ys.map V.int)) ∧ ys.Perm (rows.getD i []) ∧ ys.Pairwise (· ≤ ·)) (fun N hN => ?_) (fun s1 H1 h1 => ?_)
    · simp [L2.start, and_assoc, own_ex O, O.ob, own_ties, O.dt]
      have nto : o ≠ t := fun z => by have a := O.ob; rw [z, O.dt] at a; cases a
      refine ⟨t, .dT (tieD ties), O.dt, trivial, fun od => ?_⟩
      have hO' : (upd H t (.frz od (.dT (tieD ties)))) o = some (.dK (ownD n t)) := by rw [upd_ne nto]; exact O.ob
      refine ⟨_, rfl, o, ownD n t, Sum.inr "ties", .ref t, rfl, hO', rfl, own_ties n t, t, od, rfl, .inr ⟨tieD ties, upd_same, fun D hD => ?_⟩⟩
      have nDt : D ≠ t := fun z => by rw [z, upd_same] at hD; cases hD
      have lenT : ties.length ≤ 900 := R.few G
      refine lc_it walk_keysT (CompI D (upd H t (.frz od (.dT (tieD ties)))) fun j acc H' => acc = ((ties.take j).filterMap (nearF i)).map V.int) ⟨Ex.new hD, [], upd_same, by simp, by simp⟩ (fun j H' _ c => c.1 _ _ upd_same) (fun j x H2 H3 hj c y => ?_) (fun H' c => ?_)
      · obtain ⟨rfl, ky, v, q5, hk5, rfl, hq5⟩ := y
        have hk6 : (tieD ties)[j]? = (ties[j]?).map fun p => (keyP p, V.bl true) := by unfold tieD; rw [List.getElem?_map]
        rw [hk6] at hk5
        cases hpr : ties[j]? with
        | none => rw [hpr] at hk5; cases hk5
        | some pr =>
          rw [hpr] at hk5
          cases hk5
          have hq6 : H3 q5 = some (.tup [.int pr.1, .int pr.2]) := hq5
          obtain ⟨e2, acc, g1, g2, g3⟩ := c
          have step : (ties.take (j + 1)).filterMap (nearF i) = (ties.take j).filterMap (nearF i) ++ (match nearF i pr with | some z => [z] | none => []) := by
            rw [List.take_add_one, hpr, List.filterMap_append]
            cases e : nearF i pr with
            | none => simp [e]
            | some z => simp [e]
          have ln : acc.length < 100000 := by
            have z1 : ((ties.take j).filterMap (nearF i)).length ≤ (ties.take j).length := List.length_filterMap_le _ _
            have z2 : (ties.take j).length ≤ ties.length := by rw [List.length_take]; omega
            rw [g3, List.length_map]; omega
          simp [wipe, and_assoc, hq6]
          by_cases h1 : (i : Int) = pr.1
          · have e5 : nearF i pr = some (pr.1 + pr.2 - i) := if_pos (.inl h1)
            refine .inr ⟨h1, CompI.push hD e2 g1 ln ?_⟩
            rw [step, e5, g3, List.map_append]
            rfl
          · refine .inl ⟨h1, ?_⟩
            by_cases h2 : (i : Int) = pr.2
            · have e5 : nearF i pr = some (pr.1 + pr.2 - i) := if_pos (.inr h2)
              refine .inr ⟨h2, CompI.push hD e2 g1 ln ?_⟩
              rw [step, e5, g3, List.map_append]
              rfl
            · have e5 : nearF i pr = none := if_neg (fun z => z.elim h1 h2)
              refine .inl ⟨h2, e2, acc, g1, g2, ?_⟩
              show acc = _
              rw [step, e5, List.append_nil]
              exact g3
      · obtain ⟨e2, acc, g1, g2, g3⟩ := c
        have hpm := near_perm G R i
        have full : (tieD ties).length = ties.length := by unfold tieD; rw [List.length_map]
        rw [full, List.take_length] at g3
        subst g3
        have e3 : Ex H (upd H' t (.dT (tieD ties))) := fun b o' e => by
          by_cases hb : b = t
          · subst hb; rw [upd_same, ← e, O.dt]
          · rw [upd_ne hb]; exact e2 _ _ (by rw [upd_ne hb]; exact e)
        refine ⟨e2 _ _ upd_same, D, ties.filterMap (nearF i), rfl, .inl (.inl ?_), ?_, fun ys q5 hp hs hq5 => hN _ _ ⟨q5, ys, fresh_back e3 hq5, rfl, e3.trans (Ex.new hq5), upd_same, hp.trans hpm, hs⟩⟩
        · rw [upd_ne nDt]; exact g1
        · rw [hpm.length_eq]; have := G.row i; omega
    · obtain ⟨q4, ys, n1, rfl, e1, h4, hp, hs⟩ := h1
      have W1 := W.up e1
      obtain ⟨dx, w1⟩ := W1.ob
      have okp : okPt rows (.int (i : Int)) = true := okPt_of (by omega) (by simpa using hi)
      simp [L2.start, and_assoc, w1, spBeside, web_ex W1, okp, iOf]
      refine ⟨.int _, fun r hr => by have := G.rows.small r hr; omega, fun ys2 q5 H2 hp2 hs2 n2 e2 h5 => ?_⟩
      have W2 := W1.up e2
      obtain rfl : ys2 = ys := List.Perm.eq_of_pairwise (fun a b _ _ h1 h2 => Int.le_antisymm h1 h2) hs2 hs (hp2.trans (by simpa using hp.symm))
      simp [and_assoc, e2 _ _ w1, spTies, web_ex W2, G.few]
      intro ts q6 H3 n3 e3 h6 ht
      have e13 := e2.trans e3
      have e03 := e1.trans e13
      have W3 := W.up e03
      intro q7 H4 n4 e4 h7
      have e14 := e13.trans e4
      have e04 := e1.trans e14
      have W4 := W.up e04
      have O4 := O.up e04
      have hh4 := hh.up e04
      have h44 := e14 _ _ h4
      have h54 := (e3.trans e4) _ _ h5
      have h64 := e4 _ _ h6
      have ht4 := ht.up e4
      have en : (rows.length : Int) = n := R.n.symm
      simp [and_assoc, e14 _ _ w1, spMany, web_ex W4, O4.ob, own_many, own_ties, en, spWholeL, isInt]
      refine ⟨.int _, ?_⟩
      refine ⟨_, rfl, _, rfl, _, rfl, o, ownD n t, Sum.inr "ties", .ref t, rfl, O4.ob, rfl, own_ties n t, t, tieD ties, ties, rfl, O4.dt, by unfold tieD; rw [List.map_map]; rfl, fun qs D hpq hsq hq4 hD => ⟨by simp, fun q8 H6 n8 e8 h8 => ?_⟩⟩
      have eD : Ex H4 (upd H4 D (.lst (qs.map fun q => .ref q.1))) := Ex.new hD
      have e6 := eD.trans e8
      have qsd : qs.map (·.2) = tiesL rows := sorted_ties G R hpq hsq
      refine ⟨q7, q8, _, _, rfl, .inl (.inl (e6 _ _ h7)), .inl (.inl h8), ?_⟩
      obtain ⟨as, ha1, ha2, ha3⟩ := hh
      have e06 := e04.trans e6
      have m5 : q5 ≠ hl := (ne_of_none (e1 _ _ ha1) n2).symm
      have m6 : q6 ≠ hl := (ne_of_none ((e1.trans e2) _ _ ha1) n3).symm
      have m56 : q5 ≠ q6 := ne_of_none h5 n3
      have m45 : q4 ≠ q5 := ne_of_none h4 n2
      have m46 : q4 ≠ q6 := ne_of_none (e2 _ _ h4) n3
      have m4 : q4 ≠ hl := (ne_of_none ha1 n1).symm
      have m7 : q7 ≠ q5 ∧ q7 ≠ q6 ∧ q7 ≠ hl := ⟨(ne_of_none (e3 _ _ h5) n4).symm, (ne_of_none h6 n4).symm, (ne_of_none (e03 _ _ ha1) n4).symm⟩
      have mD : D ≠ q5 ∧ D ≠ q6 ∧ D ≠ hl := ⟨(ne_of_none h54 hD).symm, (ne_of_none h64 hD).symm, (ne_of_none (e04 _ _ ha1) hD).symm⟩
      have m8 : q8 ≠ q5 ∧ q8 ≠ q6 ∧ q8 ≠ hl := ⟨(ne_of_none (eD _ _ h54) n8).symm, (ne_of_none (eD _ _ h64) n8).symm, (ne_of_none ((e04.trans eD) _ _ ha1) n8).symm⟩
      have dis : (q4 ≠ q5 ∧ q4 ≠ q6 ∧ q4 ≠ hl) ∧ (q7 ≠ q5 ∧ q7 ≠ q6 ∧ q7 ≠ hl) ∧ (q8 ≠ q5 ∧ q8 ≠ q6 ∧ q8 ≠ hl) ∧ (D ≠ q5 ∧ D ≠ q6 ∧ D ≠ hl) ∧ q5 ≠ q6 ∧ q6 ≠ hl := ⟨⟨m45, m46, m4⟩, m7, m8, mD, m56, m6⟩
      have f5 : H q5 = none := fresh_back e1 n2
      have f6 : H q6 = none := fresh_back (e1.trans e2) n3
      have L0 : LkI H hl q4 q5 q6 q7 q8 D as ys2 ts (tiesL rows) qs 0 [] H6 := ⟨But.of_ex e06, by simpa using e06 _ _ ha1, rfl, (fun z h => nomatch h), e6 _ _ h7, h8, e6 _ _ h44, e8 _ _ upd_same, fun q hq => e6 _ _ (hq4 q hq), fun _ => e6 _ _ h54, fun _ => ⟨e6 _ _ h64, ht4.up e6⟩⟩
      have few := G.few
      have smY : ∀ y ∈ ys2, 0 ≤ y ∧ y < 100 := fun y hy => by
        have := G.rng i y ((hp.mem_iff).mp hy)
        omega
      have smT : ∀ pr ∈ tiesL rows, (0 ≤ pr.1 ∧ pr.1 < 100) ∧ (0 ≤ pr.2 ∧ pr.2 < 100) := fun pr hpr => by
        obtain ⟨a, b, rfl, h1, h2⟩ := (ties_iff G).mp hpr
        have := G.lt h2
        exact ⟨⟨by show (0 : Int) ≤ a; omega, by show (a : Int) < 100; omega⟩, ⟨by show (0 : Int) ≤ b; omega, by show (b : Int) < 100; omega⟩⟩
      have lenY : ys2.length ≤ 1000 := by rw [hp.length_eq]; have := G.row i; omega
      have lenT : (tiesL rows).length ≤ 1000 := by rw [← (R.perm G).length_eq]; have := R.few G; omega
      have smQ : ∀ q ∈ qs, (0 ≤ q.2.1 ∧ q.2.1 < 100) ∧ (0 ≤ q.2.2 ∧ q.2.2 < 100) := fun q hq => smT q.2 (by rw [← qsd]; exact List.mem_map_of_mem hq)
      refine for_it (walk_zip (n := 2) (xs := [V.ref q5, V.ref q6]) (ys := [V.ref q4, V.ref D]) rfl) (fun j σ H' => ∃ (a b : Option V) (ps : List (Addr × Addr × Addr)), σ = [some (V.ref p), some (V.ref o), some (V.int i), some (V.ref hl), some (V.ref q4), some (V.ref q7), a, b, none, none] ∧ LkI H hl q4 q5 q6 q7 q8 D as ys2 ts (tiesL rows) qs j ps H') ⟨none, none, [], rfl, L0⟩ (fun j σ H' _ h => ?_) (fun j v σ H' H'' _ h yy => ?_) (fun σ H' h => ?_)
      · obtain ⟨a, b, ps, rfl, L⟩ := h
        exact ⟨.inl (.inl L.a7), .inl (.inl L.a8)⟩
      · obtain ⟨a, b, ps, rfl, L⟩ := h
        obtain ⟨T, x, y, rfl, hT, rfl, hx, hy⟩ := yy
        have gen : ∃ (f g : Addr) (xs zs : List V) (ds : List PyData), x = .ref f ∧ y = .ref g ∧ ((f = q5 ∧ j = 0) ∨ (f = q6 ∧ j = 1)) ∧ H f = none ∧ f ≠ hl ∧ H' f = some (.lst xs) ∧ H' g = some (.lst zs) ∧ TnyAll H' xs ds ∧ TnyAll H' zs ds ∧ ds.length ≤ 1000 := by
          match j, hx, hy, L with
          | 0, hx, hy, L =>
            simp at hx hy
            subst hx hy
            exact ⟨q5, q4, _, _, ys2.map PyData.int, rfl, rfl, .inl ⟨rfl, rfl⟩, f5, m5, L.a5 rfl, L.a4, tny_ints smY, tny_ints smY, by simpa using lenY⟩
          | 1, hx, hy, L =>
            simp at hx hy
            subst hx hy
            obtain ⟨y1, y2⟩ := L.a6 (Nat.le_refl _)
            exact ⟨q6, D, _, _, (tiesL rows).map pd, rfl, rfl, .inr ⟨rfl, rfl⟩, f6, m6, y1, L.aD, tny_pairs y2 smT, by have z := tny_of L.aq smQ; rw [qsd] at z; exact z, by simpa using lenT⟩
          | j + 2, hx, hy, L => simp at hx
        obtain ⟨f, g, xs, zs, dd, rfl, rfl, hf, fH, nfh, hxf, hzg, tx, tz, lend⟩ := gen
        have eT : Ex H' (upd H' T (.tup [.ref f, .ref g])) := Ex.new hT
        have upT : ∀ {l : List V}, TnyAll H' l dd → TnyAll (upd H' T (.tup [.ref f, .ref g])) l dd := fun h => h.map fun t o e => eT _ _ e
        have dpf : Dp K (upd H' T (.tup [.ref f, .ref g])) (.ref f) (.list dd) := .lst (.inl (.inl (eT _ _ hxf))) (upT tx).dp
        have dpg : Dp K (upd H' T (.tup [.ref f, .ref g])) (.ref g) (.list dd) := .lst (.inl (.inl (eT _ _ hzg))) (upT tz).dp
        obtain ⟨k1, k2, k3, k4⟩ := tx.sml.list (by omega)
        simp [and_assoc, upd_same, tyN_lst (eT _ _ hxf)]
        refine ⟨.list dd, dpf, k1, k2, k3, k4, .list dd, dpg, k1, k2, k3, k4, ?_⟩
        refine .inl ⟨rfl, ⟨_, eT _ _ hxf⟩, xs, eT _ _ hxf, lt_line (by rw [tx.len]; omega), ?_⟩
        have hA : (upd (upd H' T (.tup [.ref f, .ref g])) f (.lst (xs ++ [.int 0]))) hl = some (.lst ((as ++ ps.map (·.1)).map V.ref)) := by rw [upd_ne nfh.symm]; exact eT _ _ L.at_hl
        have bA : ∀ {M : List Addr}, f ∈ M → But M H' (upd (upd H' T (.tup [.ref f, .ref g])) f (.lst (xs ++ [.int 0]))) := fun h => (But.of_ex eT).updT h
        have lps := L.len
        refine ⟨⟨_, hA⟩, f, _, rfl, .inl upd_same, fun c HB nB eB hB p' HC nC eC hC => ⟨_, (eB.trans eC) _ _ hA, lt_line (by simp; omega), ps ++ [(p', f, c)], ?_⟩⟩
        have bC : ∀ (o' : HO), But [f, hl] H' (upd HC hl o') := fun o' => ((bA (by simp)).trans (But.of_ex (eB.trans eC))).updT (by simp)
        have pn : p' ≠ hl := (ne_of_none (eB _ _ hA) nC).symm
        have cn : c ≠ hl := (ne_of_none hA nB).symm
        refine L.step (bC _) hf ⟨_, hxf⟩ fH nfh dis ((bA (M := [f]) (by simp)).dm c nB) upd_same ⟨xs, dd ++ [.int 0], ?_, ?_, ?_, ?_⟩
        · show upd HC hl _ p' = _
          rw [upd_ne pn]; exact hC
        · show upd HC hl _ f = _
          rw [upd_ne nfh]; exact (eB.trans eC) _ _ upd_same
        · show upd HC hl _ c = _
          rw [upd_ne cn]; exact eC _ _ hB
        · refine TnyAll.snoc (tx.map fun t o e => (bC _).kp t _ e ?_) (.int 0 (by omega))
          have y1 : t ≠ f := fun z => by rw [z, hxf] at e; cases e
          have y2 : t ≠ hl := fun z => by rw [z, L.at_hl] at e; cases e
          simp [y1, y2]
      · obtain ⟨a, b, ps, rfl, L⟩ := h
        have L : LkI H hl q4 q5 q6 q7 q8 D as ys2 ts (tiesL rows) qs 2 ps H' := L
        have lps := L.len
        refine q H' L.but ⟨as ++ ps.map (·.1), L.at_hl, by simp; omega, fun x hx => ?_⟩
        rcases List.mem_append.mp hx with hx | hx
        · exact (ha3 x hx).but L.but fun m hm => by
            rw [List.mem_singleton.mp hm]
            exact .inr (.inr ⟨as, ha1⟩)
        · obtain ⟨z, hz, rfl⟩ := List.mem_map.mp hx
          exact (L.pr z hz).1.held
end
end Jk

namespace Jk
open PySem L2 Evl
/-! ## two webs, their own dicts, and what was held -/
structure Sd where
  p : Addr
  l : Addr
  o : Addr
  t : Addr
  ds : List Addr
  rows : List (List Int)
  n : Int
  ties : List (Int × Int)
def Sd.M (u : Sd) : List Addr := u.l :: u.o :: u.t :: u.ds
structure Side (A : Adr) (H : Hp) (u : Sd) : Prop where
  W : WebAt A.c_Web H u.p u.l u.ds u.rows
  O : OwnAt H u.o u.t u.n u.ties
  G : Good u.rows
  R : Rel u.rows u.n u.ties
  no : u.o ∉ u.ds
theorem WebAt.dAt {C : Addr} {H : Hp} {p l : Addr} {ds : List Addr} {rows : List (List Int)} (W : WebAt C H p l ds rows) {d : Addr} (h : d ∈ ds) : ∃ kv, H d = some (.dK kv) := by
  obtain ⟨i, hi, ei⟩ := List.mem_iff_getElem.mp h
  obtain ⟨d', c1, c2, _⟩ := W.at (i := i) (by rw [← W.len]; exact hi)
  rw [List.getElem?_eq_getElem hi, ei] at c1
  cases c1
  exact ⟨_, c2⟩
theorem Side.soft {A : Adr} {H : Hp} {u : Sd} (s : Side A H u) : ∀ m ∈ u.M, Soft H m := fun m h => by
  unfold Sd.M at h
  rcases List.mem_cons.mp h with rfl | h
  · exact .inr (.inr ⟨_, s.W.ls⟩)
  · rcases List.mem_cons.mp h with rfl | h
    · exact .inl ⟨_, s.O.ob⟩
    · rcases List.mem_cons.mp h with rfl | h
      · exact .inr (.inl ⟨_, s.O.dt⟩)
      · exact .inl (s.W.dAt h)
/-- a list's place is none of these but the web's own list -/
theorem Side.lst {A : Adr} {H : Hp} {u : Sd} (s : Side A H u) {m : Addr} {xs : List V} (h : H m = some (.lst xs)) (n : m ≠ u.l) : m ∉ u.M := fun z => by
  unfold Sd.M at z
  rcases List.mem_cons.mp z with e | z
  · exact n e
  · rcases List.mem_cons.mp z with rfl | z
    · have a := s.O.ob; rw [h] at a; cases a
    · rcases List.mem_cons.mp z with rfl | z
      · have a := s.O.dt; rw [h] at a; cases a
      · obtain ⟨kv, a⟩ := s.W.dAt z; rw [h] at a; cases a
theorem Side.ins {A : Adr} {H : Hp} {u : Sd} (s : Side A H u) {m C dx : Addr} {fs : List (Str × V)} (h : H m = some (.ins C dx fs)) : m ∉ u.M := fun z => by
  rcases s.soft m z with ⟨_, a⟩ | ⟨_, a⟩ | ⟨_, a⟩ <;> (rw [h] at a; cases a)
theorem Side.some {A : Adr} {H : Hp} {u : Sd} (s : Side A H u) {m : Addr} (h : m ∈ u.M) : H m ≠ none := fun z => by
  rcases s.soft m h with ⟨_, a⟩ | ⟨_, a⟩ | ⟨_, a⟩ <;> (rw [z] at a; cases a)
theorem Side.up {A : Adr} {H H' : Hp} {u : Sd} (s : Side A H u) (e : Ex H H') : Side A H' u := ⟨s.W.up e, s.O.up e, s.G, s.R, s.no⟩
theorem Side.but {A : Adr} {H H' : Hp} {u : Sd} {M : List Addr} (s : Side A H u) (b : But M H H') (d : ∀ m ∈ M, m ∉ u.M) (n : u.p ∉ M) : Side A H' u := by
  have k : ∀ x ∈ u.M, x ∉ M := fun x h z => d x z h
  refine ⟨s.W.but b fun x h => ⟨fun z => n (z ▸ h), fun z => d x h (by unfold Sd.M; simp [z]), fun z => d x h (by unfold Sd.M; simp [z])⟩, ⟨b.kp _ _ s.O.ob (k _ (by unfold Sd.M; simp)), b.kp _ _ s.O.dt (k _ (by unfold Sd.M; simp))⟩, s.G, s.R, s.no⟩
structure Sys (A : Adr) (H0 H : Hp) (wb ob : Addr) (xs : List Sd) : Prop where
  ex : Ex H0 H
  nw : H0 wb = none
  nb : H0 ob = none
  web : H wb = some (.lst (xs.map fun u => V.ref u.p))
  own : H ob = some (.lst (xs.map fun u => V.ref u.o))
  side : ∀ (i : Nat) (u : Sd), xs[i]? = some u → Side A H u
  fr : ∀ (i : Nat) (u : Sd), xs[i]? = some u → ∀ m ∈ u.M, H0 m = none
  apl : ∀ (i : Nat) (u : Sd), xs[i]? = some u → wb ≠ u.l ∧ ob ≠ u.l
  dis : ∀ (i j : Nat) (u v : Sd), i ≠ j → xs[i]? = some u → xs[j]? = some v → ∀ m ∈ u.M, m ∉ v.M
theorem Sys.up {A : Adr} {H0 H H' : Hp} {wb ob : Addr} {xs : List Sd} (s : Sys A H0 H wb ob xs) (e : Ex H H') : Sys A H0 H' wb ob xs :=
  ⟨s.ex.trans e, s.nw, s.nb, e _ _ s.web, e _ _ s.own, fun i u h => (s.side i u h).up e, s.fr, s.apl, s.dis⟩
theorem ex_but {H0 H H' : Hp} {M : List Addr} (e : Ex H0 H) (b : But M H H') (n : ∀ m ∈ M, H0 m = none) : Ex H0 H' := fun x o h => b.kp x o (e x o h) fun z => by rw [n x z] at h; cases h
theorem Sys.one {A : Adr} {H0 H H' : Hp} {wb ob hl : Addr} {xs : List Sd} (s : Sys A H0 H wb ob xs) (b : But [hl] H H') (h0 : H0 hl = none) (h1 : ∃ ys, H hl = some (.lst ys)) (n1 : hl ≠ wb) (n2 : hl ≠ ob) (n3 : ∀ (i : Nat) (u : Sd), xs[i]? = some u → hl ≠ u.l) : Sys A H0 H' wb ob xs := by
  obtain ⟨ys, h1⟩ := h1
  refine ⟨ex_but s.ex b (by simpa using h0), s.nw, s.nb, b.kp _ _ s.web (by simpa using n1.symm), b.kp _ _ s.own (by simpa using n2.symm), fun i u h => (s.side i u h).but b (fun m hm => ?_) (fun z => ?_), s.fr, s.apl, s.dis⟩
  · rw [List.mem_singleton.mp hm]
    exact (s.side i u h).lst h1 (n3 i u h)
  · obtain ⟨dx, a⟩ := (s.side i u h).W.ob
    rw [List.mem_singleton.mp z, h1] at a; cases a
theorem Sys.deed {A : Adr} {H0 H H' : Hp} {wb ob : Addr} {xs : List Sd} {i : Nat} {u : Sd} (s : Sys A H0 H wb ob xs) (hi : xs[i]? = some u) {ds' : List Addr} {rows' : List (List Int)} {n' : Int} {ties' : List (Int × Int)}
    (W : WebAt A.c_Web H' u.p u.l ds' rows') (O : OwnAt H' u.o u.t n' ties') (G : Good rows') (R : Rel rows' n' ties') (b : But u.M H H') (nw : NewIn H u.ds ds') : Sys A H0 H' wb ob (xs.set i { u with ds := ds', rows := rows', n := n', ties := ties' }) := by
  have hlt : i < xs.length := (List.getElem?_eq_some_iff.mp hi).1
  have su := s.side i u hi
  have mem : ∀ m, m ∈ ({ u with ds := ds', rows := rows', n := n', ties := ties' } : Sd).M → m ∈ u.M ∨ H m = none := fun m h => by
    unfold Sd.M at h ⊢
    simp only [List.mem_cons] at h ⊢
    rcases h with h | h | h | h
    · exact .inl (.inl h)
    · exact .inl (.inr (.inl h))
    · exact .inl (.inr (.inr (.inl h)))
    · exact (nw m h).imp (fun z => .inr (.inr (.inr z))) id
  have new : ∀ m, m ∈ ({ u with ds := ds', rows := rows', n := n', ties := ties' } : Sd).M → H0 m = none := fun m h => (mem m h).elim (s.fr i u hi m) (fun z => fresh_back s.ex z)
  have at' : ∀ (j : Nat) (v : Sd), (xs.set i { u with ds := ds', rows := rows', n := n', ties := ties' })[j]? = some v → (j = i ∧ v = { u with ds := ds', rows := rows', n := n', ties := ties' }) ∨ (j ≠ i ∧ xs[j]? = some v) := fun j v h => by
    by_cases e : j = i
    · subst e
      rw [List.getElem?_set_self hlt] at h
      cases h
      exact .inl ⟨rfl, rfl⟩
    · rw [List.getElem?_set_ne (Ne.symm e)] at h
      exact .inr ⟨e, h⟩
  have keepW : (xs.set i { u with ds := ds', rows := rows', n := n', ties := ties' }).map (fun u => V.ref u.p) = xs.map fun u => V.ref u.p := by
    rw [List.map_set]
    refine List.ext_getElem? fun j => ?_
    by_cases e : j = i
    · subst e
      rw [List.getElem?_set_self (by rw [List.length_map]; exact hlt), List.getElem?_map, hi]; rfl
    · rw [List.getElem?_set_ne (Ne.symm e)]
  have keepO : (xs.set i { u with ds := ds', rows := rows', n := n', ties := ties' }).map (fun u => V.ref u.o) = xs.map fun u => V.ref u.o := by
    rw [List.map_set]
    refine List.ext_getElem? fun j => ?_
    by_cases e : j = i
    · subst e
      rw [List.getElem?_set_self (by rw [List.length_map]; exact hlt), List.getElem?_map, hi]; rfl
    · rw [List.getElem?_set_ne (Ne.symm e)]
  refine ⟨ex_but s.ex b (s.fr i u hi), s.nw, s.nb, ?_, ?_, fun j v h => ?_, fun j v h m hm => ?_, fun j v h => ?_, fun j k v v' hjk hj hk m hm hm' => ?_⟩
  · rw [keepW]; exact b.kp _ _ s.web (su.lst s.web (s.apl i u hi).1)
  · rw [keepO]; exact b.kp _ _ s.own (su.lst s.own (s.apl i u hi).2)
  · rcases at' j v h with ⟨rfl, rfl⟩ | ⟨e, h⟩
    · refine ⟨W, O, G, R, fun z => ?_⟩
      rcases nw _ z with z | z
      · exact su.no z
      · rw [su.O.ob] at z; cases z
    · refine (s.side j v h).but b (s.dis i j u v (Ne.symm e) hi h) fun z => ?_
      obtain ⟨dx, a⟩ := (s.side j v h).W.ob
      exact su.ins a z
  · rcases at' j v h with ⟨rfl, rfl⟩ | ⟨e, h⟩
    · exact new m hm
    · exact s.fr j v h m hm
  · rcases at' j v h with ⟨rfl, rfl⟩ | ⟨e, h⟩
    · exact s.apl j u hi
    · exact s.apl j v h
  · rcases at' j v hj with ⟨rfl, rfl⟩ | ⟨e, hj2⟩
    · rcases at' k v' hk with ⟨rfl, rfl⟩ | ⟨e', hk⟩
      · exact hjk rfl
      · rcases mem m hm with z | z
        · exact s.dis j k u v' hjk hi hk m z hm'
        · exact (s.side k v' hk).some hm' z
    · rcases at' k v' hk with ⟨rfl, rfl⟩ | ⟨e', hk⟩
      · rcases mem m hm' with z | z
        · exact s.dis j k v u hjk hj2 hi m hm z
        · exact (s.side j v hj2).some hm z
      · exact s.dis j k v v' hjk hj2 hk m hm hm'
theorem Sys.push {A : Adr} {H0 H H' : Hp} {wb ob : Addr} {us : List Sd} {u : Sd} (S : Sys A H0 H wb ob us) (b : But [wb, ob] H H') (web : H' wb = some (.lst (us.map (fun u => V.ref u.p) ++ [.ref u.p]))) (own : H' ob = some (.lst (us.map (fun u => V.ref u.o) ++ [.ref u.o])))
    (side : Side A H' u) (new : ∀ m ∈ u.M, H m = none) : Sys A H0 H' wb ob (us ++ [u]) := by
  have at' : ∀ (j : Nat) (v : Sd), (us ++ [u])[j]? = some v → us[j]? = some v ∨ (j = us.length ∧ v = u) := fun j v h => by
    by_cases hj : j < us.length
    · rw [List.getElem?_append_left hj] at h; exact .inl h
    · rw [List.getElem?_append_right (by omega)] at h
      have : j - us.length = 0 := by
        have := (List.getElem?_eq_some_iff.mp h).1
        simp at this; omega
      rw [this] at h
      cases h
      exact .inr ⟨by omega, rfl⟩
  have hl : u.l ∈ u.M := by unfold Sd.M; simp
  refine ⟨ex_but S.ex b (by simpa using ⟨S.nw, S.nb⟩), S.nw, S.nb, by simpa using web, by simpa using own, fun j v h => ?_, fun j v h m hm => ?_, fun j v h => ?_, fun j k v v' hjk hj hk m hm hm' => ?_⟩
  · rcases at' j v h with h | ⟨_, rfl⟩
    · refine (S.side j v h).but b (fun m hm => ?_) (fun z => ?_)
      · simp only [List.mem_cons, List.not_mem_nil, or_false] at hm
        rcases hm with rfl | rfl
        · exact (S.side j v h).lst S.web (S.apl j v h).1
        · exact (S.side j v h).lst S.own (S.apl j v h).2
      · obtain ⟨dx, a⟩ := (S.side j v h).W.ob
        simp only [List.mem_cons, List.not_mem_nil, or_false] at z
        rcases z with e | e
        · rw [e, S.web] at a; cases a
        · rw [e, S.own] at a; cases a
    · exact side
  · rcases at' j v h with h | ⟨_, rfl⟩
    · exact S.fr j v h m hm
    · exact fresh_back S.ex (new m hm)
  · rcases at' j v h with h | ⟨_, rfl⟩
    · exact S.apl j v h
    · exact ⟨ne_of_none S.web (new _ hl), ne_of_none S.own (new _ hl)⟩
  · rcases at' j v hj with hj2 | ⟨e1, rfl⟩
    · rcases at' k v' hk with hk | ⟨e2, rfl⟩
      · exact S.dis j k v v' hjk hj2 hk m hm hm'
      · exact (S.side j v hj2).some hm (new m hm')
    · rcases at' k v' hk with hk | ⟨e2, rfl⟩
      · exact (S.side k v' hk).some hm' (new m hm)
      · exact hjk (e1.trans e2.symm)
/-- with what is held -/
structure All (A : Adr) (H0 H : Hp) (wb ob hl : Addr) (xs : List Sd) (k : Nat) : Prop where
  sys : Sys A H0 H wb ob xs
  held : HeldAt H hl k
  h0 : H0 hl = none
  n1 : hl ≠ wb
  n2 : hl ≠ ob
  n3 : ∀ (i : Nat) (u : Sd), xs[i]? = some u → hl ≠ u.l
theorem All.up {A : Adr} {H0 H H' : Hp} {wb ob hl : Addr} {xs : List Sd} {k : Nat} (s : All A H0 H wb ob hl xs k) (e : Ex H H') : All A H0 H' wb ob hl xs k := ⟨s.sys.up e, s.held.up e, s.h0, s.n1, s.n2, s.n3⟩
theorem All.look {A : Adr} {H0 H H' : Hp} {wb ob hl : Addr} {xs : List Sd} {k k' : Nat} (s : All A H0 H wb ob hl xs k) (b : But [hl] H H') (h : HeldAt H' hl k') : All A H0 H' wb ob hl xs k' :=
  ⟨s.sys.one b s.h0 (let ⟨_, a, _⟩ := s.held; ⟨_, a⟩) s.n1 s.n2 s.n3, h, s.h0, s.n1, s.n2, s.n3⟩
theorem All.deed {A : Adr} {H0 H H' : Hp} {wb ob hl : Addr} {xs : List Sd} {k i : Nat} {u : Sd} (s : All A H0 H wb ob hl xs k) (hi : xs[i]? = some u) {ds' : List Addr} {rows' : List (List Int)} {n' : Int} {ties' : List (Int × Int)}
    (W : WebAt A.c_Web H' u.p u.l ds' rows') (O : OwnAt H' u.o u.t n' ties') (G : Good rows') (R : Rel rows' n' ties') (b : But u.M H H') (nw : NewIn H u.ds ds') : All A H0 H' wb ob hl (xs.set i { u with ds := ds', rows := rows', n := n', ties := ties' }) k := by
  have su := s.sys.side i u hi
  obtain ⟨as, a, _⟩ := id s.held
  refine ⟨s.sys.deed hi W O G R b nw, s.held.but b su.soft (su.lst a (s.n3 i u hi)), s.h0, s.n1, s.n2, fun j v h => ?_⟩
  by_cases e : j = i
  · subst e
    rw [List.getElem?_set_self (List.getElem?_eq_some_iff.mp hi).1] at h
    cases h
    exact s.n3 j u hi
  · rw [List.getElem?_set_ne (Ne.symm e)] at h
    exact s.n3 j v h
theorem All.le {A : Adr} {H0 H : Hp} {wb ob hl : Addr} {xs : List Sd} {k k' : Nat} (s : All A H0 H wb ob hl xs k) (h : k ≤ k') : All A H0 H wb ob hl xs k' :=
  ⟨s.sys, let ⟨as, a, b, c⟩ := s.held; ⟨as, a, Nat.le_trans b h, c⟩, s.h0, s.n1, s.n2, s.n3⟩
end Jk

namespace Jk
open PySem L2 Evl
def spLaw (K : PySem.W.Frag) : Sp := fun vs H Q _ => ∃ (a : Addr) (ns : List Int), vs = [.ref a] ∧ SqL K H a (ns.map V.int) ∧ ns.length ≤ 63 ∧ ∀ H', Q (.bl true) H'
theorem sql_up {K : PySem.W.Frag} {H H' : Hp} {a : Addr} {xs : List V} (h : SqL K H a xs) (e : Ex H H') : SqL K H' a xs := by
  rcases h with (h | ⟨o, h⟩) | h
  · exact .inl (.inl (e _ _ h))
  · exact .inl (.inr ⟨o, e _ _ h⟩)
  · exact .inr h
theorem many_ix {c d : Int} (hd : 0 ≤ d) : ∃ m : Int, [V.int (1 + c % 30), V.int (1 + c % 5), V.int 30, V.int 28][(d / 4 % 4).toNat]? = some (V.int m) ∧ 1 ≤ m ∧ m ≤ 30 := by
  obtain ⟨j, hj, e⟩ : ∃ j : Nat, j < 4 ∧ (d / 4 % 4).toNat = j := ⟨_, by omega, rfl⟩
  rw [e]
  match j, hj with
  | 0, _ => exact ⟨1 + c % 30, rfl, by omega, by omega⟩
  | 1, _ => exact ⟨1 + c % 5, rfl, by omega, by omega⟩
  | 2, _ => exact ⟨30, rfl, by omega, by omega⟩
  | 3, _ => exact ⟨28, rfl, by omega, by omega⟩
def bI (b : Bool) : Int := if b = true then 1 else 0
def jIntB : List V → Hp → VK → Prop := fun xs H Q => ∃ b, xs = [.bl b] ∧ Q (.int (bI b)) H
theorem call_intB {X : Cx} : CallR X (.type "int") jIntB := callBy call_int1 fun xs H Q ⟨b, e, q⟩ => by
  subst e
  cases b with
  | false => exact .inr ⟨false, rfl, q⟩
  | true => exact .inr ⟨true, rfl, q⟩
@[simp] theorem j_intB {b : Bool} {H : Hp} {Q : VK} : jIntB [.bl b] H Q = Q (.int (bI b)) H := by simp [jIntB]
theorem op_neK {X : Cx} {K0 : PySem.W.Frag} (hu : X.A.units + 64 < cLine) (hK : X.K = K0 := by rfl) : OpR X (compareOp .NotEq) (rNeD K0) := by
  subst hK
  exact op_neD hu
theorem odd_ix {H : Hp} {p1 p2 p3 : Addr} {n d : Int} (h1 : Thing H (.ref p1)) (h2 : Thing H (.ref p2)) (h3 : Thing H (.ref p3)) (d0 : 0 ≤ d) :
    ∃ x : V, [V.non, V.bl true, V.bl false, V.str (Str.ofString "0"), V.ref p1, V.ref p2, V.ref p3, V.int (-1), V.int n, V.int (30 + d)][(d % 10).toNat]? = some x ∧ Thing H x ∧ (¬ d % 10 = 8 → ∀ rows : List (List Int), Good rows → okPt rows x = false) ∧ ∀ z, x = .ref z → z = p1 ∨ z = p2 ∨ z = p3 := by
  obtain ⟨j, hj, e⟩ : ∃ j : Nat, j < 10 ∧ (d % 10).toNat = j := ⟨_, by omega, rfl⟩
  rw [e]
  match j, hj with
  | 0, _ => exact ⟨_, rfl, .non, fun _ _ _ => rfl, fun z h => by cases h⟩
  | 1, _ => exact ⟨_, rfl, .bl _, fun _ _ _ => rfl, fun z h => by cases h⟩
  | 2, _ => exact ⟨_, rfl, .bl _, fun _ _ _ => rfl, fun z h => by cases h⟩
  | 3, _ => exact ⟨_, rfl, .str _, fun _ _ _ => rfl, fun z h => by cases h⟩
  | 4, _ => exact ⟨_, rfl, h1, fun _ _ _ => rfl, fun z h => by cases h; exact .inl rfl⟩
  | 5, _ => exact ⟨_, rfl, h2, fun _ _ _ => rfl, fun z h => by cases h; exact .inr (.inl rfl)⟩
  | 6, _ => exact ⟨_, rfl, h3, fun _ _ _ => rfl, fun z h => by cases h; exact .inr (.inr rfl)⟩
  | 7, _ => exact ⟨_, rfl, .int _, fun _ _ _ => by simp [okPt, inR], fun z h => by cases h⟩
  | 8, _ => exact ⟨_, rfl, .int _, fun z => absurd (by omega) z, fun z h => by cases h⟩
  | 9, _ => exact ⟨_, rfl, .int _, fun _ rows G => by
      have := G.few
      simp [okPt, inR]; omega, fun z h => by cases h⟩
theorem pair_ix {a b c : V} {d p1 p2 p3 p4 p5 p6 : Addr} {H : Hp} {k : Int} (h1 : H p1 = some (.tup [a, b])) (h2 : H p2 = some (.tup [a, b])) (h3 : H p3 = some (.tup [a, b])) (h4 : H p4 = some (.tup [c, b])) (h5 : H p5 = some (.tup [a, c])) (h6 : H p6 = some (.tup [a, a])) (ta : Thing H a) (tb : Thing H b) (tc : Thing H c) (k0 : 0 ≤ k) :
    ∃ (q : Addr) (x y : V), [V.ref p1, V.ref p2, V.ref p3, V.ref p4, V.ref p5, V.ref p6][(k % 6).toNat]? = some (.ref q) ∧ H q = some (.tup [x, y]) ∧ Thing H x ∧ Thing H y := by
  obtain ⟨j, hj, e⟩ : ∃ j : Nat, j < 6 ∧ (k % 6).toNat = j := ⟨_, by omega, rfl⟩
  rw [e]
  match j, hj with
  | 0, _ => exact ⟨_, _, _, rfl, h1, ta, tb⟩
  | 1, _ => exact ⟨_, _, _, rfl, h2, ta, tb⟩
  | 2, _ => exact ⟨_, _, _, rfl, h3, ta, tb⟩
  | 3, _ => exact ⟨_, _, _, rfl, h4, tc, tb⟩
  | 4, _ => exact ⟨_, _, _, rfl, h5, ta, tc⟩
  | 5, _ => exact ⟨_, _, _, rfl, h6, ta, ta⟩
theorem word_ix {k : Int} (k0 : 0 ≤ k) : ∃ wd : Str, [V.str (Str.ofString "put"), V.str (Str.ofString "put"), V.str (Str.ofString "put"), V.str (Str.ofString "take"), V.str (Str.ofString "has"), V.str (Str.ofString "grow")][(k % 6).toNat]? = some (.str wd) ∧ Word wd := by
  obtain ⟨j, hj, e⟩ : ∃ j : Nat, j < 6 ∧ (k % 6).toNat = j := ⟨_, by omega, rfl⟩
  rw [e]
  match j, hj with
  | 0, _ => exact ⟨_, rfl, .inl rfl⟩
  | 1, _ => exact ⟨_, rfl, .inl rfl⟩
  | 2, _ => exact ⟨_, rfl, .inl rfl⟩
  | 3, _ => exact ⟨_, rfl, .inr (.inl rfl)⟩
  | 4, _ => exact ⟨_, rfl, .inr (.inr (.inl rfl))⟩
  | 5, _ => exact ⟨_, rfl, .inr (.inr (.inr rfl))⟩
theorem far_ix {H : Hp} {p1 p2 p3 : Addr} {d m : Int} (h1 : Thing H (.ref p1)) (h2 : Thing H (.ref p2)) (h3 : Thing H (.ref p3)) (d0 : 0 ≤ d) (hm : 30 < m) (j : Nat) (hj : j < 12) :
    ∃ x : V, [V.int 0, V.int (-1), V.int 31, V.bl true, V.bl false, V.non, V.str (Str.ofString "3"), V.ref p1, V.ref p2, V.ref p3, V.int (31 + d), V.int m][j]? = some x ∧ Thing H x ∧ inR x 1 30 = false := by
  match j, hj with
  | 0, _ => exact ⟨_, rfl, .int _, rfl⟩
  | 1, _ => exact ⟨_, rfl, .int _, rfl⟩
  | 2, _ => exact ⟨_, rfl, .int _, rfl⟩
  | 3, _ => exact ⟨_, rfl, .bl _, rfl⟩
  | 4, _ => exact ⟨_, rfl, .bl _, rfl⟩
  | 5, _ => exact ⟨_, rfl, .non, rfl⟩
  | 6, _ => exact ⟨_, rfl, .str _, rfl⟩
  | 7, _ => exact ⟨_, rfl, h1, rfl⟩
  | 8, _ => exact ⟨_, rfl, h2, rfl⟩
  | 9, _ => exact ⟨_, rfl, h3, rfl⟩
  | 10, _ => exact ⟨_, rfl, .int _, by simp [inR]; omega⟩
  | 11, _ => exact ⟨_, rfl, .int _, by simp [inR]; omega⟩
theorem Thing.but {M : List Addr} {H H' : Hp} {x : V} (t : Thing H x) (b : But M H H') (n : ∀ z, x = .ref z → z ∉ M) : Thing H' x := by
  cases t with
  | non => exact .non
  | bl b => exact .bl b
  | int i => exact .int i
  | str s => exact .str s
  | lst h => exact .lst (b.kp _ _ h (n _ rfl))
  | tup h => exact .tup (b.kp _ _ h (n _ rfl))
  | dK h => exact .dK (b.kp _ _ h (n _ rfl))
section
variable {P : Program} {w : World} {K : PySem.W.Frag} {mg : Str → Option Value} {base : Heap} {A : Adr}
theorem ok_law (T : Txt K mg A) : FnG P w K mg base 9 A.a_law A.d_law ["_law_script"] (spLaw K) := by
  refine T.F_law.okG sc_law (fun vs H Q E h => ?_) (fun cdv C outer s H vs Q E hg hr h => ?_)
  · obtain ⟨a, ns, rfl, _⟩ := h
    rfl
  · obtain ⟨a, ns, rfl, hS, hl, q⟩ := h
    have hu := hu_of hr
    refine ⟨_, (pss_cons (ps_set (i := 1) sc_law.nd rfl (Or.inl rfl) (pe_lstJ pa_nil))
  (pss_cons (ps_set (i := 2) sc_law.nd rfl (Or.inl rfl) (pe_lstJ pa_nil))
  (pss_cons (ps_for PassesOwn.never rfl (pi_range1 rfl T.range (pa_cons pe_int pa_nil)) (pg_name (i := 3) sc_law.nd rfl (.inl rfl))
    (pss_cons (ps_set (i := 4) sc_law.nd rfl (Or.inl rfl) (pe_call (ok_l_number T) (hr.mono (by decide)) rfl T.g_l_number T.k_l_number T.b_l_number .nil pass0 (pa_cons (pv 0) (pa_cons (pv 3) pa_nil))))
      (pss_cons (ps_set (i := 5) sc_law.nd rfl (Or.inl rfl) (pe_ix ix_listJ (pe_lstJ (pa_cons (pe_op op_add pe_int (pe_op op_mod (pv 4) pe_int)) (pa_cons (pe_op op_add pe_int (pe_op op_mod (pv 4) pe_int)) (pa_cons pe_int (pa_cons pe_int pa_nil))))) (pe_op op_mod (pe_op op_fdiv (pe_call (ok_l_number T) (hr.mono (by decide)) rfl T.g_l_number T.k_l_number T.b_l_number .nil pass0 (pa_cons (pv 0) (pa_cons pe_int pa_nil))) pe_int) pe_int) (fun _ _ => rfl)))
      (pss_cons (ps_expr (pe_bmL PySem.F.slot_list_append PySem.F.type_list_append mt_append (pv 1) (pa_cons (pe_make T.mk_Web (ok_Web_init T) (hr.mono (by decide)) rfl T.gWeb T.b_Web_init .nil passL (pa_cons (pv 5) pa_nil)) pa_nil)))
      (pss_one (ps_expr (pe_bmL PySem.F.slot_list_append PySem.F.type_list_append mt_append (pv 2) (pa_cons (pe_disp (pps_cons pe_str (pv 5) (pps_cons pe_str pe_dnewT (pps_nil))) (by rfl) (by rfl) (fun z => by cases z) (by decide)) pa_nil))))))))
  (pss_cons (ps_set (i := 6) sc_law.nd rfl (Or.inl rfl) (pe_lstJ pa_nil))
  (pss_cons (ps_for PassesOwn.never rfl (pi_range1 rfl T.range (pa_cons (pe_op op_add pe_int (pe_callB (call_min2 rfl) (by rfl) T.min (by decide +kernel) (pa_cons (pe_callB call_len_seq (by rfl) T.len (by decide +kernel) (pa_cons (pv 0) pa_nil)) (pa_cons pe_int pa_nil)))) pa_nil)) (pg_name (i := 3) sc_law.nd rfl (.inl rfl))
    (pss_cons (ps_set (i := 7) sc_law.nd rfl (Or.inl rfl) (pe_call (ok_l_number T) (hr.mono (by decide)) rfl T.g_l_number T.k_l_number T.b_l_number .nil pass0 (pa_cons (pv 0) (pa_cons (pe_op op_add (pv 3) pe_int) pa_nil))))
      (pss_cons (ps_set (i := 8) sc_law.nd rfl (Or.inl rfl) (pe_call (ok_l_number T) (hr.mono (by decide)) rfl T.g_l_number T.k_l_number T.b_l_number .nil pass0 (pa_cons (pv 0) (pa_cons (pe_op op_add (pe_op op_mul pe_int (pv 3)) pe_int) pa_nil))))
      (pss_cons (ps_set (i := 9) sc_law.nd rfl (Or.inl rfl) (pe_callTy call_intB (by rfl) T.int (by decide +kernel) (pa_cons (pe_cmpR op_eq (pe_op op_mod (pv 7) pe_int) pe_int (nomark _)) pa_nil)))
      (pss_cons (ps_set (i := 10) sc_law.nd rfl (Or.inl rfl) (pe_ix ix_listJ (pv 2) (pv 9) (fun _ _ => rfl)))
      (pss_cons (ps_set (i := 11) sc_law.nd rfl (Or.inl rfl) (pe_op op_mod (pe_op op_fdiv (pv 7) pe_int) (pe_dgetJ (by exact hu) (pv 10) pe_str (fun _ _ => rfl))))
      (pss_cons (ps_set (i := 12) sc_law.nd rfl (Or.inl rfl) (pe_op op_mod (pe_op op_fdiv (pv 7) pe_int) (pe_dgetJ (by exact hu) (pv 10) pe_str (fun _ _ => rfl))))
      (pss_cons (ps_set (i := 13) sc_law.nd rfl (Or.inl rfl) (pe_ix ix_listJ (pe_lstJ (pa_cons pe_non (pa_cons pe_bl (pa_cons pe_bl (pa_cons pe_str (pa_cons (pe_lstJ (pa_cons pe_int pa_nil)) (pa_cons (pe_tupJ (pa_cons pe_int pa_nil)) (pa_cons pe_dictJ (pa_cons (pe_un un_neg pe_int) (pa_cons (pe_dgetJ (by exact hu) (pv 10) pe_str (fun _ _ => rfl)) (pa_cons (pe_op op_add pe_int (pv 8)) pa_nil))))))))))) (pe_op op_mod (pv 8) pe_int) (fun _ _ => rfl)))
      (pss_cons (ps_set (i := 14) sc_law.nd rfl (Or.inl rfl) (pe_ix ix_listJ (pe_lstJ (pa_cons (pe_tupJ (pa_cons (pv 11) (pa_cons (pv 12) pa_nil))) (pa_cons (pe_tupJ (pa_cons (pv 11) (pa_cons (pv 12) pa_nil))) (pa_cons (pe_tupJ (pa_cons (pv 11) (pa_cons (pv 12) pa_nil))) (pa_cons (pe_tupJ (pa_cons (pv 13) (pa_cons (pv 12) pa_nil))) (pa_cons (pe_tupJ (pa_cons (pv 11) (pa_cons (pv 13) pa_nil))) (pa_cons (pe_tupJ (pa_cons (pv 11) (pa_cons (pv 11) pa_nil))) pa_nil))))))) (pe_op op_mod (pe_op op_fdiv (pv 7) pe_int) pe_int) (fun _ _ => rfl)))
      (pss_cons (ps_set (i := 15) sc_law.nd rfl (Or.inl rfl) (pe_ix ix_listJ (pe_lstJ (pa_cons pe_str (pa_cons pe_str (pa_cons pe_str (pa_cons pe_str (pa_cons pe_str (pa_cons pe_str pa_nil))))))) (pe_op op_mod (pe_op op_fdiv (pv 8) pe_int) pe_int) (fun _ _ => rfl)))
      (pss_cons (ps_if (pt_not (pt_val (pe_call (ok_l_done T) (hr.mono (by decide)) rfl T.g_l_done T.k_l_done T.b_l_done .nil pass0 (pa_cons (pe_ix ix_listJ (pv 1) (pv 9) (fun _ _ => rfl)) (pa_cons (pv 10) (pa_cons (pv 15) (pa_cons (pe_ix ix_tupJ (pv 14) pe_int (fun _ _ => rfl)) (pa_cons (pe_ix ix_tupJ (pv 14) pe_int (fun _ _ => rfl)) pa_nil))))))))
        (pss_one (ps_ret pe_bl))
        pss_nil)
      (pss_cons (ps_if (pt_not (pt_val (pe_callG (ok_l_looked T) hg (hr.mono (by decide)) rfl T.g_l_looked T.k_l_looked T.b_l_looked (pa_cons (pe_ix ix_listJ (pv 1) (pv 9) (fun _ _ => rfl)) (pa_cons (pv 10) (pa_cons (pv 11) (pa_cons (pv 6) pa_nil)))))))
        (pss_one (ps_ret pe_bl))
        pss_nil)
      (pss_cons (ps_if (pt_cmpR op_eq (pe_op op_mod (pv 8) pe_int) pe_int (nomark _))
        (pss_one (ps_set (i := 13) sc_law.nd rfl (Or.inl rfl) (pe_dgetJ (by exact hu) (pv 10) pe_str (fun _ _ => rfl))))
        pss_nil)
      (pss_cons (ps_if (PW.pt (pw_or (pt_not (pt_val (pe_call (ok_l_beside_refused T) (hr.mono (by decide)) rfl T.g_l_beside_refused T.k_l_beside_refused T.b_l_beside_refused .nil pass0 (pa_cons (pe_ix ix_listJ (pv 1) (pv 9) (fun _ _ => rfl)) (pa_cons (pv 13) pa_nil))))) (pw_or1 (pt_not (pt_val (pe_call (ok_l_done T) (hr.mono (by decide)) rfl T.g_l_done T.k_l_done T.b_l_done .nil pass0 (pa_cons (pe_ix ix_listJ (pv 1) (pv 9) (fun _ _ => rfl)) (pa_cons (pv 10) (pa_cons pe_str (pa_cons (pv 12) (pa_cons (pv 11) pa_nil)))))))))))
        (pss_one (ps_ret pe_bl))
        pss_nil)
      (pss_one (ps_if (PW.pt (pw_and (pt_cmpR op_eq (pe_op op_mod (pe_op op_fdiv (pv 8) pe_int) pe_int) pe_int (nomark _)) (pw_and1 (pt_not (pt_val (pe_callG (ok_l_looked T) hg (hr.mono (by decide)) rfl T.g_l_looked T.k_l_looked T.b_l_looked (pa_cons (pe_ix ix_listJ (pv 1) (pe_op op_sub pe_int (pv 9)) (fun _ _ => rfl)) (pa_cons (pe_ix ix_listJ (pv 2) (pe_op op_sub pe_int (pv 9)) (fun _ _ => rfl)) (pa_cons pe_int (pa_cons (pv 6) pa_nil))))))))))
        (pss_one (ps_ret pe_bl))
        pss_nil))))))))))))))))
  (pss_cons (ps_set (i := 16) sc_law.nd rfl (Or.inl rfl) (pe_lstJ (pa_cons pe_int (pa_cons (pe_un un_neg pe_int) (pa_cons pe_int (pa_cons pe_bl (pa_cons pe_bl (pa_cons pe_non (pa_cons pe_str (pa_cons (pe_lstJ (pa_cons pe_int pa_nil)) (pa_cons (pe_tupJ (pa_cons pe_int pa_nil)) (pa_cons pe_dictJ (pa_cons (pe_op op_add pe_int (pe_call (ok_l_number T) (hr.mono (by decide)) rfl T.g_l_number T.k_l_number T.b_l_number .nil pass0 (pa_cons (pv 0) (pa_cons pe_int pa_nil)))) (pa_cons (pe_op op_pow pe_int pe_int) pa_nil))))))))))))))
  (pss_cons (ps_for PassesOwn.never rfl (pi_tup (pe_tupJ (pa_cons pe_int (pa_cons pe_int pa_nil)))) (pg_name (i := 3) sc_law.nd rfl (.inl rfl))
    (pss_one (ps_if (pt_not (pt_val (pe_call (ok_l_size_refused T) (hr.mono (by decide)) rfl T.g_l_size_refused T.k_l_size_refused T.b_l_size_refused .nil pass0 (pa_cons (pe_ix ix_listJ (pv 16) (pe_op op_mod (pe_call (ok_l_number T) (hr.mono (by decide)) rfl T.g_l_number T.k_l_number T.b_l_number .nil pass0 (pa_cons (pv 0) (pa_cons (pv 3) pa_nil))) pe_int) (fun _ _ => rfl)) pa_nil))))
        (pss_one (ps_ret pe_bl))
        pss_nil)))
  (pss_one (ps_ret (pe_cmpR (op_eqD hr.units) (pe_lc (own := [("_law_pair", 14)]) rfl sc_law.nd (pi_list (pv 6)) (blkOk_by (own := [("_law_pair", 14)]) (N := ["_law_script", "_law_webs", "_law_owns", "_law_k", "_law_number_here", "_law_many", "_law_held", "_law_cell", "_law_more", "_law_which", "_law_own", "_law_one", "_law_other", "_law_odd", "_law_pair", "_law_word", "_law_far"]) (sc := defScope s_law) (by decide +kernel)) (fun _ _ _ _ _ => by exact (pg_name (i := 14) sc_law.nd rfl (Or.inl rfl))) (fun _ _ _ _ _ => by exact (pts_one (pt_cmpR (op_neK (K0 := K) (by exact hr.units)) (pe_ix ix_tupJ (pv 14) pe_int (fun _ _ => rfl)) (pe_ix ix_tupJ (pv 14) pe_int (fun _ _ => rfl)) (nomark _)))) (fun _ _ _ _ _ => by exact (pv 14))) (pe_lstJ pa_nil) (nomark _))))))))))), ?_⟩
    simp [L2.start]
    intro wb H1 n1 e1 h1 ob H2 n2 e2 h2
    refine ⟨2, rfl, by decide, by decide, for_range (n := 2) (fun i σ H' => ∃ (b3 b4 b5 : Option V) (us : List Sd), σ = [some (.ref a), some (.ref wb), some (.ref ob), b3, b4, b5, none, none, none, none, none, none, none, none, none, none, none] ∧ us.length = i ∧ wb ≠ ob ∧ Sys A H H' wb ob us) ⟨none, none, none, [], rfl, rfl, ne_of_none h1 n2, ?_⟩ (fun i σ H' hi h => ?_) (fun σ H' h => ?_)⟩
    · exact ⟨e1.trans e2, n1, fresh_back e1 n2, e2 _ _ h1, h2, fun i u h => by simp at h, fun i u h => by simp at h, fun i u h => by simp at h, fun i j u v _ h => by simp at h⟩
    · obtain ⟨b3, b4, b5, us, rfl, hus, hwo, S⟩ := h
      simp [and_assoc, spNumber]
      have hS' := sql_up hS S.ex
      refine ⟨ns, hS', by omega, ?_⟩
      intro q1 H3 n3 e3 h3
      have S3 := S.up e3
      refine ⟨ns, sql_up hS' e3, by simp [CDiv], _, h3, by omega, ?_⟩
      obtain ⟨m, hm, m1, m2⟩ := many_ix (c := num ns i) (d := num ns 2) (mixed_nn _ _)
      refine ⟨.int m, hm, ⟨_, S3.web⟩, fun p dx np nd npd => ?_⟩
      refine ⟨p, dx, .int m, rfl, upd_same, .int m, fun z => ?_, fun z l ds H4 W4 b4 nl nds => ⟨rfl, ?_⟩⟩
      · simp [inR, m1, m2] at z
      have bp : But [p] H3 H4 := ((But.of_ex (Ex.new nd)).updT (by simp)).trans b4
      have e4 : Ex H3 H4 := ex_but (Ex.refl _) bp (by simpa using np)
      have S4 := S3.up e4
      have lus : us.length < sizeLine := lt_line (by omega)
      refine ⟨_, S4.web, by simpa using lus, ?_⟩
      have hob : (upd H4 wb (.lst (us.map (fun u => V.ref u.p) ++ [V.ref p]))) ob = some (.lst (us.map fun u => V.ref u.o)) := by rw [upd_ne hwo.symm]; exact S4.own
      refine ⟨⟨_, hob⟩, fun o no => ?_⟩
      simp [tPairs, tDNewT]
      intro t nt
      have nto : t ≠ o := fun z => by rw [z, upd_same] at nt; cases nt
      have nt4 : H4 t = none := by
        rw [upd_ne nto] at nt
        exact (But.upd (M := [wb]) (by simp)).dm t nt
      have no4 : H4 o = none := (But.upd (M := [wb]) (by simp)).dm o no
      have lo : l ≠ o := ne_of_none W4.ls no4
      have lt : l ≠ t := ne_of_none W4.ls nt4
      have wo : wb ≠ o := ne_of_none S4.web no4
      have wt : wb ≠ t := ne_of_none S4.web nt4
      have oo : ob ≠ o := ne_of_none S4.own no4
      have ot : ob ≠ t := ne_of_none S4.own nt4
      refine ⟨by rw [upd_ne nto.symm, upd_same], [(Sum.inr "many", .int m), (Sum.inr "ties", .ref t)], rfl, by simp, us.map (fun u => V.ref u.o), ?_, by simpa using lus, us ++ [⟨p, l, o, t, ds, List.replicate m.toNat [], m, []⟩], by simp [hus], hwo, ?_⟩
      · rw [upd_ne oo, upd_ne ot, upd_ne oo]; exact hob
      · have nd3 : ∀ x, (upd (upd H3 dx (.own p)) p (.ins A.c_Web dx [])) x = none → H3 x = none := fun x z => (((But.of_ex (Ex.new nd)).updT (M := [p]) (by simp))).dm x z
        have wl : wb ≠ l := ne_of_none S3.web (nd3 _ nl)
        have ol : ob ≠ l := ne_of_none S3.own (nd3 _ nl)
        have em : mergeK [] [((Sum.inr "many" : Key), V.int m), (Sum.inr "ties", V.ref t)] = ownD m t := rfl
        rw [em]
        have b7 : But [wb, ob, o, t] H4 (upd (upd (upd (upd (upd H4 wb (.lst (us.map (fun u => V.ref u.p) ++ [V.ref p]))) o (.dK [])) t (.dT [])) o (.dK (ownD m t))) ob (.lst (us.map (fun u => V.ref u.o) ++ [V.ref o]))) :=
          (((((But.upd (by simp)).updT (by simp)).updT (by simp)).updT (by simp)).updT (by simp))
        refine Sys.push S3 ⟨fun x z e n => b7.kp x z (e4 x z e) (by
            simp only [List.mem_cons, List.not_mem_nil, or_false, not_or] at n ⊢
            exact ⟨n.1, n.2, ne_of_none (e4 x z e) no4, ne_of_none (e4 x z e) nt4⟩), fun x z => bp.dm x (b7.dm x z)⟩ ?_ upd_same ⟨?_, ⟨?_, ?_⟩, good_init (by omega) (by omega), ?_, ?_⟩ (fun x hx => ?_)
        · rw [upd_ne hwo, upd_ne wo, upd_ne wt, upd_ne wo, upd_same]
        · refine W4.but b7 fun x hx => ?_
          obtain ⟨dx', w1⟩ := W4.ob
          have key : ∀ y, H4 y ≠ none → ¬ y = wb → ¬ y = ob → ∀ z ∈ [wb, ob, o, t], z ≠ y := fun y h1 h2 h3 z hz e => by
            subst e
            simp only [List.mem_cons, List.not_mem_nil, or_false] at hz
            rcases hz with h | h | h | h
            · exact h2 h
            · exact h3 h
            · rw [h] at h1; exact h1 no4
            · rw [h] at h1; exact h1 nt4
          have dAt : ∀ d ∈ ds, H4 d ≠ none ∧ ¬ d = wb ∧ ¬ d = ob := fun d hd => by
            obtain ⟨kv, e⟩ := W4.dAt hd
            refine ⟨fun z => ?_, fun z => ?_, fun z => ?_⟩
            · rw [z] at e; cases e
            · rw [z, S4.web] at e; cases e
            · rw [z, S4.own] at e; cases e
          refine ⟨key p (fun z => by rw [z] at w1; cases w1) (fun z => by rw [z, S4.web] at w1; cases w1) (fun z => by rw [z, S4.own] at w1; cases w1) x hx, key l (fun z => by have y := W4.ls; rw [z] at y; cases y) (fun z => wl z.symm) (fun z => ol z.symm) x hx, fun hd => ?_⟩
          obtain ⟨y1, y2, y3⟩ := dAt x hd
          exact key x y1 y2 y3 x hx rfl
        · show (upd _ _ _) o = _
          rw [upd_ne oo.symm, upd_same]
        · show (upd _ _ _) t = _
          rw [upd_ne ot.symm, upd_ne nto, upd_same]; rfl
        · have e : m = (m.toNat : Int) := by omega
          have z := rel_init (n := m.toNat)
          rw [← e] at z
          exact z
        · intro hd
          obtain ⟨kv, e⟩ := W4.dAt hd
          have e : H4 o = some (.dK kv) := e
          rw [no4] at e; cases e
        · unfold Sd.M at hx
          rcases List.mem_cons.mp hx with rfl | hx
          · exact nd3 _ nl
          · rcases List.mem_cons.mp hx with rfl | hx
            · exact fresh_back e4 no4
            · rcases List.mem_cons.mp hx with rfl | hx
              · exact fresh_back e4 nt4
              · exact nd3 _ (nds _ hx)
    · obtain ⟨b3, b4, b5, us, rfl, hus, hwo, S⟩ := h
      simp
      intro hb H3 n3 e3 h3
      have A0 : All A H H3 wb ob hb us 0 := ⟨S.up e3, ⟨[], h3, Nat.le_refl _, fun x hx => nomatch hx⟩, fresh_back S.ex n3, (ne_of_none S.web n3).symm, (ne_of_none S.own n3).symm, fun i u h => (ne_of_none (S.side i u h).W.ls n3).symm⟩
      have hlen : ((ns.map V.int).length : Int) = ns.length := by rw [List.length_map]
      refine ⟨_, rfl, a, rfl, _, .inl (sql_up hS A0.sys.ex), _, _, rfl, _, _, rfl, rfl, _, rfl, by rw [hlen]; split <;> omega, by rw [hlen]; split <;> omega, for_range (fun i σ H' => ∃ (b3 b4 b5 b7 b8 b9 b10 b11 b12 b13 b14 b15 : Option V) (xs : List Sd), σ = [some (.ref a), some (.ref wb), some (.ref ob), b3, b4, b5, some (.ref hb), b7, b8, b9, b10, b11, b12, b13, b14, b15, none] ∧ xs.length = 2 ∧ All A H H' wb ob hb xs (8 * i)) ⟨_, _, _, none, none, none, none, none, none, none, none, none, us, rfl, hus, A0⟩ (fun i σ H' hi h => ?_) (fun σ H' h => ?_)⟩
      · obtain ⟨b3, b4, b5, b7, b8, b9, b10, b11, b12, b13, b14, b15, xs, rfl, hxs, Z⟩ := h
        have hi : i < 67 := by rw [hlen] at hi; split at hi <;> omega
        have hS1 := sql_up hS Z.sys.ex
        refine seq_by (fun σ1 H1 => σ1 = [some (.ref a), some (.ref wb), some (.ref ob), some (.int i), b4, b5, some (.ref hb), some (.int (num ns (i + 3))), b8, b9, b10, b11, b12, b13, b14, b15, none] ∧ H1 = H') (fun N hN => ?_) (fun s1 H1 m => ?_)
        · simp [and_assoc, spNumber]
          exact ⟨ns, hS1, by omega, by omega, hN _ _ ⟨rfl, rfl⟩⟩
        obtain ⟨rfl, rfl⟩ := m
        refine seq_by (fun σ1 H2 => σ1 = [some (.ref a), some (.ref wb), some (.ref ob), some (.int i), b4, b5, some (.ref hb), some (.int (num ns (i + 3))), some (.int (num ns (3 * i + 70))), b9, b10, b11, b12, b13, b14, b15, none] ∧ H2 = H1) (fun N hN => ?_) (fun s1 H2 m => ?_)
        · simp [and_assoc, spNumber, CMul]
          exact ⟨ns, hS1, by omega, by omega, hN _ _ ⟨rfl, rfl⟩⟩
        obtain ⟨rfl, rfl⟩ := m
        generalize hc : num ns (i + 3) = c
        generalize hd : num ns (3 * i + 70) = d
        have c0 : 0 ≤ c := by rw [← hc]; exact mixed_nn _ _
        have d0 : 0 ≤ d := by rw [← hd]; exact mixed_nn _ _
        have d1 : d < 600000000 := by rw [← hd]; exact mixed_lt _ _
        obtain ⟨wh, hwh, ewh⟩ : ∃ wh : Nat, wh < 2 ∧ bI (decide (c % 5 = 1)) = (wh : Int) := by
          by_cases h : c % 5 = 1
          · exact ⟨1, by omega, by simp [bI, h]⟩
          · exact ⟨0, by omega, by simp [bI, h]⟩
        obtain ⟨u, hxu⟩ : ∃ u, xs[wh]? = some u := ⟨xs[wh]'(by omega), List.getElem?_eq_getElem _⟩
        have U := Z.sys.side wh u hxu
        have un : u.n = (u.rows.length : Int) := U.R.n
        have G1 := U.G.one
        have G2 := U.G.few
        refine seq_by (fun σ1 H1 => σ1 = [some (.ref a), some (.ref wb), some (.ref ob), some (.int i), b4, b5, some (.ref hb), some (.int c), some (.int d), some (.int wh), b10, b11, b12, b13, b14, b15, none] ∧ H1 = H2) (fun N hN => ?_) (fun s1 H1 m => ?_)
        · simp [ewh]
          exact hN _ _ ⟨rfl, rfl⟩
        obtain ⟨rfl, rfl⟩ := m
        refine seq_by (fun σ1 H2 => σ1 = [some (.ref a), some (.ref wb), some (.ref ob), some (.int i), b4, b5, some (.ref hb), some (.int c), some (.int d), some (.int wh), some (.ref u.o), b11, b12, b13, b14, b15, none] ∧ H2 = H1) (fun N hN => ?_) (fun s1 H2 m => ?_)
        · simp [Z.sys.own]
          exact ⟨_, ⟨u, hxu, rfl⟩, hN _ _ ⟨rfl, rfl⟩⟩
        obtain ⟨rfl, rfl⟩ := m
        refine seq_by (fun σ1 H1 => σ1 = [some (.ref a), some (.ref wb), some (.ref ob), some (.int i), b4, b5, some (.ref hb), some (.int c), some (.int d), some (.int wh), some (.ref u.o), some (.int (c / 5 % u.n)), b12, b13, b14, b15, none] ∧ H1 = H2) (fun N hN => ?_) (fun s1 H1 m => ?_)
        · simp [and_assoc, CDiv, U.O.ob, own_many]
          exact ⟨by omega, hN _ _ ⟨rfl, rfl⟩⟩
        obtain ⟨rfl, rfl⟩ := m
        refine seq_by (fun σ1 H2 => σ1 = [some (.ref a), some (.ref wb), some (.ref ob), some (.int i), b4, b5, some (.ref hb), some (.int c), some (.int d), some (.int wh), some (.ref u.o), some (.int (c / 5 % u.n)), some (.int (c / 160 % u.n)), b13, b14, b15, none] ∧ H2 = H1) (fun N hN => ?_) (fun s1 H2 m => ?_)
        · simp [and_assoc, CDiv, U.O.ob, own_many]
          exact ⟨by omega, hN _ _ ⟨rfl, rfl⟩⟩
        obtain ⟨rfl, rfl⟩ := m
        refine seq_by (fun σ1 H1 => ∃ odd : V, σ1 = [some (.ref a), some (.ref wb), some (.ref ob), some (.int i), b4, b5, some (.ref hb), some (.int c), some (.int d), some (.int wh), some (.ref u.o), some (.int (c / 5 % u.n)), some (.int (c / 160 % u.n)), some odd, b14, b15, none] ∧ Ex H2 H1 ∧ Thing H1 odd ∧ (¬ d % 10 = 8 → ∀ rows : List (List Int), Good rows → okPt rows odd = false) ∧ ∀ z, odd = .ref z → H2 z = none) (fun N hN => ?_) (fun s1 H1 m => ?_)
        · simp [and_assoc]
          intro p1 K1 m1 g1 l1 p2 K2 m2 g2 l2 p3 K3 m3 g3 l3
          have g13 := (g1.trans g2).trans g3
          refine ⟨_, g13 _ _ U.O.ob, _, own_many _ _, fun p4 K4 m4 g4 l4 => ⟨_, l4, by omega, ?_⟩⟩
          obtain ⟨x, x1, x2, x3, x4⟩ := odd_ix (n := u.n) (Thing.lst ((g2.trans (g3.trans g4)) _ _ l1)) (Thing.tup ((g3.trans g4) _ _ l2)) (Thing.dK (g4 _ _ l3)) d0
          refine ⟨x, x1, hN _ _ ⟨x, rfl, g13.trans g4, x2, x3, fun z hz => ?_⟩⟩
          rcases x4 z hz with rfl | rfl | rfl
          · exact m1
          · exact fresh_back g1 m2
          · exact fresh_back (g1.trans g2) m3
        obtain ⟨odd, rfl, e1', tod, hod, fod⟩ := m
        refine seq_by (fun σ1 H3 => ∃ (pq : Addr) (x y : V), σ1 = [some (.ref a), some (.ref wb), some (.ref ob), some (.int i), b4, b5, some (.ref hb), some (.int c), some (.int d), some (.int wh), some (.ref u.o), some (.int (c / 5 % u.n)), some (.int (c / 160 % u.n)), some odd, some (.ref pq), b15, none] ∧ Ex H1 H3 ∧ H3 pq = some (.tup [x, y]) ∧ Thing H3 x ∧ Thing H3 y) (fun N hN => ?_) (fun s1 H3 m => ?_)
        · simp [and_assoc]
          intro p1 K1 m1 g1 l1 p2 K2 m2 g2 l2 p3 K3 m3 g3 l3 p4 K4 m4 g4 l4 p5 K5 m5 g5 l5 p6 K6 m6 g6 l6 p7 K7 m7 g7 l7
          have g67 := g6.trans g7
          have g57 := g5.trans g67
          have g47 := g4.trans g57
          have g37 := g3.trans g47
          have g27 := g2.trans g37
          refine ⟨by simp [CDiv], _, l7, by omega, ?_⟩
          obtain ⟨pq, x, y, x1, x2, x3, x4⟩ := pair_ix (d := p1) (k := c / 6000) (g27 _ _ l1) (g37 _ _ l2) (g47 _ _ l3) (g57 _ _ l4) (g67 _ _ l5) (g7 _ _ l6) (.int _) (.int _) (tod.up (g1.trans g27)) (by omega)
          exact ⟨_, x1, hN _ _ ⟨pq, x, y, rfl, g1.trans g27, x2, x3, x4⟩⟩
        obtain ⟨pq, x, y, rfl, e3', hpq, tx, ty⟩ := m
        refine seq_by (fun σ1 H4 => ∃ wd : Str, σ1 = [some (.ref a), some (.ref wb), some (.ref ob), some (.int i), b4, b5, some (.ref hb), some (.int c), some (.int d), some (.int wh), some (.ref u.o), some (.int (c / 5 % u.n)), some (.int (c / 160 % u.n)), some odd, some (.ref pq), some (.str wd), none] ∧ Ex H3 H4 ∧ Word wd) (fun N hN => ?_) (fun s1 H4 m => ?_)
        · simp [and_assoc]
          intro p1 K1 m1 g1 l1
          obtain ⟨wd, x1, x2⟩ := word_ix (k := d / 10) (by omega)
          exact ⟨by simp [CDiv], _, l1, by omega, _, x1, hN _ _ ⟨wd, rfl, g1, x2⟩⟩
        obtain ⟨wd, rfl, e4', hwd⟩ := m
        have Z4 := Z.up ((e1'.trans e3').trans e4')
        have U4 := Z4.sys.side wh u hxu
        have w4 : (xs.map fun u => V.ref u.p)[wh]? = some (.ref u.p) := by rw [List.getElem?_map, hxu]; rfl
        have some2 : ∀ m ∈ u.M, H2 m ≠ none := fun m hm => U.some hm
        have nod : ∀ z, odd = .ref z → z ∉ u.M := fun z hz hm => some2 z hm (fod z hz)
        refine seq_by (fun σ1 H5 => ∃ u' : Sd, σ1 = [some (.ref a), some (.ref wb), some (.ref ob), some (.int i), b4, b5, some (.ref hb), some (.int c), some (.int d), some (.int wh), some (.ref u.o), some (.int (c / 5 % u.n)), some (.int (c / 160 % u.n)), some odd, some (.ref pq), some (.str wd), none] ∧ All A H H5 wb ob hb (xs.set wh u') (8 * i) ∧ u'.o = u.o ∧ u.rows.length ≤ u'.rows.length ∧ Thing H5 odd) (fun N hN => ?_) (fun s1 H5 m => ?_)
        · simp [and_assoc, Z4.sys.web, e4' _ _ hpq]
          refine ⟨_, ⟨u, hxu, rfl⟩, u.p, u.l, u.o, u.t, u.ds, u.rows, u.n, u.ties, wd, x, y, rfl, U4.W, U4.O, U4.G, U4.R, hwd, tx.up e4', ty.up e4', U4.no, fun ds' rows' n' ties' H5 W5 O5 G5 R5 b5 nw len => .inr ⟨rfl, ?_⟩⟩
          exact hN _ _ ⟨{ u with ds := ds', rows := rows', n := n', ties := ties' }, rfl, Z4.deed hxu W5 O5 G5 R5 b5 nw, rfl, len, (tod.up (e3'.trans e4')).but b5 nod⟩
        obtain ⟨u1, rfl, Z5, eo, len5, tod5⟩ := m
        have hx5 : (xs.set wh u1)[wh]? = some u1 := List.getElem?_set_self (by omega)
        have U5 := Z5.sys.side wh u1 hx5
        generalize hys : xs.set wh u1 = ys at *
        have lys : ys.length = 2 := by rw [← hys, List.length_set]; exact hxs
        have hone : ∃ j : Nat, c / 5 % u.n = (j : Int) ∧ j < u1.rows.length := ⟨(c / 5 % u.n).toNat, by have := Int.emod_nonneg (c / 5) (show u.n ≠ 0 by omega); omega, by have := Int.emod_lt_of_pos (c / 5) (show 0 < u.n by omega); have := Int.emod_nonneg (c / 5) (show u.n ≠ 0 by omega); omega⟩
        obtain ⟨j, ej, hj⟩ := hone
        rw [ej]
        refine seq_by (fun σ1 H6 => σ1 = [some (.ref a), some (.ref wb), some (.ref ob), some (.int i), b4, b5, some (.ref hb), some (.int c), some (.int d), some (.int wh), some (.ref u.o), some (.int j), some (.int (c / 160 % u.n)), some odd, some (.ref pq), some (.str wd), none] ∧ All A H H6 wb ob hb ys (8 * i + 2) ∧ Thing H6 odd) (fun N hN => ?_) (fun s1 H6 m => ?_)
        · simp [and_assoc, Z5.sys.web]
          refine ⟨_, ⟨u1, hx5, rfl⟩, u1.p, u1.l, u1.o, u1.t, hb, u1.ds, u1.rows, u1.n, u1.ties, j, 8 * i, by rw [eo], U5.W, U5.O, U5.G, U5.R, hj, Z5.held, by omega, Z5.n3 _ _ hx5, fun H6 b6 h6 => .inr ⟨rfl, hN _ _ ⟨rfl, Z5.look b6 h6, tod5.but b6 fun z hz hm => ?_⟩⟩⟩
          rw [List.mem_singleton.mp hm] at hz
          obtain ⟨as, a1, _⟩ := Z.held
          have := fod _ hz
          rw [a1] at this
          cases this
        obtain ⟨rfl, Z6, tod6⟩ := m
        have U6 := Z6.sys.side wh u1 hx5
        have o6 := U6.O.ob
        rw [eo] at o6
        refine seq_by (fun σ1 H7 => ∃ odd' : V, σ1 = [some (.ref a), some (.ref wb), some (.ref ob), some (.int i), b4, b5, some (.ref hb), some (.int c), some (.int d), some (.int wh), some (.ref u.o), some (.int j), some (.int (c / 160 % u.n)), some odd', some (.ref pq), some (.str wd), none] ∧ H7 = H6 ∧ Thing H6 odd' ∧ okPt u1.rows odd' = false) (fun N hN => ?_) (fun s1 H7 m => ?_)
        · simp [and_assoc, o6, own_many]
          by_cases h8 : d % 10 = 8
          · refine .inr ⟨h8, hN _ _ ⟨.int u1.n, rfl, rfl, .int _, ?_⟩⟩
            have := U6.R.n
            simp [okPt, inR]; omega
          · exact .inl ⟨h8, hN _ _ ⟨odd, rfl, rfl, tod6, hod h8 _ U6.G⟩⟩
        obtain ⟨odd', rfl, rfl, tod7, bad⟩ := m
        refine seq_by (fun σ1 H8 => ∃ u2 : Sd, σ1 = [some (.ref a), some (.ref wb), some (.ref ob), some (.int i), b4, b5, some (.ref hb), some (.int c), some (.int d), some (.int wh), some (.ref u.o), some (.int j), some (.int (c / 160 % u.n)), some odd', some (.ref pq), some (.str wd), none] ∧ All A H H8 wb ob hb (ys.set wh u2) (8 * i + 2)) (fun N hN => ?_) (fun s1 H8 m => ?_)
        · simp [and_assoc, Z6.sys.web]
          refine ⟨_, ⟨u1, hx5, rfl⟩, u1.p, u1.l, u1.ds, u1.rows, odd', rfl, U6.W, tod7, U6.G, bad, fun H8 e8 => ?_⟩
          have Z8 := Z6.up e8
          have U8 := Z8.sys.side wh u1 hx5
          simp [and_assoc, Z8.sys.web]
          refine ⟨_, ⟨u1, hx5, rfl⟩, u1.p, u1.l, u1.o, u1.t, u1.ds, u1.rows, u1.n, u1.ties, "has", _, _, by rw [eo], U8.W, U8.O, U8.G, U8.R, .inr (.inr (.inl rfl)), .int _, .int _, U8.no, fun ds' rows' n' ties' H9 W9 O9 G9 R9 b9 nw len => .inr ⟨rfl, ?_⟩⟩
          exact hN _ _ ⟨{ u1 with ds := ds', rows := rows', n := n', ties := ties' }, rfl, Z8.deed hx5 W9 O9 G9 R9 b9 nw⟩
        obtain ⟨u2, rfl, Z8⟩ := m
        generalize hzs : ys.set wh u2 = zs at *
        have lzs : zs.length = 2 := by rw [← hzs, List.length_set]; exact lys
        obtain ⟨v, hv⟩ : ∃ v, zs[1 - wh]? = some v := ⟨zs[1 - wh]'(by omega), List.getElem?_eq_getElem _⟩
        have V8 := Z8.sys.side _ v hv
        have e9 : ((1 : Int) - (wh : Int)).toNat = 1 - wh := by omega
        simp [and_assoc, CDiv, Z8.sys.web, Z8.sys.own, e9, hv]
        by_cases h1 : d / 60 % 4 = 1
        · refine .inr ⟨h1, by omega, v.p, v.l, v.o, v.t, hb, v.ds, v.rows, v.n, v.ties, 0, 8 * i + 2, rfl, V8.W, V8.O, V8.G, V8.R, V8.G.one, Z8.held, by omega, Z8.n3 _ _ hv, fun H9 b9 h9 => .inr ⟨rfl, zs, lzs, (Z8.look b9 h9).le (by omega)⟩⟩
        · exact .inl ⟨h1, zs, lzs, Z8.le (by omega)⟩
      · obtain ⟨b3, b4, b5, b7, b8, b9, b10, b11, b12, b13, b14, b15, xs, rfl, hxs, Z⟩ := h
        have hS1 := sql_up hS Z.sys.ex
        dsimp only
        refine seq_by (fun σ1 H1 => ∃ (fl : Addr) (L : List V), σ1 = [some (.ref a), some (.ref wb), some (.ref ob), b3, b4, b5, some (.ref hb), b7, b8, b9, b10, b11, b12, b13, b14, b15, some (.ref fl)] ∧ Ex H' H1 ∧ H1 fl = some (.lst L) ∧ ∀ j : Nat, j < 12 → ∃ x, L[j]? = some x ∧ Thing H1 x ∧ inR x 1 30 = false) (fun N hN => ?_) (fun s1 H1 m => ?_)
        · simp [and_assoc, CPow, spNumber]
          intro p1 K1 m1 g1 l1 p2 K2 m2 g2 l2 p3 K3 m3 g3 l3
          refine ⟨ns, sql_up hS1 ((g1.trans g2).trans g3), fun p4 K4 m4 g4 l4 => hN _ _ ⟨p4, _, rfl, ((g1.trans g2).trans g3).trans g4, l4, far_ix (.lst ((g2.trans (g3.trans g4)) _ _ l1)) (.tup ((g3.trans g4) _ _ l2)) (.dK (g4 _ _ l3)) (mixed_nn _ _) (by decide)⟩⟩
        · obtain ⟨fl, L, rfl, ef, hfl, far⟩ := m
          have Z1 := Z.up ef
          refine seq_by (fun σ1 H2 => ∃ b3 : Option V, σ1 = [some (.ref a), some (.ref wb), some (.ref ob), b3, b4, b5, some (.ref hb), b7, b8, b9, b10, b11, b12, b13, b14, b15, some (.ref fl)] ∧ Ex H1 H2) (fun N hN => ?_) (fun s1 H2 m => ?_)
          · refine ⟨by simp, fun tp H4 n4 e4 h4 => ⟨tp, rfl, ⟨_, .inl (.inl h4)⟩, for_tup (xs := [.int 6, .int 7]) (fun i σ1 H2 => ∃ b3 : Option V, σ1 = [some (.ref a), some (.ref wb), some (.ref ob), b3, b4, b5, some (.ref hb), b7, b8, b9, b10, b11, b12, b13, b14, b15, some (.ref fl)] ∧ Ex H4 H2) ⟨b3, rfl, Ex.refl _⟩ (fun i σ1 H2 _ h => ?_) (fun i x σ1 H2 hx h => ?_) (fun σ1 H2 h => ?_)⟩⟩
            · obtain ⟨_, _, e⟩ := h
              exact .inl (.inl (e _ _ h4))
            · obtain ⟨_, rfl, e⟩ := h
              obtain ⟨k, rfl, k0, k7⟩ : ∃ k : Int, x = .int k ∧ 0 ≤ k ∧ k ≤ 7 := by
                match i, hx with
                | 0, hx => exact ⟨6, by simpa using hx.symm, by omega, by omega⟩
                | 1, hx => exact ⟨7, by simpa using hx.symm, by omega, by omega⟩
              have e5 := e4.trans e
              simp [and_assoc, spNumber]
              have m0 := mixed_nn (cellAt ns k) k
              have hnk : num ns k = mixed (cellAt ns k) k := rfl
              obtain ⟨z, z1, z2, z3⟩ := far (num ns k % 12).toNat (by omega)
              exact ⟨ns, sql_up hS1 (ef.trans e5), k0, by omega, L, e5 _ _ hfl, by omega, z, z1, z, rfl, z2.up e5, z3, fun H6 e6 => .inr ⟨rfl, e.trans e6⟩⟩
            · obtain ⟨b3, rfl, e⟩ := h
              exact hN _ _ ⟨b3, rfl, e4.trans e⟩
          · obtain ⟨b3, rfl, e⟩ := m
            have Z2 := Z1.up e
            obtain ⟨as, a1, a2, a3⟩ := Z2.held
            refine ⟨_, rfl, hb, rfl, ⟨_, .inl (.inl a1)⟩, fun D hD => lc_list (xs := as.map V.ref) (fun i H3 => Ex H2 H3 ∧ H3 D = some (.lst [])) ⟨Ex.new hD, upd_same⟩ (fun i H3 _ h => .inl (.inl (h.1 _ _ a1))) (fun i x H3 hx h => ?_) (fun H3 h => ?_)⟩
            · obtain ⟨e2', hDn⟩ := h
              rw [List.getElem?_map] at hx
              cases hz : as[i]? with
              | none => rw [hz] at hx; cases hx
              | some z =>
                rw [hz] at hx
                cases hx
                obtain ⟨p, f, c, zs, dd, hp, x1, x2, x3, x4⟩ := a3 z (List.mem_of_getElem? hz)
                cases hp
                have x4' : TnyAll H3 (zs ++ [.int 0]) dd := x4.map fun t o h => e2' _ _ h
                have df : Dp K H3 (.ref f) (.list dd) := .lst (.inl (.inl (e2' _ _ x2))) x4'.dp
                have dc : Dp K H3 (.ref c) (.list dd) := .lst (.inl (.inl (e2' _ _ x3))) x4'.dp
                obtain ⟨s1, s2⟩ := x4.sml.shaped
                simp [wipe, and_assoc, e2' _ _ x1]
                exact ⟨.list dd, .list dd, df, dc, s1, s1, by rw [s2]; exact .inl ⟨rfl, e2', hDn⟩⟩
            · obtain ⟨e2', hDn⟩ := h
              refine ⟨by simp, fun r H4 n4 e4 h4 => ⟨.list [], .list [], .lst (.inl (.inl (e4 _ _ hDn))) .nil, .lst (.inl (.inl h4)) .nil, rfl, rfl, ?_⟩⟩
              exact q H4
end
end Jk

namespace Jk
open PySem L2 Evl
theorem all_mk {l : PySem.W.OpenLaw} {w : World} {K : PySem.W.Frag} {h : Heap} {mg : Str → Option Value} {fa c_BadPoint c_BadSize c_BadText c_BadTree c_JoinError c_NoTie c_NoTree c_TooMany c_Twice c_Web a_whole_within a_pairs a_Web_init a_Web_many a_Web_has a_Web_put a_Web_take a_Web_grow a_Web_beside a_Web_ties a_Web_need_point a_l_mixed a_l_number a_l_kind a_l_whole a_l_is_point a_l_due a_l_call a_l_said a_l_done a_l_beside_refused a_l_looked a_l_size_refused a_law : Addr} (X : K.In h) (G : h.Ns mainGlobals mg) (hfa : mg "law" = some (.ref fa))
    {oc_whole_within kV_whole_within dc_whole_within pm_whole_within cd_whole_within ct_whole_within oc_pairs kV_pairs dc_pairs pm_pairs cd_pairs ct_pairs oc_Web_init kV_Web_init dc_Web_init pm_Web_init cd_Web_init ct_Web_init oc_Web_many kV_Web_many dc_Web_many pm_Web_many cd_Web_many ct_Web_many oc_Web_has kV_Web_has dc_Web_has pm_Web_has cd_Web_has ct_Web_has oc_Web_put kV_Web_put dc_Web_put pm_Web_put cd_Web_put ct_Web_put oc_Web_take kV_Web_take dc_Web_take pm_Web_take cd_Web_take ct_Web_take oc_Web_grow kV_Web_grow dc_Web_grow pm_Web_grow cd_Web_grow ct_Web_grow oc_Web_beside kV_Web_beside dc_Web_beside pm_Web_beside cd_Web_beside ct_Web_beside oc_Web_ties kV_Web_ties dc_Web_ties pm_Web_ties cd_Web_ties ct_Web_ties oc_Web_need_point kV_Web_need_point dc_Web_need_point pm_Web_need_point cd_Web_need_point ct_Web_need_point oc_l_mixed kV_l_mixed dc_l_mixed pm_l_mixed cd_l_mixed ct_l_mixed oc_l_number kV_l_number dc_l_number pm_l_number cd_l_number ct_l_number oc_l_kind kV_l_kind dc_l_kind pm_l_kind cd_l_kind ct_l_kind oc_l_whole kV_l_whole dc_l_whole pm_l_whole cd_l_whole ct_l_whole oc_l_is_point kV_l_is_point dc_l_is_point pm_l_is_point cd_l_is_point ct_l_is_point oc_l_due kV_l_due dc_l_due pm_l_due cd_l_due ct_l_due oc_l_call kV_l_call dc_l_call pm_l_call cd_l_call ct_l_call oc_l_said kV_l_said dc_l_said pm_l_said cd_l_said ct_l_said oc_l_done kV_l_done dc_l_done pm_l_done cd_l_done ct_l_done oc_l_beside_refused kV_l_beside_refused dc_l_beside_refused pm_l_beside_refused cd_l_beside_refused ct_l_beside_refused oc_l_looked kV_l_looked dc_l_looked pm_l_looked cd_l_looked ct_l_looked oc_l_size_refused kV_l_size_refused dc_l_size_refused pm_l_size_refused cd_l_size_refused ct_l_size_refused oc_law kV_law dc_law pm_law cd_law ct_law : Value} {od_whole_within od_pairs od_Web_init od_Web_many od_Web_has od_Web_put od_Web_take od_Web_grow od_Web_beside od_Web_ties od_Web_need_point od_l_mixed od_l_number od_l_kind od_l_whole od_l_is_point od_l_due od_l_call od_l_said od_l_done od_l_beside_refused od_l_looked od_l_size_refused od_law an_whole_within an_pairs an_Web_init an_Web_many an_Web_has an_Web_put an_Web_take an_Web_grow an_Web_beside an_Web_ties an_Web_need_point an_l_mixed an_l_number an_l_kind an_l_whole an_l_is_point an_l_due an_l_call an_l_said an_l_done an_l_beside_refused an_l_looked an_l_size_refused an_law : Option Addr} {sl_whole_within sl_pairs sl_Web_init sl_Web_many sl_Web_has sl_Web_put sl_Web_take sl_Web_grow sl_Web_beside sl_Web_ties sl_Web_need_point sl_l_mixed sl_l_number sl_l_kind sl_l_whole sl_l_is_point sl_l_due sl_l_call sl_l_said sl_l_done sl_l_beside_refused sl_l_looked sl_l_size_refused sl_law : Array (Option Value)} {tk_MOST_POINTS : Tok}
    (h_c_BadPoint : PySem.W.nsIn K mainGlobals "BadPoint" = some (some (.ref c_BadPoint)))
    (h_c_BadSize : PySem.W.nsIn K mainGlobals "BadSize" = some (some (.ref c_BadSize)))
    (h_c_BadText : PySem.W.nsIn K mainGlobals "BadText" = some (some (.ref c_BadText)))
    (h_c_BadTree : PySem.W.nsIn K mainGlobals "BadTree" = some (some (.ref c_BadTree)))
    (h_c_JoinError : PySem.W.nsIn K mainGlobals "JoinError" = some (some (.ref c_JoinError)))
    (h_c_NoTie : PySem.W.nsIn K mainGlobals "NoTie" = some (some (.ref c_NoTie)))
    (h_c_NoTree : PySem.W.nsIn K mainGlobals "NoTree" = some (some (.ref c_NoTree)))
    (h_c_TooMany : PySem.W.nsIn K mainGlobals "TooMany" = some (some (.ref c_TooMany)))
    (h_c_Twice : PySem.W.nsIn K mainGlobals "Twice" = some (some (.ref c_Twice)))
    (h_c_Web : PySem.W.nsIn K mainGlobals "Web" = some (some (.ref c_Web)))
    (f_whole_within : PySem.W.nsIn K mainGlobals "whole_within" = some (some (.ref a_whole_within)))
    (l_whole_within : K.lookup a_whole_within = some ⟨oc_whole_within, od_whole_within, .func (PySem.W.fnOf "whole_within" "whole_within" (defArgs s_whole_within) (defBody s_whole_within) (defScope s_whole_within) .none kV_whole_within dc_whole_within pm_whole_within an_whole_within cd_whole_within ct_whole_within), sl_whole_within⟩)
    (c_whole_within : PySem.W.codeIn K cd_whole_within "whole_within" = true)
    (k_whole_within : PySem.W.keepIn K (.ref a_whole_within) = true)
    (f_pairs : PySem.W.nsIn K mainGlobals "pairs" = some (some (.ref a_pairs)))
    (l_pairs : K.lookup a_pairs = some ⟨oc_pairs, od_pairs, .func (PySem.W.fnOf "pairs" "pairs" (defArgs s_pairs) (defBody s_pairs) (defScope s_pairs) .none kV_pairs dc_pairs pm_pairs an_pairs cd_pairs ct_pairs), sl_pairs⟩)
    (c_pairs : PySem.W.codeIn K cd_pairs "pairs" = true)
    (k_pairs : PySem.W.keepIn K (.ref a_pairs) = true)
    (f_Web_init : PySem.W.findIn K (.ref c_Web) "__init__" = some (some (.ref a_Web_init)))
    (i_Web_init : PySem.W.isFn K (.ref a_Web_init) = true)
    (l_Web_init : K.lookup a_Web_init = some ⟨oc_Web_init, od_Web_init, .func (PySem.W.fnOf "__init__" "Web.__init__" (defArgs s_Web_init) (defBody s_Web_init) (defScope s_Web_init) .none kV_Web_init dc_Web_init pm_Web_init an_Web_init cd_Web_init ct_Web_init), sl_Web_init⟩)
    (c_Web_init : PySem.W.codeIn K cd_Web_init "Web.__init__" = true)
    (k_Web_init : PySem.W.keepIn K (.ref a_Web_init) = true)
    (f_Web_many : PySem.W.findIn K (.ref c_Web) "many" = some (some (.ref a_Web_many)))
    (i_Web_many : PySem.W.isFn K (.ref a_Web_many) = true)
    (l_Web_many : K.lookup a_Web_many = some ⟨oc_Web_many, od_Web_many, .func (PySem.W.fnOf "many" "Web.many" (defArgs s_Web_many) (defBody s_Web_many) (defScope s_Web_many) .none kV_Web_many dc_Web_many pm_Web_many an_Web_many cd_Web_many ct_Web_many), sl_Web_many⟩)
    (c_Web_many : PySem.W.codeIn K cd_Web_many "Web.many" = true)
    (k_Web_many : PySem.W.keepIn K (.ref a_Web_many) = true)
    (f_Web_has : PySem.W.findIn K (.ref c_Web) "has" = some (some (.ref a_Web_has)))
    (i_Web_has : PySem.W.isFn K (.ref a_Web_has) = true)
    (l_Web_has : K.lookup a_Web_has = some ⟨oc_Web_has, od_Web_has, .func (PySem.W.fnOf "has" "Web.has" (defArgs s_Web_has) (defBody s_Web_has) (defScope s_Web_has) .none kV_Web_has dc_Web_has pm_Web_has an_Web_has cd_Web_has ct_Web_has), sl_Web_has⟩)
    (c_Web_has : PySem.W.codeIn K cd_Web_has "Web.has" = true)
    (k_Web_has : PySem.W.keepIn K (.ref a_Web_has) = true)
    (f_Web_put : PySem.W.findIn K (.ref c_Web) "put" = some (some (.ref a_Web_put)))
    (i_Web_put : PySem.W.isFn K (.ref a_Web_put) = true)
    (l_Web_put : K.lookup a_Web_put = some ⟨oc_Web_put, od_Web_put, .func (PySem.W.fnOf "put" "Web.put" (defArgs s_Web_put) (defBody s_Web_put) (defScope s_Web_put) .none kV_Web_put dc_Web_put pm_Web_put an_Web_put cd_Web_put ct_Web_put), sl_Web_put⟩)
    (c_Web_put : PySem.W.codeIn K cd_Web_put "Web.put" = true)
    (k_Web_put : PySem.W.keepIn K (.ref a_Web_put) = true)
    (f_Web_take : PySem.W.findIn K (.ref c_Web) "take" = some (some (.ref a_Web_take)))
    (i_Web_take : PySem.W.isFn K (.ref a_Web_take) = true)
    (l_Web_take : K.lookup a_Web_take = some ⟨oc_Web_take, od_Web_take, .func (PySem.W.fnOf "take" "Web.take" (defArgs s_Web_take) (defBody s_Web_take) (defScope s_Web_take) .none kV_Web_take dc_Web_take pm_Web_take an_Web_take cd_Web_take ct_Web_take), sl_Web_take⟩)
    (c_Web_take : PySem.W.codeIn K cd_Web_take "Web.take" = true)
    (k_Web_take : PySem.W.keepIn K (.ref a_Web_take) = true)
    (f_Web_grow : PySem.W.findIn K (.ref c_Web) "grow" = some (some (.ref a_Web_grow)))
    (i_Web_grow : PySem.W.isFn K (.ref a_Web_grow) = true)
    (l_Web_grow : K.lookup a_Web_grow = some ⟨oc_Web_grow, od_Web_grow, .func (PySem.W.fnOf "grow" "Web.grow" (defArgs s_Web_grow) (defBody s_Web_grow) (defScope s_Web_grow) .none kV_Web_grow dc_Web_grow pm_Web_grow an_Web_grow cd_Web_grow ct_Web_grow), sl_Web_grow⟩)
    (c_Web_grow : PySem.W.codeIn K cd_Web_grow "Web.grow" = true)
    (k_Web_grow : PySem.W.keepIn K (.ref a_Web_grow) = true)
    (f_Web_beside : PySem.W.findIn K (.ref c_Web) "beside" = some (some (.ref a_Web_beside)))
    (i_Web_beside : PySem.W.isFn K (.ref a_Web_beside) = true)
    (l_Web_beside : K.lookup a_Web_beside = some ⟨oc_Web_beside, od_Web_beside, .func (PySem.W.fnOf "beside" "Web.beside" (defArgs s_Web_beside) (defBody s_Web_beside) (defScope s_Web_beside) .none kV_Web_beside dc_Web_beside pm_Web_beside an_Web_beside cd_Web_beside ct_Web_beside), sl_Web_beside⟩)
    (c_Web_beside : PySem.W.codeIn K cd_Web_beside "Web.beside" = true)
    (k_Web_beside : PySem.W.keepIn K (.ref a_Web_beside) = true)
    (f_Web_ties : PySem.W.findIn K (.ref c_Web) "ties" = some (some (.ref a_Web_ties)))
    (i_Web_ties : PySem.W.isFn K (.ref a_Web_ties) = true)
    (l_Web_ties : K.lookup a_Web_ties = some ⟨oc_Web_ties, od_Web_ties, .func (PySem.W.fnOf "ties" "Web.ties" (defArgs s_Web_ties) (defBody s_Web_ties) (defScope s_Web_ties) .none kV_Web_ties dc_Web_ties pm_Web_ties an_Web_ties cd_Web_ties ct_Web_ties), sl_Web_ties⟩)
    (c_Web_ties : PySem.W.codeIn K cd_Web_ties "Web.ties" = true)
    (k_Web_ties : PySem.W.keepIn K (.ref a_Web_ties) = true)
    (f_Web_need_point : PySem.W.findIn K (.ref c_Web) "_need_point" = some (some (.ref a_Web_need_point)))
    (i_Web_need_point : PySem.W.isFn K (.ref a_Web_need_point) = true)
    (l_Web_need_point : K.lookup a_Web_need_point = some ⟨oc_Web_need_point, od_Web_need_point, .func (PySem.W.fnOf "_need_point" "Web._need_point" (defArgs s_Web_need_point) (defBody s_Web_need_point) (defScope s_Web_need_point) .none kV_Web_need_point dc_Web_need_point pm_Web_need_point an_Web_need_point cd_Web_need_point ct_Web_need_point), sl_Web_need_point⟩)
    (c_Web_need_point : PySem.W.codeIn K cd_Web_need_point "Web._need_point" = true)
    (k_Web_need_point : PySem.W.keepIn K (.ref a_Web_need_point) = true)
    (f_l_mixed : PySem.W.nsIn K mainGlobals "_law_mixed" = some (some (.ref a_l_mixed)))
    (l_l_mixed : K.lookup a_l_mixed = some ⟨oc_l_mixed, od_l_mixed, .func (PySem.W.fnOf "_law_mixed" "_law_mixed" (defArgs s_l_mixed) (defBody s_l_mixed) (defScope s_l_mixed) .none kV_l_mixed dc_l_mixed pm_l_mixed an_l_mixed cd_l_mixed ct_l_mixed), sl_l_mixed⟩)
    (c_l_mixed : PySem.W.codeIn K cd_l_mixed "_law_mixed" = true)
    (k_l_mixed : PySem.W.keepIn K (.ref a_l_mixed) = true)
    (f_l_number : PySem.W.nsIn K mainGlobals "_law_number" = some (some (.ref a_l_number)))
    (l_l_number : K.lookup a_l_number = some ⟨oc_l_number, od_l_number, .func (PySem.W.fnOf "_law_number" "_law_number" (defArgs s_l_number) (defBody s_l_number) (defScope s_l_number) .none kV_l_number dc_l_number pm_l_number an_l_number cd_l_number ct_l_number), sl_l_number⟩)
    (c_l_number : PySem.W.codeIn K cd_l_number "_law_number" = true)
    (k_l_number : PySem.W.keepIn K (.ref a_l_number) = true)
    (f_l_kind : PySem.W.nsIn K mainGlobals "_law_kind" = some (some (.ref a_l_kind)))
    (l_l_kind : K.lookup a_l_kind = some ⟨oc_l_kind, od_l_kind, .func (PySem.W.fnOf "_law_kind" "_law_kind" (defArgs s_l_kind) (defBody s_l_kind) (defScope s_l_kind) .none kV_l_kind dc_l_kind pm_l_kind an_l_kind cd_l_kind ct_l_kind), sl_l_kind⟩)
    (c_l_kind : PySem.W.codeIn K cd_l_kind "_law_kind" = true)
    (k_l_kind : PySem.W.keepIn K (.ref a_l_kind) = true)
    (f_l_whole : PySem.W.nsIn K mainGlobals "_law_whole" = some (some (.ref a_l_whole)))
    (l_l_whole : K.lookup a_l_whole = some ⟨oc_l_whole, od_l_whole, .func (PySem.W.fnOf "_law_whole" "_law_whole" (defArgs s_l_whole) (defBody s_l_whole) (defScope s_l_whole) .none kV_l_whole dc_l_whole pm_l_whole an_l_whole cd_l_whole ct_l_whole), sl_l_whole⟩)
    (c_l_whole : PySem.W.codeIn K cd_l_whole "_law_whole" = true)
    (k_l_whole : PySem.W.keepIn K (.ref a_l_whole) = true)
    (f_l_is_point : PySem.W.nsIn K mainGlobals "_law_is_point" = some (some (.ref a_l_is_point)))
    (l_l_is_point : K.lookup a_l_is_point = some ⟨oc_l_is_point, od_l_is_point, .func (PySem.W.fnOf "_law_is_point" "_law_is_point" (defArgs s_l_is_point) (defBody s_l_is_point) (defScope s_l_is_point) .none kV_l_is_point dc_l_is_point pm_l_is_point an_l_is_point cd_l_is_point ct_l_is_point), sl_l_is_point⟩)
    (c_l_is_point : PySem.W.codeIn K cd_l_is_point "_law_is_point" = true)
    (k_l_is_point : PySem.W.keepIn K (.ref a_l_is_point) = true)
    (f_l_due : PySem.W.nsIn K mainGlobals "_law_due" = some (some (.ref a_l_due)))
    (l_l_due : K.lookup a_l_due = some ⟨oc_l_due, od_l_due, .func (PySem.W.fnOf "_law_due" "_law_due" (defArgs s_l_due) (defBody s_l_due) (defScope s_l_due) .none kV_l_due dc_l_due pm_l_due an_l_due cd_l_due ct_l_due), sl_l_due⟩)
    (c_l_due : PySem.W.codeIn K cd_l_due "_law_due" = true)
    (k_l_due : PySem.W.keepIn K (.ref a_l_due) = true)
    (f_l_call : PySem.W.nsIn K mainGlobals "_law_call" = some (some (.ref a_l_call)))
    (l_l_call : K.lookup a_l_call = some ⟨oc_l_call, od_l_call, .func (PySem.W.fnOf "_law_call" "_law_call" (defArgs s_l_call) (defBody s_l_call) (defScope s_l_call) .none kV_l_call dc_l_call pm_l_call an_l_call cd_l_call ct_l_call), sl_l_call⟩)
    (c_l_call : PySem.W.codeIn K cd_l_call "_law_call" = true)
    (k_l_call : PySem.W.keepIn K (.ref a_l_call) = true)
    (f_l_said : PySem.W.nsIn K mainGlobals "_law_said" = some (some (.ref a_l_said)))
    (l_l_said : K.lookup a_l_said = some ⟨oc_l_said, od_l_said, .func (PySem.W.fnOf "_law_said" "_law_said" (defArgs s_l_said) (defBody s_l_said) (defScope s_l_said) .none kV_l_said dc_l_said pm_l_said an_l_said cd_l_said ct_l_said), sl_l_said⟩)
    (c_l_said : PySem.W.codeIn K cd_l_said "_law_said" = true)
    (k_l_said : PySem.W.keepIn K (.ref a_l_said) = true)
    (f_l_done : PySem.W.nsIn K mainGlobals "_law_done" = some (some (.ref a_l_done)))
    (l_l_done : K.lookup a_l_done = some ⟨oc_l_done, od_l_done, .func (PySem.W.fnOf "_law_done" "_law_done" (defArgs s_l_done) (defBody s_l_done) (defScope s_l_done) .none kV_l_done dc_l_done pm_l_done an_l_done cd_l_done ct_l_done), sl_l_done⟩)
    (c_l_done : PySem.W.codeIn K cd_l_done "_law_done" = true)
    (k_l_done : PySem.W.keepIn K (.ref a_l_done) = true)
    (f_l_beside_refused : PySem.W.nsIn K mainGlobals "_law_beside_refused" = some (some (.ref a_l_beside_refused)))
    (l_l_beside_refused : K.lookup a_l_beside_refused = some ⟨oc_l_beside_refused, od_l_beside_refused, .func (PySem.W.fnOf "_law_beside_refused" "_law_beside_refused" (defArgs s_l_beside_refused) (defBody s_l_beside_refused) (defScope s_l_beside_refused) .none kV_l_beside_refused dc_l_beside_refused pm_l_beside_refused an_l_beside_refused cd_l_beside_refused ct_l_beside_refused), sl_l_beside_refused⟩)
    (c_l_beside_refused : PySem.W.codeIn K cd_l_beside_refused "_law_beside_refused" = true)
    (k_l_beside_refused : PySem.W.keepIn K (.ref a_l_beside_refused) = true)
    (f_l_looked : PySem.W.nsIn K mainGlobals "_law_looked" = some (some (.ref a_l_looked)))
    (l_l_looked : K.lookup a_l_looked = some ⟨oc_l_looked, od_l_looked, .func (PySem.W.fnOf "_law_looked" "_law_looked" (defArgs s_l_looked) (defBody s_l_looked) (defScope s_l_looked) .none kV_l_looked dc_l_looked pm_l_looked an_l_looked cd_l_looked ct_l_looked), sl_l_looked⟩)
    (c_l_looked : PySem.W.codeIn K cd_l_looked "_law_looked" = true)
    (k_l_looked : PySem.W.keepIn K (.ref a_l_looked) = true)
    (f_l_size_refused : PySem.W.nsIn K mainGlobals "_law_size_refused" = some (some (.ref a_l_size_refused)))
    (l_l_size_refused : K.lookup a_l_size_refused = some ⟨oc_l_size_refused, od_l_size_refused, .func (PySem.W.fnOf "_law_size_refused" "_law_size_refused" (defArgs s_l_size_refused) (defBody s_l_size_refused) (defScope s_l_size_refused) .none kV_l_size_refused dc_l_size_refused pm_l_size_refused an_l_size_refused cd_l_size_refused ct_l_size_refused), sl_l_size_refused⟩)
    (c_l_size_refused : PySem.W.codeIn K cd_l_size_refused "_law_size_refused" = true)
    (k_l_size_refused : PySem.W.keepIn K (.ref a_l_size_refused) = true)
    (f_law : PySem.W.nsIn K mainGlobals "law" = some (some (.ref a_law)))
    (l_law : K.lookup a_law = some ⟨oc_law, od_law, .func (PySem.W.fnOf "law" "law" (defArgs s_law) (defBody s_law) (defScope s_law) .none kV_law dc_law pm_law an_law cd_law ct_law), sl_law⟩)
    (c_law : PySem.W.codeIn K cd_law "law" = true)
    (k_law : PySem.W.keepIn K (.ref a_law) = true)
    (pg_Web : PySem.W.plainGet K c_Web Str.empty = true)
    (hd_Web : PySem.W.hasDictIn K c_Web = true)
    (po_Web : PySem.W.plainOver K c_Web = true)
    (sa_Web : PySem.W.findIn K (.ref c_Web) "__setattr__" = some (some (.builtin "object.__setattr__")))
    (mm_Web : PySem.W.makesIn K c_Web = true)
    (kc_Web : PySem.W.keepIn K (.ref c_Web) = true)
    (n_Web__near : PySem.W.findIn K (.ref c_Web) "_near" = some none)
    (xBadSize : PySem.W.excIn K c_BadSize [.type "ValueError", .type "Exception", .type "BaseException", .type "object"] "ValueError.__new__" = true)
    (kBadSize : PySem.W.keepIn K (.ref c_BadSize) = true)
    (bBadSize : PySem.W.subIn K (.ref c_BadSize) (.type "BaseException") = some true)
    (tBadSize : PySem.W.typeIn K (.ref c_BadSize) = some (.type "type"))
    (xBadPoint : PySem.W.excIn K c_BadPoint [.type "ValueError", .type "Exception", .type "BaseException", .type "object"] "ValueError.__new__" = true)
    (kBadPoint : PySem.W.keepIn K (.ref c_BadPoint) = true)
    (bBadPoint : PySem.W.subIn K (.ref c_BadPoint) (.type "BaseException") = some true)
    (tBadPoint : PySem.W.typeIn K (.ref c_BadPoint) = some (.type "type"))
    (xTwice : PySem.W.excIn K c_Twice [.type "ValueError", .type "Exception", .type "BaseException", .type "object"] "ValueError.__new__" = true)
    (kTwice : PySem.W.keepIn K (.ref c_Twice) = true)
    (bTwice : PySem.W.subIn K (.ref c_Twice) (.type "BaseException") = some true)
    (tTwice : PySem.W.typeIn K (.ref c_Twice) = some (.type "type"))
    (xNoTie : PySem.W.excIn K c_NoTie [.type "ValueError", .type "Exception", .type "BaseException", .type "object"] "ValueError.__new__" = true)
    (kNoTie : PySem.W.keepIn K (.ref c_NoTie) = true)
    (bNoTie : PySem.W.subIn K (.ref c_NoTie) (.type "BaseException") = some true)
    (tNoTie : PySem.W.typeIn K (.ref c_NoTie) = some (.type "type"))
    (xTooMany : PySem.W.excIn K c_TooMany [.type "ValueError", .type "Exception", .type "BaseException", .type "object"] "ValueError.__new__" = true)
    (kTooMany : PySem.W.keepIn K (.ref c_TooMany) = true)
    (bTooMany : PySem.W.subIn K (.ref c_TooMany) (.type "BaseException") = some true)
    (tTooMany : PySem.W.typeIn K (.ref c_TooMany) = some (.type "type"))
    (hb_JoinError : PySem.W.subIn K (.ref c_JoinError) (.type "BaseException") = some true)
    (hdd_JoinError : PySem.W.hasDictIn K c_JoinError = true)
    (ht_JoinError : PySem.W.typeIn K (.ref c_JoinError) = some (.type "type"))
    (su_BadSize_JoinError : PySem.W.subIn K (.ref c_BadSize) (.ref c_JoinError) = some true)
    (su_BadPoint_JoinError : PySem.W.subIn K (.ref c_BadPoint) (.ref c_JoinError) = some true)
    (su_Twice_JoinError : PySem.W.subIn K (.ref c_Twice) (.ref c_JoinError) = some true)
    (su_NoTie_JoinError : PySem.W.subIn K (.ref c_NoTie) (.ref c_JoinError) = some true)
    (su_TooMany_JoinError : PySem.W.subIn K (.ref c_TooMany) (.ref c_JoinError) = some true)
    (hn0 : PySem.W.specialIn K (.builtin "object.__class__") "__get__" = some (some (.builtin "getset_descriptor.__get__")))
    (ht0 : PySem.W.takesIn K (.builtin "object.__class__") = some true)
    (sd_BadSize : PySem.W.hasDictIn K c_BadSize = true)
    (st_BadSize : PySem.W.typeIn K (.ref c_BadSize) = some (.type "type"))
    (ss_BadSize : PySem.W.subIn K (.ref c_BadSize) (.ref c_BadSize) = some true)
    (sd_BadPoint : PySem.W.hasDictIn K c_BadPoint = true)
    (st_BadPoint : PySem.W.typeIn K (.ref c_BadPoint) = some (.type "type"))
    (ss_BadPoint : PySem.W.subIn K (.ref c_BadPoint) (.ref c_BadPoint) = some true)
    (sd_Twice : PySem.W.hasDictIn K c_Twice = true)
    (st_Twice : PySem.W.typeIn K (.ref c_Twice) = some (.type "type"))
    (ss_Twice : PySem.W.subIn K (.ref c_Twice) (.ref c_Twice) = some true)
    (sd_NoTie : PySem.W.hasDictIn K c_NoTie = true)
    (st_NoTie : PySem.W.typeIn K (.ref c_NoTie) = some (.type "type"))
    (ss_NoTie : PySem.W.subIn K (.ref c_NoTie) (.ref c_NoTie) = some true)
    (sd_TooMany : PySem.W.hasDictIn K c_TooMany = true)
    (st_TooMany : PySem.W.typeIn K (.ref c_TooMany) = some (.type "type"))
    (ss_TooMany : PySem.W.subIn K (.ref c_TooMany) (.ref c_TooMany) = some true)
    (sd_NoTree : PySem.W.hasDictIn K c_NoTree = true)
    (st_NoTree : PySem.W.typeIn K (.ref c_NoTree) = some (.type "type"))
    (ss_NoTree : PySem.W.subIn K (.ref c_NoTree) (.ref c_NoTree) = some true)
    (sd_BadTree : PySem.W.hasDictIn K c_BadTree = true)
    (st_BadTree : PySem.W.typeIn K (.ref c_BadTree) = some (.type "type"))
    (ss_BadTree : PySem.W.subIn K (.ref c_BadTree) (.ref c_BadTree) = some true)
    (sd_BadText : PySem.W.hasDictIn K c_BadText = true)
    (st_BadText : PySem.W.typeIn K (.ref c_BadText) = some (.type "type"))
    (ss_BadText : PySem.W.subIn K (.ref c_BadText) (.ref c_BadText) = some true)
    (eg_BadSize : PySem.W.findIn K (.ref c_BadSize) "__getattribute__" = some (some (.builtin "BaseException.__getattribute__")))
    (ek_BadSize : PySem.W.findIn K (.ref c_BadSize) "__getattr__" = some none)
    (ed_BadSize : PySem.W.hasDictIn K c_BadSize = true)
    (ea_BadSize : PySem.W.findIn K (.ref c_BadSize) "__class__" = some (some (.builtin "object.__class__")))
    (em_BadSize : PySem.W.mroIn K c_BadSize (.type "object") = some true)
    (is_BadSize_BadSize : PySem.W.subIn K (.ref c_BadSize) (.ref c_BadSize) = some true)
    (is_BadSize_BadPoint : PySem.W.subIn K (.ref c_BadSize) (.ref c_BadPoint) = some false)
    (is_BadSize_Twice : PySem.W.subIn K (.ref c_BadSize) (.ref c_Twice) = some false)
    (is_BadSize_NoTie : PySem.W.subIn K (.ref c_BadSize) (.ref c_NoTie) = some false)
    (is_BadSize_TooMany : PySem.W.subIn K (.ref c_BadSize) (.ref c_TooMany) = some false)
    (is_BadSize_NoTree : PySem.W.subIn K (.ref c_BadSize) (.ref c_NoTree) = some false)
    (is_BadSize_BadTree : PySem.W.subIn K (.ref c_BadSize) (.ref c_BadTree) = some false)
    (is_BadSize_BadText : PySem.W.subIn K (.ref c_BadSize) (.ref c_BadText) = some false)
    (is_BadSize_ValueError : PySem.W.subIn K (.ref c_BadSize) (.type "ValueError") = some true)
    (eg_BadPoint : PySem.W.findIn K (.ref c_BadPoint) "__getattribute__" = some (some (.builtin "BaseException.__getattribute__")))
    (ek_BadPoint : PySem.W.findIn K (.ref c_BadPoint) "__getattr__" = some none)
    (ed_BadPoint : PySem.W.hasDictIn K c_BadPoint = true)
    (ea_BadPoint : PySem.W.findIn K (.ref c_BadPoint) "__class__" = some (some (.builtin "object.__class__")))
    (em_BadPoint : PySem.W.mroIn K c_BadPoint (.type "object") = some true)
    (is_BadPoint_BadSize : PySem.W.subIn K (.ref c_BadPoint) (.ref c_BadSize) = some false)
    (is_BadPoint_BadPoint : PySem.W.subIn K (.ref c_BadPoint) (.ref c_BadPoint) = some true)
    (is_BadPoint_Twice : PySem.W.subIn K (.ref c_BadPoint) (.ref c_Twice) = some false)
    (is_BadPoint_NoTie : PySem.W.subIn K (.ref c_BadPoint) (.ref c_NoTie) = some false)
    (is_BadPoint_TooMany : PySem.W.subIn K (.ref c_BadPoint) (.ref c_TooMany) = some false)
    (is_BadPoint_NoTree : PySem.W.subIn K (.ref c_BadPoint) (.ref c_NoTree) = some false)
    (is_BadPoint_BadTree : PySem.W.subIn K (.ref c_BadPoint) (.ref c_BadTree) = some false)
    (is_BadPoint_BadText : PySem.W.subIn K (.ref c_BadPoint) (.ref c_BadText) = some false)
    (is_BadPoint_ValueError : PySem.W.subIn K (.ref c_BadPoint) (.type "ValueError") = some true)
    (eg_Twice : PySem.W.findIn K (.ref c_Twice) "__getattribute__" = some (some (.builtin "BaseException.__getattribute__")))
    (ek_Twice : PySem.W.findIn K (.ref c_Twice) "__getattr__" = some none)
    (ed_Twice : PySem.W.hasDictIn K c_Twice = true)
    (ea_Twice : PySem.W.findIn K (.ref c_Twice) "__class__" = some (some (.builtin "object.__class__")))
    (em_Twice : PySem.W.mroIn K c_Twice (.type "object") = some true)
    (is_Twice_BadSize : PySem.W.subIn K (.ref c_Twice) (.ref c_BadSize) = some false)
    (is_Twice_BadPoint : PySem.W.subIn K (.ref c_Twice) (.ref c_BadPoint) = some false)
    (is_Twice_Twice : PySem.W.subIn K (.ref c_Twice) (.ref c_Twice) = some true)
    (is_Twice_NoTie : PySem.W.subIn K (.ref c_Twice) (.ref c_NoTie) = some false)
    (is_Twice_TooMany : PySem.W.subIn K (.ref c_Twice) (.ref c_TooMany) = some false)
    (is_Twice_NoTree : PySem.W.subIn K (.ref c_Twice) (.ref c_NoTree) = some false)
    (is_Twice_BadTree : PySem.W.subIn K (.ref c_Twice) (.ref c_BadTree) = some false)
    (is_Twice_BadText : PySem.W.subIn K (.ref c_Twice) (.ref c_BadText) = some false)
    (is_Twice_ValueError : PySem.W.subIn K (.ref c_Twice) (.type "ValueError") = some true)
    (eg_NoTie : PySem.W.findIn K (.ref c_NoTie) "__getattribute__" = some (some (.builtin "BaseException.__getattribute__")))
    (ek_NoTie : PySem.W.findIn K (.ref c_NoTie) "__getattr__" = some none)
    (ed_NoTie : PySem.W.hasDictIn K c_NoTie = true)
    (ea_NoTie : PySem.W.findIn K (.ref c_NoTie) "__class__" = some (some (.builtin "object.__class__")))
    (em_NoTie : PySem.W.mroIn K c_NoTie (.type "object") = some true)
    (is_NoTie_BadSize : PySem.W.subIn K (.ref c_NoTie) (.ref c_BadSize) = some false)
    (is_NoTie_BadPoint : PySem.W.subIn K (.ref c_NoTie) (.ref c_BadPoint) = some false)
    (is_NoTie_Twice : PySem.W.subIn K (.ref c_NoTie) (.ref c_Twice) = some false)
    (is_NoTie_NoTie : PySem.W.subIn K (.ref c_NoTie) (.ref c_NoTie) = some true)
    (is_NoTie_TooMany : PySem.W.subIn K (.ref c_NoTie) (.ref c_TooMany) = some false)
    (is_NoTie_NoTree : PySem.W.subIn K (.ref c_NoTie) (.ref c_NoTree) = some false)
    (is_NoTie_BadTree : PySem.W.subIn K (.ref c_NoTie) (.ref c_BadTree) = some false)
    (is_NoTie_BadText : PySem.W.subIn K (.ref c_NoTie) (.ref c_BadText) = some false)
    (is_NoTie_ValueError : PySem.W.subIn K (.ref c_NoTie) (.type "ValueError") = some true)
    (eg_TooMany : PySem.W.findIn K (.ref c_TooMany) "__getattribute__" = some (some (.builtin "BaseException.__getattribute__")))
    (ek_TooMany : PySem.W.findIn K (.ref c_TooMany) "__getattr__" = some none)
    (ed_TooMany : PySem.W.hasDictIn K c_TooMany = true)
    (ea_TooMany : PySem.W.findIn K (.ref c_TooMany) "__class__" = some (some (.builtin "object.__class__")))
    (em_TooMany : PySem.W.mroIn K c_TooMany (.type "object") = some true)
    (is_TooMany_BadSize : PySem.W.subIn K (.ref c_TooMany) (.ref c_BadSize) = some false)
    (is_TooMany_BadPoint : PySem.W.subIn K (.ref c_TooMany) (.ref c_BadPoint) = some false)
    (is_TooMany_Twice : PySem.W.subIn K (.ref c_TooMany) (.ref c_Twice) = some false)
    (is_TooMany_NoTie : PySem.W.subIn K (.ref c_TooMany) (.ref c_NoTie) = some false)
    (is_TooMany_TooMany : PySem.W.subIn K (.ref c_TooMany) (.ref c_TooMany) = some true)
    (is_TooMany_NoTree : PySem.W.subIn K (.ref c_TooMany) (.ref c_NoTree) = some false)
    (is_TooMany_BadTree : PySem.W.subIn K (.ref c_TooMany) (.ref c_BadTree) = some false)
    (is_TooMany_BadText : PySem.W.subIn K (.ref c_TooMany) (.ref c_BadText) = some false)
    (is_TooMany_ValueError : PySem.W.subIn K (.ref c_TooMany) (.type "ValueError") = some true)
    (z_ValueError : PySem.W.nsIn K mainGlobals "ValueError" = some none)
    (z_bool : PySem.W.nsIn K mainGlobals "bool" = some none)
    (z_int : PySem.W.nsIn K mainGlobals "int" = some none)
    (z_isinstance : PySem.W.nsIn K mainGlobals "isinstance" = some none)
    (z_len : PySem.W.nsIn K mainGlobals "len" = some none)
    (z_list : PySem.W.nsIn K mainGlobals "list" = some none)
    (z_max : PySem.W.nsIn K mainGlobals "max" = some none)
    (z_min : PySem.W.nsIn K mainGlobals "min" = some none)
    (z_range : PySem.W.nsIn K mainGlobals "range" = some none)
    (z_repr : PySem.W.nsIn K mainGlobals "repr" = some none)
    (z_sorted : PySem.W.nsIn K mainGlobals "sorted" = some none)
    (z_zip : PySem.W.nsIn K mainGlobals "zip" = some none)
    (v_MOST_POINTS : PySem.W.nsIn K mainGlobals "MOST_POINTS" = some (some (.int (30) tk_MOST_POINTS))) :
    ∃ fd : FuncData, (∀ (s : Shared) (v : Value), BindsTo s fd ⟨[v], []⟩ [("_law_script", v)]) ∧ ∀ base : Heap, K.In base → base.Ns mainGlobals mg → FnG l.prog w K mg base 9 fa fd ["_law_script"] (spLaw K) := by
  have e := hfa.symm.trans (PySem.W.mg_of X G f_law)
  obtain rfl : a_law = fa := by cases e; rfl
  have T : Txt K mg { a_whole_within := a_whole_within, d_whole_within := PySem.W.fnOf "whole_within" "whole_within" (defArgs s_whole_within) (defBody s_whole_within) (defScope s_whole_within) .none kV_whole_within dc_whole_within pm_whole_within an_whole_within cd_whole_within ct_whole_within, a_pairs := a_pairs, d_pairs := PySem.W.fnOf "pairs" "pairs" (defArgs s_pairs) (defBody s_pairs) (defScope s_pairs) .none kV_pairs dc_pairs pm_pairs an_pairs cd_pairs ct_pairs, a_Web_init := a_Web_init, d_Web_init := PySem.W.fnOf "__init__" "Web.__init__" (defArgs s_Web_init) (defBody s_Web_init) (defScope s_Web_init) .none kV_Web_init dc_Web_init pm_Web_init an_Web_init cd_Web_init ct_Web_init, a_Web_many := a_Web_many, d_Web_many := PySem.W.fnOf "many" "Web.many" (defArgs s_Web_many) (defBody s_Web_many) (defScope s_Web_many) .none kV_Web_many dc_Web_many pm_Web_many an_Web_many cd_Web_many ct_Web_many, a_Web_has := a_Web_has, d_Web_has := PySem.W.fnOf "has" "Web.has" (defArgs s_Web_has) (defBody s_Web_has) (defScope s_Web_has) .none kV_Web_has dc_Web_has pm_Web_has an_Web_has cd_Web_has ct_Web_has, a_Web_put := a_Web_put, d_Web_put := PySem.W.fnOf "put" "Web.put" (defArgs s_Web_put) (defBody s_Web_put) (defScope s_Web_put) .none kV_Web_put dc_Web_put pm_Web_put an_Web_put cd_Web_put ct_Web_put, a_Web_take := a_Web_take, d_Web_take := PySem.W.fnOf "take" "Web.take" (defArgs s_Web_take) (defBody s_Web_take) (defScope s_Web_take) .none kV_Web_take dc_Web_take pm_Web_take an_Web_take cd_Web_take ct_Web_take, a_Web_grow := a_Web_grow, d_Web_grow := PySem.W.fnOf "grow" "Web.grow" (defArgs s_Web_grow) (defBody s_Web_grow) (defScope s_Web_grow) .none kV_Web_grow dc_Web_grow pm_Web_grow an_Web_grow cd_Web_grow ct_Web_grow, a_Web_beside := a_Web_beside, d_Web_beside := PySem.W.fnOf "beside" "Web.beside" (defArgs s_Web_beside) (defBody s_Web_beside) (defScope s_Web_beside) .none kV_Web_beside dc_Web_beside pm_Web_beside an_Web_beside cd_Web_beside ct_Web_beside, a_Web_ties := a_Web_ties, d_Web_ties := PySem.W.fnOf "ties" "Web.ties" (defArgs s_Web_ties) (defBody s_Web_ties) (defScope s_Web_ties) .none kV_Web_ties dc_Web_ties pm_Web_ties an_Web_ties cd_Web_ties ct_Web_ties, a_Web_need_point := a_Web_need_point, d_Web_need_point := PySem.W.fnOf "_need_point" "Web._need_point" (defArgs s_Web_need_point) (defBody s_Web_need_point) (defScope s_Web_need_point) .none kV_Web_need_point dc_Web_need_point pm_Web_need_point an_Web_need_point cd_Web_need_point ct_Web_need_point, a_l_mixed := a_l_mixed, d_l_mixed := PySem.W.fnOf "_law_mixed" "_law_mixed" (defArgs s_l_mixed) (defBody s_l_mixed) (defScope s_l_mixed) .none kV_l_mixed dc_l_mixed pm_l_mixed an_l_mixed cd_l_mixed ct_l_mixed, a_l_number := a_l_number, d_l_number := PySem.W.fnOf "_law_number" "_law_number" (defArgs s_l_number) (defBody s_l_number) (defScope s_l_number) .none kV_l_number dc_l_number pm_l_number an_l_number cd_l_number ct_l_number, a_l_kind := a_l_kind, d_l_kind := PySem.W.fnOf "_law_kind" "_law_kind" (defArgs s_l_kind) (defBody s_l_kind) (defScope s_l_kind) .none kV_l_kind dc_l_kind pm_l_kind an_l_kind cd_l_kind ct_l_kind, a_l_whole := a_l_whole, d_l_whole := PySem.W.fnOf "_law_whole" "_law_whole" (defArgs s_l_whole) (defBody s_l_whole) (defScope s_l_whole) .none kV_l_whole dc_l_whole pm_l_whole an_l_whole cd_l_whole ct_l_whole, a_l_is_point := a_l_is_point, d_l_is_point := PySem.W.fnOf "_law_is_point" "_law_is_point" (defArgs s_l_is_point) (defBody s_l_is_point) (defScope s_l_is_point) .none kV_l_is_point dc_l_is_point pm_l_is_point an_l_is_point cd_l_is_point ct_l_is_point, a_l_due := a_l_due, d_l_due := PySem.W.fnOf "_law_due" "_law_due" (defArgs s_l_due) (defBody s_l_due) (defScope s_l_due) .none kV_l_due dc_l_due pm_l_due an_l_due cd_l_due ct_l_due, a_l_call := a_l_call, d_l_call := PySem.W.fnOf "_law_call" "_law_call" (defArgs s_l_call) (defBody s_l_call) (defScope s_l_call) .none kV_l_call dc_l_call pm_l_call an_l_call cd_l_call ct_l_call, a_l_said := a_l_said, d_l_said := PySem.W.fnOf "_law_said" "_law_said" (defArgs s_l_said) (defBody s_l_said) (defScope s_l_said) .none kV_l_said dc_l_said pm_l_said an_l_said cd_l_said ct_l_said, a_l_done := a_l_done, d_l_done := PySem.W.fnOf "_law_done" "_law_done" (defArgs s_l_done) (defBody s_l_done) (defScope s_l_done) .none kV_l_done dc_l_done pm_l_done an_l_done cd_l_done ct_l_done, a_l_beside_refused := a_l_beside_refused, d_l_beside_refused := PySem.W.fnOf "_law_beside_refused" "_law_beside_refused" (defArgs s_l_beside_refused) (defBody s_l_beside_refused) (defScope s_l_beside_refused) .none kV_l_beside_refused dc_l_beside_refused pm_l_beside_refused an_l_beside_refused cd_l_beside_refused ct_l_beside_refused, a_l_looked := a_l_looked, d_l_looked := PySem.W.fnOf "_law_looked" "_law_looked" (defArgs s_l_looked) (defBody s_l_looked) (defScope s_l_looked) .none kV_l_looked dc_l_looked pm_l_looked an_l_looked cd_l_looked ct_l_looked, a_l_size_refused := a_l_size_refused, d_l_size_refused := PySem.W.fnOf "_law_size_refused" "_law_size_refused" (defArgs s_l_size_refused) (defBody s_l_size_refused) (defScope s_l_size_refused) .none kV_l_size_refused dc_l_size_refused pm_l_size_refused an_l_size_refused cd_l_size_refused ct_l_size_refused, a_law := a_law, d_law := PySem.W.fnOf "law" "law" (defArgs s_law) (defBody s_law) (defScope s_law) .none kV_law dc_law pm_law an_law cd_law ct_law, c_BadPoint := c_BadPoint, c_BadSize := c_BadSize, c_BadText := c_BadText, c_BadTree := c_BadTree, c_JoinError := c_JoinError, c_NoTie := c_NoTie, c_NoTree := c_NoTree, c_TooMany := c_TooMany, c_Twice := c_Twice, c_Web := c_Web } := {
    g_whole_within := PySem.W.mg_of X G f_whole_within
    k_whole_within := k_whole_within
    b_whole_within := (fun_mk (st := s_whole_within) l_whole_within c_whole_within k_whole_within).binds (ps := ["number", "least", "most"]) fun _ _ _ _ _ _ us hl => match us, hl with | [_, _, _], _ => rfl
    F_whole_within := fun_mk (st := s_whole_within) l_whole_within c_whole_within k_whole_within
    g_pairs := PySem.W.mg_of X G f_pairs
    k_pairs := k_pairs
    b_pairs := (fun_mk (st := s_pairs) l_pairs c_pairs k_pairs).binds (ps := ["many"]) fun _ _ _ _ _ _ us hl => match us, hl with | [_], _ => rfl
    F_pairs := fun_mk (st := s_pairs) l_pairs c_pairs k_pairs
    b_Web_init := (fun_mk (st := s_Web_init) l_Web_init c_Web_init k_Web_init).binds (ps := ["self", "many"]) fun _ _ _ _ _ _ us hl => match us, hl with | [_, _], _ => rfl
    F_Web_init := fun_mk (st := s_Web_init) l_Web_init c_Web_init k_Web_init
    m_Web_many := ⟨f_Web_many, i_Web_many, k_Web_many⟩
    b_Web_many := (fun_mk (st := s_Web_many) l_Web_many c_Web_many k_Web_many).binds (ps := ["self"]) fun _ _ _ _ _ _ us hl => match us, hl with | [_], _ => rfl
    F_Web_many := fun_mk (st := s_Web_many) l_Web_many c_Web_many k_Web_many
    m_Web_has := ⟨f_Web_has, i_Web_has, k_Web_has⟩
    b_Web_has := (fun_mk (st := s_Web_has) l_Web_has c_Web_has k_Web_has).binds (ps := ["self", "one", "other"]) fun _ _ _ _ _ _ us hl => match us, hl with | [_, _, _], _ => rfl
    F_Web_has := fun_mk (st := s_Web_has) l_Web_has c_Web_has k_Web_has
    m_Web_put := ⟨f_Web_put, i_Web_put, k_Web_put⟩
    b_Web_put := (fun_mk (st := s_Web_put) l_Web_put c_Web_put k_Web_put).binds (ps := ["self", "one", "other"]) fun _ _ _ _ _ _ us hl => match us, hl with | [_, _, _], _ => rfl
    F_Web_put := fun_mk (st := s_Web_put) l_Web_put c_Web_put k_Web_put
    m_Web_take := ⟨f_Web_take, i_Web_take, k_Web_take⟩
    b_Web_take := (fun_mk (st := s_Web_take) l_Web_take c_Web_take k_Web_take).binds (ps := ["self", "one", "other"]) fun _ _ _ _ _ _ us hl => match us, hl with | [_, _, _], _ => rfl
    F_Web_take := fun_mk (st := s_Web_take) l_Web_take c_Web_take k_Web_take
    m_Web_grow := ⟨f_Web_grow, i_Web_grow, k_Web_grow⟩
    b_Web_grow := (fun_mk (st := s_Web_grow) l_Web_grow c_Web_grow k_Web_grow).binds (ps := ["self"]) fun _ _ _ _ _ _ us hl => match us, hl with | [_], _ => rfl
    F_Web_grow := fun_mk (st := s_Web_grow) l_Web_grow c_Web_grow k_Web_grow
    m_Web_beside := ⟨f_Web_beside, i_Web_beside, k_Web_beside⟩
    b_Web_beside := (fun_mk (st := s_Web_beside) l_Web_beside c_Web_beside k_Web_beside).binds (ps := ["self", "point"]) fun _ _ _ _ _ _ us hl => match us, hl with | [_, _], _ => rfl
    F_Web_beside := fun_mk (st := s_Web_beside) l_Web_beside c_Web_beside k_Web_beside
    m_Web_ties := ⟨f_Web_ties, i_Web_ties, k_Web_ties⟩
    b_Web_ties := (fun_mk (st := s_Web_ties) l_Web_ties c_Web_ties k_Web_ties).binds (ps := ["self"]) fun _ _ _ _ _ _ us hl => match us, hl with | [_], _ => rfl
    F_Web_ties := fun_mk (st := s_Web_ties) l_Web_ties c_Web_ties k_Web_ties
    m_Web_need_point := ⟨f_Web_need_point, i_Web_need_point, k_Web_need_point⟩
    b_Web_need_point := (fun_mk (st := s_Web_need_point) l_Web_need_point c_Web_need_point k_Web_need_point).binds (ps := ["self", "point"]) fun _ _ _ _ _ _ us hl => match us, hl with | [_, _], _ => rfl
    F_Web_need_point := fun_mk (st := s_Web_need_point) l_Web_need_point c_Web_need_point k_Web_need_point
    g_l_mixed := PySem.W.mg_of X G f_l_mixed
    k_l_mixed := k_l_mixed
    b_l_mixed := (fun_mk (st := s_l_mixed) l_l_mixed c_l_mixed k_l_mixed).binds (ps := ["_law_cell", "_law_k"]) fun _ _ _ _ _ _ us hl => match us, hl with | [_, _], _ => rfl
    F_l_mixed := fun_mk (st := s_l_mixed) l_l_mixed c_l_mixed k_l_mixed
    g_l_number := PySem.W.mg_of X G f_l_number
    k_l_number := k_l_number
    b_l_number := (fun_mk (st := s_l_number) l_l_number c_l_number k_l_number).binds (ps := ["_law_script", "_law_k"]) fun _ _ _ _ _ _ us hl => match us, hl with | [_, _], _ => rfl
    F_l_number := fun_mk (st := s_l_number) l_l_number c_l_number k_l_number
    g_l_kind := PySem.W.mg_of X G f_l_kind
    k_l_kind := k_l_kind
    b_l_kind := (fun_mk (st := s_l_kind) l_l_kind c_l_kind k_l_kind).binds (ps := ["_law_e"]) fun _ _ _ _ _ _ us hl => match us, hl with | [_], _ => rfl
    F_l_kind := fun_mk (st := s_l_kind) l_l_kind c_l_kind k_l_kind
    g_l_whole := PySem.W.mg_of X G f_l_whole
    k_l_whole := k_l_whole
    b_l_whole := (fun_mk (st := s_l_whole) l_l_whole c_l_whole k_l_whole).binds (ps := ["_law_thing"]) fun _ _ _ _ _ _ us hl => match us, hl with | [_], _ => rfl
    F_l_whole := fun_mk (st := s_l_whole) l_l_whole c_l_whole k_l_whole
    g_l_is_point := PySem.W.mg_of X G f_l_is_point
    k_l_is_point := k_l_is_point
    b_l_is_point := (fun_mk (st := s_l_is_point) l_l_is_point c_l_is_point k_l_is_point).binds (ps := ["_law_own", "_law_thing"]) fun _ _ _ _ _ _ us hl => match us, hl with | [_, _], _ => rfl
    F_l_is_point := fun_mk (st := s_l_is_point) l_l_is_point c_l_is_point k_l_is_point
    g_l_due := PySem.W.mg_of X G f_l_due
    k_l_due := k_l_due
    b_l_due := (fun_mk (st := s_l_due) l_l_due c_l_due k_l_due).binds (ps := ["_law_own", "_law_word", "_law_one", "_law_other"]) fun _ _ _ _ _ _ us hl => match us, hl with | [_, _, _, _], _ => rfl
    F_l_due := fun_mk (st := s_l_due) l_l_due c_l_due k_l_due
    g_l_call := PySem.W.mg_of X G f_l_call
    k_l_call := k_l_call
    b_l_call := (fun_mk (st := s_l_call) l_l_call c_l_call k_l_call).binds (ps := ["_law_web", "_law_word", "_law_one", "_law_other"]) fun _ _ _ _ _ _ us hl => match us, hl with | [_, _, _, _], _ => rfl
    F_l_call := fun_mk (st := s_l_call) l_l_call c_l_call k_l_call
    g_l_said := PySem.W.mg_of X G f_l_said
    k_l_said := k_l_said
    b_l_said := (fun_mk (st := s_l_said) l_l_said c_l_said k_l_said).binds (ps := ["_law_web", "_law_word", "_law_one", "_law_other"]) fun _ _ _ _ _ _ us hl => match us, hl with | [_, _, _, _], _ => rfl
    F_l_said := fun_mk (st := s_l_said) l_l_said c_l_said k_l_said
    g_l_done := PySem.W.mg_of X G f_l_done
    k_l_done := k_l_done
    b_l_done := (fun_mk (st := s_l_done) l_l_done c_l_done k_l_done).binds (ps := ["_law_web", "_law_own", "_law_word", "_law_one", "_law_other"]) fun _ _ _ _ _ _ us hl => match us, hl with | [_, _, _, _, _], _ => rfl
    F_l_done := fun_mk (st := s_l_done) l_l_done c_l_done k_l_done
    g_l_beside_refused := PySem.W.mg_of X G f_l_beside_refused
    k_l_beside_refused := k_l_beside_refused
    b_l_beside_refused := (fun_mk (st := s_l_beside_refused) l_l_beside_refused c_l_beside_refused k_l_beside_refused).binds (ps := ["_law_web", "_law_thing"]) fun _ _ _ _ _ _ us hl => match us, hl with | [_, _], _ => rfl
    F_l_beside_refused := fun_mk (st := s_l_beside_refused) l_l_beside_refused c_l_beside_refused k_l_beside_refused
    g_l_looked := PySem.W.mg_of X G f_l_looked
    k_l_looked := k_l_looked
    b_l_looked := (fun_mk (st := s_l_looked) l_l_looked c_l_looked k_l_looked).binds (ps := ["_law_web", "_law_own", "_law_point", "_law_held"]) fun _ _ _ _ _ _ us hl => match us, hl with | [_, _, _, _], _ => rfl
    F_l_looked := fun_mk (st := s_l_looked) l_l_looked c_l_looked k_l_looked
    g_l_size_refused := PySem.W.mg_of X G f_l_size_refused
    k_l_size_refused := k_l_size_refused
    b_l_size_refused := (fun_mk (st := s_l_size_refused) l_l_size_refused c_l_size_refused k_l_size_refused).binds (ps := ["_law_thing"]) fun _ _ _ _ _ _ us hl => match us, hl with | [_], _ => rfl
    F_l_size_refused := fun_mk (st := s_l_size_refused) l_l_size_refused c_l_size_refused k_l_size_refused
    g_law := PySem.W.mg_of X G f_law
    k_law := k_law
    b_law := (fun_mk (st := s_law) l_law c_law k_law).binds (ps := ["_law_script"]) fun _ _ _ _ _ _ us hl => match us, hl with | [_], _ => rfl
    F_law := fun_mk (st := s_law) l_law c_law k_law
    cl_Web := ⟨pg_Web, hd_Web, po_Web, sa_Web⟩
    mk_Web := ⟨mm_Web, f_Web_init, i_Web_init, kc_Web⟩
    n_Web__near := n_Web__near
    gBadPoint := PySem.W.mg_of X G h_c_BadPoint
    gBadSize := PySem.W.mg_of X G h_c_BadSize
    gBadText := PySem.W.mg_of X G h_c_BadText
    gBadTree := PySem.W.mg_of X G h_c_BadTree
    gJoinError := PySem.W.mg_of X G h_c_JoinError
    gNoTie := PySem.W.mg_of X G h_c_NoTie
    gNoTree := PySem.W.mg_of X G h_c_NoTree
    gTooMany := PySem.W.mg_of X G h_c_TooMany
    gTwice := PySem.W.mg_of X G h_c_Twice
    gWeb := PySem.W.mg_of X G h_c_Web
    xBadSize := xBadSize
    kBadSize := kBadSize
    bBadSize := bBadSize
    tBadSize := tBadSize
    xBadPoint := xBadPoint
    kBadPoint := kBadPoint
    bBadPoint := bBadPoint
    tBadPoint := tBadPoint
    xTwice := xTwice
    kTwice := kTwice
    bTwice := bTwice
    tTwice := tTwice
    xNoTie := xNoTie
    kNoTie := kNoTie
    bNoTie := bNoTie
    tNoTie := tNoTie
    xTooMany := xTooMany
    kTooMany := kTooMany
    bTooMany := bTooMany
    tTooMany := tTooMany
    hb_JoinError := hb_JoinError
    hd_JoinError := hdd_JoinError
    ht_JoinError := ht_JoinError
    su_BadSize_JoinError := su_BadSize_JoinError
    su_BadPoint_JoinError := su_BadPoint_JoinError
    su_Twice_JoinError := su_Twice_JoinError
    su_NoTie_JoinError := su_NoTie_JoinError
    su_TooMany_JoinError := su_TooMany_JoinError
    ec_BadSize := ⟨eg_BadSize, ek_BadSize, bBadSize, ed_BadSize, ea_BadSize, hn0, ht0, em_BadSize⟩
    is_BadSize_BadSize := kit_ref sd_BadSize st_BadSize ss_BadSize is_BadSize_BadSize
    is_BadSize_BadPoint := kit_ref sd_BadPoint st_BadPoint ss_BadPoint is_BadSize_BadPoint
    is_BadSize_Twice := kit_ref sd_Twice st_Twice ss_Twice is_BadSize_Twice
    is_BadSize_NoTie := kit_ref sd_NoTie st_NoTie ss_NoTie is_BadSize_NoTie
    is_BadSize_TooMany := kit_ref sd_TooMany st_TooMany ss_TooMany is_BadSize_TooMany
    is_BadSize_NoTree := kit_ref sd_NoTree st_NoTree ss_NoTree is_BadSize_NoTree
    is_BadSize_BadTree := kit_ref sd_BadTree st_BadTree ss_BadTree is_BadSize_BadTree
    is_BadSize_BadText := kit_ref sd_BadText st_BadText ss_BadText is_BadSize_BadText
    is_BadSize_ValueError := kit_tyo (by decide +kernel) is_BadSize_ValueError
    ec_BadPoint := ⟨eg_BadPoint, ek_BadPoint, bBadPoint, ed_BadPoint, ea_BadPoint, hn0, ht0, em_BadPoint⟩
    is_BadPoint_BadSize := kit_ref sd_BadSize st_BadSize ss_BadSize is_BadPoint_BadSize
    is_BadPoint_BadPoint := kit_ref sd_BadPoint st_BadPoint ss_BadPoint is_BadPoint_BadPoint
    is_BadPoint_Twice := kit_ref sd_Twice st_Twice ss_Twice is_BadPoint_Twice
    is_BadPoint_NoTie := kit_ref sd_NoTie st_NoTie ss_NoTie is_BadPoint_NoTie
    is_BadPoint_TooMany := kit_ref sd_TooMany st_TooMany ss_TooMany is_BadPoint_TooMany
    is_BadPoint_NoTree := kit_ref sd_NoTree st_NoTree ss_NoTree is_BadPoint_NoTree
    is_BadPoint_BadTree := kit_ref sd_BadTree st_BadTree ss_BadTree is_BadPoint_BadTree
    is_BadPoint_BadText := kit_ref sd_BadText st_BadText ss_BadText is_BadPoint_BadText
    is_BadPoint_ValueError := kit_tyo (by decide +kernel) is_BadPoint_ValueError
    ec_Twice := ⟨eg_Twice, ek_Twice, bTwice, ed_Twice, ea_Twice, hn0, ht0, em_Twice⟩
    is_Twice_BadSize := kit_ref sd_BadSize st_BadSize ss_BadSize is_Twice_BadSize
    is_Twice_BadPoint := kit_ref sd_BadPoint st_BadPoint ss_BadPoint is_Twice_BadPoint
    is_Twice_Twice := kit_ref sd_Twice st_Twice ss_Twice is_Twice_Twice
    is_Twice_NoTie := kit_ref sd_NoTie st_NoTie ss_NoTie is_Twice_NoTie
    is_Twice_TooMany := kit_ref sd_TooMany st_TooMany ss_TooMany is_Twice_TooMany
    is_Twice_NoTree := kit_ref sd_NoTree st_NoTree ss_NoTree is_Twice_NoTree
    is_Twice_BadTree := kit_ref sd_BadTree st_BadTree ss_BadTree is_Twice_BadTree
    is_Twice_BadText := kit_ref sd_BadText st_BadText ss_BadText is_Twice_BadText
    is_Twice_ValueError := kit_tyo (by decide +kernel) is_Twice_ValueError
    ec_NoTie := ⟨eg_NoTie, ek_NoTie, bNoTie, ed_NoTie, ea_NoTie, hn0, ht0, em_NoTie⟩
    is_NoTie_BadSize := kit_ref sd_BadSize st_BadSize ss_BadSize is_NoTie_BadSize
    is_NoTie_BadPoint := kit_ref sd_BadPoint st_BadPoint ss_BadPoint is_NoTie_BadPoint
    is_NoTie_Twice := kit_ref sd_Twice st_Twice ss_Twice is_NoTie_Twice
    is_NoTie_NoTie := kit_ref sd_NoTie st_NoTie ss_NoTie is_NoTie_NoTie
    is_NoTie_TooMany := kit_ref sd_TooMany st_TooMany ss_TooMany is_NoTie_TooMany
    is_NoTie_NoTree := kit_ref sd_NoTree st_NoTree ss_NoTree is_NoTie_NoTree
    is_NoTie_BadTree := kit_ref sd_BadTree st_BadTree ss_BadTree is_NoTie_BadTree
    is_NoTie_BadText := kit_ref sd_BadText st_BadText ss_BadText is_NoTie_BadText
    is_NoTie_ValueError := kit_tyo (by decide +kernel) is_NoTie_ValueError
    ec_TooMany := ⟨eg_TooMany, ek_TooMany, bTooMany, ed_TooMany, ea_TooMany, hn0, ht0, em_TooMany⟩
    is_TooMany_BadSize := kit_ref sd_BadSize st_BadSize ss_BadSize is_TooMany_BadSize
    is_TooMany_BadPoint := kit_ref sd_BadPoint st_BadPoint ss_BadPoint is_TooMany_BadPoint
    is_TooMany_Twice := kit_ref sd_Twice st_Twice ss_Twice is_TooMany_Twice
    is_TooMany_NoTie := kit_ref sd_NoTie st_NoTie ss_NoTie is_TooMany_NoTie
    is_TooMany_TooMany := kit_ref sd_TooMany st_TooMany ss_TooMany is_TooMany_TooMany
    is_TooMany_NoTree := kit_ref sd_NoTree st_NoTree ss_NoTree is_TooMany_NoTree
    is_TooMany_BadTree := kit_ref sd_BadTree st_BadTree ss_BadTree is_TooMany_BadTree
    is_TooMany_BadText := kit_ref sd_BadText st_BadText ss_BadText is_TooMany_BadText
    is_TooMany_ValueError := kit_tyo (by decide +kernel) is_TooMany_ValueError
    ValueError := PySem.W.mg_none_of X G z_ValueError
    bool := PySem.W.mg_none_of X G z_bool
    int := PySem.W.mg_none_of X G z_int
    isinstance := PySem.W.mg_none_of X G z_isinstance
    len := PySem.W.mg_none_of X G z_len
    list := PySem.W.mg_none_of X G z_list
    max := PySem.W.mg_none_of X G z_max
    min := PySem.W.mg_none_of X G z_min
    range := PySem.W.mg_none_of X G z_range
    repr := PySem.W.mg_none_of X G z_repr
    sorted := PySem.W.mg_none_of X G z_sorted
    zip := PySem.W.mg_none_of X G z_zip
    cMOST_POINTS := ⟨_, PySem.W.mg_of X G v_MOST_POINTS⟩ }
  exact ⟨_, fun s v => .of_eq rfl, fun base _ _ => ok_law T⟩


theorem walk {l : PySem.W.OpenLaw} {q : Program} {loose : List Str} {XP : (Str → Option Value) → Heap → Prop} {YP : World → Heap → Prop} {d : DefRec} {K : Params → PySem.W.Frag} (hn : l.most = some 63) (hdf : d.params.defaults = [])
    (hY : ∀ (w : World) (h : Heap), YP w h → (K w.params).In h)
    (F : ∀ (w : World) (mg : Str → Option Value) (fa : Addr) (h : Heap), (K w.params).In h → h.Ns mainGlobals mg → mg d.name = some (.ref fa) →
      ∃ fd : FuncData, (∀ (s : Shared) (u : Value), BindsTo s fd ⟨[u], []⟩ [("_law_script", u)]) ∧ ∀ base : Heap, (K w.params).In base → base.Ns mainGlobals mg → FnG l.prog w (K w.params) mg base 9 fa fd ["_law_script"] (spLaw (K w.params))) :
    PySem.W.WalkO q loose XP YP l.row.toRowW d [] (fun f vs => PySem.call f vs) :=
  walk_ofG (n := 63) (sp := spLaw) hn (by decide) hdf ⟨rfl, by decide, by decide⟩ hY F (fun _ _ a ns hl _ hS => ⟨a, ns, rfl, hS, hl, fun _ => rfl⟩)
end Jk
open PySem PySem.W PyProof.Rows
set_option maxRecDepth 100000 in
set_option maxHeartbeats 0 in
theorem PySem.Challenge.cw_joinside_k01_webs_holds : PySem.Challenge.rw_joinside_k01_webs.Holds := by
  w_on; o_law; k_head; (case hw => w_witness2)
  k_fill
  refine Jk.walk (l := PySem.Challenge.rw_joinside_k01_webs) rfl rfl (fun w h Y => PySem.W.kIn_of Y) ?F
  case F =>
    intro w mg fa h KX G hmg
    refine' Jk.all_mk KX G hmg ?h_c_BadPoint ?h_c_BadSize ?h_c_BadText ?h_c_BadTree ?h_c_JoinError ?h_c_NoTie ?h_c_NoTree ?h_c_TooMany ?h_c_Twice ?h_c_Web ?f_whole_within ?l_whole_within ?c_whole_within ?k_whole_within ?f_pairs ?l_pairs ?c_pairs ?k_pairs ?f_Web_init ?i_Web_init ?l_Web_init ?c_Web_init ?k_Web_init ?f_Web_many ?i_Web_many ?l_Web_many ?c_Web_many ?k_Web_many ?f_Web_has ?i_Web_has ?l_Web_has ?c_Web_has ?k_Web_has ?f_Web_put ?i_Web_put ?l_Web_put ?c_Web_put ?k_Web_put ?f_Web_take ?i_Web_take ?l_Web_take ?c_Web_take ?k_Web_take ?f_Web_grow ?i_Web_grow ?l_Web_grow ?c_Web_grow ?k_Web_grow ?f_Web_beside ?i_Web_beside ?l_Web_beside ?c_Web_beside ?k_Web_beside ?f_Web_ties ?i_Web_ties ?l_Web_ties ?c_Web_ties ?k_Web_ties ?f_Web_need_point ?i_Web_need_point ?l_Web_need_point ?c_Web_need_point ?k_Web_need_point ?f_l_mixed ?l_l_mixed ?c_l_mixed ?k_l_mixed ?f_l_number ?l_l_number ?c_l_number ?k_l_number ?f_l_kind ?l_l_kind ?c_l_kind ?k_l_kind ?f_l_whole ?l_l_whole ?c_l_whole ?k_l_whole ?f_l_is_point ?l_l_is_point ?c_l_is_point ?k_l_is_point ?f_l_due ?l_l_due ?c_l_due ?k_l_due ?f_l_call ?l_l_call ?c_l_call ?k_l_call ?f_l_said ?l_l_said ?c_l_said ?k_l_said ?f_l_done ?l_l_done ?c_l_done ?k_l_done ?f_l_beside_refused ?l_l_beside_refused ?c_l_beside_refused ?k_l_beside_refused ?f_l_looked ?l_l_looked ?c_l_looked ?k_l_looked ?f_l_size_refused ?l_l_size_refused ?c_l_size_refused ?k_l_size_refused ?f_law ?l_law ?c_law ?k_law ?pg_Web ?hd_Web ?po_Web ?sa_Web ?mm_Web ?kc_Web ?n_Web__near ?xBadSize ?kBadSize ?bBadSize ?tBadSize ?xBadPoint ?kBadPoint ?bBadPoint ?tBadPoint ?xTwice ?kTwice ?bTwice ?tTwice ?xNoTie ?kNoTie ?bNoTie ?tNoTie ?xTooMany ?kTooMany ?bTooMany ?tTooMany ?hb_JoinError ?hdd_JoinError ?ht_JoinError ?su_BadSize_JoinError ?su_BadPoint_JoinError ?su_Twice_JoinError ?su_NoTie_JoinError ?su_TooMany_JoinError ?hn0 ?ht0 ?sd_BadSize ?st_BadSize ?ss_BadSize ?sd_BadPoint ?st_BadPoint ?ss_BadPoint ?sd_Twice ?st_Twice ?ss_Twice ?sd_NoTie ?st_NoTie ?ss_NoTie ?sd_TooMany ?st_TooMany ?ss_TooMany ?sd_NoTree ?st_NoTree ?ss_NoTree ?sd_BadTree ?st_BadTree ?ss_BadTree ?sd_BadText ?st_BadText ?ss_BadText ?eg_BadSize ?ek_BadSize ?ed_BadSize ?ea_BadSize ?em_BadSize ?is_BadSize_BadSize ?is_BadSize_BadPoint ?is_BadSize_Twice ?is_BadSize_NoTie ?is_BadSize_TooMany ?is_BadSize_NoTree ?is_BadSize_BadTree ?is_BadSize_BadText ?is_BadSize_ValueError ?eg_BadPoint ?ek_BadPoint ?ed_BadPoint ?ea_BadPoint ?em_BadPoint ?is_BadPoint_BadSize ?is_BadPoint_BadPoint ?is_BadPoint_Twice ?is_BadPoint_NoTie ?is_BadPoint_TooMany ?is_BadPoint_NoTree ?is_BadPoint_BadTree ?is_BadPoint_BadText ?is_BadPoint_ValueError ?eg_Twice ?ek_Twice ?ed_Twice ?ea_Twice ?em_Twice ?is_Twice_BadSize ?is_Twice_BadPoint ?is_Twice_Twice ?is_Twice_NoTie ?is_Twice_TooMany ?is_Twice_NoTree ?is_Twice_BadTree ?is_Twice_BadText ?is_Twice_ValueError ?eg_NoTie ?ek_NoTie ?ed_NoTie ?ea_NoTie ?em_NoTie ?is_NoTie_BadSize ?is_NoTie_BadPoint ?is_NoTie_Twice ?is_NoTie_NoTie ?is_NoTie_TooMany ?is_NoTie_NoTree ?is_NoTie_BadTree ?is_NoTie_BadText ?is_NoTie_ValueError ?eg_TooMany ?ek_TooMany ?ed_TooMany ?ea_TooMany ?em_TooMany ?is_TooMany_BadSize ?is_TooMany_BadPoint ?is_TooMany_Twice ?is_TooMany_NoTie ?is_TooMany_TooMany ?is_TooMany_NoTree ?is_TooMany_BadTree ?is_TooMany_BadText ?is_TooMany_ValueError ?z_ValueError ?z_bool ?z_int ?z_isinstance ?z_len ?z_list ?z_max ?z_min ?z_range ?z_repr ?z_sorted ?z_zip ?v_MOST_POINTS
    (case h_c_BadPoint => k_is)
    (case h_c_BadSize => k_is)
    (case h_c_BadText => k_is)
    (case h_c_BadTree => k_is)
    (case h_c_JoinError => k_is)
    (case h_c_NoTie => k_is)
    (case h_c_NoTree => k_is)
    (case h_c_TooMany => k_is)
    (case h_c_Twice => k_is)
    (case h_c_Web => k_is)
    (case f_whole_within => k_is)
    (case l_whole_within => k_is)
    (case c_whole_within => k_is)
    (case k_whole_within => k_is)
    (case f_pairs => k_is)
    (case l_pairs => k_is)
    (case c_pairs => k_is)
    (case k_pairs => k_is)
    (case f_Web_init => k_is)
    (case i_Web_init => k_is)
    (case l_Web_init => k_is)
    (case c_Web_init => k_is)
    (case k_Web_init => k_is)
    (case f_Web_many => k_is)
    (case i_Web_many => k_is)
    (case l_Web_many => k_is)
    (case c_Web_many => k_is)
    (case k_Web_many => k_is)
    (case f_Web_has => k_is)
    (case i_Web_has => k_is)
    (case l_Web_has => k_is)
    (case c_Web_has => k_is)
    (case k_Web_has => k_is)
    (case f_Web_put => k_is)
    (case i_Web_put => k_is)
    (case l_Web_put => k_is)
    (case c_Web_put => k_is)
    (case k_Web_put => k_is)
    (case f_Web_take => k_is)
    (case i_Web_take => k_is)
    (case l_Web_take => k_is)
    (case c_Web_take => k_is)
    (case k_Web_take => k_is)
    (case f_Web_grow => k_is)
    (case i_Web_grow => k_is)
    (case l_Web_grow => k_is)
    (case c_Web_grow => k_is)
    (case k_Web_grow => k_is)
    (case f_Web_beside => k_is)
    (case i_Web_beside => k_is)
    (case l_Web_beside => k_is)
    (case c_Web_beside => k_is)
    (case k_Web_beside => k_is)
    (case f_Web_ties => k_is)
    (case i_Web_ties => k_is)
    (case l_Web_ties => k_is)
    (case c_Web_ties => k_is)
    (case k_Web_ties => k_is)
    (case f_Web_need_point => k_is)
    (case i_Web_need_point => k_is)
    (case l_Web_need_point => k_is)
    (case c_Web_need_point => k_is)
    (case k_Web_need_point => k_is)
    (case f_l_mixed => k_is)
    (case l_l_mixed => k_is)
    (case c_l_mixed => k_is)
    (case k_l_mixed => k_is)
    (case f_l_number => k_is)
    (case l_l_number => k_is)
    (case c_l_number => k_is)
    (case k_l_number => k_is)
    (case f_l_kind => k_is)
    (case l_l_kind => k_is)
    (case c_l_kind => k_is)
    (case k_l_kind => k_is)
    (case f_l_whole => k_is)
    (case l_l_whole => k_is)
    (case c_l_whole => k_is)
    (case k_l_whole => k_is)
    (case f_l_is_point => k_is)
    (case l_l_is_point => k_is)
    (case c_l_is_point => k_is)
    (case k_l_is_point => k_is)
    (case f_l_due => k_is)
    (case l_l_due => k_is)
    (case c_l_due => k_is)
    (case k_l_due => k_is)
    (case f_l_call => k_is)
    (case l_l_call => k_is)
    (case c_l_call => k_is)
    (case k_l_call => k_is)
    (case f_l_said => k_is)
    (case l_l_said => k_is)
    (case c_l_said => k_is)
    (case k_l_said => k_is)
    (case f_l_done => k_is)
    (case l_l_done => k_is)
    (case c_l_done => k_is)
    (case k_l_done => k_is)
    (case f_l_beside_refused => k_is)
    (case l_l_beside_refused => k_is)
    (case c_l_beside_refused => k_is)
    (case k_l_beside_refused => k_is)
    (case f_l_looked => k_is)
    (case l_l_looked => k_is)
    (case c_l_looked => k_is)
    (case k_l_looked => k_is)
    (case f_l_size_refused => k_is)
    (case l_l_size_refused => k_is)
    (case c_l_size_refused => k_is)
    (case k_l_size_refused => k_is)
    (case f_law => k_is)
    (case l_law => k_is)
    (case c_law => k_is)
    (case k_law => k_is)
    (case pg_Web => k_is)
    (case hd_Web => k_is)
    (case po_Web => k_is)
    (case sa_Web => k_is)
    (case mm_Web => k_is)
    (case kc_Web => k_is)
    (case n_Web__near => k_is)
    (case xBadSize => k_exc)
    (case kBadSize => k_is)
    (case bBadSize => k_is)
    (case tBadSize => k_is)
    (case xBadPoint => k_exc)
    (case kBadPoint => k_is)
    (case bBadPoint => k_is)
    (case tBadPoint => k_is)
    (case xTwice => k_exc)
    (case kTwice => k_is)
    (case bTwice => k_is)
    (case tTwice => k_is)
    (case xNoTie => k_exc)
    (case kNoTie => k_is)
    (case bNoTie => k_is)
    (case tNoTie => k_is)
    (case xTooMany => k_exc)
    (case kTooMany => k_is)
    (case bTooMany => k_is)
    (case tTooMany => k_is)
    (case hb_JoinError => k_is)
    (case hdd_JoinError => k_is)
    (case ht_JoinError => k_is)
    (case su_BadSize_JoinError => k_is)
    (case su_BadPoint_JoinError => k_is)
    (case su_Twice_JoinError => k_is)
    (case su_NoTie_JoinError => k_is)
    (case su_TooMany_JoinError => k_is)
    (case hn0 => k_is)
    (case ht0 => k_is)
    (case sd_BadSize => k_is)
    (case st_BadSize => k_is)
    (case ss_BadSize => k_is)
    (case sd_BadPoint => k_is)
    (case st_BadPoint => k_is)
    (case ss_BadPoint => k_is)
    (case sd_Twice => k_is)
    (case st_Twice => k_is)
    (case ss_Twice => k_is)
    (case sd_NoTie => k_is)
    (case st_NoTie => k_is)
    (case ss_NoTie => k_is)
    (case sd_TooMany => k_is)
    (case st_TooMany => k_is)
    (case ss_TooMany => k_is)
    (case sd_NoTree => k_is)
    (case st_NoTree => k_is)
    (case ss_NoTree => k_is)
    (case sd_BadTree => k_is)
    (case st_BadTree => k_is)
    (case ss_BadTree => k_is)
    (case sd_BadText => k_is)
    (case st_BadText => k_is)
    (case ss_BadText => k_is)
    (case eg_BadSize => k_is)
    (case ek_BadSize => k_is)
    (case ed_BadSize => k_is)
    (case ea_BadSize => k_is)
    (case em_BadSize => k_is)
    (case is_BadSize_BadSize => k_is)
    (case is_BadSize_BadPoint => k_is)
    (case is_BadSize_Twice => k_is)
    (case is_BadSize_NoTie => k_is)
    (case is_BadSize_TooMany => k_is)
    (case is_BadSize_NoTree => k_is)
    (case is_BadSize_BadTree => k_is)
    (case is_BadSize_BadText => k_is)
    (case is_BadSize_ValueError => k_is)
    (case eg_BadPoint => k_is)
    (case ek_BadPoint => k_is)
    (case ed_BadPoint => k_is)
    (case ea_BadPoint => k_is)
    (case em_BadPoint => k_is)
    (case is_BadPoint_BadSize => k_is)
    (case is_BadPoint_BadPoint => k_is)
    (case is_BadPoint_Twice => k_is)
    (case is_BadPoint_NoTie => k_is)
    (case is_BadPoint_TooMany => k_is)
    (case is_BadPoint_NoTree => k_is)
    (case is_BadPoint_BadTree => k_is)
    (case is_BadPoint_BadText => k_is)
    (case is_BadPoint_ValueError => k_is)
    (case eg_Twice => k_is)
    (case ek_Twice => k_is)
    (case ed_Twice => k_is)
    (case ea_Twice => k_is)
    (case em_Twice => k_is)
    (case is_Twice_BadSize => k_is)
    (case is_Twice_BadPoint => k_is)
    (case is_Twice_Twice => k_is)
    (case is_Twice_NoTie => k_is)
    (case is_Twice_TooMany => k_is)
    (case is_Twice_NoTree => k_is)
    (case is_Twice_BadTree => k_is)
    (case is_Twice_BadText => k_is)
    (case is_Twice_ValueError => k_is)
    (case eg_NoTie => k_is)
    (case ek_NoTie => k_is)
    (case ed_NoTie => k_is)
    (case ea_NoTie => k_is)
    (case em_NoTie => k_is)
    (case is_NoTie_BadSize => k_is)
    (case is_NoTie_BadPoint => k_is)
    (case is_NoTie_Twice => k_is)
    (case is_NoTie_NoTie => k_is)
    (case is_NoTie_TooMany => k_is)
    (case is_NoTie_NoTree => k_is)
    (case is_NoTie_BadTree => k_is)
    (case is_NoTie_BadText => k_is)
    (case is_NoTie_ValueError => k_is)
    (case eg_TooMany => k_is)
    (case ek_TooMany => k_is)
    (case ed_TooMany => k_is)
    (case ea_TooMany => k_is)
    (case em_TooMany => k_is)
    (case is_TooMany_BadSize => k_is)
    (case is_TooMany_BadPoint => k_is)
    (case is_TooMany_Twice => k_is)
    (case is_TooMany_NoTie => k_is)
    (case is_TooMany_TooMany => k_is)
    (case is_TooMany_NoTree => k_is)
    (case is_TooMany_BadTree => k_is)
    (case is_TooMany_BadText => k_is)
    (case is_TooMany_ValueError => k_is)
    (case z_ValueError => k_is)
    (case z_bool => k_is)
    (case z_int => k_is)
    (case z_isinstance => k_is)
    (case z_len => k_is)
    (case z_list => k_is)
    (case z_max => k_is)
    (case z_min => k_is)
    (case z_range => k_is)
    (case z_repr => k_is)
    (case z_sorted => k_is)
    (case z_zip => k_is)
    (case v_MOST_POINTS => k_is)
