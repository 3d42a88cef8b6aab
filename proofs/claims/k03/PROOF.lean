import PyProof.Rows.All
import Wide.All
import OpenK.AllK
import Wide.FinOn
import HandS.ForMost
import HandS.Exc
import HandS.TryOnly
import HandS.ExcOwn
import HandS.WordsExc
import HandS.Evl
import HandS.IsInst
import HandS.ExcIs
import HandS.DictTup
import HandS.SortInts
import HandS.SortRule
import HandS.Wide
import HandS.More
import HandS.Walk
import HandS.Conv
import HandS.TupSets
import HandS.Deep
import KE.SortKeyHeap
import HandS.SortKw
import HandS.List
import PyProof.Rows.RegFStrParts
import HandS.RaiseMore
import PySem.Challenge.RW_joinside_k03_trees_told
set_option Elab.async false
set_option maxRecDepth 100000
set_option maxHeartbeats 4000000
set_option linter.all false
namespace Jk
open PySem PySem.Spec PyProof.Rows L2

/-! ## an exception that is kept as a value behind its except suite -/
/-- an exception object of the class cls (own dict d) stands at a -/
def ExK (cls : Value) (d : Option Addr) (a : Addr) : HO := .ext fun h => ∃ (ob : Obj) (fv : Array Value), h.get? a = some ob ∧ Zc cls d ob ∧ ob.data = .fields fv
theorem exK_ok {P : Program} {w : World} {H : Hp} {h : Heap} {a : Addr} {cls : Value} {d : Option Addr} {ob : Obj} {fv : Array Value} (e : h.get? a = some ob) (z : Zc cls d ob) (dd : ob.data = .fields fv) : ObjOk P w H h a (ExK cls d a) :=
  ⟨⟨ob, fv, e, z, dd⟩, ⟨ob, e⟩, fun _ _ ⟨o1, v1, q1, r1⟩ kk => ⟨o1, v1, kk o1 q1, r1⟩⟩

section
variable {X : Cx} {pins : List (Addr × Obj)} {σ : L2.St} {H : Hp} {s : Shared}
/-- an untracked record of ours, new since the entry, is tracked from here on -/
theorem Inv.track {a : Addr} {ob : Obj} {o : HO} (I : Inv X pins σ H s) (ea : s.heap.get? a = some ob) (hn : H a = none) (new : X.s_0.heap.get? a = none) (hex : a ∉ X.ex)
    (nL : a ≠ X.env.locals) (nc : ∀ v, ob.data ≠ .cell v) (np : ∀ p ∈ X.pn ++ pins, p.1 ≠ a) (ok : ObjOk X.prog X.w (upd H a o) s.heap a o) : Inv X pins σ (upd H a o) s := by
  have neT : ∀ {b u}, H b = some u → b ≠ a := fun {b u} q z => by rw [z, hn] at q; cases q
  have neZ : ∀ {b u}, X.s_0.heap.get? b = some u → b ≠ a := fun {b u} q z => by rw [z, new] at q; cases q
  have old := I.base
  refine ⟨I.ok, I.os, I.bare, ⟨old.keep, old.slot, fun b u e1 e2 e3 => ?_, old.there, fun b xs e1 => ?_, fun b u v e1 => ?_, fun b ps e1 => ?_⟩, I.loc, I.cell, ?_, fun x c e1 => ?_, fun p hp => ?_, fun b u e1 => ?_, I.len⟩
  · rw [upd_ne (neZ e1)]; exact old.free b u e1 e2 e3
  · have q := old.tups b xs e1
    rw [upd_ne (neT q)]; exact q
  · have q := old.frzs b u v e1
    rw [upd_ne (neT q)]; exact q
  · obtain ⟨m, q⟩ := old.tbls b ps e1
    exact ⟨m, by rw [upd_ne (neT q)]; exact q⟩
  · rw [upd_ne (Ne.symm nL)]; exact I.free
  · have hc : c ≠ a := fun z => by
      obtain ⟨v, o', q, hd⟩ := I.cell x c e1
      rw [z, ea] at q; cases q
      exact nc v hd
    rw [upd_ne hc]; exact I.freeC x c e1
  · obtain ⟨p1, p2, p3⟩ := I.pin p hp
    exact ⟨p1, by rw [upd_ne (np p hp)]; exact p2, p3⟩
  · by_cases hb : b = a
    · subst hb
      rw [upd_same] at e1; cases e1
      exact ok
    · rw [upd_ne hb] at e1
      refine (I.hok b u e1).stay (fun c v _ q => q) (fun c q => ?_) fun c xs q => ?_
      · rw [upd_ne (neT q)]; exact q
      · rw [upd_ne (neT q)]; exact q
end

/-- what 'except x as n: suite' wishes, where the exception stays a value behind the suite: slot i is n's -/
def wKeep (K : PySem.W.Frag) (c : Value) (i : Nat) (ts : Addr → Value → Option Addr → TS) (Wout : WX) (D : Ends) : WX := fun cls d σ H =>
  ∃ b, PySem.W.exmOne K cls c = some b ∧
    (b = true → ∀ a, H a = none → ts a cls d { nx := fun σ' H' => H' a = none → D.nx (σ'.set i none) (upd H' a (ExK cls d a)), rt := fun _ _ => False, bk := fun _ _ => False, ct := fun _ _ => False } (σ.set i (some (.ref a))) H) ∧
    (b = false → Wout cls d σ H)

section
variable {X : Cx} {x n : Str} {c : Value} {i : Nat} {body suite : List Stmt} {b₀ : Stmt} {np pos pos' : Pos} {tb : WX → TS} {ts : Addr → Value → Option Addr → TS} {Wout : WX}
theorem ps_try_keep (hst : X.stack = X.env :: X.outer) (hfr : X.env.frame = some X.env.locals) (hex : X.ex = []) (hpn : X.pn = []) (hnd : X.N.Nodup) (hi : X.N[i]? = some n) (hln : X.env.kindOf n = some .local) (hc : Names X x c) (tk : Takes X Wout)
    (hb : ∀ (W : WX) (pn : List (Addr × Obj)) (xe : Value → Shared → Prop), Takes (X.tr pn xe) W → PassesOwn (model X.prog X.w) X.A X.env xe → PSs (X.tr pn xe) body (tb W))
    (hsu : ∀ (a : Addr) (oe : Obj) (cls : Value) (d : Option Addr) (pn : List (Addr × Obj)), Zc cls d oe → (∃ vs, oe.data = .fields vs) → PSs (X.suite a ((a, oe) :: pn)) (b₀ :: suite) (ts a cls d)) :
    PS X (.Try body [.ExceptHandler (some (.Name x np)) (some n) (b₀ :: suite) pos'] [] [] pos) (fun D σ H => tb (wKeep X.K c i ts Wout D) D σ H) := by
  refine ⟨fun pins s σ H D I h => ?_⟩
  have good := I.ok
  have hA : X.A.frames = some (X.env :: X.outer) := by rw [good.frames, hst]
  refine wpAny_Try_except ?_
  refine wpAny_mono ((hb (wKeep X.K c i ts Wout D) (X.pn ++ pins) (fun e s₁ => wpAny (model X.prog X.w) X.A (noteFrame e X.env) (fun _ s₂ => wpAny (model X.prog X.w) X.A (setFlight e none) (fun _ s₃ =>
    wpAny (model X.prog X.w) X.A (handleBy e X.env [.ExceptHandler (some (.Name x np)) (some n) (b₀ :: suite) pos']) (SP X pins D) X.xe s₃) X.xe s₂) X.xe s₁) (fun u s' xx => ?_) PassesOwn.looking).run [] s σ H D (I.toTry _) h) (fun f s1 hsp => ?_) (fun e s1 he => he)
  · obtain ⟨a, B, sI, pin1, σ1, H1, cls, d, rfl, J0, nb, up, sky, na, os, ag, b, hbx, hyes, hno⟩ := xx
    have J : Inv X pins σ1 H1 sI := J0.ofTry good
    have sk : Sky B (X.env :: X.outer) a (Zc cls d) X.env.locals s'.heap := by rw [← hst]; exact sky
    -- the exception is none of the entry's objects
    have sIa : sI.heap.get? a = none ∨ a ∈ frs X.stack := by
      cases q : sI.heap.get? a with
      | none => exact .inl rfl
      | some o =>
        by_cases hm : a ∈ frs X.stack
        · exact .inr hm
        · have z := nb a o q hm
          have Ba : B.get? a = none := by
            rcases sk with ⟨_, r, _⟩ | ⟨_, r, _⟩ | ⟨_, r, _⟩ <;> exact r
          rw [Ba] at z; cases z
    show wpAny (model X.prog X.w) X.A (noteFrame (.ref a) X.env) _ _ _
    refine Sky.land Zc.steady hA hfr sk fun h3 fl3 up3 => ?_
    have J3 : Inv X pins σ1 H1 { s' with heap := h3 } := J.landed nb fl3.1 (up.trans up3) os ag
    obtain ⟨oe3, vs3, he3, hz3, hd3⟩ := fl3.there
    have notFr : ∀ {g : Heap} {o : Obj} {vs : Array Value}, g.FunFrames B (X.env :: X.outer) → g.get? a = some o → o.data = .fields vs → a ∉ frs (X.env :: X.outer) := fun {g o vs} ff e dd hm => by
      obtain ⟨_, o', e', hnf⟩ := ff.mem hm
      rw [e] at e'; cases e'
      exact hnf _ dd
    have nfr := notFr fl3.2.2.1 he3 hd3
    have sIn : sI.heap.get? a = none := sIa.resolve_right (by rw [hst]; exact nfr)
    have new0 : X.s_0.heap.get? a = none := by
      cases q : X.s_0.heap.get? a with
      | none => rfl
      | some o =>
        obtain ⟨o', q'⟩ := J.base.there a o q (by rw [hex]; exact fun z => nomatch z)
        rw [sIn] at q'; cases q'
    have nL : a ≠ X.env.locals := fun z => nfr (List.mem_filterMap.mpr ⟨X.env, List.mem_cons_self, by rw [hfr, z]⟩)
    have nF : a ∉ X.fs := fun hm => by
      obtain ⟨e, he, q⟩ := List.mem_filterMap.mp hm
      exact nfr (List.mem_filterMap.mpr ⟨e, List.mem_cons_of_mem _ he, q⟩)
    have npin : ∀ p ∈ X.pn ++ pins, p.1 ≠ a := fun p hp z => by
      have q := (J.pin p hp).1
      rw [z, sIn] at q; cases q
    have S3 := J3.suite he3 hd3 na nL nF
    refine wpAny_handleBy_cons (codeAny_handlers_test ?_) (by intro q; cases q)
    have LT : PySem.W.Looks (model X.prog X.w) h3 (typeOf (.ref a)) cls := fun A Q E s k q => wpAny_typeOf_ref (k _ _ he3) (by rw [hz3.1]; exact q)
    have LM := PySem.W.exm_one (M := model X.prog X.w) (J3.kIn) LT hbx
    have test : ∀ {Q : Value → Shared → Prop} {E : Value → Shared → Prop}, Q c { s' with heap := h3 } → wpAny (model X.prog X.w) (X.A.mark (some (.ref a))) (eval (.Name x np) X.env) Q E { s' with heap := h3 } := fun {Q E} q => by
      obtain ⟨hg, hdbg, hm | ⟨hm, hv, hnn⟩⟩ := hc
      · exact ld_glob (X := X.suite a ((a, oe3) :: (X.pn ++ pins))) S3 hg hm q hdbg
      · exact ld_blt (X := X.suite a ((a, oe3) :: (X.pn ++ pins))) S3 hg hm hv q hnn hdbg
    refine test (LM.here ?_)
    cases b with
    | true =>
      refine codeAny_handlers_suite_as ?_
      refine HandSPX.lands_againZ fl3 fun h4 fl4 up4 => ?_
      have J4 : Inv X pins σ1 H1 { s' with heap := h4 } := J.landed nb fl4.1 ((up.trans up3).trans up4) os ag
      obtain ⟨oe4, vs4, he4, hz4, hd4⟩ := fl4.there
      have S4 := J4.suite he4 hd4 na nL nF
      refine store_ok (X := X.suite a ((a, oe4) :: (X.pn ++ pins))) (v := .ref a) S4 hnd hi (.inl hln) rfl (fun s5 S5 => ?_) (.inr hln)
      refine wpAny_mono ((hsu a oe4 cls d (X.pn ++ pins) hz4 ⟨_, hd4⟩).run [] s5 _ H1 _ S5 (hyes rfl a na)) (fun f s6 hsp => ?_) (fun _ _ z => False.elim z)
      cases f with
      | next =>
        obtain ⟨σ6, H6, S6, q6⟩ := hsp
        have pa := S6.pin (a, oe4) (List.mem_append_left _ List.mem_cons_self)
        have h6a : H6 a = none := pa.2.1
        have T6 : Inv X pins σ6 (upd H6 a (ExK cls d a)) s6 := Inv.track (S6.unsuite good) pa.1 h6a new0 (by rw [hex]; exact fun z => nomatch z) nL (fun v z => by rw [hd4] at z; cases z) npin (exK_ok pa.1 hz4 hd4)
        exact gone_ok T6 hnd hi hln fun s7 J7 => ⟨_, _, J7, q6 h6a⟩
      | brk =>
        obtain ⟨_, _, _, q6⟩ := hsp
        exact q6.elim
      | cont =>
        obtain ⟨_, _, _, q6⟩ := hsp
        exact q6.elim
      | ret u =>
        obtain ⟨_, _, _, _, _, q6⟩ := hsp
        exact q6.elim
    | false =>
      show wpAny _ X.A (handleBy (.ref a) X.env []) _ _ _
      refine wpAny_handleBy_nil ?_
      obtain ⟨k1, k2, k3, oe, vs, T, oT, ts', he, hz, hd, h1, hr⟩ := id fl3
      unfold PySem.passOn
      refine wpAny_bind (wpAny_field he hd h1 ?_)
      rw [if_neg (show ¬ ((Value.ref T == Value.none) = true) from by simp)]
      have fin : wpAny (model X.prog X.w) X.A (setFlight (.ref a) X.env.frame) (fun _ s4 => wpAny (model X.prog X.w) X.A (throw (.ref a) : Sem Flow) (SP X pins D) X.xe s4) X.xe { s' with heap := h3 } := by
        rw [hfr]
        refine HandSPX.setFlight_upZ fl3 fun h4 hh4 up4 => wpAny_throw (tk _ _ ?_)
        exact ⟨a, B, sI, pins, σ1, H1, cls, d, rfl, J, nb, (up.trans up3).trans up4, .inr (.inr (by rw [hst]; exact hh4)), na, os, ag, hno rfl⟩
      first
        | exact wpAny_bind (wpAny_pure (wpAny_bind fin))
        | exact wpAny_bind fin
  · cases f with
    | next =>
      obtain ⟨σ', H', J', q⟩ := hsp
      exact wpAny_execs_nil ⟨σ', H', J'.ofTry good, q⟩
    | brk =>
      obtain ⟨σ', H', J', q⟩ := hsp
      exact ⟨σ', H', J'.ofTry good, q⟩
    | cont =>
      obtain ⟨σ', H', J', q⟩ := hsp
      exact ⟨σ', H', J'.ofTry good, q⟩
    | ret u =>
      obtain ⟨v, σ', H', J', r, q⟩ := hsp
      exact ⟨v, σ', H', J'.ofTry good, r, q⟩
end

/-! ## isinstance of such a value -/
def rIsX (K : PySem.W.Frag) : List V → Hp → VK → Prop := fun xs H Q => ∃ (a D : Addr) (c : V) (cv : Value) (b : Bool), xs = [.ref a, c] ∧ H a = some (ExK (.ref D) none a) ∧ ExcC K D ∧ ClsV c cv ∧ PySem.W.kitOne K (.ref D) cv = some b ∧ Q (.bl b) H
theorem call_isX {X : Cx} : CallR X (.builtin "isinstance") (rIsX X.K) := by
  intro pins s σ H xs us Q I r h
  obtain ⟨a, D, c, cv, b, rfl, ha, C, hcv, e, q⟩ := h
  obtain ⟨u1, u2, rfl, r1, r2⟩ := vals2 r
  have e2 := hcv.eq r2
  subst e2
  cases r1
  obtain ⟨⟨ob, fv, hget, hz, hv⟩, _⟩ := I.hok a _ ha
  have J : PySem.W.InstAt s.heap a ob D none := by
    obtain ⟨oc, od, oda, osl⟩ := ob
    obtain ⟨h1, h2⟩ := hz
    dsimp only at h1 h2 hv
    subst h1 h2 hv
    exact ⟨hget, rfl, rfl, trivial⟩
  exact PySem.W.kia_one (PySem.W.handS_kitx_exc C.hg C.hk C.hs C.hd C.ha C.hn C.ht C.hm) I.kIn J e (fun z => nomatch z) fun tk => ⟨.bl b, H, I.kept (t' := tk) fun _ _ z => z, rfl, q⟩
end Jk

namespace Jk
open PySem PySem.Spec PyProof.Rows L2

/-! ## repr of data, where no repr is under way -/
theorem call_reprD {X : Cx} (hg : X.A.guards = some []) (hu : X.A.units + 64 < cLine) : CallR X (.builtin "repr") (fun xs H Q => ∃ (a : Addr) (d : PyData), xs = [.ref a] ∧ Dp X.K H (.ref a) d ∧ d.showable = true ∧ d.hasDict = false ∧ d.depth < 63 ∧ d.shown.length ≤ sizeLine ∧ Q (.str d.shown) H) := by
  intro pins s σ H xs us Q I r h
  obtain ⟨a, d, rfl, hd, h1, h2, h3, h4, q⟩ := h
  obtain ⟨u, rfl, ru⟩ := vals1 r
  obtain ⟨as, rd⟩ := Dp.reads I d _ _ hd ru
  cases ru
  exact PySem.repr_of_reads' rd h1 (fun z => absurd z (by rw [h2]; decide)) hg (by omega) (fun _ _ z => z) (fun h' u tk k => ⟨.str d.shown, H, I.kept (t' := tk) k, ⟨u, rfl⟩, q⟩) h4

/-! ## a def that is called where no repr is under way -/
structure FnG (P : Program) (w : World) (K : PySem.W.Frag) (mg : Str → Option Value) (base : Heap) (k : Nat) (f : Addr) (fd : FuncData) (ps : List Str) (sp : Sp) : Prop where
  many : ∀ vs H Q E, sp vs H Q E → vs.length = ps.length
  runs : ∀ (A : Around) (outer : List Env) (s : Shared) (H : Hp) (args : Args) (us : List Value) (vs : List V) (Q : VK) (E : XK), A.guards = some [] → Room k A → Env0 P w K mg base A outer s H → BindsTo s fd args (ps.zip us) →
    Vals vs us → sp vs H Q E → codeAny (model P w) A (.call (.ref f) args) (CR CX0 outer P w H s Q E) s
theorem guards_deeper {A : Around} {env : Env} (h : A.guards = some []) : (A.deeper env).guards = some [] := h
section
variable {P : Program} {w : World} {K : PySem.W.Frag} {mg : Str → Option Value} {base : Heap}
theorem _root_.L2.Fun.okG {x qual : Str} {st : Stmt} {f : Addr} {fd : FuncData} {N ps : List Str} {k : Nat} {sp : Sp} (F : Fun K x qual st f fd) (S : FnScope N ps (defScope st)) (many : ∀ vs H Q E, sp vs H Q E → vs.length = ps.length)
    (hb : ∀ (cdv : Value) (A : Around) (outer : List Env) (s : Shared) (H : Hp) (vs : List V) (Q : VK) (E : XK), A.guards = some [] → Room k (A.deeper (envOfC qual (defScope st) s.heap.objs.size f cdv)) → sp vs H Q E →
      ∃ t, PSs (cxOf CX0 P w K mg base N qual (defScope st) f cdv A outer s H E).nox (defBody st) t ∧ t { nx := fun _ H' => Q .non H', rt := Q } (L2.start N vs) H) : FnG P w K mg base (k + 1) f fd ps sp := by
  obtain ⟨oc, od, kV, doc, pm, an, cdv, ct, osl, rfl, lk, hcd⟩ := F.ex
  refine ⟨many, fun A outer s H args us vs Q E hg hr e0 hbi r hsp => ?_⟩
  have one : ∀ (sp1 : Sp), sp1 = (fun vs' H' Q' E' => vs' = vs ∧ H' = H ∧ Q' = Q ∧ E' = E) → True := fun _ _ => trivial
  have hl := many _ _ _ _ hsp
  have KX : K.In s.heap := e0.mod.kin.keeps fun b o e => (e0.bs b o e).1
  have lim : s.heap.NoLimit := e0.mod.nolimit.keeps fun b o e => (e0.bs b o e).1
  have kinds : ∀ y ∈ ps.zip us, (defScope st).names.lookup y.1 = some .local ∨ ((defScope st).names.lookup y.1 = some .cell ∧ ((cellsFrom (s.heap.objs.size + 1) (defScope st).names []).lookup y.1).isSome = true) := fun ⟨n, v⟩ hy => by
    rcases S.par n (List.of_mem_zip hy).1 with q | q
    · exact .inl q
    · exact .inr ⟨q, PySem.W.cellsFrom_some _ _ _ (.inl q)⟩
  refine codeAny_call_function hr.depth (KX _ _ lk) rfl S.co S.gen rfl (PySem.W.codeRec_of KX hcd) (hbi _ _ _ _ ?_)
  refine wpAny_newFunctionEnv_cells S.kind kinds fun env he s1 x => ?_
  subst he
  refine ⟨lim.keeps x.toInCall.keep, codeAny_func ?_⟩
  obtain ⟨t, ht, hq⟩ := hb cdv A outer s H vs Q E hg (hr.deeper _) hsp
  have I : Inv (cxOf CX0 P w K mg base N qual (defScope st) f cdv A outer s H E) [] (L2.start N vs) H s1 := inv_start S hr.hd e0 hl r x
  refine wpAny_mono (ht.nox.run [] s1 (L2.start N vs) H _ I hq) (fun fl s' hs => ?_) fun e s' hs => hs
  have fin : ∀ {σ' : L2.St} {H' : Hp} {v : V} {u : Value}, Inv (cxOf CX0 P w K mg base N qual (defScope st) f cdv A outer s H E) [] σ' H' s' → RelV v u → Q v H' → CE outer P w H s Q u s' :=
    fun {σ' H' v u} J rv q => ⟨v, H', J.os, J.bare, J.base, J.hok, rv, q⟩
  cases fl with
  | ret u =>
    obtain ⟨v, σ', H', J, rv, q⟩ := hs
    exact fin J rv q
  | next =>
    obtain ⟨σ', H', J, q⟩ := hs
    exact fin (v := V.non) (u := Value.none) J rfl q
  | brk =>
    obtain ⟨_, _, _, q⟩ := hs
    exact False.elim q
  | cont =>
    obtain ⟨_, _, _, q⟩ := hs
    exact False.elim q
end
section
variable {X : Cx} {k : Nat} {f : Addr} {fd : FuncData} {ps : List Str} {sp : Sp} {x : Str} {p pos : Pos} {e : Expr} {es : List Expr} {t : TA}
/-- f(..) of such a def -/
theorem pe_callG (F : FnG X.prog X.w X.K X.mg X.base k f fd ps sp) (hg0 : X.A.guards = some []) (hr : Room k X.A) (hg : Gl X x) (hm : X.mg x = some (.ref f)) (hk : PySem.W.keepIn X.K (.ref f) = true) (hb : Binds X.K fd ps [])
    (ha : PA X (e :: es) t) (hdb : (x == ("__debug__" : Str)) = false := by decide) (he : starEach (e :: es) X.env = (false, eval e X.env) :: starEach es X.env := by rfl) (hpl : (backTo pos (starEach es X.env)).any (·.1) = false := by rfl) :
    PE X (.Call (.Name x p) (e :: es) [] pos) (tCall sp [] E0 t) := by
  refine ⟨fun pins s σ H Q I h => ?_⟩
  refine wpAny_Call_Name_kw (ld_glob I hg hm ?_ hdb)
  refine PySem.W.callWith_K (h₀ := X.base) I.ok.mod.kin hk (thn (ha.run pos pins s σ H _ I h) fun us s1 ⟨vs, H1, I1, r, q⟩ => ⟨I1.kIn, ?_⟩) he hpl
  have q : sp vs H1 Q E0 := by have z := q; simp only [List.append_nil] at z; exact z
  have hl : (us ++ []).length = ps.length := by rw [List.append_nil, ← r.length]; exact F.many _ _ _ _ q
  have bt := hb s1 us I1.kIn hl
  rw [List.append_nil] at bt
  refine wpAny_call (codeAny_mono (F.runs X.A X.stack s1 H1 ⟨us, []⟩ us vs Q E0 hg0 hr I1.env0 bt r q) fun r s' hq => ?_)
  cases r with
  | error e => exact False.elim hq
  | ok fl =>
    cases fl with
    | ret u => exact I1.after hq
    | next => exact False.elim hq
    | brk => exact False.elim hq
    | cont => exact False.elim hq
end

/-! ## the law's own call, where its def is one of these -/
section
variable {P : Program} {w : World} {K : PySem.W.Frag} {mg mb : Str → Option Value} {k : Nat} {fa a : Addr} {fd : FuncData} {x : Str} {sp : Sp} {z : Shared} {vs : List Value} {ns : List Int}
theorem law_callG (kin : K.In z.heap) (gl : z.heap.Ns mainGlobals mg) (bl : z.heap.Ns builtinsNs mb) (bb : ∀ y : Str, y ≠ "__name__" → mb y = bootBuiltins y) (lim : z.heap.NoLimit) (gens : z.gens = #[])
    (there : z.heap.get? a = some { cls := .type "list", data := .seq vs.toArray }) (hint : IntsAre vs ns) (few : ns.length ≤ sizeLine) (room : Room k callerA)
    (F : ∀ base : Heap, K.In base → base.Ns mainGlobals mg → FnG P w K mg base k fa fd [x] sp) (bind : ∀ (s : Shared) (u : Value), BindsTo s fd ⟨[u], []⟩ [(x, u)])
    (asked : ∀ H : Hp, Only H → SqL K H a (ns.map V.int) → sp [.ref a] H (fun v _ => v = .bl true) fun _ _ _ => False) :
    codeAny (model P w) callerA (.call (.ref fa) ⟨[.ref a], []⟩) (fun r s' => r = .ok (.ret (.bool true)) ∧ OldK z.heap s'.heap ∧ s'.os = z.os ∧ AllBare s'.gens) z := by
  have rel := vals_ints hint
  have len := hint.length
  have core : ∀ G : Hp, Only G → SqL K G a (ns.map V.int) → HOk P w G z.heap → (∀ b, G b ≠ none → b = a) → (G a ≠ none → K.lookup a = none) →
      codeAny (model P w) callerA (.call (.ref fa) ⟨[.ref a], []⟩) (fun r s' => r = .ok (.ret (.bool true)) ∧ OldK z.heap s'.heap ∧ s'.os = z.os ∧ AllBare s'.gens) z := by
    intro G only sql gok onlyA noK
    have dictFree : ∀ {b : Addr} {u : Obj} {es : Array DictEntry} {ep : Nat}, z.heap.get? b = some u → u.data = .dict es ep → G b = none := fun {b u es ep} e1 e2 => by
      cases q : G b with
      | none => rfl
      | some v =>
        obtain rfl : b = a := onlyA b (by rw [q]; simp)
        rw [there] at e1; cases e1
        have e3 : Data.seq vs.toArray _ = Data.dict es ep := e2
        cases e3
    have nsHid : ∀ {b : Addr} {m : Str → Option Value}, z.heap.Ns b m → (hidT z.heap G).Ns b m := fun {b m} ⟨u, es, ep, e1, e2, e3⟩ => ⟨u, es, ep, hidT_get e1 (dictFree e1 e2), e2, e3⟩
    have kinHid : K.In (hidT z.heap G) := fun b u e1 => hidT_get (kin b u e1) (by
      cases q : G b with
      | none => rfl
      | some v =>
        obtain rfl : b = a := onlyA b (by rw [q]; simp)
        rw [noK (by rw [q]; simp)] at e1; cases e1)
    have modul : Mod K mg (hidT z.heap G) := ⟨kinHid, nsHid gl, ⟨mb, nsHid bl, bb⟩, let ⟨mc, l1, l2⟩ := lim; ⟨mc, nsHid l1, l2⟩⟩
    have env0 : Env0 P w K mg (hidT z.heap G) callerA [] z G := ⟨rfl, modul, fun b u e1 => of_hidT e1, Nat.le_of_eq (hidT_size _ _), trivial, fun b hb => absurd (show b ∈ ([] : List Addr) from hb) (by simp), gok, .of_eq gens⟩
    refine codeAny_mono ((F _ kinHid (nsHid gl)).runs callerA [] z G ⟨[.ref a], []⟩ [.ref a] [.ref a] _ _ rfl room env0 (bind z (.ref a)) (.cons rfl .nil) (asked G only sql)) fun r s' hh => ?_
    cases r with
    | error e => exact False.elim hh
    | ok fl =>
      cases fl with
      | next => exact False.elim hh
      | brk => exact False.elim hh
      | cont => exact False.elim hh
      | ret u =>
        obtain ⟨v, G', os1, bare1, un1, gok', rv, qv⟩ := hh
        obtain rfl : v = .bl true := qv
        obtain rfl : u = Value.bool true := rv
        refine ⟨rfl, OldK.of_keep fun b u e1 => ?_, os1, bare1⟩
        cases q : G b with
        | none => exact un1.keep b u e1 q (by intro y; exact absurd (show b ∈ ([] : List Addr) from y) (by simp)) (by simp)
        | some v =>
          rcases only b with y | ⟨ob, xs, y⟩
          · rw [q] at y; cases y
          · obtain ⟨g1, _⟩ := gok b _ y
            obtain ⟨g2, _⟩ := gok' b _ (un1.frzs b ob _ y)
            rw [e1] at g1; cases g1
            exact g2
  cases hk : K.lookup a with
  | some u =>
    have e1 := kin a u hk
    rw [there] at e1
    cases e1
    exact core (fun _ => none) (fun _ => .inl rfl) (.inr ⟨_, vs.toArray, _, hk, rfl, rfl, rfl, by rw [List.size_toArray, len]; exact few, by simpa using rel⟩) (fun b v y => nomatch (show (none : Option HO) = some v from y)) (fun b y => absurd rfl y) fun y => absurd rfl y
  | none =>
    refine core (fun b => if b = a then some (.frz { cls := .type "list", data := .seq vs.toArray } (.lst (ns.map V.int))) else none) (fun b => ?_) (.inl (.inr ⟨{ cls := .type "list", data := .seq vs.toArray }, if_pos rfl⟩)) (fun b v y => ?_) (fun b y => ?_) fun _ => hk
    · by_cases hb : b = a
      · exact .inr ⟨_, _, if_pos hb⟩
      · exact .inl (if_neg hb)
    · by_cases hb : b = a
      · have y' := (if_pos hb).symm.trans y
        cases y'
        subst hb
        exact ⟨there, by rw [List.length_map]; exact few, vs, _, rel, there⟩
      · have y' := (if_neg hb).symm.trans y
        cases y'
    · by_cases hb : b = a
      · exact hb
      · exact absurd (if_neg hb) y
end
theorem walk_ofG {l : PySem.W.OpenLaw} {n k : Nat} {q : Program} {loose : List Str} {XP : (Str → Option Value) → Heap → Prop} {YP : World → Heap → Prop} {d : DefRec} {K : Params → PySem.W.Frag} {sp : PySem.W.Frag → Sp} {x : Str}
    (most : l.most = some n) (few : n ≤ sizeLine) (nodef : d.params.defaults = []) (room : Room k callerA) (hY : ∀ (w : World) (h : Heap), YP w h → (K w.params).In h)
    (F : ∀ (w : World) (mg : Str → Option Value) (fa : Addr) (h : Heap), (K w.params).In h → h.Ns mainGlobals mg → mg d.name = some (.ref fa) →
      ∃ fd : FuncData, (∀ (s : Shared) (u : Value), BindsTo s fd ⟨[u], []⟩ [(x, u)]) ∧ ∀ base : Heap, (K w.params).In base → base.Ns mainGlobals mg → FnG l.prog w (K w.params) mg base k fa fd [x] (sp (K w.params)))
    (asked : ∀ (K : PySem.W.Frag) (H : Hp) (a : Addr) (ns : List Int), ns.length ≤ n → Only H → SqL K H a (ns.map V.int) → sp K [.ref a] H (fun v _ => v = .bl true) fun _ _ _ => False) :
    PySem.W.WalkO q loose XP YP l.row.toRowW d [] (fun f vs => PySem.call f vs) := by
  refine Att.attach_call most nodef fun w s₀ s₁ mg mb fa o pm cd doc a vs ns G Y ho hd hcd hmg hobj hints hlen hg => ?_
  obtain ⟨fd, b1, b2⟩ := F w mg fa _ (hY w _ Y) G.T.g hmg
  exact law_callG (hY w _ Y) G.T.g G.T.b G.T.builtins G.T.nolimit hg hobj hints (Nat.le_trans hlen few) room b2 b1 fun H hO hS => asked (K w.params) H a ns hlen hO hS

/-! ## methods and new objects whose refusal is wished for at the caller's slots -/
section
variable {X : Cx} {CX : CXT} {k : Nat} {f C : Addr} {fd : FuncData} {ps : List Str} {sp : Sp} {E : L2.St → XK} {x m : Str} {p pos apos : Pos} {e o : Expr} {es : List Expr} {ta : TE} {t : TA}
def jMethS (C : Addr) (m : Str) (sp : Sp) (E : L2.St → XK) (ta : TE) (t : TA) : TE := fun σ H Q => ta σ H fun x H1 => ∃ a dx fs, x = .ref a ∧ H1 a = some (.ins C dx fs) ∧ fs.lookup m = none ∧ t σ H1 fun vs H2 => sp (x :: vs) H2 Q (E σ)
theorem pe_methJ {pl : Sem Bool} (ho : PE X o ta) (cls : Cls X.K C) (met : Meth X.K C m f) (F : FnOk X.prog X.w X.K X.mg X.base CX k f fd ps sp) (room : Room k X.A) (bnd : L2.Binds X.K fd ps []) (hx : ∀ σ, PassesAt CX X σ (E σ)) (ha : PA X (e :: es) t)
    (h1 : starEach (e :: es) X.env = (false, eval e X.env) :: starEach es X.env := by rfl) (h2 : (backTo pos (starEach es X.env)).any (·.1) = false := by rfl)
    (h3 : eval (.Call (.Attribute o m apos) (e :: es) [] pos) X.env = (do
      let ov ← eval o X.env
      standAt apos.atName
      let (f, first) ← holding [ov] (getMethod ov m pl)
      callWith pos f first (backTo pos (starEach (e :: es) X.env)) (backToKw pos (keywordEach [] X.env))) := by rfl) :
    PE X (.Call (.Attribute o m apos) (e :: es) [] pos) (jMethS C m sp E ta t) := by
  refine ⟨fun pins s σ H Q I q => PySem.W.methodCall_KW (pl := pl) (thn (ho.run pins s σ H _ I q) fun u s1 ⟨y, H1, I1, ry, a, dx, fs, ey, at1, nof, q1⟩ => ?_) h3⟩
  subst ey
  obtain rfl : u = Value.ref a := ry
  refine getmeth_ok I1 at1 cls met nof (PySem.W.callWith_K (first := [.ref a]) (h₀ := X.base) I.ok.mod.kin met.kp (thn (ha.run pos pins s1 σ H1 _ I1 q1) fun us s2 ⟨vs, H2, I2, rv, q2⟩ => ⟨I2.kIn, ?_⟩) h1 h2)
  exact run_fnS (us := .ref a :: us) (vs := .ref a :: vs) F room bnd (hx σ) I2 (.cons rfl rv) q2
def jMakeS (C : Addr) (sp : Sp) (E : L2.St → XK) (t : TA) : TE := fun σ H Q => t σ H fun vs H1 => ∀ x dx, H1 x = none → H1 dx = none → dx ≠ x →
  sp (.ref x :: vs) (upd (upd H1 dx (.own x)) x (.ins C dx [])) (fun v H2 => v = .non ∧ Q (.ref x) H2) (E σ)
theorem pe_makeJ (M : Mk X.K C f) (F : FnOk X.prog X.w X.K X.mg X.base CX k f fd ps sp) (room : Room (k + 1) X.A) (hg : Gl X x) (hm : X.mg x = some (.ref C)) (bnd : L2.Binds X.K fd ps []) (hx : ∀ σ, PassesAt CX X σ (E σ))
    (ha : PA X (e :: es) t) (hdb : (x == ("__debug__" : Str)) = false := by decide) (h1 : starEach (e :: es) X.env = (false, eval e X.env) :: starEach es X.env := by rfl) (h2 : (backTo pos (starEach es X.env)).any (·.1) = false := by rfl) :
    PE X (.Call (.Name x p) (e :: es) [] pos) (jMakeS C sp E t) := by
  refine ⟨fun pins s σ H Q I q => wpAny_Call_Name_kw (ld_glob I hg hm ?_ hdb)⟩
  refine PySem.W.callWith_K (h₀ := X.base) I.ok.mod.kin M.kp (thn (ha.run pos pins s σ H _ I q) fun us s1 ⟨vs, H1, I1, r, q1⟩ => ⟨I1.kIn, ?_⟩) h1 h2
  show wpAny _ _ (call (.ref C) us) _ _ s1
  have hq := q1 (s1.heap.objs.size + 1) s1.heap.objs.size (I1.hok.fresh (Nat.le_succ _)) (I1.hok.fresh (Nat.le_refl _)) (Nat.ne_of_lt (Nat.lt_succ_self _))
  have J := Inv.made (C := C) I1
  have rr : Vals (V.ref (s1.heap.objs.size + 1) :: vs) (Value.ref (s1.heap.objs.size + 1) :: us) := .cons rfl r
  have hl : (Value.ref (s1.heap.objs.size + 1) :: us ++ []).length = ps.length := by
    rw [List.append_nil, ← rr.length]
    exact F.len _ _ _ _ hq
  have bt := bnd _ (Value.ref (s1.heap.objs.size + 1) :: us) J.kIn hl
  rw [List.append_nil] at bt
  refine wpAny_call (make_map (f := f) I1.kIn M.makes M.init (beq_iff_eq.mp M.fn) (codeAny_mono (F.run _ X.stack _ _ ⟨Value.ref (s1.heap.objs.size + 1) :: us, []⟩ (Value.ref (s1.heap.objs.size + 1) :: us) _ _ (E σ) (room.make C us []) (J.env0.make C us []) bt rr hq) fun r s' hq' => ?_))
  cases r with
  | error e => exact hx σ pins _ _ e s' J hq'
  | ok fl =>
    cases fl with
    | ret u =>
      obtain ⟨v, H', I3, rv, ev, q3⟩ := J.after hq'
      subst ev
      exact ⟨rv, ⟨V.ref (s1.heap.objs.size + 1), H', I3, rfl, q3⟩⟩
    | next => exact False.elim hq'
    | brk => exact False.elim hq'
    | cont => exact False.elim hq'
end
end Jk

namespace Jk
open PySem PySem.Spec PyProof.Rows L2

/-! ## sorted(d), d a dict whose keys are pairs of ints -/
section
variable {prog : Program} {w : World}
/-- the keys of a dict as it lies -/
theorem rawSrc {d : Addr} {o : Obj} {es : Array DictEntry} {ep : Nat} (lo : (d == sysModules) = false) (hx : o.ExactDict) (hd : o.data = .dict es ep) :
    PySem.W.KdlSrc prog w "dict" d d es.size (fun i v => ∃ en, es[i]? = some en ∧ v = en.key) (fun h => h.get? d = some o) where
  type := fun _ e => ⟨o, e, hx.1⟩
  there := fun _ e => ⟨Heap.lt_size e, Heap.lt_size e⟩
  keep := fun _ _ e k => k d (.inl rfl) o e
  notList := by decide
  notTuple := by decide
  hint := fun _ _ _ _ e q => PySem.W.kdl_hint_dict ⟨o, e, hx.1⟩ q
  iter := fun A s hh e => ⟨{ cls := .type "dict_keyiterator", data := .fields #[.ref d, .int 0 0, .int es.size 0, .int ep 0] }, fun i h => h.IsKeyIter s.heap.objs.size d i es.size ep ∧ h.get? d = some o,
    (fun _ _ hq => iter_keys lo e hx hd hq),
    { sub := fun b hb => by simp at hb; simp [hb]
      frame := fun _ _ _ st k => ⟨st.1.at fun o' e' => k _ (by simp) o' e', k d (by simp) o st.2⟩
      item := fun i s' Q E hi st hQ => by
        have hen : es[i]? = some es[i] := Array.getElem?_eq_getElem hi
        refine next_key_item st.1 st.2 hd rfl hen fun h' hit' hs' => ?_
        have ne : d ≠ s.heap.objs.size := Nat.ne_of_lt (Heap.lt_size e)
        exact hQ _ h' s'.toks ⟨_, hen, rfl⟩ ⟨hit', (hs'.2 d ne).trans st.2⟩ fun b o' hb e' => (hs'.2 b (fun z => hb (by simp [z]))).trans e'
      done := fun s' Q E st hQ => next_key_end hh st.1 st.2 hd rfl (Nat.le_refl _) fun h' he' => hQ h' s'.toks fun b o' hb e' => he' b o' (fun z => hb (by simp [z])) e'
      self := fun i s' Q E st hQ => wpAny_pyIter_keyiter st.1 hQ },
    ⟨⟨_, Heap.get?_push_size _ rfl, rfl, rfl⟩, Heap.get?_push_of_some _ e⟩⟩
end
/-- the pair that a value stands for -/
def pairAt (H : Hp) : Value → Int × Int
  | .ref q => match H q with
    | some (.tup [.int i, .int j]) => (i, j)
    | _ => (0, 0)
  | _ => (0, 0)
def keyP (p : Int × Int) : List Key := [Sum.inl p.1, Sum.inl p.2]
theorem keyP_inj {p q : Int × Int} (h : keyP p = keyP q) : p = q := by
  obtain ⟨a, b⟩ := p
  obtain ⟨c, d⟩ := q
  simp [keyP] at h
  simp [h.1, h.2]
theorem keyP_at {H : Hp} {q : Addr} {p : Int × Int} (h : H q = some (.tup ((keyP p).map kV))) : pairAt H (.ref q) = p := by
  have h' : H q = some (.tup [.int p.1, .int p.2]) := h
  simp [pairAt, h']
def lexLe (p q : Int × Int) : Prop := p.1 < q.1 ∨ (p.1 = q.1 ∧ p.2 ≤ q.2)
theorem paired_ix {α β : Type} {F : α → β → Prop} : ∀ {l : List α} {m : List β}, Paired F l m → ∀ (j : Nat) (y : β), m[j]? = some y → ∃ x, l[j]? = some x ∧ F x y
  | _, _, .nil, j, y, h => by simp at h
  | _, _, .cons f t, 0, y, h => by simp at h; subst h; exact ⟨_, rfl, f⟩
  | _, _, .cons f t, j + 1, y, h => by
    obtain ⟨x, h1, h2⟩ := paired_ix t j y (by simpa using h)
    exact ⟨x, by simpa using h1, h2⟩
def rSortDT : List V → Hp → VK → Prop := fun xs H Q => ∃ (a : Addr) (kvs : List (List Key × V)) (ps : List (Int × Int)), xs = [.ref a] ∧ H a = some (.dT kvs) ∧ kvs.map (·.1) = ps.map keyP ∧
  ∀ (qs : List (Addr × (Int × Int))) (D : Addr), (qs.map (·.2)).Perm ps → (qs.map (·.2)).Pairwise lexLe → (∀ q ∈ qs, H q.1 = some (.tup [.int q.2.1, .int q.2.2])) → H D = none → Q (.ref D) (upd H D (.lst (qs.map fun q => .ref q.1)))
theorem srtd_pairs {k : Value → Int × Int} {out : List Value} (h : SrtO.Srtd (fun v u => SrtO.lexB (k v) (k u)) out) : (out.map k).Pairwise lexLe := by
  rw [List.pairwise_map]
  refine List.Pairwise.imp ?_ h
  intro a b hab
  have z := SrtO.lexB_no.mp hab
  unfold lexLe
  omega
theorem call_sortedDT {X : Cx} (hc : X.calm = true) : CallR X (.builtin "sorted") rSortDT := by
  intro pins s σ H xs us Q I r h
  obtain ⟨a, kvs, ps, rfl, ha, hks, q⟩ := h
  obtain ⟨u, rfl, ru⟩ := vals1 r
  cases ru
  obtain ⟨hz, lo, ks, rel, o, es, ep, ho, hx, hd, hes, his, hnd⟩ := dt_of I.hok ha
  have hsz : es.size = kvs.length := by
    have z := congrArg List.length hes
    rw [List.length_map, Array.length_toList] at z
    rw [z, Paired.length rel]
  refine Calls.call_function_entry PyProof.Rows.kind_sorted PyProof.Rows.plain_sorted PyProof.Rows.entry_sorted (PyProof.Rows.args_sorted1 _) ?_
  unfold Builtin.«sorted»
  refine wpAny_bind (m := checkCount "sorted" 1 1 _) (wpAny_pure ?_)
  refine wpAny_bind (PySem.W.kdu_collect (A := X.A.in1) (rawSrc lo hx hd) (I.ok.hd hc) ho (by rw [hsz]; exact hz) fun h' tk acc hk hacc => ?_)
  have hkey : ∀ (j : Nat) (v : Value), acc.toList[j]? = some v → ∃ (p : Int × Int) (t : Addr), ps[j]? = some p ∧ v = .ref t ∧ H t = some (.tup ((keyP p).map kV)) := fun j v e => by
    obtain ⟨en, e1, rfl⟩ := hacc.2 j v (by rw [← Array.getElem?_toList]; exact e)
    have e2 : (ks.map (entryOfKey (tupleKind (mixKind X.prog X.w))))[j]? = some en := by rw [← hes, Array.getElem?_toList]; exact e1
    rw [List.getElem?_map] at e2
    cases e3 : ks[j]? with
    | none => rw [e3] at e2; cases e2
    | some y =>
      rw [e3] at e2
      obtain rfl : entryOfKey (tupleKind (mixKind X.prog X.w)) y = en := Option.some.inj e2
      obtain ⟨x, g1, g2, g3, _⟩ := paired_ix rel j y e3
      have g4 : (kvs.map (·.1))[j]? = some x.1 := by rw [List.getElem?_map, g1]; rfl
      rw [hks, List.getElem?_map] at g4
      cases g5 : ps[j]? with
      | none => rw [g5] at g4; cases g4
      | some p =>
        rw [g5] at g4
        have g6 : keyP p = x.1 := Option.some.inj g4
        exact ⟨p, y.2.1, rfl, rfl, by rw [g6]; exact g3⟩
  have hlen : acc.toList.length = ps.length := by
    have z := congrArg List.length hks
    rw [List.length_map, List.length_map] at z
    rw [Array.length_toList, hacc.1, hsz, z]
  have hmap : acc.toList.map (pairAt H) = ps := by
    refine List.ext_getElem? fun j => ?_
    rw [List.getElem?_map]
    cases e : acc.toList[j]? with
    | none =>
      have e' : ps[j]? = none := by
        rw [List.getElem?_eq_none_iff] at e ⊢
        omega
      rw [e']; rfl
    | some v =>
      obtain ⟨p, t, e1, rfl, e2⟩ := hkey j v e
      rw [e1]
      show some (pairAt H (.ref t)) = some p
      rw [keyP_at e2]
  have hmem : ∀ v ∈ acc.toList, ∃ t, v = .ref t ∧ H t = some (.tup [.int (pairAt H v).1, .int (pairAt H v).2]) := fun v hv => by
    obtain ⟨j, hj, e⟩ := List.mem_iff_getElem.mp hv
    obtain ⟨p, t, _, rfl, e2⟩ := hkey j v (by rw [List.getElem?_eq_getElem hj, e])
    refine ⟨t, rfl, ?_⟩
    rw [keyP_at e2]
    exact e2
  have I1 : Inv X pins σ H { s with heap := h', toks := tk } := I.kept hk
  have hfit : acc.toList.length ≤ sizeLine := by rw [Array.length_toList, hacc.1, hsz]; exact hz
  refine wpAny_bind (wpAny_newList ?_ hfit)
  have hoL : (h'.push (seqObj "list" acc.toList.toArray 0)).get? h'.objs.size = some (seqObj "list" acc.toList.toArray 0) := Heap.get?_push_size _ rfl
  show wpAny _ _ _ _ _ { s with heap := h'.push (seqObj "list" acc.toList.toArray 0), toks := tk }
  have hpair : ∀ v ∈ acc.toList, Srt.IsPair (h'.push (seqObj "list" acc.toList.toArray 0)) v (pairAt H v).1 (pairAt H v).2 := fun v hv => by
    obtain ⟨t, ev, ht⟩ := hmem v hv
    obtain ⟨_, its, rv, ob, hob, hcl, n, hdt⟩ := I1.hok t _ ht
    obtain ⟨u1, u2, rfl, ri, rj⟩ := vals2 rv
    obtain ⟨t1, rfl⟩ := ri
    obtain ⟨t2, rfl⟩ := rj
    exact ⟨t, ob, t1, t2, n, ev, Heap.get?_push_of_some _ hob, hcl, hdt⟩
  refine wpAny_bind (wpAny_holding (wpAny_call_entry PyProof.Rows.slot_list_sort ⟨_, hoL, rfl⟩ PyProof.Rows.entry_list_sort
    (SrtO.list_sort_ord (s := { s with heap := h'.push (seqObj "list" acc.toList.toArray 0), toks := tk }) (SrtO.swo_lex (pairAt H)) hoL hfit (fun h2 => SrtO.pairs_sortableO (by omega) hpair fun ob e c => ?_) fun out g1 g2 => ⟨_, rfl, ?_⟩) (PyProof.Rows.args_list_sort _)))
  · have e' := e.symm.trans hoL
    cases e'
    exact absurd (Value.type.inj c) (by decide)
  · obtain ⟨e', he'⟩ := PyProof.Rows.sortedHeap_at (vs := acc.toList) (out := out.toArray) hoL
    have hout : ∀ v ∈ out, ∃ t, v = .ref t ∧ H t = some (.tup [.int (pairAt H v).1, .int (pairAt H v).2]) := fun v hv => hmem v (g2.perm.mem_iff.mp hv)
    have hol : out.length = acc.toList.length := g2.perm.length_eq
    let adr : Value → Addr := fun v => match v with | .ref t => t | _ => 0
    have hvals : Vals (out.map fun v => V.ref (adr v)) out := by
      have gen : ∀ l : List Value, (∀ v ∈ l, ∃ t, v = Value.ref t) → Vals (l.map fun v => V.ref (adr v)) l := by
        intro l
        induction l with
        | nil => intro _; exact .nil
        | cons v l ih =>
          intro hl
          obtain ⟨t, rfl⟩ := hl v List.mem_cons_self
          exact .cons rfl (ih fun u hu => hl u (List.mem_cons_of_mem _ hu))
      exact gen out fun v hv => let ⟨t, e, _⟩ := hout v hv; ⟨t, e⟩
    have fin := q (out.map fun v => (adr v, pairAt H v)) h'.objs.size (by
        rw [List.map_map]
        show (out.map fun v => pairAt H v).Perm ps
        rw [← hmap]
        exact g2.perm.map _) (by
        rw [List.map_map]
        exact srtd_pairs g1) (fun z hz' => by
        obtain ⟨v, hv, rfl⟩ := List.mem_map.mp hz'
        obtain ⟨t, rfl, ht⟩ := hout v hv
        exact ht) (I1.hok.fresh (Nat.le_refl _))
    rw [List.map_map] at fin
    refine wpAny_pure ⟨_, rfl, .ref h'.objs.size, upd H h'.objs.size (.lst (out.map fun v => V.ref (adr v))), I1.laid (t' := tk) (fun b u e => ?_) (Nat.le_refl _)
      (show ObjOk X.prog X.w _ _ _ (.lst (out.map fun v => V.ref (adr v))) from ⟨by rw [List.length_map, hol]; exact hfit, out, e', hvals, he'⟩), rfl, fin⟩
    have hb : b < h'.objs.size := Heap.lt_size e
    rw [PyProof.Rows.sortedHeap_old (Nat.ne_of_lt hb) (by rw [size_push']; exact Nat.lt_succ_of_lt hb)]
    exact Heap.get?_push_of_some _ e

/-! ## d.pop(k), k a tuple that is there -/
section
variable {prog : Program} {w : World} {K : Type} [DecidableEq K] {knd : HeapKind prog w K}
theorem meetsPop1 {d b : Addr} {k : K} (lo : (d == sysModules) = false) :
    MeetsIn prog w (Builtin.«dict.pop» ⟨[.ref d, .ref b], []⟩) (fun A R s => ∃ xs p, knd.room A.in1 ∧ knd.is s.heap k b ∧ s.heap.DictOfH knd d xs ∧ xs.length ≤ sizeLine ∧ atKey xs k = some p ∧
      ∀ h' tk, h'.DictOfH knd d (DT.dropH xs k) → Heap.SameBut d s.heap h' → R (.ok (.ret p.2)) { s with heap := h', toks := tk }) :=
  .of_wp fun A R s ⟨xs, p, room, key, dict, few, found, fin⟩ => by
    obtain ⟨o, es, ep, ho, hc, hdat, he, his, hn⟩ := id dict
    have hes : es.size = xs.length := size_of_entries he
    have hpart : (keyPart (Value.ref b)).isSome = false := rfl
    unfold Builtin.«dict.pop»
    refine wpAny_bind ?_
    unfold Builtin.Dict.keyAndDefault
    refine wpAny_bind (wpAny_notOrdered_dict dict.typeIs ?_)
    show wpAny _ _ (pure (d, Value.ref b, none)) _ _ s
    refine wpAny_pure ?_
    simp only [hpart, Bool.false_eq_true, if_false]
    refine wpAny_bind (wpAny_dictEntries ho hdat (wpAny_bind (wpAny_pure ?_)))
    cases hem : es.isEmpty with
    | true =>
      have h0 : xs = [] := by
        have z : es.size = 0 := by simpa using hem
        exact List.length_eq_zero_iff.mp (by omega)
      rw [h0] at found
      cases found
    | false =>
      simp only [Bool.false_eq_true, if_false]
      refine wpAny_bind (DT.takeH room key dict few (fun hno => ?_) fun p' e hp hev h' hm' hs' => ?_)
      · rw [found] at hno; cases hno
      · rw [found] at hp
        cases hp
        simp only [Option.isNone_some, Bool.false_eq_true, if_false]
        exact wpAny_bind (wpAny_letGo (wpAny_pure ⟨e.val, rfl, by rw [hev]; exact fin h' _ hm' hs'⟩))
end
def rPopT1 : V → List V → Hp → VK → Prop := fun x xs H Q => ∃ (a : Addr) (kvs : List (List Key × V)) (k : List Key) (b : Addr) (v : V), x = .ref a ∧ xs = [.ref b] ∧ H a = some (.dT kvs) ∧ H b = some (.tup (k.map kV)) ∧ valV kvs k = some v ∧
  Q v (upd H a (.dT (dropK kvs k)))
theorem mt_popT1 {X : Cx} (hu : X.A.units + 1 < cLine) : MtR X "dict.pop" rPopT1 := by
  intro pins s σ H x xs v us Q I rx rxs h
  obtain ⟨a, kvs, k, b, v0, rfl, rfl, ha, hb, hv, q⟩ := h
  cases rx
  obtain ⟨u1, rfl, r1⟩ := vals1 rxs
  cases r1
  obtain ⟨z, lo, ks, rel, dd⟩ := dt_of I.hok ha
  have few : ks.length ≤ sizeLine := by rw [← Paired.length rel]; exact z
  have r := rel.val k
  rw [hv] at r
  obtain ⟨p, hp, rv⟩ : ∃ p, atKey ks k = some p ∧ RelV v0 p.2 := by
    cases ev : atKey ks k with
    | none => rw [ev] at r; exact (show False from r).elim
    | some p => rw [ev] at r; exact ⟨p, rfl, r⟩
  refine call_meetsIn PySem.F.slot_dict_pop dd.typeIs PySem.F.entry_dict_pop (PySem.F.args_dict_pop_2 _ _) (meetsPop1 (knd := tupleKind (mixKind X.prog X.w)) (k := k) lo)
    ⟨ks, p, tupleKind_room_in1 hu, key_of I.hok hb, dd, few, hp, fun h' tk dd' hs => ?_⟩
  obtain ⟨o, es, ep, hq, h2, h3, h4, _, h5⟩ := dd'
  have I2 : Inv X pins σ (upd H a (.dT (dropK kvs k))) { s with heap := h', toks := tk } :=
    d_write I (by rw [ha]; exact True.intro) hs ⟨o, hq⟩ ⟨Nat.le_trans (dropK_le kvs k) z, lo, _, (DX.KT_drop k rel).keeps (fun c ys ec => (by rw [upd_ne (ne_of ec ha (fun z => nomatch z))]; exact ec)), o, es, ep, hq, h2, h3, h4, h5⟩
  show EP X pins σ Q p.2 _
  exact ⟨v0, _, I2, rv, q⟩
end Jk

namespace Jk
open PySem PySem.Spec L2 Evl

/-! ## readings that simp can run -/
/-- no attribute of that name -/
def NoFld (fs : List (Str × V)) (m : Str) : Prop := fs.lookup m = none
section
variable {σ : L2.St} {H : Hp} {D : Ends} {Q : VK} {QB : Bool → Hp → Prop} {QA : List V → Hp → Prop} {QS : L2.St → Hp → Prop} {t u ts : TS} {ta tb te tv tc : TE} {c c1 c2 : TT} {tr : TA} {g : TG} {gs : TGs} {v x y : V} {r : R2} {K : PySem.W.Frag}
@[simp] theorem j_seq : tSeq t u D σ H = t { D with nx := u D } σ H := rfl
@[simp] theorem j_next : tNext D σ H = D.nx σ H := rfl
@[simp] theorem j_asg : tAsg te g D σ H = te σ H fun x H1 => g x σ H1 D.nx := rfl
@[simp] theorem j_gname {i : Nat} : gName i v σ H QS = QS (σ.set i (some v)) H := rfl
@[simp] theorem j_gnil : gNil [] σ H QS = QS σ H := by simp [gNil]
@[simp] theorem j_gcons {vs : List V} : gCons g gs (v :: vs) σ H QS = g v σ H fun s1 H1 => gs vs s1 H1 QS := propext ⟨fun ⟨_, _, e, q⟩ => by cases e; exact q, fun q => ⟨v, vs, rfl, q⟩⟩
@[simp] theorem j_drop : tDrop te D σ H = te σ H fun _ H1 => D.nx σ H1 := rfl
@[simp] theorem j_ret : tRet te D σ H = te σ H D.rt := rfl
@[simp] theorem j_retN : tRetN D σ H = D.rt .non H := rfl
@[simp] theorem j_if : tIfS c t u D σ H = c σ H fun b H1 => if b = true then t D σ H1 else u D σ H1 := rfl
@[simp] theorem j_brk : tBreak D σ H = D.bk σ H := rfl
@[simp] theorem j_cont : tCont D σ H = D.ct σ H := rfl
@[simp] theorem j_var {i : Nat} : tVar i σ H Q = ∃ v, σ[i]? = some (some v) ∧ Q v H := rfl
@[simp] theorem j_c : tC v σ H Q = Q v H := rfl
@[simp] theorem j_B : tB te σ H QB = te σ H fun x H1 => ∃ c, x = .bl c ∧ QB c H1 := rfl
@[simp] theorem j_test : tTest te σ H QB = te σ H fun x H1 => ∃ c, x = .bl c ∧ QB c H1 := rfl
@[simp] theorem j_and : tAnd c1 c2 σ H QB = c1 σ H fun b H1 => if b = true then c2 σ H1 QB else QB false H1 := rfl
@[simp] theorem j_or : tOr c1 c2 σ H QB = c1 σ H fun b H1 => if b = true then QB true H1 else c2 σ H1 QB := rfl
@[simp] theorem j_not : tNot c σ H QB = c σ H fun b H1 => QB (!b) H1 := rfl
@[simp] theorem j_andV : tAndV ta tb σ H Q = ta σ H fun x H1 => ∃ c, x = .bl c ∧ if c = true then tb σ H1 Q else Q (.bl false) H1 := rfl
@[simp] theorem j_orV : tOrV ta tb σ H Q = ta σ H fun x H1 => ∃ c, x = .bl c ∧ if c = true then Q (.bl true) H1 else tb σ H1 Q := rfl
@[simp] theorem j_notV : tNotV ta σ H Q = ta σ H fun x H1 => ∃ c, x = .bl c ∧ Q (.bl (!c)) H1 := rfl
@[simp] theorem j_ifE : tIf c ta tb σ H Q = c σ H fun b H1 => if b = true then ta σ H1 Q else tb σ H1 Q := rfl
@[simp] theorem j_op : tOp r ta tb σ H Q = ta σ H fun x H1 => tb σ H1 fun y H2 => r x y H2 Q := rfl
@[simp] theorem j_un {r1 : V → Hp → VK → Prop} : tUn r1 ta σ H Q = ta σ H fun x H1 => r1 x H1 Q := rfl
@[simp] theorem j_rI {C : Int → Int → Prop} {f : Int → Int → V} {i j : Int} : rI C f (.int i) (.int j) H Q = (C i j ∧ Q (f i j) H) := by simp [rI]
@[simp] theorem j_rI0 {f : Int → Int → V} {i j : Int} : rI0 f (.int i) (.int j) H Q = Q (f i j) H := by simp [rI0]
@[simp] theorem j_rU {f : Int → V} {i : Int} : rU f (.int i) H Q = Q (f i) H := by simp [rU]
@[simp] theorem j_eq_ii {i j : Int} : rEq (.int i) (.int j) H Q = Q (.bl (decide (i = j))) H := by simp [rEq, scal]
@[simp] theorem j_ne_ii {i j : Int} : rNe (.int i) (.int j) H Q = Q (.bl (!decide (i = j))) H := by simp [rNe, scal]
@[simp] theorem j_eq_ss {i j : Str} : rEq (.str i) (.str j) H Q = Q (.bl (decide (i = j))) H := by simp [rEq, scal]
@[simp] theorem j_ne_ss {i j : Str} : rNe (.str i) (.str j) H Q = Q (.bl (!decide (i = j))) H := by simp [rNe, scal]
@[simp] theorem j_eq_bb {i j : Bool} : rEq (.bl i) (.bl j) H Q = Q (.bl (decide (i = j))) H := by simp [rEq, scal]
@[simp] theorem j_ne_bb {i j : Bool} : rNe (.bl i) (.bl j) H Q = Q (.bl (!decide (i = j))) H := by simp [rNe, scal]
@[simp] theorem j_chain {r' : R2} : tChain r r' ta tb tc σ H Q = ta σ H fun x H1 => tb σ H1 fun y H2 => r x y H2 fun z H3 => ∃ k, z = .bl k ∧ (if k = true then tc σ H3 fun w' H4 => r' y w' H4 Q else Q (.bl false) H3) := rfl
@[simp] theorem j_fld {f : Str} : tFld K ta f σ H Q = ta σ H fun x H1 => ∃ a C dx fs v, x = .ref a ∧ H1 a = some (.ins C dx fs) ∧ Cls K C ∧ NoAttr K C f ∧ fs.lookup f = some v ∧ Q v H1 := rfl
@[simp] theorem j_sfld {f : Str} : sFld K ta tv f D σ H = tv σ H fun y H1 => ta σ H1 fun x H2 => ∃ a C dx fs, x = .ref a ∧ H2 a = some (.ins C dx fs) ∧ Cls K C ∧ NoAttr K C f ∧ fs.length < 1000 ∧ D.nx σ (upd H2 a (.ins C dx (putF f y fs))) := rfl
@[simp] theorem j_nil : tNil σ H QA = QA [] H := rfl
@[simp] theorem j_cons : tCons ta tr σ H QA = ta σ H fun x H1 => tr σ H1 fun xs H2 => QA (x :: xs) H2 := rfl
@[simp] theorem j_cb {r1 : List V → Hp → VK → Prop} : tCB r1 tr σ H Q = tr σ H fun vs H1 => r1 vs H1 Q := rfl
@[simp] theorem j_call {sp : Sp} {E : XK} : tCall sp [] E tr σ H Q = tr σ H fun vs H1 => sp vs H1 Q E := by simp [tCall]
@[simp] theorem j_meth {sp : Sp} {E : XK} {C : Addr} {m : Str} : tMeth C m sp [] E ta tr σ H Q = ta σ H fun x H1 => ∃ a dx fs, x = .ref a ∧ H1 a = some (.ins C dx fs) ∧ NoFld fs m ∧ tr σ H1 fun vs H2 => sp (x :: vs) H2 Q E := by simp [tMeth, NoFld]
@[simp] theorem j_methS {sp : Sp} {E : L2.St → XK} {C : Addr} {m : Str} : jMethS C m sp E ta tr σ H Q = ta σ H fun x H1 => ∃ a dx fs, x = .ref a ∧ H1 a = some (.ins C dx fs) ∧ NoFld fs m ∧ tr σ H1 fun vs H2 => sp (x :: vs) H2 Q (E σ) := rfl
@[simp] theorem j_makeS {sp : Sp} {E : L2.St → XK} {C : Addr} : jMakeS C sp E tr σ H Q = tr σ H fun vs H1 => ∀ x dx, H1 x = none → H1 dx = none → dx ≠ x → sp (.ref x :: vs) (upd (upd H1 dx (.own x)) x (.ins C dx [])) (fun v H2 => v = .non ∧ Q (.ref x) H2) (E σ) := rfl
@[simp] theorem j_make {sp : Sp} {E : XK} {C : Addr} : tMake C sp [] E tr σ H Q = tr σ H fun vs H1 => ∀ x dx, H1 x = none → H1 dx = none → dx ≠ x → sp (.ref x :: vs) (upd (upd H1 dx (.own x)) x (.ins C dx [])) (fun v H2 => v = .non ∧ Q (.ref x) H2) E := by simp [tMake]
@[simp] theorem j_isN {y : V} : (fun (x y : V) (H : Hp) (Q : VK) => y = V.non ∧ Q (.bl (decide (x = .non))) H) x y H Q = (y = V.non ∧ Q (.bl (decide (x = .non))) H) := rfl
@[simp] theorem kV_int {n : Int} {k : Key} : (V.int n = kV k) = (k = Sum.inl n) := by
  cases k with
  | inl i => simp [kV, eq_comm]
  | inr s => simp [kV]
@[simp] theorem kV_str {n : Str} {k : Key} : (V.str n = kV k) = (k = Sum.inr n) := by
  cases k with
  | inl i => simp [kV]
  | inr s => simp [kV, eq_comm]
end

section
variable {X : Cx}
/-- a reading that asks more -/
theorem _root_.L2.PE.by {e : Expr} {t t' : TE} (h : PE X e t) (k : ∀ σ H Q, t' σ H Q → t σ H Q) : PE X e t' := ⟨fun pins s σ H Q I q => h.run pins s σ H Q I (k σ H Q q)⟩
theorem _root_.L2.PG.by {e : Expr} {t t' : TG} (h : PG X e t) (k : ∀ v σ H Q, t' v σ H Q → t v σ H Q) : PG X e t' := ⟨fun pins s σ H v u Q I r q => h.run pins s σ H v u Q I r (k v σ H Q q)⟩
theorem _root_.L2.PS.by {e : Stmt} {t t' : TS} (h : PS X e t) (k : ∀ D σ H, t' D σ H → t D σ H) : PS X e t' := ⟨fun pins s σ H D I q => h.run pins s σ H D I (k D σ H q)⟩
theorem callBy {f : Value} {r r' : List V → Hp → VK → Prop} (h : CallR X f r) (k : ∀ xs H Q, r' xs H Q → r xs H Q) : CallR X f r' := fun pins s σ H xs us Q I rr q => h pins s σ H xs us Q I rr (k xs H Q q)

/-- an attribute, the written part named -/
theorem pe_fldK {K0 : PySem.W.Frag} {e : Expr} {ta : TE} {f : Str} {pos : Pos} (he : PE X e ta) (hb : attributeBase e f X.env (eval e X.env) = eval e X.env := by rfl) (hK : X.K = K0 := by rfl) : PE X (.Attribute e f pos) (tFld K0 ta f) := by
  subst hK
  exact pe_fld he hb
/-! new tuples and lists, what was tracked kept -/
def jTup (tr : TA) : TE := fun σ H Q => tr σ H fun xs H1 => xs.length ≤ 1000 ∧ ∀ p H2, H1 p = none → Ex H1 H2 → H2 p = some (.tup xs) → Q (.ref p) H2
def jLst (tr : TA) : TE := fun σ H Q => tr σ H fun xs H1 => xs.length ≤ 1000 ∧ ∀ p H2, H1 p = none → Ex H1 H2 → H2 p = some (.lst xs) → Q (.ref p) H2
@[simp] theorem j_tup {σ H Q} {tr : TA} : jTup tr σ H Q = tr σ H fun xs H1 => xs.length ≤ 1000 ∧ ∀ p H2, H1 p = none → Ex H1 H2 → H2 p = some (.tup xs) → Q (.ref p) H2 := rfl
@[simp] theorem j_lst {σ H Q} {tr : TA} : jLst tr σ H Q = tr σ H fun xs H1 => xs.length ≤ 1000 ∧ ∀ p H2, H1 p = none → Ex H1 H2 → H2 p = some (.lst xs) → Q (.ref p) H2 := rfl
theorem line1000 {n : Nat} (h : n ≤ 1000) : n ≤ sizeLine := Nat.le_trans h (by decide)
theorem pe_tupJ {es : List Expr} {t : TA} {x1} {pos : Pos} (h : PA X es t) : PE X (.Tuple es x1 pos) (jTup t) := by
  refine ⟨fun pins s σ H Q I hq => ?_⟩
  refine (pe_tup (x1 := x1) (pos := pos) (t := fun σ H Q => ∃ Q', t σ H Q' ∧ ∀ vs H', Q' vs H' → Q vs H') ⟨fun pos pins s σ H Q I q => ?_⟩).run pins s σ H Q I ⟨_, hq, fun xs H1 ⟨z, k⟩ => ⟨line1000 z, fun p hp => k p _ hp (Ex.new hp) upd_same⟩⟩
  obtain ⟨Q', q1, q2⟩ := q
  exact thn (h.run pos pins s σ H Q' I q1) fun us s1 ⟨xs, H1, I1, r, k⟩ => ⟨xs, H1, I1, r, q2 _ _ k⟩
theorem pe_lstJ {es : List Expr} {t : TA} {pos : Pos} (h : PA X es t) : PE X (.List es pos) (jLst t) := by
  refine ⟨fun pins s σ H Q I hq => ?_⟩
  refine (pe_lst (pos := pos) (t := fun σ H Q => ∃ Q', t σ H Q' ∧ ∀ vs H', Q' vs H' → Q vs H') ⟨fun pos pins s σ H Q I q => ?_⟩).run pins s σ H Q I ⟨_, hq, fun xs H1 ⟨z, k⟩ => ⟨line1000 z, fun p hp => k p _ hp (Ex.new hp) upd_same⟩⟩
  obtain ⟨Q', q1, q2⟩ := q
  exact thn (h.run pos pins s σ H Q' I q1) fun us s1 ⟨xs, H1, I1, r, k⟩ => ⟨xs, H1, I1, r, q2 _ _ k⟩
def jDict : TE := fun _ H Q => ∀ p H2, H p = none → Ex H H2 → H2 p = some (.dK []) → Q (.ref p) H2
@[simp] theorem j_dict {σ H Q} : jDict σ H Q = ∀ p H2, H p = none → Ex H H2 → H2 p = some (.dK []) → Q (.ref p) H2 := rfl
theorem pe_dictJ {pos : Pos} : PE X (.Dict [] [] pos) jDict := pe_dnewK.by fun σ H Q q p hp => q p _ hp (Ex.new hp) upd_same

/-! operators -/
theorem opBy {f : Value → Value → Sem Value} {r r' : R2} (h : OpR X f r) (k : ∀ x y H Q, r' x y H Q → r x y H Q) : OpR X f r' := fun pins s σ H x y v u Q I r1 r2 q => h pins s σ H x y v u Q I r1 r2 (k x y H Q q)
def jCat : R2 := fun x y H Q => ∃ l b xs zs, x = .ref l ∧ y = .ref b ∧ H l = some (.lst xs) ∧ H b = some (.lst zs) ∧ xs.length + zs.length ≤ 100000 ∧ ∀ p H2, H p = none → Ex H H2 → H2 p = some (.lst (xs ++ zs)) → Q (.ref p) H2
theorem op_catJ : OpR X (binaryOp .Add) jCat := opBy op_cat fun x y H Q ⟨l, b, xs, zs, e1, e2, h1, h2, z, k⟩ => ⟨l, b, xs, zs, e1, e2, h1, h2, Nat.le_trans z (by decide), fun p hp => k p _ hp (Ex.new hp) upd_same⟩
def jRep : R2 := fun x y H Q => ∃ l k xs, x = .ref l ∧ y = .int k ∧ H l = some (.lst xs) ∧ 0 ≤ k ∧ k ≤ 1000 ∧ xs.length ≤ 1000 ∧ ∀ p H2, H p = none → Ex H H2 → H2 p = some (.lst (List.replicate k.toNat xs).flatten) → Q (.ref p) H2
theorem op_repJ : OpR X (binaryOp .Mult) jRep := opBy op_rep fun x y H Q ⟨l, k, xs, e1, e2, h1, h2, h3, h4, q⟩ => ⟨l, k, xs, e1, e2, h1, by omega, by omega, by
    have z : xs.length * k.toNat ≤ 1000 * 1000 := Nat.mul_le_mul h4 (by omega)
    exact Nat.le_trans z (by decide), fun p hp => q p _ hp (Ex.new hp) upd_same⟩
def jIxL : R2 := fun x y H Q => ∃ p xs i v, x = .ref p ∧ y = .int i ∧ H p = some (.lst xs) ∧ 0 ≤ i ∧ xs[i.toNat]? = some v ∧ Q v H
def jIxT : R2 := fun x y H Q => ∃ p xs i v, x = .ref p ∧ y = .int i ∧ H p = some (.tup xs) ∧ 0 ≤ i ∧ xs[i.toNat]? = some v ∧ Q v H
theorem at_toNat {xs : List V} {i : Int} {v : V} (h : 0 ≤ i) (e : xs[i.toNat]? = some v) : atI xs i = some v := at_of (j := i.toNat) (by omega) e
theorem ix_listJ : IxR X jIxL := fun vl sl pins s σ H x y v u Q I rx ry q hs => ix_list vl sl pins s σ H x y v u Q I rx ry (by
  obtain ⟨p, xs, i, z, e1, e2, h1, h2, h3, k⟩ := q
  exact ⟨p, xs, i, z, e1, e2, .inl (.inl h1), at_toNat h2 h3, k⟩) hs
theorem ix_tupJ : IxR X jIxT := fun vl sl pins s σ H x y v u Q I rx ry q hs => ix_tup vl sl pins s σ H x y v u Q I rx ry (by
  obtain ⟨p, xs, i, z, e1, e2, h1, h2, h3, k⟩ := q
  exact ⟨p, xs, i, z, e1, e2, .inl (.inl h1), at_toNat h2 h3, k⟩) hs

/-! dicts -/
variable {o i value : Expr} {td ty : TE} {pos tpos : Pos}
def jDGet (td ty : TE) : TE := fun σ H Q => td σ H fun x H1 => ty σ H1 fun y H2 => ∃ a kvs k v, x = .ref a ∧ H2 a = some (.dK kvs) ∧ y = kV k ∧ valV kvs k = some v ∧ Q v H2
@[simp] theorem j_dget {σ H Q} : jDGet td ty σ H Q = td σ H fun x H1 => ty σ H1 fun y H2 => ∃ a kvs k v, x = .ref a ∧ H2 a = some (.dK kvs) ∧ y = kV k ∧ valV kvs k = some v ∧ Q v H2 := rfl

/-- a reading that may be weakened behind -/
def cl (t : TE) : TE := fun σ H Q => ∃ Q', t σ H Q' ∧ ∀ v H', Q' v H' → Q v H'
theorem _root_.L2.PE.cl {e : Expr} {t : TE} (h : PE X e t) : PE X e (cl t) := ⟨fun pins s σ H Q I ⟨Q', q1, q2⟩ => thn (h.run pins s σ H Q' I q1) fun u s1 ⟨v, H1, I1, r, k⟩ => ⟨v, H1, I1, r, q2 _ _ k⟩⟩
theorem pe_dgetJ (hu : X.A.units + 1 < cLine) (ho : PE X o td) (hi : PE X i ty) (hs : NoSl i) : PE X (.Subscript o i pos) (jDGet td ty) :=
  (pe_dget hu ho.cl hi.cl hs).by fun σ H Q q => ⟨_, q, fun x H1 k => ⟨_, k, fun y H2 ⟨a, kvs, k, v, e1, h1, e2, e3, q⟩ => ⟨a, v, e1, by rw [e2, ← e3]; exact DGet.k h1, q⟩⟩⟩
def jDIn (ty td : TE) : TE := fun σ H Q => ty σ H fun y H1 => td σ H1 fun x H2 => ∃ a kvs k, x = .ref a ∧ H2 a = some (.dK kvs) ∧ y = kV k ∧ Q (.bl (valV kvs k).isSome) H2
@[simp] theorem j_din {σ : L2.St} {H : Hp} {Q : VK} : jDIn ty td σ H Q = ty σ H fun y H1 => td σ H1 fun x H2 => ∃ a kvs k, x = .ref a ∧ H2 a = some (.dK kvs) ∧ y = kV k ∧ Q (.bl (valV kvs k).isSome) H2 := rfl
theorem pc_dinJ (hu : X.A.units + 1 < cLine) (hi : PE X i ty) (ho : PE X o td) : PC X .In i o (jDIn ty td) := by
  refine ⟨fun pins s σ H Q I q => (pc_din hu hi.cl ho.cl).run pins s σ H Q I ⟨_, q, fun y H1 k => ⟨_, k, fun x H2 ⟨a, kvs, k, e1, h1, e2, q⟩ => ⟨a, _, e1, by rw [e2]; exact DGet.k h1, q⟩⟩⟩⟩
/-- a pair of ints in a dict of such -/
def jDInT (ty td : TE) : TE := fun σ H Q => ty σ H fun y H1 => td σ H1 fun x H2 => ∃ a kvs b m n, x = .ref a ∧ H2 a = some (.dT kvs) ∧ y = .ref b ∧ H2 b = some (.tup [.int m, .int n]) ∧ Q (.bl (valV kvs (keyP (m, n))).isSome) H2
@[simp] theorem j_dinT {σ : L2.St} {H : Hp} {Q : VK} : jDInT ty td σ H Q = ty σ H fun y H1 => td σ H1 fun x H2 => ∃ a kvs b m n, x = .ref a ∧ H2 a = some (.dT kvs) ∧ y = .ref b ∧ H2 b = some (.tup [.int m, .int n]) ∧ Q (.bl (valV kvs (keyP (m, n))).isSome) H2 := rfl
theorem pc_dinT (hu : X.A.units + 1 < cLine) (hi : PE X i ty) (ho : PE X o td) : PC X .In i o (jDInT ty td) := by
  refine ⟨fun pins s σ H Q I q => (pc_din hu hi.cl ho.cl).run pins s σ H Q I ⟨_, q, fun y H1 k => ⟨_, k, fun x H2 ⟨a, kvs, b, m, n, e1, h1, e2, h2, q⟩ => ⟨a, _, e1, by rw [e2]; exact DGet.t (k := keyP (m, n)) h1 h2, q⟩⟩⟩⟩
def jDPut (td ty tv : TE) : TS := fun D σ H => tv σ H fun v H1 => td σ H1 fun x H2 => ty σ H2 fun y H3 => ∃ a kvs k, x = .ref a ∧ H3 a = some (.dK kvs) ∧ y = kV k ∧ kvs.length ≤ 100000 ∧ D.nx σ (upd H3 a (.dK (putK kvs k v)))
@[simp] theorem j_dput {tv : TE} {D : Ends} {σ : L2.St} {H : Hp} : jDPut td ty tv D σ H = tv σ H fun v H1 => td σ H1 fun x H2 => ty σ H2 fun y H3 => ∃ a kvs k, x = .ref a ∧ H3 a = some (.dK kvs) ∧ y = kV k ∧ kvs.length ≤ 100000 ∧ D.nx σ (upd H3 a (.dK (putK kvs k v))) := rfl
theorem lt_line {n : Nat} (h : n ≤ 100000) : n < sizeLine := Nat.lt_of_le_of_lt h (by decide)
theorem ps_dputJ {tv : TE} {pos' : Pos} (hu : X.A.units + 1 < cLine) (ho : PE X o td) (hi : PE X i ty) (hv : PE X value tv) (hs : swapsWith value (some (.Subscript o i pos')) pos.line X.env = pure false) :
    PS X (.Assign [.Subscript o i pos'] value pos) (jDPut td ty tv) :=
  (ps_dput hu ho.cl hi.cl hv.cl hs).by fun D σ H q => ⟨_, q, fun v H1 k => ⟨_, k, fun x H2 k => ⟨_, k, fun y H3 ⟨a, kvs, k, e1, h1, e2, z, q⟩ => ⟨a, _, e1, by rw [e2]; exact DPut.k h1 (lt_line z), q⟩⟩⟩⟩
def jDPutT (td ty tv : TE) : TS := fun D σ H => tv σ H fun v H1 => td σ H1 fun x H2 => ty σ H2 fun y H3 => ∃ a kvs b m n, x = .ref a ∧ H3 a = some (.dT kvs) ∧ y = .ref b ∧ H3 b = some (.tup [.int m, .int n]) ∧ kvs.length ≤ 100000 ∧ D.nx σ (upd H3 a (.dT (putK kvs (keyP (m, n)) v)))
@[simp] theorem j_dputT {tv : TE} {D : Ends} {σ : L2.St} {H : Hp} : jDPutT td ty tv D σ H = tv σ H fun v H1 => td σ H1 fun x H2 => ty σ H2 fun y H3 => ∃ a kvs b m n, x = .ref a ∧ H3 a = some (.dT kvs) ∧ y = .ref b ∧ H3 b = some (.tup [.int m, .int n]) ∧ kvs.length ≤ 100000 ∧ D.nx σ (upd H3 a (.dT (putK kvs (keyP (m, n)) v))) := rfl
theorem ps_dputT {tv : TE} {pos' : Pos} (hu : X.A.units + 1 < cLine) (ho : PE X o td) (hi : PE X i ty) (hv : PE X value tv) (hs : swapsWith value (some (.Subscript o i pos')) pos.line X.env = pure false) :
    PS X (.Assign [.Subscript o i pos'] value pos) (jDPutT td ty tv) :=
  (ps_dput hu ho.cl hi.cl hv.cl hs).by fun D σ H q => ⟨_, q, fun v H1 k => ⟨_, k, fun x H2 k => ⟨_, k, fun y H3 ⟨a, kvs, b, m, n, e1, h1, e2, h2, z, q⟩ => ⟨a, _, e1, by rw [e2]; exact DPut.t (k := keyP (m, n)) h1 h2 (lt_line z), q⟩⟩⟩⟩
@[simp] theorem j_ddel {D : Ends} {σ : L2.St} {H : Hp} : sDDel td ty D σ H = td σ H fun x H1 => ty σ H1 fun y H2 => ∃ a kvs k, x = .ref a ∧ H2 a = some (.dK kvs) ∧ y = kV k ∧ (valV kvs k).isSome = true ∧ D.nx σ (upd H2 a (.dK (dropK kvs k))) := rfl

/-! calls of built-ins by values -/
def tyN (H : Hp) : V → Option String
  | .non => some "NoneType"
  | .bl _ => some "bool"
  | .int _ => some "int"
  | .str _ => some "str"
  | .ref a => match H a with
    | some (.lst _) => some "list"
    | some (.tup _) => some "tuple"
    | some (.dK _) => some "dict"
    | some (.dT _) => some "dict"
    | _ => none
  | _ => none
theorem tyN_of {K : PySem.W.Frag} {H : Hp} {x : V} {n : String} (h : tyN H x = some n) : TyX K H x (.type n) := by
  cases x with
  | non => cases h; exact .base .non
  | bl b => cases h; exact .base (.bl b)
  | int i => cases h; exact .base (.int i)
  | str s => cases h; exact .base (.str s)
  | byt b => cases h
  | flt b => cases h
  | ty n => cases h
  | ref a =>
    unfold tyN at h
    dsimp only at h
    split at h
    · rename_i e; cases h; exact .base (.lst e)
    · rename_i e; cases h; exact .base (.tup e)
    · rename_i e; cases h; exact .base (.dK e)
    · rename_i e; cases h; exact .base (.dT e)
    · cases h
def jIs : List V → Hp → VK → Prop := fun xs H Q => ∃ x n t b, xs = [x, .ty n] ∧ tyN H x = some t ∧ kitB t n = some b ∧ Q (.bl b) H
theorem call_isJ : CallR X (.builtin "isinstance") jIs := callBy call_isi fun xs H Q ⟨x, n, t, b, e1, e2, e3, q⟩ => ⟨x, .ty n, _, _, b, e1, .ty n, tyN_of e2, kit_ty e3, q⟩
def jLen : List V → Hp → VK → Prop := fun vs H Q => ∃ p xs, vs = [.ref p] ∧ H p = some (.lst xs) ∧ Q (.int xs.length) H
theorem call_lenJ : CallR X (.builtin "len") jLen := callBy call_len_seq fun vs H Q ⟨p, xs, e, h, q⟩ => ⟨p, xs, e, .inl (.inl (.inl h)), q⟩
def jLenT : List V → Hp → VK → Prop := fun vs H Q => ∃ p xs, vs = [.ref p] ∧ H p = some (.tup xs) ∧ Q (.int xs.length) H
theorem call_lenT : CallR X (.builtin "len") jLenT := callBy call_len_seq fun vs H Q ⟨p, xs, e, h, q⟩ => ⟨p, xs, e, .inr (.inl (.inl h)), q⟩
def jList : List V → Hp → VK → Prop := fun vs H Q => ∃ p xs, vs = [.ref p] ∧ (H p = some (.lst xs) ∨ H p = some (.tup xs)) ∧ ∀ l H2, H l = none → Ex H H2 → H2 l = some (.lst xs) → Q (.ref l) H2
theorem call_listJ : CallR X (.type "list") jList := callBy call_list_of fun vs H Q ⟨p, xs, e, h, q⟩ => ⟨p, xs, e, h.imp (fun h => .inl (.inl h)) (fun h => .inl (.inl h)), fun l hl => q l _ hl (Ex.new hl) upd_same⟩
@[simp] theorem kb_ii : kitB "int" "int" = some true := by decide +kernel
@[simp] theorem kb_bi : kitB "bool" "int" = some true := by decide +kernel
@[simp] theorem kb_bb : kitB "bool" "bool" = some true := by decide +kernel
@[simp] theorem kb_ib : kitB "int" "bool" = some false := by decide +kernel
@[simp] theorem kb_ni : kitB "NoneType" "int" = some false := by decide +kernel
@[simp] theorem kb_si : kitB "str" "int" = some false := by decide +kernel
@[simp] theorem kb_li : kitB "list" "int" = some false := by decide +kernel
@[simp] theorem kb_ti : kitB "tuple" "int" = some false := by decide +kernel
@[simp] theorem kb_di : kitB "dict" "int" = some false := by decide +kernel
@[simp] theorem kb_nb : kitB "NoneType" "bool" = some false := by decide +kernel
@[simp] theorem kb_sb : kitB "str" "bool" = some false := by decide +kernel
@[simp] theorem kb_lb : kitB "list" "bool" = some false := by decide +kernel
@[simp] theorem kb_tb : kitB "tuple" "bool" = some false := by decide +kernel
@[simp] theorem kb_db : kitB "dict" "bool" = some false := by decide +kernel
@[simp] theorem kb_ll : kitB "list" "list" = some true := by decide +kernel
@[simp] theorem kb_tt : kitB "tuple" "tuple" = some true := by decide +kernel
@[simp] theorem kb_it : kitB "int" "tuple" = some false := by decide +kernel
@[simp] theorem kb_bt : kitB "bool" "tuple" = some false := by decide +kernel
@[simp] theorem kb_nt : kitB "NoneType" "tuple" = some false := by decide +kernel
@[simp] theorem kb_st : kitB "str" "tuple" = some false := by decide +kernel
@[simp] theorem kb_lt : kitB "list" "tuple" = some false := by decide +kernel
@[simp] theorem kb_dt : kitB "dict" "tuple" = some false := by decide +kernel
@[simp] theorem kb_ss : kitB "str" "str" = some true := by decide +kernel
@[simp] theorem tyN_non {H : Hp} : tyN H .non = some "NoneType" := rfl
@[simp] theorem tyN_bl {H : Hp} {b : Bool} : tyN H (.bl b) = some "bool" := rfl
@[simp] theorem tyN_int {H : Hp} {b : Int} : tyN H (.int b) = some "int" := rfl
@[simp] theorem tyN_str {H : Hp} {b : Str} : tyN H (.str b) = some "str" := rfl
theorem tyN_lst {H : Hp} {a : Addr} {xs : List V} (h : H a = some (.lst xs)) : tyN H (.ref a) = some "list" := by simp [tyN, h]
theorem tyN_tup {H : Hp} {a : Addr} {xs : List V} (h : H a = some (.tup xs)) : tyN H (.ref a) = some "tuple" := by simp [tyN, h]
theorem tyN_dK {H : Hp} {a : Addr} {xs : List (Key × V)} (h : H a = some (.dK xs)) : tyN H (.ref a) = some "dict" := by simp [tyN, h]
@[simp] theorem j_is {x : V} {n : String} {H : Hp} {Q : VK} : jIs [x, .ty n] H Q = ∃ t b, tyN H x = some t ∧ kitB t n = some b ∧ Q (.bl b) H := propext ⟨fun ⟨_, _, t, b, e, h⟩ => by cases e; exact ⟨t, b, h⟩, fun ⟨t, b, h⟩ => ⟨_, _, t, b, rfl, h⟩⟩
@[simp] theorem j_len {p : Addr} {H : Hp} {Q : VK} : jLen [.ref p] H Q = ∃ xs, H p = some (.lst xs) ∧ Q (.int xs.length) H := by simp [jLen]
@[simp] theorem j_app {l : Addr} {y : V} {H : Hp} {Q : VK} : rAppend (.ref l) [y] H Q = ∃ xs, H l = some (.lst xs) ∧ xs.length < sizeLine ∧ Q .non (upd H l (.lst (xs ++ [y]))) := by simp [rAppend]
@[simp] theorem j_ixL {p : Addr} {i : Int} {H : Hp} {Q : VK} : jIxL (.ref p) (.int i) H Q = ∃ xs v, H p = some (.lst xs) ∧ 0 ≤ i ∧ xs[i.toNat]? = some v ∧ Q v H := by simp [jIxL]
@[simp] theorem j_ixT {p : Addr} {i : Int} {H : Hp} {Q : VK} : jIxT (.ref p) (.int i) H Q = ∃ xs v, H p = some (.tup xs) ∧ 0 ≤ i ∧ xs[i.toNat]? = some v ∧ Q v H := by simp [jIxT]

/-! methods of lists, targets that are pairs -/
def jBM (r : V → List V → Hp → VK → Prop) (to : TE) (tr : TA) : TE := fun σ H Q => to σ H fun x H1 => (∃ p xs, x = .ref p ∧ H1 p = some (.lst xs)) ∧ tr σ H1 fun vs H2 => r x vs H2 Q
@[simp] theorem j_bm {r : V → List V → Hp → VK → Prop} {to : TE} {tr : TA} {σ : L2.St} {H : Hp} {Q : VK} : jBM r to tr σ H Q = to σ H fun x H1 => (∃ p xs, x = .ref p ∧ H1 p = some (.lst xs)) ∧ tr σ H1 fun vs H2 => r x vs H2 Q := rfl
theorem pe_bmL {o e : Expr} {es : List Expr} {to : TE} {tr : TA} {name : Str} {apos cpos : Pos} {id : String} {r : V → List V → Hp → VK → Prop} (slot : Slot "list" name id) (hty : typeOf (.builtin id) = pure (.type "method_descriptor")) (hm : MtR X id r) (ho : PE X o to) (ha : PA X (e :: es) tr)
    (h1 : attributeBase o name X.env (eval o X.env) = eval o X.env := by rfl)
    (h2 : ((backTo cpos (starEach (e :: es) X.env)).all (fun x => !x.1) && (backToKw cpos (keywordEach [] X.env)).all (fun x => x.1.isSome) && decide ((e :: es).length + ([] : List Keyword).length + (if ([] : List Keyword).isEmpty then 0 else 1) < 30)) = true := by rfl)
    (h3 : (apos.endLine == cpos.line) = true := by rfl) (h4 : starEach (e :: es) X.env = (false, eval e X.env) :: starEach es X.env := by rfl) (h5 : (backTo cpos (starEach es X.env)).any (·.1) = false := by rfl) :
    PE X (.Call (.Attribute o name apos) (e :: es) [] cpos) (jBM r to tr) :=
  (pe_bm PySem.F.plainAttrs_list slot hty hm ho.cl ha h1 h2 h3 h4 h5).by fun σ H Q q => ⟨_, q, fun x H1 ⟨⟨p, xs, e, h⟩, k⟩ => ⟨by rw [e]; exact .inl ⟨rfl, xs, .inl (.inl h)⟩, k⟩⟩
def jBM0 (r : V → List V → Hp → VK → Prop) (to : TE) : TE := fun σ H Q => to σ H fun x H1 => (∃ p xs, x = .ref p ∧ H1 p = some (.lst xs)) ∧ r x [] H1 Q
@[simp] theorem j_bm0 {r : V → List V → Hp → VK → Prop} {to : TE} {σ : L2.St} {H : Hp} {Q : VK} : jBM0 r to σ H Q = to σ H fun x H1 => (∃ p xs, x = .ref p ∧ H1 p = some (.lst xs)) ∧ r x [] H1 Q := rfl
theorem pe_bmL0 {o : Expr} {to : TE} {name : Str} {apos cpos : Pos} {id : String} {r : V → List V → Hp → VK → Prop} (slot : Slot "list" name id) (hty : typeOf (.builtin id) = pure (.type "method_descriptor")) (hm : MtR X id r) (ho : PE X o to)
    (h1 : attributeBase o name X.env (eval o X.env) = eval o X.env := by rfl) (h2 : (apos.endLine == cpos.line) = true := by rfl) : PE X (.Call (.Attribute o name apos) [] [] cpos) (jBM0 r to) :=
  (pe_bm0 PySem.F.plainAttrs_list slot hty hm ho.cl h1 h2).by fun σ H Q q => ⟨_, q, fun x H1 ⟨⟨p, xs, e, h⟩, k⟩ => ⟨by rw [e]; exact .inl ⟨rfl, xs, .inl (.inl h)⟩, k⟩⟩
def jBMD (r : V → List V → Hp → VK → Prop) (to : TE) (tr : TA) : TE := fun σ H Q => to σ H fun x H1 => (∃ p xs, x = .ref p ∧ H1 p = some (.dT xs)) ∧ tr σ H1 fun vs H2 => r x vs H2 Q
@[simp] theorem j_bmd {r : V → List V → Hp → VK → Prop} {to : TE} {tr : TA} {σ : L2.St} {H : Hp} {Q : VK} : jBMD r to tr σ H Q = to σ H fun x H1 => (∃ p xs, x = .ref p ∧ H1 p = some (.dT xs)) ∧ tr σ H1 fun vs H2 => r x vs H2 Q := rfl
theorem pe_popT {o e : Expr} {to : TE} {tr : TA} {apos cpos : Pos} (hu : X.A.units + 1 < cLine) (ho : PE X o to) (ha : PA X [e] tr)
    (h1 : attributeBase o "pop" X.env (eval o X.env) = eval o X.env := by rfl)
    (h2 : ((backTo cpos (starEach [e] X.env)).all (fun x => !x.1) && (backToKw cpos (keywordEach [] X.env)).all (fun x => x.1.isSome) && decide ([e].length + ([] : List Keyword).length + (if ([] : List Keyword).isEmpty then 0 else 1) < 30)) = true := by rfl)
    (h3 : (apos.endLine == cpos.line) = true := by rfl) (h4 : starEach [e] X.env = (false, eval e X.env) :: starEach [] X.env := by rfl) (h5 : (backTo cpos (starEach [] X.env)).any (·.1) = false := by rfl) :
    PE X (.Call (.Attribute o "pop" apos) [e] [] cpos) (jBMD rPopT1 to tr) :=
  (pe_bm PySem.F.plainAttrs_dict PySem.F.slot_dict_pop PySem.F.type_dict_pop (mt_popT1 hu) ho.cl ha h1 h2 h3 h4 h5).by fun σ H Q q => ⟨_, q, fun x H1 ⟨⟨p, xs, e, h⟩, k⟩ => ⟨by rw [e]; exact .inr (.inr (.inl ⟨rfl, .inr ⟨xs, h⟩⟩)), k⟩⟩
def jTupG (n : Nat) (t : TGs) : TG := fun v σ H Q => ∃ a xs, v = .ref a ∧ H a = some (.tup xs) ∧ xs.length = n ∧ t xs σ H Q
@[simp] theorem j_tupG {n : Nat} {t : TGs} {a : Addr} {σ : L2.St} {H : Hp} {Q : L2.St → Hp → Prop} : jTupG n t (.ref a) σ H Q = ∃ xs, H a = some (.tup xs) ∧ xs.length = n ∧ t xs σ H Q := by simp [jTupG]
theorem pg_tupJ {es : List Expr} {k : Nat} {t : TGs} {n : Nat} {pos : Pos} (hc : X.calm = true) (h : PGs X es t) (hn : (assignEach es X.env).length = n := by rfl) (hst : (assignEach es X.env).findIdx? (·.1) = none := by rfl) : PG X (.Tuple es k pos) (jTupG n t) :=
  (pg_tup hc h hn hst).by fun v σ H Q ⟨a, xs, e, h, z, q⟩ => ⟨a, xs, e, .inl (.inl h), z, q⟩
end
/-- the statement ahead is read for any word that follows from Mid -/
theorem seq_by {t u : TS} {D : Ends} {σ : L2.St} {H : Hp} (Mid : L2.St → Hp → Prop) (h : ∀ N : L2.St → Hp → Prop, (∀ s1 H1, Mid s1 H1 → N s1 H1) → t { D with nx := N } σ H) (k : ∀ s1 H1, Mid s1 H1 → u D s1 H1) : tSeq t u D σ H := h (u D) k
/-! ## isinstance's answers from what the top says of the classes -/
theorem kit_ref {K : PySem.W.Frag} {D C : Addr} {b : Bool} (hd : PySem.W.hasDictIn K C = true) (ht : PySem.W.typeIn K (.ref C) = some (.type "type")) (hs : PySem.W.subIn K (.ref C) (.ref C) = some true) (h : PySem.W.subIn K (.ref D) (.ref C) = some b) :
    PySem.W.kitOne K (.ref D) (.ref C) = some b := by
  unfold PySem.W.kitOne
  by_cases e : D = C
  · subst e
    rw [hs] at h
    cases h
    simp
  · rw [if_neg (by simp [e])]
    obtain ⟨cd, hc, _⟩ := PySem.W.any_some hd
    show (if ((PySem.W.clsIn K C).isSome && PySem.W.typeIn K (.ref C) == some (.type "type")) = true then PySem.W.subIn K (.ref D) (.ref C) else none) = some b
    rw [hc, ht, if_pos (by rfl)]
    exact h
theorem kit_tyo {K : PySem.W.Frag} {D : Addr} {n : String} {b : Bool} (hm : PySem.W.kitMeta n = true) (h : PySem.W.subIn K (.ref D) (.type n) = some b) : PySem.W.kitOne K (.ref D) (.type n) = some b := by
  unfold PySem.W.kitOne
  rw [if_neg (by simp)]
  show (if PySem.W.kitMeta n = true then PySem.W.subIn K (.ref D) (.type n) else none) = some b
  rw [if_pos hm]
  exact h
section
variable {CX : CXT} {P : Program} {w : World} {K : PySem.W.Frag} {mg : Str → Option Value} {base : Heap} {N : List Str} {qual : Str} {scope : Scope} {f : Addr} {cd : Value} {A : Around} {outer : List Env} {s : Shared} {H : Hp} {E : XK}
@[simp] theorem cx_K : (cxOf CX P w K mg base N qual scope f cd A outer s H E).K = K := rfl
@[simp] theorem nox_K {X : Cx} : X.nox.K = X.K := rfl
end
end Jk

namespace Jk
open PySem PySem.Spec L2 Evl
@[simp] theorem kc_nl : kitB "NoneType" "list" = some false := by decide +kernel
@[simp] theorem kc_bl : kitB "bool" "list" = some false := by decide +kernel
@[simp] theorem kc_il : kitB "int" "list" = some false := by decide +kernel
@[simp] theorem kc_sl : kitB "str" "list" = some false := by decide +kernel
@[simp] theorem kc_tl : kitB "tuple" "list" = some false := by decide +kernel
@[simp] theorem kc_dl : kitB "dict" "list" = some false := by decide +kernel
@[simp] theorem kc_ns : kitB "NoneType" "str" = some false := by decide +kernel
@[simp] theorem kc_bs : kitB "bool" "str" = some false := by decide +kernel
@[simp] theorem kc_is : kitB "int" "str" = some false := by decide +kernel
@[simp] theorem kc_ls : kitB "list" "str" = some false := by decide +kernel
@[simp] theorem kc_ts : kitB "tuple" "str" = some false := by decide +kernel
@[simp] theorem kc_ds : kitB "dict" "str" = some false := by decide +kernel
/-! ## lists of pairs of ints -/
def TupsAt (H : Hp) (ts : List Addr) (prs : List (Int × Int)) : Prop := ts.length = prs.length ∧ ∀ (k : Nat) (t : Addr) (p : Int × Int), ts[k]? = some t → prs[k]? = some p → H t = some (.tup [.int p.1, .int p.2])
theorem TupsAt.map {H H' : Hp} {ts : List Addr} {prs : List (Int × Int)} (h : TupsAt H ts prs) (e : ∀ t o, H t = some (.tup o) → H' t = some (.tup o)) : TupsAt H' ts prs := ⟨h.1, fun k t p a b => e _ _ (h.2 k t p a b)⟩
theorem TupsAt.up {H H' : Hp} {ts : List Addr} {prs : List (Int × Int)} (h : TupsAt H ts prs) (e : Ex H H') : TupsAt H' ts prs := h.map fun _ _ z => e _ _ z
theorem TupsAt.upd {H : Hp} {ts : List Addr} {prs : List (Int × Int)} {D : Addr} {xs : List V} {o : HO} (h : TupsAt H ts prs) (hD : H D = some (.lst xs)) : TupsAt (L2.upd H D o) ts prs := h.map fun t u z => by
  rw [upd_ne (ne_of z hD (by intro y; cases y))]
  exact z
theorem TupsAt.nil (H : Hp) : TupsAt H [] [] := ⟨rfl, fun k t p a b => by simp at a⟩
theorem TupsAt.snoc {H : Hp} {ts : List Addr} {prs : List (Int × Int)} {t : Addr} {p : Int × Int} (h : TupsAt H ts prs) (ht : H t = some (.tup [.int p.1, .int p.2])) : TupsAt H (ts ++ [t]) (prs ++ [p]) := by
  refine ⟨by simp [h.1], fun k t' p' a b => ?_⟩
  by_cases hk : k < ts.length
  · rw [List.getElem?_append_left hk] at a
    rw [List.getElem?_append_left (by rw [← h.1]; exact hk)] at b
    exact h.2 k t' p' a b
  · rw [List.getElem?_append_right (by omega)] at a
    rw [List.getElem?_append_right (by rw [← h.1]; omega)] at b
    have k0 : k - ts.length = 0 := by
      have := (List.getElem?_eq_some_iff.mp a).1
      simp at this; omega
    rw [k0] at a
    rw [show k - prs.length = 0 by rw [← h.1]; exact k0] at b
    simp at a b
    subst a b
    exact ht
theorem TupsAt.cons {H : Hp} {ts : List Addr} {prs : List (Int × Int)} {t : Addr} {p : Int × Int} : TupsAt H (t :: ts) (p :: prs) ↔ H t = some (.tup [.int p.1, .int p.2]) ∧ TupsAt H ts prs :=
  ⟨fun h => ⟨h.2 0 t p rfl rfl, by have := h.1; simpa using this, fun k t' p' a b => h.2 (k + 1) t' p' (by simpa using a) (by simpa using b)⟩,
    fun ⟨a, b, c⟩ => ⟨by simp [b], fun k t' p' x y => match k, x, y with
      | 0, x, y => by cases x; cases y; exact a
      | k + 1, x, y => c k t' p' (by simpa using x) (by simpa using y)⟩⟩
theorem TupsAt.app {H : Hp} {ts us : List Addr} {prs qrs : List (Int × Int)} (h : TupsAt H ts prs) (g : TupsAt H us qrs) : TupsAt H (ts ++ us) (prs ++ qrs) := by
  induction ts generalizing prs with
  | nil =>
    have : prs = [] := List.length_eq_zero_iff.mp h.1.symm
    subst this
    exact g
  | cons t ts ih =>
    cases prs with
    | nil => have := h.1; simp at this
    | cons p prs =>
      obtain ⟨a, b⟩ := TupsAt.cons.mp h
      exact TupsAt.cons.mpr ⟨a, ih b⟩
def pd (p : Int × Int) : PyData := .tuple [.int p.1, .int p.2]
theorem dpP {K : PySem.W.Frag} {H : Hp} {t : Addr} {p : Int × Int} (h : H t = some (.tup [.int p.1, .int p.2])) : Dp K H (.ref t) (pd p) := .tup (.inl (.inl h)) (.cons (.int _) (.cons (.int _) .nil))
theorem dpPs {K : PySem.W.Frag} {H : Hp} : ∀ {ts : List Addr} {prs : List (Int × Int)}, TupsAt H ts prs → DpAll K H (ts.map V.ref) (prs.map pd)
  | [], [], _ => .nil
  | [], p :: prs, h => by have := h.1; simp at this
  | t :: ts, [], h => by have := h.1; simp at this
  | t :: ts, p :: prs, h => .cons (dpP (TupsAt.cons.mp h).1) (dpPs (TupsAt.cons.mp h).2)
theorem dpL {K : PySem.W.Frag} {H : Hp} {l : Addr} {ts : List Addr} {prs : List (Int × Int)} (h : H l = some (.lst (ts.map V.ref))) (t : TupsAt H ts prs) : Dp K H (.ref l) (.list (prs.map pd)) := .lst (.inl (.inl h)) (dpPs t)
theorem pd_can (p : Int × Int) : (pd p).canLay0 = true := by simp [pd, PyData.canLay0, PyData.canLayAll0]
theorem pd_dep (p : Int × Int) : (pd p).depth = 1 := by simp [pd, PyData.depth, PyData.depthAll]
theorem pds_can : ∀ prs : List (Int × Int), PyData.canLayAll0 (prs.map pd) = true
  | [] => rfl
  | p :: prs => by simp [PyData.canLayAll0, pd_can p, pds_can prs]
theorem pds_dep : ∀ prs : List (Int × Int), PyData.depthAll (prs.map pd) ≤ 1
  | [] => by simp [PyData.depthAll]
  | p :: prs => by
    have h1 := pds_dep prs
    have h2 := pd_dep p
    simp only [List.map_cons, PyData.depthAll]
    omega
theorem pd_shaped (p : Int × Int) : SeqAt.shaped (pd p) = true := by
  show ((pd p).canLay0 && decide ((pd p).depth ≤ 64)) = true
  rw [pd_can, pd_dep]; rfl
theorem pds_shaped (prs : List (Int × Int)) : SeqAt.shaped (.list (prs.map pd)) = true := by
  have h1 := pds_dep prs
  have h2 : PyData.depth (.list (prs.map pd)) ≤ 64 := by simp only [PyData.depth]; omega
  show (PyData.canLay0 (.list (prs.map pd)) && decide (PyData.depth (.list (prs.map pd)) ≤ 64)) = true
  simp [PyData.canLay0, pds_can, h2]
theorem pd_eqv (p q : Int × Int) : PyData.eqv (pd p) (pd q) = decide (p = q) := by
  obtain ⟨a, b⟩ := p
  obtain ⟨c, d⟩ := q
  by_cases h1 : a = c <;> by_cases h2 : b = d <;> simp [pd, PyData.eqv, PyData.eqvAll, h1, h2]
theorem pds_any (prs : List (Int × Int)) (p : Int × Int) : ((prs.map pd).any fun z => PyData.eqv z (pd p)) = decide (p ∈ prs) := by
  induction prs with
  | nil => rfl
  | cons q prs ih =>
    rw [List.map_cons, List.any_cons, ih, pd_eqv]
    by_cases h : q = p
    · simp [h]
    · simp [h, Ne.symm h]
theorem pds_eqv (prs qrs : List (Int × Int)) : PyData.eqv (.list (prs.map pd)) (.list (qrs.map pd)) = decide (prs = qrs) := by
  rw [PyData.eqv]
  induction prs generalizing qrs with
  | nil =>
    cases qrs with
    | nil => simp [PyData.eqvAll]
    | cons q qrs => simp [PyData.eqvAll]
  | cons p prs ih =>
    cases qrs with
    | nil => simp [PyData.eqvAll]
    | cons q qrs =>
      rw [List.map_cons, List.map_cons, PyData.eqvAll, ih, pd_eqv]
      by_cases h : p = q <;> simp [h]
def LsP (H : Hp) (l : Addr) (prs : List (Int × Int)) : Prop := ∃ ts : List Addr, H l = some (.lst (ts.map V.ref)) ∧ TupsAt H ts prs
theorem LsP.up {H H' : Hp} {l : Addr} {prs : List (Int × Int)} (h : LsP H l prs) (e : Ex H H') : LsP H' l prs := let ⟨ts, a, b⟩ := h; ⟨ts, e _ _ a, b.up e⟩
theorem LsP.dp {K : PySem.W.Frag} {H : Hp} {l : Addr} {prs : List (Int × Int)} (h : LsP H l prs) : Dp K H (.ref l) (.list (prs.map pd)) := let ⟨_, a, b⟩ := h; dpL a b
theorem tups_uniq {H : Hp} {ts : List Addr} {prs qrs : List (Int × Int)} (h : TupsAt H ts prs) (g : TupsAt H ts qrs) : prs = qrs := by
  refine List.ext_getElem? fun k => ?_
  by_cases hk : k < ts.length
  · have a := h.2 k _ _ (List.getElem?_eq_getElem hk) (List.getElem?_eq_getElem (by rw [← h.1]; exact hk))
    have b := g.2 k _ _ (List.getElem?_eq_getElem hk) (List.getElem?_eq_getElem (by rw [← g.1]; exact hk))
    rw [a] at b
    rw [List.getElem?_eq_getElem (by rw [← h.1]; exact hk), List.getElem?_eq_getElem (by rw [← g.1]; exact hk)]
    have e := HO.tup.inj (Option.some.inj b)
    simp at e
    exact congrArg some (Prod.ext e.1 e.2)
  · rw [List.getElem?_eq_none (by rw [← h.1]; omega), List.getElem?_eq_none (by rw [← g.1]; omega)]
theorem LsP.uniq {H : Hp} {l : Addr} {prs qrs : List (Int × Int)} (h : LsP H l prs) (g : LsP H l qrs) : qrs = prs := by
  obtain ⟨ts, a, b⟩ := h
  obtain ⟨us, c, d⟩ := g
  rw [a] at c
  have e : ts = us := (List.map_inj_right (fun x y h => by cases h; rfl)).mp (HO.lst.inj (Option.some.inj c))
  subst e
  exact tups_uniq d b
theorem lsP_ex {H : Hp} {l : Addr} {prs : List (Int × Int)} {R : List (Int × Int) → Prop} (h : LsP H l prs) : (∃ qrs, LsP H l qrs ∧ R qrs) ↔ R prs := ⟨fun ⟨_, a, b⟩ => by rw [← h.uniq a]; exact b, fun r => ⟨prs, h, r⟩⟩
def PrA (H : Hp) (t : Addr) (p : Int × Int) : Prop := H t = some (.tup [.int p.1, .int p.2])
theorem PrA.of {H : Hp} {t : Addr} {a b : Int} (h : H t = some (.tup [.int a, .int b])) : PrA H t (a, b) := h
theorem prA_ex {H : Hp} {t : Addr} {p : Int × Int} {R : Int × Int → Prop} (h : PrA H t p) : (∃ q, PrA H t q ∧ R q) ↔ R p := ⟨fun ⟨q, a, b⟩ => by
  unfold PrA at h a
  rw [h] at a
  have e := HO.tup.inj (Option.some.inj a)
  simp at e
  have : p = q := Prod.ext e.1 e.2
  rw [this]; exact b, fun r => ⟨p, h, r⟩⟩
section
variable {X : Cx}
def jInP : R2 := fun x y H Q => ∃ t l, x = .ref t ∧ y = .ref l ∧ ∃ p, PrA H t p ∧ ∃ prs, LsP H l prs ∧ Q (.bl (decide (p ∈ prs))) H
def jNotInP : R2 := fun x y H Q => ∃ t l, x = .ref t ∧ y = .ref l ∧ ∃ p, PrA H t p ∧ ∃ prs, LsP H l prs ∧ Q (.bl (!decide (p ∈ prs))) H
def jEqP : R2 := fun x y H Q => ∃ t l, x = .ref t ∧ y = .ref l ∧ ∃ prs, LsP H t prs ∧ ∃ qrs, LsP H l qrs ∧ Q (.bl (decide (prs = qrs))) H
def jNeP : R2 := fun x y H Q => ∃ t l, x = .ref t ∧ y = .ref l ∧ ∃ prs, LsP H t prs ∧ ∃ qrs, LsP H l qrs ∧ Q (.bl (!decide (prs = qrs))) H
theorem op_inP (hu : X.A.units + 65 < cLine) : OpR X (compareOp .In) jInP := opBy (op_inD hu) fun x y H Q ⟨t, l, e1, e2, p, h1, prs, h2, q⟩ => ⟨pd p, prs.map pd, by rw [e1]; exact dpP h1, by rw [e2]; exact h2.dp, pd_shaped p, pds_shaped prs, by rw [pds_any]; exact q⟩
theorem op_notInP (hu : X.A.units + 65 < cLine) : OpR X (compareOp .NotIn) jNotInP := opBy (op_notInD hu) fun x y H Q ⟨t, l, e1, e2, p, h1, prs, h2, q⟩ => ⟨pd p, prs.map pd, by rw [e1]; exact dpP h1, by rw [e2]; exact h2.dp, pd_shaped p, pds_shaped prs, by rw [pds_any]; exact q⟩
theorem op_eqP (hu : X.A.units + 64 < cLine) : OpR X (compareOp .Eq) jEqP := opBy (op_eqD hu) fun x y H Q ⟨t, l, e1, e2, prs, h1, qrs, h2, q⟩ => ⟨_, _, by rw [e1]; exact h1.dp, by rw [e2]; exact h2.dp, pds_shaped prs, pds_shaped qrs, by rw [pds_eqv]; exact q⟩
theorem op_neP (hu : X.A.units + 64 < cLine) : OpR X (compareOp .NotEq) jNeP := opBy (op_neD hu) fun x y H Q ⟨t, l, e1, e2, prs, h1, qrs, h2, q⟩ => ⟨_, _, by rw [e1]; exact h1.dp, by rw [e2]; exact h2.dp, pds_shaped prs, pds_shaped qrs, by rw [pds_eqv]; exact q⟩
@[simp] theorem j_inP {t l : Addr} {H : Hp} {Q : VK} : jInP (.ref t) (.ref l) H Q = ∃ p, PrA H t p ∧ ∃ prs, LsP H l prs ∧ Q (.bl (decide (p ∈ prs))) H := by simp [jInP]
@[simp] theorem j_notInP {t l : Addr} {H : Hp} {Q : VK} : jNotInP (.ref t) (.ref l) H Q = ∃ p, PrA H t p ∧ ∃ prs, LsP H l prs ∧ Q (.bl (!decide (p ∈ prs))) H := by simp [jNotInP]
@[simp] theorem j_eqP {t l : Addr} {H : Hp} {Q : VK} : jEqP (.ref t) (.ref l) H Q = ∃ prs, LsP H t prs ∧ ∃ qrs, LsP H l qrs ∧ Q (.bl (decide (prs = qrs))) H := by simp [jEqP]
@[simp] theorem j_neP {t l : Addr} {H : Hp} {Q : VK} : jNeP (.ref t) (.ref l) H Q = ∃ prs, LsP H t prs ∧ ∃ qrs, LsP H l qrs ∧ Q (.bl (!decide (prs = qrs))) H := by simp [jNeP]
/-! lists of ints -/
def LsI (H : Hp) (l : Addr) (ns : List Int) : Prop := H l = some (.lst (ns.map V.int))
theorem LsI.uniq {H : Hp} {l : Addr} {ns ms : List Int} (h : LsI H l ns) (g : LsI H l ms) : ms = ns := by
  unfold LsI at h g
  rw [h] at g
  exact ((List.map_inj_right (fun x y h => by cases h; rfl)).mp (HO.lst.inj (Option.some.inj g))).symm
theorem lsI_ex {H : Hp} {l : Addr} {ns : List Int} {R : List Int → Prop} (h : LsI H l ns) : (∃ ms, LsI H l ms ∧ R ms) ↔ R ns := ⟨fun ⟨_, a, b⟩ => by rw [← h.uniq a]; exact b, fun r => ⟨ns, h, r⟩⟩
theorem dpIs {K : PySem.W.Frag} {H : Hp} : ∀ ns : List Int, DpAll K H (ns.map V.int) (ns.map PyData.int)
  | [] => .nil
  | n :: ns => .cons (.int n) (dpIs ns)
theorem dpI {K : PySem.W.Frag} {H : Hp} {l : Addr} {ns : List Int} (h : LsI H l ns) : Dp K H (.ref l) (.list (ns.map .int)) := .lst (.inl (.inl h)) (dpIs ns)
theorem is_can : ∀ ns : List Int, PyData.canLayAll0 (ns.map PyData.int) = true
  | [] => rfl
  | n :: ns => by simp [PyData.canLayAll0, PyData.canLay0, is_can ns]
theorem is_dep : ∀ ns : List Int, PyData.depthAll (ns.map PyData.int) = 0
  | [] => rfl
  | n :: ns => by simp [PyData.depthAll, PyData.depth, is_dep ns]
theorem is_shaped (ns : List Int) : SeqAt.shaped (.list (ns.map PyData.int)) = true := by
  show (PyData.canLay0 (.list (ns.map PyData.int)) && decide (PyData.depth (.list (ns.map PyData.int)) ≤ 64)) = true
  simp [PyData.canLay0, is_can, PyData.depth, is_dep]
theorem is_eqv (ns ms : List Int) : PyData.eqv (.list (ns.map PyData.int)) (.list (ms.map PyData.int)) = decide (ns = ms) := by
  rw [PyData.eqv]
  induction ns generalizing ms with
  | nil => cases ms <;> simp [PyData.eqvAll]
  | cons n ns ih =>
    cases ms with
    | nil => simp [PyData.eqvAll]
    | cons m ms =>
      rw [List.map_cons, List.map_cons, PyData.eqvAll, ih]
      by_cases h : n = m <;> simp [PyData.eqv, h]
def jEqI : R2 := fun x y H Q => ∃ t l, x = .ref t ∧ y = .ref l ∧ ∃ prs, LsI H t prs ∧ ∃ qrs, LsI H l qrs ∧ Q (.bl (decide (prs = qrs))) H
def jNeI : R2 := fun x y H Q => ∃ t l, x = .ref t ∧ y = .ref l ∧ ∃ prs, LsI H t prs ∧ ∃ qrs, LsI H l qrs ∧ Q (.bl (!decide (prs = qrs))) H
theorem op_eqI (hu : X.A.units + 64 < cLine) : OpR X (compareOp .Eq) jEqI := opBy (op_eqD hu) fun x y H Q ⟨t, l, e1, e2, prs, h1, qrs, h2, q⟩ => ⟨_, _, by rw [e1]; exact dpI h1, by rw [e2]; exact dpI h2, is_shaped prs, is_shaped qrs, by rw [is_eqv]; exact q⟩
theorem op_neI (hu : X.A.units + 64 < cLine) : OpR X (compareOp .NotEq) jNeI := opBy (op_neD hu) fun x y H Q ⟨t, l, e1, e2, prs, h1, qrs, h2, q⟩ => ⟨_, _, by rw [e1]; exact dpI h1, by rw [e2]; exact dpI h2, is_shaped prs, is_shaped qrs, by rw [is_eqv]; exact q⟩
@[simp] theorem j_eqI {t l : Addr} {H : Hp} {Q : VK} : jEqI (.ref t) (.ref l) H Q = ∃ prs, LsI H t prs ∧ ∃ qrs, LsI H l qrs ∧ Q (.bl (decide (prs = qrs))) H := by simp [jEqI]
@[simp] theorem j_neI {t l : Addr} {H : Hp} {Q : VK} : jNeI (.ref t) (.ref l) H Q = ∃ prs, LsI H t prs ∧ ∃ qrs, LsI H l qrs ∧ Q (.bl (!decide (prs = qrs))) H := by simp [jNeI]
/-! sorted(xs), xs a list of pairs -/
def pOf (H : Hp) : V → Int × Int
  | .ref q => match H q with
    | some (.tup [.int i, .int j]) => (i, j)
    | _ => (0, 0)
  | _ => (0, 0)
theorem pOf_at {H : Hp} {t : Addr} {p : Int × Int} (h : H t = some (.tup [.int p.1, .int p.2])) : pOf H (.ref t) = p := by simp [pOf, h]
theorem pOf_map {H : Hp} : ∀ {ts : List Addr} {prs : List (Int × Int)}, TupsAt H ts prs → (ts.map V.ref).map (pOf H) = prs
  | [], [], _ => rfl
  | [], p :: prs, h => by have := h.1; simp at this
  | t :: ts, [], h => by have := h.1; simp at this
  | t :: ts, p :: prs, h => by
    rw [List.map_cons, List.map_cons, pOf_at (TupsAt.cons.mp h).1, pOf_map (TupsAt.cons.mp h).2]
theorem tups_of {H : Hp} : ∀ {ts : List Addr}, (∀ t ∈ ts, H t = some (.tup [.int (pOf H (.ref t)).1, .int (pOf H (.ref t)).2])) → TupsAt H ts ((ts.map V.ref).map (pOf H))
  | [], _ => TupsAt.nil H
  | t :: ts, h => TupsAt.cons.mpr ⟨h t (by simp), tups_of fun u hu => h u (by simp [hu])⟩
def jSortP : List V → Hp → VK → Prop := fun vs H Q => ∃ l, vs = [.ref l] ∧ ∃ prs, LsP H l prs ∧ ∀ qrs D H', qrs.Perm prs → qrs.Pairwise lexLe → H D = none → Ex H H' → LsP H' D qrs → Q (.ref D) H'
@[simp] theorem j_sortP {l : Addr} {H : Hp} {Q : VK} : jSortP [.ref l] H Q = ∃ prs, LsP H l prs ∧ ∀ qrs D H', qrs.Perm prs → qrs.Pairwise lexLe → H D = none → Ex H H' → LsP H' D qrs → Q (.ref D) H' := by simp [jSortP]
theorem tup_at {H : Hp} {ts : List Addr} {prs : List (Int × Int)} (h : TupsAt H ts prs) {x : V} (hx : x ∈ ts.map V.ref) : ∃ t, x = .ref t ∧ t ∈ ts ∧ H t = some (.tup [.int (pOf H x).1, .int (pOf H x).2]) := by
  obtain ⟨t, ht, rfl⟩ := List.mem_map.mp hx
  obtain ⟨k, hk, e⟩ := List.mem_iff_getElem.mp ht
  have hk' : k < prs.length := by rw [← h.1]; exact hk
  have z := h.2 k t prs[k] (by rw [List.getElem?_eq_getElem hk, e]) (List.getElem?_eq_getElem hk')
  exact ⟨t, rfl, ht, by rw [pOf_at z]; exact z⟩
theorem call_sortP : CallR X (.builtin "sorted") jSortP := callBy cr_sortedPO fun vs H Q ⟨l, e, prs, ⟨ts, h1, h2⟩, q⟩ => by
  refine ⟨l, ts.map V.ref, pOf H, e, .inl (.inl h1), fun x hx => ?_, fun ys D s1 s2 hD => ?_⟩
  · obtain ⟨t, a, _, b⟩ := tup_at h2 hx
    exact ⟨t, a, b⟩
  · have hall : ∀ y ∈ ys, ∃ t, y = V.ref t ∧ t ∈ ts ∧ H t = some (.tup [.int (pOf H y).1, .int (pOf H y).2]) := fun y hy => tup_at h2 (s2.perm.mem_iff.mp hy)
    let adr : V → Addr := fun v => match v with | .ref t => t | _ => 0
    have ey : ys = (ys.map adr).map V.ref := by
      rw [List.map_map]
      refine List.ext_getElem (by simp) fun i h1 h2 => ?_
      obtain ⟨t, a, _⟩ := hall ys[i] (List.getElem_mem h1)
      simp [a, adr]
    have ex : Ex H (L2.upd H D (.lst ys)) := Ex.new hD
    refine q (ys.map (pOf H)) D _ ?_ ?_ hD ex ⟨ys.map adr, by rw [← ey]; exact upd_same, ?_⟩
    · rw [← pOf_map h2]
      exact s2.perm.map _
    · rw [List.pairwise_map]
      refine List.Pairwise.imp ?_ s1
      intro a b hab
      have z := SrtO.lexB_no.mp hab
      unfold lexLe
      omega
    · have h3 : TupsAt H (ys.map adr) (((ys.map adr).map V.ref).map (pOf H)) := tups_of fun t ht => by
        obtain ⟨y, hy, rfl⟩ := List.mem_map.mp ht
        obtain ⟨t, rfl, _, b⟩ := hall y hy
        exact b
      rw [← ey] at h3
      exact h3.up ex
/-! list(range(n)), l.pop(i), l.clear(), slices -/
def jLstR (ta : TE) : TE := fun σ H Q => ta σ H fun x H1 => ∃ n : Nat, x = .int n ∧ n ≤ 10000 ∧ ∀ q H2, H1 q = none → Ex H1 H2 → LsI H2 q ((List.range n).map fun (i : Nat) => (i : Int)) → Q (.ref q) H2
@[simp] theorem j_lstR {ta : TE} {σ : L2.St} {H : Hp} {Q : VK} : jLstR ta σ H Q = ta σ H fun x H1 => ∃ n : Nat, x = .int n ∧ n ≤ 10000 ∧ ∀ q H2, H1 q = none → Ex H1 H2 → LsI H2 q ((List.range n).map fun (i : Nat) => (i : Int)) → Q (.ref q) H2 := rfl
theorem pe_lstR {e : Expr} {ta : TE} {p pos p2 pos2 : Pos} (hc : X.calm = true) (hg : Gl X "list") (hm : X.mg "list" = none) (hg2 : Gl X "range") (hm2 : X.mg "range" = none) (he : PE X e ta) (na : starEach [e] X.env = (false, eval e X.env) :: starEach [] X.env := by rfl)
    (nb : starEach [.Call (.Name "range" p2) [e] [] pos2] X.env = (false, eval (.Call (.Name "range" p2) [e] [] pos2) X.env) :: starEach [] X.env := by rfl) : PE X (.Call (.Name "list" p) [.Call (.Name "range" p2) [e] [] pos2] [] pos) (jLstR ta) :=
  (pe_listRg hc hg hm (prg_1 hg2 hm2 he.cl na) nb).by fun σ H Q q => ⟨_, q, fun x H1 ⟨n, e, hn, k⟩ => by
    refine ⟨n, e, RgOk.of_le (by omega) (by omega) (by omega) (by omega), fun z hz => k z _ hz (Ex.new hz) ?_⟩
    unfold LsI
    rw [upd_same]
    unfold rgV
    rw [List.map_map, show ((n : Int) - 0).toNat = n by omega]
    congr 2
    refine List.map_congr_left fun i _ => ?_
    show V.int (0 + (i : Int)) = V.int i
    rw [Int.zero_add]⟩
def jPopA : V → List V → Hp → VK → Prop := fun x vs H Q => ∃ l i xs y, x = .ref l ∧ vs = [.int i] ∧ H l = some (.lst xs) ∧ 0 ≤ i ∧ xs[i.toNat]? = some y ∧ xs.length ≤ 100000 ∧ Q y (L2.upd H l (.lst (xs.eraseIdx i.toNat)))
@[simp] theorem j_popA {l : Addr} {i : Int} {H : Hp} {Q : VK} : jPopA (.ref l) [.int i] H Q = ∃ xs y, H l = some (.lst xs) ∧ 0 ≤ i ∧ xs[i.toNat]? = some y ∧ xs.length ≤ 100000 ∧ Q y (L2.upd H l (.lst (xs.eraseIdx i.toNat))) := by simp [jPopA]
theorem mt_popA : MtM X "list.pop" jPopA := fun pins s σ H x vs v us Q I rx rv ⟨l, i, xs, y, e1, e2, h, h0, hy, hl, q⟩ => mt_popAt pins s σ H x vs v us Q I rx rv (by
  have hlt : i.toNat < xs.length := (List.getElem?_eq_some_iff.mp hy).1
  have hi : i < (xs.length : Int) := by omega
  refine ⟨l, xs, i, i.toNat, y, e1, e2, h, by omega, by omega, ?_, hy, q⟩
  simp [seqIndex?, show ¬ i < 0 by omega, h0, hi])
@[simp] theorem j_clear {l : Addr} {H : Hp} {Q : VK} : rClear (.ref l) [] H Q = ∃ xs, H l = some (.lst xs) ∧ Q .non (L2.upd H l (.lst [])) := by simp [rClear]
def loN : Option Int → Nat
  | some i => i.toNat
  | none => 0
def hiT (xs : List V) : Option Int → List V
  | some i => xs.take i.toNat
  | none => xs
@[simp] theorem loN_some (i : Int) : loN (some i) = i.toNat := rfl
@[simp] theorem loN_none : loN none = 0 := rfl
@[simp] theorem hiT_some (xs : List V) (i : Int) : hiT xs (some i) = xs.take i.toNat := rfl
@[simp] theorem hiT_none (xs : List V) : hiT xs none = xs := rfl
/-- xs[lo:hi], its bounds whole numbers from 0 on or none -/
def jSlL : V → Option Int → Option Int → Hp → VK → Prop := fun x lo hi H Q => ∃ a xs, x = .ref a ∧ H a = some (.lst xs) ∧ (∀ i, lo = some i → 0 ≤ i) ∧ (∀ i, hi = some i → 0 ≤ i) ∧
  ∀ p H2, H p = none → Ex H H2 → H2 p = some (.lst ((hiT xs hi).drop (loN lo))) → Q (.ref p) H2
@[simp] theorem j_slL {a : Addr} {lo hi : Option Int} {H : Hp} {Q : VK} : jSlL (.ref a) lo hi H Q = ∃ xs, H a = some (.lst xs) ∧ (∀ i, lo = some i → 0 ≤ i) ∧ (∀ i, hi = some i → 0 ≤ i) ∧
  ∀ p H2, H p = none → Ex H H2 → H2 p = some (.lst ((hiT xs hi).drop (loN lo))) → Q (.ref p) H2 := by simp [jSlL]
theorem cut_eq (xs : List V) (lo hi : Option Int) (h1 : ∀ i, lo = some i → 0 ≤ i) (h2 : ∀ i, hi = some i → 0 ≤ i) : cutV xs lo hi = (hiT xs hi).drop (loN lo) := by
  unfold cutV HT.sIx
  cases lo with
  | none =>
    cases hi with
    | none => simp
    | some j =>
      have := h2 j rfl
      simp only
      rw [if_neg (by omega)]
      simp
  | some i =>
    have a := h1 i rfl
    cases hi with
    | none =>
      simp only [loN_some, hiT_none]
      rw [if_neg (by omega)]
      by_cases h : i.toNat ≤ xs.length
      · rw [Nat.min_eq_left h, ← List.length_drop, List.take_length]
      · rw [Nat.min_eq_right (by omega), Nat.sub_self, List.take_zero, List.drop_eq_nil_of_le (by omega)]
    | some j =>
      have b := h2 j rfl
      simp only [loN_some, hiT_some]
      rw [if_neg (by omega), if_neg (by omega)]
      by_cases h : i.toNat ≤ xs.length
      · rw [Nat.min_eq_left h, List.drop_take]
        by_cases g : j.toNat ≤ xs.length
        · rw [Nat.min_eq_left g]
        · rw [Nat.min_eq_right (by omega), List.take_of_length_le (by rw [List.length_drop]; exact Nat.le_refl _), List.take_of_length_le (by rw [List.length_drop]; omega)]
      · rw [show min i.toNat xs.length = xs.length by omega, List.drop_eq_nil_of_le (Nat.le_refl _), List.take_nil, List.drop_eq_nil_of_le]
        rw [List.length_take]; omega
theorem sl_lstJ : SlR X jSlL := fun pins s σ H x v vl vu lo hi sl Q I rx hs pl pu ⟨a, xs, e, h, h1, h2, k⟩ => sl_list pins s σ H x v vl vu lo hi sl Q I rx hs pl pu ⟨a, xs, e, .inl (.inl h), fun p hp => by
  have z := k p (L2.upd H p (.lst (cutV xs lo hi))) hp (Ex.new hp) (by rw [upd_same, cut_eq xs lo hi h1 h2])
  exact z⟩
def jSlice (te : TE) (tl th : TO) : TE := tSl jSlL te tl th
@[simp] theorem j_slice {te : TE} {tl th : TO} {σ : L2.St} {H : Hp} {Q : VK} : tSl jSlL te tl th σ H Q = te σ H fun x H1 => tl σ H1 fun l H2 => th σ H2 fun u H3 => jSlL x l u H3 Q := rfl
@[simp] theorem j_noPart {σ : L2.St} {H : Hp} {Q : Option Int → Hp → Prop} : tNoPart σ H Q = Q none H := rfl
@[simp] theorem j_part {t : TE} {σ : L2.St} {H : Hp} {Q : Option Int → Hp → Prop} : tPart t σ H Q = t σ H fun x H1 => ∃ i, x = .int i ∧ Q (some i) H1 := rfl
end
theorem _root_.L2.Room.u65 {A : Around} {k : Nat} (hr : Room k A) : A.units + 65 < cLine := by have := hr.un; omega
end Jk

namespace Jk
open PySem PySem.Spec PyProof.Rows L2 Evl
/-! ## len(set(xs)), xs a list of ints, some of them alike perhaps -/
theorem met_len (f : Nat → Int) : ∀ n : Nat, (PyProof.Rows.firstMet f n).length ≤ n ∧ (¬ ((List.range n).map f).Nodup → (PyProof.Rows.firstMet f n).length < n) ∧ (((List.range n).map f).Nodup → (PyProof.Rows.firstMet f n).length = n)
  | 0 => ⟨Nat.le_refl _, fun h => absurd List.nodup_nil h, fun _ => rfl⟩
  | n + 1 => by
    obtain ⟨i1, i2, i3⟩ := met_len f n
    have hd : ((List.range (n + 1)).map f).Nodup ↔ ((List.range n).map f).Nodup ∧ ¬ f n ∈ (List.range n).map f := by
      rw [List.range_succ, List.map_append]
      show ((List.range n).map f ++ [f n]).Nodup ↔ _
      rw [List.nodup_append]
      constructor
      · rintro ⟨a, _, c⟩
        exact ⟨a, fun z => c _ z _ (by simp) rfl⟩
      · rintro ⟨a, b⟩
        exact ⟨a, by simp, fun x hx y hy e => b (by simp at hy; rw [← hy, ← e]; exact hx)⟩
    have ha : (PyProof.Rows.firstMet f n).any (· == f n) = decide (f n ∈ (List.range n).map f) := by
      rw [PyProof.Rows.firstMet_any]
      rw [Bool.eq_iff_iff]
      rw [List.any_eq_true, decide_eq_true_iff]
      constructor
      · rintro ⟨x, hx, e⟩
        rw [← eq_of_beq e]; exact hx
      · exact fun h => ⟨_, h, beq_self_eq_true _⟩
    rw [PyProof.Rows.firstMet_succ]
    unfold PyProof.Rows.step_dedup
    rw [ha]
    by_cases hm : f n ∈ (List.range n).map f
    · rw [if_pos (decide_eq_true hm)]
      exact ⟨by omega, fun _ => by omega, fun z => absurd hm (hd.mp z).2⟩
    · rw [if_neg (by simp only [decide_eq_true_eq]; exact hm), List.length_append]
      refine ⟨by simp; omega, fun z => ?_, fun z => ?_⟩
      · have : ¬ ((List.range n).map f).Nodup := fun y => z (hd.mpr ⟨y, hm⟩)
        have := i2 this
        simp; omega
      · have := i3 (hd.mp z).1
        simp; omega
theorem met_list (ns : List Int) : (List.range ns.length).map (fun i => ns.getD i 0) = ns := by
  refine List.ext_getElem (by simp) fun i h1 h2 => ?_
  rw [List.getElem_map, List.getElem_range, List.getD_eq_getElem?_getD, List.getElem?_eq_getElem h2]
  rfl
def jLenSet (ta : TE) : TE := fun σ H Q => ta σ H fun x H1 => ∃ (l : Addr), x = .ref l ∧ ∃ (ns : List Int), LsI H1 l ns ∧ ns.length ≤ 1000 ∧ ∀ m : Nat, (m = ns.length ↔ ns.Nodup) → Q (.int m) H1
@[simp] theorem j_lenSet {ta : TE} {σ : L2.St} {H : Hp} {Q : VK} : jLenSet ta σ H Q = ta σ H fun x H1 => ∃ (l : Addr), x = .ref l ∧ ∃ (ns : List Int), LsI H1 l ns ∧ ns.length ≤ 1000 ∧ ∀ m : Nat, (m = ns.length ↔ ns.Nodup) → Q (.int m) H1 := rfl
theorem pe_lenSetJ {X : Cx} {a : Expr} {ta : TE} {p p2 pos pos2 : Pos} (hc : X.calm = true) (g1 : Gl X "len") (m1 : X.mg "len" = none) (g2 : Gl X "set") (m2 : X.mg "set" = none) (ha : PE X a ta)
    (na : starEach [a] X.env = (false, eval a X.env) :: starEach [] X.env := by rfl) : PE X (.Call (.Name "len" p) [.Call (.Name "set" p2) [a] [] pos2] [] pos) (jLenSet ta) := by
  refine ⟨fun pins s σ H Q I h => Call_ (ld_blt I g1 m1 PySem.boot_len (PyProof.Rows.callWith_builtin1 (PyProof.Rows.args_cons (Call_ (ld_blt I g2 m2 PyProof.Rows.boot_set ?_)) rfl) rfl rfl))⟩
  refine PyProof.Rows.callWith_type1 (PyProof.Rows.args_cons (thn (ha.run pins s σ H _ I h) ?_) na) na rfl
  rintro v s1 ⟨x, H1, I1, r1, l, rfl, ns, hq, hlen, q1⟩
  refine PyProof.Rows.args_nil ?_
  cases r1
  obtain ⟨its, r, pl, hz⟩ := I1.list (.inl (.inl hq))
  have en : its.toArray.size = ns.length := by simpa using r.length.symm
  refine call_set_list (I1.ok.hd hc) pl.isList (ns := ns) (by simpa using r.ints) (by unfold scanBound; omega) fun h2 tk hS hk => PyProof.Rows.args_nil ?_
  rw [en] at hS
  obtain ⟨o, es, ep, t, ho, hex, hd, _, _, _, hf, hn⟩ := hS
  obtain ⟨k1, k2, k3⟩ := met_len (fun i => ns.getD i 0) ns.length
  rw [met_list] at k2 k3
  have J : Inv X pins σ H1 { s1 with heap := h2, toks := tk } := I1.kept fun b o e => hk b o (Heap.lt_size e) e
  refine call_len_set ho hex hd hf (by rw [hn]; omega) ⟨.int (PyProof.Rows.firstMet (fun i => ns.getD i 0) ns.length).length, H1, J.tok _, ⟨_, by rw [hn]⟩, q1 _ ⟨fun e => ?_, k3⟩⟩
  by_cases hh : ns.Nodup
  · exact hh
  · have := k2 hh; omega
theorem erase_perm {α : Type} : ∀ (l : List α) (i : Nat) (x : α), l[i]? = some x → (x :: l.eraseIdx i).Perm l
  | [], i, x, h => by simp at h
  | a :: l, 0, x, h => by
    simp at h
    subst h
    exact List.Perm.refl _
  | a :: l, i + 1, x, h => (List.Perm.swap a x _).trans ((erase_perm l i x (by simpa using h)).cons a)
/-! isinstance(x, C), x an object made by C -/
structure IsC (K : PySem.W.Frag) (C : Addr) : Prop where
  ha : PySem.W.findIn K (.ref C) "__class__" = some (some (.builtin "object.__class__"))
  hn : PySem.W.specialIn K (.builtin "object.__class__") "__get__" = some (some (.builtin "getset_descriptor.__get__"))
  ht : PySem.W.takesIn K (.builtin "object.__class__") = some true
  hm : PySem.W.mroIn K C (.type "object") = some true
def jIsC (K : PySem.W.Frag) : List V → Hp → VK → Prop := fun xs H Q => ∃ a C, xs = [.ref a, .ref C] ∧ (∃ dx fs, H a = some (.ins C dx fs)) ∧ Cls K C ∧ IsC K C ∧ Q (.bl true) H
@[simp] theorem j_isC {K : PySem.W.Frag} {a C : Addr} {H : Hp} {Q : VK} : jIsC K [.ref a, .ref C] H Q = ((∃ dx fs, H a = some (.ins C dx fs)) ∧ Cls K C ∧ IsC K C ∧ Q (.bl true) H) := propext ⟨fun ⟨_, _, e, r⟩ => by cases e; exact r, fun r => ⟨_, _, rfl, r⟩⟩
theorem call_isC {X : Cx} {K0 : PySem.W.Frag} (hK : X.K = K0 := by rfl) : CallR X (.builtin "isinstance") (jIsC K0) := by
  subst hK
  exact callBy call_isi fun xs H Q ⟨a, C, e, ⟨dx, fs, h⟩, cl, ic, q⟩ => ⟨.ref a, .ref C, .ref C, .ref C, true, e, .own C, .base (.ins h cl ic.ha ic.hn ic.ht ic.hm), if_pos (beq_self_eq_true _), q⟩
@[simp] theorem j_callS {sp : Sp} {E : L2.St → XK} {tr : TA} {σ : L2.St} {H : Hp} {Q : VK} : tCallS sp E tr σ H Q = tr σ H fun vs H1 => sp vs H1 Q (E σ) := rfl
@[simp] theorem j_cat {l b : Addr} {H : Hp} {Q : VK} : jCat (.ref l) (.ref b) H Q = ∃ xs, H l = some (.lst xs) ∧ ∃ zs, H b = some (.lst zs) ∧ xs.length + zs.length ≤ 100000 ∧ ∀ p H2, H p = none → Ex H H2 → H2 p = some (.lst (xs ++ zs)) → Q (.ref p) H2 := by
  unfold jCat
  refine propext ⟨fun ⟨l', b', xs, zs, e1, e2, h1, h2, h3, k⟩ => ?_, fun ⟨xs, h1, zs, h2, h3, k⟩ => ⟨l, b, xs, zs, rfl, rfl, h1, h2, h3, k⟩⟩
  cases e1
  cases e2
  exact ⟨xs, h1, zs, h2, h3, k⟩
def jTupL : List V → Hp → VK → Prop := fun vs H Q => ∃ p, vs = [.ref p] ∧ ∃ xs, H p = some (.lst xs) ∧ ∀ l H2, H l = none → Ex H H2 → H2 l = some (.tup xs) → Q (.ref l) H2
@[simp] theorem j_tupL {p : Addr} {H : Hp} {Q : VK} : jTupL [.ref p] H Q = ∃ xs, H p = some (.lst xs) ∧ ∀ l H2, H l = none → Ex H H2 → H2 l = some (.tup xs) → Q (.ref l) H2 := by simp [jTupL]
theorem call_tupJ {X : Cx} : CallR X (.type "tuple") jTupL := callBy call_tuple_of fun vs H Q ⟨p, e, xs, h, q⟩ => ⟨p, xs, e, .inl ⟨.inl (.inl h), fun l hl => q l _ hl (Ex.new hl) upd_same⟩⟩
@[simp] theorem j_list {p : Addr} {H : Hp} {Q : VK} {xs : List V} : (jList [.ref p] H Q ∧ H p = some (.lst xs)) = ((∀ l H2, H l = none → Ex H H2 → H2 l = some (.lst xs) → Q (.ref l) H2) ∧ H p = some (.lst xs)) := by
  unfold jList
  refine propext ⟨fun ⟨⟨p', ys, e, h, q⟩, h'⟩ => ?_, fun ⟨q, h'⟩ => ⟨⟨p, xs, rfl, .inl h', q⟩, h'⟩⟩
  cases e
  rcases h with h | h
  · rw [h'] at h
    cases h
    exact ⟨q, h'⟩
  · rw [h'] at h
    cases h
end Jk

namespace Jk
open PySem PySem.Spec PySem.Calls PyProof.Rows L2 Evl
/-! ## sorted(xs, key=f), f a def of the program: a new list, sorted by whole numbers -/
/-- two raw objects of ours have changed, and one of them is tracked from now on -/
theorem inv_take2 {X : Cx} {pins : List (Addr × Obj)} {σ : L2.St} {H : Hp} {s : Shared} {h2 : Heap} {tk : Nat} {a b : Addr} {o : HO} (I : L2.Inv X pins σ H s) (k : ∀ c ob, c ≠ a → c ≠ b → s.heap.get? c = some ob → h2.get? c = some ob)
    (fa : FpOk X pins H a) (fb : FpOk X pins H b) (new : ObjOk X.prog X.w (upd H a o) h2 a o) : L2.Inv X pins σ (upd H a o) { s with heap := h2, toks := tk } := by
  obtain ⟨an, aL, _, a1, a2, a3⟩ := fa
  obtain ⟨bn, bL, _, b1, b2, b3⟩ := fb
  have na : ∀ c u, H c = some u → c ≠ a := fun c u e z => by rw [z, an] at e; cases e
  have nb : ∀ c u, H c = some u → c ≠ b := fun c u e z => by rw [z, bn] at e; cases e
  have up : ∀ c u, H c = some u → upd H a o c = some u := fun c u e => by rw [upd_ne (na c u e)]; exact e
  refine I.step (g' := s.gens) (d' := s.drawn) (ch := [a, b]) (fun c hc => ?_) (fun c ob _ _ hc e _ => ?_) (fun c ob _ _ hc e _ => ?_) (fun c ob hc _ n => ?_) (fun c ob hc e => ?_) (fun c _ e => up c _ e) (fun c _ _ e => up c _ e) (fun c ps e => ⟨#[], by rw [up c _ e]; simp⟩) (fun m hm => ?_) (fun c u e => ?_) I.bare
  · rcases List.mem_cons.mp hc with rfl | hc
    · exact ⟨a1, aL, a2, a3⟩
    · rw [List.mem_singleton.mp hc]
      exact ⟨b1, bL, b2, b3⟩
  · exact k c ob (fun z => hc (by simp [z])) (fun z => hc (by simp [z])) e
  · exact ⟨ob.slots, k c ob (fun z => hc (by simp [z])) (fun z => hc (by simp [z])) e⟩
  · rw [upd_ne (fun z => hc (by simp [z]))]; exact n
  · exact ⟨ob, k c ob (fun z => hc (by simp [z])) (fun z => hc (by simp [z])) e⟩
  · obtain ⟨ob, es, ep, ho, r⟩ := hm
    exact ⟨ob, es, ep, k _ ob (Ne.symm aL) (Ne.symm bL) ho, r⟩
  · by_cases hc : c = a
    · rw [hc, upd_same] at e
      cases e
      rw [hc]
      exact new
    · rw [upd_ne hc] at e
      refine (I.hok c u e).stay (fun d v hd q => ?_) (fun d q => up d _ q) fun d _ q => up d _ q
      rcases hd with z | z
      · rw [z] at q ⊢
        exact k c v hc (nb c u e) q
      · exact k d v (na d _ z) (nb d _ z) q
theorem fp_frs {X : Cx} {pins : List (Addr × Obj)} {σ : L2.St} {H : Hp} {s : Shared} (I : L2.Inv X pins σ H s) {b : Addr} (f : FpOk X pins H b) : b ∉ frs X.stack := by
  obtain ⟨_, f1, f2, _⟩ := f
  rcases I.ok.stk with e | ⟨e, e2⟩
  · rw [e]; exact f2
  · rw [e]
    intro hb
    have f2 : b ∉ frs X.outer := f2
    unfold frs at hb f2
    rw [List.filterMap_cons, e2] at hb
    rcases List.mem_cons.mp hb with z | z
    · exact f1 z
    · exact f2 z
def rSortKF (K : PySem.W.Frag) (spf : Sp) : List V → Hp → VK → Prop := fun vs H Q => ∃ (l : Addr) (xs : List V) (ks : List Int), vs = [.ref l] ∧ SqL K H l xs ∧ ks.length = xs.length ∧
  (∀ (j : Nat) (x : V) (k : Int), xs[j]? = some x → ks[j]? = some k → spf [x] H (fun v H1 => v = .int k ∧ H1 = H) fun _ _ _ => False) ∧
  ∀ (zs : List (V × Int)) (D : Addr) (H2 : Hp), zs.Perm (xs.zip ks) → zs.Pairwise (fun p q => p.2 ≤ q.2) → H D = none → Ex H H2 → H2 D = some (.lst (zs.map (·.1))) → Q (.ref D) H2
section
variable {X : Cx} {k : Nat} {f : Addr} {fd : FuncData} {ps : List Str} {spf : Sp} {pins : List (Addr × Obj)} {σ : L2.St} {H : Hp}
/-- the state while the keys are made -/
def KeyS (X : Cx) (pins : List (Addr × Obj)) (σ : L2.St) (H : Hp) (a kS : Addr) (e1 : Nat) (ks : List Int) (i : Nat) (s : Shared) : Prop :=
  L2.Inv X pins σ H s ∧ s.heap.get? a = some (seqObj "list" #[] e1) ∧ ∃ (kA : Array Value) (e : Nat), s.heap.get? kS = some (seqObj "list" kA e) ∧ Vals ((ks.take i).map V.int) kA.toList
theorem call_key (F : FnOk X.prog X.w X.K X.mg X.base CX0 k f fd ps spf) (room : Room (k + 2) X.A) (bnd : L2.Binds X.K fd ps []) {s : Shared} {x : V} {u : Value} {n : Int} (I : L2.Inv X pins σ H s) (r : RelV x u) (h : spf [x] H (fun v H1 => v = .int n ∧ H1 = H) fun _ _ _ => False) {Q : Value → Shared → Prop} {E : Value → Shared → Prop}
    (q : ∀ (s2 : Shared) (t : Tok), L2.Inv X pins σ H s2 → (∀ b o, FpOk X pins H b → s.heap.get? b = some o → s2.heap.get? b = some o) → Q (.int n t) s2) : wpAny (model X.prog X.w) X.A.in1.in1 (call (.ref f) [u]) Q E s := by
  have rv : Vals [x] [u] := .cons r .nil
  have hl : ([u] ++ []).length = ps.length := by
    rw [List.append_nil, ← rv.length]
    exact F.len _ _ _ _ h
  have bt := bnd s [u] I.kIn hl
  rw [List.append_nil] at bt
  refine wpAny_call (codeAny_mono (F.run X.A.in1.in1 X.stack s H ⟨[u], []⟩ [u] [x] _ _ room.in1.in1 I.env0.in1.in1 bt rv h) fun rr s2 hq => ?_)
  cases rr with
  | error e => exact False.elim hq
  | ok fl =>
    cases fl with
    | next => exact False.elim hq
    | brk => exact False.elim hq
    | cont => exact False.elim hq
    | ret w =>
      have ce : CE X.stack X.prog X.w H s (fun v H1 => v = .int n ∧ H1 = H) w s2 := hq
      obtain ⟨v, H1, J, rv2, ev, eH⟩ := I.after ce
      obtain ⟨_, H3, _, _, un, _, _, _, e3⟩ := ce
      subst ev eH
      obtain ⟨t, rfl⟩ := rv2
      exact q s2 t J fun b o fb e => un.keep b o e fb.1 (fp_frs I fb) (by simp)
theorem call_sortKF (F : FnOk X.prog X.w X.K X.mg X.base CX0 k f fd ps spf) (room : Room (k + 2) X.A) (bnd : L2.Binds X.K fd ps []) {s : Shared} {vs : List V} {us : List Value} {Q : VK} (I : L2.Inv X pins σ H s) (r : Vals vs us) (h : rSortKF X.K spf vs H Q) :
    wpAny (model X.prog X.w) X.A (call (.builtin "sorted") us [(Str.ofString "key", .ref f)]) (EP X pins σ Q) X.xe s := by
  obtain ⟨l, xs, ks, rfl, hs, hlen, hk, q⟩ := h
  obtain ⟨its, rv, hl, hz⟩ := I.list hs
  obtain ⟨u, rfl, ru⟩ := vals1 r
  obtain rfl : u = Value.ref l := ru
  have lv : xs.length = its.length := rv.length
  have hZ : its.length ≤ sizeLine := by rw [← lv]; exact hz
  refine PySem.W.sorted_of_sort hl.isList hZ (ksk_s1 _ _) (fun _ => ksk_l1 _ _) fun E' => ?_
  rw [ksk_t1]
  have ho := PySem.W.copyHeap_at s.heap its
  obtain ⟨e1, ho1⟩ : ∃ e1, ((PySem.W.copyHeap s.heap its).update (s.heap.objs.size + 1) (Obj.mapSeq fun _ => (#[] : Array Value))).get? (s.heap.objs.size + 1) = some (seqObj "list" #[] e1) := ⟨_, get?_update_seq ho fun _ => #[]⟩
  have ca : s.heap.objs.size + 1 < (PySem.W.copyHeap s.heap its).objs.size := Heap.lt_size ho
  unfold ksk_tree
  refine wpAny_bind (listItems_at ho rfl (wpAny_bind (listUpdate_at ho rfl ?_ (by rw [List.size_toArray]; exact hZ) (Nat.zero_le _))))
  refine wpAny_bind (seqEpoch_at ho1 rfl (wpAny_bind (wpAny_newTuple ?_ (by show its.length ≤ _; exact hZ))))
  refine wpAny_bind (wpAny_newList (wpAny_holding ?_) (Nat.zero_le _))
  generalize hkS : (((PySem.W.copyHeap s.heap its).update (s.heap.objs.size + 1) (Obj.mapSeq fun _ => (#[] : Array Value))).push (seqObj "tuple" its.toArray 0)).objs.size = kS
  have kSsz : kS = (PySem.W.copyHeap s.heap its).objs.size + 1 := by rw [← hkS, size_push', Heap.size_update]
  have a1 : s.heap.objs.size ≤ s.heap.objs.size + 1 := Nat.le_succ _
  have a2 : s.heap.objs.size ≤ kS := by omega
  have hka : kS ≠ s.heap.objs.size + 1 := by omega
  have fa : FpOk X pins H (s.heap.objs.size + 1) := I.fpOk a1 (I.hok.fresh a1)
  have fk : FpOk X pins H kS := I.fpOk a2 (I.hok.fresh a2)
  have keep0 : ∀ b o, s.heap.get? b = some o → (((PySem.W.copyHeap s.heap its).update (s.heap.objs.size + 1) (Obj.mapSeq fun _ => (#[] : Array Value))).push (seqObj "tuple" its.toArray 0)).get? b = some o := fun b o e => by
    have hb : b < s.heap.objs.size := Heap.lt_size e
    refine Heap.get?_push_of_some _ ?_
    exact ((Heap.SameBut.update (PySem.W.copyHeap s.heap its) (s.heap.objs.size + 1) (Obj.mapSeq fun _ => (#[] : Array Value))).2 b (Nat.ne_of_lt (Nat.lt_succ_of_lt hb))).trans (PySem.W.copyHeap_old e)
  have S0 : KeyS X pins σ H (s.heap.objs.size + 1) kS e1 ks 0 { s with heap := (((PySem.W.copyHeap s.heap its).update (s.heap.objs.size + 1) (Obj.mapSeq fun _ => (#[] : Array Value))).push (seqObj "tuple" its.toArray 0)).push (seqObj "list" #[] 0) } := by
    refine ⟨I.kept (t' := s.toks) fun b o e => Heap.get?_push_of_some _ (keep0 b o e), Heap.get?_push_of_some _ (Heap.get?_push_of_some _ ho1), #[], 0, ?_, .nil⟩
    rw [← hkS]
    exact Heap.get?_push_size _ rfl
  unfold ksk_rest
  refine wpAny_bind (wpAny_rule ?_)
  rw [← Array.forIn_toList]
  simp only [List.toList_toArray]
  refine wpAny_bind (ksk_fold (fun i s2 => KeyS X pins σ H (s.heap.objs.size + 1) kS e1 ks i s2) its 0 _ S0 ?step ?done)
  case step =>
    rintro j v s2 hx ⟨J, na, kA, e, nk, hv⟩
    simp only [Nat.zero_add] at hv ⊢
    have hj : j < its.length := (List.getElem?_eq_some_iff.mp hx).1
    have hxj : xs[j]? = some xs[j] := List.getElem?_eq_getElem (by omega)
    have hkj : ks[j]? = some ks[j] := List.getElem?_eq_getElem (by omega)
    obtain ⟨v2, hv2, rx⟩ := rv.get hxj
    obtain rfl : v2 = v := Option.some.inj (hv2.symm.trans hx)
    have kz : kA.size ≤ its.length := by
      have z := hv.length
      have z2 : kA.toList.length = kA.size := Array.length_toList
      rw [List.length_map, List.length_take] at z
      omega
    refine wpAny_bind (wpAny_attempt (call_key F room bnd J rx (hk j _ _ hxj hkj) fun s3 t J3 keep3 => ?_))
    try dsimp only
    have nk3 := keep3 _ _ fk nk
    have na3 := keep3 _ _ fa na
    have sb := Heap.SameBut.update s3.heap kS (Obj.mapSeq (·.push (Value.int ks[j] t)))
    obtain ⟨c2, hc2⟩ : ∃ c2, (s3.heap.update kS (Obj.mapSeq (·.push (Value.int ks[j] t)))).get? kS = some (seqObj "list" (kA.push (Value.int ks[j] t)) c2) := ⟨_, get?_update_seq nk3 (·.push (Value.int ks[j] t))⟩
    refine wpAny_bind (listUpdate_at nk3 rfl ?_ (Nat.le_trans kz hZ) (Nat.le_trans (Nat.le_of_eq (Array.size_push ..)) (Nat.succ_le_succ (Nat.le_trans kz hZ))))
    obtain ⟨f1, f2, _, f4, f5, f6⟩ := fk
    have J4 : L2.Inv X pins σ H { s3 with heap := s3.heap.update kS (Obj.mapSeq (·.push (Value.int ks[j] t))) } := J3.turned (t' := s3.toks) (it := kS) (fun b o hb ee => (sb.2 b hb).trans ee) f1 f2 f4 f5 f6
    refine wpAny_pure ⟨rfl, J4, (sb.2 _ hka.symm).trans na3, kA.push (Value.int ks[j] t), c2, hc2, ?_⟩
    have et : ks.take (j + 1) = ks.take j ++ [ks[j]] := by rw [List.take_add_one, hkj]; rfl
    have ea : (kA.push (Value.int ks[j] t)).toList = kA.toList ++ [Value.int ks[j] t] := by simp
    rw [et, ea, List.map_append]
    exact hv.append (.cons ⟨t, rfl⟩ .nil)
  case done =>
    rintro s2 ⟨J, na, kA, e, nk, hv⟩
    rw [Nat.zero_add, List.take_of_length_le (by omega)] at hv
    have ksz : kA.size = its.length := by
      have z := hv.length
      have z2 : kA.toList.length = kA.size := Array.length_toList
      rw [List.length_map] at z
      omega
    try dsimp only
    refine wpAny_bind (listItems_at nk rfl ?_)
    have each : PySem.W.EachIs (fun v d => ∃ as, Reads s2.heap v d as) kA.toList (ks.map PyData.int) := by
      have gen : ∀ (ks : List Int) (l : List Value), Vals (ks.map V.int) l → PySem.W.EachIs (fun v d => ∃ as, Reads s2.heap v d as) l (ks.map PyData.int) := by
        intro ks
        induction ks with
        | nil => intro l hl; cases hl; exact .nil
        | cons n ks ih =>
          intro l hl
          cases hl with
          | cons r1 r2 =>
            obtain ⟨t, rfl⟩ := r1
            exact .cons ⟨_, Reads.int n t⟩ (ih _ r2)
      exact gen ks _ hv
    have alk : PySem.W.AllAlike (ks.map PyData.int) := by
      intro d hd d' hd'
      obtain ⟨n, _, rfl⟩ := List.mem_map.mp hd
      obtain ⟨m, _, rfl⟩ := List.mem_map.mp hd'
      rfl
    have srt : PySem.W.Sortable (ks.map PyData.int) := .inr fun d hd => by
      obtain ⟨n, _, rfl⟩ := List.mem_map.mp hd
      exact ⟨by simp, by simp⟩
    let G : Hp := fun b => if b = kS then some (.lst []) else none
    refine PySem.W.keyH_end (κ := PySem.W.dataKind s2.heap (ks.map .int)) (h₁ := hidT s2.heap G) (fun b o _ ee => (of_hidT ee).1) ?_ nk na hka (PySem.W.SortsAt.data each alk srt fun d hd => ?_) ksz hZ fun h3 tk c kb n3 => ⟨rfl, ?_⟩
    · cases z : (hidT s2.heap G).get? kS with
      | none => rfl
      | some o =>
        have y := (of_hidT z).2
        rw [show G kS = some (.lst []) from if_pos rfl] at y
        cases y
    · obtain ⟨n, _, rfl⟩ := List.mem_map.mp hd
      have := room.un
      show X.A.units + 1 + 1 + (PyData.int n).depth < cLine
      simp only [PyData.depth]
      omega
    · have eachP : PySem.W.EachIs (fun v (p : V × Int) => RelV p.1 v) its (xs.zip ks) := by
        have gen : ∀ (xs : List V) (ks : List Int) (l : List Value), Vals xs l → ks.length = xs.length → PySem.W.EachIs (fun v (p : V × Int) => RelV p.1 v) l (xs.zip ks) := by
          intro xs
          induction xs with
          | nil => intro ks l hl _; cases hl; exact .nil
          | cons x xs ih =>
            intro ks l hl hh
            cases hl with
            | cons r1 r2 =>
              cases ks with
              | nil => simp at hh
              | cons n ks => exact .cons r1 (ih ks _ r2 (by simpa using hh))
        exact gen xs ks its rv hlen
      have ekz : (xs.zip ks).map (fun p => PyData.int p.2) = ks.map PyData.int := by
        have e0 : (xs.zip ks).map Prod.snd = ks := List.map_snd_zip (by omega)
        have e1 : (xs.zip ks).map (fun p => PyData.int p.2) = ((xs.zip ks).map Prod.snd).map PyData.int := by rw [List.map_map]; rfl
        rw [e1, e0]
      have ko : PySem.W.KeyedOut false ((xs.zip ks).map fun p => PyData.int p.2) its (PySem.W.sortVals (PySem.W.dataKind s2.heap (ks.map .int)) false kA.toList its) := by
        rw [ekz]
        exact ⟨s2.heap, kA.toList, alk, rfl, each⟩
      have eo := PySem.W.keyedOut_each (fun p : V × Int => PyData.int p.2) ko eachP
      rw [PySem.W.dataLe_int (fun p : V × Int => p.2)] at eo
      generalize hzs : (xs.zip ks).mergeSort (fun a b => decide (a.2 ≤ b.2)) = zs at eo
      have hperm : zs.Perm (xs.zip ks) := by rw [← hzs]; exact List.mergeSort_perm _ _
      have hsort : zs.Pairwise (fun p q => p.2 ≤ q.2) := by
        have z := List.pairwise_mergeSort (le := fun a b : V × Int => decide (a.2 ≤ b.2)) (fun a b c h1 h2 => decide_eq_true (Int.le_trans (of_decide_eq_true h1) (of_decide_eq_true h2))) (fun a b => by
          by_cases h : a.2 ≤ b.2
          · simp [h]
          · simp [show b.2 ≤ a.2 by omega]) (xs.zip ks)
        rw [hzs] at z
        exact z.imp fun h => of_decide_eq_true h
      have vz : Vals (zs.map (·.1)) (PySem.W.sortVals (PySem.W.dataKind s2.heap (ks.map .int)) false kA.toList its) := by
        have gen : ∀ (l : List Value) (zs : List (V × Int)), PySem.W.EachIs (fun v (p : V × Int) => RelV p.1 v) l zs → Vals (zs.map (·.1)) l := by
          intro l zs h
          induction h with
          | nil => exact .nil
          | cons r _ ih => exact .cons r ih
        exact gen _ _ eo
      have zlen : zs.length = xs.length := by rw [hperm.length_eq, List.length_zip]; omega
      have keep2 : ∀ b o, b ≠ s.heap.objs.size + 1 → b ≠ kS → s2.heap.get? b = some o → h3.get? b = some o := fun b o h1 h2 ee => kb b o h1 (hidT_get ee (if_neg h2))
      refine ⟨.ref (s.heap.objs.size + 1), upd H (s.heap.objs.size + 1) (.lst (zs.map (·.1))), inv_take2 J (fun b o h1 h2 ee => keep2 b o h1 h2 ee) fa fk ?_, rfl, q zs _ _ hperm hsort fa.1 (Ex.new fa.1) upd_same⟩
      exact (show ObjOk X.prog X.w (upd H (s.heap.objs.size + 1) (.lst (zs.map (·.1)))) h3 (s.heap.objs.size + 1) (.lst (zs.map (·.1))) from ⟨by rw [List.length_map, zlen]; exact hz, _, c, vz, n3⟩)
/-- sorted(e, key=f) in the text -/
def jSortKF (spf : Sp) (ta : TE) : TE := fun σ H Q => ta σ H fun x H1 => ∃ l, x = .ref l ∧ ∃ xs, H1 l = some (.lst xs) ∧ ∃ ks : List Int, ks.length = xs.length ∧
  (∀ (j : Nat) (x : V) (k : Int), xs[j]? = some x → ks[j]? = some k → spf [x] H1 (fun v H2 => v = .int k ∧ H2 = H1) fun _ _ _ => False) ∧
  ∀ (zs : List (V × Int)) (D : Addr) (H2 : Hp), zs.Perm (xs.zip ks) → zs.Pairwise (fun p q => p.2 ≤ q.2) → H1 D = none → Ex H1 H2 → H2 D = some (.lst (zs.map (·.1))) → Q (.ref D) H2
@[simp] theorem j_sortKF {spf : Sp} {ta : TE} {σ : L2.St} {H : Hp} {Q : VK} : jSortKF spf ta σ H Q = ta σ H fun x H1 => ∃ l, x = .ref l ∧ ∃ xs, H1 l = some (.lst xs) ∧ ∃ ks : List Int, ks.length = xs.length ∧
  (∀ (j : Nat) (x : V) (k : Int), xs[j]? = some x → ks[j]? = some k → spf [x] H1 (fun v H2 => v = .int k ∧ H2 = H1) fun _ _ _ => False) ∧
  ∀ (zs : List (V × Int)) (D : Addr) (H2 : Hp), zs.Perm (xs.zip ks) → zs.Pairwise (fun p q => p.2 ≤ q.2) → H1 D = none → Ex H1 H2 → H2 D = some (.lst (zs.map (·.1))) → Q (.ref D) H2 := rfl
theorem cr_sortKF (F : FnOk X.prog X.w X.K X.mg X.base CX0 k f fd ps spf) (room : Room (k + 2) X.A) (bnd : L2.Binds X.K fd ps []) : CallRK X (.builtin "sorted") [Str.ofString "key"] (fun vs zs H Q => zs = [.ref f] ∧ rSortKF X.K spf vs H Q) := by
  intro pins s σ H vs zs us ws Q I r rz h
  obtain ⟨rfl, h⟩ := h
  obtain ⟨w1, rfl, e1⟩ := vals1 rz
  obtain rfl : w1 = Value.ref f := e1
  exact call_sortKF F room bnd I r h
theorem pe_sortKF {e : Expr} {te : TE} {x : Str} {p p2 pos kpos : Pos} (F : FnOk X.prog X.w X.K X.mg X.base CX0 k f fd ps spf) (room : Room (k + 2) X.A) (bnd : L2.Binds X.K fd ps []) (g1 : Gl X "sorted") (m1 : X.mg "sorted" = none) (g2 : Gl X x) (m2 : X.mg x = some (.ref f))
    (he : PE X e te) (hdb : (x == ("__debug__" : Str)) = false := by decide +kernel) (w0 : starEach [e] X.env = (false, eval e X.env) :: starEach [] X.env := by rfl)
    (w1 : backTo pos (starEach [e] X.env) = (false, eval e X.env) :: backTo pos (starEach [] X.env) := by rfl) (w2 : (backTo pos (starEach [e] X.env)).any (·.1) = false := by rfl)
    (w3 : (backToKw pos (keywordEach [⟨some "key", .Name x p2, kpos⟩] X.env)).all (·.1.isSome) = true := by rfl) (w4 : (backToKw pos (keywordEach [⟨some "key", .Name x p2, kpos⟩] X.env)).any (·.1.isNone) = false := by rfl)
    (w5 : (backToKw pos (keywordEach [⟨some "key", .Name x p2, kpos⟩] X.env)).filterMap (·.1) = [Str.ofString "key"] := by rfl) : PE X (.Call (.Name "sorted" p) [e] [⟨some "key", .Name x p2, kpos⟩] pos) (jSortKF spf te) :=
  (pe_callBK (cr_sortKF F room bnd) g1 m1 (by decide +kernel) (pa_cons he.cl pa_nil w0) (pk_cons (pe_glob (v := .ref f) g2 m2 rfl hdb) pk_nil) (by decide +kernel) (by decide +kernel) w1 w2 w3 w4 w5).by fun σ H Q q => ⟨_, q, fun v H1 ⟨l, e, xs, hl, ks, h1, h2, h3⟩ => ⟨rfl, l, xs, ks, by rw [e], .inl (.inl hl), h1, h2, h3⟩⟩
end
end Jk

namespace Jk
open PySem L2 Evl
/-! ## trees -/
inductive Tr where
  | pt (n : Int)
  | nd (j : Bool) (ts : List Tr)
mutual
def Tr.pts : Tr → List Int
  | .pt n => [n]
  | .nd _ ts => ptsL ts
def ptsL : List Tr → List Int
  | [] => []
  | t :: ts => t.pts ++ ptsL ts
end
mutual
def Tr.dep : Tr → Nat
  | .pt _ => 0
  | .nd _ ts => depL ts + 1
def depL : List Tr → Nat
  | [] => 0
  | t :: ts => max t.dep (depL ts)
end
mutual
def Tr.least : Tr → Int
  | .pt n => n
  | .nd _ ts => leastL ts
def leastL : List Tr → Int
  | [] => 0
  | t :: _ => t.least
end
/-- the word of a node, and none of a point -/
def Tr.wd : Tr → Option Bool
  | .pt _ => none
  | .nd j _ => some j
mutual
/-- two parts at least, told in the order of their least points, no word right within the same -/
def Tr.form : Tr → Prop
  | .pt _ => True
  | .nd j ts => 2 ≤ ts.length ∧ (ts.map Tr.least).Pairwise (· < ·) ∧ formL j ts
def formL (j : Bool) : List Tr → Prop
  | [] => True
  | t :: ts => t.form ∧ t.wd ≠ some j ∧ formL j ts
end
theorem formL_iff {j : Bool} {ts : List Tr} : formL j ts ↔ ∀ t ∈ ts, t.form ∧ t.wd ≠ some j := by
  induction ts with
  | nil => simp [formL]
  | cons t ts ih =>
    rw [formL, ih]
    simp only [List.mem_cons, forall_eq_or_imp]
    exact ⟨fun ⟨a, b, c⟩ => ⟨⟨a, b⟩, c⟩, fun ⟨⟨a, b⟩, c⟩ => ⟨a, b, c⟩⟩
theorem ptsL_flat (ts : List Tr) : ptsL ts = ts.flatMap Tr.pts := by
  induction ts with
  | nil => rfl
  | cons t ts ih => rw [ptsL, ih]; rfl
theorem ptsL_app (as bs : List Tr) : ptsL (as ++ bs) = ptsL as ++ ptsL bs := by rw [ptsL_flat, ptsL_flat, ptsL_flat, List.flatMap_append]
theorem depL_le {ts : List Tr} {t : Tr} (h : t ∈ ts) : t.dep ≤ depL ts := by
  induction ts with
  | nil => cases h
  | cons u ts ih =>
    rw [depL]
    rcases List.mem_cons.mp h with rfl | h
    · omega
    · have := ih h; omega
theorem depL_bound {ts : List Tr} {n : Nat} (h : ∀ t ∈ ts, t.dep ≤ n) : depL ts ≤ n := by
  induction ts with
  | nil => exact Nat.zero_le _
  | cons u ts ih =>
    rw [depL]
    have := h u (by simp)
    have := ih fun t ht => h t (by simp [ht])
    omega
/-- a tree has more points than words within one another -/
theorem Tr.dep_lt : ∀ t : Tr, t.form → t.dep + 1 ≤ t.pts.length
  | .pt n, _ => by simp [Tr.dep, Tr.pts]
  | .nd j ts, h => by
    rw [Tr.form] at h
    obtain ⟨h1, _, h3⟩ := h
    rw [Tr.dep, Tr.pts]
    have gen : ∀ ts : List Tr, (∀ t ∈ ts, t.dep + 1 ≤ t.pts.length) → ts.length ≤ (ptsL ts).length ∧ (1 ≤ ts.length → depL ts + ts.length ≤ (ptsL ts).length) := by
      intro ts
      induction ts with
      | nil => intro _; exact ⟨Nat.le_refl _, fun z => by simp at z⟩
      | cons t ts ih =>
        intro hh
        obtain ⟨i1, i2⟩ := ih fun u hu => hh u (by simp [hu])
        have h0 := hh t (by simp)
        rw [ptsL, depL, List.length_append, List.length_cons]
        refine ⟨by omega, fun _ => ?_⟩
        by_cases hz : 1 ≤ ts.length
        · have := i2 hz; omega
        · have e : ts = [] := List.length_eq_zero_iff.mp (by omega)
          subst e
          simp [ptsL, depL]
          omega
    have := (gen ts fun t ht => t.dep_lt (formL_iff.mp h3 t ht).1).2 (by omega)
    omega
def wdS (j : Bool) : Str := if j = true then "join" else "side"
/-! ## told trees in the heap -/
mutual
def ToldAt (H : Hp) : V → Tr → Prop
  | v, .pt n => v = .int n
  | v, .nd j ts => ∃ a b vs, v = .ref a ∧ H a = some (.tup [.str (wdS j), .ref b]) ∧ H b = some (.tup vs) ∧ ToldL H vs ts
def ToldL (H : Hp) : List V → List Tr → Prop
  | [], [] => True
  | v :: vs, t :: ts => ToldAt H v t ∧ ToldL H vs ts
  | [], _ :: _ => False
  | _ :: _, [] => False
end
theorem toldL_nil {H : Hp} {ts : List Tr} : ToldL H [] ts ↔ ts = [] := by cases ts <;> simp [ToldL]
theorem toldL_cons {H : Hp} {v : V} {vs : List V} {ts : List Tr} : ToldL H (v :: vs) ts ↔ ∃ t us, ts = t :: us ∧ ToldAt H v t ∧ ToldL H vs us := by
  cases ts with
  | nil => simp [ToldL]
  | cons t us => rw [ToldL]; exact ⟨fun h => ⟨t, us, rfl, h⟩, fun ⟨_, _, e, h⟩ => by cases e; exact h⟩
theorem toldL_iff {H : Hp} {vs : List V} {ts : List Tr} : ToldL H vs ts ↔ vs.length = ts.length ∧ ∀ (k : Nat) (v : V) (t : Tr), vs[k]? = some v → ts[k]? = some t → ToldAt H v t := by
  induction vs generalizing ts with
  | nil =>
    rw [toldL_nil]
    constructor
    · rintro rfl; exact ⟨rfl, fun k v t h => by simp at h⟩
    · exact fun h => List.length_eq_zero_iff.mp h.1.symm
  | cons v vs ih =>
    rw [toldL_cons]
    constructor
    · rintro ⟨t, us, rfl, h1, h2⟩
      obtain ⟨e, h⟩ := ih.mp h2
      refine ⟨by simp [e], fun k v' t' a b => ?_⟩
      cases k with
      | zero => cases a; cases b; exact h1
      | succ k => exact h k v' t' (by simpa using a) (by simpa using b)
    · rintro ⟨e, h⟩
      cases ts with
      | nil => simp at e
      | cons t us => exact ⟨t, us, rfl, h 0 v t rfl rfl, ih.mpr ⟨by simpa using e, fun k v' t' a b => h (k + 1) v' t' (by simpa using a) (by simpa using b)⟩⟩
mutual
theorem ToldAt.map {H H' : Hp} (k : ∀ a o, H a = some (.tup o) → H' a = some (.tup o)) : ∀ (t : Tr) (v : V), ToldAt H v t → ToldAt H' v t
  | .pt n, v, h => by rw [ToldAt] at h ⊢; exact h
  | .nd j ts, v, h => by
    rw [ToldAt] at h ⊢
    obtain ⟨a, b, vs, e, h1, h2, h3⟩ := h
    exact ⟨a, b, vs, e, k _ _ h1, k _ _ h2, ToldL.map k ts vs h3⟩
theorem ToldL.map {H H' : Hp} (k : ∀ a o, H a = some (.tup o) → H' a = some (.tup o)) : ∀ (ts : List Tr) (vs : List V), ToldL H vs ts → ToldL H' vs ts
  | [], [], _ => by simp [ToldL]
  | [], v :: vs, h => by simp [ToldL] at h
  | t :: ts, [], h => by simp [ToldL] at h
  | t :: ts, v :: vs, h => by
    rw [ToldL] at h ⊢
    exact ⟨ToldAt.map k t v h.1, ToldL.map k ts vs h.2⟩
end
theorem ToldAt.up {H H' : Hp} {t : Tr} {v : V} (h : ToldAt H v t) (e : Ex H H') : ToldAt H' v t := ToldAt.map (fun _ _ z => e _ _ z) t v h
theorem ToldL.up {H H' : Hp} {ts : List Tr} {vs : List V} (h : ToldL H vs ts) (e : Ex H H') : ToldL H' vs ts := ToldL.map (fun _ _ z => e _ _ z) ts vs h
theorem ToldL.snoc {H : Hp} {vs : List V} {ts : List Tr} {v : V} {t : Tr} (h : ToldL H vs ts) (ht : ToldAt H v t) : ToldL H (vs ++ [v]) (ts ++ [t]) := by
  rw [toldL_iff] at h ⊢
  refine ⟨by simp [h.1], fun k v' t' a b => ?_⟩
  by_cases hk : k < vs.length
  · rw [List.getElem?_append_left hk] at a
    rw [List.getElem?_append_left (by rw [← h.1]; exact hk)] at b
    exact h.2 k v' t' a b
  · rw [List.getElem?_append_right (by omega)] at a
    rw [List.getElem?_append_right (by rw [← h.1]; omega)] at b
    have k0 : k - vs.length = 0 := by
      have := (List.getElem?_eq_some_iff.mp a).1
      simp at this; omega
    rw [k0] at a
    rw [show k - ts.length = 0 by rw [← h.1]; exact k0] at b
    simp at a b
    subst a b
    exact ht
theorem ToldL.len {H : Hp} {vs : List V} {ts : List Tr} (h : ToldL H vs ts) : vs.length = ts.length := (toldL_iff.mp h).1
theorem ToldL.get {H : Hp} {vs : List V} {ts : List Tr} (h : ToldL H vs ts) {k : Nat} {v : V} (e : vs[k]? = some v) : ∃ t, ts[k]? = some t ∧ ToldAt H v t := by
  have hk : k < ts.length := by rw [← h.len]; exact (List.getElem?_eq_some_iff.mp e).1
  exact ⟨_, List.getElem?_eq_getElem hk, (toldL_iff.mp h).2 k v _ e (List.getElem?_eq_getElem hk)⟩
/-- the type of a told tree -/
theorem told_ty {H : Hp} {v : V} {t : Tr} (h : ToldAt H v t) : tyN H v = some (if t.wd = none then "int" else "tuple") := by
  cases t with
  | pt n => rw [ToldAt] at h; subst h; rfl
  | nd j ts =>
    rw [ToldAt] at h
    obtain ⟨a, b, vs, rfl, h1, _, _⟩ := h
    rw [tyN_tup h1]
    rfl
/-! told alike, alike -/
mutual
theorem told_uniq {H : Hp} : ∀ (t u : Tr) (v : V), ToldAt H v t → ToldAt H v u → t = u
  | .pt n, .pt m, v, h, g => by
    rw [ToldAt] at h; rw [ToldAt] at g
    rw [h] at g
    cases g; rfl
  | .pt n, .nd j us, v, h, g => by
    rw [ToldAt] at h; rw [ToldAt] at g
    obtain ⟨a, b, vs, e, _⟩ := g
    rw [h] at e; cases e
  | .nd j ts, .pt n, v, h, g => by
    rw [ToldAt] at h; rw [ToldAt] at g
    obtain ⟨a, b, vs, e, _⟩ := h
    rw [g] at e; cases e
  | .nd j ts, .nd i us, v, h, g => by
    rw [ToldAt] at h; rw [ToldAt] at g
    obtain ⟨a, b, vs, e, h1, h2, h3⟩ := h
    obtain ⟨a', b', vs', e', g1, g2, g3⟩ := g
    rw [e] at e'
    cases e'
    rw [h1] at g1
    have z := HO.tup.inj (Option.some.inj g1)
    simp at z
    obtain ⟨z1, rfl⟩ := z
    rw [h2] at g2
    obtain rfl : vs = vs' := HO.tup.inj (Option.some.inj g2)
    have ej : j = i := by
      cases j <;> cases i <;> first | rfl | exact absurd z1 (by decide +kernel)
    subst ej
    rw [toldL_uniq ts us vs h3 g3]
theorem toldL_uniq {H : Hp} : ∀ (ts us : List Tr) (vs : List V), ToldL H vs ts → ToldL H vs us → ts = us
  | [], us, vs, h, g => by
    cases vs with
    | nil => exact (toldL_nil.mp g).symm
    | cons v vs => simp [ToldL] at h
  | t :: ts, us, vs, h, g => by
    cases vs with
    | nil => simp [ToldL] at h
    | cons v vs =>
      obtain ⟨u, us', rfl, g1, g2⟩ := toldL_cons.mp g
      rw [ToldL] at h
      rw [told_uniq t u v h.1 g1, toldL_uniq ts us' vs h.2 g2]
end
theorem told_ex {H : Hp} {v : V} {t : Tr} {R : Tr → Prop} (h : ToldAt H v t) : (∃ u, ToldAt H v u ∧ R u) ↔ R t := ⟨fun ⟨u, a, r⟩ => by rw [told_uniq t u v h a]; exact r, fun r => ⟨t, h, r⟩⟩
/-! as data -/
mutual
def Tr.data : Tr → PyData
  | .pt n => .int n
  | .nd j ts => .tuple [.str (wdS j), .tuple (dataL ts)]
def dataL : List Tr → List PyData
  | [] => []
  | t :: ts => t.data :: dataL ts
end
mutual
theorem told_dp {K : PySem.W.Frag} {H : Hp} : ∀ (t : Tr) (v : V), ToldAt H v t → Dp K H v t.data
  | .pt n, v, h => by
    rw [ToldAt] at h
    rw [h, Tr.data]
    exact .int n
  | .nd j ts, v, h => by
    rw [ToldAt] at h
    obtain ⟨a, b, vs, rfl, h1, h2, h3⟩ := h
    rw [Tr.data]
    exact .tup (.inl (.inl h1)) (.cons (.str _) (.cons (.tup (.inl (.inl h2)) (toldL_dp ts vs h3)) .nil))
theorem toldL_dp {K : PySem.W.Frag} {H : Hp} : ∀ (ts : List Tr) (vs : List V), ToldL H vs ts → DpAll K H vs (dataL ts)
  | [], vs, h => by
    cases vs with
    | nil => exact .nil
    | cons v vs => simp [ToldL] at h
  | t :: ts, vs, h => by
    cases vs with
    | nil => simp [ToldL] at h
    | cons v vs =>
      rw [ToldL] at h
      exact .cons (told_dp t v h.1) (toldL_dp ts vs h.2)
end
end Jk

namespace Jk
/-! ## how a tree is grown: nodes by number, the node above each, the leaves -/
inductive Nd where
  | leaf (k : Nat)
  | inner (j : Bool) (cs : List Nat)
structure Grown (ns : List Nd) (ab : List (Option Nat)) (lv : List Nat) (dp : List Nat) : Prop where
  la : ab.length = ns.length
  ld : dp.length = ns.length
  one : 1 ≤ lv.length
  cnt : ns.length + 1 ≤ 2 * lv.length
  le : lv.length ≤ ns.length
  lf : ∀ (k l : Nat), lv[k]? = some l → ns[l]? = some (Nd.leaf k)
  fl : ∀ (l k : Nat), ns[l]? = some (Nd.leaf k) → lv[k]? = some l
  inn : ∀ (i : Nat) (j : Bool) (cs : List Nat), ns[i]? = some (Nd.inner j cs) → 2 ≤ cs.length ∧ cs.Nodup ∧ ∀ c ∈ cs, ab[c]? = some (some i) ∧ (∃ d, dp[i]? = some d ∧ dp[c]? = some (d + 1)) ∧ ∀ cs', ns[c]? ≠ some (Nd.inner j cs')
  par : ∀ (i p : Nat), ab[i]? = some (some p) → ∃ j cs, ns[p]? = some (Nd.inner j cs) ∧ i ∈ cs
  root : ab[0]? = some none
  top : ∀ i : Nat, ab[i]? = some none → i = 0 ∧ dp[0]? = some 0
  dpb : ∀ (i d : Nat), dp[i]? = some d → d + lv.length ≤ ns.length
theorem grown_start : Grown [Nd.leaf 0] [none] [0] [0] := by
  refine ⟨rfl, rfl, by simp, by simp, by simp, fun k l h => ?_, fun l k h => ?_, fun i j cs h => ?_, fun i p h => ?_, rfl, fun i h => ?_, fun i d h => ?_⟩
  · match k, h with
    | 0, h => cases h; rfl
    | k + 1, h => simp at h
  · match l, h with
    | 0, h => cases h; rfl
    | l + 1, h => simp at h
  · match i, h with
    | 0, h => cases h
    | i + 1, h => simp at h
  · match i, h with
    | 0, h => cases h
    | i + 1, h => simp at h
  · match i, h with
    | 0, h => exact ⟨rfl, rfl⟩
    | i + 1, h => simp at h
  · match i, h with
    | 0, h => cases h; simp
    | i + 1, h => simp at h
theorem app_get {α : Type} {l : List α} {x y : α} {i : Nat} (h : (l ++ [x])[i]? = some y) : (i < l.length ∧ l[i]? = some y) ∨ (i = l.length ∧ y = x) := by
  by_cases hi : i < l.length
  · rw [List.getElem?_append_left hi] at h
    exact .inl ⟨hi, h⟩
  · rw [List.getElem?_append_right (by omega)] at h
    have hz : i - l.length = 0 := by
      have := (List.getElem?_eq_some_iff.mp h).1
      simp at this; omega
    rw [hz] at h
    simp at h
    exact .inr ⟨by omega, h.symm⟩
theorem get_app {α : Type} {l : List α} {x y : α} {i : Nat} (h : l[i]? = some y) : (l ++ [x])[i]? = some y := by
  rw [List.getElem?_append_left (List.getElem?_eq_some_iff.mp h).1]; exact h
theorem get_new {α : Type} {l : List α} {x : α} : (l ++ [x])[l.length]? = some x := by simp
theorem lt_of_get {α : Type} {l : List α} {x : α} {i : Nat} (h : l[i]? = some x) : i < l.length := (List.getElem?_eq_some_iff.mp h).1
/-- a further point beside the others of its kind -/
theorem grown_more {ns : List Nd} {ab : List (Option Nat)} {lv dp : List Nat} (G : Grown ns ab lv dp) {p : Nat} {j : Bool} {cs : List Nat} {d : Nat} (hp : ns[p]? = some (Nd.inner j cs)) (hd : dp[p]? = some d) :
    Grown ((ns ++ [Nd.leaf lv.length]).set p (Nd.inner j (cs ++ [ns.length]))) (ab ++ [some p]) (lv ++ [ns.length]) (dp ++ [d + 1]) := by
  have pl := lt_of_get hp
  obtain ⟨c2, cnd, call⟩ := G.inn p j cs hp
  have at' : ∀ i x, ((ns ++ [Nd.leaf lv.length]).set p (Nd.inner j (cs ++ [ns.length])))[i]? = some x → (i = p ∧ x = Nd.inner j (cs ++ [ns.length])) ∨ (i ≠ p ∧ i < ns.length ∧ ns[i]? = some x) ∨ (i = ns.length ∧ x = Nd.leaf lv.length) := fun i x h => by
    by_cases e : i = p
    · subst e
      rw [List.getElem?_set_self (by simp; omega)] at h
      cases h
      exact .inl ⟨rfl, rfl⟩
    · rw [List.getElem?_set_ne (Ne.symm e)] at h
      rcases app_get h with ⟨a, b⟩ | ⟨a, b⟩
      · exact .inr (.inl ⟨e, a, b⟩)
      · exact .inr (.inr ⟨a, b⟩)
  have old : ∀ i x, i ≠ p → ns[i]? = some x → ((ns ++ [Nd.leaf lv.length]).set p (Nd.inner j (cs ++ [ns.length])))[i]? = some x := fun i x e h => by
    rw [List.getElem?_set_ne (Ne.symm e)]; exact get_app h
  have atp : ((ns ++ [Nd.leaf lv.length]).set p (Nd.inner j (cs ++ [ns.length])))[p]? = some (Nd.inner j (cs ++ [ns.length])) := List.getElem?_set_self (by simp; omega)
  have atn : ((ns ++ [Nd.leaf lv.length]).set p (Nd.inner j (cs ++ [ns.length])))[ns.length]? = some (Nd.leaf lv.length) := by
    rw [List.getElem?_set_ne (by omega)]; exact get_new
  have la := G.la
  have ld := G.ld
  have le := G.le
  have cnt := G.cnt
  refine ⟨by simp [la], by simp [ld], by simp, by simp; omega, by simp; omega, fun k l h => ?_, fun l k h => ?_, fun i j' cs' h => ?_, fun i q h => ?_, get_app G.root, fun i h => ?_, fun i e h => ?_⟩
  · rcases app_get h with ⟨_, b⟩ | ⟨a, b⟩
    · have z := G.lf k l b
      exact old l _ (fun e => by rw [e, hp] at z; cases z) z
    · rw [a, b]; exact atn
  · rcases at' l _ h with ⟨_, b⟩ | ⟨_, _, b⟩ | ⟨a, b⟩
    · cases b
    · exact get_app (G.fl l k b)
    · cases b; rw [a]; exact get_new
  · rcases at' i _ h with ⟨rfl, b⟩ | ⟨ne, hi, b⟩ | ⟨_, b⟩
    · cases b
      refine ⟨by simp; omega, ?_, fun c hc => ?_⟩
      · rw [List.nodup_append]
        refine ⟨cnd, by simp, fun x hx y hy e => ?_⟩
        rw [List.mem_singleton.mp hy] at e
        have := lt_of_get (call x hx).1
        omega
      · rcases List.mem_append.mp hc with hc | hc
        · obtain ⟨x1, ⟨d', x2, x3⟩, x4⟩ := call c hc
          refine ⟨get_app x1, ⟨d', get_app x2, get_app x3⟩, fun cs' z => ?_⟩
          rcases at' c _ z with ⟨e, _⟩ | ⟨_, _, z⟩ | ⟨_, z⟩
          · have y := x2
            rw [e, x2] at x3
            have := Option.some.inj x3
            omega
          · exact x4 cs' z
          · cases z
        · rw [List.mem_singleton.mp hc]
          refine ⟨by rw [← la]; exact get_new, ⟨d, get_app hd, by rw [← ld]; exact get_new⟩, fun cs' z => ?_⟩
          rw [atn] at z; cases z
    · obtain ⟨x1, x2, x3⟩ := G.inn i j' cs' b
      refine ⟨x1, x2, fun c hc => ?_⟩
      obtain ⟨y1, ⟨d', y2, y3⟩, y4⟩ := x3 c hc
      refine ⟨get_app y1, ⟨d', get_app y2, get_app y3⟩, fun cs2 z => ?_⟩
      rcases at' c _ z with ⟨e, z⟩ | ⟨_, _, z⟩ | ⟨_, z⟩
      · have ej : j' = j := by cases z; rfl
        rw [e] at y4
        exact y4 cs (by rw [ej]; exact hp)
      · exact y4 cs2 z
      · cases z
    · cases b
  · rcases app_get h with ⟨_, b⟩ | ⟨a, b⟩
    · obtain ⟨j', cs', x1, x2⟩ := G.par i q b
      by_cases e : q = p
      · subst e
        rw [hp] at x1
        cases x1
        exact ⟨_, _, atp, by simp [x2]⟩
      · exact ⟨_, _, old q _ e x1, x2⟩
    · cases b
      exact ⟨_, _, atp, by rw [a, la]; simp⟩
  · rcases app_get h with ⟨_, b⟩ | ⟨_, b⟩
    · obtain ⟨x1, x2⟩ := G.top i b
      exact ⟨x1, get_app x2⟩
    · cases b
  · rcases app_get h with ⟨_, b⟩ | ⟨_, b⟩
    · have := G.dpb i e b
      simp; omega
    · obtain ⟨c, hc⟩ : ∃ c, c ∈ cs := by cases cs with | nil => simp at c2 | cons c _ => exact ⟨c, by simp⟩
      obtain ⟨_, ⟨d', y2, y3⟩, _⟩ := call c hc
      rw [hd] at y2
      cases y2
      have := G.dpb c _ y3
      subst b
      simp; omega
/-- a leaf becomes a node of two leaves: it itself, told as the last, and a further one -/
theorem grown_split {ns : List Nd} {ab : List (Option Nat)} {lv dp : List Nat} (G : Grown ns ab lv dp) {old k d : Nat} {j : Bool} (hk : lv[k]? = some old) (hd : dp[old]? = some d)
    (hw : ∀ p, ab[old]? = some (some p) → ∀ cs, ns[p]? ≠ some (Nd.inner j cs)) :
    Grown ((ns ++ [Nd.leaf lv.length] ++ [Nd.leaf k]).set old (Nd.inner j [ns.length + 1, ns.length])) (ab ++ [some old] ++ [some old]) ((lv ++ [ns.length]).set k (ns.length + 1)) (dp ++ [d + 1] ++ [d + 1]) := by
  have ho := G.lf k old hk
  have ol := lt_of_get ho
  have kl := lt_of_get hk
  have la := G.la
  have ld := G.ld
  have le := G.le
  have cnt := G.cnt
  have at' : ∀ i x, ((ns ++ [Nd.leaf lv.length] ++ [Nd.leaf k]).set old (Nd.inner j [ns.length + 1, ns.length]))[i]? = some x → (i = old ∧ x = Nd.inner j [ns.length + 1, ns.length]) ∨ (i ≠ old ∧ i < ns.length ∧ ns[i]? = some x) ∨ (i = ns.length ∧ x = Nd.leaf lv.length) ∨ (i = ns.length + 1 ∧ x = Nd.leaf k) := fun i x h => by
    by_cases e : i = old
    · subst e
      rw [List.getElem?_set_self (by simp; omega)] at h
      cases h
      exact .inl ⟨rfl, rfl⟩
    · rw [List.getElem?_set_ne (Ne.symm e)] at h
      rcases app_get h with ⟨_, b⟩ | ⟨a, b⟩
      · rcases app_get b with ⟨a, b⟩ | ⟨a, b⟩
        · exact .inr (.inl ⟨e, a, b⟩)
        · exact .inr (.inr (.inl ⟨a, b⟩))
      · exact .inr (.inr (.inr ⟨by simpa using a, b⟩))
  have oldk : ∀ i x, i ≠ old → ns[i]? = some x → ((ns ++ [Nd.leaf lv.length] ++ [Nd.leaf k]).set old (Nd.inner j [ns.length + 1, ns.length]))[i]? = some x := fun i x e h => by
    rw [List.getElem?_set_ne (Ne.symm e)]; exact get_app (get_app h)
  have ato : ((ns ++ [Nd.leaf lv.length] ++ [Nd.leaf k]).set old (Nd.inner j [ns.length + 1, ns.length]))[old]? = some (Nd.inner j [ns.length + 1, ns.length]) := List.getElem?_set_self (by simp; omega)
  have atn : ((ns ++ [Nd.leaf lv.length] ++ [Nd.leaf k]).set old (Nd.inner j [ns.length + 1, ns.length]))[ns.length]? = some (Nd.leaf lv.length) := by
    rw [List.getElem?_set_ne (by omega)]; exact get_app get_new
  have atm : ((ns ++ [Nd.leaf lv.length] ++ [Nd.leaf k]).set old (Nd.inner j [ns.length + 1, ns.length]))[ns.length + 1]? = some (Nd.leaf k) := by
    rw [List.getElem?_set_ne (by omega)]
    have := get_new (l := ns ++ [Nd.leaf lv.length]) (x := Nd.leaf k)
    simpa using this
  have abn : (ab ++ [some old] ++ [some old])[ns.length]? = some (some old) := by rw [← la]; exact get_app get_new
  have abm : (ab ++ [some old] ++ [some old])[ns.length + 1]? = some (some old) := by
    have := get_new (l := ab ++ [some old]) (x := some old)
    rw [← la]; simpa using this
  have dpn : (dp ++ [d + 1] ++ [d + 1])[ns.length]? = some (d + 1) := by rw [← ld]; exact get_app get_new
  have dpm : (dp ++ [d + 1] ++ [d + 1])[ns.length + 1]? = some (d + 1) := by
    have := get_new (l := dp ++ [d + 1]) (x := d + 1)
    rw [← ld]; simpa using this
  have lvk : ((lv ++ [ns.length]).set k (ns.length + 1))[k]? = some (ns.length + 1) := List.getElem?_set_self (by simp; omega)
  have lvo : ∀ m l, m ≠ k → lv[m]? = some l → ((lv ++ [ns.length]).set k (ns.length + 1))[m]? = some l := fun m l e h => by
    rw [List.getElem?_set_ne (Ne.symm e)]; exact get_app h
  have lvn : ((lv ++ [ns.length]).set k (ns.length + 1))[lv.length]? = some ns.length := by
    rw [List.getElem?_set_ne (by omega)]; exact get_new
  have nochild : ∀ i j' cs, ns[i]? = some (Nd.inner j' cs) → old ∈ cs → j' ≠ j := fun i j' cs h hc e => by
    obtain ⟨_, _, x⟩ := G.inn i j' cs h
    exact hw i (x old hc).1 cs (by rw [← e]; exact h)
  refine ⟨by simp [la], by simp [ld], by simp, by simp; omega, by simp; omega, fun m l h => ?_, fun l m h => ?_, fun i j' cs' h => ?_, fun i q h => ?_, get_app (get_app G.root), fun i h => ?_, fun i e h => ?_⟩
  · by_cases e : m = k
    · subst e
      rw [lvk] at h
      cases h
      exact atm
    · rw [List.getElem?_set_ne (Ne.symm e)] at h
      rcases app_get h with ⟨_, b⟩ | ⟨a, b⟩
      · have z := G.lf m l b
        refine oldk l _ (fun e' => ?_) z
        rw [e', ho] at z
        have : k = m := by cases z; rfl
        exact e this.symm
      · rw [a, b]; exact atn
  · rcases at' l _ h with ⟨_, b⟩ | ⟨ne, _, b⟩ | ⟨a, b⟩ | ⟨a, b⟩
    · cases b
    · have z := G.fl l m b
      refine lvo m l (fun e => ?_) z
      rw [e, hk] at z
      cases z
      exact ne rfl
    · cases b; rw [a]; exact lvn
    · cases b; rw [a]; exact lvk
  · rcases at' i _ h with ⟨rfl, b⟩ | ⟨ne, hi, b⟩ | ⟨_, b⟩ | ⟨_, b⟩
    · cases b
      refine ⟨by simp, by simp, fun c hc => ?_⟩
      simp only [List.mem_cons, List.not_mem_nil, or_false] at hc
      rcases hc with rfl | rfl
      · exact ⟨abm, ⟨d, get_app (get_app hd), dpm⟩, fun cs2 z => by rw [atm] at z; cases z⟩
      · exact ⟨abn, ⟨d, get_app (get_app hd), dpn⟩, fun cs2 z => by rw [atn] at z; cases z⟩
    · obtain ⟨x1, x2, x3⟩ := G.inn i j' cs' b
      refine ⟨x1, x2, fun c hc => ?_⟩
      obtain ⟨y1, ⟨d', y2, y3⟩, y4⟩ := x3 c hc
      refine ⟨get_app (get_app y1), ⟨d', get_app (get_app y2), get_app (get_app y3)⟩, fun cs2 z => ?_⟩
      rcases at' c _ z with ⟨e, z⟩ | ⟨_, _, z⟩ | ⟨_, z⟩ | ⟨_, z⟩
      · have ej : j' = j := by cases z; rfl
        rw [e] at hc
        exact nochild i j' cs' b hc ej
      · exact y4 cs2 z
      · cases z
      · cases z
    · cases b
    · cases b
  · rcases app_get h with ⟨_, b⟩ | ⟨a, b⟩
    · rcases app_get b with ⟨_, b⟩ | ⟨a, b⟩
      · obtain ⟨j', cs', x1, x2⟩ := G.par i q b
        refine ⟨_, _, oldk q _ (fun e => ?_) x1, x2⟩
        rw [e, ho] at x1; cases x1
      · cases b
        exact ⟨_, _, ato, by rw [a, la]; simp⟩
    · cases b
      exact ⟨_, _, ato, by rw [a]; simp [la]⟩
  · rcases app_get h with ⟨_, b⟩ | ⟨_, b⟩
    · rcases app_get b with ⟨_, b⟩ | ⟨_, b⟩
      · obtain ⟨x1, x2⟩ := G.top i b
        exact ⟨x1, get_app (get_app x2)⟩
      · cases b
    · cases b
  · have := G.dpb old d hd
    rcases app_get h with ⟨_, b⟩ | ⟨_, b⟩
    · rcases app_get b with ⟨_, b⟩ | ⟨_, b⟩
      · have := G.dpb i e b
        simp; omega
      · subst b; simp; omega
    · subst b; simp; omega
end Jk

namespace Jk
/-! ## the tree that stands in grown nodes -/
def Built (ns : List Nd) (names : List Int) : Nat → Nat → Tr → Prop
  | 0, _, _ => False
  | d + 1, i, t => (∃ k n, ns[i]? = some (Nd.leaf k) ∧ names[k]? = some n ∧ t = .pt n) ∨
    ∃ j cs ts us, ns[i]? = some (Nd.inner j cs) ∧ ts.length = cs.length ∧ (∀ (m c : Nat) (u : Tr), cs[m]? = some c → ts[m]? = some u → Built ns names d c u) ∧ us.Perm ts ∧ us.Pairwise (fun a b => a.least ≤ b.least) ∧ t = .nd j us
/-- the node m steps above -/
def upN (ab : List (Option Nat)) : Nat → Nat → Option Nat
  | 0, l => some l
  | m + 1, l => match upN ab m l with
    | some c => (ab[c]?).join
    | none => none
section
variable {ns : List Nd} {ab : List (Option Nat)} {lv dp : List Nat} {names : List Int}
theorem upN_dp (G : Grown ns ab lv dp) {l dl : Nat} (hl : dp[l]? = some dl) : ∀ (m i : Nat), upN ab m l = some i → ∃ di, dp[i]? = some di ∧ dl = di + m
  | 0, i, h => by
    unfold upN at h
    cases h
    exact ⟨dl, hl, rfl⟩
  | m + 1, i, h => by
    unfold upN at h
    cases e : upN ab m l with
    | none => rw [e] at h; cases h
    | some c =>
      rw [e] at h
      have h : (ab[c]?).join = some i := h
      obtain ⟨dc, h1, h2⟩ := upN_dp G hl m c e
      have hac : ab[c]? = some (some i) := by
        cases z : ab[c]? with
        | none => rw [z] at h; cases h
        | some o =>
          rw [z] at h
          have h : o = some i := h
          rw [h]
      obtain ⟨j, cs, p1, p2⟩ := G.par c i hac
      obtain ⟨_, ⟨d, q1, q2⟩, _⟩ := (G.inn i j cs p1).2.2 c p2
      rw [h1] at q2
      cases q2
      exact ⟨d, q1, by omega⟩
/-- a leaf with the name n stands under i -/
def Under (ns : List Nd) (ab : List (Option Nat)) (names : List Int) (i : Nat) (n : Int) : Prop := ∃ (l k m : Nat), ns[l]? = some (Nd.leaf k) ∧ names[k]? = some n ∧ upN ab m l = some i
theorem Under.parent (G : Grown ns ab lv dp) {i c : Nat} {j : Bool} {cs : List Nat} {n : Int} (h : ns[i]? = some (Nd.inner j cs)) (hc : c ∈ cs) (u : Under ns ab names c n) : Under ns ab names i n := by
  obtain ⟨l, k, m, h1, h2, h3⟩ := u
  refine ⟨l, k, m + 1, h1, h2, ?_⟩
  unfold upN
  rw [h3]
  show (ab[c]?).join = _
  rw [((G.inn i j cs h).2.2 c hc).1]
  rfl
theorem name_ix (nd : names.Nodup) {a b : Nat} {n : Int} (ha : names[a]? = some n) (hb : names[b]? = some n) : a = b := by
  obtain ⟨la, ea⟩ := List.getElem?_eq_some_iff.mp ha
  obtain ⟨lb, eb⟩ := List.getElem?_eq_some_iff.mp hb
  rcases Nat.lt_trichotomy a b with h | h | h
  · exact absurd (ea.trans eb.symm) (List.pairwise_iff_getElem.mp nd a b la lb h)
  · exact h
  · exact absurd (eb.trans ea.symm) (List.pairwise_iff_getElem.mp nd b a lb la h)
theorem Under.apart (G : Grown ns ab lv dp) (nd : names.Nodup) {i c1 c2 : Nat} {j : Bool} {cs : List Nat} {n : Int} (h : ns[i]? = some (Nd.inner j cs)) (h1 : c1 ∈ cs) (h2 : c2 ∈ cs) (u1 : Under ns ab names c1 n) (u2 : Under ns ab names c2 n) : c1 = c2 := by
  obtain ⟨l1, k1, m1, a1, a2, a3⟩ := u1
  obtain ⟨l2, k2, m2, b1, b2, b3⟩ := u2
  have ek := name_ix nd a2 b2
  subst ek
  have el : l1 = l2 := by
    have x := G.fl l1 k1 a1
    have y := G.fl l2 k1 b1
    rw [x] at y
    exact Option.some.inj y
  subst el
  have hlt := lt_of_get a1
  obtain ⟨dl, hdl⟩ : ∃ dl, dp[l1]? = some dl := ⟨_, List.getElem?_eq_getElem (by rw [G.ld]; exact hlt)⟩
  obtain ⟨d1, x1, x2⟩ := upN_dp G hdl m1 c1 a3
  obtain ⟨d2, y1, y2⟩ := upN_dp G hdl m2 c2 b3
  obtain ⟨_, ⟨d, p1, p2⟩, _⟩ := (G.inn i j cs h).2.2 c1 h1
  obtain ⟨_, ⟨d', q1, q2⟩, _⟩ := (G.inn i j cs h).2.2 c2 h2
  rw [p1] at q1
  cases q1
  rw [x1] at p2
  rw [y1] at q2
  cases p2
  cases q2
  have em : m1 = m2 := by omega
  subst em
  rw [a3] at b3
  exact Option.some.inj b3
theorem least_in : ∀ t : Tr, t.form → t.least ∈ t.pts
  | .pt n, _ => by simp [Tr.least, Tr.pts]
  | .nd j ts, h => by
    rw [Tr.form] at h
    cases ts with
    | nil => simp at h
    | cons t us =>
      rw [Tr.least, Tr.pts, leastL, ptsL]
      have := least_in t (formL_iff.mp h.2.2 t (by simp)).1
      exact List.mem_append_left _ this
theorem mem_ptsL {ts : List Tr} {n : Int} : n ∈ ptsL ts ↔ ∃ t ∈ ts, n ∈ t.pts := by rw [ptsL_flat, List.mem_flatMap]
/-- what is built of grown nodes is a tree in its form -/
theorem built_ok (G : Grown ns ab lv dp) (nd : names.Nodup) : ∀ (d i : Nat) (t : Tr), Built ns names d i t → t.form ∧ t.pts.Nodup ∧ (∀ n ∈ t.pts, Under ns ab names i n) ∧ ((∃ k, ns[i]? = some (Nd.leaf k) ∧ t.wd = none) ∨ ∃ j cs, ns[i]? = some (Nd.inner j cs) ∧ t.wd = some j)
  | 0, i, t, h => False.elim h
  | d + 1, i, t, h => by
    unfold Built at h
    rcases h with ⟨k, n, h1, h2, rfl⟩ | ⟨j, cs, ts, us, h1, h2, h3, h4, h5, rfl⟩
    · refine ⟨by simp [Tr.form], by simp [Tr.pts], fun m hm => ?_, .inl ⟨k, h1, rfl⟩⟩
      have : m = n := by simpa [Tr.pts] using hm
      subst this
      exact ⟨i, k, 0, h1, h2, rfl⟩
    · obtain ⟨g1, g2, g3⟩ := G.inn i j cs h1
      have each : ∀ (m : Nat) (u : Tr), ts[m]? = some u → ∃ c, cs[m]? = some c ∧ c ∈ cs ∧ Built ns names d c u := fun m u hu => by
        have hm : m < cs.length := by rw [← h2]; exact lt_of_get hu
        exact ⟨cs[m], List.getElem?_eq_getElem hm, List.getElem_mem hm, h3 m _ u (List.getElem?_eq_getElem hm) hu⟩
      have eachM : ∀ u ∈ ts, ∃ c, c ∈ cs ∧ Built ns names d c u := fun u hu => by
        obtain ⟨m, hm, e⟩ := List.mem_iff_getElem.mp hu
        obtain ⟨c, _, b, x⟩ := each m u (by rw [List.getElem?_eq_getElem hm, e])
        exact ⟨c, b, x⟩
      have forms : ∀ u ∈ ts, u.form ∧ u.wd ≠ some j := fun u hu => by
        obtain ⟨c, hc, hb⟩ := eachM u hu
        obtain ⟨f1, _, _, f4⟩ := built_ok G nd d c u hb
        refine ⟨f1, fun e => ?_⟩
        rcases f4 with ⟨_, _, z⟩ | ⟨j', cs', y, z⟩
        · rw [z] at e; cases e
        · rw [z] at e
          cases e
          exact (g3 c hc).2.2 cs' y
      have apart : ts.Pairwise fun a b => ∀ n ∈ a.pts, ∀ m ∈ b.pts, n ≠ m := by
        rw [List.pairwise_iff_getElem]
        intro p q hp hq hpq n hn m hm e
        subst e
        obtain ⟨c1, x1, x2, x3⟩ := each p _ (List.getElem?_eq_getElem hp)
        obtain ⟨c2, y1, y2, y3⟩ := each q _ (List.getElem?_eq_getElem hq)
        have u1 := (built_ok G nd d c1 _ x3).2.2.1 n hn
        have u2 := (built_ok G nd d c2 _ y3).2.2.1 n hm
        have ec := Under.apart G nd h1 x2 y2 u1 u2
        obtain ⟨_, e1⟩ := List.getElem?_eq_some_iff.mp x1
        obtain ⟨_, e2⟩ := List.getElem?_eq_some_iff.mp y1
        exact List.pairwise_iff_getElem.mp g2 p q (by omega) (by omega) hpq (e1.trans (ec.trans e2.symm))
      have apartU : us.Pairwise fun a b => ∀ n ∈ a.pts, ∀ m ∈ b.pts, n ≠ m := h4.symm.pairwise apart fun {a b} hab n hn m hm e => hab m hm n hn e.symm
      have formsU : ∀ u ∈ us, u.form ∧ u.wd ≠ some j := fun u hu => forms u (h4.mem_iff.mp hu)
      have rise : (us.map Tr.least).Pairwise (· < ·) := by
        rw [List.pairwise_map]
        refine List.Pairwise.imp_of_mem (fun {a b} ha hb hab => ?_) (h5.and apartU)
        have := hab.2 _ (least_in a (formsU a ha).1) _ (least_in b (formsU b hb).1)
        have := hab.1
        omega
      refine ⟨?_, ?_, ?_, .inr ⟨j, cs, h1, rfl⟩⟩
      · rw [Tr.form]
        exact ⟨by rw [h4.length_eq, h2]; exact g1, rise, formL_iff.mpr formsU⟩
      · rw [Tr.pts, ptsL_flat]
        unfold List.Nodup
        rw [List.pairwise_flatMap]
        refine ⟨fun u hu => ?_, apartU⟩
        obtain ⟨c, _, hb⟩ := eachM u (h4.mem_iff.mp hu)
        exact (built_ok G nd d c u hb).2.1
      · intro n hn
        rw [Tr.pts, mem_ptsL] at hn
        obtain ⟨u, hu, hn⟩ := hn
        obtain ⟨c, hc, hb⟩ := eachM u (h4.mem_iff.mp hu)
        exact Under.parent G h1 hc ((built_ok G nd d c u hb).2.2.1 n hn)
/-- nothing is left out -/
theorem built_all (G : Grown ns ab lv dp) : ∀ (d i : Nat) (t : Tr), Built ns names d i t → ∀ n, Under ns ab names i n → n ∈ t.pts
  | 0, i, t, h, _, _ => False.elim h
  | d + 1, i, t, h, n, u => by
    unfold Built at h
    obtain ⟨l, k, m, u1, u2, u3⟩ := u
    cases m with
    | zero =>
      unfold upN at u3
      cases u3
      rcases h with ⟨k', n', h1, h2, rfl⟩ | ⟨j, cs, ts, us, h1, _⟩
      · rw [u1] at h1
        cases h1
        rw [u2] at h2
        cases h2
        simp [Tr.pts]
      · rw [u1] at h1; cases h1
    | succ m =>
      unfold upN at u3
      cases e : upN ab m l with
      | none => rw [e] at u3; cases u3
      | some c =>
        rw [e] at u3
        have u3 : (ab[c]?).join = some i := u3
        have hac : ab[c]? = some (some i) := by
          cases z : ab[c]? with
          | none => rw [z] at u3; cases u3
          | some o =>
            rw [z] at u3
            have u3 : o = some i := u3
            rw [u3]
        obtain ⟨j', cs', p1, p2⟩ := G.par c i hac
        rcases h with ⟨k', n', h1, _⟩ | ⟨j, cs, ts, us, h1, h2, h3, h4, h5, rfl⟩
        · rw [h1] at p1; cases p1
        · rw [h1] at p1
          cases p1
          obtain ⟨q, hq, eq⟩ := List.mem_iff_getElem.mp p2
          have hq' : q < ts.length := by omega
          have b := h3 q c ts[q] (by rw [List.getElem?_eq_getElem hq, eq]) (List.getElem?_eq_getElem hq')
          have := built_all G d c _ b n ⟨l, k, m, u1, u2, e⟩
          rw [Tr.pts, mem_ptsL]
          exact ⟨_, h4.mem_iff.mpr (List.getElem_mem hq'), this⟩
/-- all stand under the root -/
theorem under_root (G : Grown ns ab lv dp) {k : Nat} {n : Int} (hk : k < lv.length) (hn : names[k]? = some n) : Under ns ab names 0 n := by
  obtain ⟨l, hl⟩ : ∃ l, lv[k]? = some l := ⟨_, List.getElem?_eq_getElem hk⟩
  have h1 := G.lf k l hl
  have climb : ∀ (d c m : Nat), dp[c]? = some d → upN ab m l = some c → ∃ m', upN ab m' l = some 0 := by
    intro d
    induction d with
    | zero =>
      intro c m hc hm
      have cl := lt_of_get hc
      obtain ⟨o, ho⟩ : ∃ o, ab[c]? = some o := ⟨_, List.getElem?_eq_getElem (by rw [G.la, ← G.ld]; exact cl)⟩
      cases o with
      | none => exact ⟨m, by rw [hm, (G.top c ho).1]⟩
      | some p =>
        obtain ⟨j, cs, p1, p2⟩ := G.par c p ho
        obtain ⟨_, ⟨d', _, q2⟩, _⟩ := (G.inn p j cs p1).2.2 c p2
        rw [hc] at q2
        cases q2
    | succ d ih =>
      intro c m hc hm
      have cl := lt_of_get hc
      obtain ⟨o, ho⟩ : ∃ o, ab[c]? = some o := ⟨_, List.getElem?_eq_getElem (by rw [G.la, ← G.ld]; exact cl)⟩
      cases o with
      | none => exact ⟨m, by rw [hm, (G.top c ho).1]⟩
      | some p =>
        obtain ⟨j, cs, p1, p2⟩ := G.par c p ho
        obtain ⟨_, ⟨d', q1, q2⟩, _⟩ := (G.inn p j cs p1).2.2 c p2
        rw [hc] at q2
        cases q2
        refine ih p (m + 1) q1 ?_
        unfold upN
        rw [hm]
        show (ab[c]?).join = _
        rw [ho]
        rfl
  have ll := lt_of_get h1
  obtain ⟨d, hd⟩ : ∃ d, dp[l]? = some d := ⟨_, List.getElem?_eq_getElem (by rw [G.ld]; exact ll)⟩
  obtain ⟨m', hm'⟩ := climb d l 0 hd rfl
  exact ⟨l, k, m', h1, hn, hm'⟩
/-- the points of the whole -/
theorem built_pts (G : Grown ns ab lv dp) (nd : names.Nodup) {d : Nat} {t : Tr} (b : Built ns names d 0 t) (hl : lv.length ≤ names.length) : t.pts.Perm (names.take lv.length) := by
  obtain ⟨_, h2, h3, _⟩ := built_ok G nd d 0 t b
  refine (List.perm_ext_iff_of_nodup h2 (nd.sublist (List.take_sublist _ _))).mpr fun n => ⟨fun h => ?_, fun h => ?_⟩
  · obtain ⟨l, k, m, a1, a2, _⟩ := h3 n h
    have := lt_of_get (G.fl l k a1)
    exact List.mem_of_getElem? (i := k) (by rw [List.getElem?_take, if_pos this]; exact a2)
  · obtain ⟨k, hk, e⟩ := List.mem_iff_getElem.mp h
    rw [List.length_take] at hk
    rw [List.getElem_take] at e
    exact built_all G d 0 t b n (under_root G (k := k) (by omega) (by rw [List.getElem?_eq_getElem (by omega), e]))
end
end Jk

namespace Jk
open PySem L2 Evl
def jOrE (t u : TE) : TE := fun σ H Q => t σ H Q ∨ u σ H Q
@[simp] theorem j_orE {t u : TE} {σ : L2.St} {H : Hp} {Q : VK} : jOrE t u σ H Q = (t σ H Q ∨ u σ H Q) := rfl
theorem _root_.L2.PE.or {X : Cx} {e : Expr} {t u : TE} (h : PE X e t) (g : PE X e u) : PE X e (jOrE t u) := ⟨fun pins s σ H Q I q => q.elim (h.run pins s σ H Q I) (g.run pins s σ H Q I)⟩
/-! isinstance(x, D), x an object made by C -/
def jIsO (K : PySem.W.Frag) : List V → Hp → VK → Prop := fun xs H Q => ∃ a D, xs = [.ref a, .ref D] ∧ ∃ C b, (∃ dx fs, H a = some (.ins C dx fs)) ∧ Cls K C ∧ IsC K C ∧ PySem.W.kitOne K (.ref C) (.ref D) = some b ∧ Q (.bl b) H
@[simp] theorem j_isO {K : PySem.W.Frag} {a D : Addr} {H : Hp} {Q : VK} : jIsO K [.ref a, .ref D] H Q = ∃ C b, (∃ dx fs, H a = some (.ins C dx fs)) ∧ Cls K C ∧ IsC K C ∧ PySem.W.kitOne K (.ref C) (.ref D) = some b ∧ Q (.bl b) H := propext ⟨fun ⟨_, _, e, r⟩ => by cases e; exact r, fun r => ⟨_, _, rfl, r⟩⟩
theorem call_isO {X : Cx} {K0 : PySem.W.Frag} (hK : X.K = K0 := by rfl) : CallR X (.builtin "isinstance") (jIsO K0) := by
  subst hK
  exact callBy call_isi fun xs H Q ⟨a, D, e, C, b, ⟨dx, fs, h⟩, cl, ic, k, q⟩ => ⟨.ref a, .ref D, .ref C, .ref D, b, e, .own D, .base (.ins h cl ic.ha ic.hn ic.ht ic.hm), k, q⟩
end Jk

namespace Jk
open PySem L2 Evl
theorem nd_len {ns : List Int} {m : Nat} (nd : ns.Nodup) (h : ∀ n ∈ ns, 0 ≤ n ∧ n < (m : Int)) : ns.length ≤ m := by
  have e : ns.Perm (((List.range m).map fun (k : Nat) => (k : Int)).filter fun z => decide (z ∈ ns)) := by
    refine (List.perm_ext_iff_of_nodup nd ?_).mpr fun z => ?_
    · refine List.Pairwise.sublist List.filter_sublist ?_
      rw [List.pairwise_map]
      exact List.pairwise_lt_range.imp fun h => by omega
    · rw [List.mem_filter, decide_eq_true_iff, List.mem_map]
      constructor
      · intro hz
        have := h z hz
        exact ⟨⟨z.toNat, List.mem_range.mpr (by omega), by omega⟩, hz⟩
      · exact fun hz => hz.2
  rw [e.length_eq]
  refine Nat.le_trans (List.length_filter_le _ _) ?_
  rw [List.length_map, List.length_range]
  exact Nat.le_refl _
theorem LsI.up {H H' : Hp} {l : Addr} {ns : List Int} (h : LsI H l ns) (e : Ex H H') : LsI H' l ns := e _ _ h
end Jk

namespace Jk
open PySem L2 Evl
section
variable {X : Cx}
def jIndexI : V → List V → Hp → VK → Prop := fun x vs H Q => ∃ l v, x = .ref l ∧ vs = [.int v] ∧ ∃ ns j, LsI H l ns ∧ ns[j]? = some v ∧ (∀ m : Nat, m < j → ns[m]? ≠ some v) ∧ Q (.int (j : Nat)) H
@[simp] theorem j_indexI {l : Addr} {v : Int} {H : Hp} {Q : VK} : jIndexI (.ref l) [.int v] H Q = ∃ ns j, LsI H l ns ∧ ns[j]? = some v ∧ (∀ m : Nat, m < j → ns[m]? ≠ some v) ∧ Q (.int (j : Nat)) H := by simp [jIndexI]
theorem mt_indexI : MtR X "list.index" jIndexI := fun pins s σ H x xs v us Q I rx rxs ⟨l, n, e1, e2, ns, j, h, hj, hm, q⟩ => mt_index pins s σ H x xs v us Q I rx rxs (by
  refine ⟨l, ns.map V.int, .int n, j, .int n, e1, e2, .inl (.inl h), rfl, ?_, by rw [List.getElem?_map, hj]; rfl, by simp [eqV], fun m z hlt hz => ?_, q⟩
  · rw [List.all_map]
    exact List.all_eq_true.mpr fun _ _ => rfl
  · rw [List.getElem?_map] at hz
    cases e : ns[m]? with
    | none => rw [e] at hz; cases hz
    | some y =>
      rw [e] at hz
      cases hz
      have : y ≠ n := fun z => hm m hlt (by rw [e, z])
      simp [eqV, this])
def jSetL : V → V → V → Hp → (Hp → Prop) → Prop := fun o i v H Q => ∃ p k, o = .ref p ∧ i = .int k ∧ ∃ xs, H p = some (.lst xs) ∧ 0 ≤ k ∧ k.toNat < xs.length ∧ Q (L2.upd H p (.lst (xs.set k.toNat v)))
@[simp] theorem j_setL {p : Addr} {k : Int} {v : V} {H : Hp} {Q : Hp → Prop} : jSetL (.ref p) (.int k) v H Q = ∃ xs, H p = some (.lst xs) ∧ 0 ≤ k ∧ k.toNat < xs.length ∧ Q (L2.upd H p (.lst (xs.set k.toNat v))) := by simp [jSetL]
theorem set_listJ : PSet X jSetL := fun pins s σ H o i v u1 u2 u3 Q I r1 r2 r3 ⟨p, k, e1, e2, xs, h, h0, hk, q⟩ => set_list pins s σ H o i v u1 u2 u3 Q I r1 r2 r3 ⟨p, xs, k, k.toNat, e1, e2, h, by
  unfold ixN
  simp [h0, show ¬ k < 0 by omega, show k < (xs.length : Int) by omega], q⟩
@[simp] theorem j_gsub {to ti : TE} {t : TSet} {v : V} {σ : L2.St} {H : Hp} {Q : L2.St → Hp → Prop} : gSub to ti t v σ H Q = to σ H fun o H1 => ti σ H1 fun i H2 => t o i v H2 fun H3 => Q σ H3 := rfl
end
end Jk

namespace Jk
/-! ## ties of trees -/
def mmI (a b : Int) : Int × Int := (min a b, max a b)
theorem mm_cases {a b c d : Int} (h : mmI a b = mmI c d) : (a = c ∧ b = d) ∨ (a = d ∧ b = c) := by
  unfold mmI at h
  have h1 := congrArg Prod.fst h
  have h2 := congrArg Prod.snd h
  simp only at h1 h2
  omega
theorem mm_comm (a b : Int) : mmI a b = mmI b a := by
  unfold mmI
  rw [Int.min_comm, Int.max_comm]
def crossL (ah ps : List Int) : List (Int × Int) := ah.flatMap fun a => ps.map fun b => mmI a b
theorem mem_cross {ah ps : List Int} {p : Int × Int} : p ∈ crossL ah ps ↔ ∃ a ∈ ah, ∃ b ∈ ps, p = mmI a b := by
  unfold crossL
  simp only [List.mem_flatMap, List.mem_map]
  exact ⟨fun ⟨a, h1, b, h2, e⟩ => ⟨a, h1, b, h2, e.symm⟩, fun ⟨a, h1, b, h2, e⟩ => ⟨a, h1, b, h2, e.symm⟩⟩
theorem cross_len (ah ps : List Int) : (crossL ah ps).length = ah.length * ps.length := by
  unfold crossL
  induction ah with
  | nil => simp
  | cons a ah ih => rw [List.flatMap_cons, List.length_append, ih, List.length_map, List.length_cons, Nat.succ_mul]; omega
mutual
def Tr.ties : Tr → List (Int × Int)
  | .pt _ => []
  | .nd j ts => trTies j [] ts
def trTies (j : Bool) (ah : List Int) : List Tr → List (Int × Int)
  | [] => []
  | t :: ts => t.ties ++ (if j = true then crossL ah t.pts else []) ++ trTies j (ah ++ t.pts) ts
end
mutual
def Tr.tie : Tr → Int → Int → Bool
  | .pt _, _, _ => false
  | .nd j ts, a, b => tieL j ts a b
def tieL (j : Bool) : List Tr → Int → Int → Bool
  | [], _, _ => j
  | t :: ts, a, b => if a ∈ t.pts ∧ b ∈ t.pts then t.tie a b else tieL j ts a b
end
theorem trTies_app (j : Bool) (ah : List Int) (us ts : List Tr) : trTies j ah (us ++ ts) = trTies j ah us ++ trTies j (ah ++ ptsL us) ts := by
  induction us generalizing ah with
  | nil => simp [trTies, ptsL]
  | cons u us ih => rw [List.cons_append, trTies, trTies, ih, ptsL, ← List.append_assoc, ← List.append_assoc]
theorem trTies_snoc (j : Bool) (us : List Tr) (t : Tr) : trTies j [] (us ++ [t]) = trTies j [] us ++ (t.ties ++ (if j = true then crossL (ptsL us) t.pts else [])) := by
  rw [trTies_app]
  simp [trTies]
mutual
theorem ties_len : ∀ t : Tr, t.ties.length ≤ t.pts.length * t.pts.length
  | .pt n => by simp [Tr.ties]
  | .nd j ts => by
    rw [Tr.ties, Tr.pts]
    have := trTies_len j [] ts
    simpa using this
theorem trTies_len (j : Bool) (ah : List Int) : ∀ ts : List Tr, (trTies j ah ts).length + ah.length * ah.length ≤ (ah.length + (ptsL ts).length) * (ah.length + (ptsL ts).length)
  | [] => by simp [trTies, ptsL]
  | t :: ts => by
    have h1 := ties_len t
    have h2 := trTies_len j (ah ++ t.pts) ts
    rw [trTies, ptsL]
    simp only [List.length_append] at h2 ⊢
    have h3 : (if j = true then crossL ah t.pts else []).length ≤ ah.length * t.pts.length := by
      split
      · rw [cross_len]; exact Nat.le_refl _
      · simp
    generalize ah.length = a at *
    generalize t.pts.length = p at *
    generalize (ptsL ts).length = r at *
    have e : (a + p) * (a + p) = a * a + a * p + (a * p + p * p) := by rw [Nat.add_mul, Nat.mul_add, Nat.mul_add, Nat.mul_comm p a]
    have e2 : a + (p + r) = a + p + r := by omega
    rw [e2]
    omega
end
theorem ties_end (j : Bool) (ah : List Int) : ∀ (ts : List Tr), (∀ t ∈ ts, ∀ p ∈ t.ties, ∃ c ∈ t.pts, ∃ d ∈ t.pts, p = mmI c d) → ∀ p ∈ trTies j ah ts, ∃ c, ∃ d ∈ ptsL ts, c ∈ ah ++ ptsL ts ∧ p = mmI c d
  | [], _, p, h => by simp [trTies] at h
  | t :: ts, ih, p, h => by
    rw [trTies] at h
    rw [ptsL]
    rcases List.mem_append.mp h with h | h
    · rcases List.mem_append.mp h with h | h
      · obtain ⟨c, h1, d, h2, e⟩ := ih t (by simp) p h
        exact ⟨c, d, List.mem_append_left _ h2, by simp [h1], e⟩
      · split at h
        · obtain ⟨c, h1, d, h2, e⟩ := mem_cross.mp h
          exact ⟨c, d, List.mem_append_left _ h2, by simp [h1], e⟩
        · cases h
    · obtain ⟨c, d, h1, h2, e⟩ := ties_end j (ah ++ t.pts) ts (fun u hu => ih u (by simp [hu])) p h
      exact ⟨c, d, List.mem_append_right _ h1, by simpa [or_assoc] using h2, e⟩
theorem ties_in : ∀ (t : Tr), ∀ p ∈ t.ties, ∃ c ∈ t.pts, ∃ d ∈ t.pts, p = mmI c d
  | .pt n, p, h => by simp [Tr.ties] at h
  | .nd j ts, p, h => by
    rw [Tr.ties] at h
    rw [Tr.pts]
    obtain ⟨c, d, h1, h2, e⟩ := ties_end j [] ts (fun t ht => ties_in t) p h
    exact ⟨c, by simpa using h2, d, h1, e⟩
theorem tieL_out {j : Bool} : ∀ {ts : List Tr} {a b : Int}, (∀ t ∈ ts, ¬ (a ∈ t.pts ∧ b ∈ t.pts)) → tieL j ts a b = j
  | [], a, b, _ => by rw [tieL]
  | t :: ts, a, b, h => by
    rw [tieL, if_neg (h t (by simp))]
    exact tieL_out fun u hu => h u (by simp [hu])
theorem trTies_tie (j : Bool) {a b : Int} (ne : a ≠ b) : ∀ (ts : List Tr) (ah : List Int), (∀ t ∈ ts, a ∈ t.pts → b ∈ t.pts → (mmI a b ∈ t.ties ↔ t.tie a b = true)) → (ah ++ ptsL ts).Nodup → a ∈ ah ++ ptsL ts → b ∈ ah ++ ptsL ts → ¬ (a ∈ ah ∧ b ∈ ah) →
    (mmI a b ∈ trTies j ah ts ↔ tieL j ts a b = true)
  | [], ah, _, _, h1, h2, h3 => by simp [ptsL] at h1 h2; exact absurd ⟨h1, h2⟩ h3
  | t :: ts, ah, ih, nd, h1, h2, h3 => by
    rw [ptsL] at nd h1 h2
    have nd' : ((ah ++ t.pts) ++ ptsL ts).Nodup := by rw [List.append_assoc]; exact nd
    obtain ⟨n1, n2, n3⟩ := List.nodup_append.mp nd'
    obtain ⟨m1, m2, m3⟩ := List.nodup_append.mp n1
    have third : a ∈ ah ++ t.pts → b ∈ ah ++ t.pts → ¬ mmI a b ∈ trTies j (ah ++ t.pts) ts := fun ha hb h => by
      obtain ⟨c, d, hd, _, e⟩ := ties_end j _ ts (fun u hu => ties_in u) _ h
      rcases mm_cases e with ⟨_, e⟩ | ⟨e, _⟩
      · exact n3 b hb d hd e
      · exact n3 a ha d hd e
    rw [trTies, tieL, List.mem_append, List.mem_append]
    by_cases hb : a ∈ t.pts ∧ b ∈ t.pts
    · rw [if_pos hb]
      have z3 := third (List.mem_append_right _ hb.1) (List.mem_append_right _ hb.2)
      have z2 : ¬ mmI a b ∈ (if j = true then crossL ah t.pts else []) := fun h => by
        split at h
        · obtain ⟨c, hc, d, hd, e⟩ := mem_cross.mp h
          rcases mm_cases e with ⟨e, _⟩ | ⟨_, e⟩
          · exact m3 c hc a hb.1 e.symm
          · exact m3 c hc b hb.2 e.symm
        · cases h
      rw [← ih t (by simp) hb.1 hb.2]
      simp [z2, z3]
    · rw [if_neg hb]
      have z1 : ¬ mmI a b ∈ t.ties := fun h => by
        obtain ⟨c, hc, d, hd, e⟩ := ties_in t _ h
        rcases mm_cases e with ⟨e1, e2⟩ | ⟨e1, e2⟩ <;> subst e1 e2
        · exact hb ⟨hc, hd⟩
        · exact hb ⟨hd, hc⟩
      by_cases hat : a ∈ ah ++ t.pts ∧ b ∈ ah ++ t.pts
      · have z3 := third hat.1 hat.2
        have hc : mmI a b ∈ crossL ah t.pts := by
          rw [mem_cross]
          rcases List.mem_append.mp hat.1 with x | x <;> rcases List.mem_append.mp hat.2 with y | y
          · exact absurd ⟨x, y⟩ h3
          · exact ⟨a, x, b, y, rfl⟩
          · exact ⟨b, y, a, x, mm_comm a b⟩
          · exact absurd ⟨x, y⟩ hb
        have out : tieL j ts a b = j := tieL_out fun u hu ⟨x, _⟩ => n3 a hat.1 a (mem_ptsL.mpr ⟨u, hu, x⟩) rfl
        rw [out]
        simp only [z1, z3, false_or, or_false]
        cases j <;> simp [hc]
      · have z2 : ¬ mmI a b ∈ (if j = true then crossL ah t.pts else []) := fun h => by
          split at h
          · obtain ⟨c, hc, d, hd, e⟩ := mem_cross.mp h
            rcases mm_cases e with ⟨e1, e2⟩ | ⟨e1, e2⟩ <;> subst e1 e2
            · exact hat ⟨List.mem_append_left _ hc, List.mem_append_right _ hd⟩
            · exact hat ⟨List.mem_append_right _ hd, List.mem_append_left _ hc⟩
          · cases h
        simp only [z1, z2, false_or]
        exact trTies_tie j ne ts (ah ++ t.pts) (fun u hu => ih u (by simp [hu])) nd' (by rw [List.append_assoc]; exact h1) (by rw [List.append_assoc]; exact h2) hat
theorem nd_part {ts : List Tr} (nd : (ptsL ts).Nodup) {t : Tr} (ht : t ∈ ts) : t.pts.Nodup := by
  rw [ptsL_flat] at nd
  unfold List.Nodup at nd
  rw [List.pairwise_flatMap] at nd
  exact nd.1 t ht
/-- tied, as the law lists it and as it is asked -/
theorem ties_tie : ∀ (t : Tr), t.pts.Nodup → ∀ {a b : Int}, a ≠ b → a ∈ t.pts → b ∈ t.pts → (mmI a b ∈ t.ties ↔ t.tie a b = true)
  | .pt n, _, a, b, ne, h1, h2 => by
    simp [Tr.pts] at h1 h2
    exact absurd (h1.trans h2.symm) ne
  | .nd j ts, nd, a, b, ne, h1, h2 => by
    rw [Tr.pts] at nd h1 h2
    rw [Tr.ties, Tr.tie]
    refine trTies_tie j ne ts [] (fun t ht x y => ties_tie t ?_ ne x y) (by simpa using nd) (by simpa using h1) (by simpa using h2) (by simp)
    exact nd_part nd ht
theorem ties_nodupL (j : Bool) : ∀ (ts : List Tr) (ah : List Int), (∀ t ∈ ts, t.ties.Nodup) → (ah ++ ptsL ts).Nodup → (trTies j ah ts).Nodup
  | [], ah, _, _ => by simp [trTies]
  | t :: ts, ah, ih, nd => by
    rw [ptsL] at nd
    have nd' : ((ah ++ t.pts) ++ ptsL ts).Nodup := by rw [List.append_assoc]; exact nd
    obtain ⟨n1, n2, n3⟩ := List.nodup_append.mp nd'
    obtain ⟨m1, m2, m3⟩ := List.nodup_append.mp n1
    have two : (if j = true then crossL ah t.pts else []).Nodup := by
      split
      · unfold crossL List.Nodup
        rw [List.pairwise_flatMap]
        refine ⟨fun a ha => ?_, ?_⟩
        · rw [List.pairwise_map]
          refine List.Pairwise.imp_of_mem (fun {b c} hb hc hne e => ?_) m2
          rcases mm_cases e with ⟨_, e⟩ | ⟨e, _⟩
          · exact hne e
          · exact m3 a ha c hc e
        · refine List.Pairwise.imp_of_mem (fun {b c} hb hc hne x hx y hy e => ?_) m1
          obtain ⟨p, hp, rfl⟩ := List.mem_map.mp hx
          obtain ⟨q, hq, rfl⟩ := List.mem_map.mp hy
          rcases mm_cases e with ⟨e, _⟩ | ⟨e, _⟩
          · exact hne e
          · exact m3 b hb q hq e
      · exact List.nodup_nil
    rw [trTies]
    rw [List.nodup_append, List.nodup_append]
    refine ⟨⟨ih t (by simp), two, fun p hp q hq e => ?_⟩, ties_nodupL j ts _ (fun u hu => ih u (by simp [hu])) nd', fun p hp q hq e => ?_⟩
    · subst e
      split at hq
      · obtain ⟨c, hc, d, hd, e⟩ := ties_in t _ hp
        obtain ⟨c', hc', d', hd', e'⟩ := mem_cross.mp hq
        rw [e] at e'
        rcases mm_cases e' with ⟨e1, _⟩ | ⟨_, e2⟩
        · exact m3 c' hc' c hc e1.symm
        · exact m3 c' hc' d hd e2.symm
      · cases hq
    · subst e
      obtain ⟨c, d, hd, _, e⟩ := ties_end j _ ts (fun u hu => ties_in u) _ hq
      have both : ∃ x y, x ∈ ah ++ t.pts ∧ y ∈ ah ++ t.pts ∧ p = mmI x y := by
        rcases List.mem_append.mp hp with hp | hp
        · obtain ⟨c, hc, d, hd, e⟩ := ties_in t _ hp
          exact ⟨c, d, List.mem_append_right _ hc, List.mem_append_right _ hd, e⟩
        · split at hp
          · obtain ⟨c, hc, d, hd, e⟩ := mem_cross.mp hp
            exact ⟨c, d, List.mem_append_left _ hc, List.mem_append_right _ hd, e⟩
          · cases hp
      obtain ⟨x, y, hx, hy, e2⟩ := both
      rw [e2] at e
      rcases mm_cases e with ⟨_, e⟩ | ⟨e, _⟩
      · exact n3 y hy d hd e
      · exact n3 x hx d hd e
theorem ties_nodup : ∀ (t : Tr), t.pts.Nodup → t.ties.Nodup
  | .pt n, _ => by simp [Tr.ties]
  | .nd j ts, nd => by
    rw [Tr.pts] at nd
    rw [Tr.ties]
    refine ties_nodupL j ts [] (fun t ht => ties_nodup t ?_) (by simpa using nd)
    exact nd_part nd ht
theorem mm_lt {a b : Int} (h : a ≠ b) : (mmI a b).1 < (mmI a b).2 := by
  show min a b < max a b
  omega
theorem ties_ltL (j : Bool) : ∀ (ts : List Tr) (ah : List Int), (∀ t ∈ ts, ∀ p ∈ t.ties, p.1 < p.2) → (ah ++ ptsL ts).Nodup → ∀ p ∈ trTies j ah ts, p.1 < p.2
  | [], ah, _, _, p, h => by simp [trTies] at h
  | t :: ts, ah, ih, nd, p, h => by
    rw [ptsL] at nd
    have nd' : ((ah ++ t.pts) ++ ptsL ts).Nodup := by rw [List.append_assoc]; exact nd
    obtain ⟨n1, n2, n3⟩ := List.nodup_append.mp nd'
    obtain ⟨m1, m2, m3⟩ := List.nodup_append.mp n1
    rw [trTies] at h
    rcases List.mem_append.mp h with h | h
    · rcases List.mem_append.mp h with h | h
      · exact ih t (by simp) p h
      · split at h
        · obtain ⟨c, hc, d, hd, e⟩ := mem_cross.mp h
          rw [e]
          exact mm_lt (m3 c hc d hd)
        · cases h
    · exact ties_ltL j ts _ (fun u hu => ih u (by simp [hu])) nd' p h
theorem ties_lt : ∀ (t : Tr), t.pts.Nodup → ∀ p ∈ t.ties, p.1 < p.2
  | .pt n, _, p, h => by simp [Tr.ties] at h
  | .nd j ts, nd, p, h => by
    rw [Tr.pts] at nd
    rw [Tr.ties] at h
    exact ties_ltL j ts [] (fun t ht => ties_lt t (nd_part nd ht)) (by simpa using nd) p h
theorem pts_nd {j : Bool} {ts : List Tr} (nd : (Tr.nd j ts).pts.Nodup) {t : Tr} (ht : t ∈ ts) : t.pts.Nodup := by
  rw [Tr.pts] at nd
  exact nd_part nd ht
end Jk

namespace Jk
open PySem L2 Evl
theorem take_one {α : Type} {l : List α} {i : Nat} {x : α} (h : l[i]? = some x) : l.take (i + 1) = l.take i ++ [x] := by rw [List.take_add_one, h]; rfl
/-! ## comprehensions whose pieces stay as they are -/
section
variable {K : PySem.W.Frag} {a : Addr} {xs : List V} {g : TG} {te : TE} {vs : List Nat} {σ : L2.St} {H1 : Hp} {D : Addr} {Qd : Hp → Prop}
def StayD (D : Addr) (S : Nat → V → Hp → Prop) : Prop := ∀ i y H H' acc, S i y H → H D = some (.lst acc) → (∀ x o, H x = some o → x ≠ D → H' x = some o) → S i y H'
structure CompS (D : Addr) (H1 : Hp) (S : Nat → V → Hp → Prop) (i : Nat) (H : Hp) : Prop where
  ex : Ex H1 H
  ac : ∃ acc : List V, H D = some (.lst acc) ∧ acc.length = i ∧ ∀ (k : Nat) (y : V), acc[k]? = some y → S k y H
theorem CompS.start {S : Nat → V → Hp → Prop} (hD : H1 D = none) : CompS D H1 S 0 (upd H1 D (.lst [])) := ⟨Ex.new hD, [], upd_same, rfl, fun k y h => by simp at h⟩
theorem CompS.push {S : Nat → V → Hp → Prop} (st : StayD D S) (hD : H1 D = none) {i : Nat} {H H4 : Hp} {y : V} (c : CompS D H1 S i H) (e : Ex H H4) (hy : S i y H4) (hi : i < 100000) : ∃ acc, H4 D = some (.lst acc) ∧ acc.length < sizeLine ∧ CompS D H1 S (i + 1) (upd H4 D (.lst (acc ++ [y]))) := by
  obtain ⟨e1, acc, h1, h2, h3⟩ := c
  have h4 := e _ _ h1
  have kk : ∀ x o, H4 x = some o → x ≠ D → (upd H4 D (.lst (acc ++ [y]))) x = some o := fun x o z ne => by rw [upd_ne ne]; exact z
  refine ⟨acc, h4, lt_line (by omega), Ex.mut (e1.trans e) hD, _, upd_same, by simp [h2], fun k z hz => ?_⟩
  rcases app_get hz with ⟨_, q⟩ | ⟨q1, q2⟩
  · exact st k z _ _ _ (st k z _ _ _ (h3 k z q) h1 fun x o w _ => e x o w) h4 kk
  · subst q2
    rw [q1, h2]
    exact st i z _ _ _ hy h4 kk
theorem lc_listS (S : Nat → V → Hp → Prop) (st : StayD D S) (hD : H1 D = none) (hl : SqL K H1 a xs) (few : xs.length ≤ 100000)
    (hs : ∀ i x H (N : V → Hp → Prop), xs[i]? = some x → Ex H1 H → H D ≠ none → (∀ y H4, Ex H H4 → S i y H4 → N y H4) → g x (wipe σ vs) H fun σ2 H2 => wipe σ2 vs = wipe σ vs ∧ te σ2 H2 N)
    (hd : ∀ acc H', Ex H1 H' → H' D = some (.lst acc) → acc.length = xs.length → (∀ (i : Nat) (y : V), acc[i]? = some y → S i y H') → Qd H') :
    ∃ W : Nat → Nat → Hp → Prop, (∃ m, W 0 m (upd H1 D (.lst []))) ∧ ∀ i m H, W i m H →
      ((Itl K a).stop i H ∧ Qd H) ∨ ((Itl K a).go i H ∧ ∃ Nx : Hp → Prop, (∀ H', Nx H' → ∃ m', m' < m ∧ W (i + 1) m' H') ∧ ∀ x H', (Itl K a).yld i H x H' → g x (wipe σ vs) H' fun σ2 H2 => wipe σ2 vs = wipe σ vs ∧ tYes σ2 H2 fun b H3 =>
        if b = true then te σ2 H3 fun y H4 => ∃ acc, H4 D = some (.lst acc) ∧ acc.length < sizeLine ∧ Nx (upd H4 D (.lst (acc ++ [y]))) else Nx H3) := by
  refine lc_list (xs := xs) (CompS D H1 S) (CompS.start hD) (fun i H _ c => ?_) (fun i x H hx c => ?_) (fun H c => ?_)
  · rcases hl with (h | ⟨o, h⟩) | h
    · exact .inl (.inl (c.ex _ _ h))
    · exact .inl (.inr ⟨o, c.ex _ _ h⟩)
    · exact .inr h
  · obtain ⟨acc, h1, _⟩ := id c.ac
    exact hs i x H _ hx c.ex (by rw [h1]; simp) fun y H4 e hy => c.push st hD e hy (by have := lt_of_get hx; omega)
  · obtain ⟨e, acc, h1, h2, h3⟩ := c
    exact hd acc H e h1 h2 h3
theorem lc_tupS (S : Nat → V → Hp → Prop) (st : StayD D S) (hD : H1 D = none) (hl : SqT K H1 a xs) (few : xs.length ≤ 100000)
    (hs : ∀ i x H (N : V → Hp → Prop), xs[i]? = some x → Ex H1 H → H D ≠ none → (∀ y H4, Ex H H4 → S i y H4 → N y H4) → g x (wipe σ vs) H fun σ2 H2 => wipe σ2 vs = wipe σ vs ∧ te σ2 H2 N)
    (hd : ∀ acc H', Ex H1 H' → H' D = some (.lst acc) → acc.length = xs.length → (∀ (i : Nat) (y : V), acc[i]? = some y → S i y H') → Qd H') :
    ∃ W : Nat → Nat → Hp → Prop, (∃ m, W 0 m (upd H1 D (.lst []))) ∧ ∀ i m H, W i m H →
      ((Itt K a).stop i H ∧ Qd H) ∨ ((Itt K a).go i H ∧ ∃ Nx : Hp → Prop, (∀ H', Nx H' → ∃ m', m' < m ∧ W (i + 1) m' H') ∧ ∀ x H', (Itt K a).yld i H x H' → g x (wipe σ vs) H' fun σ2 H2 => wipe σ2 vs = wipe σ vs ∧ tYes σ2 H2 fun b H3 =>
        if b = true then te σ2 H3 fun y H4 => ∃ acc, H4 D = some (.lst acc) ∧ acc.length < sizeLine ∧ Nx (upd H4 D (.lst (acc ++ [y]))) else Nx H3) := by
  refine lc_tup (xs := xs) (CompS D H1 S) (CompS.start hD) (fun i H _ c => ?_) (fun i x H hx c => ?_) (fun H c => ?_)
  · rcases hl with (h | ⟨o, h⟩) | h
    · exact .inl (.inl (c.ex _ _ h))
    · exact .inl (.inr ⟨o, c.ex _ _ h⟩)
    · exact .inr h
  · obtain ⟨acc, h1, _⟩ := id c.ac
    exact hs i x H _ hx c.ex (by rw [h1]; simp) fun y H4 e hy => c.push st hD e hy (by have := lt_of_get hx; omega)
  · obtain ⟨e, acc, h1, h2, h3⟩ := c
    exact hd acc H e h1 h2 h3
theorem lc_rangeS {lo : Int} {n : Nat} (S : Nat → V → Hp → Prop) (st : StayD D S) (hD : H1 D = none) (few : n ≤ 100000)
    (hs : ∀ i H (N : V → Hp → Prop), i < n → Ex H1 H → H D ≠ none → (∀ y H4, Ex H H4 → S i y H4 → N y H4) → g (.int (lo + i)) (wipe σ vs) H fun σ2 H2 => wipe σ2 vs = wipe σ vs ∧ te σ2 H2 N)
    (hd : ∀ acc H', Ex H1 H' → H' D = some (.lst acc) → acc.length = n → (∀ (i : Nat) (y : V), acc[i]? = some y → S i y H') → Qd H') :
    ∃ W : Nat → Nat → Hp → Prop, (∃ m, W 0 m (upd H1 D (.lst []))) ∧ ∀ i m H, W i m H →
      ((Itr lo n).stop i H ∧ Qd H) ∨ ((Itr lo n).go i H ∧ ∃ Nx : Hp → Prop, (∀ H', Nx H' → ∃ m', m' < m ∧ W (i + 1) m' H') ∧ ∀ x H', (Itr lo n).yld i H x H' → g x (wipe σ vs) H' fun σ2 H2 => wipe σ2 vs = wipe σ vs ∧ tYes σ2 H2 fun b H3 =>
        if b = true then te σ2 H3 fun y H4 => ∃ acc, H4 D = some (.lst acc) ∧ acc.length < sizeLine ∧ Nx (upd H4 D (.lst (acc ++ [y]))) else Nx H3) := by
  refine lc_range (CompS D H1 S) (CompS.start hD) (fun i H hi c => ?_) (fun H c => ?_)
  · obtain ⟨acc, h1, _⟩ := id c.ac
    exact hs i H _ hi c.ex (by rw [h1]; simp) fun y H4 e hy => c.push st hD e hy (by omega)
  · obtain ⟨e, acc, h1, h2, h3⟩ := c
    exact hd acc H e h1 h2 h3
end
/-! what stays -/
theorem stay_val {D : Addr} {f : Nat → V} : StayD D fun i y _ => y = f i := fun i y H H' acc h _ _ => h
theorem ToldAt.stay {D : Addr} {H H' : Hp} {acc : List V} {t : Tr} {v : V} (h : ToldAt H v t) (hD : H D = some (.lst acc)) (k : ∀ x o, H x = some o → x ≠ D → H' x = some o) : ToldAt H' v t :=
  h.map (fun x o z => k _ _ z (ne_of z hD (by intro y; cases y)))
theorem stay_told {D : Addr} {f : Nat → Tr → Prop} : StayD D fun i y H => ∃ t, f i t ∧ ToldAt H y t := fun i y H H' acc ⟨t, h1, h2⟩ hD k => ⟨t, h1, h2.stay hD k⟩
theorem stay_pair {D : Addr} {f : Nat → Int × Int} : StayD D fun i y H => ∃ t, y = .ref t ∧ H t = some (.tup [.int (f i).1, .int (f i).2]) := fun i y H H' acc ⟨t, h1, h2⟩ hD k => ⟨t, h1, k _ _ h2 (ne_of h2 hD (by intro y; cases y))⟩
theorem lsP_of {H : Hp} {D : Addr} {acc : List V} {prs : List (Int × Int)} (h : H D = some (.lst acc)) (hl : acc.length = prs.length) (k : ∀ (i : Nat) (y : V), acc[i]? = some y → ∃ t, y = .ref t ∧ ∃ p, prs[i]? = some p ∧ H t = some (.tup [.int p.1, .int p.2])) : LsP H D prs := by
  have gen : ∀ (acc : List V) (prs : List (Int × Int)), acc.length = prs.length → (∀ (i : Nat) (y : V), acc[i]? = some y → ∃ t, y = .ref t ∧ ∃ p, prs[i]? = some p ∧ H t = some (.tup [.int p.1, .int p.2])) → ∃ ts : List Addr, acc = ts.map V.ref ∧ TupsAt H ts prs := by
    intro acc
    induction acc with
    | nil =>
      intro prs hl _
      have : prs = [] := List.length_eq_zero_iff.mp hl.symm
      subst this
      exact ⟨[], rfl, TupsAt.nil _⟩
    | cons y acc ih =>
      intro prs hl kk
      cases prs with
      | nil => simp at hl
      | cons p prs =>
        obtain ⟨t, e, p', hp, ht⟩ := kk 0 y rfl
        cases hp
        obtain ⟨ts, e2, h2⟩ := ih prs (by simpa using hl) fun i z hz => kk (i + 1) z (by simpa using hz)
        exact ⟨t :: ts, by rw [e, e2]; rfl, TupsAt.cons.mpr ⟨ht, h2⟩⟩
  obtain ⟨ts, e, h2⟩ := gen acc prs hl k
  exact ⟨ts, by rw [h, e], h2⟩
theorem ints_of {acc : List V} {ns : List Int} (hl : acc.length = ns.length) (k : ∀ (i : Nat) (y : V), acc[i]? = some y → ∃ n, ns[i]? = some n ∧ y = .int n) : acc = ns.map V.int := by
  refine List.ext_getElem? fun i => ?_
  rw [List.getElem?_map]
  cases e : acc[i]? with
  | none =>
    rw [List.getElem?_eq_none_iff] at e
    rw [List.getElem?_eq_none (by omega)]
    rfl
  | some y =>
    obtain ⟨n, h1, h2⟩ := k i y e
    rw [h1, h2]
    rfl
end Jk

namespace Jk
open PySem L2 Evl
/-! ## sorted ints -/
def srt (l : List Int) : List Int := l.mergeSort fun a b => decide (a ≤ b)
theorem srt_perm (l : List Int) : (srt l).Perm l := List.mergeSort_perm _ _
theorem srt_le (l : List Int) : (srt l).Pairwise (· ≤ ·) := by
  have z := List.pairwise_mergeSort (le := fun a b : Int => decide (a ≤ b)) (fun a b c h1 h2 => decide_eq_true (Int.le_trans (of_decide_eq_true h1) (of_decide_eq_true h2))) (fun a b => by
    by_cases h : a ≤ b
    · simp [h]
    · simp [show b ≤ a by omega]) l
  exact z.imp fun h => of_decide_eq_true h
theorem le_uniq : ∀ {l m : List Int}, l.Perm m → l.Pairwise (· ≤ ·) → m.Pairwise (· ≤ ·) → l = m
  | [], m, p, _, _ => (List.nil_perm.mp p).symm
  | a :: l, [], p, _, _ => by have := p.length_eq; simp at this
  | a :: l, b :: m, p, h, g => by
    have ea : a = b := by
      have x1 := (List.pairwise_cons.mp h).1
      have y1 := (List.pairwise_cons.mp g).1
      rcases List.mem_cons.mp (p.mem_iff.mp (List.mem_cons_self (a := a))) with e | e
      · exact e
      · rcases List.mem_cons.mp (p.mem_iff.mpr (List.mem_cons_self (a := b))) with e' | e'
        · exact e'.symm
        · have := x1 b e'
          have := y1 a e
          omega
    subst ea
    rw [le_uniq ((List.perm_cons a).mp p) (List.pairwise_cons.mp h).2 (List.pairwise_cons.mp g).2]
theorem srt_uniq {l ys : List Int} (p : ys.Perm l) (h : ys.Pairwise (· ≤ ·)) : ys = srt l := le_uniq (p.trans (srt_perm l).symm) h (srt_le l)
theorem srt_len (l : List Int) : (srt l).length = l.length := (srt_perm l).length_eq
theorem srt_mem {l : List Int} {x : Int} : x ∈ srt l ↔ x ∈ l := (srt_perm l).mem_iff
theorem srt_of_perm {l m : List Int} (p : l.Perm m) : srt l = srt m := srt_uniq ((srt_perm l).trans p) (srt_le l)
theorem srt_fix {l : List Int} (h : l.Pairwise (· ≤ ·)) : srt l = l := (srt_uniq (List.Perm.refl l) h).symm
section
variable {X : Cx}
def jSorted (K : PySem.W.Frag) : List V → Hp → VK → Prop := fun vs H Q => ∃ (a : Addr) (ns : List Int), vs = [V.ref a] ∧ LsI H a ns ∧ ns.length < 64 ∧ ∀ p H2, H p = none → Ex H H2 → LsI H2 p (srt ns) → Q (.ref p) H2
theorem call_sortJ {K0 : PySem.W.Frag} (hK : X.K = K0 := by rfl) : CallR X (.builtin "sorted") (jSorted K0) := by
  subst hK
  exact callBy cr_sorted fun vs H Q ⟨a, ns, e, h, l, q⟩ => ⟨a, ns, e, .inl (.inl h), l, fun ns' p h1 h2 h3 => q p _ h3 (Ex.new h3) (by rw [srt_uniq h1 h2] at *; exact upd_same)⟩
@[simp] theorem j_sorted {K : PySem.W.Frag} {a : Addr} {H : Hp} {Q : VK} : jSorted K [.ref a] H Q = ∃ ns : List Int, LsI H a ns ∧ ns.length < 64 ∧ ∀ p H2, H p = none → Ex H H2 → LsI H2 p (srt ns) → Q (.ref p) H2 := by simp [jSorted]
end
theorem pi_listK {X : Cx} {K0 : PySem.W.Frag} {tg l : Expr} {tl : TE} (hl : PE X l tl) (hK : X.K = K0 := by rfl) : PI X tg l (iList K0 tl) := by
  subst hK
  exact pi_list hl
theorem pi_tupK {X : Cx} {K0 : PySem.W.Frag} {tg l : Expr} {tl : TE} (hl : PE X l tl) (hK : X.K = K0 := by rfl) : PI X tg l (iTup K0 tl) := by
  subst hK
  exact pi_tup hl
/-! ## [y for ys in xs for y in ..] -/
section
variable {K : PySem.W.Frag} {a : Addr} {xs : List V} {g g1 : TG} {wi1 : TI} {te : TE} {vs vs1 : List Nat} {σ : L2.St} {H1 : Hp} {D : Addr} {Qd : Hp → Prop}
theorem flat_take {α : Type} {ls : List (List α)} {i : Nat} {l : List α} (h : ls[i]? = some l) : (ls.take (i + 1)).flatten = (ls.take i).flatten ++ l := by rw [take_one h]; simp
theorem flat_le {α : Type} (ls : List (List α)) (i : Nat) : (ls.take i).flatten.length ≤ ls.flatten.length := by
  have z : ls.flatten = (ls.take i).flatten ++ (ls.drop i).flatten := by rw [← List.flatten_append, List.take_append_drop]
  rw [z, List.length_append]; omega
theorem sql_kp {H H' : Hp} {b : Addr} {xs : List V} (h : SqL K H b xs) (k : ∀ o, H b = some o → H' b = some o) : SqL K H' b xs := by
  rcases h with (h | ⟨o, h⟩) | h
  · exact .inl (.inl (k _ h))
  · exact .inl (.inr ⟨o, k _ h⟩)
  · exact .inr h
theorem lc2_list (ls : List (List V)) (hD : H1 D = none) (hl : SqL K H1 a xs) (len : ls.length = xs.length) (few : ls.flatten.length ≤ 100000)
    (hs : ∀ i x H, xs[i]? = some x → Ex H1 H → H D ≠ none → g x (wipe σ vs) H fun σ2 H2 => wipe σ2 vs = wipe σ vs ∧
      (∀ N : It → Hp → Prop, (∀ b H4, Ex H H4 → b ≠ D → SqL K H4 b (ls.getD i []) → N (Itl K b) H4) → wi1 σ2 H2 N) ∧ H2 = H ∧ ∀ (y : V) (H : Hp) (N : V → Hp → Prop), N y H → g1 y (wipe σ2 vs1) H fun σ3 H5 => wipe σ3 vs1 = wipe σ2 vs1 ∧ te σ3 H5 N)
    (mg : ∀ x σ H Q Q', (∀ s h, Q s h → Q' s h) → g x σ H Q → g x σ H Q') (mg1 : ∀ x σ H Q Q', (∀ s h, Q s h → Q' s h) → g1 x σ H Q → g1 x σ H Q')
    (hd : ∀ H', Ex H1 H' → H' D = some (.lst ls.flatten) → Qd H') :
    ∃ W : Nat → Nat → Hp → Prop, (∃ m, W 0 m (upd H1 D (.lst []))) ∧ ∀ i m H, W i m H →
  ((Itl K a).stop i H ∧ Qd H) ∨ ((Itl K a).go i H ∧ ∃ Nx : Hp → Prop, (∀ H', Nx H' → ∃ m', m' < m ∧ W (i + 1) m' H') ∧ ∀ x H', (Itl K a).yld i H x H' → g x (wipe σ vs) H' fun σ2 H2 => wipe σ2 vs = wipe σ vs ∧ tYes σ2 H2 fun b H3 =>
    if b = true then wi1 σ2 H3 fun J1 H4 => ∃ W1 : Nat → Nat → Hp → Prop, (∃ m, W1 0 m H4) ∧ ∀ j k H, W1 j k H →
      (J1.stop j H ∧ Nx H) ∨ (J1.go j H ∧ ∃ Nx1 : Hp → Prop, (∀ H', Nx1 H' → ∃ k', k' < k ∧ W1 (j + 1) k' H') ∧ ∀ x H', J1.yld j H x H' → g1 x (wipe σ2 vs1) H' fun σ3 H5 => wipe σ3 vs1 = wipe σ2 vs1 ∧ tYes σ3 H5 fun b H6 =>
        if b = true then te σ3 H6 fun y H7 => ∃ acc, H7 D = some (.lst acc) ∧ acc.length < sizeLine ∧ Nx1 (upd H7 D (.lst (acc ++ [y]))) else Nx1 H6)
    else Nx H3) := by
  refine ⟨fun i m H => m = xs.length - i ∧ i ≤ xs.length ∧ Ex H1 H ∧ H D = some (.lst (ls.take i).flatten), ⟨xs.length, by simp, Nat.zero_le _, Ex.new hD, by simpa using upd_same⟩, ?_⟩
  rintro i m H ⟨rfl, hi, e, hDl⟩
  have hl' : SqL K H a xs := sql_kp hl fun o z => e _ _ z
  by_cases hlt : i < xs.length
  · have hx : xs[i]? = some xs[i] := List.getElem?_eq_getElem hlt
    have hls : ls[i]? = some ls[i] := List.getElem?_eq_getElem (by omega)
    refine .inr ⟨⟨xs, xs[i], hl', hx⟩, fun H' => Ex H1 H' ∧ H' D = some (.lst (ls.take (i + 1)).flatten), fun H' q => ⟨xs.length - (i + 1), by omega, rfl, hlt, q⟩, fun x H' y => ?_⟩
    obtain ⟨e', y⟩ := y
    subst e'
    have hx' := y xs hl'
    refine mg _ _ _ _ _ (fun s2 h2 q => ?_) (hs i x H' hx' e (by rw [hDl]; simp))
    obtain ⟨q1, q2, q3, q4⟩ := q
    subst q3
    refine ⟨q1, ?_⟩
    show wi1 s2 h2 _
    refine q2 _ fun b H4 e4 nb hb => ?_
    rw [List.getD_eq_getElem?_getD, hls] at hb
    have hb : SqL K H4 b ls[i] := hb
    have fl := flat_le ls (i + 1)
    rw [flat_take hls, List.length_append] at fl
    refine ⟨fun j k H => k = ls[i].length - j ∧ j ≤ ls[i].length ∧ Ex H1 H ∧ SqL K H b ls[i] ∧ H D = some (.lst ((ls.take i).flatten ++ ls[i].take j)), ⟨ls[i].length, by simp, Nat.zero_le _, e.trans e4, hb, by simpa using e4 _ _ hDl⟩, ?_⟩
    rintro j k H5 ⟨rfl, hj, e5, hb5, hD5⟩
    by_cases hjl : j < ls[i].length
    · have hz : ls[i][j]? = some ls[i][j] := List.getElem?_eq_getElem hjl
      refine .inr ⟨⟨_, _, hb5, hz⟩, fun H' => Ex H1 H' ∧ SqL K H' b ls[i] ∧ H' D = some (.lst ((ls.take i).flatten ++ ls[i].take (j + 1))), fun H' q => ⟨ls[i].length - (j + 1), by omega, rfl, hjl, q⟩, fun x2 H' y => ?_⟩
      obtain ⟨e', y⟩ := y
      subst e'
      have hz2 := y _ hb5
      rw [hz] at hz2
      cases hz2
      refine mg1 _ _ _ _ _ (fun s3 h3 q => ?_) (q4 ls[i][j] H' (fun y H7 => ∃ acc, H7 D = some (.lst acc) ∧ acc.length < sizeLine ∧ Ex H1 (upd H7 D (.lst (acc ++ [y]))) ∧ SqL K (upd H7 D (.lst (acc ++ [y]))) b ls[i] ∧ (upd H7 D (.lst (acc ++ [y]))) D = some (.lst ((ls.take i).flatten ++ ls[i].take (j + 1)))) ⟨_, hD5, lt_line (by rw [List.length_append, List.length_take]; omega), Ex.mut e5 hD, sql_kp hb5 fun o z => by rw [upd_ne nb]; exact z, ?_⟩)
      · exact q
      · rw [upd_same, take_one hz, List.append_assoc]
    · have ej : j = ls[i].length := by omega
      refine .inl ⟨⟨_, hb5, by omega⟩, e5, ?_⟩
      rw [hD5, flat_take hls, ej, List.take_length]
  · have ei : i = xs.length := by omega
    subst ei
    refine .inl ⟨⟨xs, hl', Nat.le_refl _⟩, hd H e ?_⟩
    rw [hDl, ← len, List.take_length]
end
end Jk

namespace Jk
open PySem L2 Evl
section
variable {X : Cx}
theorem inV_ints (n : Int) (ns : List Int) : inV (.int n) (ns.map V.int) = decide (n ∈ ns) := by
  unfold inV
  rw [List.any_map]
  induction ns with
  | nil => rfl
  | cons m ns ih =>
    rw [List.any_cons, ih]
    by_cases h : n = m
    · simp [eqV, h]
    · have h' : ¬ m = n := fun z => h z.symm
      simp [eqV, h, h']
theorem flat_ints (ns : List Int) : (ns.map V.int).all flatV = true := by
  rw [List.all_map]
  exact List.all_eq_true.mpr fun _ _ => rfl
def jInI : R2 := fun x y H Q => ∃ n l, x = .int n ∧ y = .ref l ∧ ∃ ns, LsI H l ns ∧ Q (.bl (decide (n ∈ ns))) H
theorem op_inI : OpR X (compareOp .In) jInI := opBy op_in_seq fun x y H Q ⟨n, l, e1, e2, ns, h, q⟩ => by
  subst e1 e2
  exact ⟨l, _, rfl, .inl (.inl (.inl h)), rfl, flat_ints ns, by simpa [inV_ints] using q⟩
@[simp] theorem j_inI {n : Int} {l : Addr} {H : Hp} {Q : VK} : jInI (.int n) (.ref l) H Q = ∃ ns, LsI H l ns ∧ Q (.bl (decide (n ∈ ns))) H := by simp [jInI]
def jNotInI : R2 := fun x y H Q => ∃ n l, x = .int n ∧ y = .ref l ∧ ∃ ns, LsI H l ns ∧ Q (.bl (!decide (n ∈ ns))) H
theorem op_notInI : OpR X (compareOp .NotIn) jNotInI := opBy op_notIn_seq fun x y H Q ⟨n, l, e1, e2, ns, h, q⟩ => by
  subst e1 e2
  exact ⟨l, _, rfl, .inl (.inl (.inl h)), rfl, flat_ints ns, by simpa [inV_ints] using q⟩
@[simp] theorem j_notInI {n : Int} {l : Addr} {H : Hp} {Q : VK} : jNotInI (.int n) (.ref l) H Q = ∃ ns, LsI H l ns ∧ Q (.bl (!decide (n ∈ ns))) H := by simp [jNotInI]
end
end Jk

namespace Jk
/-! ## trees turned -/
mutual
def Tr.turn : Tr → Tr
  | .pt n => .pt n
  | .nd j ts => .nd (!j) (turnL ts)
def turnL : List Tr → List Tr
  | [] => []
  | t :: ts => t.turn :: turnL ts
end
theorem turnL_map (ts : List Tr) : turnL ts = ts.map Tr.turn := by
  induction ts with
  | nil => rfl
  | cons t ts ih => rw [turnL, ih]; rfl
mutual
theorem turn_pts : ∀ t : Tr, t.turn.pts = t.pts
  | .pt n => by rw [Tr.turn]
  | .nd j ts => by rw [Tr.turn, Tr.pts, Tr.pts, turnL_pts ts]
theorem turnL_pts : ∀ ts : List Tr, ptsL (turnL ts) = ptsL ts
  | [] => by rw [turnL]
  | t :: ts => by rw [turnL, ptsL, ptsL, turn_pts t, turnL_pts ts]
end
mutual
theorem turn_dep : ∀ t : Tr, t.turn.dep = t.dep
  | .pt n => by rw [Tr.turn]
  | .nd j ts => by rw [Tr.turn, Tr.dep, Tr.dep, turnL_dep ts]
theorem turnL_dep : ∀ ts : List Tr, depL (turnL ts) = depL ts
  | [] => by rw [turnL]
  | t :: ts => by rw [turnL, depL, depL, turn_dep t, turnL_dep ts]
end
mutual
theorem turn_turn : ∀ t : Tr, t.turn.turn = t
  | .pt n => by rw [Tr.turn, Tr.turn]
  | .nd j ts => by rw [Tr.turn, Tr.turn, turnL_turnL ts, Bool.not_not]
theorem turnL_turnL : ∀ ts : List Tr, turnL (turnL ts) = ts
  | [] => by rw [turnL, turnL]
  | t :: ts => by rw [turnL, turnL, turn_turn t, turnL_turnL ts]
end
theorem turn_least : ∀ t : Tr, t.turn.least = t.least
  | .pt n => by rw [Tr.turn]
  | .nd j [] => by rw [Tr.turn, Tr.least, Tr.least, turnL]
  | .nd j (t :: ts) => by rw [Tr.turn, Tr.least, Tr.least, turnL, leastL, leastL, turn_least t]
theorem turn_wd : ∀ t : Tr, t.turn.wd = t.wd.map (!·)
  | .pt n => by rw [Tr.turn]; rfl
  | .nd j ts => by rw [Tr.turn]; rfl
mutual
theorem turn_form : ∀ t : Tr, t.form → t.turn.form
  | .pt n, h => by rw [Tr.turn]; exact h
  | .nd j ts, h => by
    rw [Tr.form] at h
    rw [Tr.turn, Tr.form, turnL_map, List.length_map, List.map_map]
    have e : (Tr.least ∘ Tr.turn) = Tr.least := funext turn_least
    rw [e, ← turnL_map]
    exact ⟨h.1, h.2.1, turnL_form ts h.2.2⟩
theorem turnL_form {j : Bool} : ∀ ts : List Tr, formL j ts → formL (!j) (turnL ts)
  | [], _ => by simp [turnL, formL]
  | t :: ts, h => by
    rw [formL] at h
    rw [turnL, formL]
    refine ⟨turn_form t h.1, fun e => h.2.1 ?_, turnL_form ts h.2.2⟩
    rw [turn_wd] at e
    cases w : t.wd with
    | none => rw [w] at e; cases e
    | some i =>
      rw [w] at e
      cases i <;> cases j <;> simp at e ⊢
end
mutual
/-- what is tied is tied no more, and the other way round -/
theorem turn_tie : ∀ (t : Tr) (a b : Int), t.pts.Nodup → a ≠ b → a ∈ t.pts → b ∈ t.pts → t.turn.tie a b = !t.tie a b
  | .pt n, a, b, _, ne, h1, h2 => by
    simp [Tr.pts] at h1 h2
    exact absurd (h1.trans h2.symm) ne
  | .nd j ts, a, b, nd, ne, _, _ => by
    rw [Tr.pts] at nd
    rw [Tr.turn, Tr.tie, Tr.tie, turnL_tie j ts a b nd ne]
theorem turnL_tie (j : Bool) : ∀ (ts : List Tr) (a b : Int), (ptsL ts).Nodup → a ≠ b → tieL (!j) (turnL ts) a b = !tieL j ts a b
  | [], a, b, _, _ => by rw [turnL, tieL, tieL]
  | t :: ts, a, b, nd, ne => by
    have nd1 := nd_part nd (t := t) (by simp)
    rw [ptsL] at nd
    rw [turnL, tieL, tieL, turn_pts]
    by_cases h : a ∈ t.pts ∧ b ∈ t.pts
    · rw [if_pos h, if_pos h, turn_tie t a b nd1 ne h.1 h.2]
    · rw [if_neg h, if_neg h, turnL_tie j ts a b (List.nodup_append.mp nd).2.1 ne]
end
end Jk

namespace Jk
open PySem L2 Evl
/-! ## repr of small data -/
structure Rp (d : PyData) (w p : Nat) : Prop where
  can : d.canLay0 = true
  shw : d.showable = true
  nod : d.hasDict = false
  dep : d.depth ≤ p
  wgt : d.weight ≤ w
  sho : d.intsShort 13 = true
structure RpL (ds : List PyData) (w p : Nat) : Prop where
  can : PyData.canLayAll0 ds = true
  shw : PyData.showableAll ds = true
  nod : PyData.hasDictAll ds = false
  dep : PyData.depthAll ds ≤ p
  wgt : PyData.weightAll ds ≤ w
  sho : PyData.intsShortAll 13 ds = true
theorem RpL.nil (w p : Nat) : RpL [] w p := ⟨rfl, rfl, rfl, Nat.zero_le _, Nat.zero_le _, rfl⟩
theorem RpL.cons {d : PyData} {ds : List PyData} {w1 w2 p : Nat} (h : Rp d w1 p) (t : RpL ds w2 p) : RpL (d :: ds) (w1 + 1 + w2) p := by
  obtain ⟨a1, a2, a3, a4, a5, a6⟩ := h
  obtain ⟨b1, b2, b3, b4, b5, b6⟩ := t
  refine ⟨by simp [PyData.canLayAll0, a1, b1], by simp [PyData.showableAll, a2, b2], by simp [PyData.hasDictAll, a3, b3], by simp only [PyData.depthAll]; omega, by simp only [PyData.weightAll]; omega, by simp [PyData.intsShortAll, a6, b6]⟩
theorem RpL.mono {ds : List PyData} {w w' p p' : Nat} (h : RpL ds w p) (a : w ≤ w') (b : p ≤ p') : RpL ds w' p' := ⟨h.can, h.shw, h.nod, Nat.le_trans h.dep b, Nat.le_trans h.wgt a, h.sho⟩
theorem Rp.mono {d : PyData} {w w' p p' : Nat} (h : Rp d w p) (a : w ≤ w') (b : p ≤ p') : Rp d w' p' := ⟨h.can, h.shw, h.nod, Nat.le_trans h.dep b, Nat.le_trans h.wgt a, h.sho⟩
theorem RpL.list {ds : List PyData} {w p : Nat} (h : RpL ds w p) : Rp (.list ds) w (p + 1) :=
  ⟨by simpa [PyData.canLay0] using h.can, by simpa [PyData.showable] using h.shw, by simpa [PyData.hasDict] using h.nod, by have := h.dep; simp only [PyData.depth]; omega, by have := h.wgt; simp only [PyData.weight]; omega, by simpa [PyData.intsShort] using h.sho⟩
theorem RpL.tuple {ds : List PyData} {w p : Nat} (h : RpL ds w p) : Rp (.tuple ds) w (p + 1) :=
  ⟨by simpa [PyData.canLay0] using h.can, by simpa [PyData.showable] using h.shw, by simpa [PyData.hasDict] using h.nod, by have := h.dep; simp only [PyData.depth]; omega, by have := h.wgt; simp only [PyData.weight]; omega, by simpa [PyData.intsShort] using h.sho⟩
theorem Rp.int {i : Int} (h : 0 ≤ i ∧ i < 1000) : Rp (.int i) 10 0 := by
  have hl : i.natAbs.log2 < 10 := by
    by_cases h0 : i.natAbs = 0
    · rw [h0]; decide
    · exact (Nat.log2_lt h0).mpr (by omega)
  refine ⟨rfl, ?_, rfl, Nat.le_refl _, ?_, ?_⟩
  · simp only [PyData.showable, decide_eq_true_eq]; omega
  · simp only [PyData.weight]; split <;> omega
  · simp only [PyData.intsShort, PyData.shown]
    refine decide_eq_true ?_
    exact Nat.le_trans (PyProof.Rows.toString_length_le h.1 (k := 3) (by decide) (by omega)) (show 3 ≤ 13 by decide)
theorem Rp.word (j : Bool) : Rp (.str (wdS j)) 4 0 := by cases j <;> exact ⟨by decide +kernel, rfl, rfl, Nat.le_refl _, by decide +kernel, rfl⟩
theorem Rp.len {d : PyData} {w p : Nat} (h : Rp d w p) (hw : w ≤ 2 ^ 20) (hp : p ≤ 60) : d.shown.length ≤ sizeLine := by
  refine Nat.le_trans (PyProof.Rows.shown_le13 ?_ h.sho) (by rw [sizeLine_eq]; decide)
  show (d.canLay0 && decide (PyData.depth d ≤ 64) && decide (PyData.weight d ≤ 2 ^ 20)) = true
  have h1 := h.dep
  have h2 := h.wgt
  simp only [h.can, Bool.true_and, Bool.and_eq_true, decide_eq_true_eq]
  exact ⟨by omega, by omega⟩
theorem RpL.ints : ∀ {ns : List Int}, (∀ n ∈ ns, 0 ≤ n ∧ n < 1000) → RpL (ns.map PyData.int) (11 * ns.length) 0
  | [], _ => RpL.nil _ _
  | n :: ns, h => by
    have := RpL.cons (Rp.int (h n (by simp))) (RpL.ints (ns := ns) fun m hm => h m (by simp [hm]))
    exact this.mono (by simp only [List.length_cons]; omega) (Nat.le_refl _)
theorem RpL.pairs : ∀ {ps : List (Int × Int)}, (∀ p ∈ ps, (0 ≤ p.1 ∧ p.1 < 1000) ∧ (0 ≤ p.2 ∧ p.2 < 1000)) → RpL (ps.map pd) (23 * ps.length) 1
  | [], _ => RpL.nil _ _
  | p :: ps, h => by
    have hp := h p (by simp)
    have a := (RpL.cons (Rp.int hp.1) (RpL.cons (Rp.int hp.2) (RpL.nil 0 0))).tuple
    have := RpL.cons (d := pd p) a (RpL.pairs (ps := ps) fun m hm => h m (by simp [hm]))
    exact this.mono (by simp only [List.length_cons]; omega) (Nat.le_refl _)
mutual
theorem Rp.tree : ∀ {t : Tr}, t.form → (∀ n ∈ t.pts, 0 ≤ n ∧ n < 1000) → Rp t.data (40 * t.pts.length - 30) (2 * t.dep)
  | .pt n, _, h => by
    rw [Tr.data, Tr.pts, Tr.dep]
    exact Rp.int (h n (by simp [Tr.pts]))
  | .nd j ts, hf, h => by
    rw [Tr.form] at hf
    rw [Tr.pts] at h
    have hl := RpL.trees (ts := ts) (fun t ht => (formL_iff.mp hf.2.2 t ht).1) h
    have hp : ts.length ≤ (ptsL ts).length := by
      have gen : ∀ ts : List Tr, (∀ t ∈ ts, t.form) → ts.length ≤ (ptsL ts).length := by
        intro ts
        induction ts with
        | nil => intro _; exact Nat.zero_le _
        | cons t ts ih =>
          intro hh
          have := t.dep_lt (hh t (by simp))
          have := ih fun u hu => hh u (by simp [hu])
          rw [ptsL, List.length_append, List.length_cons]
          omega
      exact gen ts fun t ht => (formL_iff.mp hf.2.2 t ht).1
    have := (RpL.cons ((Rp.word j).mono (Nat.le_refl _) (Nat.zero_le _)) (RpL.cons hl.tuple (RpL.nil 0 _))).tuple
    rw [Tr.data, Tr.pts, Tr.dep]
    exact this.mono (by omega) (by omega)
theorem RpL.trees : ∀ {ts : List Tr}, (∀ t ∈ ts, t.form) → (∀ n ∈ ptsL ts, 0 ≤ n ∧ n < 1000) → RpL (dataL ts) (40 * (ptsL ts).length - 29 * ts.length) (2 * depL ts)
  | [], _, _ => by rw [dataL]; exact RpL.nil _ _
  | t :: ts, hf, h => by
    rw [ptsL] at h
    have h1 := Rp.tree (t := t) (hf t (by simp)) fun n hn => h n (by simp [hn])
    have h2 := RpL.trees (ts := ts) (fun u hu => hf u (by simp [hu])) fun n hn => h n (by simp [hn])
    have dl := t.dep_lt (hf t (by simp))
    have hp : ts.length ≤ (ptsL ts).length := by
      have gen : ∀ ts : List Tr, (∀ t ∈ ts, t.form) → ts.length ≤ (ptsL ts).length := by
        intro ts
        induction ts with
        | nil => intro _; exact Nat.zero_le _
        | cons t ts ih =>
          intro hh
          have := t.dep_lt (hh t (by simp))
          have := ih fun u hu => hh u (by simp [hu])
          rw [ptsL, List.length_append, List.length_cons]
          omega
      exact gen ts fun u hu => hf u (by simp [hu])
    rw [dataL, ptsL, depL, List.length_append, List.length_cons]
    exact (RpL.cons (h1.mono (Nat.le_refl _) (show 2 * t.dep ≤ 2 * max t.dep (depL ts) by omega)) (h2.mono (Nat.le_refl _) (show 2 * depL ts ≤ 2 * max t.dep (depL ts) by omega))).mono (by omega) (Nat.le_refl _)
end
section
variable {X : Cx}
def jRepr (K : PySem.W.Frag) : List V → Hp → VK → Prop := fun vs H Q => ∃ (x : V) (d : PyData) (w p : Nat), vs = [x] ∧ Dp K H x d ∧ Rp d w p ∧ w ≤ 2 ^ 20 ∧ p ≤ 60 ∧ Q (.str d.shown) H
theorem call_reprA {K0 : PySem.W.Frag} (hg : X.A.guards = some []) (hu : X.A.units + 64 < cLine) (hK : X.K = K0 := by rfl) : CallR X (.builtin "repr") (jRepr K0) := by
  subst hK
  intro pins s σ H xs us Q I r h
  obtain ⟨x, d, w, p, rfl, hd, hr, hw, hp, q⟩ := h
  have ref : ∀ a, x = .ref a → wpAny (model X.prog X.w) X.A (call (.builtin "repr") us) (EP X pins σ Q) X.xe s := fun a e => by
    subst e
    exact call_reprD hg hu pins s σ H _ us Q I r ⟨a, d, rfl, hd, hr.shw, hr.nod, by have := hr.dep; omega, hr.len hw hp, q⟩
  obtain ⟨u, rfl, ru⟩ := vals1 r
  cases hd with
  | non => cases ru; exact PySem.P.repr_of_none ⟨.str (PyData.shown .none), H, I.kept (t' := s.toks + 1) (fun _ _ z => z), ⟨_, rfl⟩, q⟩
  | bl b => cases ru; exact PySem.P.repr_of_bool ⟨.str (PyData.shown (.bool b)), H, I.kept (t' := s.toks + 1) (fun _ _ z => z), ⟨_, rfl⟩, q⟩
  | int i =>
    obtain ⟨t, rfl⟩ := ru
    have hi := hr.shw
    exact PySem.P.repr_of_int (by simpa [PyData.showable] using hi) ⟨.str (PyData.shown (.int i)), H, I.kept (t' := s.toks + 1) (fun _ _ z => z), ⟨_, rfl⟩, q⟩
  | str y =>
    obtain ⟨t, rfl⟩ := ru
    exact PySem.P.repr_of_str ⟨.str (PyData.shown (.str y)), H, I.kept (t' := s.toks + 1) (fun _ _ z => z), ⟨_, rfl⟩, q⟩ (hr.len hw hp)
  | lst h1 h2 => exact ref _ rfl
  | tup h1 h2 => exact ref _ rfl
end
end Jk

namespace Jk
open PySem L2 Evl
/-! lists of truths -/
def LsB (H : Hp) (l : Addr) (ns : List Bool) : Prop := H l = some (.lst (ns.map V.bl))
theorem LsB.uniq {H : Hp} {l : Addr} {ns ms : List Bool} (h : LsB H l ns) (g : LsB H l ms) : ms = ns := by
  unfold LsB at h g
  rw [h] at g
  exact ((List.map_inj_right (fun x y h => by cases h; rfl)).mp (HO.lst.inj (Option.some.inj g))).symm
theorem lsB_ex {H : Hp} {l : Addr} {ns : List Bool} {R : List Bool → Prop} (h : LsB H l ns) : (∃ ms, LsB H l ms ∧ R ms) ↔ R ns := ⟨fun ⟨_, a, b⟩ => by rw [← h.uniq a]; exact b, fun r => ⟨ns, h, r⟩⟩
theorem dpBs {K : PySem.W.Frag} {H : Hp} : ∀ ns : List Bool, DpAll K H (ns.map V.bl) (ns.map PyData.bool)
  | [] => .nil
  | n :: ns => .cons (.bl n) (dpBs ns)
theorem dpB {K : PySem.W.Frag} {H : Hp} {l : Addr} {ns : List Bool} (h : LsB H l ns) : Dp K H (.ref l) (.list (ns.map .bool)) := .lst (.inl (.inl h)) (dpBs ns)
theorem bs_can : ∀ ns : List Bool, PyData.canLayAll0 (ns.map PyData.bool) = true
  | [] => rfl
  | n :: ns => by simp [PyData.canLayAll0, PyData.canLay0, bs_can ns]
theorem bs_dep : ∀ ns : List Bool, PyData.depthAll (ns.map PyData.bool) = 0
  | [] => rfl
  | n :: ns => by simp [PyData.depthAll, PyData.depth, bs_dep ns]
theorem bs_shaped (ns : List Bool) : SeqAt.shaped (.list (ns.map PyData.bool)) = true := by
  show (PyData.canLay0 (.list (ns.map PyData.bool)) && decide (PyData.depth (.list (ns.map PyData.bool)) ≤ 64)) = true
  simp [PyData.canLay0, bs_can, PyData.depth, bs_dep]
theorem bs_eqv (ns ms : List Bool) : PyData.eqv (.list (ns.map PyData.bool)) (.list (ms.map PyData.bool)) = decide (ns = ms) := by
  rw [PyData.eqv]
  induction ns generalizing ms with
  | nil => cases ms <;> simp [PyData.eqvAll]
  | cons n ns ih =>
    cases ms with
    | nil => simp [PyData.eqvAll]
    | cons m ms =>
      rw [List.map_cons, List.map_cons, PyData.eqvAll, ih]
      by_cases h : n = m
      · simp [PyData.eqv, h]
      · simp [PyData.eqv, h]
section
variable {X : Cx}
def jNeB : R2 := fun x y H Q => ∃ t l, x = .ref t ∧ y = .ref l ∧ ∃ prs, LsB H t prs ∧ ∃ qrs, LsB H l qrs ∧ Q (.bl (!decide (prs = qrs))) H
theorem op_neB (hu : X.A.units + 64 < cLine) : OpR X (compareOp .NotEq) jNeB := opBy (op_neD hu) fun x y H Q ⟨t, l, e1, e2, prs, h1, qrs, h2, q⟩ => ⟨_, _, by rw [e1]; exact dpB h1, by rw [e2]; exact dpB h2, bs_shaped prs, bs_shaped qrs, by rw [bs_eqv]; exact q⟩
@[simp] theorem j_neB {t l : Addr} {H : Hp} {Q : VK} : jNeB (.ref t) (.ref l) H Q = ∃ prs, LsB H t prs ∧ ∃ qrs, LsB H l qrs ∧ Q (.bl (!decide (prs = qrs))) H := by simp [jNeB]
end
/-! repr, read -/
theorem repr_ints {K : PySem.W.Frag} {H : Hp} {l : Addr} {ns : List Int} {Q : VK} (h : LsI H l ns) (b : ∀ n ∈ ns, 0 ≤ n ∧ n < 1000) (few : ns.length ≤ 1000) (q : Q (.str (PyData.list (ns.map .int)).shown) H) : jRepr K [.ref l] H Q :=
  ⟨_, _, _, _, rfl, dpI h, (RpL.ints b).list, by omega, by omega, q⟩
theorem repr_tree {K : PySem.W.Frag} {H : Hp} {v : V} {t : Tr} {Q : VK} (h : ToldAt H v t) (f : t.form) (b : ∀ n ∈ t.pts, 0 ≤ n ∧ n < 1000) (few : t.pts.length ≤ 31) (q : Q (.str t.data.shown) H) : jRepr K [v] H Q :=
  ⟨_, _, _, _, rfl, told_dp t v h, Rp.tree f b, by omega, by have := t.dep_lt f; omega, q⟩
end Jk

namespace Jk
open PySem L2 Evl
def top (i : Nat) : Stmt := PySem.Challenge.pw_joinside_k03_trees_told.main.body.getD i (.Pass ⟨0, 0, 0, 0⟩)

abbrev s_wall : Stmt := top 0
theorem sc_wall : FnScope ["k"] ["k"] (defScope s_wall) := ⟨rfl, rfl, rfl, by decide +kernel, rfl, by decide +kernel, by decide +kernel⟩

abbrev s_whole_within : Stmt := top 13
theorem sc_whole_within : FnScope ["number", "least", "most"] ["number", "least", "most"] (defScope s_whole_within) := ⟨rfl, rfl, rfl, by decide +kernel, rfl, by decide +kernel, by decide +kernel⟩

abbrev s_pairs : Stmt := top 14
theorem sc_pairs : FnScope ["many", "one", "other"] ["many"] (defScope s_pairs) := ⟨rfl, rfl, rfl, by decide +kernel, rfl, by decide +kernel, by decide +kernel⟩

abbrev s_Web_init : Stmt := inClass (top 15) 0
theorem sc_Web_init : FnScope ["self", "many", "point"] ["self", "many"] (defScope s_Web_init) := ⟨rfl, rfl, rfl, by decide +kernel, rfl, by decide +kernel, by decide +kernel⟩

abbrev s_Web_many : Stmt := inClass (top 15) 1
theorem sc_Web_many : FnScope ["self"] ["self"] (defScope s_Web_many) := ⟨rfl, rfl, rfl, by decide +kernel, rfl, by decide +kernel, by decide +kernel⟩

abbrev s_Web_has : Stmt := inClass (top 15) 2
theorem sc_Web_has : FnScope ["self", "one", "other"] ["self", "one", "other"] (defScope s_Web_has) := ⟨rfl, rfl, rfl, by decide +kernel, rfl, by decide +kernel, by decide +kernel⟩

abbrev s_Web_put : Stmt := inClass (top 15) 3
theorem sc_Web_put : FnScope ["self", "one", "other"] ["self", "one", "other"] (defScope s_Web_put) := ⟨rfl, rfl, rfl, by decide +kernel, rfl, by decide +kernel, by decide +kernel⟩

abbrev s_Web_ties : Stmt := inClass (top 15) 7
theorem sc_Web_ties : FnScope ["self", "one", "other"] ["self"] (defScope s_Web_ties) := ⟨rfl, rfl, rfl, by decide +kernel, rfl, by decide +kernel, by decide +kernel⟩

abbrev s_Web_need_point : Stmt := inClass (top 15) 8
theorem sc_Web_need_point : FnScope ["self", "point"] ["self", "point"] (defScope s_Web_need_point) := ⟨rfl, rfl, rfl, by decide +kernel, rfl, by decide +kernel, by decide +kernel⟩

abbrev s_Point_init : Stmt := inClass (top 20) 0
theorem sc_Point_init : FnScope ["self", "number"] ["self", "number"] (defScope s_Point_init) := ⟨rfl, rfl, rfl, by decide +kernel, rfl, by decide +kernel, by decide +kernel⟩

abbrev s_Point_told : Stmt := inClass (top 20) 1
theorem sc_Point_told : FnScope ["self"] ["self"] (defScope s_Point_told) := ⟨rfl, rfl, rfl, by decide +kernel, rfl, by decide +kernel, by decide +kernel⟩

abbrev s_Point_points : Stmt := inClass (top 20) 2
theorem sc_Point_points : FnScope ["self"] ["self"] (defScope s_Point_points) := ⟨rfl, rfl, rfl, by decide +kernel, rfl, by decide +kernel, by decide +kernel⟩

abbrev s_Point_tied : Stmt := inClass (top 20) 3
theorem sc_Point_tied : FnScope ["self", "one", "other"] ["self", "one", "other"] (defScope s_Point_tied) := ⟨rfl, rfl, rfl, by decide +kernel, rfl, by decide +kernel, by decide +kernel⟩

abbrev s_Point_turned : Stmt := inClass (top 20) 4
theorem sc_Point_turned : FnScope ["self"] ["self"] (defScope s_Point_turned) := ⟨rfl, rfl, rfl, by decide +kernel, rfl, by decide +kernel, by decide +kernel⟩

abbrev s_Side_init : Stmt := inClass (top 21) 0
theorem sc_Side_init : FnScope ["self", "parts"] ["self", "parts"] (defScope s_Side_init) := ⟨rfl, rfl, rfl, by decide +kernel, rfl, by decide +kernel, by decide +kernel⟩

abbrev s_Side_told : Stmt := inClass (top 21) 1
theorem sc_Side_told : FnScope ["self"] ["self"] (defScope s_Side_told) := ⟨rfl, rfl, rfl, by decide +kernel, rfl, by decide +kernel, by decide +kernel⟩

abbrev s_Side_points : Stmt := inClass (top 21) 2
theorem sc_Side_points : FnScope ["self"] ["self"] (defScope s_Side_points) := ⟨rfl, rfl, rfl, by decide +kernel, rfl, by decide +kernel, by decide +kernel⟩

abbrev s_Side_tied : Stmt := inClass (top 21) 3
theorem sc_Side_tied : FnScope ["self", "one", "other"] ["self", "one", "other"] (defScope s_Side_tied) := ⟨rfl, rfl, rfl, by decide +kernel, rfl, by decide +kernel, by decide +kernel⟩

abbrev s_Side_turned : Stmt := inClass (top 21) 4
theorem sc_Side_turned : FnScope ["self"] ["self"] (defScope s_Side_turned) := ⟨rfl, rfl, rfl, by decide +kernel, rfl, by decide +kernel, by decide +kernel⟩

abbrev s_Join_init : Stmt := inClass (top 22) 0
theorem sc_Join_init : FnScope ["self", "parts"] ["self", "parts"] (defScope s_Join_init) := ⟨rfl, rfl, rfl, by decide +kernel, rfl, by decide +kernel, by decide +kernel⟩

abbrev s_Join_told : Stmt := inClass (top 22) 1
theorem sc_Join_told : FnScope ["self"] ["self"] (defScope s_Join_told) := ⟨rfl, rfl, rfl, by decide +kernel, rfl, by decide +kernel, by decide +kernel⟩

abbrev s_Join_points : Stmt := inClass (top 22) 2
theorem sc_Join_points : FnScope ["self"] ["self"] (defScope s_Join_points) := ⟨rfl, rfl, rfl, by decide +kernel, rfl, by decide +kernel, by decide +kernel⟩

abbrev s_Join_tied : Stmt := inClass (top 22) 3
theorem sc_Join_tied : FnScope ["self", "one", "other"] ["self", "one", "other"] (defScope s_Join_tied) := ⟨rfl, rfl, rfl, by decide +kernel, rfl, by decide +kernel, by decide +kernel⟩

abbrev s_Join_turned : Stmt := inClass (top 22) 4
theorem sc_Join_turned : FnScope ["self"] ["self"] (defScope s_Join_turned) := ⟨rfl, rfl, rfl, by decide +kernel, rfl, by decide +kernel, by decide +kernel⟩

abbrev s_points_of : Stmt := top 23
theorem sc_points_of : FnScope ["trees", "tree", "point"] ["trees"] (defScope s_points_of) := ⟨rfl, rfl, rfl, by decide +kernel, rfl, by decide +kernel, by decide +kernel⟩

abbrev s_told_of : Stmt := top 24
theorem sc_told_of : FnScope ["trees", "tree"] ["trees"] (defScope s_told_of) := ⟨rfl, rfl, rfl, by decide +kernel, rfl, by decide +kernel, by decide +kernel⟩

abbrev s_turned_of : Stmt := top 25
theorem sc_turned_of : FnScope ["trees", "tree"] ["trees"] (defScope s_turned_of) := ⟨rfl, rfl, rfl, by decide +kernel, rfl, by decide +kernel, by decide +kernel⟩

abbrev s_tied_among : Stmt := top 26
theorem sc_tied_among : FnScope ["trees", "one", "other", "across", "tree", "points"] ["trees", "one", "other", "across"] (defScope s_tied_among) := ⟨rfl, rfl, rfl, by decide +kernel, rfl, by decide +kernel, by decide +kernel⟩

abbrev s_tree_by : Stmt := top 27
theorem sc_tree_by : FnScope ["told"] ["told"] (defScope s_tree_by) := ⟨rfl, rfl, rfl, by decide +kernel, rfl, by decide +kernel, by decide +kernel⟩

abbrev s_tree_under : Stmt := top 28
theorem sc_tree_under : FnScope ["above", "told", "deep", "met", "word", "parts", "trees", "leasts", "within", "tree"] ["above", "told", "deep", "met"] (defScope s_tree_under) := ⟨rfl, rfl, rfl, by decide +kernel, rfl, by decide +kernel, by decide +kernel⟩

abbrev s_opened : Stmt := top 29
theorem sc_opened : FnScope ["told", "word", "parts"] ["told"] (defScope s_opened) := ⟨rfl, rfl, rfl, by decide +kernel, rfl, by decide +kernel, by decide +kernel⟩

abbrev s_web_of : Stmt := top 30
theorem sc_web_of : FnScope ["told", "tree", "points", "web", "one", "other"] ["told"] (defScope s_web_of) := ⟨rfl, rfl, rfl, by decide +kernel, rfl, by decide +kernel, by decide +kernel⟩

abbrev s_l_mixed : Stmt := top 32
theorem sc_l_mixed : FnScope ["_law_cell", "_law_k", "_law_number_here"] ["_law_cell", "_law_k"] (defScope s_l_mixed) := ⟨rfl, rfl, rfl, by decide +kernel, rfl, by decide +kernel, by decide +kernel⟩

abbrev s_l_number : Stmt := top 33
theorem sc_l_number : FnScope ["_law_script", "_law_k", "_law_cell"] ["_law_script", "_law_k"] (defScope s_l_number) := ⟨rfl, rfl, rfl, by decide +kernel, rfl, by decide +kernel, by decide +kernel⟩

abbrev s_l_kind : Stmt := top 34
theorem sc_l_kind : FnScope ["_law_e", "_law_found"] ["_law_e"] (defScope s_l_kind) := ⟨rfl, rfl, rfl, by decide +kernel, rfl, by decide +kernel, by decide +kernel⟩

abbrev s_l_order : Stmt := top 35
theorem sc_l_order : FnScope ["_law_many", "_law_number_here", "_law_left", "_law_found", "_law_k"] ["_law_many", "_law_number_here"] (defScope s_l_order) := ⟨rfl, rfl, rfl, by decide +kernel, rfl, by decide +kernel, by decide +kernel⟩

abbrev s_l_least : Stmt := top 36
theorem sc_l_least : FnScope ["_law_told_here"] ["_law_told_here"] (defScope s_l_least) := ⟨rfl, rfl, rfl, by decide +kernel, rfl, by decide +kernel, by decide +kernel⟩

abbrev s_l_told : Stmt := top 37
theorem sc_l_told : FnScope ["_law_nodes", "_law_at", "_law_names", "_law_node", "_law_parts", "_law_piece"] ["_law_nodes", "_law_at", "_law_names"] (defScope s_l_told) := ⟨rfl, rfl, rfl, by decide +kernel, rfl, by decide +kernel, by decide +kernel⟩

abbrev s_l_tree : Stmt := top 38
theorem sc_l_tree : FnScope ["_law_script", "_law_most", "_law_names", "_law_nodes", "_law_above", "_law_leaves", "_law_k", "_law_cell", "_law_old", "_law_word"] ["_law_script", "_law_most", "_law_names"] (defScope s_l_tree) := ⟨rfl, rfl, rfl, by decide +kernel, rfl, by decide +kernel, by decide +kernel⟩

abbrev s_l_points : Stmt := top 39
theorem sc_l_points : FnScope ["_law_told_here", "_law_found", "_law_piece"] ["_law_told_here"] (defScope s_l_points) := ⟨rfl, rfl, rfl, by decide +kernel, rfl, by decide +kernel, by decide +kernel⟩

abbrev s_l_ties : Stmt := top 40
theorem sc_l_ties : FnScope ["_law_told_here", "_law_found", "_law_ahead", "_law_piece", "_law_points_here", "_law_one", "_law_other"] ["_law_told_here"] (defScope s_l_ties) := ⟨rfl, rfl, rfl, by decide +kernel, rfl, by decide +kernel, by decide +kernel⟩

abbrev s_l_turned : Stmt := top 41
theorem sc_l_turned : FnScope ["_law_told_here", "_law_piece"] ["_law_told_here"] (defScope s_l_turned) := ⟨rfl, rfl, rfl, by decide +kernel, rfl, by decide +kernel, by decide +kernel⟩

abbrev s_l_is : Stmt := top 42
theorem sc_l_is : FnScope ["_law_tree_here", "_law_told_here", "_law_kinds", "_law_word", "_law_found"] ["_law_tree_here", "_law_told_here"] (defScope s_l_is) := ⟨rfl, rfl, rfl, by decide +kernel, rfl, by decide +kernel, by decide +kernel⟩

abbrev s_l_made : Stmt := top 43
theorem sc_l_made : FnScope ["_law_told_here", "_law_parts", "_law_found", "_law_piece"] ["_law_told_here"] (defScope s_l_made) := ⟨rfl, rfl, rfl, by decide +kernel, rfl, by decide +kernel, by decide +kernel⟩

abbrev s_l_ties_right : Stmt := top 44
theorem sc_l_ties_right : FnScope ["_law_tree_here", "_law_told_here", "_law_script", "_law_points_here", "_law_ties_here", "_law_k", "_law_cell", "_law_one", "_law_other", "_law_found"] ["_law_tree_here", "_law_told_here", "_law_script"] (defScope s_l_ties_right) := ⟨rfl, rfl, rfl, by decide +kernel, rfl, by decide +kernel, by decide +kernel⟩

abbrev s_l_web_said : Stmt := top 45
theorem sc_l_web_said : FnScope ["_law_told_here", "_law_error", "_law_web", "_law_e"] ["_law_told_here"] (defScope s_l_web_said) := ⟨rfl, rfl, rfl, by decide +kernel, rfl, by decide +kernel, by decide +kernel⟩

abbrev s_law : Stmt := top 46
theorem sc_law : FnScope ["_law_script", "_law_number_here", "_law_names", "_law_told_here", "_law_points_here", "_law_due", "_law_tree_here", "_law_place"] ["_law_script"] (defScope s_law) := ⟨rfl, rfl, rfl, by decide +kernel, rfl, by decide +kernel, by decide +kernel⟩

structure Adr where
  a_wall : Addr
  d_wall : FuncData
  a_whole_within : Addr
  d_whole_within : FuncData
  a_pairs : Addr
  d_pairs : FuncData
  a_Web_init : Addr
  d_Web_init : FuncData
  a_Web_many : Addr
  d_Web_many : FuncData
  a_Web_has : Addr
  d_Web_has : FuncData
  a_Web_put : Addr
  d_Web_put : FuncData
  a_Web_ties : Addr
  d_Web_ties : FuncData
  a_Web_need_point : Addr
  d_Web_need_point : FuncData
  a_Point_init : Addr
  d_Point_init : FuncData
  a_Point_told : Addr
  d_Point_told : FuncData
  a_Point_points : Addr
  d_Point_points : FuncData
  a_Point_tied : Addr
  d_Point_tied : FuncData
  a_Point_turned : Addr
  d_Point_turned : FuncData
  a_Side_init : Addr
  d_Side_init : FuncData
  a_Side_told : Addr
  d_Side_told : FuncData
  a_Side_points : Addr
  d_Side_points : FuncData
  a_Side_tied : Addr
  d_Side_tied : FuncData
  a_Side_turned : Addr
  d_Side_turned : FuncData
  a_Join_init : Addr
  d_Join_init : FuncData
  a_Join_told : Addr
  d_Join_told : FuncData
  a_Join_points : Addr
  d_Join_points : FuncData
  a_Join_tied : Addr
  d_Join_tied : FuncData
  a_Join_turned : Addr
  d_Join_turned : FuncData
  a_points_of : Addr
  d_points_of : FuncData
  a_told_of : Addr
  d_told_of : FuncData
  a_turned_of : Addr
  d_turned_of : FuncData
  a_tied_among : Addr
  d_tied_among : FuncData
  a_tree_by : Addr
  d_tree_by : FuncData
  a_tree_under : Addr
  d_tree_under : FuncData
  a_opened : Addr
  d_opened : FuncData
  a_web_of : Addr
  d_web_of : FuncData
  a_l_mixed : Addr
  d_l_mixed : FuncData
  a_l_number : Addr
  d_l_number : FuncData
  a_l_kind : Addr
  d_l_kind : FuncData
  a_l_order : Addr
  d_l_order : FuncData
  a_l_least : Addr
  d_l_least : FuncData
  a_l_told : Addr
  d_l_told : FuncData
  a_l_tree : Addr
  d_l_tree : FuncData
  a_l_points : Addr
  d_l_points : FuncData
  a_l_ties : Addr
  d_l_ties : FuncData
  a_l_turned : Addr
  d_l_turned : FuncData
  a_l_is : Addr
  d_l_is : FuncData
  a_l_made : Addr
  d_l_made : FuncData
  a_l_ties_right : Addr
  d_l_ties_right : FuncData
  a_l_web_said : Addr
  d_l_web_said : FuncData
  a_law : Addr
  d_law : FuncData
  c_BadPoint : Addr
  c_BadSize : Addr
  c_BadText : Addr
  c_BadTree : Addr
  c_Join : Addr
  c_JoinError : Addr
  c_NoTie : Addr
  c_NoTree : Addr
  c_Point : Addr
  c_Side : Addr
  c_TooMany : Addr
  c_Tree : Addr
  c_Twice : Addr
  c_Web : Addr

structure Txt (K : PySem.W.Frag) (mg : Str → Option Value) (A : Adr) : Prop where
  g_wall : mg "_wall" = some (.ref A.a_wall)
  k_wall : PySem.W.keepIn K (.ref A.a_wall) = true
  b_wall : L2.Binds K A.d_wall ["k"] []
  F_wall : Fun K "_wall" "_wall" s_wall A.a_wall A.d_wall
  g_whole_within : mg "whole_within" = some (.ref A.a_whole_within)
  k_whole_within : PySem.W.keepIn K (.ref A.a_whole_within) = true
  b_whole_within : L2.Binds K A.d_whole_within ["number", "least", "most"] []
  F_whole_within : Fun K "whole_within" "whole_within" s_whole_within A.a_whole_within A.d_whole_within
  g_pairs : mg "pairs" = some (.ref A.a_pairs)
  k_pairs : PySem.W.keepIn K (.ref A.a_pairs) = true
  b_pairs : L2.Binds K A.d_pairs ["many"] []
  F_pairs : Fun K "pairs" "pairs" s_pairs A.a_pairs A.d_pairs
  b_Web_init : L2.Binds K A.d_Web_init ["self", "many"] []
  F_Web_init : Fun K "__init__" "Web.__init__" s_Web_init A.a_Web_init A.d_Web_init
  m_Web_many : Meth K A.c_Web "many" A.a_Web_many
  b_Web_many : L2.Binds K A.d_Web_many ["self"] []
  F_Web_many : Fun K "many" "Web.many" s_Web_many A.a_Web_many A.d_Web_many
  m_Web_has : Meth K A.c_Web "has" A.a_Web_has
  b_Web_has : L2.Binds K A.d_Web_has ["self", "one", "other"] []
  F_Web_has : Fun K "has" "Web.has" s_Web_has A.a_Web_has A.d_Web_has
  m_Web_put : Meth K A.c_Web "put" A.a_Web_put
  b_Web_put : L2.Binds K A.d_Web_put ["self", "one", "other"] []
  F_Web_put : Fun K "put" "Web.put" s_Web_put A.a_Web_put A.d_Web_put
  m_Web_ties : Meth K A.c_Web "ties" A.a_Web_ties
  b_Web_ties : L2.Binds K A.d_Web_ties ["self"] []
  F_Web_ties : Fun K "ties" "Web.ties" s_Web_ties A.a_Web_ties A.d_Web_ties
  m_Web_need_point : Meth K A.c_Web "_need_point" A.a_Web_need_point
  b_Web_need_point : L2.Binds K A.d_Web_need_point ["self", "point"] []
  F_Web_need_point : Fun K "_need_point" "Web._need_point" s_Web_need_point A.a_Web_need_point A.d_Web_need_point
  b_Point_init : L2.Binds K A.d_Point_init ["self", "number"] []
  F_Point_init : Fun K "__init__" "Point.__init__" s_Point_init A.a_Point_init A.d_Point_init
  m_Point_told : Meth K A.c_Point "told" A.a_Point_told
  b_Point_told : L2.Binds K A.d_Point_told ["self"] []
  F_Point_told : Fun K "told" "Point.told" s_Point_told A.a_Point_told A.d_Point_told
  m_Point_points : Meth K A.c_Point "points" A.a_Point_points
  b_Point_points : L2.Binds K A.d_Point_points ["self"] []
  F_Point_points : Fun K "points" "Point.points" s_Point_points A.a_Point_points A.d_Point_points
  m_Point_tied : Meth K A.c_Point "tied" A.a_Point_tied
  b_Point_tied : L2.Binds K A.d_Point_tied ["self", "one", "other"] []
  F_Point_tied : Fun K "tied" "Point.tied" s_Point_tied A.a_Point_tied A.d_Point_tied
  m_Point_turned : Meth K A.c_Point "turned" A.a_Point_turned
  b_Point_turned : L2.Binds K A.d_Point_turned ["self"] []
  F_Point_turned : Fun K "turned" "Point.turned" s_Point_turned A.a_Point_turned A.d_Point_turned
  b_Side_init : L2.Binds K A.d_Side_init ["self", "parts"] []
  F_Side_init : Fun K "__init__" "Side.__init__" s_Side_init A.a_Side_init A.d_Side_init
  m_Side_told : Meth K A.c_Side "told" A.a_Side_told
  b_Side_told : L2.Binds K A.d_Side_told ["self"] []
  F_Side_told : Fun K "told" "Side.told" s_Side_told A.a_Side_told A.d_Side_told
  m_Side_points : Meth K A.c_Side "points" A.a_Side_points
  b_Side_points : L2.Binds K A.d_Side_points ["self"] []
  F_Side_points : Fun K "points" "Side.points" s_Side_points A.a_Side_points A.d_Side_points
  m_Side_tied : Meth K A.c_Side "tied" A.a_Side_tied
  b_Side_tied : L2.Binds K A.d_Side_tied ["self", "one", "other"] []
  F_Side_tied : Fun K "tied" "Side.tied" s_Side_tied A.a_Side_tied A.d_Side_tied
  m_Side_turned : Meth K A.c_Side "turned" A.a_Side_turned
  b_Side_turned : L2.Binds K A.d_Side_turned ["self"] []
  F_Side_turned : Fun K "turned" "Side.turned" s_Side_turned A.a_Side_turned A.d_Side_turned
  b_Join_init : L2.Binds K A.d_Join_init ["self", "parts"] []
  F_Join_init : Fun K "__init__" "Join.__init__" s_Join_init A.a_Join_init A.d_Join_init
  m_Join_told : Meth K A.c_Join "told" A.a_Join_told
  b_Join_told : L2.Binds K A.d_Join_told ["self"] []
  F_Join_told : Fun K "told" "Join.told" s_Join_told A.a_Join_told A.d_Join_told
  m_Join_points : Meth K A.c_Join "points" A.a_Join_points
  b_Join_points : L2.Binds K A.d_Join_points ["self"] []
  F_Join_points : Fun K "points" "Join.points" s_Join_points A.a_Join_points A.d_Join_points
  m_Join_tied : Meth K A.c_Join "tied" A.a_Join_tied
  b_Join_tied : L2.Binds K A.d_Join_tied ["self", "one", "other"] []
  F_Join_tied : Fun K "tied" "Join.tied" s_Join_tied A.a_Join_tied A.d_Join_tied
  m_Join_turned : Meth K A.c_Join "turned" A.a_Join_turned
  b_Join_turned : L2.Binds K A.d_Join_turned ["self"] []
  F_Join_turned : Fun K "turned" "Join.turned" s_Join_turned A.a_Join_turned A.d_Join_turned
  g_points_of : mg "_points_of" = some (.ref A.a_points_of)
  k_points_of : PySem.W.keepIn K (.ref A.a_points_of) = true
  b_points_of : L2.Binds K A.d_points_of ["trees"] []
  F_points_of : Fun K "_points_of" "_points_of" s_points_of A.a_points_of A.d_points_of
  g_told_of : mg "_told_of" = some (.ref A.a_told_of)
  k_told_of : PySem.W.keepIn K (.ref A.a_told_of) = true
  b_told_of : L2.Binds K A.d_told_of ["trees"] []
  F_told_of : Fun K "_told_of" "_told_of" s_told_of A.a_told_of A.d_told_of
  g_turned_of : mg "_turned_of" = some (.ref A.a_turned_of)
  k_turned_of : PySem.W.keepIn K (.ref A.a_turned_of) = true
  b_turned_of : L2.Binds K A.d_turned_of ["trees"] []
  F_turned_of : Fun K "_turned_of" "_turned_of" s_turned_of A.a_turned_of A.d_turned_of
  g_tied_among : mg "_tied_among" = some (.ref A.a_tied_among)
  k_tied_among : PySem.W.keepIn K (.ref A.a_tied_among) = true
  b_tied_among : L2.Binds K A.d_tied_among ["trees", "one", "other", "across"] []
  F_tied_among : Fun K "_tied_among" "_tied_among" s_tied_among A.a_tied_among A.d_tied_among
  g_tree_by : mg "tree_by" = some (.ref A.a_tree_by)
  k_tree_by : PySem.W.keepIn K (.ref A.a_tree_by) = true
  b_tree_by : L2.Binds K A.d_tree_by ["told"] []
  F_tree_by : Fun K "tree_by" "tree_by" s_tree_by A.a_tree_by A.d_tree_by
  g_tree_under : mg "_tree_under" = some (.ref A.a_tree_under)
  k_tree_under : PySem.W.keepIn K (.ref A.a_tree_under) = true
  b_tree_under : L2.Binds K A.d_tree_under ["above", "told", "deep", "met"] []
  F_tree_under : Fun K "_tree_under" "_tree_under" s_tree_under A.a_tree_under A.d_tree_under
  g_opened : mg "_opened" = some (.ref A.a_opened)
  k_opened : PySem.W.keepIn K (.ref A.a_opened) = true
  b_opened : L2.Binds K A.d_opened ["told"] []
  F_opened : Fun K "_opened" "_opened" s_opened A.a_opened A.d_opened
  g_web_of : mg "web_of" = some (.ref A.a_web_of)
  k_web_of : PySem.W.keepIn K (.ref A.a_web_of) = true
  b_web_of : L2.Binds K A.d_web_of ["told"] []
  F_web_of : Fun K "web_of" "web_of" s_web_of A.a_web_of A.d_web_of
  g_l_mixed : mg "_law_mixed" = some (.ref A.a_l_mixed)
  k_l_mixed : PySem.W.keepIn K (.ref A.a_l_mixed) = true
  b_l_mixed : L2.Binds K A.d_l_mixed ["_law_cell", "_law_k"] []
  F_l_mixed : Fun K "_law_mixed" "_law_mixed" s_l_mixed A.a_l_mixed A.d_l_mixed
  g_l_number : mg "_law_number" = some (.ref A.a_l_number)
  k_l_number : PySem.W.keepIn K (.ref A.a_l_number) = true
  b_l_number : L2.Binds K A.d_l_number ["_law_script", "_law_k"] []
  F_l_number : Fun K "_law_number" "_law_number" s_l_number A.a_l_number A.d_l_number
  g_l_kind : mg "_law_kind" = some (.ref A.a_l_kind)
  k_l_kind : PySem.W.keepIn K (.ref A.a_l_kind) = true
  b_l_kind : L2.Binds K A.d_l_kind ["_law_e"] []
  F_l_kind : Fun K "_law_kind" "_law_kind" s_l_kind A.a_l_kind A.d_l_kind
  g_l_order : mg "_law_order" = some (.ref A.a_l_order)
  k_l_order : PySem.W.keepIn K (.ref A.a_l_order) = true
  b_l_order : L2.Binds K A.d_l_order ["_law_many", "_law_number_here"] []
  F_l_order : Fun K "_law_order" "_law_order" s_l_order A.a_l_order A.d_l_order
  g_l_least : mg "_law_least" = some (.ref A.a_l_least)
  k_l_least : PySem.W.keepIn K (.ref A.a_l_least) = true
  b_l_least : L2.Binds K A.d_l_least ["_law_told_here"] []
  F_l_least : Fun K "_law_least" "_law_least" s_l_least A.a_l_least A.d_l_least
  g_l_told : mg "_law_told" = some (.ref A.a_l_told)
  k_l_told : PySem.W.keepIn K (.ref A.a_l_told) = true
  b_l_told : L2.Binds K A.d_l_told ["_law_nodes", "_law_at", "_law_names"] []
  F_l_told : Fun K "_law_told" "_law_told" s_l_told A.a_l_told A.d_l_told
  g_l_tree : mg "_law_tree" = some (.ref A.a_l_tree)
  k_l_tree : PySem.W.keepIn K (.ref A.a_l_tree) = true
  b_l_tree : L2.Binds K A.d_l_tree ["_law_script", "_law_most", "_law_names"] []
  F_l_tree : Fun K "_law_tree" "_law_tree" s_l_tree A.a_l_tree A.d_l_tree
  g_l_points : mg "_law_points" = some (.ref A.a_l_points)
  k_l_points : PySem.W.keepIn K (.ref A.a_l_points) = true
  b_l_points : L2.Binds K A.d_l_points ["_law_told_here"] []
  F_l_points : Fun K "_law_points" "_law_points" s_l_points A.a_l_points A.d_l_points
  g_l_ties : mg "_law_ties" = some (.ref A.a_l_ties)
  k_l_ties : PySem.W.keepIn K (.ref A.a_l_ties) = true
  b_l_ties : L2.Binds K A.d_l_ties ["_law_told_here"] []
  F_l_ties : Fun K "_law_ties" "_law_ties" s_l_ties A.a_l_ties A.d_l_ties
  g_l_turned : mg "_law_turned" = some (.ref A.a_l_turned)
  k_l_turned : PySem.W.keepIn K (.ref A.a_l_turned) = true
  b_l_turned : L2.Binds K A.d_l_turned ["_law_told_here"] []
  F_l_turned : Fun K "_law_turned" "_law_turned" s_l_turned A.a_l_turned A.d_l_turned
  g_l_is : mg "_law_is" = some (.ref A.a_l_is)
  k_l_is : PySem.W.keepIn K (.ref A.a_l_is) = true
  b_l_is : L2.Binds K A.d_l_is ["_law_tree_here", "_law_told_here"] []
  F_l_is : Fun K "_law_is" "_law_is" s_l_is A.a_l_is A.d_l_is
  g_l_made : mg "_law_made" = some (.ref A.a_l_made)
  k_l_made : PySem.W.keepIn K (.ref A.a_l_made) = true
  b_l_made : L2.Binds K A.d_l_made ["_law_told_here"] []
  F_l_made : Fun K "_law_made" "_law_made" s_l_made A.a_l_made A.d_l_made
  g_l_ties_right : mg "_law_ties_right" = some (.ref A.a_l_ties_right)
  k_l_ties_right : PySem.W.keepIn K (.ref A.a_l_ties_right) = true
  b_l_ties_right : L2.Binds K A.d_l_ties_right ["_law_tree_here", "_law_told_here", "_law_script"] []
  F_l_ties_right : Fun K "_law_ties_right" "_law_ties_right" s_l_ties_right A.a_l_ties_right A.d_l_ties_right
  g_l_web_said : mg "_law_web_said" = some (.ref A.a_l_web_said)
  k_l_web_said : PySem.W.keepIn K (.ref A.a_l_web_said) = true
  b_l_web_said : L2.Binds K A.d_l_web_said ["_law_told_here"] []
  F_l_web_said : Fun K "_law_web_said" "_law_web_said" s_l_web_said A.a_l_web_said A.d_l_web_said
  g_law : mg "law" = some (.ref A.a_law)
  k_law : PySem.W.keepIn K (.ref A.a_law) = true
  b_law : L2.Binds K A.d_law ["_law_script"] []
  F_law : Fun K "law" "law" s_law A.a_law A.d_law
  cl_Web : Cls K A.c_Web
  mk_Web : Mk K A.c_Web A.a_Web_init
  n_Web__near : NoAttr K A.c_Web "_near"
  cl_Point : Cls K A.c_Point
  mk_Point : Mk K A.c_Point A.a_Point_init
  n_Point__number : NoAttr K A.c_Point "_number"
  cl_Side : Cls K A.c_Side
  mk_Side : Mk K A.c_Side A.a_Side_init
  n_Side__parts : NoAttr K A.c_Side "_parts"
  n_Side__points : NoAttr K A.c_Side "_points"
  cl_Join : Cls K A.c_Join
  mk_Join : Mk K A.c_Join A.a_Join_init
  n_Join__parts : NoAttr K A.c_Join "_parts"
  n_Join__points : NoAttr K A.c_Join "_points"
  gBadPoint : mg "BadPoint" = some (.ref A.c_BadPoint)
  gBadSize : mg "BadSize" = some (.ref A.c_BadSize)
  gBadText : mg "BadText" = some (.ref A.c_BadText)
  gBadTree : mg "BadTree" = some (.ref A.c_BadTree)
  gJoin : mg "Join" = some (.ref A.c_Join)
  gJoinError : mg "JoinError" = some (.ref A.c_JoinError)
  gNoTie : mg "NoTie" = some (.ref A.c_NoTie)
  gNoTree : mg "NoTree" = some (.ref A.c_NoTree)
  gPoint : mg "Point" = some (.ref A.c_Point)
  gSide : mg "Side" = some (.ref A.c_Side)
  gTooMany : mg "TooMany" = some (.ref A.c_TooMany)
  gTree : mg "Tree" = some (.ref A.c_Tree)
  gTwice : mg "Twice" = some (.ref A.c_Twice)
  gWeb : mg "Web" = some (.ref A.c_Web)
  xBadSize : PySem.W.excIn K A.c_BadSize [.type "ValueError", .type "Exception", .type "BaseException", .type "object"] "ValueError.__new__" = true
  kBadSize : PySem.W.keepIn K (.ref A.c_BadSize) = true
  bBadSize : PySem.W.subIn K (.ref A.c_BadSize) (.type "BaseException") = some true
  tBadSize : PySem.W.typeIn K (.ref A.c_BadSize) = some (.type "type")
  xBadPoint : PySem.W.excIn K A.c_BadPoint [.type "ValueError", .type "Exception", .type "BaseException", .type "object"] "ValueError.__new__" = true
  kBadPoint : PySem.W.keepIn K (.ref A.c_BadPoint) = true
  bBadPoint : PySem.W.subIn K (.ref A.c_BadPoint) (.type "BaseException") = some true
  tBadPoint : PySem.W.typeIn K (.ref A.c_BadPoint) = some (.type "type")
  xTwice : PySem.W.excIn K A.c_Twice [.type "ValueError", .type "Exception", .type "BaseException", .type "object"] "ValueError.__new__" = true
  kTwice : PySem.W.keepIn K (.ref A.c_Twice) = true
  bTwice : PySem.W.subIn K (.ref A.c_Twice) (.type "BaseException") = some true
  tTwice : PySem.W.typeIn K (.ref A.c_Twice) = some (.type "type")
  xBadTree : PySem.W.excIn K A.c_BadTree [.type "ValueError", .type "Exception", .type "BaseException", .type "object"] "ValueError.__new__" = true
  kBadTree : PySem.W.keepIn K (.ref A.c_BadTree) = true
  bBadTree : PySem.W.subIn K (.ref A.c_BadTree) (.type "BaseException") = some true
  tBadTree : PySem.W.typeIn K (.ref A.c_BadTree) = some (.type "type")
  hb_JoinError : PySem.W.subIn K (.ref A.c_JoinError) (.type "BaseException") = some true
  hd_JoinError : PySem.W.hasDictIn K A.c_JoinError = true
  ht_JoinError : PySem.W.typeIn K (.ref A.c_JoinError) = some (.type "type")
  su_BadSize_JoinError : PySem.W.subIn K (.ref A.c_BadSize) (.ref A.c_JoinError) = some true
  su_BadPoint_JoinError : PySem.W.subIn K (.ref A.c_BadPoint) (.ref A.c_JoinError) = some true
  su_Twice_JoinError : PySem.W.subIn K (.ref A.c_Twice) (.ref A.c_JoinError) = some true
  su_BadTree_JoinError : PySem.W.subIn K (.ref A.c_BadTree) (.ref A.c_JoinError) = some true
  ec_BadSize : ExcC K A.c_BadSize
  is_BadSize_BadSize : PySem.W.kitOne K (.ref A.c_BadSize) (.ref A.c_BadSize) = some true
  is_BadSize_BadPoint : PySem.W.kitOne K (.ref A.c_BadSize) (.ref A.c_BadPoint) = some false
  is_BadSize_Twice : PySem.W.kitOne K (.ref A.c_BadSize) (.ref A.c_Twice) = some false
  is_BadSize_NoTie : PySem.W.kitOne K (.ref A.c_BadSize) (.ref A.c_NoTie) = some false
  is_BadSize_TooMany : PySem.W.kitOne K (.ref A.c_BadSize) (.ref A.c_TooMany) = some false
  is_BadSize_NoTree : PySem.W.kitOne K (.ref A.c_BadSize) (.ref A.c_NoTree) = some false
  is_BadSize_BadTree : PySem.W.kitOne K (.ref A.c_BadSize) (.ref A.c_BadTree) = some false
  is_BadSize_BadText : PySem.W.kitOne K (.ref A.c_BadSize) (.ref A.c_BadText) = some false
  is_BadSize_ValueError : PySem.W.kitOne K (.ref A.c_BadSize) (.type "ValueError") = some true
  ec_BadPoint : ExcC K A.c_BadPoint
  is_BadPoint_BadSize : PySem.W.kitOne K (.ref A.c_BadPoint) (.ref A.c_BadSize) = some false
  is_BadPoint_BadPoint : PySem.W.kitOne K (.ref A.c_BadPoint) (.ref A.c_BadPoint) = some true
  is_BadPoint_Twice : PySem.W.kitOne K (.ref A.c_BadPoint) (.ref A.c_Twice) = some false
  is_BadPoint_NoTie : PySem.W.kitOne K (.ref A.c_BadPoint) (.ref A.c_NoTie) = some false
  is_BadPoint_TooMany : PySem.W.kitOne K (.ref A.c_BadPoint) (.ref A.c_TooMany) = some false
  is_BadPoint_NoTree : PySem.W.kitOne K (.ref A.c_BadPoint) (.ref A.c_NoTree) = some false
  is_BadPoint_BadTree : PySem.W.kitOne K (.ref A.c_BadPoint) (.ref A.c_BadTree) = some false
  is_BadPoint_BadText : PySem.W.kitOne K (.ref A.c_BadPoint) (.ref A.c_BadText) = some false
  is_BadPoint_ValueError : PySem.W.kitOne K (.ref A.c_BadPoint) (.type "ValueError") = some true
  ec_Twice : ExcC K A.c_Twice
  is_Twice_BadSize : PySem.W.kitOne K (.ref A.c_Twice) (.ref A.c_BadSize) = some false
  is_Twice_BadPoint : PySem.W.kitOne K (.ref A.c_Twice) (.ref A.c_BadPoint) = some false
  is_Twice_Twice : PySem.W.kitOne K (.ref A.c_Twice) (.ref A.c_Twice) = some true
  is_Twice_NoTie : PySem.W.kitOne K (.ref A.c_Twice) (.ref A.c_NoTie) = some false
  is_Twice_TooMany : PySem.W.kitOne K (.ref A.c_Twice) (.ref A.c_TooMany) = some false
  is_Twice_NoTree : PySem.W.kitOne K (.ref A.c_Twice) (.ref A.c_NoTree) = some false
  is_Twice_BadTree : PySem.W.kitOne K (.ref A.c_Twice) (.ref A.c_BadTree) = some false
  is_Twice_BadText : PySem.W.kitOne K (.ref A.c_Twice) (.ref A.c_BadText) = some false
  is_Twice_ValueError : PySem.W.kitOne K (.ref A.c_Twice) (.type "ValueError") = some true
  ec_BadTree : ExcC K A.c_BadTree
  is_BadTree_BadSize : PySem.W.kitOne K (.ref A.c_BadTree) (.ref A.c_BadSize) = some false
  is_BadTree_BadPoint : PySem.W.kitOne K (.ref A.c_BadTree) (.ref A.c_BadPoint) = some false
  is_BadTree_Twice : PySem.W.kitOne K (.ref A.c_BadTree) (.ref A.c_Twice) = some false
  is_BadTree_NoTie : PySem.W.kitOne K (.ref A.c_BadTree) (.ref A.c_NoTie) = some false
  is_BadTree_TooMany : PySem.W.kitOne K (.ref A.c_BadTree) (.ref A.c_TooMany) = some false
  is_BadTree_NoTree : PySem.W.kitOne K (.ref A.c_BadTree) (.ref A.c_NoTree) = some false
  is_BadTree_BadTree : PySem.W.kitOne K (.ref A.c_BadTree) (.ref A.c_BadTree) = some true
  is_BadTree_BadText : PySem.W.kitOne K (.ref A.c_BadTree) (.ref A.c_BadText) = some false
  is_BadTree_ValueError : PySem.W.kitOne K (.ref A.c_BadTree) (.type "ValueError") = some true
  kt_Point_Point : PySem.W.kitOne K (.ref A.c_Point) (.ref A.c_Point) = some true
  kt_Point_Side : PySem.W.kitOne K (.ref A.c_Point) (.ref A.c_Side) = some false
  kt_Point_Join : PySem.W.kitOne K (.ref A.c_Point) (.ref A.c_Join) = some false
  kt_Point_Tree : PySem.W.kitOne K (.ref A.c_Point) (.ref A.c_Tree) = some true
  kt_Side_Point : PySem.W.kitOne K (.ref A.c_Side) (.ref A.c_Point) = some false
  kt_Side_Side : PySem.W.kitOne K (.ref A.c_Side) (.ref A.c_Side) = some true
  kt_Side_Join : PySem.W.kitOne K (.ref A.c_Side) (.ref A.c_Join) = some false
  kt_Side_Tree : PySem.W.kitOne K (.ref A.c_Side) (.ref A.c_Tree) = some true
  kt_Join_Point : PySem.W.kitOne K (.ref A.c_Join) (.ref A.c_Point) = some false
  kt_Join_Side : PySem.W.kitOne K (.ref A.c_Join) (.ref A.c_Side) = some false
  kt_Join_Join : PySem.W.kitOne K (.ref A.c_Join) (.ref A.c_Join) = some true
  kt_Join_Tree : PySem.W.kitOne K (.ref A.c_Join) (.ref A.c_Tree) = some true
  isa_Point : IsC K A.c_Point
  isa_Side : IsC K A.c_Side
  isa_Join : IsC K A.c_Join
  NotImplementedError : mg "NotImplementedError" = none
  ValueError : mg "ValueError" = none
  bool : mg "bool" = none
  int : mg "int" = none
  isinstance : mg "isinstance" = none
  len : mg "len" = none
  list : mg "list" = none
  max : mg "max" = none
  min : mg "min" = none
  range : mg "range" = none
  repr : mg "repr" = none
  sorted : mg "sorted" = none
  str : mg "str" = none
  tuple : mg "tuple" = none
  cMOST_POINTS : ∃ t, mg "MOST_POINTS" = some (.int (30) t)
  cSIDE : ∃ t, mg "SIDE" = some (.str "side" t)
  cJOIN : ∃ t, mg "JOIN" = some (.str "join" t)

end Jk

namespace Jk
open PySem L2 Evl
/-! ## numbers -/
def mixN (c k : Int) : Int := (c % 1000000007 + 7919 * k * k + 31 * k + 17) * 48271 % 2147483647
def mixed (c k : Int) : Int := mixN c k * (mixN c k % 65521 + 16807) % 2147483629 / 4
theorem mixed_nn (c k : Int) : 0 ≤ mixed c k := by unfold mixed; omega
theorem mixed_lt (c k : Int) : mixed c k < 600000000 := by unfold mixed; omega
def spMixed : Sp := fun vs H Q _ => ∃ (c k : Int), vs = [.int c, .int k] ∧ (0 ≤ k ∧ k ≤ 100000) ∧ Q (.int (mixed c k)) H
def cellAt (ns : List Int) (k : Int) : Int := if ns.length = 0 then 0 else ns.getD (k % (ns.length : Int)).toNat 0
def num (ns : List Int) (k : Int) : Int := mixed (cellAt ns k) k
theorem cell_ix {ns : List Int} {k : Int} (h : 0 < ns.length) (hk : 0 ≤ k) : (ns.map V.int)[(k % (ns.length : Int)).toNat]? = some (.int (cellAt ns k)) := by
  have h1 : (k % (ns.length : Int)).toNat < ns.length := by
    have a := Int.emod_lt_of_pos k (show (0 : Int) < ns.length by omega)
    have b := Int.emod_nonneg k (show (ns.length : Int) ≠ 0 by omega)
    omega
  unfold cellAt
  rw [if_neg (by omega), List.getElem?_map, List.getD_eq_getElem?_getD, List.getElem?_eq_getElem h1]
  rfl
def spNumber (K : PySem.W.Frag) : Sp := fun vs H Q _ => ∃ (a : Addr) (ns : List Int) (k : Int), vs = [.ref a, .int k] ∧ SqL K H a (ns.map V.int) ∧ (0 ≤ k ∧ k ≤ 100000) ∧ Q (.int (num ns k)) H
section
variable {P : Program} {w : World} {K : PySem.W.Frag} {mg : Str → Option Value} {base : Heap} {A : Adr}
theorem ok_l_mixed (T : Txt K mg A) : FnOk P w K mg base CX0 1 A.a_l_mixed A.d_l_mixed ["_law_cell", "_law_k"] spMixed := by
  refine T.F_l_mixed.ok sc_l_mixed (fun vs H Q E h => ?_) (fun cdv C outer s H vs Q E hr h => ?_)
  · obtain ⟨c, k, rfl, _⟩ := h
    rfl
  · obtain ⟨c, k, rfl, hk, q⟩ := h
    refine ⟨_, (pss_cons (ps_set (i := 2) sc_l_mixed.nd rfl (Or.inl rfl) (pe_op op_mod (pe_op op_mul (pe_op op_add (pe_op op_add (pe_op op_add (pe_op op_mod (pv 0) pe_int) (pe_op op_mul (pe_op op_mul pe_int (pv 1)) (pv 1))) (pe_op op_mul pe_int (pv 1))) pe_int) pe_int) pe_int))
  (pss_one (ps_ret (pe_op op_fdiv (pe_op op_mod (pe_op op_mul (pv 2) (pe_op op_add (pe_op op_mod (pv 2) pe_int) pe_int)) pe_int) pe_int)))), ?_⟩
    have e : mixN c k = (c % 1000000007 + 7919 * k * k + 31 * k + 17) * 48271 % 2147483647 := rfl
    simp [L2.start, CMul, CDiv, ← e]
    refine ⟨?_, ?_, q⟩ <;> omega
theorem ok_l_number (T : Txt K mg A) : FnOk P w K mg base CX0 2 A.a_l_number A.d_l_number ["_law_script", "_law_k"] (spNumber K) := by
  refine T.F_l_number.ok sc_l_number (fun vs H Q E h => ?_) (fun cdv C outer s H vs Q E hr h => ?_)
  · obtain ⟨a, ns, k, rfl, _⟩ := h
    rfl
  · obtain ⟨a, ns, k, rfl, hS, hk, q⟩ := h
    refine ⟨_, (pss_cons (ps_set (i := 2) sc_l_number.nd rfl (Or.inl rfl) pe_int)
  (pss_cons (ps_if (pt_cmpR op_gt (pe_callB call_len_seq (by rfl) T.len (by decide +kernel) (pa_cons (pv 0) pa_nil)) pe_int (nomark _))
    (pss_one (ps_set (i := 2) sc_l_number.nd rfl (Or.inl rfl) (pe_ix ix_list (pv 0) (pe_op op_mod (pv 1) (pe_callB call_len_seq (by rfl) T.len (by decide +kernel) (pa_cons (pv 0) pa_nil))) (fun _ _ => rfl))))
    pss_nil)
  (pss_one (ps_ret (pe_call (ok_l_mixed T) (hr.mono (by decide)) rfl T.g_l_mixed T.k_l_mixed T.b_l_mixed .nil pass0 (pa_cons (pv 2) (pa_cons (pv 1) pa_nil))))))), ?_⟩
    simp [L2.start]
    refine ⟨_, .inl hS, ?_⟩
    simp [spMixed, hk, and_assoc]
    by_cases hn : ns = []
    · subst hn
      exact .inl ⟨rfl, q⟩
    · have h0 : 0 < ns.length := by cases ns with | nil => exact absurd rfl hn | cons _ _ => simp
      refine .inr ⟨h0, _, .inl hS, by simpa using h0, a, _, _, _, rfl, rfl, hS, at_toNat ?_ ?_, _, rfl, q⟩
      · exact Int.emod_nonneg k (by rw [List.length_map]; omega)
      · rw [List.length_map]
        exact cell_ix h0 hk.1
end
end Jk

namespace Jk
open PySem L2 Evl
/-! ## things -/
inductive Thing (H : Hp) : V → Prop where
  | non : Thing H .non
  | bl (b : Bool) : Thing H (.bl b)
  | int (i : Int) : Thing H (.int i)
  | str (s : Str) : Thing H (.str s)
  | lst {a : Addr} {xs : List V} (h : H a = some (.lst xs)) : Thing H (.ref a)
  | tup {a : Addr} {xs : List V} (h : H a = some (.tup xs)) : Thing H (.ref a)
  | dK {a : Addr} {xs : List (Key × V)} (h : H a = some (.dK xs)) : Thing H (.ref a)
theorem Thing.up {H H' : Hp} {x : V} (t : Thing H x) (e : Ex H H') : Thing H' x := by
  cases t with
  | non => exact .non
  | bl b => exact .bl b
  | int i => exact .int i
  | str s => exact .str s
  | lst h => exact .lst (e _ _ h)
  | tup h => exact .tup (e _ _ h)
  | dK h => exact .dK (e _ _ h)
def inR (x : V) (lo hi : Int) : Bool := match x with
  | .int i => decide (lo ≤ i ∧ i ≤ hi)
  | _ => false
def spWhole : Sp := fun vs H Q _ => ∃ (x : V) (lo hi : Int), vs = [x, .int lo, .int hi] ∧ Thing H x ∧ Q (.bl (inR x lo hi)) H
section
variable {P : Program} {w : World} {K : PySem.W.Frag} {mg : Str → Option Value} {base : Heap} {A : Adr}
theorem ok_whole_within (T : Txt K mg A) : FnOk P w K mg base CX0 1 A.a_whole_within A.d_whole_within ["number", "least", "most"] spWhole := by
  refine T.F_whole_within.ok sc_whole_within (fun vs H Q E h => ?_) (fun cdv C outer s H vs Q E hr h => ?_)
  · obtain ⟨x, lo, hi, rfl, _⟩ := h
    rfl
  · obtain ⟨x, lo, hi, rfl, th, q⟩ := h
    refine ⟨_, (pss_cons (ps_if (PW.pt (pw_or (pt_not (pt_val (pe_callB call_isJ (by rfl) T.isinstance (by decide +kernel) (pa_cons (pv 0) (pa_cons (pe_bltn (v := .ty "int") (u := .type "int") (by rfl) T.int (by decide +kernel) rfl) pa_nil))))) (pw_or1 (pt_val (pe_callB call_isJ (by rfl) T.isinstance (by decide +kernel) (pa_cons (pv 0) (pa_cons (pe_bltn (v := .ty "bool") (u := .type "bool") (by rfl) T.bool (by decide +kernel) rfl) pa_nil)))))))
    (pss_one (ps_ret pe_bl))
    pss_nil)
  (pss_one (ps_ret (pe_chain op_le op_le (pv 1) (pv 0) (pv 2))))), ?_⟩
    cases th with
    | non => simpa [L2.start, inR] using q
    | bl b => simpa [L2.start, inR] using q
    | int i =>
      simp [L2.start]
      by_cases h1 : lo ≤ i
      · refine .inr ⟨h1, ?_⟩
        simpa [inR, h1] using q
      · refine .inl ⟨by omega, ?_⟩
        simpa [inR, h1] using q
    | str s => simpa [L2.start, inR] using q
    | lst h => simpa [L2.start, inR, tyN_lst h] using q
    | tup h => simpa [L2.start, inR, tyN_tup h] using q
    | dK h => simpa [L2.start, inR, tyN_dK h] using q
end
end Jk

namespace Jk
open PySem L2 Evl
/-! ## webs in the heap -/
def wf (l : Addr) : List (Str × V) := putF "_near" (.ref l) []
theorem wf_near (l : Addr) : (wf l).lookup ("_near" : Str) = some (.ref l) := by unfold wf; rw [lookup_putF, if_pos rfl]
theorem wf_no (l : Addr) {m : Str} (h : ¬ m = "_near") : (wf l).lookup m = none := by unfold wf; rw [lookup_putF, if_neg h]; rfl
@[simp] theorem wf_has (l : Addr) : NoFld (wf l) "has" := wf_no l (by decide +kernel)
@[simp] theorem wf_put (l : Addr) : NoFld (wf l) "put" := wf_no l (by decide +kernel)
@[simp] theorem wf_take (l : Addr) : NoFld (wf l) "take" := wf_no l (by decide +kernel)
@[simp] theorem wf_grow (l : Addr) : NoFld (wf l) "grow" := wf_no l (by decide +kernel)
@[simp] theorem wf_many (l : Addr) : NoFld (wf l) "many" := wf_no l (by decide +kernel)
@[simp] theorem wf_ties (l : Addr) : NoFld (wf l) "ties" := wf_no l (by decide +kernel)
@[simp] theorem wf_beside (l : Addr) : NoFld (wf l) "beside" := wf_no l (by decide +kernel)
@[simp] theorem wf_need (l : Addr) : NoFld (wf l) "_need_point" := wf_no l (by decide +kernel)
def rowD (r : List Int) : List (Key × V) := r.map fun j => (Sum.inl j, V.bl true)
structure WebAt (C : Addr) (H : Hp) (p l : Addr) (ds : List Addr) (rows : List (List Int)) : Prop where
  ob : ∃ dx, H p = some (.ins C dx (wf l))
  ls : H l = some (.lst (ds.map V.ref))
  nd : ds.Nodup
  len : ds.length = rows.length
  row : ∀ (i : Nat) (d : Addr) (r : List Int), ds[i]? = some d → rows[i]? = some r → H d = some (.dK (rowD r))
theorem WebAt.uniq {C : Addr} {H : Hp} {p l l' : Addr} {ds ds' : List Addr} {rows rows' : List (List Int)} (W : WebAt C H p l ds rows) (W' : WebAt C H p l' ds' rows') : l' = l ∧ ds' = ds ∧ rows' = rows := by
  obtain ⟨⟨dx, a1⟩, a2, _, a4, a5⟩ := W
  obtain ⟨⟨dx', b1⟩, b2, _, b4, b5⟩ := W'
  have e1 : l' = l := by
    rw [a1] at b1
    have z : wf l = wf l' := by cases b1; rfl
    have y := congrArg (fun fs => List.lookup ("_near" : Str) fs) z
    simp only [wf_near] at y
    cases y; rfl
  subst e1
  have e2 : ds' = ds := by
    rw [a2] at b2
    have z : ds.map V.ref = ds'.map V.ref := HO.lst.inj (Option.some.inj b2)
    exact ((List.map_inj_right (fun x y h => by cases h; rfl)).mp z).symm
  subst e2
  refine ⟨rfl, rfl, ?_⟩
  refine List.ext_getElem? fun i => ?_
  by_cases h : i < rows.length
  · have h' : i < rows'.length := by omega
    have hd : i < ds'.length := by omega
    have x := a5 i _ _ (List.getElem?_eq_getElem hd) (List.getElem?_eq_getElem h)
    have y := b5 i _ _ (List.getElem?_eq_getElem hd) (List.getElem?_eq_getElem h')
    rw [x] at y
    have z : rowD rows[i] = rowD rows'[i] := HO.dK.inj (Option.some.inj y)
    unfold rowD at z
    have z' := (List.map_inj_right (fun a b h => by cases h; rfl)).mp z
    rw [List.getElem?_eq_getElem h, List.getElem?_eq_getElem h', z']
  · rw [List.getElem?_eq_none (by omega), List.getElem?_eq_none (by omega)]
theorem web_ex {C : Addr} {H : Hp} {p l : Addr} {ds : List Addr} {rows : List (List Int)} {R : Addr → List Addr → List (List Int) → Prop} (W : WebAt C H p l ds rows) : (∃ l' ds' rows', WebAt C H p l' ds' rows' ∧ R l' ds' rows') ↔ R l ds rows :=
  ⟨fun ⟨_, _, _, W', r⟩ => by obtain ⟨rfl, rfl, rfl⟩ := W.uniq W'; exact r, fun r => ⟨l, ds, rows, W, r⟩⟩
def spNeed (A : Adr) : Sp := fun vs H Q E => ∃ (p l : Addr) (ds : List Addr) (rows : List (List Int)) (x : V), vs = [.ref p, x] ∧ WebAt A.c_Web H p l ds rows ∧ Thing H x ∧
  (inR x 0 ((rows.length : Int) - 1) = true → Q .non H) ∧ (inR x 0 ((rows.length : Int) - 1) = false → E (.ref A.c_BadPoint) none H)
section
variable {P : Program} {w : World} {K : PySem.W.Frag} {mg : Str → Option Value} {base : Heap} {A : Adr}
theorem ok_Web_need_point (T : Txt K mg A) : FnOk P w K mg base (L2.CX P w) 2 A.a_Web_need_point A.d_Web_need_point ["self", "point"] (spNeed A) := by
  refine T.F_Web_need_point.okX sc_Web_need_point (fun vs H Q E h => ?_) (fun cdv C outer s H vs Q E hr h => ?_)
  · obtain ⟨p, l, ds, rows, x, rfl, _⟩ := h
    rfl
  · obtain ⟨p, l, ds, rows, x, rfl, W, th, k1, k2⟩ := h
    obtain ⟨⟨dx, h1⟩, h2, h3, h4, h5⟩ := W
    refine ⟨_, (pss_one (ps_if (pt_not (pt_val (pe_call (ok_whole_within T) (hr.mono (by decide)) rfl T.g_whole_within T.k_whole_within T.b_whole_within .nil pass0 (pa_cons (pv 1) (pa_cons pe_int (pa_cons (pe_op op_sub (pe_callB call_lenJ (by rfl) T.len (by decide +kernel) (pa_cons (pe_fld (pv 0) rfl) pa_nil)) pe_int) pa_nil))))))
    (pss_one (ps_raise rfl (takes_of rfl rfl rfl rfl) (pmk_own PySem.F.excBase_ValueError T.xBadPoint T.gBadPoint T.kBadPoint (raises_own T.bBadPoint T.tBadPoint) rfl)))
    pss_nil)), ?_⟩
    simp [L2.start, and_assoc, h1, h2, T.cl_Web, T.n_Web__near, wf_near, spWhole, h4, th]
    cases e : inR x 0 ((rows.length : Int) - 1) with
    | true => exact .inr ⟨rfl, k1 e⟩
    | false => exact .inl ⟨rfl, k2 e⟩

/-! has -/
def okPt (rows : List (List Int)) (x : V) : Bool := inR x 0 ((rows.length : Int) - 1)
def tied (rows : List (List Int)) (i j : Int) : Bool := decide (j ∈ rows.getD i.toNat [])
theorem okPt_int {rows : List (List Int)} {x : V} (h : okPt rows x = true) : ∃ i, x = .int i ∧ 0 ≤ i ∧ i.toNat < rows.length := by
  unfold okPt inR at h
  cases x with
  | int i =>
    have h' := of_decide_eq_true h
    exact ⟨i, rfl, h'.1, by omega⟩
  | _ => cases h
theorem okPt_of {rows : List (List Int)} {i : Int} (h0 : 0 ≤ i) (h1 : i.toNat < rows.length) : okPt rows (.int i) = true := by
  unfold okPt inR
  simp
  omega
theorem rowD_val (r : List Int) (j : Int) : valV (rowD r) (Sum.inl j) = if j ∈ r then some (.bl true) else none := by
  unfold rowD
  induction r with
  | nil => rfl
  | cons a r ih =>
    by_cases e : a = j
    · subst e
      simp [valV_pos]
    · have e' : ¬ (Sum.inl a : Key) = Sum.inl j := fun z => e (Sum.inl.inj z)
      rw [List.map_cons, valV_neg (by exact e'), ih]
      have : j ∈ a :: r ↔ j ∈ r := by simp [Ne.symm e]
      simp [this]
theorem WebAt.at {C : Addr} {H : Hp} {p l : Addr} {ds : List Addr} {rows : List (List Int)} (W : WebAt C H p l ds rows) {i : Nat} (h : i < rows.length) : ∃ d, ds[i]? = some d ∧ H d = some (.dK (rowD (rows.getD i []))) ∧ (ds.map V.ref)[i]? = some (.ref d) := by
  have h' : i < ds.length := by rw [W.len]; exact h
  refine ⟨ds[i], List.getElem?_eq_getElem h', W.row i _ _ (List.getElem?_eq_getElem h') ?_, by rw [List.getElem?_map, List.getElem?_eq_getElem h']; rfl⟩
  rw [List.getD_eq_getElem?_getD, List.getElem?_eq_getElem h]
  rfl
/-- two points of the web, unlike -/
def okTwo (rows : List (List Int)) (x y : V) : Bool := okPt rows x && (okPt rows y && !decide (x = y))
def iOf : V → Int
  | .int i => i
  | _ => 0
def spHas (A : Adr) : Sp := fun vs H Q E => ∃ (p l : Addr) (ds : List Addr) (rows : List (List Int)) (x y : V), vs = [.ref p, x, y] ∧ WebAt A.c_Web H p l ds rows ∧ Thing H x ∧ Thing H y ∧
  (okTwo rows x y = true → Q (.bl (tied rows (iOf x) (iOf y))) H) ∧ (okTwo rows x y = false → E (.ref A.c_BadPoint) none H)
theorem ok_Web_has (T : Txt K mg A) : FnOk P w K mg base (L2.CX P w) 3 A.a_Web_has A.d_Web_has ["self", "one", "other"] (spHas A) := by
  refine T.F_Web_has.okX sc_Web_has (fun vs H Q E h => ?_) (fun cdv C outer s H vs Q E hr h => ?_)
  · obtain ⟨p, l, ds, rows, x, y, rfl, _⟩ := h
    rfl
  · obtain ⟨p, l, ds, rows, x, y, rfl, W, tx, ty, k1, k2⟩ := h
    have hu := hu_of hr
    refine ⟨_, (pss_cons (ps_expr (pe_meth (pv 0) T.cl_Web T.m_Web_need_point (ok_Web_need_point T) (hr.mono (by decide)) T.b_Web_need_point .nil (passes_call (E := E) (takes_of rfl rfl rfl rfl) fun _ _ _ _ z => z) (pa_cons (pv 1) pa_nil)))
  (pss_cons (ps_expr (pe_meth (pv 0) T.cl_Web T.m_Web_need_point (ok_Web_need_point T) (hr.mono (by decide)) T.b_Web_need_point .nil (passes_call (E := E) (takes_of rfl rfl rfl rfl) fun _ _ _ _ z => z) (pa_cons (pv 2) pa_nil)))
  (pss_cons (ps_if (pt_cmpR op_eq (pv 1) (pv 2) (nomark _))
    (pss_one (ps_raise rfl (takes_of rfl rfl rfl rfl) (pmk_own PySem.F.excBase_ValueError T.xBadPoint T.gBadPoint T.kBadPoint (raises_own T.bBadPoint T.tBadPoint) rfl)))
    pss_nil)
  (pss_one (ps_ret (pe_cmp (pc_dinJ hu (pv 2) (pe_ix ix_listJ (pe_fld (pv 0) rfl) (pv 1) (fun _ _ => rfl))) rfl)))))), ?_⟩
    obtain ⟨⟨dx, h1⟩, h2, h3, h4, h5⟩ := id W
    have key : (okPt rows x = true → okPt rows y = true → ∃ i j, x = .int i ∧ y = .int j ∧ 0 ≤ i ∧ i.toNat < rows.length) := fun e1 e2 => by
      obtain ⟨i, rfl, a1, a2⟩ := okPt_int e1
      obtain ⟨j, rfl, _, _⟩ := okPt_int e2
      exact ⟨i, j, rfl, rfl, a1, a2⟩
    simp [L2.start, and_assoc, h1, h2, T.cl_Web, T.n_Web__near, wf_near, spNeed, web_ex W, tx, ty]
    change (okPt rows x = true → (okPt rows y = true → _) ∧ (okPt rows y = false → _)) ∧ (okPt rows x = false → _)
    refine ⟨fun e1 => ⟨fun e2 => ?_, fun e2 => k2 (by simp [okTwo, e1, e2])⟩, fun e1 => k2 (by simp [okTwo, e1])⟩
    obtain ⟨i, j, rfl, rfl, a1, a2⟩ := key e1 e2
    obtain ⟨d, b1, b2, b3⟩ := W.at a2
    simp [okTwo, e1, e2, tied, iOf] at k1 k2
    by_cases hij : i = j
    · subst hij
      simpa using k2 rfl
    · simp at b2
      simp [and_assoc, hij, a1, b1, b2, h1, h2, T.cl_Web, T.n_Web__near, wf_near, rowD_val]
      by_cases hm : j ∈ rows[i.toNat]?.getD [] <;> simpa [hm] using k1 hij
end
end Jk

namespace Jk
open PySem L2 Evl
/-- all but what stands at M is as it was, and nothing is forgotten -/
structure But (M : List Addr) (H H' : Hp) : Prop where
  kp : ∀ b o, H b = some o → b ∉ M → H' b = some o
  dm : ∀ b, H' b = none → H b = none
theorem But.of_ex {M : List Addr} {H H' : Hp} (e : Ex H H') : But M H H' := ⟨fun b o h _ => e b o h, fun _ h => fresh_back e h⟩
theorem But.trans {M : List Addr} {H H1 H2 : Hp} (a : But M H H1) (b : But M H1 H2) : But M H H2 := ⟨fun c o h n => b.kp c o (a.kp c o h n) n, fun c h => a.dm c (b.dm c h)⟩
theorem But.mono {M N : List Addr} {H H' : Hp} (a : But M H H') (s : ∀ x ∈ M, x ∈ N) : But N H H' := ⟨fun c o h n => a.kp c o h fun z => n (s c z), a.dm⟩
theorem But.upd {M : List Addr} {H : Hp} {d : Addr} {o : HO} (h : d ∈ M) : But M H (upd H d o) := ⟨fun b u e n => by
  rw [upd_ne (show b ≠ d from fun z => n (by rw [z]; exact h))]
  exact e, fun b z => by
  by_cases q : b = d
  · subst q; rw [upd_same] at z; cases z
  · rw [upd_ne q] at z; exact z⟩
theorem But.updT {M : List Addr} {H H' : Hp} {d : Addr} {o : HO} (a : But M H H') (h : d ∈ M) : But M H (L2.upd H' d o) := a.trans (But.upd h)
def putR (rows : List (List Int)) (i j : Nat) : List (List Int) := (rows.set i (rows.getD i [] ++ [(j : Int)])).set j (rows.getD j [] ++ [(i : Int)])
def takeR (rows : List (List Int)) (i j : Nat) : List (List Int) := (rows.set i ((rows.getD i []).filter fun z => decide (z ≠ (j : Int)))).set j ((rows.getD j []).filter fun z => decide (z ≠ (i : Int)))
theorem rowD_put {r : List Int} {j : Int} (h : ¬ j ∈ r) : putK (rowD r) (Sum.inl j) (.bl true) = rowD (r ++ [j]) := by
  rw [putK_new _ (by rw [rowD_val, if_neg h])]
  unfold rowD
  rw [List.map_append]
  rfl
theorem rowD_drop (r : List Int) (j : Int) : dropK (rowD r) (Sum.inl j) = rowD (r.filter fun z => decide (z ≠ j)) := by
  unfold rowD dropK
  rw [List.filter_map]
  congr 1
  refine List.filter_congr fun z _ => ?_
  show decide ((Sum.inl z : Key) ≠ Sum.inl j) = decide (z ≠ j)
  by_cases e : z = j <;> simp [e]
theorem WebAt.set {C : Addr} {H : Hp} {p l : Addr} {ds : List Addr} {rows : List (List Int)} (W : WebAt C H p l ds rows) {i : Nat} {d : Addr} {r : List Int} (hd : ds[i]? = some d) (hi : i < rows.length) : WebAt C (upd H d (.dK (rowD r))) p l ds (rows.set i r) := by
  obtain ⟨dx, h1⟩ := W.ob
  have hD : H d = some (.dK (rowD (rows.getD i []))) := by
    obtain ⟨d', e1, e2, _⟩ := W.at hi
    rw [hd] at e1; cases e1; exact e2
  refine ⟨⟨dx, ?_⟩, ?_, W.nd, by rw [List.length_set]; exact W.len, fun k d' r' e1 e2 => ?_⟩
  · rw [upd_ne (ne_of h1 hD (by intro z; cases z))]; exact h1
  · rw [upd_ne (ne_of W.ls hD (by intro z; cases z))]; exact W.ls
  · by_cases hk : k = i
    · subst hk
      rw [hd] at e1; cases e1
      rw [List.getElem?_set_self hi] at e2; cases e2
      exact upd_same
    · have hne : d' ≠ d := fun z => hk (nd_ix W.nd e1 (z ▸ hd))
      rw [upd_ne hne]
      rw [List.getElem?_set_ne (Ne.symm hk)] at e2
      exact W.row k d' r' e1 e2
theorem WebAt.up {C : Addr} {H H' : Hp} {p l : Addr} {ds : List Addr} {rows : List (List Int)} (W : WebAt C H p l ds rows) (e : Ex H H') : WebAt C H' p l ds rows :=
  ⟨let ⟨dx, h⟩ := W.ob; ⟨dx, e _ _ h⟩, e _ _ W.ls, W.nd, W.len, fun i d r a b => e _ _ (W.row i d r a b)⟩
theorem WebAt.but {C : Addr} {H H' : Hp} {p l : Addr} {ds : List Addr} {rows : List (List Int)} {M : List Addr} (W : WebAt C H p l ds rows) (e : But M H H') (n : ∀ x ∈ M, x ≠ p ∧ x ≠ l ∧ x ∉ ds) : WebAt C H' p l ds rows :=
  ⟨let ⟨dx, h⟩ := W.ob; ⟨dx, e.kp _ _ h fun z => (n _ z).1 rfl⟩, e.kp _ _ W.ls fun z => (n _ z).2.1 rfl, W.nd, W.len, fun i d r a b => e.kp _ _ (W.row i d r a b) fun z => (n _ z).2.2 (List.mem_of_getElem? a)⟩
/-- ties go both ways -/
def Sym (rows : List (List Int)) : Prop := ∀ i j : Nat, i < rows.length → j < rows.length → ((j : Int) ∈ rows.getD i [] ↔ (i : Int) ∈ rows.getD j [])
def spPut (A : Adr) : Sp := fun vs H Q E => ∃ (p l : Addr) (ds : List Addr) (rows : List (List Int)) (x y : V), vs = [.ref p, x, y] ∧ WebAt A.c_Web H p l ds rows ∧ Thing H x ∧ Thing H y ∧ Sym rows ∧ (∀ r ∈ rows, r.length ≤ 100) ∧
  (okTwo rows x y = false → E (.ref A.c_BadPoint) none H) ∧ (okTwo rows x y = true → tied rows (iOf x) (iOf y) = true → E (.ref A.c_Twice) none H) ∧
  (okTwo rows x y = true → tied rows (iOf x) (iOf y) = false → ∀ H', WebAt A.c_Web H' p l ds (putR rows (iOf x).toNat (iOf y).toNat) → But ds H H' → Q .non H')
def spTake (A : Adr) : Sp := fun vs H Q E => ∃ (p l : Addr) (ds : List Addr) (rows : List (List Int)) (x y : V), vs = [.ref p, x, y] ∧ WebAt A.c_Web H p l ds rows ∧ Thing H x ∧ Thing H y ∧ Sym rows ∧
  (okTwo rows x y = false → E (.ref A.c_BadPoint) none H) ∧ (okTwo rows x y = true → tied rows (iOf x) (iOf y) = false → E (.ref A.c_NoTie) none H) ∧
  (okTwo rows x y = true → tied rows (iOf x) (iOf y) = true → ∀ H', WebAt A.c_Web H' p l ds (takeR rows (iOf x).toNat (iOf y).toNat) → But ds H H' → Q .non H')
theorem okTwo_ints {rows : List (List Int)} {x y : V} (h : okTwo rows x y = true) : ∃ i j : Nat, x = .int i ∧ y = .int j ∧ i < rows.length ∧ j < rows.length ∧ i ≠ j := by
  unfold okTwo at h
  simp only [Bool.and_eq_true, Bool.not_eq_true', decide_eq_false_iff_not] at h
  obtain ⟨h1, h2, h3⟩ := h
  obtain ⟨i, rfl, a1, a2⟩ := okPt_int h1
  obtain ⟨j, rfl, b1, b2⟩ := okPt_int h2
  refine ⟨i.toNat, j.toNat, by rw [Int.toNat_of_nonneg a1], by rw [Int.toNat_of_nonneg b1], a2, b2, fun z => h3 ?_⟩
  have : i = j := by omega
  rw [this]
section
variable {P : Program} {w : World} {K : PySem.W.Frag} {mg : Str → Option Value} {base : Heap} {A : Adr}
theorem ok_Web_put (T : Txt K mg A) : FnOk P w K mg base (L2.CX P w) 4 A.a_Web_put A.d_Web_put ["self", "one", "other"] (spPut A) := by
  refine T.F_Web_put.okX sc_Web_put (fun vs H Q E h => ?_) (fun cdv C outer s H vs Q E hr h => ?_)
  · obtain ⟨p, l, ds, rows, x, y, rfl, _⟩ := h
    rfl
  · obtain ⟨p, l, ds, rows, x, y, rfl, W, tx, ty, sy, small, k1, k2, k3⟩ := h
    have hu := hu_of hr
    refine ⟨_, (pss_cons (ps_if (pt_val (pe_meth (pv 0) T.cl_Web T.m_Web_has (ok_Web_has T) (hr.mono (by decide)) T.b_Web_has .nil (passes_call (E := E) (takes_of rfl rfl rfl rfl) fun _ _ _ _ z => z) (pa_cons (pv 1) (pa_cons (pv 2) pa_nil))))
    (pss_one (ps_raise rfl (takes_of rfl rfl rfl rfl) (pmk_own PySem.F.excBase_ValueError T.xTwice T.gTwice T.kTwice (raises_own T.bTwice T.tTwice) rfl)))
    pss_nil)
  (pss_cons (ps_dputJ hu (pe_ix ix_listJ (pe_fld (pv 0) rfl) (pv 1) (fun _ _ => rfl)) (pv 2) pe_bl rfl)
  (pss_one (ps_dputJ hu (pe_ix ix_listJ (pe_fld (pv 0) rfl) (pv 2) (fun _ _ => rfl)) (pv 1) pe_bl rfl)))), ?_⟩
    obtain ⟨⟨dx, h1⟩, h2, h3, h4, h5⟩ := id W
    simp [L2.start, and_assoc, h1, h2, T.cl_Web, T.n_Web__near, wf_near, spHas, web_ex W, tx, ty]
    refine ⟨fun ok => ?_, k1⟩
    cases ht : tied rows (iOf x) (iOf y) with
    | true => simpa [ht] using k2 ok ht
    | false =>
      obtain ⟨i, j, rfl, rfl, hi, hj, hij⟩ := okTwo_ints ok
      obtain ⟨d, b1, b2, b3⟩ := W.at hi
      obtain ⟨d', c1, c2, c3⟩ := W.at hj
      have nij : ¬ (j : Int) ∈ rows.getD i [] := by simpa [tied, iOf] using ht
      have nji : ¬ (i : Int) ∈ rows.getD j [] := fun z => nij ((sy i j hi hj).mpr z)
      have W1 := W.set (r := rows.getD i [] ++ [(j : Int)]) b1 hi
      have W2 := W1.set (r := rows.getD j [] ++ [(i : Int)]) c1 (by rw [List.length_set]; exact hj)
      have ndd : d' ≠ d := fun z => hij (nd_ix W.nd b1 (z ▸ c1))
      have l1 : (rowD (rows.getD i [])).length ≤ 100000 := by
        unfold rowD; rw [List.length_map, List.getD_eq_getElem?_getD, List.getElem?_eq_getElem hi]
        exact Nat.le_trans (small _ (List.getElem_mem hi)) (by decide)
      have l2 : (rowD (rows.getD j [])).length ≤ 100000 := by
        unfold rowD; rw [List.length_map, List.getD_eq_getElem?_getD, List.getElem?_eq_getElem hj]
        exact Nat.le_trans (small _ (List.getElem_mem hj)) (by decide)
      have g1 : (upd H d (.dK (rowD (rows.getD i [] ++ [(j : Int)])))) p = some (.ins A.c_Web dx (wf l)) := by rw [upd_ne (ne_of h1 b2 (by intro z; cases z))]; exact h1
      have g2 := W1.ls
      have g3 : (upd H d (.dK (rowD (rows.getD i [] ++ [(j : Int)])))) d' = some (.dK (rowD (rows.getD j []))) := by rw [upd_ne ndd]; exact c2
      have fin := k3 ok ht _ W2 ((But.upd (List.mem_of_getElem? b1)).updT (List.mem_of_getElem? c1))
      simp only [List.getD_eq_getElem?_getD] at *
      simp [and_assoc, ht, h1, h2, b1, b2, T.cl_Web, T.n_Web__near, wf_near, rowD_put nij, l1, g1, g2, c1, g3, rowD_put nji, l2]
      exact fin
end
end Jk

namespace Jk
open PySem L2 Evl
def spGrow (A : Adr) : Sp := fun vs H Q E => ∃ (p l : Addr) (ds : List Addr) (rows : List (List Int)), vs = [.ref p] ∧ WebAt A.c_Web H p l ds rows ∧ rows.length ≤ 1000 ∧
  (30 ≤ rows.length → E (.ref A.c_TooMany) none H) ∧ (rows.length < 30 → ∀ d H', H d = none → WebAt A.c_Web H' p l (ds ++ [d]) (rows ++ [[]]) → But [l] H H' → Q (.int (rows.length : Int)) H')
def spMany (A : Adr) : Sp := fun vs H Q _ => ∃ (p l : Addr) (ds : List Addr) (rows : List (List Int)), vs = [.ref p] ∧ WebAt A.c_Web H p l ds rows ∧ Q (.int (rows.length : Int)) H
def spBeside (A : Adr) : Sp := fun vs H Q E => ∃ (p l : Addr) (ds : List Addr) (rows : List (List Int)) (x : V), vs = [.ref p, x] ∧ WebAt A.c_Web H p l ds rows ∧ Thing H x ∧ (∀ r ∈ rows, r.length < 64) ∧
  (okPt rows x = false → E (.ref A.c_BadPoint) none H) ∧
  (okPt rows x = true → ∀ (ys : List Int) q H', ys.Perm (rows.getD (iOf x).toNat []) → ys.Pairwise (· ≤ ·) → H q = none → Ex H H' → H' q = some (.lst (ys.map V.int)) → Q (.ref q) H')
section
variable {P : Program} {w : World} {K : PySem.W.Frag} {mg : Str → Option Value} {base : Heap} {A : Adr}
theorem ok_Web_many (T : Txt K mg A) : FnOk P w K mg base CX0 1 A.a_Web_many A.d_Web_many ["self"] (spMany A) := by
  refine T.F_Web_many.ok sc_Web_many (fun vs H Q E h => ?_) (fun cdv C outer s H vs Q E hr h => ?_)
  · obtain ⟨p, l, ds, rows, rfl, _⟩ := h
    rfl
  · obtain ⟨p, l, ds, rows, rfl, W, k⟩ := h
    obtain ⟨⟨dx, h1⟩, h2, h3, h4, h5⟩ := id W
    refine ⟨_, (pss_one (ps_ret (pe_callB call_lenJ (by rfl) T.len (by decide +kernel) (pa_cons (pe_fld (pv 0) rfl) pa_nil)))), ?_⟩
    simpa [L2.start, and_assoc, h1, h2, T.cl_Web, T.n_Web__near, wf_near, h4] using k
end
end Jk

namespace Jk
open PySem L2 Evl
/-! ## comprehensions -/
def CompI (D : Addr) (H1 : Hp) (R : Nat → List V → Hp → Prop) (i : Nat) (H : Hp) : Prop := Ex H1 H ∧ ∃ acc, H D = some (.lst acc) ∧ acc.length ≤ 100000 ∧ R i acc H
theorem CompI.push {D : Addr} {H1 H4 : Hp} {R : Nat → List V → Hp → Prop} {i : Nat} {y : V} {acc : List V} (hD : H1 D = none) (e : Ex H1 H4) (ha : H4 D = some (.lst acc)) (hl : acc.length < 100000) (r : R (i + 1) (acc ++ [y]) (upd H4 D (.lst (acc ++ [y])))) :
    ∃ acc, H4 D = some (.lst acc) ∧ acc.length < sizeLine ∧ CompI D H1 R (i + 1) (upd H4 D (.lst (acc ++ [y]))) :=
  ⟨acc, ha, lt_line (by omega), Ex.mut e hD, _, upd_same, by rw [List.length_append]; exact hl, r⟩
def rowP (n i : Nat) : List (Int × Int) := (List.range (n - (i + 1))).map fun k => ((i : Int), ((i + 1 + k : Nat) : Int))
def pairsL (n : Nat) : List (Int × Int) := (List.range n).flatMap (rowP n)
theorem rows_len (n : Nat) : ∀ i : Nat, ((List.range i).flatMap (rowP n)).length ≤ i * n
  | 0 => by simp
  | i + 1 => by
    have ih := rows_len n i
    rw [List.range_succ, List.flatMap_append, List.length_append]
    have : ([i].flatMap (rowP n)).length ≤ n := by simp [rowP]
    have e : (i + 1) * n = i * n + n := Nat.succ_mul i n
    omega
theorem TupsAt.but {M : List Addr} {H H' : Hp} {ts : List Addr} {prs : List (Int × Int)} (h : TupsAt H ts prs) (e : But M H H') (n : ∀ t ∈ ts, t ∉ M) : TupsAt H' ts prs := ⟨h.1, fun k t p a b => e.kp _ _ (h.2 k t p a b) (n t (List.mem_of_getElem? a))⟩
def RetTups (prs : List (Int × Int)) (H : Hp) (Q : VK) : Prop := ∀ (ts : List Addr) q H', H q = none → Ex H H' → H' q = some (.lst (ts.map V.ref)) → TupsAt H' ts prs → Q (.ref q) H'
def spPairs : Sp := fun vs H Q _ => ∃ (n : Nat), vs = [.int (n : Int)] ∧ n ≤ 30 ∧ RetTups (pairsL n) H Q
section
variable {P : Program} {w : World} {K : PySem.W.Frag} {mg : Str → Option Value} {base : Heap} {A : Adr}
theorem ok_pairs (T : Txt K mg A) : FnOk P w K mg base CX0 1 A.a_pairs A.d_pairs ["many"] spPairs := by
  refine T.F_pairs.ok sc_pairs (fun vs H Q E h => ?_) (fun cdv C outer s H vs Q E hr h => ?_)
  · obtain ⟨n, rfl, _⟩ := h
    rfl
  · obtain ⟨n, rfl, hn, k⟩ := h
    refine ⟨_, (pss_one (ps_ret (pe_lc2 (own := [("one", 1), ("other", 2)]) (vs1 := [2]) rfl sc_pairs.nd (pi_range1 rfl T.range (pa_cons (pv 0) pa_nil)) (blkOk_by (own := [("one", 1), ("other", 2)]) (N := ["many", "one", "other"]) (sc := defScope s_pairs) (by decide +kernel)) (by decide) (fun _ _ _ _ _ => (pg_name (i := 1) sc_pairs.nd rfl (Or.inl rfl))) (fun _ _ _ _ _ => pts_nil) (fun _ _ _ _ _ => (pi_range2 rfl T.range (pa_cons (pe_op op_add (pv 1) pe_int) (pa_cons (pv 0) pa_nil)))) (fun _ _ _ _ _ => (pg_name (i := 2) sc_pairs.nd rfl (Or.inl rfl))) (fun _ _ _ _ _ => pts_nil) (fun _ _ _ _ _ => (pe_tupJ (pa_cons (pv 1) (pa_cons (pv 2) pa_nil))))))), ?_⟩
    let R : Nat → List V → Hp → Prop := fun i acc H' => ∃ ts : List Addr, acc = ts.map V.ref ∧ TupsAt H' ts ((List.range i).flatMap (rowP n))
    refine ⟨_, rfl, (n : Int), rfl, by omega, by omega, fun D hD => ⟨fun i m H' => m = n - i ∧ i ≤ n ∧ CompI D H R i H', ⟨n, by simp, Nat.zero_le _, Ex.new hD, [], upd_same, by simp, [], rfl, TupsAt.nil _⟩, ?_⟩⟩
    rintro i m H1 ⟨rfl, hi, c⟩
    by_cases hlt : i < n
    · refine .inr ⟨by show i < (n : Int).toNat; omega, CompI D H R (i + 1), fun H' p' => ⟨n - (i + 1), by omega, rfl, hlt, p'⟩, fun x H' y => ?_⟩
      obtain ⟨rfl, rfl⟩ := y
      let R2 : Nat → List V → Hp → Prop := fun j acc H' => ∃ ts : List Addr, acc = ts.map V.ref ∧ TupsAt H' ts ((List.range i).flatMap (rowP n) ++ (rowP n i).take j)
      refine ⟨rfl, ?_⟩
      refine ⟨_, rfl, _, _, rfl, rfl, _, rfl, _, _, rfl, ⟨by omega, by omega, by omega, by omega⟩, fun j m H' => m = (n - (i + 1)) - j ∧ j ≤ n - (i + 1) ∧ CompI D H R2 j H', ⟨n - (i + 1), by simp, Nat.zero_le _, ?_⟩, ?_⟩
      · obtain ⟨e, acc, h1, h2, ts, h3, h4⟩ := c
        exact ⟨e, acc, h1, h2, ts, h3, by simpa using h4⟩
      · rintro j m H2 ⟨rfl, hj, c2⟩
        by_cases hlt2 : j < n - (i + 1)
        · refine .inr ⟨by show j < ((n : Int) - (0 + (i : Int) + 1)).toNat; omega, CompI D H R2 (j + 1), fun H' p' => ⟨n - (i + 1) - (j + 1), by omega, rfl, hlt2, p'⟩, fun x H' y => ?_⟩
          obtain ⟨rfl, rfl⟩ := y
          obtain ⟨e, acc, h1, h2, ts, h3, h4⟩ := c2
          refine ⟨rfl, ?_⟩
          have e0 : (0 : Int) + (i : Int) + 1 + (j : Int) = ((i + 1 + j : Nat) : Int) := by omega
          have hat : (rowP n i).take (j + 1) = (rowP n i).take j ++ [((i : Int), ((i + 1 + j : Nat) : Int))] := by
            rw [List.take_add_one]
            congr 1
            have : (rowP n i)[j]? = some ((i : Int), ((i + 1 + j : Nat) : Int)) := by
              unfold rowP
              rw [List.getElem?_map, List.getElem?_range hlt2]
              rfl
            rw [this]; rfl
          have hlen : acc.length < 100000 := by
            have z := h4.1
            have z2 := rows_len n i
            rw [List.length_append] at z
            have z3 : ((rowP n i).take j).length ≤ n := by rw [List.length_take]; simp [rowP]; omega
            have z4 : i * n ≤ 30 * 30 := Nat.mul_le_mul (by omega) hn
            rw [h3, List.length_map]
            omega
          simp [L2.start, wipe, tYes]
          intro p H4 hp e4 hp4
          refine CompI.push (acc := acc) ?_ (e.trans e4) (e4 _ _ h1) hlen ?_
          · exact hD
          · refine ⟨ts ++ [p], by rw [h3, List.map_append]; rfl, ?_⟩
            rw [hat, ← List.append_assoc]
            have ne : p ≠ D := fun z => by rw [z, h1] at hp; cases hp
            refine TupsAt.snoc ((h4.up e4).upd (e4 _ _ h1)) ?_
            rw [upd_ne ne, hp4]
            simp
        · have ej : j = n - (i + 1) := by omega
          refine .inl ⟨by show ((n : Int) - (0 + (i : Int) + 1)).toNat ≤ j; omega, ?_⟩
          obtain ⟨e, acc, h1, h2, ts, h3, h4⟩ := c2
          refine ⟨e, acc, h1, h2, ts, h3, ?_⟩
          have z : (rowP n i).take j = rowP n i := List.take_of_length_le (by simp [rowP]; omega)
          rw [z] at h4
          rw [List.range_succ, List.flatMap_append]
          simpa using h4
    · have ei : i = n := by omega
      refine .inl ⟨by show (n : Int).toNat ≤ i; omega, ?_⟩
      obtain ⟨e, acc, h1, h2, ts, h3, h4⟩ := c
      subst ei
      subst h3
      exact k ts D H1 hD e h1 h4
def tiesL (rows : List (List Int)) : List (Int × Int) := (pairsL rows.length).filter fun p => tied rows p.1 p.2
def spTies (A : Adr) : Sp := fun vs H Q _ => ∃ (p l : Addr) (ds : List Addr) (rows : List (List Int)), vs = [.ref p] ∧ WebAt A.c_Web H p l ds rows ∧ rows.length ≤ 30 ∧ RetTups (tiesL rows) H Q
theorem pairs_in {n : Nat} {p : Int × Int} (h : p ∈ pairsL n) : ∃ i j : Nat, p = ((i : Int), (j : Int)) ∧ i < j ∧ j < n := by
  unfold pairsL rowP at h
  obtain ⟨i, hi, h⟩ := List.mem_flatMap.mp h
  obtain ⟨k, hk, rfl⟩ := List.mem_map.mp h
  have a := List.mem_range.mp hi
  have b := List.mem_range.mp hk
  exact ⟨i, i + 1 + k, rfl, by omega, by omega⟩
theorem ok_Web_ties (T : Txt K mg A) : FnOk P w K mg base CX0 2 A.a_Web_ties A.d_Web_ties ["self"] (spTies A) := by
  refine T.F_Web_ties.ok sc_Web_ties (fun vs H Q E h => ?_) (fun cdv C outer s H vs Q E hr h => ?_)
  · obtain ⟨p, l, ds, rows, rfl, _⟩ := h
    rfl
  · obtain ⟨p, l, ds, rows, rfl, W, h30, k⟩ := h
    have hu := hu_of hr
    refine ⟨_, (pss_one (ps_ret (pe_lc (own := [("one", 1), ("other", 2)]) rfl sc_Web_ties.nd (pi_list (pe_call (ok_pairs T) (hr.mono (by decide)) rfl T.g_pairs T.k_pairs T.b_pairs .nil pass0 (pa_cons (pe_meth0 (pv 0) T.cl_Web T.m_Web_many (ok_Web_many T) (hr.mono (by decide)) T.b_Web_many .nil pass0) pa_nil))) (blkOk_by (own := [("one", 1), ("other", 2)]) (N := ["self", "one", "other"]) (sc := defScope s_Web_ties) (by decide +kernel)) (fun _ _ _ _ _ => by exact (pg_tupJ (n := 2) rfl (pgs_cons (pg_name (i := 1) sc_Web_ties.nd rfl (Or.inl rfl)) (pgs_cons (pg_name (i := 2) sc_Web_ties.nd rfl (Or.inl rfl)) pgs_nil)))) (fun _ _ _ _ _ => by exact (pts_one (pt_cmp (pc_dinJ (by exact hu) (pv 2) (pe_ix ix_listJ (pe_fldK (K0 := K) (pv 0)) (pv 1) (fun _ _ => rfl)))))) (fun _ _ _ _ _ => by exact (pe_tupJ (pa_cons (pv 1) (pa_cons (pv 2) pa_nil))))))), ?_⟩
    obtain ⟨⟨dx, h1⟩, h2, h3, h4, h5⟩ := id W
    refine ⟨_, rfl, p, dx, wf l, rfl, h1, wf_many l, p, l, ds, rows, rfl, W, rows.length, rfl, h30, fun ts q H1 hq e hlq ht => ⟨q, rfl, ⟨_, .inl (.inl hlq)⟩, fun D hD => ?_⟩⟩
    have hqD : q ≠ D := fun z => by rw [z, hD] at hlq; cases hlq
    have W1 := W.up e
    refine lc_list (xs := ts.map V.ref) (CompI D H1 fun i acc H' => ∃ us : List Addr, acc = us.map V.ref ∧ TupsAt H' us (((pairsL rows.length).take i).filter fun p => tied rows p.1 p.2)) ⟨Ex.new hD, [], upd_same, by simp, [], rfl, TupsAt.nil _⟩ (fun i H' _ c => .inl (.inl (c.1 _ _ hlq))) (fun i x H' hx c => ?_) (fun H' c => ?_)
    · rw [List.getElem?_map] at hx
      cases ht0 : ts[i]? with
      | none => rw [ht0] at hx; cases hx
      | some t =>
        rw [ht0] at hx
        cases hx
        have hi : i < ts.length := (List.getElem?_eq_some_iff.mp ht0).1
        have hi' : i < (pairsL rows.length).length := by rw [← ht.1]; exact hi
        have hp0 : (pairsL rows.length)[i]? = some (pairsL rows.length)[i] := List.getElem?_eq_getElem hi'
        obtain ⟨m, n, hp, hmn, hnr⟩ := pairs_in (List.mem_of_getElem? hp0)
        have htup := ht.2 i t _ ht0 hp0
        rw [hp] at htup hp0
        obtain ⟨e2, acc, g1, g2, us, g3, g4⟩ := c
        have W2 := W1.up e2
        obtain ⟨⟨dx', w1⟩, w2, w3, w4, w5⟩ := id W2
        obtain ⟨d, b1, b2, b3⟩ := W2.at (show m < rows.length by omega)
        have hlen : acc.length < 100000 := by
          have z := g4.1
          have z1 := List.length_filter_le (fun p => tied rows p.1 p.2) ((pairsL rows.length).take i)
          have z2 := rows_len rows.length rows.length
          have z3 : rows.length * rows.length ≤ 30 * 30 := Nat.mul_le_mul h30 h30
          have z4 : ((pairsL rows.length).take i).length ≤ (pairsL rows.length).length := by rw [List.length_take]; omega
          have z5 : (pairsL rows.length).length ≤ rows.length * rows.length := z2
          rw [g3, List.length_map]; omega
        have step : (((pairsL rows.length).take (i + 1)).filter fun p => tied rows p.1 p.2) = (((pairsL rows.length).take i).filter fun p => tied rows p.1 p.2) ++ (if tied rows m n = true then [((m : Int), (n : Int))] else []) := by
          rw [List.take_add_one, hp0, List.filter_append]
          simp [List.filter_cons]
        simp only [List.getD_eq_getElem?_getD] at b2
        simp [L2.start, wipe, and_assoc, e2 _ _ htup, w1, w2, b1, b2, T.cl_Web, T.n_Web__near, wf_near, rowD_val]
        have td : tied rows m n = decide ((n : Int) ∈ rows[m]?.getD []) := by simp [tied]
        by_cases hm : (n : Int) ∈ rows[m]?.getD []
        · refine .inr ⟨hm, fun p H3 hp3 e3 hq3 => ?_⟩
          have ne : p ≠ D := fun z => by rw [z, g1] at hp3; cases hp3
          refine CompI.push hD (e2.trans e3) (e3 _ _ g1) hlen ⟨us ++ [p], by rw [g3, List.map_append]; rfl, ?_⟩
          rw [step, td, if_pos (decide_eq_true hm)]
          refine TupsAt.snoc ((g4.up e3).upd (e3 _ _ g1)) ?_
          rw [upd_ne ne, hq3]
        · refine .inl ⟨hm, e2, acc, g1, g2, us, g3, ?_⟩
          rw [step, td, if_neg (by simp [hm]), List.append_nil]
          exact g4
    · obtain ⟨e2, acc, g1, g2, us, g3, g4⟩ := c
      subst g3
      rw [List.length_map, ht.1, List.take_length] at g4
      have nq : H D = none := by
        cases z : H D with
        | none => rfl
        | some o => rw [e _ _ z] at hD; cases hD
      exact k us D H' nq (e.trans e2) g1 g4
end
end Jk

namespace Jk
open PySem L2 Evl
def spInit (A : Adr) : Sp := fun vs H Q E => ∃ (p dx : Addr) (x : V), vs = [.ref p, x] ∧ H p = some (.ins A.c_Web dx []) ∧ Thing H x ∧
  (inR x 1 30 = false → E (.ref A.c_BadSize) none H) ∧
  (inR x 1 30 = true → ∀ l ds H', WebAt A.c_Web H' p l ds (List.replicate (iOf x).toNat []) → But [p] H H' → H l = none → (∀ d ∈ ds, H d = none) → Q .non H')
section
variable {P : Program} {w : World} {K : PySem.W.Frag} {mg : Str → Option Value} {base : Heap} {A : Adr}
theorem ok_Web_init (T : Txt K mg A) : FnOk P w K mg base (L2.CX P w) 2 A.a_Web_init A.d_Web_init ["self", "many"] (spInit A) := by
  refine T.F_Web_init.okX sc_Web_init (fun vs H Q E h => ?_) (fun cdv C outer s H vs Q E hr h => ?_)
  · obtain ⟨p, dx, x, rfl, _⟩ := h
    rfl
  · obtain ⟨p, dx, x, rfl, h1, tx, k1, k2⟩ := h
    refine ⟨_, (pss_cons (ps_if (pt_not (pt_val (pe_call (ok_whole_within T) (hr.mono (by decide)) rfl T.g_whole_within T.k_whole_within T.b_whole_within .nil pass0 (pa_cons (pv 1) (pa_cons pe_int (pa_cons (pe_glob (v := .int 30) rfl T.cMOST_POINTS.choose_spec ⟨_, rfl⟩) pa_nil))))))
    (pss_one (ps_raise rfl (takes_of rfl rfl rfl rfl) (pmk_own PySem.F.excBase_ValueError T.xBadSize T.gBadSize T.kBadSize (raises_own T.bBadSize T.tBadSize) rfl)))
    pss_nil)
  (pss_one (ps_fld (pv 0) (pe_lc (own := [("point", 2)]) rfl sc_Web_init.nd (pi_range1 rfl T.range (pa_cons (pv 1) pa_nil)) (blkOk_by (own := [("point", 2)]) (N := ["self", "many", "point"]) (sc := defScope s_Web_init) (by decide +kernel)) (fun _ _ _ _ _ => by exact (pg_name (i := 2) sc_Web_init.nd rfl (Or.inl rfl))) (fun _ _ _ _ _ => by exact pts_nil) (fun _ _ _ _ _ => by exact pe_dictJ)) rfl))), ?_⟩
    simp [L2.start, and_assoc, spWhole, tx]
    cases hx : inR x 1 30 with
    | false => simpa using k1 hx
    | true =>
      obtain ⟨i, rfl, i1, i30⟩ : ∃ i, x = .int i ∧ 1 ≤ i ∧ i ≤ 30 := by
        cases x with
        | int i => simp [inR] at hx; exact ⟨i, rfl, hx.1, hx.2⟩
        | _ => cases hx
      simp
      refine ⟨_, rfl, i, rfl, by omega, by omega, fun D hD => ?_⟩
      refine lc_range (lo := 0) (n := i.toNat) (CompI D H fun k acc H' => ∃ ds : List Addr, acc = ds.map V.ref ∧ ds.length = k ∧ ds.Nodup ∧ ∀ d ∈ ds, H' d = some (.dK []) ∧ H d = none) ⟨Ex.new hD, [], upd_same, by simp, [], rfl, rfl, List.nodup_nil, fun d z => nomatch z⟩ (fun k H' hk c => ?_) (fun H' c => ?_)
      · obtain ⟨e, acc, g1, g2, ds, g3, g4, g5, g6⟩ := c
        simp [wipe, tYes]
        intro d H2 hd e2 hd2
        have ne : d ≠ D := fun z => by rw [z, g1] at hd; cases hd
        refine CompI.push hD (e.trans e2) (e2 _ _ g1) (by rw [g3, List.length_map]; omega) ⟨ds ++ [d], by rw [g3, List.map_append]; rfl, by rw [List.length_append, g4]; rfl, nd_snoc g5 (fun z => by rw [(g6 d z).1] at hd; cases hd), fun d' z => ?_⟩
        rcases List.mem_append.mp z with z | z
        · have y := e2 _ _ (g6 d' z).1
          rw [upd_ne (ne_of y (e2 _ _ g1) (by intro q; cases q))]
          exact ⟨y, (g6 d' z).2⟩
        · have z' : d' = d := by simpa using z
          subst z'
          rw [upd_ne ne]
          exact ⟨hd2, fresh_back e hd⟩
      · obtain ⟨e, acc, g1, g2, ds, g3, g4, g5, g6⟩ := c
        have hp := e _ _ h1
        subst g3
        simp [and_assoc, hp, T.cl_Web, T.n_Web__near]
        have npD : D ≠ p := fun z => by rw [z, h1] at hD; cases hD
        refine k2 hx D ds _ ⟨⟨dx, upd_same⟩, by rw [upd_ne npD]; exact g1, g5, by rw [List.length_replicate, g4]; rfl, fun k d r a b => ?_⟩ ((But.of_ex e).updT (by simp)) hD (fun d z => (g6 d z).2)
        have hd := g6 d (List.mem_of_getElem? a)
        have er : r = [] := by
          have := List.mem_of_getElem? b
          exact (List.mem_replicate.mp this).2
        subst er
        rw [upd_ne (ne_of hd.1 hp (by intro z; cases z))]
        exact hd.1
end
end Jk

namespace Jk
open PySem L2 Evl
/-! ## the class of a refusal -/
section
variable {K : PySem.W.Frag} {σ : L2.St} {H : Hp} {ta tb : TE}
theorem el_lstJ {tr : TA} {vs : List V} (h : EvA tr σ H vs) (hl : vs.length ≤ 1000) : EvL (jLst tr) σ H vs := fun H1 e Q q =>
  h H1 e _ fun H2 e2 => ⟨hl, fun p H3 hp e3 h3 => q p H3 (fresh_back e2 hp) (e2.trans e3) h3⟩
theorem el_catJ {xs ys : List V} (ha : EvL ta σ H xs) (hb : EvL tb σ H ys) (z : xs.length + ys.length ≤ 100000) : EvL (tOp jCat ta tb) σ H (xs ++ ys) := fun H1 e Q q =>
  ha H1 e _ fun p H2 hp e2 h2 => hb H2 (e.trans e2) _ fun r H3 hr e3 h3 => ⟨p, r, xs, ys, rfl, rfl, e3 _ _ h2, h3, z, fun l H4 hl e4 h4 => q l H4 (fresh_back (e2.trans e3) hl) ((e2.trans e3).trans e4) h4⟩
theorem el_catV {p : Addr} {xs ys : List V} (ha : Ev ta σ H (.ref p)) (hx : H p = some (.lst xs)) (hb : EvL tb σ H ys) (z : xs.length + ys.length ≤ 100000) : EvL (tOp jCat ta tb) σ H (xs ++ ys) := fun H1 e Q q =>
  ha H1 e _ fun H2 e2 => hb H2 (e.trans e2) _ fun r H3 hr e3 h3 => ⟨p, r, xs, ys, rfl, rfl, ((e.trans e2).trans e3) _ _ hx, h3, z, fun l H4 hl e4 h4 => q l H4 (fresh_back (e2.trans e3) hl) ((e2.trans e3).trans e4) h4⟩
theorem el_repJ {xs : List V} {k : Int} (ha : EvL ta σ H xs) (hb : Ev tb σ H (.int k)) (h0 : 0 ≤ k ∧ k ≤ 1000) (z : xs.length ≤ 1000) : EvL (tOp jRep ta tb) σ H (List.replicate k.toNat xs).flatten := fun H1 e Q q =>
  ha H1 e _ fun p H2 hp e2 h2 => hb H2 (e.trans e2) _ fun H3 e3 => ⟨p, k, xs, rfl, rfl, e3 _ _ h2, h0.1, h0.2, z, fun l H4 hl e4 h4 => q l H4 (fresh_back (e2.trans e3) hl) ((e2.trans e3).trans e4) h4⟩
def rInt1 : List V → Hp → VK → Prop := fun xs H Q => (∃ i, xs = [.int i] ∧ Q (.int i) H) ∨ ∃ k, xs = [.bl k] ∧ Q (.int (if k then 1 else 0)) H
theorem ev_intb {b : Bool} (h : Ev ta σ H (.bl b)) : Ev (tCB rInt1 (tCons ta tNil)) σ H (.int (if b then 1 else 0)) := fun H1 e Q q =>
  h H1 e _ fun H2 e2 => .inr ⟨b, rfl, q H2 e2⟩
theorem ev_isX {a D : Addr} {c : V} {cv : Value} {b : Bool} (h0 : σ[0]? = some (some (.ref a))) (ha : H a = some (ExK (.ref D) none a)) (ec : ExcC K D) (hc : ClsV c cv) (hk : PySem.W.kitOne K (.ref D) cv = some b) :
    Ev (tCB (rIsX K) (tCons (tVar 0) (tCons (tC c) tNil))) σ H (.bl b) := fun H1 e Q q => ⟨_, h0, a, D, c, cv, b, rfl, e _ _ ha, ec, hc, hk, q H1 (Ex.refl H1)⟩
def pcV (w : Str) (b : Bool) : List V := if b then [.str w] else []
def pc (w : Str) (b : Bool) : List Str := if b then [w] else []
theorem pcV_eq (w : Str) (b : Bool) : pcV w b = (pc w b).map V.str := by cases b <;> rfl
theorem pcV_len (w : Str) (b : Bool) : (pcV w b).length ≤ 1 := by cases b <;> simp [pcV]
theorem el_piece {w : Str} {b : Bool} (h : Ev ta σ H (.bl b)) : EvL (tOp jRep (jLst (tCons (tC (.str w)) tNil)) (tCB rInt1 (tCons ta tNil))) σ H (pcV w b) := by
  have z := el_repJ (el_lstJ (ea_cons (ev_c (v := .str w)) ea_nil) (by simp)) (ev_intb h) (by cases b <;> simp) (by simp)
  cases b <;> simpa [pcV] using z
end
def kinds (A : Adr) : List (Addr × Str) := [(A.c_BadSize, "size"), (A.c_BadPoint, "point"), (A.c_Twice, "twice"), (A.c_BadTree, "tree")]
def spKind (A : Adr) : Sp := fun vs H Q _ => ∃ (a D : Addr) (z : Str), vs = [.ref a] ∧ H a = some (ExK (.ref D) none a) ∧ (D, z) ∈ kinds A ∧ ∀ H', Ex H H' → Q (.str z) H'
section
variable {P : Program} {w : World} {K : PySem.W.Frag} {mg : Str → Option Value} {base : Heap} {A : Adr}
def allPc (b1 b2 b3 b4 b5 b6 b7 b8 b9 : Bool) : List Str := ((((((((pc "size" b1 ++ pc "point" b2) ++ pc "twice" b3) ++ pc "no tie" b4) ++ pc "many" b5) ++ pc "row" b6) ++ pc "tree" b7) ++ pc "text" b8) ++ pc "base" (!b9))
structure Asked (K : PySem.W.Frag) (A : Adr) (D : Addr) (z : Str) (b1 b2 b3 b4 b5 b6 b7 b8 b9 : Bool) : Prop where
  ec : ExcC K D
  h1 : PySem.W.kitOne K (.ref D) (.ref A.c_BadSize) = some b1
  h2 : PySem.W.kitOne K (.ref D) (.ref A.c_BadPoint) = some b2
  h3 : PySem.W.kitOne K (.ref D) (.ref A.c_Twice) = some b3
  h4 : PySem.W.kitOne K (.ref D) (.ref A.c_NoTie) = some b4
  h5 : PySem.W.kitOne K (.ref D) (.ref A.c_TooMany) = some b5
  h6 : PySem.W.kitOne K (.ref D) (.ref A.c_NoTree) = some b6
  h7 : PySem.W.kitOne K (.ref D) (.ref A.c_BadTree) = some b7
  h8 : PySem.W.kitOne K (.ref D) (.ref A.c_BadText) = some b8
  h9 : PySem.W.kitOne K (.ref D) (.type "ValueError") = some b9
  all : Txt.join "/" (allPc b1 b2 b3 b4 b5 b6 b7 b8 b9) = z
  len : ((allPc b1 b2 b3 b4 b5 b6 b7 b8 b9).map (fun y => y.length)).sum + (allPc b1 b2 b3 b4 b5 b6 b7 b8 b9).length ≤ 1000
theorem asked_of (T : Txt K mg A) {D : Addr} {z : Str} (h : (D, z) ∈ kinds A) : ∃ b1 b2 b3 b4 b5 b6 b7 b8 b9, Asked K A D z b1 b2 b3 b4 b5 b6 b7 b8 b9 := by
  unfold kinds at h
  simp only [List.mem_cons, Prod.mk.injEq, List.not_mem_nil, or_false] at h
  rcases h with ⟨rfl, rfl⟩ | ⟨rfl, rfl⟩ | ⟨rfl, rfl⟩ | ⟨rfl, rfl⟩
  · exact ⟨_, _, _, _, _, _, _, _, _, T.ec_BadSize, T.is_BadSize_BadSize, T.is_BadSize_BadPoint, T.is_BadSize_Twice, T.is_BadSize_NoTie, T.is_BadSize_TooMany, T.is_BadSize_NoTree, T.is_BadSize_BadTree, T.is_BadSize_BadText, T.is_BadSize_ValueError, by decide +kernel, by decide +kernel⟩
  · exact ⟨_, _, _, _, _, _, _, _, _, T.ec_BadPoint, T.is_BadPoint_BadSize, T.is_BadPoint_BadPoint, T.is_BadPoint_Twice, T.is_BadPoint_NoTie, T.is_BadPoint_TooMany, T.is_BadPoint_NoTree, T.is_BadPoint_BadTree, T.is_BadPoint_BadText, T.is_BadPoint_ValueError, by decide +kernel, by decide +kernel⟩
  · exact ⟨_, _, _, _, _, _, _, _, _, T.ec_Twice, T.is_Twice_BadSize, T.is_Twice_BadPoint, T.is_Twice_Twice, T.is_Twice_NoTie, T.is_Twice_TooMany, T.is_Twice_NoTree, T.is_Twice_BadTree, T.is_Twice_BadText, T.is_Twice_ValueError, by decide +kernel, by decide +kernel⟩
  · exact ⟨_, _, _, _, _, _, _, _, _, T.ec_BadTree, T.is_BadTree_BadSize, T.is_BadTree_BadPoint, T.is_BadTree_Twice, T.is_BadTree_NoTie, T.is_BadTree_TooMany, T.is_BadTree_NoTree, T.is_BadTree_BadTree, T.is_BadTree_BadText, T.is_BadTree_ValueError, by decide +kernel, by decide +kernel⟩
theorem ok_l_kind (T : Txt K mg A) : FnOk P w K mg base CX0 1 A.a_l_kind A.d_l_kind ["_law_e"] (spKind A) := by
  refine T.F_l_kind.ok sc_l_kind (fun vs H Q E h => ?_) (fun cdv C outer s H vs Q E hr h => ?_)
  · obtain ⟨a, D, z, rfl, _⟩ := h
    rfl
  · obtain ⟨a, D, z, rfl, ha, hm, k⟩ := h
    obtain ⟨b1, b2, b3, b4, b5, b6, b7, b8, b9, S⟩ := asked_of T hm
    refine ⟨_, (pss_cons (ps_set (i := 1) sc_l_kind.nd rfl (Or.inl rfl) (pe_op op_catJ (pe_op op_repJ (pe_lstJ (pa_cons pe_str pa_nil)) (pe_callTy call_int1 (by rfl) T.int (by decide +kernel) (pa_cons (pe_callB call_isX (by rfl) T.isinstance (by decide +kernel) (pa_cons (pv 0) (pa_cons (pe_glob (v := .ref A.c_BadSize) rfl T.gBadSize rfl) pa_nil))) pa_nil))) (pe_op op_repJ (pe_lstJ (pa_cons pe_str pa_nil)) (pe_callTy call_int1 (by rfl) T.int (by decide +kernel) (pa_cons (pe_callB call_isX (by rfl) T.isinstance (by decide +kernel) (pa_cons (pv 0) (pa_cons (pe_glob (v := .ref A.c_BadPoint) rfl T.gBadPoint rfl) pa_nil))) pa_nil)))))
  (pss_cons (ps_set (i := 1) sc_l_kind.nd rfl (Or.inl rfl) (pe_op op_catJ (pe_op op_catJ (pv 1) (pe_op op_repJ (pe_lstJ (pa_cons pe_str pa_nil)) (pe_callTy call_int1 (by rfl) T.int (by decide +kernel) (pa_cons (pe_callB call_isX (by rfl) T.isinstance (by decide +kernel) (pa_cons (pv 0) (pa_cons (pe_glob (v := .ref A.c_Twice) rfl T.gTwice rfl) pa_nil))) pa_nil)))) (pe_op op_repJ (pe_lstJ (pa_cons pe_str pa_nil)) (pe_callTy call_int1 (by rfl) T.int (by decide +kernel) (pa_cons (pe_callB call_isX (by rfl) T.isinstance (by decide +kernel) (pa_cons (pv 0) (pa_cons (pe_glob (v := .ref A.c_NoTie) rfl T.gNoTie rfl) pa_nil))) pa_nil)))))
  (pss_cons (ps_set (i := 1) sc_l_kind.nd rfl (Or.inl rfl) (pe_op op_catJ (pe_op op_catJ (pv 1) (pe_op op_repJ (pe_lstJ (pa_cons pe_str pa_nil)) (pe_callTy call_int1 (by rfl) T.int (by decide +kernel) (pa_cons (pe_callB call_isX (by rfl) T.isinstance (by decide +kernel) (pa_cons (pv 0) (pa_cons (pe_glob (v := .ref A.c_TooMany) rfl T.gTooMany rfl) pa_nil))) pa_nil)))) (pe_op op_repJ (pe_lstJ (pa_cons pe_str pa_nil)) (pe_callTy call_int1 (by rfl) T.int (by decide +kernel) (pa_cons (pe_callB call_isX (by rfl) T.isinstance (by decide +kernel) (pa_cons (pv 0) (pa_cons (pe_glob (v := .ref A.c_NoTree) rfl T.gNoTree rfl) pa_nil))) pa_nil)))))
  (pss_cons (ps_set (i := 1) sc_l_kind.nd rfl (Or.inl rfl) (pe_op op_catJ (pe_op op_catJ (pv 1) (pe_op op_repJ (pe_lstJ (pa_cons pe_str pa_nil)) (pe_callTy call_int1 (by rfl) T.int (by decide +kernel) (pa_cons (pe_callB call_isX (by rfl) T.isinstance (by decide +kernel) (pa_cons (pv 0) (pa_cons (pe_glob (v := .ref A.c_BadTree) rfl T.gBadTree rfl) pa_nil))) pa_nil)))) (pe_op op_repJ (pe_lstJ (pa_cons pe_str pa_nil)) (pe_callTy call_int1 (by rfl) T.int (by decide +kernel) (pa_cons (pe_callB call_isX (by rfl) T.isinstance (by decide +kernel) (pa_cons (pv 0) (pa_cons (pe_glob (v := .ref A.c_BadText) rfl T.gBadText rfl) pa_nil))) pa_nil)))))
  (pss_one (ps_ret (pe_join pe_str (pe_op op_catJ (pv 1) (pe_op op_repJ (pe_lstJ (pa_cons pe_str pa_nil)) (pe_callTy call_int1 (by rfl) T.int (by decide +kernel) (pa_cons (pe_not (pe_callB call_isX (by rfl) T.isinstance (by decide +kernel) (pa_cons (pv 0) (pa_cons (pe_bltn (v := .ty "ValueError") (u := .type "ValueError") (by rfl) T.ValueError (by decide +kernel) rfl) pa_nil)))) pa_nil))))))))))), ?_⟩
    refine q_asgL (el_catJ (el_piece (ev_isX rfl ha S.ec (.own _) S.h1)) (el_piece (ev_isX rfl ha S.ec (.own _) S.h2)) ?_) (fun p1 H1 n1 e1 g1 => ?_)
    · have := pcV_len "size" b1; have := pcV_len "point" b2; omega
    have a1 := e1 _ _ ha
    have l1 : ∀ (w : Str) (b : Bool), (pcV w b).length ≤ 1 := pcV_len
    refine q_asgL (el_catJ (el_catV (ev_var rfl) g1 (el_piece (ev_isX rfl a1 S.ec (.own _) S.h3)) ?_) (el_piece (ev_isX rfl a1 S.ec (.own _) S.h4)) ?_) (fun p2 H2 n2 e2 g2 => ?_)
    · simp only [List.length_append]; have := l1 "size" b1; have := l1 "point" b2; have := l1 "twice" b3; omega
    · simp only [List.length_append]; have := l1 "size" b1; have := l1 "point" b2; have := l1 "twice" b3; have := l1 "no tie" b4; omega
    have a2 := e2 _ _ a1
    refine q_asgL (el_catJ (el_catV (ev_var rfl) g2 (el_piece (ev_isX rfl a2 S.ec (.own _) S.h5)) ?_) (el_piece (ev_isX rfl a2 S.ec (.own _) S.h6)) ?_) (fun p3 H3 n3 e3 g3 => ?_)
    · simp only [List.length_append]; have := l1 "size" b1; have := l1 "point" b2; have := l1 "twice" b3; have := l1 "no tie" b4; have := l1 "many" b5; omega
    · simp only [List.length_append]; have := l1 "size" b1; have := l1 "point" b2; have := l1 "twice" b3; have := l1 "no tie" b4; have := l1 "many" b5; have := l1 "row" b6; omega
    have a3 := e3 _ _ a2
    refine q_asgL (el_catJ (el_catV (ev_var rfl) g3 (el_piece (ev_isX rfl a3 S.ec (.own _) S.h7)) ?_) (el_piece (ev_isX rfl a3 S.ec (.own _) S.h8)) ?_) (fun p4 H4 n4 e4 g4 => ?_)
    · simp only [List.length_append]; have := l1 "size" b1; have := l1 "point" b2; have := l1 "twice" b3; have := l1 "no tie" b4; have := l1 "many" b5; have := l1 "row" b6; have := l1 "tree" b7; omega
    · simp only [List.length_append]; have := l1 "size" b1; have := l1 "point" b2; have := l1 "twice" b3; have := l1 "no tie" b4; have := l1 "many" b5; have := l1 "row" b6; have := l1 "tree" b7; have := l1 "text" b8; omega
    have a4 := e4 _ _ a3
    refine ⟨⟨_, rfl⟩, el_catV (ev_var rfl) g4 (el_piece (ev_notV (ev_isX rfl a4 S.ec (.ty _) S.h9))) ?_ H4 (Ex.refl _) _ fun p5 H5 n5 e5 g5 => ?_⟩
    · simp only [List.length_append]; have := l1 "size" b1; have := l1 "point" b2; have := l1 "twice" b3; have := l1 "no tie" b4; have := l1 "many" b5; have := l1 "row" b6; have := l1 "tree" b7; have := l1 "text" b8; have := l1 "base" (!b9); omega
    refine ⟨"/", p5, allPc b1 b2 b3 b4 b5 b6 b7 b8 b9, rfl, rfl, .inl (.inl (.inl ?_)), ?_, ?_⟩
    · rw [g5]
      simp only [allPc, List.map_append, pcV_eq]
    · have := S.len
      have e : (Str.ofString "/").length = 1 := by decide +kernel
      rw [e, Nat.mul_one]
      exact Nat.le_trans this (by decide)
    · rw [S.all]
      exact k _ ((((e1.trans e2).trans e3).trans e4).trans e5)
end
end Jk

namespace Jk
open PySem L2 Evl
/-! ## webs and ties, as they are counted -/
theorem getD_set (rows : List (List Int)) (i k : Nat) (x : List Int) (hi : i < rows.length) : (rows.set i x).getD k [] = if k = i then x else rows.getD k [] := by
  by_cases h : k = i
  · subst h
    rw [if_pos rfl, List.getD_eq_getElem?_getD, List.getElem?_set_self hi]; rfl
  · rw [if_neg h, List.getD_eq_getElem?_getD, List.getElem?_set_ne (Ne.symm h), ← List.getD_eq_getElem?_getD]
theorem getD_mem {rows : List (List Int)} {i : Nat} (h : i < rows.length) : rows.getD i [] ∈ rows := by
  rw [List.getD_eq_getElem?_getD, List.getElem?_eq_getElem h]
  exact List.getElem_mem h
theorem getD_far {rows : List (List Int)} {i : Nat} (h : ¬ i < rows.length) : rows.getD i [] = [] := by
  rw [List.getD_eq_getElem?_getD, List.getElem?_eq_none (by omega)]; rfl
structure Good (rows : List (List Int)) : Prop where
  one : 1 ≤ rows.length
  few : rows.length ≤ 30
  sy : Sym rows
  nd : ∀ i : Nat, (rows.getD i []).Nodup
  rng : ∀ (i : Nat) (j : Int), j ∈ rows.getD i [] → 0 ≤ j ∧ j < rows.length
  irr : ∀ i : Nat, ¬ (i : Int) ∈ rows.getD i []
def tN (rows : List (List Int)) (i j : Nat) : Prop := (j : Int) ∈ rows.getD i []
theorem tied_iff (rows : List (List Int)) (i j : Nat) : tied rows i j = true ↔ tN rows i j := by
  unfold tied tN
  rw [decide_eq_true_iff]
  rfl
theorem len_putR (rows : List (List Int)) (i j : Nat) : (putR rows i j).length = rows.length := by unfold putR; rw [List.length_set, List.length_set]
theorem len_takeR (rows : List (List Int)) (i j : Nat) : (takeR rows i j).length = rows.length := by unfold takeR; rw [List.length_set, List.length_set]
theorem putR_at (rows : List (List Int)) (i j k : Nat) (hi : i < rows.length) (hj : j < rows.length) : (putR rows i j).getD k [] = if k = j then rows.getD j [] ++ [(i : Int)] else if k = i then rows.getD i [] ++ [(j : Int)] else rows.getD k [] := by
  unfold putR
  rw [getD_set _ _ _ _ (by rw [List.length_set]; exact hj), getD_set _ _ _ _ hi]
theorem takeR_at (rows : List (List Int)) (i j k : Nat) (hi : i < rows.length) (hj : j < rows.length) : (takeR rows i j).getD k [] = if k = j then (rows.getD j []).filter (fun z => decide (z ≠ (i : Int))) else if k = i then (rows.getD i []).filter (fun z => decide (z ≠ (j : Int))) else rows.getD k [] := by
  unfold takeR
  rw [getD_set _ _ _ _ (by rw [List.length_set]; exact hj), getD_set _ _ _ _ hi]
theorem tN_put {rows : List (List Int)} {i j : Nat} (hi : i < rows.length) (hj : j < rows.length) (hij : i ≠ j) (a b : Nat) : tN (putR rows i j) a b ↔ tN rows a b ∨ (a = i ∧ b = j) ∨ (a = j ∧ b = i) := by
  unfold tN
  rw [putR_at _ _ _ _ hi hj]
  by_cases h1 : a = j
  · subst h1
    rw [if_pos rfl, List.mem_append, List.mem_singleton]
    constructor
    · rintro (h | h)
      · exact .inl h
      · exact .inr (.inr ⟨rfl, by omega⟩)
    · rintro (h | ⟨h, _⟩ | ⟨_, h⟩)
      · exact .inl h
      · exact absurd h.symm hij
      · exact .inr (by omega)
  · rw [if_neg h1]
    by_cases h2 : a = i
    · subst h2
      rw [if_pos rfl, List.mem_append, List.mem_singleton]
      constructor
      · rintro (h | h)
        · exact .inl h
        · exact .inr (.inl ⟨rfl, by omega⟩)
      · rintro (h | ⟨_, h⟩ | ⟨h, _⟩)
        · exact .inl h
        · exact .inr (by omega)
        · exact absurd h h1
    · rw [if_neg h2]
      constructor
      · exact .inl
      · rintro (h | ⟨h, _⟩ | ⟨h, _⟩)
        · exact h
        · exact absurd h h2
        · exact absurd h h1
theorem tN_take {rows : List (List Int)} {i j : Nat} (hi : i < rows.length) (hj : j < rows.length) (hij : i ≠ j) (a b : Nat) : tN (takeR rows i j) a b ↔ tN rows a b ∧ ¬ (a = i ∧ b = j) ∧ ¬ (a = j ∧ b = i) := by
  unfold tN
  rw [takeR_at _ _ _ _ hi hj]
  by_cases h1 : a = j
  · subst h1
    rw [if_pos rfl, List.mem_filter, decide_eq_true_iff]
    constructor
    · rintro ⟨h, h'⟩
      exact ⟨h, fun ⟨q, _⟩ => hij q.symm, fun ⟨_, q⟩ => h' (by omega)⟩
    · rintro ⟨h, _, h'⟩
      exact ⟨h, fun q => h' ⟨rfl, by omega⟩⟩
  · rw [if_neg h1]
    by_cases h2 : a = i
    · subst h2
      rw [if_pos rfl, List.mem_filter, decide_eq_true_iff]
      constructor
      · rintro ⟨h, h'⟩
        exact ⟨h, fun ⟨_, q⟩ => h' (by omega), fun ⟨q, _⟩ => h1 q⟩
      · rintro ⟨h, h', _⟩
        exact ⟨h, fun q => h' ⟨rfl, by omega⟩⟩
    · rw [if_neg h2]
      exact ⟨fun h => ⟨h, fun ⟨q, _⟩ => h2 q, fun ⟨q, _⟩ => h1 q⟩, fun h => h.1⟩
theorem nd_add {l : List Int} {x : Int} (h : l.Nodup) (hx : ¬ x ∈ l) : (l ++ [x]).Nodup := nd_snoc h hx
theorem Good.lt {rows : List (List Int)} (G : Good rows) {i j : Nat} (h : tN rows i j) : i < rows.length ∧ j < rows.length := by
  have hi : i < rows.length := by
    by_cases q : i < rows.length
    · exact q
    · unfold tN at h; rw [getD_far q] at h; cases h
  have := (G.rng i j h).2
  exact ⟨hi, by omega⟩
theorem Good.symm {rows : List (List Int)} (G : Good rows) {i j : Nat} (h : tN rows i j) : tN rows j i := (G.sy i j (G.lt h).1 (G.lt h).2).mp h
theorem good_put {rows : List (List Int)} (G : Good rows) {i j : Nat} (hi : i < rows.length) (hj : j < rows.length) (hij : i ≠ j) (h : ¬ tN rows i j) : Good (putR rows i j) := by
  have h' : ¬ tN rows j i := fun z => h (G.symm z)
  refine ⟨by rw [len_putR]; exact G.one, by rw [len_putR]; exact G.few, fun a b ha hb => ?_, fun a => ?_, fun a b hb => ?_, fun a ha => ?_⟩
  · show tN _ a b ↔ tN _ b a
    rw [len_putR] at ha hb
    rw [tN_put hi hj hij, tN_put hi hj hij]
    have := G.sy a b ha hb
    have t : tN rows a b ↔ tN rows b a := this
    rw [t]
    constructor <;> rintro (q | ⟨q, r⟩ | ⟨q, r⟩) <;> first | exact .inl q | exact .inr (.inl ⟨r, q⟩) | exact .inr (.inr ⟨r, q⟩)
  · rw [putR_at _ _ _ _ hi hj]
    split
    · exact nd_add (G.nd j) h'
    · split
      · exact nd_add (G.nd i) h
      · exact G.nd a
  · rw [len_putR]
    rw [putR_at _ _ _ _ hi hj] at hb
    split at hb
    · rcases List.mem_append.mp hb with q | q
      · exact G.rng j b q
      · have : b = (i : Int) := by simpa using q
        omega
    · split at hb
      · rcases List.mem_append.mp hb with q | q
        · exact G.rng i b q
        · have : b = (j : Int) := by simpa using q
          omega
      · exact G.rng a b hb
  · have ha' : tN (putR rows i j) a a := ha
    rw [tN_put hi hj hij] at ha'
    rcases ha' with q | ⟨q, r⟩ | ⟨q, r⟩
    · exact G.irr a q
    · exact hij (q.symm.trans r)
    · exact hij (r.symm.trans q)
theorem good_take {rows : List (List Int)} (G : Good rows) {i j : Nat} (hi : i < rows.length) (hj : j < rows.length) (hij : i ≠ j) : Good (takeR rows i j) := by
  refine ⟨by rw [len_takeR]; exact G.one, by rw [len_takeR]; exact G.few, fun a b ha hb => ?_, fun a => ?_, fun a b hb => ?_, fun a ha => ?_⟩
  · show tN _ a b ↔ tN _ b a
    rw [len_takeR] at ha hb
    rw [tN_take hi hj hij, tN_take hi hj hij]
    have t : tN rows a b ↔ tN rows b a := G.sy a b ha hb
    rw [t]
    constructor <;> rintro ⟨q, r, s⟩ <;> exact ⟨q, fun z => s ⟨z.2, z.1⟩, fun z => r ⟨z.2, z.1⟩⟩
  · rw [takeR_at _ _ _ _ hi hj]
    split
    · exact (G.nd j).sublist List.filter_sublist
    · split
      · exact (G.nd i).sublist List.filter_sublist
      · exact G.nd a
  · rw [len_takeR]
    rw [takeR_at _ _ _ _ hi hj] at hb
    split at hb
    · exact G.rng j b (List.mem_filter.mp hb).1
    · split at hb
      · exact G.rng i b (List.mem_filter.mp hb).1
      · exact G.rng a b hb
  · have ha' : tN (takeR rows i j) a a := ha
    rw [tN_take hi hj hij] at ha'
    exact G.irr a ha'.1
theorem grow_at (rows : List (List Int)) (k : Nat) : (rows ++ [[]]).getD k [] = rows.getD k [] := by
  by_cases h : k < rows.length
  · rw [List.getD_eq_getElem?_getD, List.getElem?_append_left h, ← List.getD_eq_getElem?_getD]
  · rw [getD_far h, List.getD_eq_getElem?_getD, List.getElem?_append_right (by omega)]
    cases k - rows.length with
    | zero => rfl
    | succ n => rfl
theorem good_grow {rows : List (List Int)} (G : Good rows) (h : rows.length < 30) : Good (rows ++ [[]]) := by
  have e : (rows ++ [[]]).length = rows.length + 1 := by simp
  refine ⟨by omega, by omega, fun a b _ _ => ?_, fun a => by rw [grow_at]; exact G.nd a, fun a b hb => ?_, fun a => by rw [grow_at]; exact G.irr a⟩
  · rw [grow_at, grow_at]
    exact ⟨fun z => G.symm z, fun z => G.symm z⟩
  · rw [grow_at] at hb
    have := G.rng a b hb
    omega
theorem good_init {n : Nat} (h1 : 1 ≤ n) (h2 : n ≤ 30) : Good (List.replicate n []) := by
  have e : ∀ k : Nat, (List.replicate n ([] : List Int)).getD k [] = [] := fun k => by
    rw [List.getD_eq_getElem?_getD, List.getElem?_replicate]
    split <;> rfl
  refine ⟨by simpa using h1, by simpa using h2, fun a b _ _ => ?_, fun a => ?_, fun a b hb => ?_, fun a ha => ?_⟩
  · rw [e, e]; simp
  · rw [e]; exact List.nodup_nil
  · rw [e] at hb; cases hb
  · rw [e] at ha; cases ha
/-! the law's own ties -/
structure Rel (rows : List (List Int)) (n : Int) (ties : List (Int × Int)) : Prop where
  n : n = (rows.length : Int)
  nd : ties.Nodup
  ti : ∀ p : Int × Int, p ∈ ties ↔ ∃ i j : Nat, p = ((i : Int), (j : Int)) ∧ i < j ∧ tN rows i j
theorem pairs_iff {n : Nat} {p : Int × Int} : p ∈ pairsL n ↔ ∃ i j : Nat, p = ((i : Int), (j : Int)) ∧ i < j ∧ j < n := by
  refine ⟨pairs_in, ?_⟩
  rintro ⟨i, j, rfl, h1, h2⟩
  unfold pairsL rowP
  refine List.mem_flatMap.mpr ⟨i, List.mem_range.mpr (by omega), List.mem_map.mpr ⟨j - (i + 1), List.mem_range.mpr (by omega), ?_⟩⟩
  rw [show i + 1 + (j - (i + 1)) = j by omega]
def lexLt (p q : Int × Int) : Prop := p.1 < q.1 ∨ (p.1 = q.1 ∧ p.2 < q.2)
theorem pairs_sorted (n : Nat) : (pairsL n).Pairwise lexLt := by
  unfold pairsL
  rw [List.pairwise_flatMap]
  refine ⟨fun i _ => ?_, ?_⟩
  · unfold rowP
    rw [List.pairwise_map]
    refine List.Pairwise.imp ?_ List.pairwise_lt_range
    intro a b h
    exact .inr ⟨rfl, by show ((i + 1 + a : Nat) : Int) < ((i + 1 + b : Nat) : Int); omega⟩
  · refine List.Pairwise.imp ?_ List.pairwise_lt_range
    intro a b h x hx y hy
    unfold rowP at hx hy
    obtain ⟨_, _, rfl⟩ := List.mem_map.mp hx
    obtain ⟨_, _, rfl⟩ := List.mem_map.mp hy
    exact .inl (by show (a : Int) < b; omega)
theorem lexLt_ne {p q : Int × Int} (h : lexLt p q) : p ≠ q := by
  intro e
  subst e
  unfold lexLt at h
  omega
theorem ties_sorted (rows : List (List Int)) : (tiesL rows).Pairwise lexLt := (pairs_sorted _).sublist List.filter_sublist
theorem ties_nd (rows : List (List Int)) : (tiesL rows).Nodup := (ties_sorted rows).imp lexLt_ne
theorem ties_iff {rows : List (List Int)} (G : Good rows) {p : Int × Int} : p ∈ tiesL rows ↔ ∃ i j : Nat, p = ((i : Int), (j : Int)) ∧ i < j ∧ tN rows i j := by
  unfold tiesL
  rw [List.mem_filter, pairs_iff]
  constructor
  · rintro ⟨⟨i, j, rfl, h1, h2⟩, h3⟩
    exact ⟨i, j, rfl, h1, (tied_iff rows i j).mp h3⟩
  · rintro ⟨i, j, rfl, h1, h2⟩
    exact ⟨⟨i, j, rfl, h1, (G.lt h2).2⟩, (tied_iff rows i j).mpr h2⟩
theorem Rel.perm {rows : List (List Int)} {n : Int} {ties : List (Int × Int)} (G : Good rows) (R : Rel rows n ties) : ties.Perm (tiesL rows) :=
  (List.perm_ext_iff_of_nodup R.nd (ties_nd rows)).mpr fun p => by rw [R.ti, ties_iff G]
theorem lexLe_anti {p q : Int × Int} (h1 : lexLe p q) (h2 : lexLe q p) : p = q := by
  unfold lexLe at h1 h2
  exact Prod.ext (by omega) (by omega)
theorem sorted_ties {rows : List (List Int)} {n : Int} {ties qs : List (Int × Int)} (G : Good rows) (R : Rel rows n ties) (hp : qs.Perm ties) (hs : qs.Pairwise lexLe) : qs = tiesL rows :=
  List.Perm.eq_of_pairwise (fun a b _ _ h1 h2 => lexLe_anti h1 h2) hs ((ties_sorted rows).imp fun h => by unfold lexLt at h; unfold lexLe; omega) (hp.trans (R.perm G))
theorem Rel.few {rows : List (List Int)} {n : Int} {ties : List (Int × Int)} (G : Good rows) (R : Rel rows n ties) : ties.length ≤ 900 := by
  rw [(R.perm G).length_eq]
  have z1 : (tiesL rows).length ≤ (pairsL rows.length).length := List.length_filter_le _ _
  have z2 := rows_len rows.length rows.length
  have z3 : rows.length * rows.length ≤ 30 * 30 := Nat.mul_le_mul G.few G.few
  have z5 : (pairsL rows.length).length ≤ rows.length * rows.length := z2
  omega
theorem rel_init {n : Nat} : Rel (List.replicate n []) (n : Int) [] := by
  refine ⟨by simp, List.nodup_nil, fun p => ⟨fun h => (by cases h), ?_⟩⟩
  rintro ⟨i, j, _, _, h⟩
  unfold tN at h
  rw [List.getD_eq_getElem?_getD, List.getElem?_replicate] at h
  split at h <;> cases h
def tieN (i j : Nat) : Int × Int := (((min i j : Nat) : Int), ((max i j : Nat) : Int))
theorem Rel.tie {rows : List (List Int)} {n : Int} {ties : List (Int × Int)} (G : Good rows) (R : Rel rows n ties) {i j : Nat} (hij : i ≠ j) : tieN i j ∈ ties ↔ tN rows i j := by
  rw [R.ti]
  constructor
  · rintro ⟨a, b, e, h1, h2⟩
    have e1 : ((min i j : Nat) : Int) = a := (Prod.mk.inj e).1
    have e2 : ((max i j : Nat) : Int) = b := (Prod.mk.inj e).2
    by_cases h : i < j
    · rw [show i = a by omega, show j = b by omega]; exact h2
    · rw [show i = b by omega, show j = a by omega]; exact G.symm h2
  · intro h
    by_cases q : i < j
    · exact ⟨i, j, Prod.ext (by show ((min i j : Nat) : Int) = i; omega) (by show ((max i j : Nat) : Int) = j; omega), q, h⟩
    · exact ⟨j, i, Prod.ext (by show ((min i j : Nat) : Int) = j; omega) (by show ((max i j : Nat) : Int) = i; omega), by omega, G.symm h⟩
theorem rel_put {rows : List (List Int)} {n : Int} {ties : List (Int × Int)} (G : Good rows) (R : Rel rows n ties) {i j : Nat} (hi : i < rows.length) (hj : j < rows.length) (hij : i ≠ j) (h : ¬ tN rows i j) : Rel (putR rows i j) n (ties ++ [tieN i j]) := by
  refine ⟨by rw [len_putR]; exact R.n, nd_snoc R.nd fun z => h ((R.tie G hij).mp z), fun p => ?_⟩
  rw [List.mem_append, R.ti, List.mem_singleton]
  constructor
  · rintro (⟨a, b, rfl, h1, h2⟩ | rfl)
    · exact ⟨a, b, rfl, h1, (tN_put hi hj hij a b).mpr (.inl h2)⟩
    · refine ⟨min i j, max i j, rfl, by omega, (tN_put hi hj hij _ _).mpr ?_⟩
      by_cases q : i < j
      · exact .inr (.inl ⟨by omega, by omega⟩)
      · exact .inr (.inr ⟨by omega, by omega⟩)
  · rintro ⟨a, b, rfl, h1, h2⟩
    rcases (tN_put hi hj hij a b).mp h2 with q | ⟨rfl, rfl⟩ | ⟨rfl, rfl⟩
    · exact .inl ⟨a, b, rfl, h1, q⟩
    · exact .inr (Prod.ext (by show (a : Int) = ((min a b : Nat) : Int); omega) (by show (b : Int) = ((max a b : Nat) : Int); omega))
    · exact .inr (Prod.ext (by show (a : Int) = ((min b a : Nat) : Int); omega) (by show (b : Int) = ((max b a : Nat) : Int); omega))
theorem rel_take {rows : List (List Int)} {n : Int} {ties : List (Int × Int)} (R : Rel rows n ties) {i j : Nat} (hi : i < rows.length) (hj : j < rows.length) (hij : i ≠ j) : Rel (takeR rows i j) n (ties.filter fun p => decide (p ≠ tieN i j)) := by
  refine ⟨by rw [len_takeR]; exact R.n, R.nd.sublist List.filter_sublist, fun p => ?_⟩
  rw [List.mem_filter, R.ti, decide_eq_true_iff]
  constructor
  · rintro ⟨⟨a, b, rfl, h1, h2⟩, h3⟩
    refine ⟨a, b, rfl, h1, (tN_take hi hj hij a b).mpr ⟨h2, fun ⟨q, r⟩ => h3 ?_, fun ⟨q, r⟩ => h3 ?_⟩⟩
    · subst q r
      exact Prod.ext (by show (a : Int) = ((min a b : Nat) : Int); omega) (by show (b : Int) = ((max a b : Nat) : Int); omega)
    · subst q r
      exact Prod.ext (by show (a : Int) = ((min b a : Nat) : Int); omega) (by show (b : Int) = ((max b a : Nat) : Int); omega)
  · rintro ⟨a, b, rfl, h1, h2⟩
    obtain ⟨q, r, s⟩ := (tN_take hi hj hij a b).mp h2
    refine ⟨⟨a, b, rfl, h1, q⟩, fun z => ?_⟩
    have e1 : (a : Int) = ((min i j : Nat) : Int) := (Prod.mk.inj z).1
    have e2 : (b : Int) = ((max i j : Nat) : Int) := (Prod.mk.inj z).2
    by_cases h : i < j
    · exact r ⟨by omega, by omega⟩
    · exact s ⟨by omega, by omega⟩
theorem rel_grow {rows : List (List Int)} {n : Int} {ties : List (Int × Int)} (R : Rel rows n ties) : Rel (rows ++ [[]]) (n + 1) ties := by
  refine ⟨by rw [R.n]; simp, R.nd, fun p => ?_⟩
  rw [R.ti]
  unfold tN
  simp only [grow_at]
/-! rows are short -/
theorem Good.row {rows : List (List Int)} (G : Good rows) (i : Nat) : (rows.getD i []).length ≤ 30 := by
  have e : (rows.getD i []).Perm (((List.range rows.length).map fun (k : Nat) => (k : Int)).filter fun z => decide (z ∈ rows.getD i [])) := by
    refine (List.perm_ext_iff_of_nodup (G.nd i) ?_).mpr fun z => ?_
    · refine List.Pairwise.sublist List.filter_sublist ?_
      rw [List.pairwise_map]
      exact List.pairwise_lt_range.imp fun h => by omega
    · rw [List.mem_filter, decide_eq_true_iff, List.mem_map]
      constructor
      · intro h
        have := G.rng i z h
        exact ⟨⟨z.toNat, List.mem_range.mpr (by omega), by omega⟩, h⟩
      · exact fun h => h.2
  rw [e.length_eq]
  refine Nat.le_trans (List.length_filter_le _ _) ?_
  rw [List.length_map, List.length_range]
  exact G.few
theorem Good.small {rows : List (List Int)} (G : Good rows) : ∀ r ∈ rows, r.length ≤ 60 := fun r h => by
  obtain ⟨i, hi, rfl⟩ := List.mem_iff_getElem.mp h
  have := G.row i
  rw [List.getD_eq_getElem?_getD, List.getElem?_eq_getElem hi] at this
  have this : rows[i].length ≤ 30 := this
  omega
section
variable {P : Program} {w : World} {K : PySem.W.Frag} {mg : Str → Option Value} {base : Heap} {A : Adr}
/-! a refusal kept as a value -/
theorem exmJ (T : Txt K mg A) {D : Addr} {z : Str} (h : (D, z) ∈ kinds A) : PySem.W.exmOne K (.ref D) (.ref A.c_JoinError) = some true := by
  unfold kinds at h
  simp only [List.mem_cons, Prod.mk.injEq, List.not_mem_nil, or_false] at h
  rcases h with ⟨rfl, rfl⟩ | ⟨rfl, rfl⟩ | ⟨rfl, rfl⟩ | ⟨rfl, rfl⟩
  · exact PySem.W.exm_ref T.hb_JoinError T.hd_JoinError T.ht_JoinError T.su_BadSize_JoinError
  · exact PySem.W.exm_ref T.hb_JoinError T.hd_JoinError T.ht_JoinError T.su_BadPoint_JoinError
  · exact PySem.W.exm_ref T.hb_JoinError T.hd_JoinError T.ht_JoinError T.su_Twice_JoinError
  · exact PySem.W.exm_ref T.hb_JoinError T.hd_JoinError T.ht_JoinError T.su_BadTree_JoinError
end
end Jk

namespace Jk
open PySem L2 Evl
theorem erase_map {α β : Type} (f : α → β) : ∀ (l : List α) (i : Nat), (l.map f).eraseIdx i = (l.eraseIdx i).map f
  | [], i => by simp
  | a :: l, 0 => rfl
  | a :: l, i + 1 => by
    show f a :: (l.map f).eraseIdx i = f a :: (l.eraseIdx i).map f
    rw [erase_map f l i]
def rngI (n : Nat) : List Int := (List.range n).map fun (i : Nat) => (i : Int)
theorem rng_nd (n : Nat) : (rngI n).Nodup := by
  unfold rngI List.Nodup
  rw [List.pairwise_map]
  exact List.pairwise_lt_range.imp fun h => by omega
theorem rng_in {n : Nat} {z : Int} : z ∈ rngI n ↔ 0 ≤ z ∧ z < n := by
  unfold rngI
  rw [List.mem_map]
  constructor
  · rintro ⟨i, hi, rfl⟩
    have := List.mem_range.mp hi
    omega
  · intro h
    exact ⟨z.toNat, List.mem_range.mpr (by omega), by omega⟩
def spOrder : Sp := fun vs H Q _ => ∃ (n : Nat) (c : Int), vs = [.int n, .int c] ∧ n ≤ 1000 ∧ ∀ ns q H', ns.Perm (rngI n) → H q = none → Ex H H' → LsI H' q ns → Q (.ref q) H'
noncomputable def depV (H : Hp) (v : V) : Nat := open Classical in if h : ∃ u, ToldAt H v u then h.choose.dep else 0
theorem depV_at {H : Hp} {v : V} {u : Tr} (h : ToldAt H v u) : depV H v = u.dep := by
  have e : ∃ u, ToldAt H v u := ⟨u, h⟩
  unfold depV
  rw [dif_pos e, told_uniq _ _ v e.choose_spec h]
def spLeast : Sp := fun vs H Q _ => ∃ (v : V) (t : Tr), vs = [v] ∧ ToldAt H v t ∧ t.form ∧ Q (.int t.least) H
section
variable {P : Program} {w : World} {K : PySem.W.Frag} {mg : Str → Option Value} {base : Heap} {A : Adr}
theorem ok_l_order (T : Txt K mg A) : FnOk P w K mg base CX0 2 A.a_l_order A.d_l_order ["_law_many", "_law_number_here"] spOrder := by
  refine T.F_l_order.ok sc_l_order (fun vs H Q E h => ?_) (fun cdv C outer s H vs Q E hr h => ?_)
  · obtain ⟨n, c, rfl, _⟩ := h
    rfl
  · obtain ⟨n, c, rfl, hn, k⟩ := h
    refine ⟨_, (pss_cons (ps_set (i := 2) sc_l_order.nd rfl (Or.inl rfl) (pe_lstR rfl (by rfl) T.list (by rfl) T.range (pv 0)))
  (pss_cons (ps_set (i := 3) sc_l_order.nd rfl (Or.inl rfl) (pe_lstJ pa_nil))
  (pss_cons (ps_for PassesOwn.never rfl (pi_range1 rfl T.range (pa_cons (pv 0) pa_nil)) (pg_name (i := 4) sc_l_order.nd rfl (.inl rfl))
    (pss_cons (ps_expr (pe_bmL PySem.F.slot_list_append PySem.F.type_list_append mt_append (pv 3) (pa_cons (pe_bmL PySem.F.slot_list_pop PySem.F.type_list_pop mt_popA (pv 2) (pa_cons (pe_op op_mod (pv 1) (pe_callB call_lenJ (by rfl) T.len (by decide +kernel) (pa_cons (pv 2) pa_nil))) pa_nil)) pa_nil)))
      (pss_one (ps_set (i := 1) sc_l_order.nd rfl (Or.inl rfl) (pe_call (ok_l_mixed T) (hr.mono (by decide)) rfl T.g_l_mixed T.k_l_mixed T.b_l_mixed .nil pass0 (pa_cons (pv 1) (pa_cons (pv 4) pa_nil)))))))
  (pss_one (ps_ret (pv 3)))))), ?_⟩
    simp [L2.start, and_assoc]
    refine ⟨n, rfl, by omega, fun q H1 n1 e1 h1 D H2 n2 e2 h2 => ?_⟩
    refine ⟨_, rfl, n, rfl, by omega, by omega, for_range (n := n) (fun i σ H' => ∃ (b4 : Option V) (c' : Int) (xs ys : List Int), σ = [some (.int n), some (.int c'), some (.ref q), some (.ref D), b4] ∧ Ex H H' ∧ LsI H' q xs ∧ LsI H' D ys ∧ (ys ++ xs).Perm (rngI n) ∧ ys.length = i) ⟨none, c, rngI n, [], rfl, e1.trans e2, e2 _ _ h1, h2, List.Perm.refl _, rfl⟩ (fun i σ H' hi h => ?_) (fun σ H' h => ?_)⟩
    · obtain ⟨b4, c', xs, ys, rfl, e, hx, hy, hp, hl⟩ := h
      have hlen : ys.length + xs.length = n := by
        have z := hp.length_eq
        unfold rngI at z
        simpa using z
      have h0 : 0 < xs.length := by omega
      have hx' : H' q = some (.lst (xs.map V.int)) := hx
      have hy' : H' D = some (.lst (ys.map V.int)) := hy
      have qD : q ≠ D := ne_of_none h1 n2
      have m0 := Int.emod_nonneg c' (show (xs.length : Int) ≠ 0 by omega)
      have m1 := Int.emod_lt_of_pos c' (show (0 : Int) < xs.length by omega)
      have hj : (c' % (xs.length : Int)).toNat < xs.length := by omega
      have ex : xs[(c' % (xs.length : Int)).toNat]? = some xs[(c' % (xs.length : Int)).toNat] := List.getElem?_eq_getElem hj
      have hlt : xs.length ≤ 100000 := by omega
      have hlt2 : ys.length < sizeLine := lt_line (by omega)
      have hD2 : ∀ o, (upd H' q o) D = some (.lst (ys.map V.int)) := fun o => by rw [upd_ne qD.symm]; exact hy'
      simp [and_assoc, hx', hy', ex, h0, m0, hlt, hlt2, hD2, spMixed]
      refine ⟨by omega, ?_, xs.eraseIdx (c' % (xs.length : Int)).toNat, ?_, ys ++ [xs[(c' % (xs.length : Int)).toNat]], ?_, ?_, by simp [hl]⟩
      · have nq : H q = none := n1
        have nD : H D = none := fresh_back e1 n2
        refine fun b o hb => ?_
        rw [upd_ne (ne_of_none hb nD), upd_ne (ne_of_none hb nq)]
        exact e b o hb
      · unfold LsI
        rw [upd_ne qD, upd_same, erase_map]
      · unfold LsI
        rw [upd_same]; simp
      · rw [List.append_assoc]
        exact (List.Perm.append_left ys (erase_perm xs _ _ ex)).trans hp
    · obtain ⟨b4, c', xs, ys, rfl, e, hx, hy, hp, hl⟩ := h
      have z := hp.length_eq
      unfold rngI at z
      simp at z
      have x0 : xs = [] := List.length_eq_zero_iff.mp (by omega)
      subst x0
      rw [List.append_nil] at hp
      exact ⟨_, rfl, k ys D H' hp (fresh_back e1 n2) e hy⟩
theorem ok_l_least (T : Txt K mg A) : FnOk P w K mg base CX0 1 A.a_l_least A.d_l_least ["_law_told_here"] spLeast := by
  refine T.F_l_least.ok sc_l_least (fun vs H Q E h => ?_) (fun cdv C outer s H vs Q E hr h => ?_)
  · obtain ⟨v, t, rfl, _⟩ := h
    rfl
  · obtain ⟨v, t, rfl, hv, hf, k⟩ := h
    refine ⟨_, (pss_cons (ps_while PassesOwn.never (pt_val (pe_callB call_isJ (by rfl) T.isinstance (by decide +kernel) (pa_cons (pv 0) (pa_cons (pe_bltn (v := .ty "tuple") (u := .type "tuple") (by rfl) T.tuple (by decide +kernel) rfl) pa_nil))))
    (pss_one (ps_set (i := 0) sc_l_least.nd rfl (Or.inl rfl) (pe_ix ix_tupJ (pe_ix ix_tupJ (pv 0) pe_int (fun _ _ => rfl)) pe_int (fun _ _ => rfl)))))
  (pss_one (ps_ret (pv 0)))), ?_⟩
    refine while_by (fun σ H' => H' = H ∧ ∃ v u, σ = [some v] ∧ ToldAt H v u ∧ u.form ∧ u.least = t.least) (fun σ H' => match σ with | [some v] => depV H v | _ => 0) ⟨rfl, v, t, rfl, hv, hf, rfl⟩ (fun σ H' h => ?_) (fun σ H1 Q1 Q2 m h => ?_)
    rotate_left
    · simp only [j_B, j_cb, j_cons, j_var, j_c, j_nil, j_is] at h ⊢
      obtain ⟨v, h1, t, b, h2, h3, c, e, q⟩ := h
      exact ⟨v, h1, t, b, h2, h3, c, e, m _ _ q⟩
    obtain ⟨rfl, v, u, rfl, h1, h2, h3⟩ := h
    cases u with
    | pt n =>
      have e : v = .int n := by rw [ToldAt] at h1; exact h1
      subst e
      have e3 : n = t.least := by rw [← h3]; rw [Tr.least]
      simp
      rw [e3]; exact k
    | nd j ts =>
      have hd := depV_at h1
      rw [ToldAt] at h1
      obtain ⟨a, b, vs, rfl, g1, g2, g3⟩ := h1
      rw [Tr.form] at h2
      cases ts with
      | nil => simp at h2
      | cons t0 us =>
        cases vs with
        | nil => simp [ToldL] at g3
        | cons v0 vs =>
          rw [ToldL] at g3
          have f0 := (formL_iff.mp h2.2.2 t0 (by simp)).1
          simp [tyN_tup g1, g1, g2]
          refine ⟨⟨t0, g3.1, f0, ?_⟩, ?_⟩
          · rw [← h3]; rw [Tr.least, leastL]
          · rw [hd, depV_at g3.1]
            rw [Tr.dep, depL]
            omega
end
end Jk

namespace Jk
open PySem L2 Evl
def NodeAt (H : Hp) (a : Addr) : Nd → Prop
  | .leaf k => H a = some (.lst [.str "", .int (k : Int)])
  | .inner j cs => ∃ c, H a = some (.lst [.str (wdS j), .ref c]) ∧ H c = some (.lst (cs.map fun (x : Nat) => V.int x))
def NodesAt (H : Hp) (nl : Addr) (ns : List Nd) : Prop := ∃ as : List Addr, H nl = some (.lst (as.map V.ref)) ∧ as.length = ns.length ∧ ∀ (i : Nat) (a : Addr) (n : Nd), as[i]? = some a → ns[i]? = some n → NodeAt H a n
theorem NodeAt.up {H H' : Hp} {a : Addr} {n : Nd} (h : NodeAt H a n) (e : Ex H H') : NodeAt H' a n := by
  cases n with
  | leaf k => exact e _ _ h
  | inner j cs => obtain ⟨c, h1, h2⟩ := h; exact ⟨c, e _ _ h1, e _ _ h2⟩
theorem NodesAt.up {H H' : Hp} {nl : Addr} {ns : List Nd} (h : NodesAt H nl ns) (e : Ex H H') : NodesAt H' nl ns := by
  obtain ⟨as, h1, h2, h3⟩ := h
  exact ⟨as, e _ _ h1, h2, fun i a n x y => (h3 i a n x y).up e⟩
theorem NodesAt.at {H : Hp} {nl : Addr} {ns : List Nd} (h : NodesAt H nl ns) {i : Nat} {n : Nd} (e : ns[i]? = some n) : ∃ xs a, H nl = some (.lst xs) ∧ xs[i]? = some (.ref a) ∧ NodeAt H a n := by
  obtain ⟨as, h1, h2, h3⟩ := h
  have hi : i < as.length := by rw [h2]; exact lt_of_get e
  exact ⟨_, as[i], h1, by rw [List.getElem?_map, List.getElem?_eq_getElem hi]; rfl, h3 i _ n (List.getElem?_eq_getElem hi) e⟩
def Tall (ns : List Nd) (names : List Int) : Nat → Nat → Prop
  | 0, _ => False
  | d + 1, i => (∃ k, ns[i]? = some (Nd.leaf k) ∧ k < names.length) ∨ ∃ j cs, ns[i]? = some (Nd.inner j cs) ∧ ∀ c ∈ cs, Tall ns names d c
def spTold (d : Nat) : Sp := fun vs H Q _ => ∃ (nl ml : Addr) (at' : Nat) (ns : List Nd) (ab : List (Option Nat)) (lv dp : List Nat) (names : List Int), vs = [.ref nl, .int (at' : Int), .ref ml] ∧ NodesAt H nl ns ∧ LsI H ml names ∧ Grown ns ab lv dp ∧ names.Nodup ∧ lv.length ≤ 100 ∧ Tall ns names d at' ∧
  ∀ v t H', Ex H H' → ToldAt H' v t → Built ns names d at' t → Q v H'
theorem wd_ne (j : Bool) : ¬ wdS j = ("" : Str) := by cases j <;> exact (by decide +kernel)
theorem toldL_pairs {H : Hp} : ∀ {l : List (V × Tr)}, (∀ p ∈ l, ToldAt H p.1 p.2) → ToldL H (l.map (·.1)) (l.map (·.2))
  | [], _ => by simp [ToldL]
  | p :: l, h => by
    rw [List.map_cons, List.map_cons, ToldL]
    exact ⟨h p (by simp), toldL_pairs fun q hq => h q (by simp [hq])⟩
section
variable {P : Program} {w : World} {K : PySem.W.Frag} {mg : Str → Option Value} {base : Heap} {A : Adr}
theorem none_spTold {f : Addr} {fd : FuncData} {ps : List Str} {k : Nat} : FnOk P w K mg base CX0 k f fd ps (spTold 0) :=
  ⟨fun vs H Q E ⟨_, _, _, _, _, _, _, _, _, _, _, _, _, _, h, _⟩ => False.elim h, fun A outer s H args us vs Q E _ _ _ _ ⟨_, _, _, _, _, _, _, _, _, _, _, _, _, _, h, _⟩ => False.elim h⟩
theorem step_l_told (T : Txt K mg A) {d : Nat} (ih : FnOk P w K mg base CX0 (d + 3) A.a_l_told A.d_l_told ["_law_nodes", "_law_at", "_law_names"] (spTold d)) : FnOk P w K mg base CX0 (d + 4) A.a_l_told A.d_l_told ["_law_nodes", "_law_at", "_law_names"] (spTold (d + 1)) := by
  refine T.F_l_told.ok sc_l_told (fun vs H Q E h => ?_) (fun cdv C outer s H vs Q E hr h => ?_)
  · obtain ⟨nl, ml, at', ns, ab, lv, dp, names, rfl, _⟩ := h
    rfl
  · obtain ⟨nl, ml, at', ns, ab, lv, dp, names, rfl, hN, hM, G, nd, few, tall, k⟩ := h
    have hM' : H ml = some (.lst (names.map V.int)) := hM
    refine ⟨_, (pss_cons (ps_set (i := 3) sc_l_told.nd rfl (Or.inl rfl) (pe_ix ix_listJ (pv 0) (pv 1) (fun _ _ => rfl)))
  (pss_cons (ps_if (pt_cmpR op_eq (pe_ix ix_listJ (pv 3) pe_int (fun _ _ => rfl)) pe_str (nomark _))
    (pss_one (ps_ret (pe_ix ix_listJ (pv 2) (pe_ix ix_listJ (pv 3) pe_int (fun _ _ => rfl)) (fun _ _ => rfl))))
    pss_nil)
  (pss_cons (ps_setLc (i := 4) (own := [("_law_piece", 5)]) rfl sc_l_told.nd rfl rfl (sw_true rfl rfl rfl (by decide +kernel)) (pi_list (pe_ix ix_listJ (pv 3) pe_int (fun _ _ => rfl))) (blkOk_by (own := [("_law_piece", 5)]) (N := ["_law_nodes", "_law_at", "_law_names", "_law_node", "_law_parts", "_law_piece"]) (sc := defScope s_l_told) (by decide +kernel)) (fun _ _ _ _ _ => by exact (pg_name (i := 5) sc_l_told.nd rfl (Or.inl rfl))) (fun _ _ _ _ _ => by exact pts_nil) (fun _ _ _ _ _ => by exact (pe_call ih (hr.mono (by omega)) rfl T.g_l_told T.k_l_told T.b_l_told .nil pass0 (pa_cons (pv 0) (pa_cons (pv 5) (pa_cons (pv 2) pa_nil))))))
  (pss_one (ps_ret (pe_tupJ (pa_cons (pe_ix ix_listJ (pv 3) pe_int (fun _ _ => rfl)) (pa_cons (pe_callTy call_tupJ (by rfl) T.tuple (by decide +kernel) (pa_cons (pe_sortKF (ok_l_least T) (hr.mono (by omega)) T.b_l_least (by rfl) T.sorted (by rfl) T.g_l_least (pv 4)) pa_nil)) pa_nil)))))))), ?_⟩
    unfold Tall at tall
    rcases tall with ⟨kk, h1, h2⟩ | ⟨j, cs, h1, h2⟩
    · obtain ⟨xs, a, x1, x2, x3⟩ := hN.at h1
      have x3 : H a = some (.lst [.str "", .int (kk : Int)]) := x3
      have hn : names[kk]? = some names[kk] := List.getElem?_eq_getElem h2
      have hn' : (names.map V.int)[kk]? = some (.int names[kk]) := by rw [List.getElem?_map, hn]; rfl
      simp [L2.start, and_assoc, x1, x2, x3, hM', hn']
      exact k _ (.pt names[kk]) H (Ex.refl _) (by rw [ToldAt]) (by unfold Built; exact .inl ⟨kk, _, h1, hn, rfl⟩)
    · obtain ⟨xs, a, x1, x2, x3⟩ := hN.at h1
      obtain ⟨c, x3, x4⟩ := x3
      simp [L2.start, and_assoc, x1, x2, x3]
      refine .inl ⟨wd_ne j, ?_⟩
      refine ⟨_, rfl, a, _, 1, _, rfl, rfl, x3, by decide, rfl, c, rfl, ⟨_, .inl (.inl x4)⟩, fun D hD => lc_list (xs := cs.map fun (x : Nat) => V.int x) (CompI D H fun i acc H2 => ∃ ts : List Tr, ToldL H2 acc ts ∧ ts.length = i ∧ ∀ (m cc : Nat) (u : Tr), cs[m]? = some cc → ts[m]? = some u → Built ns names d cc u) ⟨Ex.new hD, [], upd_same, by simp, [], by simp [ToldL], rfl, fun m cc u _ h => by simp at h⟩ (fun i H2 _ cc => .inl (.inl (cc.1 _ _ x4))) (fun i x H2 hx cc => ?_) (fun H2 cc => ?_)⟩
      · obtain ⟨e, acc, g1, g2, ts, g3, g4, g5⟩ := cc
        rw [List.getElem?_map] at hx
        cases hci : cs[i]? with
        | none => rw [hci] at hx; cases hx
        | some ci =>
          rw [hci] at hx
          cases hx
          obtain ⟨gr1, gr2, gr3⟩ := G.inn _ j cs h1
          have cl : cs.length ≤ 1000 := by
            have hsub : cs.length ≤ ns.length := by
              have bound : ∀ x ∈ cs, x < ns.length := fun x hx => by
                have := lt_of_get (gr3 x hx).1
                rw [G.la] at this
                exact this
              have z := nd_len (ns := cs.map fun (x : Nat) => (x : Int)) (m := ns.length) (by
                unfold List.Nodup
                rw [List.pairwise_map]
                exact gr2.imp fun h e => h (by omega)) (fun n hn => by
                obtain ⟨x, hx, rfl⟩ := List.mem_map.mp hn
                have := bound x hx
                omega)
              simpa using z
            have := G.cnt
            have := G.la
            omega
          have il : i < cs.length := lt_of_get hci
          have al := g3.len
          simp [L2.start, wipe]
          refine ⟨nl, ml, ci, ns, ab, lv, dp, names, rfl, hN.up e, hM.up e, G, nd, few, h2 ci (List.mem_of_getElem? hci), fun v t H4 e4 ht hb => ?_⟩
          refine CompI.push hD (e.trans e4) (e4 _ _ g1) (by omega) ⟨ts ++ [t], ?_, by simp [g4], fun m cc u hm hu => ?_⟩
          · have z := (g3.up e4).snoc ht
            exact z.map (fun t' o q => by rw [upd_ne (ne_of q (e4 _ _ g1) (by simp))]; exact q)
          · rcases app_get hu with ⟨_, hu⟩ | ⟨hm', hu⟩
            · exact g5 m cc u hm hu
            · subst hu
              rw [g4] at hm'
              rw [hm', hci] at hm
              cases hm
              exact hb
      · obtain ⟨e, acc, g1, g2, ts, g3, g4, g5⟩ := cc
        rw [List.length_map] at g4
        have al := g3.len
        have each : ∀ (m : Nat) (u : Tr), ts[m]? = some u → u.form := fun m u hu => by
          have hm : m < cs.length := by rw [← g4]; exact lt_of_get hu
          exact (built_ok G nd d cs[m] u (g5 m _ u (List.getElem?_eq_getElem hm) hu)).1
        refine ⟨_, e _ _ x3, _, rfl, D, rfl, acc, g1, ts.map Tr.least, by simp [al], fun m x kk hx hk => ?_, fun zs D3 H3 hperm hsort n3 e3 h3 => ⟨_, h3, fun l H4 n4 e4 h4 p' H5 n5 e5 h5 => ?_⟩⟩
        · rw [List.getElem?_map] at hk
          cases hu : ts[m]? with
          | none => rw [hu] at hk; cases hk
          | some u =>
            rw [hu] at hk
            cases hk
            obtain ⟨u', hu', hat⟩ := g3.get hx
            rw [hu] at hu'
            cases hu'
            exact ⟨x, u, rfl, hat, each m u hu, rfl, rfl⟩
        · have hz : (acc.zip ts).map (fun q : V × Tr => (q.1, q.2.least)) = acc.zip (ts.map Tr.least) := by
            rw [List.zip_map_right]
            rfl
          obtain ⟨l', hl1, hl2⟩ := perm_lift (fun q : V × Tr => (q.1, q.2.least)) hperm _ hz
          have pairs : ∀ q ∈ l', ToldAt H2 q.1 q.2 := fun q hq => by
            obtain ⟨m, hm, em⟩ := List.mem_iff_getElem.mp (hl1.mem_iff.mp hq)
            have hq2 : (acc.zip ts)[m]? = some q := by rw [List.getElem?_eq_getElem hm, em]
            obtain ⟨y1, y2⟩ := List.getElem?_zip_eq_some.mp hq2
            obtain ⟨u', hu', hat⟩ := g3.get y1
            rw [y2] at hu'
            cases hu'
            exact hat
          have tl := toldL_pairs pairs
          have ef : zs.map (·.1) = l'.map (·.1) := by rw [← hl2, List.map_map]; rfl
          have up : (l'.map (·.2)).Perm ts := by
            have z := hl1.map (fun q : V × Tr => q.2)
            have y : (acc.zip ts).map Prod.snd = ts := List.map_snd_zip (by omega)
            exact z.trans (by rw [show (acc.zip ts).map (fun q : V × Tr => q.2) = (acc.zip ts).map Prod.snd from rfl, y])
          have us : (l'.map (·.2)).Pairwise (fun a b : Tr => a.least ≤ b.least) := by
            rw [← hl2, List.pairwise_map] at hsort
            rw [List.pairwise_map]
            exact hsort
          refine k (.ref p') (.nd j (l'.map (·.2))) H5 ((((e.trans e3).trans e4)).trans e5) ?_ ?_
          · rw [ToldAt]
            refine ⟨p', l, _, rfl, h5, e5 _ _ h4, ?_⟩
            rw [ef]
            exact tl.up ((e3.trans e4).trans e5)
          · unfold Built
            exact .inr ⟨j, cs, ts, _, h1, g4, g5, up, us, rfl⟩
theorem ok_l_told (T : Txt K mg A) : ∀ d : Nat, FnOk P w K mg base CX0 (d + 3) A.a_l_told A.d_l_told ["_law_nodes", "_law_at", "_law_names"] (spTold d)
  | 0 => none_spTold
  | d + 1 => step_l_told T (ok_l_told T d)
end
end Jk

namespace Jk
open PySem L2 Evl
theorem sql_up {K : PySem.W.Frag} {H H' : Hp} {a : Addr} {xs : List V} (h : SqL K H a xs) (e : Ex H H') : SqL K H' a xs := by
  rcases h with (h | ⟨o, h⟩) | h
  · exact .inl (.inl (e _ _ h))
  · exact .inl (.inr ⟨o, e _ _ h⟩)
  · exact .inr h
theorem ex_but {H0 H H' : Hp} {M : List Addr} (e : Ex H0 H) (b : But M H H') (n : ∀ m ∈ M, H0 m = none) : Ex H0 H' := fun x o h => b.kp x o (e x o h) fun z => by rw [n x z] at h; cases h
def abV : Option Nat → V
  | none => .non
  | some p => .int (p : Int)
/-- the nodes' own objects -/
structure Core (H0 H : Hp) (M : List Addr) (as : List Addr) (ci : Nat → Addr) (ns : List Nd) : Prop where
  ex : Ex H0 H
  la : as.length = ns.length
  lf : ∀ (i : Nat) (a : Addr) (k : Nat), as[i]? = some a → ns[i]? = some (Nd.leaf k) → H a = some (.lst [.str "", .int (k : Int)])
  inn : ∀ (i : Nat) (a : Addr) (j : Bool) (cs : List Nat), as[i]? = some a → ns[i]? = some (Nd.inner j cs) → H a = some (.lst [.str (wdS j), .ref (ci i)]) ∧ H (ci i) = some (.lst (cs.map fun (x : Nat) => V.int x)) ∧ H0 (ci i) = none ∧ ci i ∉ M
  sa : ∀ (i : Nat) (a : Addr), as[i]? = some a → a ∉ M
  sc : ∀ (i i2 : Nat) (a : Addr) (j : Bool) (cs : List Nat), as[i]? = some a → ns[i2]? = some (Nd.inner j cs) → a ≠ ci i2
  dis : ∀ (i i2 : Nat) (j j2 : Bool) (cs cs2 : List Nat), ns[i]? = some (Nd.inner j cs) → ns[i2]? = some (Nd.inner j2 cs2) → ci i = ci i2 → i = i2
theorem Core.keep {H0 H H' : Hp} {M as : List Addr} {ci : Nat → Addr} {ns : List Nd} (c : Core H0 H M as ci ns) (b : But M H H') (n : ∀ m ∈ M, H0 m = none) : Core H0 H' M as ci ns :=
  ⟨ex_but c.ex b n, c.la, fun i a k x y => b.kp _ _ (c.lf i a k x y) (c.sa i a x), fun i a j cs x y => let ⟨h1, h2, h3, h4⟩ := c.inn i a j cs x y; ⟨b.kp _ _ h1 (c.sa i a x), b.kp _ _ h2 h4, h3, h4⟩, c.sa, c.sc, c.dis⟩
theorem Core.up {H0 H H' : Hp} {M as : List Addr} {ci : Nat → Addr} {ns : List Nd} (c : Core H0 H M as ci ns) (e : Ex H H') : Core H0 H' M as ci ns :=
  ⟨c.ex.trans e, c.la, fun i a k x y => e _ _ (c.lf i a k x y), fun i a j cs x y => let ⟨h1, h2, h3, h4⟩ := c.inn i a j cs x y; ⟨e _ _ h1, e _ _ h2, h3, h4⟩, c.sa, c.sc, c.dis⟩
theorem Core.there {H0 H : Hp} {M as : List Addr} {ci : Nat → Addr} {ns : List Nd} (c : Core H0 H M as ci ns) {i : Nat} {a : Addr} (h : as[i]? = some a) : H a ≠ none := fun z => by
  have hi : i < ns.length := by rw [← c.la]; exact lt_of_get h
  cases e : ns[i] with
  | leaf k => have := c.lf i a k h (by rw [List.getElem?_eq_getElem hi, e]); rw [z] at this; cases this
  | inner j cs => have := (c.inn i a j cs h (by rw [List.getElem?_eq_getElem hi, e])).1; rw [z] at this; cases this
/-- a further leaf -/
theorem Core.leaf {H0 H : Hp} {M as : List Addr} {ci : Nat → Addr} {ns : List Nd} (c : Core H0 H M as ci ns) {a : Addr} {k : Nat} (ha : H a = some (.lst [.str "", .int (k : Int)])) (n1 : a ∉ M) (n2 : ∀ (i : Nat) (j : Bool) (cs : List Nat), ns[i]? = some (Nd.inner j cs) → a ≠ ci i) : Core H0 H M (as ++ [a]) ci (ns ++ [Nd.leaf k]) := by
  refine ⟨c.ex, by simp [c.la], fun i b m x y => ?_, fun i b j cs x y => ?_, fun i b x => ?_, fun i i2 b j cs x y => ?_, fun i i2 j j2 cs cs2 x y => ?_⟩
  · rcases app_get x with ⟨x1, x2⟩ | ⟨x1, x2⟩
    · rcases app_get y with ⟨_, y2⟩ | ⟨y1, _⟩
      · exact c.lf i b m x2 y2
      · rw [← c.la] at y1; omega
    · rcases app_get y with ⟨y1, _⟩ | ⟨_, y2⟩
      · rw [← c.la] at y1; omega
      · cases y2; rw [x2]; exact ha
  · rcases app_get y with ⟨y1, y2⟩ | ⟨_, y2⟩
    · rcases app_get x with ⟨_, x2⟩ | ⟨x1, _⟩
      · exact c.inn i b j cs x2 y2
      · rw [← c.la] at y1; omega
    · cases y2
  · rcases app_get x with ⟨_, x2⟩ | ⟨_, x2⟩
    · exact c.sa i b x2
    · rw [x2]; exact n1
  · rcases app_get y with ⟨_, y2⟩ | ⟨_, y2⟩
    · rcases app_get x with ⟨_, x2⟩ | ⟨_, x2⟩
      · exact c.sc i i2 b j cs x2 y2
      · rw [x2]; exact n2 i2 j cs y2
    · cases y2
  · rcases app_get x with ⟨_, x2⟩ | ⟨_, x2⟩
    · rcases app_get y with ⟨_, y2⟩ | ⟨_, y2⟩
      · exact c.dis i i2 j j2 cs cs2 x2 y2
      · cases y2
    · cases x2
/-- a further number in a node's list -/
theorem Core.more {H0 H : Hp} {M as : List Addr} {ci : Nat → Addr} {ns : List Nd} (c : Core H0 H M as ci ns) {p : Nat} {j : Bool} {cs : List Nat} (hp : ns[p]? = some (Nd.inner j cs)) (x : Nat) :
    Core H0 (upd H (ci p) (.lst ((cs ++ [x]).map fun (x : Nat) => V.int x))) M as ci (ns.set p (Nd.inner j (cs ++ [x]))) := by
  have pl := lt_of_get hp
  have hap : p < as.length := by rw [c.la]; exact pl
  obtain ⟨p1, p2, p3, p4⟩ := c.inn p as[p] j cs (List.getElem?_eq_getElem hap) hp
  have at' : ∀ i y, (ns.set p (Nd.inner j (cs ++ [x])))[i]? = some y → (i = p ∧ y = Nd.inner j (cs ++ [x])) ∨ (i ≠ p ∧ ns[i]? = some y) := fun i y h => by
    by_cases e : i = p
    · subst e
      rw [List.getElem?_set_self pl] at h
      cases h
      exact .inl ⟨rfl, rfl⟩
    · rw [List.getElem?_set_ne (Ne.symm e)] at h
      exact .inr ⟨e, h⟩
  have inner : ∀ i j2 cs2, (ns.set p (Nd.inner j (cs ++ [x])))[i]? = some (Nd.inner j2 cs2) → ∃ cs3, ns[i]? = some (Nd.inner j2 cs3) := fun i j2 cs2 h => by
    rcases at' i _ h with ⟨rfl, y⟩ | ⟨_, y⟩
    · cases y; exact ⟨cs, hp⟩
    · exact ⟨cs2, y⟩
  have bb : ∀ o, But [ci p] H (upd H (ci p) o) := fun o => But.upd (by simp)
  refine ⟨ex_but c.ex (bb _) (by simpa using p3), by simp [c.la], fun i a m h1 h2 => ?_, fun i a j2 cs2 h1 h2 => ?_, c.sa, fun i i2 a j2 cs2 h1 h2 => ?_, fun i i2 j1 j2 cs1 cs2 h1 h2 => ?_⟩
  · rcases at' i _ h2 with ⟨_, y⟩ | ⟨_, y⟩
    · cases y
    · rw [upd_ne (c.sc i p a j cs h1 hp)]
      exact c.lf i a m h1 y
  · rcases at' i _ h2 with ⟨rfl, y⟩ | ⟨ne, y⟩
    · cases y
      rw [List.getElem?_eq_getElem hap] at h1
      cases h1
      exact ⟨by rw [upd_ne (c.sc i i _ j cs (List.getElem?_eq_getElem hap) hp)]; exact p1, upd_same, p3, p4⟩
    · obtain ⟨q1, q2, q3, q4⟩ := c.inn i a j2 cs2 h1 y
      exact ⟨by rw [upd_ne (c.sc i p a j cs h1 hp)]; exact q1, by rw [upd_ne (fun z => ne (c.dis i p j2 j cs2 cs y hp z))]; exact q2, q3, q4⟩
  · obtain ⟨cs3, y⟩ := inner i2 j2 cs2 h2
    exact c.sc i i2 a j2 cs3 h1 y
  · obtain ⟨cs3, y1⟩ := inner i j1 cs1 h1
    obtain ⟨cs4, y2⟩ := inner i2 j2 cs2 h2
    exact c.dis i i2 j1 j2 cs3 cs4 y1 y2
/-- a leaf's place taken by a new node -/
theorem Core.turn {H0 H : Hp} {M as : List Addr} {ci : Nat → Addr} {ns : List Nd} (c : Core H0 H M as ci ns) {old k : Nat} (ho : ns[old]? = some (Nd.leaf k)) {a2 c2 : Addr} {j : Bool} {cs : List Nat} (ha : H a2 = some (.lst [.str (wdS j), .ref c2])) (hc : H c2 = some (.lst (cs.map fun (x : Nat) => V.int x))) (f0 : H0 c2 = none) (n1 : a2 ∉ M) (n2 : c2 ∉ M)
    (s1 : ∀ (i : Nat) (a : Addr), as[i]? = some a → a ≠ c2) (s2 : a2 ≠ c2) (s3 : ∀ (i : Nat) (j : Bool) (cs : List Nat), ns[i]? = some (Nd.inner j cs) → a2 ≠ ci i ∧ c2 ≠ ci i) :
    Core H0 H M (as.set old a2) (fun i => if i = old then c2 else ci i) (ns.set old (Nd.inner j cs)) := by
  have ol := lt_of_get ho
  have oal : old < as.length := by rw [c.la]; exact ol
  have at' : ∀ i y, (ns.set old (Nd.inner j cs))[i]? = some y → (i = old ∧ y = Nd.inner j cs) ∨ (i ≠ old ∧ ns[i]? = some y) := fun i y h => by
    by_cases e : i = old
    · subst e
      rw [List.getElem?_set_self ol] at h
      cases h
      exact .inl ⟨rfl, rfl⟩
    · rw [List.getElem?_set_ne (Ne.symm e)] at h
      exact .inr ⟨e, h⟩
  have aat : ∀ i y, (as.set old a2)[i]? = some y → (i = old ∧ y = a2) ∨ (i ≠ old ∧ as[i]? = some y) := fun i y h => by
    by_cases e : i = old
    · subst e
      rw [List.getElem?_set_self oal] at h
      cases h
      exact .inl ⟨rfl, rfl⟩
    · rw [List.getElem?_set_ne (Ne.symm e)] at h
      exact .inr ⟨e, h⟩
  refine ⟨c.ex, by simp [c.la], fun i a m h1 h2 => ?_, fun i a j2 cs2 h1 h2 => ?_, fun i a h1 => ?_, fun i i2 a j2 cs2 h1 h2 => ?_, fun i i2 j1 j2 cs1 cs2 h1 h2 h3 => ?_⟩
  · rcases at' i _ h2 with ⟨_, y⟩ | ⟨ne, y⟩
    · cases y
    · rcases aat i _ h1 with ⟨e, _⟩ | ⟨_, x⟩
      · exact absurd e ne
      · exact c.lf i a m x y
  · rcases at' i _ h2 with ⟨rfl, y⟩ | ⟨ne, y⟩
    · cases y
      rcases aat i _ h1 with ⟨_, x⟩ | ⟨ne, _⟩
      · rw [if_pos rfl, x]
        exact ⟨ha, hc, f0, n2⟩
      · exact absurd rfl ne
    · rcases aat i _ h1 with ⟨e, _⟩ | ⟨_, x⟩
      · exact absurd e ne
      · rw [if_neg ne]
        exact c.inn i a j2 cs2 x y
  · rcases aat i _ h1 with ⟨_, x⟩ | ⟨_, x⟩
    · rw [x]; exact n1
    · exact c.sa i a x
  · rcases at' i2 _ h2 with ⟨rfl, y⟩ | ⟨ne, y⟩
    · rw [if_pos rfl]
      rcases aat i _ h1 with ⟨_, x⟩ | ⟨_, x⟩
      · rw [x]; exact s2
      · exact s1 i a x
    · rw [if_neg ne]
      rcases aat i _ h1 with ⟨_, x⟩ | ⟨_, x⟩
      · rw [x]; exact (s3 i2 j2 cs2 y).1
      · exact c.sc i i2 a j2 cs2 x y
  · have h3 : (if i = old then c2 else ci i) = (if i2 = old then c2 else ci i2) := h3
    rcases at' i _ h1 with ⟨e1, y1⟩ | ⟨ne1, y1⟩
    · rcases at' i2 _ h2 with ⟨e2, _⟩ | ⟨ne2, y2⟩
      · rw [e1, e2]
      · rw [if_pos e1, if_neg ne2] at h3
        exact absurd h3 (s3 i2 j2 cs2 y2).2
    · rcases at' i2 _ h2 with ⟨e2, _⟩ | ⟨ne2, y2⟩
      · rw [if_neg ne1, if_pos e2] at h3
        exact absurd h3.symm (s3 i j1 cs1 y1).2
      · rw [if_neg ne1, if_neg ne2] at h3
        exact c.dis i i2 j1 j2 cs1 cs2 y1 y2 h3
theorem Core.nodes {H0 H : Hp} {M as : List Addr} {ci : Nat → Addr} {ns : List Nd} {nl : Addr} (c : Core H0 H M as ci ns) (h : H nl = some (.lst (as.map V.ref))) : NodesAt H nl ns := ⟨as, h, c.la, fun i a n x y => by
  cases n with
  | leaf k => exact c.lf i a k x y
  | inner j cs => obtain ⟨h1, h2, _⟩ := c.inn i a j cs x y; exact ⟨ci i, h1, h2⟩⟩
/-- nodes that grew are told -/
theorem tall_of {ns : List Nd} {ab : List (Option Nat)} {lv dp : List Nat} {names : List Int} (G : Grown ns ab lv dp) (hl : lv.length ≤ names.length) : ∀ (f i d : Nat), dp[i]? = some d → ns.length + 1 ≤ f + d + lv.length → Tall ns names f i
  | 0, i, d, h, hf => by
    have := G.dpb i d h
    omega
  | f + 1, i, d, h, hf => by
    unfold Tall
    have hi : i < ns.length := by rw [← G.ld]; exact lt_of_get h
    cases e : ns[i] with
    | leaf k =>
      have e' : ns[i]? = some (Nd.leaf k) := by rw [List.getElem?_eq_getElem hi, e]
      have := lt_of_get (G.fl i k e')
      exact .inl ⟨k, e', by omega⟩
    | inner j cs =>
      have e' : ns[i]? = some (Nd.inner j cs) := by rw [List.getElem?_eq_getElem hi, e]
      refine .inr ⟨j, cs, e', fun c hc => ?_⟩
      obtain ⟨_, ⟨d', h1, h2⟩, _⟩ := (G.inn i j cs e').2.2 c hc
      rw [h] at h1
      cases h1
      exact tall_of G hl f c (d + 1) h2 (by omega)
end Jk

namespace Jk
open PySem L2 Evl
/-- a tree in its form, its points among the names -/
def spTree (K : PySem.W.Frag) : Sp := fun vs H Q _ => ∃ (a ml : Addr) (sc names : List Int) (most : Int), vs = [.ref a, .int most, .ref ml] ∧ SqL K H a (sc.map V.int) ∧ LsI H ml names ∧ names.Nodup ∧ (1 ≤ most ∧ most ≤ 30) ∧ min (most - 1) (sc.length : Int) + 1 ≤ names.length ∧
  ∀ v t H', Ex H H' → ToldAt H' v t → t.form → t.pts.Nodup → t.pts.Perm (names.take (min (most - 1) (sc.length : Int) + 1).toNat) → Q v H'
structure GS (H0 H : Hp) (nl al ll : Addr) (m : Nat) : Prop where
  ex : ∃ (as : List Addr) (ci : Nat → Addr) (ns : List Nd) (ab : List (Option Nat)) (lv dp : List Nat), Core H0 H [nl, al, ll] as ci ns ∧ Grown ns ab lv dp ∧ lv.length = m + 1 ∧ H nl = some (.lst (as.map V.ref)) ∧ H al = some (.lst (ab.map abV)) ∧ H ll = some (.lst (lv.map fun (x : Nat) => V.int x))
section
variable {P : Program} {w : World} {K : PySem.W.Frag} {mg : Str → Option Value} {base : Heap} {A : Adr}
theorem ok_l_tree (T : Txt K mg A) : FnOk P w K mg base CX0 35 A.a_l_tree A.d_l_tree ["_law_script", "_law_most", "_law_names"] (spTree K) := by
  refine T.F_l_tree.ok sc_l_tree (fun vs H Q E h => ?_) (fun cdv C outer s H vs Q E hr h => ?_)
  · obtain ⟨a, ml, sc, names, most, rfl, _⟩ := h
    rfl
  · obtain ⟨a, ml, sc, names, most, rfl, hS, hM, nd, hm, hn, k⟩ := h
    refine ⟨_, (pss_cons (ps_set (i := 3) sc_l_tree.nd rfl (Or.inl rfl) (pe_lstJ (pa_cons (pe_lstJ (pa_cons pe_str (pa_cons pe_int pa_nil))) pa_nil)))
  (pss_cons (ps_set (i := 4) sc_l_tree.nd rfl (Or.inl rfl) (pe_lstJ (pa_cons pe_non pa_nil)))
  (pss_cons (ps_set (i := 5) sc_l_tree.nd rfl (Or.inl rfl) (pe_lstJ (pa_cons pe_int pa_nil)))
  (pss_cons (ps_for PassesOwn.never rfl (pi_range1 rfl T.range (pa_cons (pe_callB (call_min2 rfl) (by rfl) T.min (by decide +kernel) (pa_cons (pe_op op_sub (pv 1) pe_int) (pa_cons (pe_callB call_len_seq (by rfl) T.len (by decide +kernel) (pa_cons (pv 0) pa_nil)) pa_nil))) pa_nil)) (pg_name (i := 6) sc_l_tree.nd rfl (.inl rfl))
    (pss_cons (ps_set (i := 7) sc_l_tree.nd rfl (Or.inl rfl) (pe_call (ok_l_number T) (hr.mono (by decide)) rfl T.g_l_number T.k_l_number T.b_l_number .nil pass0 (pa_cons (pv 0) (pa_cons (pv 6) pa_nil))))
      (pss_cons (ps_set (i := 8) sc_l_tree.nd rfl (Or.inl rfl) (pe_ix ix_listJ (pv 5) (pe_op op_mod (pe_op op_fdiv (pv 7) pe_int) (pe_callB call_lenJ (by rfl) T.len (by decide +kernel) (pa_cons (pv 5) pa_nil))) (fun _ _ => rfl)))
      (pss_cons (ps_set (i := 9) sc_l_tree.nd rfl (Or.inl rfl) (pe_ix ix_listJ (pe_lstJ (pa_cons pe_str (pa_cons pe_str pa_nil))) (pe_op op_mod (pv 7) pe_int) (fun _ _ => rfl)))
      (pss_cons (ps_expr (pe_bmL PySem.F.slot_list_append PySem.F.type_list_append mt_append (pv 5) (pa_cons (pe_callB call_lenJ (by rfl) T.len (by decide +kernel) (pa_cons (pv 3) pa_nil)) pa_nil)))
      (pss_cons (ps_expr (pe_bmL PySem.F.slot_list_append PySem.F.type_list_append mt_append (pv 3) (pa_cons (pe_lstJ (pa_cons pe_str (pa_cons (pe_op op_sub (pe_callB call_lenJ (by rfl) T.len (by decide +kernel) (pa_cons (pv 5) pa_nil)) pe_int) pa_nil))) pa_nil)))
      (pss_cons (ps_if (PW.pt (pw_and (pt_cmpR op_notN (pe_ix ix_listJ (pv 4) (pv 8) (fun _ _ => rfl)) pe_non (nomark _)) (pw_and1 (pt_cmpR op_eq (pe_ix ix_listJ (pe_ix ix_listJ (pv 3) (pe_ix ix_listJ (pv 4) (pv 8) (fun _ _ => rfl)) (fun _ _ => rfl)) pe_int (fun _ _ => rfl)) (pv 9) (nomark _)))))
        (pss_cons (ps_expr (pe_bmL PySem.F.slot_list_append PySem.F.type_list_append mt_append (pe_ix ix_listJ (pe_ix ix_listJ (pv 3) (pe_ix ix_listJ (pv 4) (pv 8) (fun _ _ => rfl)) (fun _ _ => rfl)) pe_int (fun _ _ => rfl)) (pa_cons (pe_op op_sub (pe_callB call_lenJ (by rfl) T.len (by decide +kernel) (pa_cons (pv 3) pa_nil)) pe_int) pa_nil)))
          (pss_cons (ps_expr (pe_bmL PySem.F.slot_list_append PySem.F.type_list_append mt_append (pv 4) (pa_cons (pe_ix ix_listJ (pv 4) (pv 8) (fun _ _ => rfl)) pa_nil)))
          (pss_one ps_continue)))
        pss_nil)
      (pss_cons (ps_expr (pe_bmL PySem.F.slot_list_append PySem.F.type_list_append mt_append (pv 4) (pa_cons (pv 8) pa_nil)))
      (pss_cons (ps_asg (pe_callB call_lenJ (by rfl) T.len (by decide +kernel) (pa_cons (pv 3) pa_nil)) (pg_sub (pv 5) (pe_bmL PySem.F.slot_list_index PySem.F.type_list_index mt_indexI (pv 5) (pa_cons (pv 8) pa_nil)) set_listJ))
      (pss_cons (ps_expr (pe_bmL PySem.F.slot_list_append PySem.F.type_list_append mt_append (pv 4) (pa_cons (pv 8) pa_nil)))
      (pss_cons (ps_expr (pe_bmL PySem.F.slot_list_append PySem.F.type_list_append mt_append (pv 3) (pa_cons (pe_ix ix_listJ (pv 3) (pv 8) (fun _ _ => rfl)) pa_nil)))
      (pss_one (ps_asg (pe_lstJ (pa_cons (pv 9) (pa_cons (pe_lstJ (pa_cons (pe_op op_sub (pe_callB call_lenJ (by rfl) T.len (by decide +kernel) (pa_cons (pv 3) pa_nil)) pe_int) (pa_cons (pe_op op_sub (pe_callB call_lenJ (by rfl) T.len (by decide +kernel) (pa_cons (pv 3) pa_nil)) pe_int) pa_nil))) pa_nil))) (pg_sub (pv 3) (pv 8) set_listJ))))))))))))))
  (pss_one (ps_ret (pe_call (ok_l_told T 31) (hr.mono (by decide)) rfl T.g_l_told T.k_l_told T.b_l_told .nil pass0 (pa_cons (pv 3) (pa_cons pe_int (pa_cons (pv 2) pa_nil)))))))))), ?_⟩
    simp [L2.start, and_assoc]
    intro a0 K0 m0 g0 l0 nl K1 m1 g1 l1 al K2 m2 g2 l2 ll K3 m3 g3 l3
    have e02 := (g0.trans g1).trans g2
    have e03 := e02.trans g3
    have nal : nl ≠ al := ne_of_none l1 m2
    have nll : nl ≠ ll := ne_of_none (g2 _ _ l1) m3
    have all : al ≠ ll := ne_of_none l2 m3
    have fn : H nl = none := fresh_back g0 m1
    have fa : H al = none := fresh_back (g0.trans g1) m2
    have fl : H ll = none := fresh_back e02 m3
    have S0 : GS H K3 nl al ll 0 := by
      refine ⟨[a0], fun _ => 0, [Nd.leaf 0], [none], [0], [0], ⟨e03, rfl, fun i b q x y => ?_, fun i b j cs x y => ?_, fun i b x => ?_, fun i i2 b j cs x y => ?_, fun i i2 j j2 cs cs2 x y => ?_⟩, grown_start, rfl, (g2.trans g3) _ _ l1, g3 _ _ l2, l3⟩
      · match i, x, y with
        | 0, x, y => cases x; cases y; exact ((g1.trans g2).trans g3) _ _ l0
        | i + 1, x, y => simp at x
      · match i, y with
        | 0, y => cases y
        | i + 1, y => simp at y
      · match i, x with
        | 0, x =>
          cases x
          have b1 : a0 ≠ nl := ne_of_none l0 m1
          have b2 : a0 ≠ al := ne_of_none (g1 _ _ l0) m2
          have b3 : a0 ≠ ll := ne_of_none ((g1.trans g2) _ _ l0) m3
          simp [b1, b2, b3]
        | i + 1, x => simp at x
      · match i2, y with
        | 0, y => cases y
        | i + 1, y => simp at y
      · match i, x with
        | 0, x => cases x
        | i + 1, x => simp at x
    have hlen : ((sc.map V.int).length : Int) = sc.length := by rw [List.length_map]
    have fresh3 : ∀ m ∈ [nl, al, ll], H m = none := fun m h => by
      simp only [List.mem_cons, List.not_mem_nil, or_false] at h
      rcases h with rfl | rfl | rfl <;> assumption
    refine ⟨_, rfl, most, 1, rfl, rfl, _, rfl, a, rfl, _, .inl (sql_up hS e03), _, _, rfl, _, rfl, by rw [hlen]; split <;> omega, by rw [hlen]; split <;> omega, for_range (fun i σ H' => ∃ (b6 b7 b8 b9 : Option V), σ = [some (.ref a), some (.int most), some (.ref ml), some (.ref nl), some (.ref al), some (.ref ll), b6, b7, b8, b9] ∧ GS H H' nl al ll i) ⟨none, none, none, none, rfl, S0⟩ (fun i σ H' hi h => ?_) (fun σ H' h => ?_)⟩
    · obtain ⟨b6, b7, b8, b9, rfl, ⟨as, ci, ns, ab, lv, dp, c, G, hl, hn', ha', hl'⟩⟩ := h
      have hi30 : i < 29 := by rw [hlen] at hi; split at hi <;> omega
      have hS1 := sql_up hS c.ex
      rw [Int.zero_add]
      refine seq_by (fun σ1 H1 => ∃ c7 : Int, σ1 = [some (.ref a), some (.int most), some (.ref ml), some (.ref nl), some (.ref al), some (.ref ll), some (.int i), some (.int c7), b8, b9] ∧ 0 ≤ c7 ∧ H1 = H') (fun N hN => ?_) (fun s1 H1 m => ?_)
      · simp [and_assoc, spNumber]
        exact ⟨sc, hS1, by omega, hN _ _ ⟨_, rfl, mixed_nn _ _, rfl⟩⟩
      obtain ⟨c7, rfl, c70, rfl⟩ := m
      have lpos : 0 < lv.length := by omega
      have q0 := Int.emod_nonneg (c7 / 2) (show (lv.length : Int) ≠ 0 by omega)
      have q1 := Int.emod_lt_of_pos (c7 / 2) (show (0 : Int) < lv.length by omega)
      obtain ⟨kk, ekk⟩ : ∃ kk : Nat, c7 / 2 % (lv.length : Int) = kk := ⟨_, (Int.toNat_of_nonneg q0).symm⟩
      have kl : kk < lv.length := by omega
      obtain ⟨old, hk⟩ : ∃ old, lv[kk]? = some old := ⟨_, List.getElem?_eq_getElem kl⟩
      have ho := G.lf kk old hk
      have ol := lt_of_get ho
      obtain ⟨jw, ejw⟩ : ∃ jw : Bool, [V.str (Str.ofString "side"), V.str (Str.ofString "join")][(c7 % 2).toNat]? = some (.str (wdS jw)) := by
        rcases (show (c7 % 2).toNat = 0 ∨ (c7 % 2).toNat = 1 by omega) with e | e
        · exact ⟨false, by rw [e]; rfl⟩
        · exact ⟨true, by rw [e]; rfl⟩
      refine seq_by (fun σ1 H2 => σ1 = [some (.ref a), some (.int most), some (.ref ml), some (.ref nl), some (.ref al), some (.ref ll), some (.int i), some (.int c7), some (.int old), b9] ∧ H2 = H1) (fun N hN => ?_) (fun s1 H2 m => ?_)
      · simp [and_assoc, hl']
        refine ⟨by simp [CDiv], lpos, q0, .int old, ⟨old, ?_, rfl⟩, hN _ _ ⟨rfl, rfl⟩⟩
        rw [ekk]; exact hk
      obtain ⟨rfl, rfl⟩ := m
      refine seq_by (fun σ1 H3 => σ1 = [some (.ref a), some (.int most), some (.ref ml), some (.ref nl), some (.ref al), some (.ref ll), some (.int i), some (.int c7), some (.int old), some (.str (wdS jw))] ∧ Ex H2 H3) (fun N hN => ?_) (fun s1 H3 m => ?_)
      · simp [and_assoc]
        intro p1 K1 n1 e1 h1
        exact ⟨_, h1, by omega, _, ejw, hN _ _ ⟨rfl, e1⟩⟩
      obtain ⟨rfl, e23⟩ := m
      have c3 := c.up e23
      have hn3 := e23 _ _ hn'
      have ha3 := e23 _ _ ha'
      have hl3 := e23 _ _ hl'
      have cnt := G.cnt
      have gle := G.le
      have la := G.la
      have asl := c.la
      have bM : ∀ (m : Addr) (o : HO) (Hx : Hp), m ∈ [nl, al, ll] → But [nl, al, ll] Hx (upd Hx m o) := fun m o Hx h => But.upd h
      refine seq_by (fun σ1 H4 => σ1 = [some (.ref a), some (.int most), some (.ref ml), some (.ref nl), some (.ref al), some (.ref ll), some (.int i), some (.int c7), some (.int old), some (.str (wdS jw))] ∧ Core H H4 [nl, al, ll] as ci ns ∧ H4 nl = some (.lst (as.map V.ref)) ∧ H4 al = some (.lst (ab.map abV)) ∧ H4 ll = some (.lst ((lv ++ [ns.length]).map fun (x : Nat) => V.int x))) (fun N hN => ?_) (fun s1 H4 m => ?_)
      · simp [hl3, hn3]
        refine ⟨lt_line (by omega), hN _ _ ⟨rfl, c3.keep (bM ll _ _ (by simp)) fresh3, ?_, ?_, ?_⟩⟩
        · rw [upd_ne nll]; exact hn3
        · rw [upd_ne all]; exact ha3
        · rw [upd_same, List.map_append, asl]; rfl
      obtain ⟨rfl, c4, hn4, ha4, hl4⟩ := m
      refine seq_by (fun σ1 H5 => ∃ a5 : Addr, σ1 = [some (.ref a), some (.int most), some (.ref ml), some (.ref nl), some (.ref al), some (.ref ll), some (.int i), some (.int c7), some (.int old), some (.str (wdS jw))] ∧ Core H H5 [nl, al, ll] (as ++ [a5]) ci (ns ++ [Nd.leaf lv.length]) ∧ H5 nl = some (.lst ((as ++ [a5]).map V.ref)) ∧ H5 al = some (.lst (ab.map abV)) ∧ H5 ll = some (.lst ((lv ++ [ns.length]).map fun (x : Nat) => V.int x))) (fun N hN => ?_) (fun s1 H5 m => ?_)
      · simp [hn4, hl4]
        intro a5 K1 n1 e1 h1
        have b1 : a5 ≠ nl := (ne_of_none hn4 n1).symm
        have b2 : a5 ≠ al := (ne_of_none ha4 n1).symm
        have b3 : a5 ≠ ll := (ne_of_none hl4 n1).symm
        refine ⟨_, e1 _ _ hn4, lt_line (by simp; omega), hN _ _ ⟨a5, rfl, Core.leaf ((c4.up e1).keep (bM nl _ _ (by simp)) fresh3) ?_ (by simp [b1, b2, b3]) (fun i2 j cs hi2 => ?_), ?_, ?_, ?_⟩⟩
        · rw [upd_ne b1, h1]
        · have hb : i2 < as.length := by rw [asl]; exact lt_of_get hi2
          have := (c4.inn i2 as[i2] j cs (List.getElem?_eq_getElem hb) hi2).2.1
          exact (ne_of_none this n1).symm
        · rw [upd_same, List.map_append]; rfl
        · rw [upd_ne nal.symm]; exact e1 _ _ ha4
        · rw [upd_ne nll.symm]; exact e1 _ _ hl4
      obtain ⟨a5, rfl, c5, hn5, ha5, hl5⟩ := m
      obtain ⟨oa, hoa⟩ : ∃ oa, ab[old]? = some oa := ⟨_, List.getElem?_eq_getElem (by rw [la]; exact ol)⟩
      have haold : (ab.map abV)[old]? = some (abV oa) := by rw [List.getElem?_map, hoa]; rfl
      refine seq_by (fun σ1 H6 => σ1 = [some (.ref a), some (.int most), some (.ref ml), some (.ref nl), some (.ref al), some (.ref ll), some (.int i), some (.int c7), some (.int old), some (.str (wdS jw))] ∧ H6 = H5 ∧ ∀ p, ab[old]? = some (some p) → ∀ cs, ns[p]? ≠ some (Nd.inner jw cs)) (fun N hN => ?_) (fun s1 H6 m => ?_)
      · cases oa with
        | none =>
          simp [and_assoc, ha5, haold, abV]
          exact hN _ _ ⟨rfl, rfl, fun p hp => by rw [hoa] at hp; cases hp⟩
        | some p =>
          obtain ⟨j, cs, hp, hmem⟩ := G.par old p hoa
          have pl := lt_of_get hp
          have hp1 : (ns ++ [Nd.leaf lv.length])[p]? = some (Nd.inner j cs) := get_app hp
          obtain ⟨ap, hap⟩ : ∃ ap, (as ++ [a5])[p]? = some ap := ⟨_, List.getElem?_eq_getElem (by simp; omega)⟩
          have hapv : ((as ++ [a5]).map V.ref)[p]? = some (.ref ap) := by rw [List.getElem?_map, hap]; rfl
          obtain ⟨i1, i2, i3, i4⟩ := c5.inn p ap j cs hap hp1
          have hci : ci p ≠ nl ∧ ci p ≠ al ∧ ci p ≠ ll := by simpa using i4
          obtain ⟨dpp, hdp⟩ : ∃ dpp, dp[p]? = some dpp := ⟨_, List.getElem?_eq_getElem (by rw [G.ld]; exact pl)⟩
          simp [and_assoc, ha5, haold, abV]
          refine ⟨_, hn5, _, hapv, ?_⟩
          simp [i1]
          by_cases hjj : j = jw
          · subst hjj
            refine .inr ⟨rfl, _, ha5, .int p, haold, ?_⟩
            simp [hn5]
            refine ⟨.ref ap, by simpa using hapv, ?_⟩
            simp [i1, i2]
            have cl : cs.length < sizeLine := by
              have bound : ∀ x ∈ cs, x < ns.length := fun x hx => by
                have := lt_of_get ((G.inn p j cs hp).2.2 x hx).1
                omega
              have z := nd_len (ns := cs.map fun (x : Nat) => (x : Int)) (m := ns.length) (by
                unfold List.Nodup
                rw [List.pairwise_map]
                exact (G.inn p j cs hp).2.1.imp fun h e => h (by omega)) (fun n hn => by
                obtain ⟨x, hx, rfl⟩ := List.mem_map.mp hn
                have := bound x hx
                omega)
              exact lt_line (by simp at z; omega)
            have up1 : ∀ o, (upd H5 (ci p) o) al = some (.lst (ab.map abV)) := fun o => by rw [upd_ne hci.2.1.symm]; exact ha5
            refine ⟨_, hn5, cl, ⟨_, up1 _⟩, _, up1 _, .int p, haold, _, up1 _, lt_line (by simp; omega), ?_⟩
            have asz : (as.length : Int) + 1 - 1 = (ns.length : Int) := by omega
            have more := (c5.more hp1 ns.length).keep (bM al (.lst (ab.map abV ++ [.int p])) _ (by simp)) fresh3
            have eqc : (cs ++ [ns.length]).map (fun (x : Nat) => V.int x) = cs.map (fun (x : Nat) => V.int x) ++ [V.int ns.length] := by rw [List.map_append]; rfl
            rw [eqc] at more
            refine ⟨as ++ [a5], ci, _, ab ++ [some p], lv ++ [ns.length], dp ++ [dpp + 1], ?_, grown_more G hp hdp, by simp [hl], ?_, ?_, ?_⟩
            · have z : ((((as ++ [a5]).map V.ref).length : Int) - 1) = (ns.length : Int) := by simp [asl]
              rw [z]
              exact more
            · rw [upd_ne nal, upd_ne hci.1.symm]; exact hn5
            · rw [upd_same, List.map_append]; rfl
            · rw [upd_ne all.symm, upd_ne hci.2.2.symm]; exact hl5
          · refine .inl ⟨?_, hN _ _ ⟨rfl, rfl, fun p' hp' cs' z => ?_⟩⟩
            · cases j <;> cases jw <;> first | exact absurd rfl hjj | decide +kernel
            · rw [hoa] at hp'
              cases hp'
              rw [hp] at z
              have : j = jw := by cases z; rfl
              exact hjj this
      obtain ⟨rfl, rfl, hw⟩ := m
      have atk : (lv ++ [ns.length])[kk]? = some old := get_app hk
      obtain ⟨dpo, hdo⟩ : ∃ dpo, dp[old]? = some dpo := ⟨_, List.getElem?_eq_getElem (by rw [G.ld]; exact ol)⟩
      refine seq_by (fun σ1 H7 => σ1 = [some (.ref a), some (.int most), some (.ref ml), some (.ref nl), some (.ref al), some (.ref ll), some (.int i), some (.int c7), some (.int old), some (.str (wdS jw))] ∧ Core H H7 [nl, al, ll] (as ++ [a5]) ci (ns ++ [Nd.leaf lv.length]) ∧ H7 nl = some (.lst ((as ++ [a5]).map V.ref)) ∧ H7 al = some (.lst ((ab ++ [some old]).map abV)) ∧ H7 ll = some (.lst ((lv ++ [ns.length]).map fun (x : Nat) => V.int x))) (fun N hN => ?_) (fun s1 H7 m => ?_)
      · simp [ha5]
        refine ⟨lt_line (by omega), hN _ _ ⟨rfl, c5.keep (bM al _ _ (by simp)) fresh3, ?_, ?_, ?_⟩⟩
        · rw [upd_ne nal]; exact hn5
        · rw [upd_same, List.map_append]; rfl
        · rw [upd_ne all.symm]; exact hl5
      obtain ⟨rfl, c7', hn7, ha7, hl7⟩ := m
      refine seq_by (fun σ1 H8 => σ1 = [some (.ref a), some (.int most), some (.ref ml), some (.ref nl), some (.ref al), some (.ref ll), some (.int i), some (.int c7), some (.int old), some (.str (wdS jw))] ∧ Core H H8 [nl, al, ll] (as ++ [a5]) ci (ns ++ [Nd.leaf lv.length]) ∧ H8 nl = some (.lst ((as ++ [a5]).map V.ref)) ∧ H8 al = some (.lst ((ab ++ [some old]).map abV)) ∧ H8 ll = some (.lst (((lv ++ [ns.length]).set kk (ns.length + 1)).map fun (x : Nat) => V.int x))) (fun N hN => ?_) (fun s1 H8 m => ?_)
      · have hli : LsI H7 ll ((lv ++ [ns.length]).map fun (x : Nat) => (x : Int)) := by
          unfold LsI
          rw [hl7, List.map_map]
          rfl
        simp [hn7, hl7, lsI_ex hli]
        have le1 : (List.map (fun (x : Nat) => (x : Int)) lv ++ [(ns.length : Int)]) = (lv ++ [ns.length]).map (fun (x : Nat) => (x : Int)) := by rw [List.map_append]; rfl
        rw [le1]
        refine ⟨kk, by rw [List.getElem?_map, atk]; rfl, fun m hm z => ?_, by omega, hN _ _ ⟨rfl, c7'.keep (bM ll _ _ (by simp)) fresh3, ?_, ?_, ?_⟩⟩
        · rw [List.getElem?_map] at z
          cases zz : (lv ++ [ns.length])[m]? with
          | none => rw [zz] at z; cases z
          | some y =>
            rw [zz] at z
            have z : (y : Int) = old := Option.some.inj z
            have y0 : y = old := by omega
            subst y0
            have hm' : lv[m]? = some y := by
              rcases app_get zz with ⟨_, q⟩ | ⟨q, _⟩
              · exact q
              · omega
            have := G.lf m y hm'
            rw [ho] at this
            have : kk = m := by cases this; rfl
            omega
        · rw [upd_ne nll]; simpa using hn7
        · rw [upd_ne all]; simpa using ha7
        · rw [upd_same, List.map_set, List.map_append, asl]; rfl
      obtain ⟨rfl, c8, hn8, ha8, hl8⟩ := m
      refine seq_by (fun σ1 H9 => σ1 = [some (.ref a), some (.int most), some (.ref ml), some (.ref nl), some (.ref al), some (.ref ll), some (.int i), some (.int c7), some (.int old), some (.str (wdS jw))] ∧ Core H H9 [nl, al, ll] (as ++ [a5]) ci (ns ++ [Nd.leaf lv.length]) ∧ H9 nl = some (.lst ((as ++ [a5]).map V.ref)) ∧ H9 al = some (.lst ((ab ++ [some old] ++ [some old]).map abV)) ∧ H9 ll = some (.lst (((lv ++ [ns.length]).set kk (ns.length + 1)).map fun (x : Nat) => V.int x))) (fun N hN => ?_) (fun s1 H9 m => ?_)
      · simp [ha8]
        refine ⟨lt_line (by simp; omega), hN _ _ ⟨rfl, c8.keep (bM al _ _ (by simp)) fresh3, ?_, ?_, ?_⟩⟩
        · rw [upd_ne nal]; exact hn8
        · rw [upd_same]; simp [abV]
        · rw [upd_ne all.symm]; exact hl8
      obtain ⟨rfl, c9, hn9, ha9, hl9⟩ := m
      obtain ⟨ao, hao⟩ : ∃ ao, (as ++ [a5])[old]? = some ao := ⟨_, List.getElem?_eq_getElem (by simp; omega)⟩
      have haov : ((as ++ [a5]).map V.ref)[old]? = some (.ref ao) := by rw [List.getElem?_map, hao]; rfl
      have ho1 : (ns ++ [Nd.leaf lv.length])[old]? = some (Nd.leaf kk) := get_app ho
      refine seq_by (fun σ1 H10 => σ1 = [some (.ref a), some (.int most), some (.ref ml), some (.ref nl), some (.ref al), some (.ref ll), some (.int i), some (.int c7), some (.int old), some (.str (wdS jw))] ∧ Core H H10 [nl, al, ll] (as ++ [a5] ++ [ao]) ci (ns ++ [Nd.leaf lv.length] ++ [Nd.leaf kk]) ∧ H10 nl = some (.lst ((as ++ [a5] ++ [ao]).map V.ref)) ∧ H10 al = some (.lst ((ab ++ [some old] ++ [some old]).map abV)) ∧ H10 ll = some (.lst (((lv ++ [ns.length]).set kk (ns.length + 1)).map fun (x : Nat) => V.int x))) (fun N hN => ?_) (fun s1 H10 m => ?_)
      · simp [hn9]
        have le1 : (List.map V.ref as ++ [V.ref a5]) = (as ++ [a5]).map V.ref := by rw [List.map_append]; rfl
        rw [le1]
        refine ⟨.ref ao, haov, lt_line (by omega), hN _ _ ⟨rfl, Core.leaf (c9.keep (bM nl _ _ (by simp)) fresh3) ?_ (c9.sa old ao hao) (fun i2 j cs hi2 => c9.sc old i2 ao j cs hao hi2), ?_, ?_, ?_⟩⟩
        · have q := c9.sa old ao hao
          rw [upd_ne (fun z => q (by simp [z]))]
          exact c9.lf old ao kk hao ho1
        · rw [upd_same]; simp
        · rw [upd_ne nal.symm]; exact ha9
        · rw [upd_ne nll.symm]; exact hl9
      obtain ⟨rfl, c10, hn10, ha10, hl10⟩ := m
      have ho2 : (ns ++ [Nd.leaf lv.length] ++ [Nd.leaf kk])[old]? = some (Nd.leaf kk) := get_app ho1
      simp [hn10]
      intro c2 K1 n1 e1 h1 a2 K2 n2 e2 h2
      have e12 := e1.trans e2
      have hnK := e12 _ _ hn10
      have hnK' : K2 nl = some (.lst ((as ++ [a5] ++ [ao]).map V.ref)) := hnK
      have c11 := c10.up e12
      have nf : ∀ m ∈ [nl, al, ll], K1 m ≠ none ∧ H10 m ≠ none := fun m h => by
        simp only [List.mem_cons, List.not_mem_nil, or_false] at h
        rcases h with rfl | rfl | rfl
        · exact ⟨by rw [e1 _ _ hn10]; simp, by rw [hn10]; simp⟩
        · exact ⟨by rw [e1 _ _ ha10]; simp, by rw [ha10]; simp⟩
        · exact ⟨by rw [e1 _ _ hl10]; simp, by rw [hl10]; simp⟩
      have tn := c11.turn (a2 := a2) (c2 := c2) (j := jw) (cs := [ns.length + 1, ns.length]) ho2 h2 (by rw [e2 _ _ h1]; simp [asl]; omega) (fresh_back c10.ex n1) (fun z => (nf a2 z).1 n2) (fun z => (nf c2 z).2 n1)
        (fun i2 b hb z => c10.there hb (by rw [z]; exact n1)) (fun z => by rw [z, h1] at n2; cases n2) (fun i2 j cs hi2 => by
          have hb : i2 < (as ++ [a5] ++ [ao]).length := by rw [c10.la]; exact lt_of_get hi2
          have q := (c10.inn i2 _ j cs (List.getElem?_eq_getElem hb) hi2).2.1
          exact ⟨(ne_of_none (e1 _ _ q) n2).symm, (ne_of_none q n1).symm⟩)
      refine ⟨_, hnK, by simp; omega, (as ++ [a5] ++ [ao]).set old a2, _, _, ab ++ [some old] ++ [some old], (lv ++ [ns.length]).set kk (ns.length + 1), dp ++ [dpo + 1] ++ [dpo + 1], tn.keep (bM nl _ _ (by simp)) fresh3, grown_split G hk hdo hw, by simp [hl], ?_, ?_, ?_⟩
      · rw [upd_same, List.map_set]
      · rw [upd_ne nal.symm]; exact e12 _ _ ha10
      · rw [upd_ne nll.symm]; exact e12 _ _ hl10
    · obtain ⟨b6, b7, b8, b9, rfl, ⟨as, ci, ns, ab, lv, dp, c, G, hl, hn', ha', hl'⟩⟩ := h
      simp
      have hM' : LsI H' ml names := c.ex _ _ hM
      have elen : lv.length = (min (most - 1) (sc.length : Int) + 1).toNat := by rw [hl, hlen]; split <;> omega
      have ntop : dp[0]? = some 0 := (G.top 0 G.root).2
      have cnt := G.cnt
      have lve : lv.length ≤ names.length := by omega
      have l30 : lv.length ≤ 30 := by omega
      refine ⟨nl, ml, 0, ns, ab, lv, dp, names, rfl, c.nodes hn', hM', G, nd, by omega, tall_of G lve 31 0 0 ntop (by omega), fun v t H2 e2 ht hb => ?_⟩
      have ok := built_ok G nd 31 0 t hb
      have bp := built_pts G nd hb lve
      rw [elen] at bp
      exact k v t H2 (c.ex.trans e2) ht ok.1 ok.2.1 bp
end
end Jk

namespace Jk
open PySem L2 Evl
/-- a list's own place is not changed by what is new -/
theorem LsI.cat {H : Hp} {l b : Addr} {xs ys : List Int} (h : LsI H l xs) (g : LsI H b ys) {Q : VK} (hb : xs.length + ys.length ≤ 100000) (k : ∀ p H2, H p = none → Ex H H2 → LsI H2 p (xs ++ ys) → Q (.ref p) H2) : jCat (.ref l) (.ref b) H Q := by
  rw [j_cat]
  exact ⟨_, h, _, g, by simpa using hb, fun p H2 n e h2 => k p H2 n e (by unfold LsI; rw [h2, List.map_append])⟩
def spPts (d : Nat) : Sp := fun vs H Q _ => ∃ (v : V) (t : Tr), vs = [v] ∧ ToldAt H v t ∧ t.dep < d ∧ t.pts.length ≤ 1000 ∧ ∀ q H', H q = none → Ex H H' → LsI H' q t.pts → Q (.ref q) H'
theorem told_kind {H : Hp} {v : V} {t : Tr} (h : ToldAt H v t) : (∃ n, t = .pt n ∧ v = .int n) ∨ ∃ j ts a b vs, t = .nd j ts ∧ v = .ref a ∧ H a = some (.tup [.str (wdS j), .ref b]) ∧ H b = some (.tup vs) ∧ ToldL H vs ts := by
  cases t with
  | pt n => rw [ToldAt] at h; exact .inl ⟨n, rfl, h⟩
  | nd j ts =>
    rw [ToldAt] at h
    obtain ⟨a, b, vs, e, h1, h2, h3⟩ := h
    exact .inr ⟨j, ts, a, b, vs, rfl, e, h1, h2, h3⟩
theorem pts_take (ts : List Tr) (i : Nat) : (ptsL (ts.take i)).length ≤ (ptsL ts).length := by
  have z : ptsL ts = ptsL (ts.take i) ++ ptsL (ts.drop i) := by rw [← ptsL_app, List.take_append_drop]
  rw [z, List.length_append]; omega
theorem pts_step {ts : List Tr} {i : Nat} {u : Tr} (h : ts[i]? = some u) : ptsL (ts.take (i + 1)) = ptsL (ts.take i) ++ u.pts := by rw [take_one h, ptsL_app, ptsL, ptsL, List.append_nil]
section
variable {P : Program} {w : World} {K : PySem.W.Frag} {mg : Str → Option Value} {base : Heap} {A : Adr}
theorem none_spPts {f : Addr} {fd : FuncData} {ps : List Str} {k : Nat} : FnOk P w K mg base CX0 k f fd ps (spPts 0) :=
  ⟨fun vs H Q E ⟨_, _, _, _, h, _⟩ => absurd h (Nat.not_lt_zero _), fun A outer s H args us vs Q E _ _ _ _ ⟨_, _, _, _, h, _⟩ => absurd h (Nat.not_lt_zero _)⟩
theorem step_l_points (T : Txt K mg A) {d : Nat} (ih : FnOk P w K mg base CX0 (d + 1) A.a_l_points A.d_l_points ["_law_told_here"] (spPts d)) : FnOk P w K mg base CX0 (d + 2) A.a_l_points A.d_l_points ["_law_told_here"] (spPts (d + 1)) := by
  refine T.F_l_points.ok sc_l_points (fun vs H Q E h => ?_) (fun cdv C outer s H vs Q E hr h => ?_)
  · obtain ⟨v, t, rfl, _⟩ := h
    rfl
  · obtain ⟨v, t, rfl, hv, hd, few, k⟩ := h
    refine ⟨_, (pss_cons (ps_if (pt_not (pt_val (pe_callB call_isJ (by rfl) T.isinstance (by decide +kernel) (pa_cons (pv 0) (pa_cons (pe_bltn (v := .ty "tuple") (u := .type "tuple") (by rfl) T.tuple (by decide +kernel) rfl) pa_nil)))))
    (pss_one (ps_ret (pe_lstJ (pa_cons (pv 0) pa_nil))))
    pss_nil)
  (pss_cons (ps_set (i := 1) sc_l_points.nd rfl (Or.inl rfl) (pe_lstJ pa_nil))
  (pss_cons (ps_for PassesOwn.never rfl (pi_tup (pe_ix ix_tupJ (pv 0) pe_int (fun _ _ => rfl))) (pg_name (i := 2) sc_l_points.nd rfl (.inl rfl))
    (pss_one (ps_set (i := 1) sc_l_points.nd rfl (Or.inl rfl) (pe_op op_catJ (pv 1) (pe_call ih (hr.mono (by omega)) rfl T.g_l_points T.k_l_points T.b_l_points .nil pass0 (pa_cons (pv 2) pa_nil))))))
  (pss_one (ps_ret (pv 1)))))), ?_⟩
    rcases told_kind hv with ⟨n, rfl, rfl⟩ | ⟨j, ts, a, b, vs, rfl, rfl, h1, h2, h3⟩
    · simp [L2.start]
      intro q H1 n1 e1 h1
      exact k q H1 n1 e1 (by rw [Tr.pts]; exact h1)
    · simp [L2.start, and_assoc, tyN_tup h1]
      intro D H1 n1 e1 hD
      rw [Tr.pts] at few k
      rw [Tr.dep] at hd
      refine ⟨_, rfl, a, _, 1, _, rfl, rfl, e1 _ _ h1, by decide, rfl, b, rfl, ⟨_, .inl (.inl (e1 _ _ h2))⟩, for_tup (xs := vs) (fun i σ H2 => ∃ (D2 : Addr) (b2 : Option V), σ = [some (.ref a), some (.ref D2), b2] ∧ Ex H1 H2 ∧ H D2 = none ∧ LsI H2 D2 (ptsL (ts.take i))) ⟨D, none, rfl, Ex.refl _, n1, by unfold LsI; simpa [ptsL] using hD⟩ (fun i σ H2 _ h => ?_) (fun i x σ H2 hx h => ?_) (fun σ H2 h => ?_)⟩
      · obtain ⟨D2, b2, rfl, e, _⟩ := h
        exact .inl (.inl ((e1.trans e) _ _ h2))
      · obtain ⟨D2, b2, rfl, e, nD, hL⟩ := h
        obtain ⟨u, hu, hat⟩ := h3.get hx
        have pstep := pts_step hu
        have l1 := pts_take ts (i + 1)
        rw [pstep, List.length_append] at l1
        have e02 := e1.trans e
        simp
        refine ⟨x, u, rfl, hat.up e02, by have := depL_le (List.mem_of_getElem? hu); omega, by omega, fun q H3 n3 e3 h3' => ?_⟩
        refine LsI.cat (hL.up e3) h3' (by omega) fun p H4 n4 e4 h4 => ⟨p, rfl, ?_⟩
        have e14 := e.trans (e3.trans e4)
        exact ⟨e14, fresh_back (e02.trans e3) n4, by rw [pstep]; exact h4⟩
      · obtain ⟨D2, b2, rfl, e, nD, hL⟩ := h
        rw [List.take_of_length_le (by rw [h3.len]; exact Nat.le_refl _)] at hL
        exact ⟨_, rfl, k D2 H2 nD (e1.trans e) hL⟩
theorem ok_l_points (T : Txt K mg A) : ∀ d : Nat, FnOk P w K mg base CX0 (d + 1) A.a_l_points A.d_l_points ["_law_told_here"] (spPts d)
  | 0 => none_spPts
  | d + 1 => step_l_points T (ok_l_points T d)
end
end Jk

namespace Jk
open PySem L2 Evl
theorem LsP.cat {H : Hp} {l b : Addr} {xs ys : List (Int × Int)} (h : LsP H l xs) (g : LsP H b ys) {Q : VK} (hb : xs.length + ys.length ≤ 100000) (k : ∀ p H2, H p = none → Ex H H2 → LsP H2 p (xs ++ ys) → Q (.ref p) H2) : jCat (.ref l) (.ref b) H Q := by
  obtain ⟨ts, h1, h2⟩ := h
  obtain ⟨us, g1, g2⟩ := g
  rw [j_cat]
  exact ⟨_, h1, _, g1, by simp [h2.1, g2.1]; omega, fun p H2 n e z => k p H2 n e ⟨ts ++ us, by rw [z, List.map_append], (h2.up e).app (g2.up e)⟩⟩
theorem ite_min (a b : Int) : (if b < a then b else a) = min a b := by split <;> omega
theorem ite_max (a b : Int) : (if b > a then b else a) = max a b := by split <;> omega
theorem sq_le {a b : Nat} (h : a ≤ b) (hb : b ≤ 100) : a * a ≤ 10000 := Nat.le_trans (Nat.mul_le_mul (Nat.le_trans h hb) (Nat.le_trans h hb)) (by decide)
theorem wd_join (j : Bool) : (wdS j = ("join" : Str)) ↔ j = true := by cases j <;> simp [wdS] <;> decide +kernel
theorem ties_take (j : Bool) (ts : List Tr) (i : Nat) : (trTies j [] (ts.take i)).length ≤ (ptsL ts).length * (ptsL ts).length := by
  have := trTies_len j [] (ts.take i)
  have z := pts_take ts i
  simp at this
  exact Nat.le_trans this (Nat.mul_le_mul z z)
def spTiesT (d : Nat) : Sp := fun vs H Q _ => ∃ (v : V) (t : Tr), vs = [v] ∧ ToldAt H v t ∧ t.dep < d ∧ t.pts.length ≤ 100 ∧ ∀ q H', H q = none → Ex H H' → LsP H' q t.ties → Q (.ref q) H'
section
variable {P : Program} {w : World} {K : PySem.W.Frag} {mg : Str → Option Value} {base : Heap} {A : Adr}
theorem none_spTiesT {f : Addr} {fd : FuncData} {ps : List Str} {k : Nat} : FnOk P w K mg base CX0 k f fd ps (spTiesT 0) :=
  ⟨fun vs H Q E ⟨_, _, _, _, h, _⟩ => absurd h (Nat.not_lt_zero _), fun A outer s H args us vs Q E _ _ _ _ ⟨_, _, _, _, h, _⟩ => absurd h (Nat.not_lt_zero _)⟩
theorem step_l_ties (T : Txt K mg A) {d : Nat} (ih : FnOk P w K mg base CX0 (d + 2) A.a_l_ties A.d_l_ties ["_law_told_here"] (spTiesT d)) : FnOk P w K mg base CX0 (d + 3) A.a_l_ties A.d_l_ties ["_law_told_here"] (spTiesT (d + 1)) := by
  refine T.F_l_ties.ok sc_l_ties (fun vs H Q E h => ?_) (fun cdv C outer s H vs Q E hr h => ?_)
  · obtain ⟨v, t, rfl, _⟩ := h
    rfl
  · obtain ⟨v, t, rfl, hv, hd, few, k⟩ := h
    refine ⟨_, (pss_cons (ps_if (pt_not (pt_val (pe_callB call_isJ (by rfl) T.isinstance (by decide +kernel) (pa_cons (pv 0) (pa_cons (pe_bltn (v := .ty "tuple") (u := .type "tuple") (by rfl) T.tuple (by decide +kernel) rfl) pa_nil)))))
    (pss_one (ps_ret (pe_lstJ pa_nil)))
    pss_nil)
  (pss_cons (ps_set (i := 1) sc_l_ties.nd rfl (Or.inl rfl) (pe_lstJ pa_nil))
  (pss_cons (ps_set (i := 2) sc_l_ties.nd rfl (Or.inl rfl) (pe_lstJ pa_nil))
  (pss_cons (ps_for PassesOwn.never rfl (pi_tup (pe_ix ix_tupJ (pv 0) pe_int (fun _ _ => rfl))) (pg_name (i := 3) sc_l_ties.nd rfl (.inl rfl))
    (pss_cons (ps_set (i := 1) sc_l_ties.nd rfl (Or.inl rfl) (pe_op op_catJ (pv 1) (pe_call ih (hr.mono (by omega)) rfl T.g_l_ties T.k_l_ties T.b_l_ties .nil pass0 (pa_cons (pv 3) pa_nil))))
      (pss_cons (ps_set (i := 4) sc_l_ties.nd rfl (Or.inl rfl) (pe_call (ok_l_points T d) (hr.mono (by omega)) rfl T.g_l_points T.k_l_points T.b_l_points .nil pass0 (pa_cons (pv 3) pa_nil)))
      (pss_cons (ps_if (pt_cmpR op_eq (pe_ix ix_tupJ (pv 0) pe_int (fun _ _ => rfl)) pe_str (nomark _))
        (pss_one (ps_for PassesOwn.never rfl (pi_list (pv 2)) (pg_name (i := 5) sc_l_ties.nd rfl (.inr rfl))
            (pss_one (ps_set (i := 1) sc_l_ties.nd rfl (Or.inl rfl) (pe_op op_catJ (pv 1) (pe_lc (own := [("_law_other", 6)]) rfl sc_l_ties.nd (pi_list (pv 4)) (blkOk_by (own := [("_law_other", 6)]) (N := ["_law_told_here", "_law_found", "_law_ahead", "_law_piece", "_law_points_here", "_law_one", "_law_other"]) (sc := defScope s_l_ties) (by decide +kernel)) (fun _ _ _ _ _ => by exact (pg_name (i := 6) sc_l_ties.nd rfl (Or.inl rfl))) (fun _ _ _ _ _ => by exact pts_nil) (fun _ _ _ _ _ => by exact (pe_tupJ (pa_cons (pe_callB (call_min2 rfl) (by rfl) T.min (by decide +kernel) (pa_cons (pv 5) (pa_cons (pv 6) pa_nil))) (pa_cons (pe_callB (call_max2 rfl) (by rfl) T.max (by decide +kernel) (pa_cons (pv 5) (pa_cons (pv 6) pa_nil))) pa_nil))))))))))
        pss_nil)
      (pss_one (ps_set (i := 2) sc_l_ties.nd rfl (Or.inl rfl) (pe_op op_catJ (pv 2) (pv 4))))))))
  (pss_one (ps_ret (pv 1))))))), ?_⟩
    rcases told_kind hv with ⟨n, rfl, rfl⟩ | ⟨j, ts, a, b, vs, rfl, rfl, h1, h2, h3⟩
    · simp [L2.start]
      intro q H1 n1 e1 h1
      exact k q H1 n1 e1 ⟨[], h1, TupsAt.nil _⟩
    · simp [L2.start, and_assoc, tyN_tup h1]
      intro F0 H0 n0 e0 hF0 D H1 n1 e1 hD
      rw [Tr.pts] at few
      rw [Tr.dep] at hd
      have e01 := e0.trans e1
      refine ⟨_, rfl, a, _, 1, _, rfl, rfl, e01 _ _ h1, by decide, rfl, b, rfl, ⟨_, .inl (.inl (e01 _ _ h2))⟩, for_tup (xs := vs) (fun i σ H2 => ∃ (F2 D2 : Addr) (b3 b4 b5 b6 : Option V), σ = [some (.ref a), some (.ref F2), some (.ref D2), b3, b4, b5, b6] ∧ Ex H H2 ∧ H F2 = none ∧ LsP H2 F2 (trTies j [] (ts.take i)) ∧ LsI H2 D2 (ptsL (ts.take i))) ⟨F0, D, none, none, none, none, rfl, e01, n0, ⟨[], e1 _ _ hF0, TupsAt.nil _⟩, by unfold LsI; simpa [ptsL] using hD⟩ (fun i σ H2 _ h => ?_) (fun i x σ H2 hx h => ?_) (fun σ H2 h => ?_)⟩
      · obtain ⟨F2, D2, b3, b4, b5, b6, rfl, e, _⟩ := h
        exact .inl (.inl (e _ _ h2))
      · obtain ⟨F2, D2, b3, b4, b5, b6, rfl, e, nF, hF, hL⟩ := h
        obtain ⟨u, hu, hat⟩ := h3.get hx
        have pstep := pts_step hu
        have l1 := pts_take ts (i + 1)
        rw [pstep, List.length_append] at l1
        have tl0 := ties_take j ts i
        have tl1 := ties_take j ts (i + 1)
        have tstep : trTies j [] (ts.take (i + 1)) = trTies j [] (ts.take i) ++ (u.ties ++ if j = true then crossL (ptsL (ts.take i)) u.pts else []) := by rw [take_one hu, trTies_snoc]
        have sq := sq_le (Nat.le_refl _) few
        rw [tstep, List.length_append, List.length_append] at tl1
        simp
        refine ⟨x, u, rfl, hat.up e, by have := depL_le (List.mem_of_getElem? hu); omega, by omega, fun q H3 n3 e3 h3' => ?_⟩
        refine LsP.cat (hF.up e3) h3' (by omega) fun F4 H4 n4 e4 hF4 => ?_
        have e24 := e3.trans e4
        have eH4 := e.trans e24
        refine ⟨x, u, rfl, (hat.up eH4), by have := depL_le (List.mem_of_getElem? hu); omega, by omega, fun P5 H5 n5 e5 hP5 => ?_⟩
        have eH5 := eH4.trans e5
        have nF4 : H F4 = none := fresh_back (e.trans e3) n4
        have hL5 := hL.up (e24.trans e5)
        have hF5 := hF4.up e5
        simp [and_assoc, eH5 _ _ h1, wd_join]
        obtain ⟨hL5', hP5'⟩ : H5 D2 = some (.lst ((ptsL (ts.take i)).map V.int)) ∧ H5 P5 = some (.lst (u.pts.map V.int)) := ⟨hL5, hP5⟩
        cases j with
        | false =>
          refine .inl ⟨rfl, _, hL5', _, hP5', by simp; omega, fun p H6 n6 e6 h6 => ⟨eH5.trans e6, nF4, ?_, ?_⟩⟩
          · rw [tstep]
            simpa using hF5.up e6
          · unfold LsI
            rw [h6, pstep, List.map_append]
        | true =>
          have csl := cross_len (ptsL (ts.take i)) u.pts
          simp only [if_true] at tl1 tstep
          refine .inr ⟨rfl, _, rfl, D2, rfl, ⟨_, .inl (.inl hL5')⟩, for_list (xs := (ptsL (ts.take i)).map V.int) (fun m σ H6 => ∃ (F6 : Addr) (b5 b6 : Option V), σ = [some (.ref a), some (.ref F6), some (.ref D2), some x, some (.ref P5), b5, b6] ∧ Ex H5 H6 ∧ H F6 = none ∧ LsP H6 F6 (trTies true [] (ts.take i) ++ u.ties ++ crossL ((ptsL (ts.take i)).take m) u.pts)) ⟨F4, b5, b6, rfl, Ex.refl _, nF4, by simpa [crossL] using hF5⟩ (fun m σ H6 _ h => ?_) (fun m y σ H6 hy h => ?_) (fun σ H6 h => ?_)⟩
          · obtain ⟨F6, b5, b6, rfl, e6, _⟩ := h
            exact .inl (.inl (e6 _ _ hL5'))
          · obtain ⟨F6, b5, b6, rfl, e6, nF6, hF6⟩ := h
            rw [List.getElem?_map] at hy
            cases hone : (ptsL (ts.take i))[m]? with
            | none => rw [hone] at hy; cases hy
            | some one =>
              rw [hone] at hy
              cases hy
              have cstep : crossL ((ptsL (ts.take i)).take (m + 1)) u.pts = crossL ((ptsL (ts.take i)).take m) u.pts ++ u.pts.map fun z => mmI one z := by
                rw [take_one hone]
                simp [crossL]
              have cl : (crossL ((ptsL (ts.take i)).take (m + 1)) u.pts).length ≤ (crossL (ptsL (ts.take i)) u.pts).length := by
                rw [cross_len, cross_len]
                exact Nat.mul_le_mul (by rw [List.length_take]; omega) (Nat.le_refl _)
              rw [cstep, List.length_append, List.length_map] at cl
              simp
              refine ⟨_, rfl, P5, rfl, ⟨_, .inl (.inl (e6 _ _ hP5'))⟩, fun L nL => lc_listS (xs := u.pts.map V.int) (fun q y H => ∃ t, y = .ref t ∧ H t = some (.tup [.int (mmI one (u.pts.getD q 0)).1, .int (mmI one (u.pts.getD q 0)).2])) stay_pair nL (.inl (.inl (e6 _ _ hP5'))) (by simp; omega) (fun q y H7 N hy e7 hL7 hN => ?_) (fun acc H8 e8 h8 hacc hall => ?_)⟩
              · rw [List.getElem?_map] at hy
                cases hz : u.pts[q]? with
                | none => rw [hz] at hy; cases hy
                | some z =>
                  rw [hz] at hy
                  cases hy
                  simp [wipe, ite_min, ite_max]
                  refine ⟨one, z, ⟨rfl, rfl⟩, one, z, ⟨rfl, rfl⟩, fun p H9 n9 e9 h9 => ?_⟩
                  refine hN _ _ e9 ⟨p, rfl, ?_⟩
                  rw [h9]
                  simp [mmI, hz]
              · have lp : LsP H8 L (u.pts.map fun z => mmI one z) := lsP_of h8 (by simpa using hacc) fun q y hq => by
                  obtain ⟨t, e1, e2⟩ := hall q y hq
                  have hq' : q < u.pts.length := by have := lt_of_get hq; simp at hacc; omega
                  refine ⟨t, e1, mmI one u.pts[q], by rw [List.getElem?_map, List.getElem?_eq_getElem hq']; rfl, ?_⟩
                  rw [e2]
                  simp [List.getElem?_eq_getElem hq']
                refine LsP.cat (hF6.up e8) lp (by simp; omega) fun p H9 n9 e9 h9 => ?_
                simp
                refine ⟨e6.trans (e8.trans e9), fresh_back (eH5.trans (e6.trans e8)) n9, ?_⟩
                rw [cstep]
                simpa using h9
          · obtain ⟨F6, b5, b6, rfl, e6, nF6, hF6⟩ := h
            rw [List.length_map, List.take_length] at hF6
            simp
            refine ⟨_, e6 _ _ hL5', _, e6 _ _ hP5', by simp; omega, fun p H7 n7 e7 h7 => ⟨F6, p, ⟨rfl, rfl⟩, (eH5.trans e6).trans e7, nF6, ?_, ?_⟩⟩
            · rw [tstep, ← List.append_assoc]
              exact hF6.up e7
            · unfold LsI
              rw [h7, pstep, List.map_append]
      · obtain ⟨F2, D2, b3, b4, b5, b6, rfl, e, nF, hF, hL⟩ := h
        rw [List.take_of_length_le (by rw [h3.len]; exact Nat.le_refl _)] at hF
        exact ⟨_, rfl, k F2 H2 nF e (by rw [Tr.ties]; exact hF)⟩
theorem ok_l_ties (T : Txt K mg A) : ∀ d : Nat, FnOk P w K mg base CX0 (d + 2) A.a_l_ties A.d_l_ties ["_law_told_here"] (spTiesT d)
  | 0 => none_spTiesT
  | d + 1 => step_l_ties T (ok_l_ties T d)
end
end Jk

namespace Jk
open PySem L2 Evl
/-! ## Trees as objects -/
def pf (n : Int) : List (Str × V) := putF "_number" (.int n) []
def nf (l q : Addr) : List (Str × V) := putF "_points" (.ref q) (putF "_parts" (.ref l) [])
theorem pf_number (n : Int) : (pf n).lookup ("_number" : Str) = some (.int n) := by unfold pf; rw [lookup_putF, if_pos rfl]
theorem pf_no (n : Int) {m : Str} (h : ¬ m = "_number") : (pf n).lookup m = none := by unfold pf; rw [lookup_putF, if_neg h]; rfl
theorem nf_points (l q : Addr) : (nf l q).lookup ("_points" : Str) = some (.ref q) := by unfold nf; rw [lookup_putF, if_pos rfl]
theorem nf_parts (l q : Addr) : (nf l q).lookup ("_parts" : Str) = some (.ref l) := by unfold nf; rw [lookup_putF, if_neg (by decide +kernel), lookup_putF, if_pos rfl]
theorem nf_no (l q : Addr) {m : Str} (h : ¬ m = "_points") (h2 : ¬ m = "_parts") : (nf l q).lookup m = none := by unfold nf; rw [lookup_putF, if_neg h, lookup_putF, if_neg h2]; rfl
@[simp] theorem pf_m1 (n : Int) : NoFld (pf n) "told" := pf_no n (by decide +kernel)
@[simp] theorem pf_m2 (n : Int) : NoFld (pf n) "points" := pf_no n (by decide +kernel)
@[simp] theorem pf_m3 (n : Int) : NoFld (pf n) "tied" := pf_no n (by decide +kernel)
@[simp] theorem pf_m4 (n : Int) : NoFld (pf n) "turned" := pf_no n (by decide +kernel)
@[simp] theorem nf_m1 (l q : Addr) : NoFld (nf l q) "told" := nf_no l q (by decide +kernel) (by decide +kernel)
@[simp] theorem nf_m2 (l q : Addr) : NoFld (nf l q) "points" := nf_no l q (by decide +kernel) (by decide +kernel)
@[simp] theorem nf_m3 (l q : Addr) : NoFld (nf l q) "tied" := nf_no l q (by decide +kernel) (by decide +kernel)
@[simp] theorem nf_m4 (l q : Addr) : NoFld (nf l q) "turned" := nf_no l q (by decide +kernel) (by decide +kernel)
def cJ (A : Adr) (j : Bool) : Addr := if j = true then A.c_Join else A.c_Side
mutual
def TreeAt (A : Adr) (N : Addr → Prop) (H : Hp) : V → Tr → Prop
  | v, .pt n => ∃ a dx, v = .ref a ∧ N a ∧ H a = some (.ins A.c_Point dx (pf n))
  | v, .nd j ts => ∃ a dx l q vs, v = .ref a ∧ N a ∧ N l ∧ N q ∧ H a = some (.ins (cJ A j) dx (nf l q)) ∧ H l = some (.lst vs) ∧ LsI H q (srt (ptsL ts)) ∧ TreeL A N H vs ts
def TreeL (A : Adr) (N : Addr → Prop) (H : Hp) : List V → List Tr → Prop
  | [], [] => True
  | v :: vs, t :: ts => TreeAt A N H v t ∧ TreeL A N H vs ts
  | [], _ :: _ => False
  | _ :: _, [] => False
end
section
variable {A : Adr} {N N' : Addr → Prop} {H H' : Hp}
mutual
theorem TreeAt.to' (k : ∀ x o, N x → H x = some o → N' x ∧ H' x = some o) : ∀ (t : Tr) (v : V), TreeAt A N H v t → TreeAt A N' H' v t
  | .pt n, v, h => by
    rw [TreeAt] at h ⊢
    obtain ⟨a, dx, e, n1, h1⟩ := h
    exact ⟨a, dx, e, (k _ _ n1 h1).1, (k _ _ n1 h1).2⟩
  | .nd j ts, v, h => by
    rw [TreeAt] at h ⊢
    obtain ⟨a, dx, l, q, vs, e, n1, n2, n3, h1, h2, h3, h4⟩ := h
    exact ⟨a, dx, l, q, vs, e, (k _ _ n1 h1).1, (k _ _ n2 h2).1, (k _ _ n3 h3).1, (k _ _ n1 h1).2, (k _ _ n2 h2).2, (k _ _ n3 h3).2, TreeL.to' k ts vs h4⟩
theorem TreeL.to' (k : ∀ x o, N x → H x = some o → N' x ∧ H' x = some o) : ∀ (ts : List Tr) (vs : List V), TreeL A N H vs ts → TreeL A N' H' vs ts
  | [], [], _ => by simp [TreeL]
  | [], v :: vs, h => by simp [TreeL] at h
  | t :: ts, [], h => by simp [TreeL] at h
  | t :: ts, v :: vs, h => by
    rw [TreeL] at h ⊢
    exact ⟨TreeAt.to' k t v h.1, TreeL.to' k ts vs h.2⟩
end
theorem TreeAt.to {v : V} {t : Tr} (h : TreeAt A N H v t) (k : ∀ x o, N x → H x = some o → N' x ∧ H' x = some o) : TreeAt A N' H' v t := TreeAt.to' k t v h
theorem TreeL.to {vs : List V} {ts : List Tr} (h : TreeL A N H vs ts) (k : ∀ x o, N x → H x = some o → N' x ∧ H' x = some o) : TreeL A N' H' vs ts := TreeL.to' k ts vs h
theorem TreeAt.up {v : V} {t : Tr} (h : TreeAt A N H v t) (e : Ex H H') : TreeAt A N H' v t := h.to fun x o n z => ⟨n, e _ _ z⟩
theorem TreeL.up {vs : List V} {ts : List Tr} (h : TreeL A N H vs ts) (e : Ex H H') : TreeL A N H' vs ts := h.to fun x o n z => ⟨n, e _ _ z⟩
theorem TreeAt.any {v : V} {t : Tr} (h : TreeAt A N H v t) : TreeAt A (fun _ => True) H v t := h.to fun x o n z => ⟨trivial, z⟩
theorem tree_kind {v : V} {t : Tr} (h : TreeAt A N H v t) : (∃ n a dx, t = .pt n ∧ v = .ref a ∧ N a ∧ H a = some (.ins A.c_Point dx (pf n))) ∨ (∃ ts a dx l q vs, t = .nd false ts ∧ v = .ref a ∧ N a ∧ N l ∧ N q ∧ H a = some (.ins A.c_Side dx (nf l q)) ∧ H l = some (.lst vs) ∧ LsI H q (srt (ptsL ts)) ∧ TreeL A N H vs ts) ∨
    ∃ ts a dx l q vs, t = .nd true ts ∧ v = .ref a ∧ N a ∧ N l ∧ N q ∧ H a = some (.ins A.c_Join dx (nf l q)) ∧ H l = some (.lst vs) ∧ LsI H q (srt (ptsL ts)) ∧ TreeL A N H vs ts := by
  cases t with
  | pt n =>
    rw [TreeAt] at h
    obtain ⟨a, dx, e, n1, h1⟩ := h
    exact .inl ⟨n, a, dx, rfl, e, n1, h1⟩
  | nd j ts =>
    rw [TreeAt] at h
    obtain ⟨a, dx, l, q, vs, e, n1, n2, n3, h1, h2, h3, h4⟩ := h
    cases j with
    | false => exact .inr (.inl ⟨ts, a, dx, l, q, vs, rfl, e, n1, n2, n3, h1, h2, h3, h4⟩)
    | true => exact .inr (.inr ⟨ts, a, dx, l, q, vs, rfl, e, n1, n2, n3, h1, h2, h3, h4⟩)
theorem TreeL.len : ∀ {vs : List V} {ts : List Tr}, TreeL A N H vs ts → vs.length = ts.length
  | [], [], _ => rfl
  | [], t :: ts, h => by simp [TreeL] at h
  | v :: vs, [], h => by simp [TreeL] at h
  | v :: vs, t :: ts, h => by
    rw [TreeL] at h
    simp [h.2.len]
theorem TreeL.get : ∀ {vs : List V} {ts : List Tr}, TreeL A N H vs ts → ∀ {k : Nat} {v : V}, vs[k]? = some v → ∃ t, ts[k]? = some t ∧ TreeAt A N H v t
  | [], [], _, k, v, e => by simp at e
  | [], t :: ts, h, k, v, e => by simp at e
  | v :: vs, [], h, k, v', e => by simp [TreeL] at h
  | v :: vs, t :: ts, h, k, v', e => by
    rw [TreeL] at h
    cases k with
    | zero => cases e; exact ⟨t, rfl, h.1⟩
    | succ k => exact h.2.get (by simpa using e)
theorem treeL_of : ∀ {vs : List V} {ts : List Tr}, vs.length = ts.length → (∀ (k : Nat) (v : V), vs[k]? = some v → ∃ t, ts[k]? = some t ∧ TreeAt A N H v t) → TreeL A N H vs ts
  | [], [], _, _ => by simp [TreeL]
  | [], t :: ts, h, _ => by simp at h
  | v :: vs, [], h, _ => by simp at h
  | v :: vs, t :: ts, h, k => by
    obtain ⟨t', e, ht⟩ := k 0 v rfl
    cases e
    rw [TreeL]
    exact ⟨ht, treeL_of (by simpa using h) fun i u hu => k (i + 1) u (by simpa using hu)⟩
end
def spPointInit (A : Adr) : Sp := fun vs H Q _ => ∃ (p dx : Addr) (n : Int), vs = [.ref p, .int n] ∧ H p = some (.ins A.c_Point dx []) ∧ Q .non (upd H p (.ins A.c_Point dx (pf n)))
def spPointPts (A : Adr) : Sp := fun vs H Q _ => ∃ (a dx : Addr) (n : Int), vs = [.ref a] ∧ H a = some (.ins A.c_Point dx (pf n)) ∧ ∀ q H', H q = none → Ex H H' → LsI H' q [n] → Q (.ref q) H'
def spSidePts (A : Adr) : Sp := fun vs H Q _ => ∃ (a dx l q : Addr) (ps : List Int), vs = [.ref a] ∧ H a = some (.ins A.c_Side dx (nf l q)) ∧ LsI H q ps ∧ ∀ q H', H q = none → Ex H H' → LsI H' q ps → Q (.ref q) H'
def spJoinPts (A : Adr) : Sp := fun vs H Q _ => ∃ (a dx l q : Addr) (ps : List Int), vs = [.ref a] ∧ H a = some (.ins A.c_Join dx (nf l q)) ∧ LsI H q ps ∧ ∀ q H', H q = none → Ex H H' → LsI H' q ps → Q (.ref q) H'
def spPtsOf (A : Adr) : Sp := fun vs H Q _ => ∃ (l : Addr) (N : Addr → Prop) (vs0 : List V) (ts : List Tr), vs = [.ref l] ∧ H l = some (.lst vs0) ∧ TreeL A N H vs0 ts ∧ (ptsL ts).length < 64 ∧ ∀ q H', H q = none → Ex H H' → LsI H' q (srt (ptsL ts)) → Q (.ref q) H'
def spSideInit (A : Adr) : Sp := fun vs H Q _ => ∃ (p dx l0 : Addr) (N : Addr → Prop) (vs0 : List V) (ts : List Tr), vs = [.ref p, .ref l0] ∧ H p = some (.ins A.c_Side dx []) ∧ H l0 = some (.lst vs0) ∧ TreeL A N H vs0 ts ∧ (∀ x, N x → x ≠ p) ∧ l0 ≠ p ∧ (ptsL ts).length < 64 ∧
  ∀ H' l q, But [p] H H' → H l = none → H q = none → H' p = some (.ins A.c_Side dx (nf l q)) → H' l = some (.lst vs0) → LsI H' q (srt (ptsL ts)) → Q .non H'
def spJoinInit (A : Adr) : Sp := fun vs H Q _ => ∃ (p dx l0 : Addr) (N : Addr → Prop) (vs0 : List V) (ts : List Tr), vs = [.ref p, .ref l0] ∧ H p = some (.ins A.c_Join dx []) ∧ H l0 = some (.lst vs0) ∧ TreeL A N H vs0 ts ∧ (∀ x, N x → x ≠ p) ∧ l0 ≠ p ∧ (ptsL ts).length < 64 ∧
  ∀ H' l q, But [p] H H' → H l = none → H q = none → H' p = some (.ins A.c_Join dx (nf l q)) → H' l = some (.lst vs0) → LsI H' q (srt (ptsL ts)) → Q .non H'
def tpts (t : Tr) : List Int := srt t.pts
theorem flat_tpts (ts : List Tr) : (ts.map fun t => (tpts t).map V.int).flatten = (ts.flatMap tpts).map V.int := by
  induction ts with
  | nil => rfl
  | cons t ts ih => simp [ih]
theorem tpts_perm (ts : List Tr) : (ts.flatMap tpts).Perm (ptsL ts) := by
  induction ts with
  | nil => exact List.Perm.refl _
  | cons t ts ih => rw [List.flatMap_cons, ptsL]; exact (srt_perm _).append ih
theorem tpts_pt (n : Int) : tpts (.pt n) = [n] := by unfold tpts; rw [Tr.pts]; exact srt_fix (by simp)
theorem tpts_nd (j : Bool) (ts : List Tr) : tpts (.nd j ts) = srt (ptsL ts) := by unfold tpts; rw [Tr.pts]
section
variable {P : Program} {w : World} {K : PySem.W.Frag} {mg : Str → Option Value} {base : Heap} {A : Adr}
theorem ok_Point_init (T : Txt K mg A) : FnOk P w K mg base CX0 1 A.a_Point_init A.d_Point_init ["self", "number"] (spPointInit A) := by
  refine T.F_Point_init.ok sc_Point_init (fun vs H Q E h => ?_) (fun cdv C outer s H vs Q E hr h => ?_)
  · obtain ⟨p, dx, n, rfl, _⟩ := h
    rfl
  · obtain ⟨p, dx, n, rfl, h1, k⟩ := h
    refine ⟨_, (pss_one (ps_fld (pv 0) (pv 1) rfl)), ?_⟩
    simp [L2.start, and_assoc, h1, T.cl_Point, T.n_Point__number]
    exact k
theorem ok_Point_points (T : Txt K mg A) : FnOk P w K mg base CX0 1 A.a_Point_points A.d_Point_points ["self"] (spPointPts A) := by
  refine T.F_Point_points.ok sc_Point_points (fun vs H Q E h => ?_) (fun cdv C outer s H vs Q E hr h => ?_)
  · obtain ⟨a, dx, n, rfl, _⟩ := h
    rfl
  · obtain ⟨a, dx, n, rfl, h1, k⟩ := h
    refine ⟨_, (pss_one (ps_ret (pe_lstJ (pa_cons (pe_fldK (K0 := K) (pv 0)) pa_nil)))), ?_⟩
    simp [L2.start, and_assoc, h1, T.cl_Point, T.n_Point__number, pf_number]
    exact k
theorem ok_Side_points (T : Txt K mg A) : FnOk P w K mg base CX0 1 A.a_Side_points A.d_Side_points ["self"] (spSidePts A) := by
  refine T.F_Side_points.ok sc_Side_points (fun vs H Q E h => ?_) (fun cdv C outer s H vs Q E hr h => ?_)
  · obtain ⟨a, dx, l, q, ps, rfl, _⟩ := h
    rfl
  · obtain ⟨a, dx, l, q, ps, rfl, h1, h2, k⟩ := h
    refine ⟨_, (pss_one (ps_ret (pe_callTy call_listJ (by rfl) T.list (by decide +kernel) (pa_cons (pe_fldK (K0 := K) (pv 0)) pa_nil)))), ?_⟩
    have h2' : H q = some (.lst (ps.map V.int)) := h2
    simp [L2.start, and_assoc, h1, h2', jList, T.cl_Side, T.n_Side__points, nf_points]
    exact k
theorem ok_Join_points (T : Txt K mg A) : FnOk P w K mg base CX0 1 A.a_Join_points A.d_Join_points ["self"] (spJoinPts A) := by
  refine T.F_Join_points.ok sc_Join_points (fun vs H Q E h => ?_) (fun cdv C outer s H vs Q E hr h => ?_)
  · obtain ⟨a, dx, l, q, ps, rfl, _⟩ := h
    rfl
  · obtain ⟨a, dx, l, q, ps, rfl, h1, h2, k⟩ := h
    refine ⟨_, (pss_one (ps_ret (pe_callTy call_listJ (by rfl) T.list (by decide +kernel) (pa_cons (pe_fldK (K0 := K) (pv 0)) pa_nil)))), ?_⟩
    have h2' : H q = some (.lst (ps.map V.int)) := h2
    simp [L2.start, and_assoc, h1, h2', jList, T.cl_Join, T.n_Join__points, nf_points]
    exact k
/-- points() of any tree -/
theorem read_points {v : V} {t : Tr} {N : Addr → Prop} {H : Hp} {Q : VK} (h : TreeAt A N H v t) (k : ∀ q H', H q = none → Ex H H' → LsI H' q (tpts t) → Q (.ref q) H') :
    (∃ a, v = .ref a ∧ ∃ dx fs, H a = some (.ins A.c_Point dx fs) ∧ NoFld fs "points" ∧ spPointPts A [v] H Q E0) ∨ (∃ a, v = .ref a ∧ ∃ dx fs, H a = some (.ins A.c_Side dx fs) ∧ NoFld fs "points" ∧ spSidePts A [v] H Q E0) ∨ (∃ a, v = .ref a ∧ ∃ dx fs, H a = some (.ins A.c_Join dx fs) ∧ NoFld fs "points" ∧ spJoinPts A [v] H Q E0) := by
  rcases tree_kind h with ⟨n, a, dx, rfl, rfl, _, h1⟩ | ⟨ts, a, dx, l, q, vs, rfl, rfl, _, _, _, h1, h2, h3, _⟩ | ⟨ts, a, dx, l, q, vs, rfl, rfl, _, _, _, h1, h2, h3, _⟩
  · rw [tpts_pt] at k
    exact .inl ⟨a, rfl, dx, _, h1, by simp, a, dx, n, rfl, h1, k⟩
  · rw [tpts_nd] at k
    exact .inr (.inl ⟨a, rfl, dx, _, h1, by simp, a, dx, l, q, _, rfl, h1, h3, k⟩)
  · rw [tpts_nd] at k
    exact .inr (.inr ⟨a, rfl, dx, _, h1, by simp, a, dx, l, q, _, rfl, h1, h3, k⟩)
theorem read_points'  {a : Addr} {t : Tr} {N : Addr → Prop} {H : Hp} {Q : VK} (h : TreeAt A N H (.ref a) t) (k : ∀ q H', H q = none → Ex H H' → LsI H' q (tpts t) → Q (.ref q) H') :
    (∃ dx fs, H a = some (.ins A.c_Point dx fs) ∧ NoFld fs "points" ∧ spPointPts A [.ref a] H Q E0) ∨ (∃ dx fs, H a = some (.ins A.c_Side dx fs) ∧ NoFld fs "points" ∧ spSidePts A [.ref a] H Q E0) ∨ (∃ dx fs, H a = some (.ins A.c_Join dx fs) ∧ NoFld fs "points" ∧ spJoinPts A [.ref a] H Q E0) := by
  rcases read_points h k with ⟨b, e, r⟩ | ⟨b, e, r⟩ | ⟨b, e, r⟩
  · cases e; exact .inl r
  · cases e; exact .inr (.inl r)
  · cases e; exact .inr (.inr r)
theorem ok_points_of (T : Txt K mg A) : FnOk P w K mg base CX0 2 A.a_points_of A.d_points_of ["trees"] (spPtsOf A) := by
  refine T.F_points_of.ok sc_points_of (fun vs H Q E h => ?_) (fun cdv C outer s H vs Q E hr h => ?_)
  · obtain ⟨l, N, vs0, ts, rfl, _⟩ := h
    rfl
  · obtain ⟨l, N, vs0, ts, rfl, h1, h2, few, k⟩ := h
    refine ⟨_, (pss_one (ps_ret (pe_callB call_sortJ (by rfl) T.sorted (by decide +kernel) (pa_cons (pe_lc2 (own := [("tree", 1), ("point", 2)]) (vs1 := [2]) rfl sc_points_of.nd (pi_list (pv 0)) (blkOk_by (own := [("tree", 1), ("point", 2)]) (N := ["trees", "tree", "point"]) (sc := defScope s_points_of) (by decide +kernel)) (by decide) (fun _ _ _ _ _ => by exact (pg_name (i := 1) sc_points_of.nd rfl (Or.inl rfl))) (fun _ _ _ _ _ => by exact pts_nil) (fun _ _ _ _ _ => by exact (pi_listK (K0 := K) (PE.or (pe_meth0 (pv 1) T.cl_Point T.m_Point_points (ok_Point_points T) (hr.mono (by omega)) T.b_Point_points .nil pass0) (PE.or (pe_meth0 (pv 1) T.cl_Side T.m_Side_points (ok_Side_points T) (hr.mono (by omega)) T.b_Side_points .nil pass0) (pe_meth0 (pv 1) T.cl_Join T.m_Join_points (ok_Join_points T) (hr.mono (by omega)) T.b_Join_points .nil pass0))))) (fun _ _ _ _ _ => by exact (pg_name (i := 2) sc_points_of.nd rfl (Or.inl rfl))) (fun _ _ _ _ _ => by exact pts_nil) (fun _ _ _ _ _ => by exact (pv 2))) pa_nil)))), ?_⟩
    have fl := (tpts_perm ts).length_eq
    refine ⟨_, rfl, l, rfl, ⟨_, .inl (.inl h1)⟩, fun D hD => lc2_list (ts.map fun t => (tpts t).map V.int) hD (.inl (.inl h1)) (by simp [h2.len]) (by rw [flat_tpts, List.length_map, fl]; omega) (fun i x H1 hx e hH => ?_) (fun x σ H Q Q' m q => m _ _ q) (fun x σ H Q Q' m q => m _ _ q) (fun H1 e h => ?_)⟩
    · obtain ⟨t, ht, hat⟩ := h2.get hx
      simp [wipe, L2.start, iList]
      intro Nn hN
      refine read_points (hat.up e) fun q H2 n2 e2 h2 => ⟨q, rfl, ⟨_, .inl (.inl h2)⟩, hN q H2 e2 (fun z => hH (by rw [← z]; exact n2)) ?_⟩
      simp [ht]
      exact .inl (.inl h2)
    · rw [flat_tpts] at h
      refine ⟨D, _, rfl, h, by rw [fl]; exact few, fun p H2 n2 e2 h2 => k p H2 (fresh_back e n2) (e.trans e2) ?_⟩
      rw [← srt_of_perm (tpts_perm ts)]
      exact h2
theorem ok_Side_init (T : Txt K mg A) : FnOk P w K mg base CX0 3 A.a_Side_init A.d_Side_init ["self", "parts"] (spSideInit A) := by
  refine T.F_Side_init.ok sc_Side_init (fun vs H Q E h => ?_) (fun cdv C outer s H vs Q E hr h => ?_)
  · obtain ⟨p, dx, l0, N, vs0, ts, rfl, _⟩ := h
    rfl
  · obtain ⟨p, dx, l0, N, vs0, ts, rfl, h1, h2, h3, hn, hlp, few, k⟩ := h
    refine ⟨_, (pss_cons (ps_fld (pv 0) (pe_callTy call_listJ (by rfl) T.list (by decide +kernel) (pa_cons (pv 1) pa_nil)) rfl)
  (pss_one (ps_fld (pv 0) (pe_call (ok_points_of T) (hr.mono (by omega)) rfl T.g_points_of T.k_points_of T.b_points_of .nil pass0 (pa_cons (pe_fldK (K0 := K) (pv 0)) pa_nil)) rfl))), ?_⟩
    simp [L2.start, and_assoc, h1, h2, jList, T.cl_Side, T.n_Side__parts, T.n_Side__points]
    intro l H1 n1 e1 g1
    have g1p := e1 _ _ h1
    have lp : l ≠ p := (ne_of_none h1 n1).symm
    simp [g1p]
    have b1 : But [p] H (upd H1 p (.ins A.c_Side dx (putF "_parts" (.ref l) []))) := (But.of_ex e1).updT (by simp)
    have hl : (upd H1 p (.ins A.c_Side dx (putF "_parts" (.ref l) []))) l = some (.lst vs0) := by rw [upd_ne lp]; exact g1
    refine ⟨_, _, _, ⟨rfl, rfl, rfl⟩, T.cl_Side, T.n_Side__parts, by simp, _, _, _, upd_same, T.cl_Side, T.n_Side__parts, .ref l, by rw [lookup_putF, if_pos rfl], l, N, vs0, ts, rfl, hl, h3.to fun x o nx hx => ⟨nx, b1.kp _ _ hx (by simpa using hn x nx)⟩, few, fun q H2 n2 e2 h2 => ⟨_, _, _, e2 _ _ upd_same, T.cl_Side, T.n_Side__points, by unfold putF; simp, ?_⟩⟩
    have n2' := b1.dm _ n2
    have qp : q ≠ p := (ne_of_none h1 n2').symm
    refine k _ l q ((b1.trans (But.of_ex e2)).updT (by simp)) n1 n2' (by rw [upd_same]; rfl) (by rw [upd_ne lp]; exact e2 _ _ hl) ?_
    unfold LsI
    rw [upd_ne qp]
    exact h2
theorem ok_Join_init (T : Txt K mg A) : FnOk P w K mg base CX0 3 A.a_Join_init A.d_Join_init ["self", "parts"] (spJoinInit A) := by
  refine T.F_Join_init.ok sc_Join_init (fun vs H Q E h => ?_) (fun cdv C outer s H vs Q E hr h => ?_)
  · obtain ⟨p, dx, l0, N, vs0, ts, rfl, _⟩ := h
    rfl
  · obtain ⟨p, dx, l0, N, vs0, ts, rfl, h1, h2, h3, hn, hlp, few, k⟩ := h
    refine ⟨_, (pss_cons (ps_fld (pv 0) (pe_callTy call_listJ (by rfl) T.list (by decide +kernel) (pa_cons (pv 1) pa_nil)) rfl)
  (pss_one (ps_fld (pv 0) (pe_call (ok_points_of T) (hr.mono (by omega)) rfl T.g_points_of T.k_points_of T.b_points_of .nil pass0 (pa_cons (pe_fldK (K0 := K) (pv 0)) pa_nil)) rfl))), ?_⟩
    simp [L2.start, and_assoc, h1, h2, jList, T.cl_Join, T.n_Join__parts, T.n_Join__points]
    intro l H1 n1 e1 g1
    have g1p := e1 _ _ h1
    have lp : l ≠ p := (ne_of_none h1 n1).symm
    simp [g1p]
    have b1 : But [p] H (upd H1 p (.ins A.c_Join dx (putF "_parts" (.ref l) []))) := (But.of_ex e1).updT (by simp)
    have hl : (upd H1 p (.ins A.c_Join dx (putF "_parts" (.ref l) []))) l = some (.lst vs0) := by rw [upd_ne lp]; exact g1
    refine ⟨_, _, _, ⟨rfl, rfl, rfl⟩, T.cl_Join, T.n_Join__parts, by simp, _, _, _, upd_same, T.cl_Join, T.n_Join__parts, .ref l, by rw [lookup_putF, if_pos rfl], l, N, vs0, ts, rfl, hl, h3.to fun x o nx hx => ⟨nx, b1.kp _ _ hx (by simpa using hn x nx)⟩, few, fun q H2 n2 e2 h2 => ⟨_, _, _, e2 _ _ upd_same, T.cl_Join, T.n_Join__points, by unfold putF; simp, ?_⟩⟩
    have n2' := b1.dm _ n2
    have qp : q ≠ p := (ne_of_none h1 n2').symm
    refine k _ l q ((b1.trans (But.of_ex e2)).updT (by simp)) n1 n2' (by rw [upd_same]; rfl) (by rw [upd_ne lp]; exact e2 _ _ hl) ?_
    unfold LsI
    rw [upd_ne qp]
    exact h2
end
end Jk

namespace Jk
open PySem L2 Evl
theorem srt_head {l : List Int} {m : Int} (h : m ∈ l) (k : ∀ n ∈ l, m ≤ n) : (srt l)[0]? = some m := by
  have hp := srt_perm l
  have hs := srt_le l
  cases e : srt l with
  | nil => rw [e] at hp; have := hp.mem_iff.mpr h; simp at this
  | cons a r =>
    rw [e] at hp hs
    have h1 := k a (hp.mem_iff.mp (by simp))
    have h2 : a ≤ m := by
      rcases List.mem_cons.mp (hp.mem_iff.mpr h) with z | z
      · omega
      · exact (List.pairwise_cons.mp hs).1 m z
    have : a = m := by omega
    rw [this]; rfl
theorem least_le : ∀ (t : Tr), t.form → ∀ n ∈ t.pts, t.least ≤ n
  | .pt m, _, n, h => by simp [Tr.pts] at h; rw [Tr.least, h]; exact Int.le_refl _
  | .nd j ts, hf, n, h => by
    rw [Tr.form] at hf
    rw [Tr.pts, mem_ptsL] at h
    obtain ⟨u, hu, hn⟩ := h
    have h1 := least_le u (formL_iff.mp hf.2.2 u hu).1 n hn
    cases ts with
    | nil => cases hu
    | cons t us =>
      rw [Tr.least, leastL]
      rcases List.mem_cons.mp hu with rfl | hu
      · exact h1
      · have := (List.pairwise_cons.mp hf.2.1).1 u.least (List.mem_map_of_mem hu)
        omega
theorem tpts_head {t : Tr} (h : t.form) : (tpts t)[0]? = some t.least := srt_head (least_in t h) (least_le t h)
theorem leasts_srt {ts : List Tr} (h : (ts.map Tr.least).Pairwise (· < ·)) : srt (ts.map Tr.least) = ts.map Tr.least := srt_fix (h.imp fun z => by omega)
theorem parts_le {j : Bool} : ∀ {ts : List Tr}, formL j ts → ts.length ≤ (ptsL ts).length
  | [], _ => Nat.zero_le _
  | t :: ts, h => by
    rw [formL] at h
    have := t.dep_lt h.1
    have := parts_le h.2.2
    rw [ptsL, List.length_append, List.length_cons]
    omega
theorem TreeL.snoc {A : Adr} {N : Addr → Prop} {H : Hp} {vs : List V} {ts : List Tr} {v : V} {t : Tr} (h : TreeL A N H vs ts) (ht : TreeAt A N H v t) : TreeL A N H (vs ++ [v]) (ts ++ [t]) := by
  refine treeL_of (by simp [h.len]) fun k u hu => ?_
  rcases app_get hu with ⟨_, q⟩ | ⟨q1, q2⟩
  · obtain ⟨t', h1, h2⟩ := h.get q
    exact ⟨t', get_app h1, h2⟩
  · subst q2
    rw [q1, h.len]
    exact ⟨t, get_new, ht⟩
def metK (ns : List Int) : List (Key × V) := ns.map fun n => (Sum.inl n, V.bl true)
theorem valV_metK {kvs : List (Key × V)} {ns : List Int} {x : Int} (h : valV kvs (Sum.inl x) = none) (hx : x ∉ ns) : valV (kvs ++ ns.map fun n => (Sum.inl n, V.bl true)) (Sum.inl x) = none := by
  unfold valV at h ⊢
  rw [List.find?_append]
  simp only [Option.map_eq_none_iff] at h ⊢
  rw [h]
  simp only [Option.none_or, List.find?_eq_none]
  intro p hp
  obtain ⟨n, hn, rfl⟩ := List.mem_map.mp hp
  simp
  intro z
  exact hx (z ▸ hn)
def spOpened : Sp := fun vs H Q _ => ∃ (a b : Addr) (j : Bool) (xs : List V), vs = [.ref a] ∧ H a = some (.tup [.str (wdS j), .ref b]) ∧ H b = some (.tup xs) ∧ 2 ≤ xs.length ∧ ∀ q H', Ex H H' → H' q = some (.tup [.str (wdS j), .ref b]) → Q (.ref q) H'
def spUnder (A : Adr) (d : Nat) : Sp := fun vs H Q _ => ∃ (ab : Str) (v : V) (t : Tr) (deep : Int) (m : Addr) (kvs : List (Key × V)), vs = [.str ab, v, .int deep, .ref m] ∧ ToldAt H v t ∧ t.form ∧ t.pts.Nodup ∧ (∀ n ∈ t.pts, 0 ≤ n ∧ n ≤ 29) ∧ (∀ j, t.wd = some j → ¬ wdS j = ab) ∧ ((t.dep : Int) ≤ deep ∧ t.dep < d) ∧
  H m = some (.dK kvs) ∧ (∀ n ∈ t.pts, valV kvs (Sum.inl n) = none) ∧ kvs.length + t.pts.length ≤ 60 ∧
  ∀ a H', But [m] H H' → H' m = some (.dK (kvs ++ t.pts.map fun n => (Sum.inl n, V.bl true))) → TreeAt A (fun x => H x = none) H' (.ref a) t → Q (.ref a) H'
def spTreeBy (A : Adr) : Sp := fun vs H Q _ => ∃ (v : V) (t : Tr), vs = [v] ∧ ToldAt H v t ∧ t.form ∧ t.pts.Nodup ∧ (∀ n ∈ t.pts, 0 ≤ n ∧ n ≤ 29) ∧ ∀ a H', Ex H H' → TreeAt A (fun x => H x = none) H' (.ref a) t → Q (.ref a) H'
theorem pts_few {t : Tr} (nd : t.pts.Nodup) (h : ∀ n ∈ t.pts, 0 ≤ n ∧ n ≤ 29) : t.pts.length ≤ 30 := nd_len nd fun n hn => ⟨(h n hn).1, by have := (h n hn).2; omega⟩
theorem dep_few {t : Tr} (f : t.form) (nd : t.pts.Nodup) (h : ∀ n ∈ t.pts, 0 ≤ n ∧ n ≤ 29) : t.dep ≤ 29 := by have := t.dep_lt f; have := pts_few nd h; omega
section
variable {P : Program} {w : World} {K : PySem.W.Frag} {mg : Str → Option Value} {base : Heap} {A : Adr}
theorem ok_opened (T : Txt K mg A) : FnOk P w K mg base CX0 1 A.a_opened A.d_opened ["told"] spOpened := by
  refine T.F_opened.ok sc_opened (fun vs H Q E h => ?_) (fun cdv C outer s H vs Q E hr h => ?_)
  · obtain ⟨a, b, j, xs, rfl, _⟩ := h
    rfl
  · obtain ⟨a, b, j, xs, rfl, h1, h2, h3, k⟩ := h
    refine ⟨_, (pss_cons (ps_if (PW.pt (pw_or (pt_not (pt_val (pe_callB call_isJ (by rfl) T.isinstance (by decide +kernel) (pa_cons (pv 0) (pa_cons (pe_bltn (v := .ty "tuple") (u := .type "tuple") (by rfl) T.tuple (by decide +kernel) rfl) pa_nil))))) (pw_or1 (pt_cmpR op_ne (pe_callB call_lenT (by rfl) T.len (by decide +kernel) (pa_cons (pv 0) pa_nil)) pe_int (nomark _)))))
    (pss_one ps_never)
    pss_nil)
  (pss_cons (ps_asg (pv 0) (pg_tupJ (n := 2) rfl (pgs_cons (pg_name (i := 1) sc_opened.nd rfl (.inl rfl)) (pgs_cons (pg_name (i := 2) sc_opened.nd rfl (.inl rfl)) pgs_nil))))
  (pss_cons (ps_if (PW.pt (pw_or (pt_not (pt_val (pe_callB call_isJ (by rfl) T.isinstance (by decide +kernel) (pa_cons (pv 1) (pa_cons (pe_bltn (v := .ty "str") (u := .type "str") (by rfl) T.str (by decide +kernel) rfl) pa_nil))))) (pw_or1 (PW.pt (pw_and (pt_cmpR op_ne (pv 1) (pe_glob (v := .str "side") rfl T.cSIDE.choose_spec ⟨_, rfl⟩) (nomark _)) (pw_and1 (pt_cmpR op_ne (pv 1) (pe_glob (v := .str "join") rfl T.cJOIN.choose_spec ⟨_, rfl⟩) (nomark _))))))))
    (pss_one ps_never)
    pss_nil)
  (pss_cons (ps_if (PW.pt (pw_or (pt_not (pt_val (pe_callB call_isJ (by rfl) T.isinstance (by decide +kernel) (pa_cons (pv 2) (pa_cons (pe_bltn (v := .ty "tuple") (u := .type "tuple") (by rfl) T.tuple (by decide +kernel) rfl) pa_nil))))) (pw_or1 (pt_cmpR op_lt (pe_callB call_lenT (by rfl) T.len (by decide +kernel) (pa_cons (pv 2) pa_nil)) pe_int (nomark _)))))
    (pss_one ps_never)
    pss_nil)
  (pss_one (ps_ret (pe_tupJ (pa_cons (pv 1) (pa_cons (pv 2) pa_nil))))))))), ?_⟩
    have w1 : (wdS j = ("side" : Str)) ∨ (wdS j = ("join" : Str)) := by cases j; exact .inl rfl; exact .inr rfl
    simp [L2.start, and_assoc, h1, h2, tyN_tup h1, tyN_tup h2, jLenT]
    cases j with
    | false => exact .inl ⟨rfl, .inl ⟨by omega, fun p H2 _ e h => k p H2 e h⟩⟩
    | true => exact .inr ⟨by decide +kernel, .inl ⟨rfl, .inl ⟨by omega, fun p H2 _ e h => k p H2 e h⟩⟩⟩
theorem none_spUnder {f : Addr} {fd : FuncData} {ps : List Str} {k : Nat} : FnOk P w K mg base CX0 k f fd ps (spUnder A 0) :=
  ⟨fun vs H Q E ⟨_, _, _, _, _, _, _, _, _, _, _, _, h, _⟩ => absurd h.2 (Nat.not_lt_zero _), fun A outer s H args us vs Q E _ _ _ _ ⟨_, _, _, _, _, _, _, _, _, _, _, _, h, _⟩ => absurd h.2 (Nat.not_lt_zero _)⟩
theorem step_tree_under (T : Txt K mg A) {d : Nat} (ih : FnOk P w K mg base CX0 (d + 4) A.a_tree_under A.d_tree_under ["above", "told", "deep", "met"] (spUnder A d)) : FnOk P w K mg base CX0 (d + 5) A.a_tree_under A.d_tree_under ["above", "told", "deep", "met"] (spUnder A (d + 1)) := by
  refine T.F_tree_under.ok sc_tree_under (fun vs H Q E h => ?_) (fun cdv C outer s H vs Q E hr h => ?_)
  · obtain ⟨ab, v, t, deep, m, kvs, rfl, _⟩ := h
    rfl
  · obtain ⟨ab, v, t, deep, m, kvs, rfl, hv, hf, nd, inr, nab, ⟨hdp, hd⟩, hm, hfree, few, k⟩ := h
    have hu := hu_of hr
    refine ⟨_, (pss_cons (ps_if (pt_val (pe_call (ok_whole_within T) (hr.mono (by omega)) rfl T.g_whole_within T.k_whole_within T.b_whole_within .nil pass0 (pa_cons (pv 1) (pa_cons pe_int (pa_cons (pe_op op_sub (pe_glob (v := .int 30) rfl T.cMOST_POINTS.choose_spec ⟨_, rfl⟩) pe_int) pa_nil)))))
    (pss_cons (ps_if (pt_cmp (pc_dinJ (by exact hu) (pv 1) (pv 3)))
        (pss_one ps_never)
        pss_nil)
      (pss_cons (ps_dputJ (by exact hu) (pv 3) (pv 1) pe_bl rfl)
      (pss_one (ps_ret (pe_make T.mk_Point (ok_Point_init T) (hr.mono (by omega)) rfl T.gPoint T.b_Point_init .nil pass0 (pa_cons (pv 1) pa_nil))))))
    pss_nil)
  (pss_cons (ps_asg (pe_call (ok_opened T) (hr.mono (by omega)) rfl T.g_opened T.k_opened T.b_opened .nil pass0 (pa_cons (pv 1) pa_nil)) (pg_tupJ (n := 2) rfl (pgs_cons (pg_name (i := 4) sc_tree_under.nd rfl (.inr rfl)) (pgs_cons (pg_name (i := 5) sc_tree_under.nd rfl (.inl rfl)) pgs_nil))))
  (pss_cons (ps_if (pt_cmpR op_eq (pv 4) (pv 0) (nomark _))
    (pss_one ps_never)
    pss_nil)
  (pss_cons (ps_if (pt_cmpR op_eq (pv 2) pe_int (nomark _))
    (pss_one ps_never)
    pss_nil)
  (pss_cons (ps_setLc (i := 6) (own := [("within", 8)]) rfl sc_tree_under.nd rfl rfl (sw_true rfl rfl rfl (by decide +kernel)) (pi_tup (pv 5)) (blkOk_by (own := [("within", 8)]) (N := ["above", "told", "deep", "met", "word", "parts", "trees", "leasts", "within", "tree"]) (sc := defScope s_tree_under) (by decide +kernel)) (fun _ _ _ _ _ => by exact (pg_name (i := 8) sc_tree_under.nd rfl (Or.inl rfl))) (fun _ _ _ _ _ => by exact pts_nil) (fun _ _ _ _ _ => by exact (pe_call ih (hr.mono (by omega)) rfl T.g_tree_under T.k_tree_under T.b_tree_under .nil pass0 (pa_cons (pv 4) (pa_cons (pv 8) (pa_cons (pe_op op_sub (pv 2) pe_int) (pa_cons (pv 3) pa_nil)))))))
  (pss_cons (ps_setLc (i := 7) (own := [("tree", 9)]) rfl sc_tree_under.nd rfl rfl (sw_true rfl rfl rfl (by decide +kernel)) (pi_list (pv 6)) (blkOk_by (own := [("tree", 9)]) (N := ["above", "told", "deep", "met", "word", "parts", "trees", "leasts", "within", "tree"]) (sc := defScope s_tree_under) (by decide +kernel)) (fun _ _ _ _ _ => by exact (pg_name (i := 9) sc_tree_under.nd rfl (Or.inl rfl))) (fun _ _ _ _ _ => by exact pts_nil) (fun _ _ _ _ _ => by exact (pe_ix ix_listJ (PE.or (pe_meth0 (pv 9) T.cl_Point T.m_Point_points (ok_Point_points T) (hr.mono (by omega)) T.b_Point_points .nil pass0) (PE.or (pe_meth0 (pv 9) T.cl_Side T.m_Side_points (ok_Side_points T) (hr.mono (by omega)) T.b_Side_points .nil pass0) (pe_meth0 (pv 9) T.cl_Join T.m_Join_points (ok_Join_points T) (hr.mono (by omega)) T.b_Join_points .nil pass0))) pe_int (fun _ _ => rfl))))
  (pss_cons (ps_if (pt_cmpR (op_neI hr.units) (pv 7) (pe_callB call_sortJ (by rfl) T.sorted (by decide +kernel) (pa_cons (pv 7) pa_nil)) (nomark _))
    (pss_one ps_never)
    pss_nil)
  (pss_cons (ps_if (pt_cmpR op_eq (pv 4) (pe_glob (v := .str "side") rfl T.cSIDE.choose_spec ⟨_, rfl⟩) (nomark _))
    (pss_one (ps_ret (pe_make T.mk_Side (ok_Side_init T) (hr.mono (by omega)) rfl T.gSide T.b_Side_init .nil pass0 (pa_cons (pv 6) pa_nil))))
    pss_nil)
  (pss_one (ps_ret (pe_make T.mk_Join (ok_Join_init T) (hr.mono (by omega)) rfl T.gJoin T.b_Join_init .nil pass0 (pa_cons (pv 6) pa_nil)))))))))))), ?_⟩
    rcases told_kind hv with ⟨n, rfl, rfl⟩ | ⟨j, ts, a, b, vs, rfl, rfl, h1, h2, h3⟩
    · have in1 := inr n (by simp [Tr.pts])
      have hn := hfree n (by simp [Tr.pts])
      have hR : inR (.int n) 0 29 = true := by simp [inR]; omega
      have fw := few
      simp only [Tr.pts, List.length_singleton] at fw
      simp [L2.start, and_assoc, spWhole, hR, hm, hn]
      refine ⟨.int n, by omega, fun x dx nx ndx nxd => ?_⟩
      have bm : But [m] H (upd H m (.dK (putK kvs (Sum.inl n) (.bl true)))) := But.upd (by simp)
      have hx0 : H x = none := bm.dm _ nx
      have hd0 : H dx = none := bm.dm _ ndx
      have nxm : x ≠ m := fun z => by rw [z, hm] at hx0; cases hx0
      have ndm : dx ≠ m := fun z => by rw [z, hm] at hd0; cases hd0
      refine ⟨x, dx, n, rfl, upd_same, rfl, k x _ ?_ ?_ ?_⟩
      · refine ⟨fun y o hy ny => ?_, fun y hy => ?_⟩
        · rw [upd_ne (fun z => by rw [z, hx0] at hy; cases hy), upd_ne (fun z => by rw [z, hx0] at hy; cases hy), upd_ne (fun z => by rw [z, hd0] at hy; cases hy)]
          exact bm.kp _ _ hy ny
        · by_cases e1 : y = x
          · rw [e1]; exact hx0
          · rw [upd_ne e1, upd_ne e1] at hy
            by_cases e2 : y = dx
            · rw [e2]; exact hd0
            · rw [upd_ne e2] at hy
              exact bm.dm _ hy
      · rw [upd_ne nxm.symm, upd_ne nxm.symm, upd_ne ndm.symm, upd_same, putK_new _ hn]
        simp [Tr.pts]
      · rw [TreeAt]
        exact ⟨x, dx, rfl, hx0, upd_same⟩
    · have hR : inR (.ref a) 0 29 = false := rfl
      have n1 := wd_ne j
      rw [Tr.form] at hf
      rw [Tr.pts] at nd inr hfree few k
      rw [Tr.dep] at hdp hd
      have lenv := h3.len
      have plen := parts_le hf.2.2
      simp [L2.start, and_assoc, spWhole, hR]
      refine ⟨.tup h1, a, b, j, vs, rfl, h1, h2, by omega, fun q H1 e1 hq => ?_⟩
      have nab' := nab j rfl
      have dne : ¬ deep = 0 := by omega
      simp [hq, nab', dne]
      refine ⟨_, rfl, b, rfl, ⟨_, .inl (.inl (e1 _ _ h2))⟩, fun D hD => lc_tup (xs := vs) (fun i H2 => But [m] H1 H2 ∧ H2 m = some (.dK (kvs ++ (ptsL (ts.take i)).map fun n => (Sum.inl n, V.bl true))) ∧ ∃ acc, H2 D = some (.lst acc) ∧ TreeL A (fun x => H1 x = none ∧ x ≠ D) H2 acc (ts.take i)) ?_ (fun i H2 _ c => .inl (.inl (c.1.kp _ _ (e1 _ _ h2) (by simp; intro z; rw [z, hm] at h2; cases h2)))) (fun i x H2 hx c => ?_) (fun H4 c => ?_)⟩
      · have ne : m ≠ D := fun z => by rw [← z, e1 _ _ hm] at hD; cases hD
        refine ⟨But.of_ex (Ex.new hD), by rw [upd_ne ne]; simpa [ptsL] using e1 _ _ hm, [], upd_same, by simp [TreeL]⟩
      · obtain ⟨b2, hm2, acc, hD2, tl⟩ := c
        obtain ⟨u, hu, hat⟩ := h3.get hx
        have hmem := List.mem_of_getElem? hu
        have fu := formL_iff.mp hf.2.2 u hmem
        have pstep := pts_step hu
        have ptl := pts_take ts (i + 1)
        rw [pstep, List.length_append] at ptl
        have dl := depL_le hmem
        have al := tl.len
        simp [L2.start, wipe]
        refine ⟨wdS j, x, u, deep - 1, m, _, rfl, ?_, fu.1, nd_part nd hmem, fun n hn => inr n (mem_ptsL.mpr ⟨u, hmem, hn⟩), fun j2 e2 z => ?_, ⟨by omega, by omega⟩, hm2, fun n hn => ?_, by simp; omega, fun a4 H4 b4 hm4 ht4 => ?_⟩
        · exact ToldAt.map (fun y o z => b2.kp _ _ (e1 _ _ z) (by simp; intro e; rw [e, hm] at z; cases z)) u x hat
        · have : j2 = j := by cases j2 <;> cases j <;> first | rfl | exact absurd z (by decide +kernel)
          rw [this] at e2
          exact fu.2 e2
        · refine valV_metK (hfree n (mem_ptsL.mpr ⟨u, hmem, hn⟩)) fun z => ?_
          have nd2 : (ptsL (ts.take (i + 1) ++ ts.drop (i + 1))).Nodup := by rw [List.take_append_drop]; exact nd
          rw [ptsL_app, pstep] at nd2
          exact (List.nodup_append.mp (List.nodup_append.mp nd2).1).2.2 n z n hn rfl
        · have mD : m ≠ D := fun z => by rw [← z, hm2] at hD2; cases hD2
          have hD4 := b4.kp _ _ hD2 (by simp; exact mD.symm)
          refine ⟨acc, hD4, lt_line (by rw [al, List.length_take]; omega), ?_⟩
          have kD : ∀ y o, H4 y = some o → y ≠ D → (upd H4 D (.lst (acc ++ [.ref a4]))) y = some o := fun y o hy ny => by rw [upd_ne ny]; exact hy
          refine ⟨⟨fun y o hy ny => kD _ _ (b4.kp _ _ (b2.kp _ _ hy ny) ny) (fun z => by rw [z, hD] at hy; cases hy), fun y hy => ?_⟩, kD _ _ (by rw [hm4, pstep, List.map_append, List.append_assoc]) mD, _, upd_same, ?_⟩
          · by_cases e : y = D
            · rw [e]; exact hD
            · rw [upd_ne e] at hy
              exact b2.dm _ (b4.dm _ hy)
          · rw [take_one hu]
            have hmn : H1 m ≠ none := by rw [e1 _ _ hm]; simp
            refine TreeL.snoc (tl.to fun y o ny hy => ⟨ny, kD _ _ (b4.kp _ _ hy (by simp; intro z; exact hmn (z ▸ ny.1))) ny.2⟩) (ht4.to fun y o ny hy => ?_)
            have nyD : y ≠ D := fun z => by rw [z, hD2] at ny; cases ny
            exact ⟨⟨b2.dm _ ny, nyD⟩, kD _ _ hy nyD⟩
      · obtain ⟨b2, hm2, acc, hD2, tl⟩ := c
        rw [List.take_of_length_le (by omega)] at tl hm2
        refine ⟨_, rfl, D, rfl, ⟨_, .inl (.inl hD2)⟩, fun L hL => lc_listS (xs := acc) (fun i y _ => y = .int ((ts.map Tr.least).getD i 0)) (fun i y H H' acc h _ _ => h) hL (.inl (.inl hD2)) (by have := tl.len; omega) (fun i x H5 Nn hx e5 hL5 hN => ?_) (fun lst H5 e5 h5 hlen hall => ?_)⟩
        · obtain ⟨u, hu, hat⟩ := tl.get hx
          have fu := formL_iff.mp hf.2.2 u (List.mem_of_getElem? hu)
          simp [wipe]
          refine read_points (hat.up e5) fun q6 H6 n6 e6 h6 => ?_
          rw [j_ixL]
          refine ⟨_, .int u.least, h6, by omega, ?_, hN _ H6 e6 (by simp [hu])⟩
          rw [List.getElem?_map, show (0 : Int).toNat = 0 from rfl, tpts_head fu.1]
          rfl
        · have eI : lst = (ts.map Tr.least).map V.int := ints_of (by rw [hlen, tl.len, List.length_map]) fun i y hy => by
            have hi : i < ts.length := by have := lt_of_get hy; rw [hlen, tl.len] at this; exact this
            exact ⟨ts[i].least, by rw [List.getElem?_map, List.getElem?_eq_getElem hi]; rfl, by rw [hall i y hy]; simp [List.getElem?_eq_getElem hi]⟩
          subst eI
          have hI : LsI H5 L (ts.map Tr.least) := h5
          simp
          refine ⟨_, hI, by rw [List.length_map]; omega, fun p Hz n6 e6 h6 => ?_⟩
          rw [leasts_srt hf.2.1] at h6
          have e46 := e5.trans e6
          have b04 : But [m] H Hz := ((But.of_ex e1).trans b2).trans (But.of_ex e46)
          have hm4 := e46 _ _ hm2
          have hD4 := e46 _ _ hD2
          have htl4 := tl.up e46
          refine ⟨_, hI.up e6, _, h6, .inl ⟨rfl, ?_⟩⟩
          cases j with
          | true =>
            refine .inl ⟨by decide +kernel, ?_⟩
            intro x dx nx ndx nxd
            have e34 := (Ex.new (H := Hz) (p := dx) (o := .own x) ndx)
            have nx' : (upd Hz dx (.own x)) x = none := by rw [upd_ne (Ne.symm nxd)]; exact nx
            have e35 := e34.trans (Ex.new (H := upd Hz dx (.own x)) (p := x) (o := .ins A.c_Join dx []) nx')
            have hx0 : H x = none := b04.dm _ nx
            refine ⟨x, dx, D, fun y => H y = none ∧ y ≠ x, acc, ts, rfl, upd_same, e35 _ _ hD4, htl4.to (fun y o ny hy => ⟨⟨fresh_back e1 ny.1, fun z => by rw [z, nx] at hy; cases hy⟩, e35 _ _ hy⟩), (fun y ny => ny.2), (fun z => by rw [z, nx] at hD4; cases hD4), by omega, fun H6 l q b6 nl nq g1 g2 g3 => ⟨rfl, ?_⟩⟩
            have b46 : But [x] (upd (upd Hz dx (.own x)) x (.ins A.c_Join dx [])) H6 := b6
            have hm6 : H6 m = some (.dK (kvs ++ (ptsL ts).map fun n => (Sum.inl n, V.bl true))) := b6.kp _ _ (e35 _ _ hm4) (by simp; intro z; rw [z, nx] at hm4; cases hm4)
            have b06 : But [m] H H6 := ⟨fun y o hy ny => b6.kp _ _ (e35 _ _ (b04.kp _ _ hy ny)) (by simp; intro z; rw [z, hx0] at hy; cases hy), fun y hy => b04.dm _ (fresh_back e35 (b6.dm _ hy))⟩
            refine k x H6 b06 hm6 ?_
            rw [TreeAt]
            have fr : ∀ y, (upd (upd Hz dx (.own x)) x (.ins A.c_Join dx [])) y = none → H y = none := fun y hy => b04.dm _ (fresh_back e35 hy)
            exact ⟨x, dx, l, q, acc, rfl, hx0, fr _ nl, fr _ nq, g1, g2, g3, htl4.to fun y o ny hy => ⟨fresh_back e1 ny.1, b6.kp _ _ (e35 _ _ hy) (by simp; intro z; rw [z, nx] at hy; cases hy)⟩⟩
          | false =>
            refine .inr ⟨rfl, ?_⟩
            intro x dx nx ndx nxd
            have e34 := (Ex.new (H := Hz) (p := dx) (o := .own x) ndx)
            have nx' : (upd Hz dx (.own x)) x = none := by rw [upd_ne (Ne.symm nxd)]; exact nx
            have e35 := e34.trans (Ex.new (H := upd Hz dx (.own x)) (p := x) (o := .ins A.c_Side dx []) nx')
            have hx0 : H x = none := b04.dm _ nx
            refine ⟨x, dx, D, fun y => H y = none ∧ y ≠ x, acc, ts, rfl, upd_same, e35 _ _ hD4, htl4.to (fun y o ny hy => ⟨⟨fresh_back e1 ny.1, fun z => by rw [z, nx] at hy; cases hy⟩, e35 _ _ hy⟩), (fun y ny => ny.2), (fun z => by rw [z, nx] at hD4; cases hD4), by omega, fun H6 l q b6 nl nq g1 g2 g3 => ⟨rfl, ?_⟩⟩
            have b46 : But [x] (upd (upd Hz dx (.own x)) x (.ins A.c_Side dx [])) H6 := b6
            have hm6 : H6 m = some (.dK (kvs ++ (ptsL ts).map fun n => (Sum.inl n, V.bl true))) := b6.kp _ _ (e35 _ _ hm4) (by simp; intro z; rw [z, nx] at hm4; cases hm4)
            have b06 : But [m] H H6 := ⟨fun y o hy ny => b6.kp _ _ (e35 _ _ (b04.kp _ _ hy ny)) (by simp; intro z; rw [z, hx0] at hy; cases hy), fun y hy => b04.dm _ (fresh_back e35 (b6.dm _ hy))⟩
            refine k x H6 b06 hm6 ?_
            rw [TreeAt]
            have fr : ∀ y, (upd (upd Hz dx (.own x)) x (.ins A.c_Side dx [])) y = none → H y = none := fun y hy => b04.dm _ (fresh_back e35 hy)
            exact ⟨x, dx, l, q, acc, rfl, hx0, fr _ nl, fr _ nq, g1, g2, g3, htl4.to fun y o ny hy => ⟨fresh_back e1 ny.1, b6.kp _ _ (e35 _ _ hy) (by simp; intro z; rw [z, nx] at hy; cases hy)⟩⟩
theorem ok_tree_under (T : Txt K mg A) : ∀ d : Nat, FnOk P w K mg base CX0 (d + 4) A.a_tree_under A.d_tree_under ["above", "told", "deep", "met"] (spUnder A d)
  | 0 => none_spUnder
  | d + 1 => step_tree_under T (ok_tree_under T d)
theorem ok_tree_by (T : Txt K mg A) : FnOk P w K mg base CX0 35 A.a_tree_by A.d_tree_by ["told"] (spTreeBy A) := by
  refine T.F_tree_by.ok sc_tree_by (fun vs H Q E h => ?_) (fun cdv C outer s H vs Q E hr h => ?_)
  · obtain ⟨v, t, rfl, _⟩ := h
    rfl
  · obtain ⟨v, t, rfl, hv, hf, nd, inr, k⟩ := h
    refine ⟨_, (pss_one (ps_ret (pe_call (ok_tree_under T 30) (hr.mono (by decide)) rfl T.g_tree_under T.k_tree_under T.b_tree_under .nil pass0 (pa_cons pe_str (pa_cons (pv 0) (pa_cons (pe_op op_sub (pe_glob (v := .int 30) rfl T.cMOST_POINTS.choose_spec ⟨_, rfl⟩) pe_int) (pa_cons pe_dictJ pa_nil))))))), ?_⟩
    simp [L2.start, and_assoc]
    intro m H1 n1 e1 h1
    have pf := pts_few nd inr
    have df := dep_few hf nd inr
    refine ⟨_, v, t, _, m, [], rfl, hv.up e1, hf, nd, inr, fun j _ => wd_ne j, ⟨by omega, by omega⟩, h1, fun n _ => rfl, by simp; omega, fun a H' b hm ht => ?_⟩
    refine k a H' (fun y o hy => b.kp _ _ (e1 _ _ hy) (by simp; intro z; rw [z, n1] at hy; cases hy)) (ht.to fun y o ny hy => ⟨fresh_back e1 ny, hy⟩)
end
end Jk

namespace Jk
open PySem L2 Evl
/-- as many parts as the model lays at once -/
def okW (t : Tr) : Prop := t.pts.length ≤ 1000 ∧ t.form
def spPointTold (A : Adr) : Sp := fun vs H Q _ => ∃ (a dx : Addr) (n : Int), vs = [.ref a] ∧ H a = some (.ins A.c_Point dx (pf n)) ∧ Q (.int n) H
def spPointTied (A : Adr) : Sp := fun vs H Q _ => ∃ (a dx : Addr) (n x y : Int), vs = [.ref a, .int x, .int y] ∧ H a = some (.ins A.c_Point dx (pf n)) ∧ Q (.bl false) H
def spSideTold (A : Adr) (d : Nat) : Sp := fun vs H Q _ => ∃ (v : V) (N : Addr → Prop) (ts : List Tr), vs = [v] ∧ TreeAt A N H v (.nd false ts) ∧ (Tr.nd false ts).dep < d ∧ (∀ t ∈ ts, okW t) ∧ ts.length ≤ 1000 ∧ ∀ u H', Ex H H' → ToldAt H' u (.nd false ts) → Q u H'
def spSideTied (A : Adr) (d : Nat) : Sp := fun vs H Q _ => ∃ (v : V) (N : Addr → Prop) (ts : List Tr) (x y : Int), vs = [v, .int x, .int y] ∧ TreeAt A N H v (.nd false ts) ∧ (Tr.nd false ts).dep < d ∧ ∀ H', Ex H H' → Q (.bl ((Tr.nd false ts).tie x y)) H'
def spJoinTold (A : Adr) (d : Nat) : Sp := fun vs H Q _ => ∃ (v : V) (N : Addr → Prop) (ts : List Tr), vs = [v] ∧ TreeAt A N H v (.nd true ts) ∧ (Tr.nd true ts).dep < d ∧ (∀ t ∈ ts, okW t) ∧ ts.length ≤ 1000 ∧ ∀ u H', Ex H H' → ToldAt H' u (.nd true ts) → Q u H'
def spJoinTied (A : Adr) (d : Nat) : Sp := fun vs H Q _ => ∃ (v : V) (N : Addr → Prop) (ts : List Tr) (x y : Int), vs = [v, .int x, .int y] ∧ TreeAt A N H v (.nd true ts) ∧ (Tr.nd true ts).dep < d ∧ ∀ H', Ex H H' → Q (.bl ((Tr.nd true ts).tie x y)) H'
def spToldOf (A : Adr) (d : Nat) : Sp := fun vs H Q _ => ∃ (l : Addr) (N : Addr → Prop) (vs0 : List V) (ts : List Tr), vs = [.ref l] ∧ H l = some (.lst vs0) ∧ TreeL A N H vs0 ts ∧ (∀ t ∈ ts, t.dep < d) ∧ (∀ t ∈ ts, okW t) ∧ ts.length ≤ 1000 ∧ ∀ q us H', Ex H H' → H' q = some (.tup us) → ToldL H' us ts → Q (.ref q) H'
def spAmong (A : Adr) (d : Nat) : Sp := fun vs H Q _ => ∃ (l : Addr) (N : Addr → Prop) (vs0 : List V) (ts : List Tr) (x y : Int) (j : Bool), vs = [.ref l, .int x, .int y, .bl j] ∧ H l = some (.lst vs0) ∧ TreeL A N H vs0 ts ∧ (∀ t ∈ ts, t.dep < d) ∧ ∀ H', Ex H H' → Q (.bl (tieL j ts x y)) H'
theorem parts_few {j : Bool} {ts : List Tr} (h : okW (.nd j ts)) : (∀ t ∈ ts, okW t) ∧ ts.length ≤ 1000 := by
  obtain ⟨h1, h2⟩ := h
  rw [Tr.form] at h2
  rw [Tr.pts] at h1
  refine ⟨fun t ht => ⟨?_, (formL_iff.mp h2.2.2 t ht).1⟩, by have := parts_le h2.2.2; omega⟩
  obtain ⟨l, r, rfl⟩ := List.append_of_mem ht
  rw [ptsL_app, ptsL, List.length_append, List.length_append] at h1
  omega
theorem tpts_mem {t : Tr} {x : Int} : x ∈ tpts t ↔ x ∈ t.pts := srt_mem
section
variable {P : Program} {w : World} {K : PySem.W.Frag} {mg : Str → Option Value} {base : Heap} {A : Adr}
theorem ok_Point_told (T : Txt K mg A) : FnOk P w K mg base CX0 1 A.a_Point_told A.d_Point_told ["self"] (spPointTold A) := by
  refine T.F_Point_told.ok sc_Point_told (fun vs H Q E h => ?_) (fun cdv C outer s H vs Q E hr h => ?_)
  · obtain ⟨a, dx, n, rfl, _⟩ := h
    rfl
  · obtain ⟨a, dx, n, rfl, h1, k⟩ := h
    refine ⟨_, (pss_one (ps_ret (pe_fldK (K0 := K) (pv 0)))), ?_⟩
    simp [L2.start, and_assoc, h1, T.cl_Point, T.n_Point__number, pf_number]
    exact k
theorem ok_Point_tied (T : Txt K mg A) : FnOk P w K mg base CX0 1 A.a_Point_tied A.d_Point_tied ["self", "one", "other"] (spPointTied A) := by
  refine T.F_Point_tied.ok sc_Point_tied (fun vs H Q E h => ?_) (fun cdv C outer s H vs Q E hr h => ?_)
  · obtain ⟨a, dx, n, x, y, rfl, _⟩ := h
    rfl
  · obtain ⟨a, dx, n, x, y, rfl, h1, k⟩ := h
    refine ⟨_, (pss_one (ps_ret pe_bl)), ?_⟩
    simpa [L2.start, and_assoc] using k
/-- told() of any tree -/
theorem read_told {d : Nat} {v : V} {t : Tr} {N : Addr → Prop} {H : Hp} {Q : VK} (h : TreeAt A N H v t) (hd : t.dep < d) (hw : okW t) (k : ∀ u H', Ex H H' → ToldAt H' u t → Q u H') :
    (∃ a, v = .ref a ∧ ∃ dx fs, H a = some (.ins A.c_Point dx fs) ∧ NoFld fs "told" ∧ spPointTold A [v] H Q E0) ∨ (∃ a, v = .ref a ∧ ∃ dx fs, H a = some (.ins A.c_Side dx fs) ∧ NoFld fs "told" ∧ spSideTold A d [v] H Q E0) ∨ (∃ a, v = .ref a ∧ ∃ dx fs, H a = some (.ins A.c_Join dx fs) ∧ NoFld fs "told" ∧ spJoinTold A d [v] H Q E0) := by
  rcases tree_kind h with ⟨n, a, dx, rfl, rfl, _, h1⟩ | ⟨ts, a, dx, l, q, vs, rfl, rfl, _, _, _, h1, h2, h3, _⟩ | ⟨ts, a, dx, l, q, vs, rfl, rfl, _, _, _, h1, h2, h3, _⟩
  · exact .inl ⟨a, rfl, dx, _, h1, by simp, a, dx, n, rfl, h1, k _ H (Ex.refl _) (by rw [ToldAt])⟩
  · exact .inr (.inl ⟨a, rfl, dx, _, h1, by simp, _, N, ts, rfl, h, hd, (parts_few hw).1, (parts_few hw).2, k⟩)
  · exact .inr (.inr ⟨a, rfl, dx, _, h1, by simp, _, N, ts, rfl, h, hd, (parts_few hw).1, (parts_few hw).2, k⟩)
theorem read_told' {d : Nat} {a : Addr} {t : Tr} {N : Addr → Prop} {H : Hp} {Q : VK} (h : TreeAt A N H (.ref a) t) (hd : t.dep < d) (hw : okW t) (k : ∀ u H', Ex H H' → ToldAt H' u t → Q u H') :
    (∃ dx fs, H a = some (.ins A.c_Point dx fs) ∧ NoFld fs "told" ∧ spPointTold A [.ref a] H Q E0) ∨ (∃ dx fs, H a = some (.ins A.c_Side dx fs) ∧ NoFld fs "told" ∧ spSideTold A d [.ref a] H Q E0) ∨ (∃ dx fs, H a = some (.ins A.c_Join dx fs) ∧ NoFld fs "told" ∧ spJoinTold A d [.ref a] H Q E0) := by
  rcases read_told h hd hw k with ⟨b, e, r⟩ | ⟨b, e, r⟩ | ⟨b, e, r⟩
  · cases e; exact .inl r
  · cases e; exact .inr (.inl r)
  · cases e; exact .inr (.inr r)
/-- tied() of any tree -/
theorem read_tied {d : Nat} {v : V} {t : Tr} {N : Addr → Prop} {H : Hp} {Q : VK} {x y : Int} (h : TreeAt A N H v t) (hd : t.dep < d) (k : ∀ H', Ex H H' → Q (.bl (t.tie x y)) H') :
    (∃ a, v = .ref a ∧ ∃ dx fs, H a = some (.ins A.c_Point dx fs) ∧ NoFld fs "tied" ∧ spPointTied A [v, .int x, .int y] H Q E0) ∨ (∃ a, v = .ref a ∧ ∃ dx fs, H a = some (.ins A.c_Side dx fs) ∧ NoFld fs "tied" ∧ spSideTied A d [v, .int x, .int y] H Q E0) ∨ (∃ a, v = .ref a ∧ ∃ dx fs, H a = some (.ins A.c_Join dx fs) ∧ NoFld fs "tied" ∧ spJoinTied A d [v, .int x, .int y] H Q E0) := by
  rcases tree_kind h with ⟨n, a, dx, rfl, rfl, _, h1⟩ | ⟨ts, a, dx, l, q, vs, rfl, rfl, _, _, _, h1, h2, h3, _⟩ | ⟨ts, a, dx, l, q, vs, rfl, rfl, _, _, _, h1, h2, h3, _⟩
  · exact .inl ⟨a, rfl, dx, _, h1, by simp, a, dx, n, x, y, rfl, h1, by simpa [Tr.tie] using k H (Ex.refl _)⟩
  · exact .inr (.inl ⟨a, rfl, dx, _, h1, by simp, _, N, ts, x, y, rfl, h, hd, k⟩)
  · exact .inr (.inr ⟨a, rfl, dx, _, h1, by simp, _, N, ts, x, y, rfl, h, hd, k⟩)
theorem read_tied' {d : Nat} {x y : Int} {a : Addr} {t : Tr} {N : Addr → Prop} {H : Hp} {Q : VK} (h : TreeAt A N H (.ref a) t) (hd : t.dep < d) (k : ∀ H', Ex H H' → Q (.bl (t.tie x y)) H') :
    (∃ dx fs, H a = some (.ins A.c_Point dx fs) ∧ NoFld fs "tied" ∧ spPointTied A [.ref a, .int x, .int y] H Q E0) ∨ (∃ dx fs, H a = some (.ins A.c_Side dx fs) ∧ NoFld fs "tied" ∧ spSideTied A d [.ref a, .int x, .int y] H Q E0) ∨ (∃ dx fs, H a = some (.ins A.c_Join dx fs) ∧ NoFld fs "tied" ∧ spJoinTied A d [.ref a, .int x, .int y] H Q E0) := by
  rcases read_tied h hd k with ⟨b, e, r⟩ | ⟨b, e, r⟩ | ⟨b, e, r⟩
  · cases e; exact .inl r
  · cases e; exact .inr (.inl r)
  · cases e; exact .inr (.inr r)
theorem step_Side_told (T : Txt K mg A) {d : Nat} (ih : FnOk P w K mg base CX0 (2 * d + 2) A.a_told_of A.d_told_of ["trees"] (spToldOf A d)) : FnOk P w K mg base CX0 (2 * d + 3) A.a_Side_told A.d_Side_told ["self"] (spSideTold A (d + 1)) := by
  refine T.F_Side_told.ok sc_Side_told (fun vs H Q E h => ?_) (fun cdv C outer s H vs Q E hr h => ?_)
  · obtain ⟨v, N, ts, rfl, _⟩ := h
    rfl
  · obtain ⟨v, N, ts, rfl, h1, hd, hw, few, k⟩ := h
    rw [TreeAt] at h1
    obtain ⟨a, dx, l, q, us, rfl, _, _, _, g1, g2, g3, g4⟩ := h1
    rw [Tr.dep] at hd
    have g1 : H a = some (.ins A.c_Side dx (nf l q)) := g1
    refine ⟨_, (pss_one (ps_ret (pe_tupJ (pa_cons (pe_glob (v := .str "side") rfl T.cSIDE.choose_spec ⟨_, rfl⟩) (pa_cons (pe_call ih (hr.mono (by omega)) rfl T.g_told_of T.k_told_of T.b_told_of .nil pass0 (pa_cons (pe_fldK (K0 := K) (pv 0)) pa_nil)) pa_nil))))), ?_⟩
    simp [L2.start, and_assoc, g1, T.cl_Side, T.n_Side__parts, nf_parts]
    refine ⟨l, N, us, ts, rfl, g2, g4, fun t ht => by have := depL_le ht; omega, hw, few, fun p qs H1 e1 h1 h2 b H2 n2 e2 h3 => k (.ref b) H2 (e1.trans e2) ?_⟩
    rw [ToldAt]
    exact ⟨b, p, qs, rfl, h3, e2 _ _ h1, h2.up e2⟩
theorem step_Join_told (T : Txt K mg A) {d : Nat} (ih : FnOk P w K mg base CX0 (2 * d + 2) A.a_told_of A.d_told_of ["trees"] (spToldOf A d)) : FnOk P w K mg base CX0 (2 * d + 3) A.a_Join_told A.d_Join_told ["self"] (spJoinTold A (d + 1)) := by
  refine T.F_Join_told.ok sc_Join_told (fun vs H Q E h => ?_) (fun cdv C outer s H vs Q E hr h => ?_)
  · obtain ⟨v, N, ts, rfl, _⟩ := h
    rfl
  · obtain ⟨v, N, ts, rfl, h1, hd, hw, few, k⟩ := h
    rw [TreeAt] at h1
    obtain ⟨a, dx, l, q, us, rfl, _, _, _, g1, g2, g3, g4⟩ := h1
    rw [Tr.dep] at hd
    have g1 : H a = some (.ins A.c_Join dx (nf l q)) := g1
    refine ⟨_, (pss_one (ps_ret (pe_tupJ (pa_cons (pe_glob (v := .str "join") rfl T.cJOIN.choose_spec ⟨_, rfl⟩) (pa_cons (pe_call ih (hr.mono (by omega)) rfl T.g_told_of T.k_told_of T.b_told_of .nil pass0 (pa_cons (pe_fldK (K0 := K) (pv 0)) pa_nil)) pa_nil))))), ?_⟩
    simp [L2.start, and_assoc, g1, T.cl_Join, T.n_Join__parts, nf_parts]
    refine ⟨l, N, us, ts, rfl, g2, g4, fun t ht => by have := depL_le ht; omega, hw, few, fun p qs H1 e1 h1 h2 b H2 n2 e2 h3 => k (.ref b) H2 (e1.trans e2) ?_⟩
    rw [ToldAt]
    exact ⟨b, p, qs, rfl, h3, e2 _ _ h1, h2.up e2⟩
theorem step_Side_tied (T : Txt K mg A) {d : Nat} (ih : FnOk P w K mg base CX0 (2 * d + 2) A.a_tied_among A.d_tied_among ["trees", "one", "other", "across"] (spAmong A d)) : FnOk P w K mg base CX0 (2 * d + 3) A.a_Side_tied A.d_Side_tied ["self", "one", "other"] (spSideTied A (d + 1)) := by
  refine T.F_Side_tied.ok sc_Side_tied (fun vs H Q E h => ?_) (fun cdv C outer s H vs Q E hr h => ?_)
  · obtain ⟨v, N, ts, x, y, rfl, _⟩ := h
    rfl
  · obtain ⟨v, N, ts, x, y, rfl, h1, hd, k⟩ := h
    rw [TreeAt] at h1
    obtain ⟨a, dx, l, q, us, rfl, _, _, _, g1, g2, g3, g4⟩ := h1
    rw [Tr.dep] at hd
    have g1 : H a = some (.ins A.c_Side dx (nf l q)) := g1
    refine ⟨_, (pss_one (ps_ret (pe_call ih (hr.mono (by omega)) rfl T.g_tied_among T.k_tied_among T.b_tied_among .nil pass0 (pa_cons (pe_fldK (K0 := K) (pv 0)) (pa_cons (pv 1) (pa_cons (pv 2) (pa_cons pe_bl pa_nil))))))), ?_⟩
    simp [L2.start, and_assoc, g1, T.cl_Side, T.n_Side__parts, nf_parts]
    exact ⟨l, N, us, ts, x, y, false, rfl, g2, g4, fun t ht => by have := depL_le ht; omega, fun H1 e1 => by rw [Tr.tie] at k; exact k H1 e1⟩
theorem step_Join_tied (T : Txt K mg A) {d : Nat} (ih : FnOk P w K mg base CX0 (2 * d + 2) A.a_tied_among A.d_tied_among ["trees", "one", "other", "across"] (spAmong A d)) : FnOk P w K mg base CX0 (2 * d + 3) A.a_Join_tied A.d_Join_tied ["self", "one", "other"] (spJoinTied A (d + 1)) := by
  refine T.F_Join_tied.ok sc_Join_tied (fun vs H Q E h => ?_) (fun cdv C outer s H vs Q E hr h => ?_)
  · obtain ⟨v, N, ts, x, y, rfl, _⟩ := h
    rfl
  · obtain ⟨v, N, ts, x, y, rfl, h1, hd, k⟩ := h
    rw [TreeAt] at h1
    obtain ⟨a, dx, l, q, us, rfl, _, _, _, g1, g2, g3, g4⟩ := h1
    rw [Tr.dep] at hd
    have g1 : H a = some (.ins A.c_Join dx (nf l q)) := g1
    refine ⟨_, (pss_one (ps_ret (pe_call ih (hr.mono (by omega)) rfl T.g_tied_among T.k_tied_among T.b_tied_among .nil pass0 (pa_cons (pe_fldK (K0 := K) (pv 0)) (pa_cons (pv 1) (pa_cons (pv 2) (pa_cons pe_bl pa_nil))))))), ?_⟩
    simp [L2.start, and_assoc, g1, T.cl_Join, T.n_Join__parts, nf_parts]
    exact ⟨l, N, us, ts, x, y, true, rfl, g2, g4, fun t ht => by have := depL_le ht; omega, fun H1 e1 => by rw [Tr.tie] at k; exact k H1 e1⟩
theorem step_told_of (T : Txt K mg A) {d : Nat} (ihS : FnOk P w K mg base CX0 (2 * d + 1) A.a_Side_told A.d_Side_told ["self"] (spSideTold A d)) (ihJ : FnOk P w K mg base CX0 (2 * d + 1) A.a_Join_told A.d_Join_told ["self"] (spJoinTold A d)) : FnOk P w K mg base CX0 (2 * d + 2) A.a_told_of A.d_told_of ["trees"] (spToldOf A d) := by
  refine T.F_told_of.ok sc_told_of (fun vs H Q E h => ?_) (fun cdv C outer s H vs Q E hr h => ?_)
  · obtain ⟨l, N, vs0, ts, rfl, _⟩ := h
    rfl
  · obtain ⟨l, N, vs0, ts, rfl, h1, h2, hd, hw, few, k⟩ := h
    refine ⟨_, (pss_one (ps_ret (pe_callTy call_tupJ (by rfl) T.tuple (by decide +kernel) (pa_cons (pe_lc (own := [("tree", 1)]) rfl sc_told_of.nd (pi_list (pv 0)) (blkOk_by (own := [("tree", 1)]) (N := ["trees", "tree"]) (sc := defScope s_told_of) (by decide +kernel)) (fun _ _ _ _ _ => by exact (pg_name (i := 1) sc_told_of.nd rfl (Or.inl rfl))) (fun _ _ _ _ _ => by exact pts_nil) (fun _ _ _ _ _ => by exact (PE.or (pe_meth0 (pv 1) T.cl_Point T.m_Point_told (ok_Point_told T) (hr.mono (by omega)) T.b_Point_told .nil pass0) (PE.or (pe_meth0 (pv 1) T.cl_Side T.m_Side_told ihS (hr.mono (by omega)) T.b_Side_told .nil pass0) (pe_meth0 (pv 1) T.cl_Join T.m_Join_told ihJ (hr.mono (by omega)) T.b_Join_told .nil pass0))))) pa_nil)))), ?_⟩
    have tl := h2.len
    refine ⟨_, rfl, l, rfl, ⟨_, .inl (.inl h1)⟩, fun D hD => ?_⟩
    refine lc_listS (xs := vs0) (fun i y H => ∃ t, ts[i]? = some t ∧ ToldAt H y t) stay_told hD (.inl (.inl h1)) (by omega) (fun i x H1 Nn hx e hH hN => ?_) (fun acc H1 e h3 hlen hall => ?_)
    · obtain ⟨t, ht, hat⟩ := h2.get hx
      have hm := List.mem_of_getElem? ht
      simp [L2.start, wipe]
      exact read_told (hat.up e) (hd t hm) (hw t hm) fun u H2 e2 h2 => hN u H2 e2 ⟨t, ht, h2⟩
    · have tl2 : ToldL H1 acc ts := toldL_iff.mpr ⟨by omega, fun i v t hv ht => by
        obtain ⟨t', h1, h2⟩ := hall i v hv
        rw [ht] at h1
        cases h1
        exact h2⟩
      simp [h3]
      exact fun p H2 n2 e2 h4 => k p acc H2 (e.trans e2) h4 (tl2.up e2)
theorem step_tied_among (T : Txt K mg A) {d : Nat} (ihS : FnOk P w K mg base CX0 (2 * d + 1) A.a_Side_tied A.d_Side_tied ["self", "one", "other"] (spSideTied A d)) (ihJ : FnOk P w K mg base CX0 (2 * d + 1) A.a_Join_tied A.d_Join_tied ["self", "one", "other"] (spJoinTied A d)) : FnOk P w K mg base CX0 (2 * d + 2) A.a_tied_among A.d_tied_among ["trees", "one", "other", "across"] (spAmong A d) := by
  refine T.F_tied_among.ok sc_tied_among (fun vs H Q E h => ?_) (fun cdv C outer s H vs Q E hr h => ?_)
  · obtain ⟨l, N, vs0, ts, x, y, j, rfl, _⟩ := h
    rfl
  · obtain ⟨l, N, vs0, ts, x, y, j, rfl, h1, h2, hd, k⟩ := h
    refine ⟨_, (pss_cons (ps_for PassesOwn.never rfl (pi_list (pv 0)) (pg_name (i := 4) sc_tied_among.nd rfl (.inl rfl))
    (pss_cons (ps_set (i := 5) sc_tied_among.nd rfl (Or.inl rfl) (PE.or (pe_meth0 (pv 4) T.cl_Point T.m_Point_points (ok_Point_points T) (hr.mono (by omega)) T.b_Point_points .nil pass0) (PE.or (pe_meth0 (pv 4) T.cl_Side T.m_Side_points (ok_Side_points T) (hr.mono (by omega)) T.b_Side_points .nil pass0) (pe_meth0 (pv 4) T.cl_Join T.m_Join_points (ok_Join_points T) (hr.mono (by omega)) T.b_Join_points .nil pass0))))
      (pss_one (ps_if (PW.pt (pw_and (pt_cmpR op_inI (pv 1) (pv 5) (by rfl)) (pw_and1 (pt_cmpR op_inI (pv 2) (pv 5) (by rfl)))))
        (pss_one (ps_ret (PE.or (pe_meth (pv 4) T.cl_Point T.m_Point_tied (ok_Point_tied T) (hr.mono (by omega)) T.b_Point_tied .nil pass0 (pa_cons (pv 1) (pa_cons (pv 2) pa_nil))) (PE.or (pe_meth (pv 4) T.cl_Side T.m_Side_tied ihS (hr.mono (by omega)) T.b_Side_tied .nil pass0 (pa_cons (pv 1) (pa_cons (pv 2) pa_nil))) (pe_meth (pv 4) T.cl_Join T.m_Join_tied ihJ (hr.mono (by omega)) T.b_Join_tied .nil pass0 (pa_cons (pv 1) (pa_cons (pv 2) pa_nil)))))))
        pss_nil))))
  (pss_one (ps_ret (pv 3)))), ?_⟩
    have tl := h2.len
    refine ⟨_, rfl, l, rfl, ⟨_, .inl (.inl h1)⟩, for_list (xs := vs0) (fun i σ H1 => ∃ (b4 b5 : Option V), σ = [some (.ref l), some (.int x), some (.int y), some (.bl j), b4, b5] ∧ Ex H H1 ∧ tieL j ts x y = tieL j (ts.drop i) x y) ⟨none, none, rfl, Ex.refl _, rfl⟩ (fun i σ H1 _ h => ?_) (fun i v σ H1 hv h => ?_) (fun σ H1 h => ?_)⟩
    · obtain ⟨b4, b5, rfl, e, _⟩ := h
      exact .inl (.inl (e _ _ h1))
    · obtain ⟨b4, b5, rfl, e, ht⟩ := h
      obtain ⟨t, hti, hat⟩ := h2.get hv
      have hm := List.mem_of_getElem? hti
      have ds : ts.drop i = t :: ts.drop (i + 1) := by
        rw [List.drop_eq_getElem_cons (lt_of_get hti)]
        have := (List.getElem?_eq_some_iff.mp hti).2
        rw [this]
      rw [ds, tieL] at ht
      simp
      refine read_points (hat.up e) fun q H2 n2 e2 h2 => ?_
      have e02 := e.trans e2
      rw [j_inI, lsI_ex h2]
      by_cases hx : x ∈ t.pts
      · refine .inr ⟨by simp [tpts_mem, hx], ?_⟩
        rw [j_inI, lsI_ex h2]
        by_cases hy : y ∈ t.pts
        · refine .inr ⟨by simp [tpts_mem, hy], read_tied (hat.up e02) (hd t hm) fun H3 e3 => ?_⟩
          rw [if_pos ⟨hx, hy⟩] at ht
          rw [← ht]
          exact k H3 (e02.trans e3)
        · exact .inl ⟨by simp [tpts_mem, hy], e02, by rw [ht, if_neg (fun z => hy z.2)]⟩
      · exact .inl ⟨by simp [tpts_mem, hx], e02, by rw [ht, if_neg (fun z => hx z.1)]⟩
    · obtain ⟨b4, b5, rfl, e, ht⟩ := h
      rw [List.drop_eq_nil_of_le (by omega), tieL] at ht
      rw [ht] at k
      exact ⟨_, rfl, k H1 e⟩
theorem none_SideTold {f : Addr} {fd : FuncData} {ps : List Str} {k : Nat} : FnOk P w K mg base CX0 k f fd ps (spSideTold A 0) :=
  ⟨fun vs H Q E ⟨_, _, _, _, _, h, _⟩ => absurd h (Nat.not_lt_zero _), fun A outer s H args us vs Q E _ _ _ _ ⟨_, _, _, _, _, h, _⟩ => absurd h (Nat.not_lt_zero _)⟩
theorem none_JoinTold {f : Addr} {fd : FuncData} {ps : List Str} {k : Nat} : FnOk P w K mg base CX0 k f fd ps (spJoinTold A 0) :=
  ⟨fun vs H Q E ⟨_, _, _, _, _, h, _⟩ => absurd h (Nat.not_lt_zero _), fun A outer s H args us vs Q E _ _ _ _ ⟨_, _, _, _, _, h, _⟩ => absurd h (Nat.not_lt_zero _)⟩
theorem none_SideTied {f : Addr} {fd : FuncData} {ps : List Str} {k : Nat} : FnOk P w K mg base CX0 k f fd ps (spSideTied A 0) :=
  ⟨fun vs H Q E ⟨_, _, _, _, _, _, _, h, _⟩ => absurd h (Nat.not_lt_zero _), fun A outer s H args us vs Q E _ _ _ _ ⟨_, _, _, _, _, _, _, h, _⟩ => absurd h (Nat.not_lt_zero _)⟩
theorem none_JoinTied {f : Addr} {fd : FuncData} {ps : List Str} {k : Nat} : FnOk P w K mg base CX0 k f fd ps (spJoinTied A 0) :=
  ⟨fun vs H Q E ⟨_, _, _, _, _, _, _, h, _⟩ => absurd h (Nat.not_lt_zero _), fun A outer s H args us vs Q E _ _ _ _ ⟨_, _, _, _, _, _, _, h, _⟩ => absurd h (Nat.not_lt_zero _)⟩
theorem ok_tolds (T : Txt K mg A) : ∀ d : Nat, FnOk P w K mg base CX0 (2 * d + 1) A.a_Side_told A.d_Side_told ["self"] (spSideTold A d) ∧ FnOk P w K mg base CX0 (2 * d + 1) A.a_Join_told A.d_Join_told ["self"] (spJoinTold A d)
  | 0 => ⟨none_SideTold, none_JoinTold⟩
  | d + 1 => ⟨step_Side_told T (step_told_of T (ok_tolds T d).1 (ok_tolds T d).2), step_Join_told T (step_told_of T (ok_tolds T d).1 (ok_tolds T d).2)⟩
theorem ok_tieds (T : Txt K mg A) : ∀ d : Nat, FnOk P w K mg base CX0 (2 * d + 1) A.a_Side_tied A.d_Side_tied ["self", "one", "other"] (spSideTied A d) ∧ FnOk P w K mg base CX0 (2 * d + 1) A.a_Join_tied A.d_Join_tied ["self", "one", "other"] (spJoinTied A d)
  | 0 => ⟨none_SideTied, none_JoinTied⟩
  | d + 1 => ⟨step_Side_tied T (step_tied_among T (ok_tieds T d).1 (ok_tieds T d).2), step_Join_tied T (step_tied_among T (ok_tieds T d).1 (ok_tieds T d).2)⟩
theorem ok_Side_told (T : Txt K mg A) : FnOk P w K mg base CX0 61 A.a_Side_told A.d_Side_told ["self"] (spSideTold A 30) := (ok_tolds T 30).1
theorem ok_Join_told (T : Txt K mg A) : FnOk P w K mg base CX0 61 A.a_Join_told A.d_Join_told ["self"] (spJoinTold A 30) := (ok_tolds T 30).2
theorem ok_Side_tied (T : Txt K mg A) : FnOk P w K mg base CX0 61 A.a_Side_tied A.d_Side_tied ["self", "one", "other"] (spSideTied A 30) := (ok_tieds T 30).1
theorem ok_Join_tied (T : Txt K mg A) : FnOk P w K mg base CX0 61 A.a_Join_tied A.d_Join_tied ["self", "one", "other"] (spJoinTied A 30) := (ok_tieds T 30).2
end
end Jk

namespace Jk
open PySem L2 Evl
def spPointTurn (A : Adr) : Sp := fun vs H Q _ => ∃ (a dx : Addr) (n : Int), vs = [.ref a] ∧ H a = some (.ins A.c_Point dx (pf n)) ∧ ∀ a H', Ex H H' → TreeAt A (fun x => H x = none) H' (.ref a) (.pt n) → Q (.ref a) H'
def spSideTurn (A : Adr) (d : Nat) : Sp := fun vs H Q _ => ∃ (v : V) (N : Addr → Prop) (ts : List Tr), vs = [v] ∧ TreeAt A N H v (.nd false ts) ∧ (Tr.nd false ts).dep < d ∧ (Tr.nd false ts).pts.length < 64 ∧ (Tr.nd false ts).form ∧ ∀ a H', Ex H H' → TreeAt A (fun x => H x = none) H' (.ref a) (Tr.nd false ts).turn → Q (.ref a) H'
def spJoinTurn (A : Adr) (d : Nat) : Sp := fun vs H Q _ => ∃ (v : V) (N : Addr → Prop) (ts : List Tr), vs = [v] ∧ TreeAt A N H v (.nd true ts) ∧ (Tr.nd true ts).dep < d ∧ (Tr.nd true ts).pts.length < 64 ∧ (Tr.nd true ts).form ∧ ∀ a H', Ex H H' → TreeAt A (fun x => H x = none) H' (.ref a) (Tr.nd true ts).turn → Q (.ref a) H'
def spTurnedOf (A : Adr) (d : Nat) : Sp := fun vs H Q _ => ∃ (l : Addr) (N : Addr → Prop) (vs0 : List V) (ts : List Tr), vs = [.ref l] ∧ H l = some (.lst vs0) ∧ TreeL A N H vs0 ts ∧ (∀ t ∈ ts, t.dep < d) ∧ ts.length ≤ 1000 ∧ (ptsL ts).length < 64 ∧ (∀ t ∈ ts, t.form) ∧
  ∀ D acc H', Ex H H' → H D = none → H' D = some (.lst acc) → TreeL A (fun x => H x = none ∧ x ≠ D) H' acc (turnL ts) → Q (.ref D) H'
theorem part_few {ts : List Tr} {t : Tr} (h : t ∈ ts) : t.pts.length ≤ (ptsL ts).length := by
  obtain ⟨l, r, rfl⟩ := List.append_of_mem h
  rw [ptsL_app, ptsL, List.length_append, List.length_append]
  omega
section
variable {A : Adr}
theorem make_Side {H1 : Hp} {D x dx : Addr} {acc : List V} {ts : List Tr} {N : Addr → Prop} {Q : VK} (hD : H1 D = some (.lst acc)) (ht : TreeL A N H1 acc ts) (nx : H1 x = none) (ndx : H1 dx = none) (nxd : ¬ dx = x) (few : (ptsL ts).length < 64)
    (k : ∀ H2, Ex H1 H2 → TreeAt A (fun y => N y ∨ H1 y = none) H2 (.ref x) (.nd false ts) → Q (.ref x) H2) : spSideInit A [.ref x, .ref D] (upd (upd H1 dx (.own x)) x (.ins A.c_Side dx [])) (fun v H2 => v = .non ∧ Q (.ref x) H2) E0 := by
  have e34 := (Ex.new (H := H1) (p := dx) (o := .own x) ndx)
  have nx' : (upd H1 dx (.own x)) x = none := by rw [upd_ne (Ne.symm nxd)]; exact nx
  have e35 := e34.trans (Ex.new (H := upd H1 dx (.own x)) (p := x) (o := .ins A.c_Side dx []) nx')
  refine ⟨x, dx, D, fun y => N y ∧ y ≠ x, acc, ts, rfl, upd_same, e35 _ _ hD, ht.to (fun y o ny hy => ⟨⟨ny, fun z => by rw [z, nx] at hy; cases hy⟩, e35 _ _ hy⟩), (fun y ny => ny.2), (fun z => by rw [z, nx] at hD; cases hD), few, fun H6 l q b6 nl nq g1 g2 g3 => ⟨rfl, ?_⟩⟩
  have e16 : Ex H1 H6 := fun y o hy => b6.kp _ _ (e35 _ _ hy) (by simp; intro z; rw [z, nx] at hy; cases hy)
  refine k H6 e16 ?_
  rw [TreeAt]
  have fr : ∀ y, (upd (upd H1 dx (.own x)) x (.ins A.c_Side dx [])) y = none → H1 y = none := fun y hy => fresh_back e35 hy
  exact ⟨x, dx, l, q, acc, rfl, .inr nx, .inr (fr _ nl), .inr (fr _ nq), g1, g2, g3, ht.to fun y o ny hy => ⟨.inl ny, e16 _ _ hy⟩⟩
theorem make_Join {H1 : Hp} {D x dx : Addr} {acc : List V} {ts : List Tr} {N : Addr → Prop} {Q : VK} (hD : H1 D = some (.lst acc)) (ht : TreeL A N H1 acc ts) (nx : H1 x = none) (ndx : H1 dx = none) (nxd : ¬ dx = x) (few : (ptsL ts).length < 64)
    (k : ∀ H2, Ex H1 H2 → TreeAt A (fun y => N y ∨ H1 y = none) H2 (.ref x) (.nd true ts) → Q (.ref x) H2) : spJoinInit A [.ref x, .ref D] (upd (upd H1 dx (.own x)) x (.ins A.c_Join dx [])) (fun v H2 => v = .non ∧ Q (.ref x) H2) E0 := by
  have e34 := (Ex.new (H := H1) (p := dx) (o := .own x) ndx)
  have nx' : (upd H1 dx (.own x)) x = none := by rw [upd_ne (Ne.symm nxd)]; exact nx
  have e35 := e34.trans (Ex.new (H := upd H1 dx (.own x)) (p := x) (o := .ins A.c_Join dx []) nx')
  refine ⟨x, dx, D, fun y => N y ∧ y ≠ x, acc, ts, rfl, upd_same, e35 _ _ hD, ht.to (fun y o ny hy => ⟨⟨ny, fun z => by rw [z, nx] at hy; cases hy⟩, e35 _ _ hy⟩), (fun y ny => ny.2), (fun z => by rw [z, nx] at hD; cases hD), few, fun H6 l q b6 nl nq g1 g2 g3 => ⟨rfl, ?_⟩⟩
  have e16 : Ex H1 H6 := fun y o hy => b6.kp _ _ (e35 _ _ hy) (by simp; intro z; rw [z, nx] at hy; cases hy)
  refine k H6 e16 ?_
  rw [TreeAt]
  have fr : ∀ y, (upd (upd H1 dx (.own x)) x (.ins A.c_Join dx [])) y = none → H1 y = none := fun y hy => fresh_back e35 hy
  exact ⟨x, dx, l, q, acc, rfl, .inr nx, .inr (fr _ nl), .inr (fr _ nq), g1, g2, g3, ht.to fun y o ny hy => ⟨.inl ny, e16 _ _ hy⟩⟩
end
section
variable {P : Program} {w : World} {K : PySem.W.Frag} {mg : Str → Option Value} {base : Heap} {A : Adr}
theorem make_point {H : Hp} {x dx : Addr} {n : Int} {Q : VK} (nx : H x = none) (ndx : H dx = none) (nxd : ¬ dx = x) (k : ∀ H', Ex H H' → TreeAt A (fun x => H x = none) H' (.ref x) (.pt n) → Q (.ref x) H') :
    spPointInit A [.ref x, .int n] (upd (upd H dx (.own x)) x (.ins A.c_Point dx [])) (fun v H2 => v = .non ∧ Q (.ref x) H2) E0 := by
  have e1 : Ex H (upd (upd (upd H dx (.own x)) x (.ins A.c_Point dx [])) x (.ins A.c_Point dx (pf n))) := (Ex.mut (Ex.mut (Ex.new ndx) nx) nx)
  refine ⟨x, dx, n, rfl, upd_same, rfl, k _ e1 ?_⟩
  rw [TreeAt]
  exact ⟨x, dx, rfl, nx, upd_same⟩
theorem ok_Point_turned (T : Txt K mg A) : FnOk P w K mg base CX0 3 A.a_Point_turned A.d_Point_turned ["self"] (spPointTurn A) := by
  refine T.F_Point_turned.ok sc_Point_turned (fun vs H Q E h => ?_) (fun cdv C outer s H vs Q E hr h => ?_)
  · obtain ⟨a, dx, n, rfl, _⟩ := h
    rfl
  · obtain ⟨a, dx, n, rfl, h1, k⟩ := h
    refine ⟨_, (pss_one (ps_ret (pe_make T.mk_Point (ok_Point_init T) (hr.mono (by omega)) rfl T.gPoint T.b_Point_init .nil pass0 (pa_cons (pe_fldK (K0 := K) (pv 0)) pa_nil)))), ?_⟩
    simp [L2.start, and_assoc, h1, T.cl_Point, T.n_Point__number, pf_number]
    exact fun x dx nx ndx nxd => make_point nx ndx nxd fun H' e t => k x H' e t
/-- turned() of any tree -/
theorem read_turned {d : Nat} {v : V} {t : Tr} {N : Addr → Prop} {H : Hp} {Q : VK} (h : TreeAt A N H v t) (hd : t.dep < d) (few : t.pts.length < 64) (hf : t.form) (k : ∀ a H', Ex H H' → TreeAt A (fun x => H x = none) H' (.ref a) t.turn → Q (.ref a) H') :
    (∃ a, v = .ref a ∧ ∃ dx fs, H a = some (.ins A.c_Point dx fs) ∧ NoFld fs "turned" ∧ spPointTurn A [v] H Q E0) ∨ (∃ a, v = .ref a ∧ ∃ dx fs, H a = some (.ins A.c_Side dx fs) ∧ NoFld fs "turned" ∧ spSideTurn A d [v] H Q E0) ∨ (∃ a, v = .ref a ∧ ∃ dx fs, H a = some (.ins A.c_Join dx fs) ∧ NoFld fs "turned" ∧ spJoinTurn A d [v] H Q E0) := by
  rcases tree_kind h with ⟨n, a, dx, rfl, rfl, _, h1⟩ | ⟨ts, a, dx, l, q, vs, rfl, rfl, _, _, _, h1, h2, h3, _⟩ | ⟨ts, a, dx, l, q, vs, rfl, rfl, _, _, _, h1, h2, h3, _⟩
  · exact .inl ⟨a, rfl, dx, _, h1, by simp, a, dx, n, rfl, h1, fun a2 H' e ht => k a2 H' e (by rw [Tr.turn]; exact ht)⟩
  · exact .inr (.inl ⟨a, rfl, dx, _, h1, by simp, _, N, ts, rfl, h, hd, few, hf, k⟩)
  · exact .inr (.inr ⟨a, rfl, dx, _, h1, by simp, _, N, ts, rfl, h, hd, few, hf, k⟩)
theorem read_turned' {d : Nat} {a : Addr} {t : Tr} {N : Addr → Prop} {H : Hp} {Q : VK} (h : TreeAt A N H (.ref a) t) (hd : t.dep < d) (few : t.pts.length < 64) (hf : t.form) (k : ∀ a H', Ex H H' → TreeAt A (fun x => H x = none) H' (.ref a) t.turn → Q (.ref a) H') :
    (∃ dx fs, H a = some (.ins A.c_Point dx fs) ∧ NoFld fs "turned" ∧ spPointTurn A [.ref a] H Q E0) ∨ (∃ dx fs, H a = some (.ins A.c_Side dx fs) ∧ NoFld fs "turned" ∧ spSideTurn A d [.ref a] H Q E0) ∨ (∃ dx fs, H a = some (.ins A.c_Join dx fs) ∧ NoFld fs "turned" ∧ spJoinTurn A d [.ref a] H Q E0) := by
  rcases read_turned h hd few hf k with ⟨b, e, r⟩ | ⟨b, e, r⟩ | ⟨b, e, r⟩
  · cases e; exact .inl r
  · cases e; exact .inr (.inl r)
  · cases e; exact .inr (.inr r)
theorem step_Side_turned (T : Txt K mg A) {d : Nat} (ih : FnOk P w K mg base CX0 (2 * d + 4) A.a_turned_of A.d_turned_of ["trees"] (spTurnedOf A d)) : FnOk P w K mg base CX0 (2 * d + 5) A.a_Side_turned A.d_Side_turned ["self"] (spSideTurn A (d + 1)) := by
  refine T.F_Side_turned.ok sc_Side_turned (fun vs H Q E h => ?_) (fun cdv C outer s H vs Q E hr h => ?_)
  · obtain ⟨v, N, ts, rfl, _⟩ := h
    rfl
  · obtain ⟨v, N, ts, rfl, h1, hd, few, hf, k⟩ := h
    rw [TreeAt] at h1
    obtain ⟨a, dx, l, q, us, rfl, _, _, _, g1, g2, g3, g4⟩ := h1
    rw [Tr.dep] at hd
    rw [Tr.pts] at few
    rw [Tr.form] at hf
    have g1 : H a = some (.ins A.c_Side dx (nf l q)) := g1
    refine ⟨_, (pss_one (ps_ret (pe_make T.mk_Join (ok_Join_init T) (hr.mono (by omega)) rfl T.gJoin T.b_Join_init .nil pass0 (pa_cons (pe_call ih (hr.mono (by omega)) rfl T.g_turned_of T.k_turned_of T.b_turned_of .nil pass0 (pa_cons (pe_fldK (K0 := K) (pv 0)) pa_nil)) pa_nil)))), ?_⟩
    simp [L2.start, and_assoc, g1, T.cl_Side, T.n_Side__parts, nf_parts]
    refine ⟨l, N, us, ts, rfl, g2, g4, fun t ht => by have := depL_le ht; omega, by have := parts_le hf.2.2; omega, few, fun t ht => (formL_iff.mp hf.2.2 t ht).1, fun D acc H1 e1 nD hD ht x dx2 nx ndx nxd => ?_⟩
    refine make_Join hD ht nx ndx nxd (by rw [turnL_pts]; exact few) fun H2 e2 t2 => k x H2 (e1.trans e2) ?_
    rw [Tr.turn]
    exact t2.to fun y o ny hy => ⟨ny.elim (fun z => z.1) (fun z => fresh_back e1 z), hy⟩
theorem step_Join_turned (T : Txt K mg A) {d : Nat} (ih : FnOk P w K mg base CX0 (2 * d + 4) A.a_turned_of A.d_turned_of ["trees"] (spTurnedOf A d)) : FnOk P w K mg base CX0 (2 * d + 5) A.a_Join_turned A.d_Join_turned ["self"] (spJoinTurn A (d + 1)) := by
  refine T.F_Join_turned.ok sc_Join_turned (fun vs H Q E h => ?_) (fun cdv C outer s H vs Q E hr h => ?_)
  · obtain ⟨v, N, ts, rfl, _⟩ := h
    rfl
  · obtain ⟨v, N, ts, rfl, h1, hd, few, hf, k⟩ := h
    rw [TreeAt] at h1
    obtain ⟨a, dx, l, q, us, rfl, _, _, _, g1, g2, g3, g4⟩ := h1
    rw [Tr.dep] at hd
    rw [Tr.pts] at few
    rw [Tr.form] at hf
    have g1 : H a = some (.ins A.c_Join dx (nf l q)) := g1
    refine ⟨_, (pss_one (ps_ret (pe_make T.mk_Side (ok_Side_init T) (hr.mono (by omega)) rfl T.gSide T.b_Side_init .nil pass0 (pa_cons (pe_call ih (hr.mono (by omega)) rfl T.g_turned_of T.k_turned_of T.b_turned_of .nil pass0 (pa_cons (pe_fldK (K0 := K) (pv 0)) pa_nil)) pa_nil)))), ?_⟩
    simp [L2.start, and_assoc, g1, T.cl_Join, T.n_Join__parts, nf_parts]
    refine ⟨l, N, us, ts, rfl, g2, g4, fun t ht => by have := depL_le ht; omega, by have := parts_le hf.2.2; omega, few, fun t ht => (formL_iff.mp hf.2.2 t ht).1, fun D acc H1 e1 nD hD ht x dx2 nx ndx nxd => ?_⟩
    refine make_Side hD ht nx ndx nxd (by rw [turnL_pts]; exact few) fun H2 e2 t2 => k x H2 (e1.trans e2) ?_
    rw [Tr.turn]
    exact t2.to fun y o ny hy => ⟨ny.elim (fun z => z.1) (fun z => fresh_back e1 z), hy⟩
theorem step_turned_of (T : Txt K mg A) {d : Nat} (ihS : FnOk P w K mg base CX0 (2 * d + 3) A.a_Side_turned A.d_Side_turned ["self"] (spSideTurn A d)) (ihJ : FnOk P w K mg base CX0 (2 * d + 3) A.a_Join_turned A.d_Join_turned ["self"] (spJoinTurn A d)) : FnOk P w K mg base CX0 (2 * d + 4) A.a_turned_of A.d_turned_of ["trees"] (spTurnedOf A d) := by
  refine T.F_turned_of.ok sc_turned_of (fun vs H Q E h => ?_) (fun cdv C outer s H vs Q E hr h => ?_)
  · obtain ⟨l, N, vs0, ts, rfl, _⟩ := h
    rfl
  · obtain ⟨l, N, vs0, ts, rfl, h1, h2, hd, few, fewp, hf, k⟩ := h
    refine ⟨_, (pss_one (ps_ret (pe_lc (own := [("tree", 1)]) rfl sc_turned_of.nd (pi_list (pv 0)) (blkOk_by (own := [("tree", 1)]) (N := ["trees", "tree"]) (sc := defScope s_turned_of) (by decide +kernel)) (fun _ _ _ _ _ => by exact (pg_name (i := 1) sc_turned_of.nd rfl (Or.inl rfl))) (fun _ _ _ _ _ => by exact pts_nil) (fun _ _ _ _ _ => by exact (PE.or (pe_meth0 (pv 1) T.cl_Point T.m_Point_turned (ok_Point_turned T) (hr.mono (by omega)) T.b_Point_turned .nil pass0) (PE.or (pe_meth0 (pv 1) T.cl_Side T.m_Side_turned ihS (hr.mono (by omega)) T.b_Side_turned .nil pass0) (pe_meth0 (pv 1) T.cl_Join T.m_Join_turned ihJ (hr.mono (by omega)) T.b_Join_turned .nil pass0))))))), ?_⟩
    have tl := h2.len
    refine ⟨_, rfl, l, rfl, ⟨_, .inl (.inl h1)⟩, fun D hD => ?_⟩
    refine lc_listS (xs := vs0) (fun i y H2 => ∃ t, ts[i]? = some t ∧ TreeAt A (fun x => H x = none ∧ x ≠ D) H2 y t.turn) (fun i y H2 H3 acc ⟨t, h1, h2⟩ hD2 kk => ⟨t, h1, h2.to fun x o nx hx => ⟨nx, kk _ _ hx nx.2⟩⟩) hD (.inl (.inl h1)) (by omega) (fun i x H1 Nn hx e hH hN => ?_) (fun acc H1 e h3 hlen hall => ?_)
    · obtain ⟨t, ht, hat⟩ := h2.get hx
      have hm := List.mem_of_getElem? ht
      simp [L2.start, wipe]
      have := part_few hm
      exact read_turned (hat.up e) (hd t hm) (by omega) (hf t hm) fun a H2 e2 h2 => hN (.ref a) H2 e2 ⟨t, ht, h2.to fun x o nx hx => ⟨⟨fresh_back e nx, fun z => hH (z ▸ nx)⟩, hx⟩⟩
    · refine k D acc H1 e hD h3 (treeL_of (by rw [turnL_map, List.length_map]; omega) fun i v hv => ?_)
      obtain ⟨t, h1, h2⟩ := hall i v hv
      exact ⟨t.turn, by rw [turnL_map, List.getElem?_map, h1]; rfl, h2⟩
theorem none_SideTurn {f : Addr} {fd : FuncData} {ps : List Str} {k : Nat} : FnOk P w K mg base CX0 k f fd ps (spSideTurn A 0) :=
  ⟨fun vs H Q E ⟨_, _, _, _, _, h, _⟩ => absurd h (Nat.not_lt_zero _), fun A outer s H args us vs Q E _ _ _ _ ⟨_, _, _, _, _, h, _⟩ => absurd h (Nat.not_lt_zero _)⟩
theorem none_JoinTurn {f : Addr} {fd : FuncData} {ps : List Str} {k : Nat} : FnOk P w K mg base CX0 k f fd ps (spJoinTurn A 0) :=
  ⟨fun vs H Q E ⟨_, _, _, _, _, h, _⟩ => absurd h (Nat.not_lt_zero _), fun A outer s H args us vs Q E _ _ _ _ ⟨_, _, _, _, _, h, _⟩ => absurd h (Nat.not_lt_zero _)⟩
theorem ok_turneds (T : Txt K mg A) : ∀ d : Nat, FnOk P w K mg base CX0 (2 * d + 3) A.a_Side_turned A.d_Side_turned ["self"] (spSideTurn A d) ∧ FnOk P w K mg base CX0 (2 * d + 3) A.a_Join_turned A.d_Join_turned ["self"] (spJoinTurn A d)
  | 0 => ⟨none_SideTurn, none_JoinTurn⟩
  | d + 1 => ⟨step_Side_turned T (step_turned_of T (ok_turneds T d).1 (ok_turneds T d).2), step_Join_turned T (step_turned_of T (ok_turneds T d).1 (ok_turneds T d).2)⟩
theorem ok_Side_turned (T : Txt K mg A) : FnOk P w K mg base CX0 63 A.a_Side_turned A.d_Side_turned ["self"] (spSideTurn A 30) := (ok_turneds T 30).1
theorem ok_Join_turned (T : Txt K mg A) : FnOk P w K mg base CX0 63 A.a_Join_turned A.d_Join_turned ["self"] (spJoinTurn A 30) := (ok_turneds T 30).2
end
end Jk

namespace Jk
open PySem L2 Evl
def spTurnT (d : Nat) : Sp := fun vs H Q _ => ∃ (v : V) (t : Tr), vs = [v] ∧ ToldAt H v t ∧ t.dep < d ∧ okW t ∧ (∀ u H', Ex H H' → ToldAt H' u t.turn → Q u H')
def spMade (A : Adr) (d : Nat) : Sp := fun vs H Q _ => ∃ (v : V) (t : Tr), vs = [v] ∧ ToldAt H v t ∧ t.dep < d ∧ t.form ∧ t.pts.length < 64 ∧ (∀ a H', Ex H H' → TreeAt A (fun x => H x = none) H' (.ref a) t → Q (.ref a) H')
theorem small_parts : ∀ (t : Tr), True := fun _ => trivial
section
variable {P : Program} {w : World} {K : PySem.W.Frag} {mg : Str → Option Value} {base : Heap} {A : Adr}
theorem none_spTurnT {f : Addr} {fd : FuncData} {ps : List Str} {k : Nat} : FnOk P w K mg base CX0 k f fd ps (spTurnT 0) :=
  ⟨fun vs H Q E ⟨_, _, _, _, h, _⟩ => absurd h (Nat.not_lt_zero _), fun A outer s H args us vs Q E _ _ _ _ ⟨_, _, _, _, h, _⟩ => absurd h (Nat.not_lt_zero _)⟩
theorem step_l_turned (T : Txt K mg A) {d : Nat} (ih : FnOk P w K mg base CX0 (d + 1) A.a_l_turned A.d_l_turned ["_law_told_here"] (spTurnT d)) : FnOk P w K mg base CX0 (d + 2) A.a_l_turned A.d_l_turned ["_law_told_here"] (spTurnT (d + 1)) := by
  refine T.F_l_turned.ok sc_l_turned (fun vs H Q E h => ?_) (fun cdv C outer s H vs Q E hr h => ?_)
  · obtain ⟨v, t, rfl, _⟩ := h
    rfl
  · obtain ⟨v, t, rfl, hv, hd, hw, k⟩ := h
    have hu := hu_of hr
    refine ⟨_, (pss_cons (ps_if (pt_not (pt_val (pe_callB call_isJ (by rfl) T.isinstance (by decide +kernel) (pa_cons (pv 0) (pa_cons (pe_bltn (v := .ty "tuple") (u := .type "tuple") (by rfl) T.tuple (by decide +kernel) rfl) pa_nil)))))
    (pss_one (ps_ret (pv 0)))
    pss_nil)
  (pss_one (ps_ret (pe_tupJ (pa_cons (pe_dgetJ (by exact hu) (pe_disp (pps_cons pe_str pe_str (pps_cons pe_str pe_str (pps_nil))) (by rfl) (by rfl) (fun z => by cases z) (by decide)) (pe_ix ix_tupJ (pv 0) pe_int (fun _ _ => rfl)) (fun _ _ => rfl)) (pa_cons (pe_callTy call_tupJ (by rfl) T.tuple (by decide +kernel) (pa_cons (pe_lc (own := [("_law_piece", 1)]) rfl sc_l_turned.nd (pi_tup (pe_ix ix_tupJ (pv 0) pe_int (fun _ _ => rfl))) (blkOk_by (own := [("_law_piece", 1)]) (N := ["_law_told_here", "_law_piece"]) (sc := defScope s_l_turned) (by decide +kernel)) (fun _ _ _ _ _ => by exact (pg_name (i := 1) sc_l_turned.nd rfl (Or.inl rfl))) (fun _ _ _ _ _ => by exact pts_nil) (fun _ _ _ _ _ => by exact (pe_call ih (hr.mono (by omega)) rfl T.g_l_turned T.k_l_turned T.b_l_turned .nil pass0 (pa_cons (pv 1) pa_nil)))) pa_nil)) pa_nil)))))), ?_⟩
    rcases told_kind hv with ⟨n, rfl, rfl⟩ | ⟨j, ts, a, b, vs, rfl, rfl, h1, h2, h3⟩
    · simp [L2.start]
      exact k _ H (Ex.refl _) (by rw [Tr.turn, ToldAt])
    · simp [L2.start, and_assoc, tyN_tup h1, h1, h2]
      intro p hp
      have e1 : Ex H (upd (upd H p (.dK [])) p (.dK (mergeK [] [(Sum.inr "side", .str "join"), (Sum.inr "join", .str "side")]))) := Ex.mut (Ex.new hp) hp
      rw [Tr.dep] at hd
      refine ⟨upd_same, [(Sum.inr "side", .str "join"), (Sum.inr "join", .str "side")], rfl, by decide, [.str (wdS j), .ref b], e1 _ _ h1, .str (wdS j), rfl, p, rfl, _, upd_same, Sum.inr (wdS j), rfl, .str (wdS (!j)), by cases j <;> rfl, ?_⟩
      refine ⟨_, rfl, a, _, 1, _, rfl, rfl, e1 _ _ h1, by decide, rfl, b, rfl, ⟨_, .inl (.inl (e1 _ _ h2))⟩, fun D hD => ?_⟩
      refine lc_tupS (xs := vs) (fun i y H2 => ∃ u, ((fun i u => ∃ t, ts[i]? = some t ∧ u = t.turn) i u) ∧ ToldAt H2 y u) stay_told hD (.inl (.inl (e1 _ _ h2))) (by have := h3.len; have := (parts_few hw).2; omega) (fun i x H2 Nn hx e hH hN => ?_) (fun acc H2 e h4 hlen hall => ?_)
      · obtain ⟨u, hu, hat⟩ := h3.get hx
        have := depL_le (List.mem_of_getElem? hu)
        simp [L2.start, wipe]
        exact ⟨x, u, rfl, hat.up (e1.trans e), by omega, (parts_few hw).1 u (List.mem_of_getElem? hu), fun w H3 e3 h3 => hN w H3 e3 ⟨u.turn, ⟨u, hu, rfl⟩, h3⟩⟩
      · have tl2 : ToldL H2 acc (turnL ts) := by
          rw [turnL_map]
          refine toldL_iff.mpr ⟨by rw [List.length_map, hlen, h3.len], fun i v t hv ht => ?_⟩
          obtain ⟨u, ⟨t', h5, rfl⟩, h6⟩ := hall i v hv
          rw [List.getElem?_map, h5] at ht
          cases ht
          exact h6
        show jTupL [.ref D] H2 _
        rw [j_tupL]
        refine ⟨acc, h4, fun q H3 n3 e3 h3 r H4 n4 e4 h4 => k (.ref r) H4 (((e1.trans e).trans e3).trans e4) ?_⟩
        rw [Tr.turn, ToldAt]
        exact ⟨r, q, acc, rfl, h4, e4 _ _ h3, tl2.up (e3.trans e4)⟩
theorem none_spMade {f : Addr} {fd : FuncData} {ps : List Str} {k : Nat} : FnOk P w K mg base CX0 k f fd ps (spMade A 0) :=
  ⟨fun vs H Q E ⟨_, _, _, _, h, _⟩ => absurd h (Nat.not_lt_zero _), fun A outer s H args us vs Q E _ _ _ _ ⟨_, _, _, _, h, _⟩ => absurd h (Nat.not_lt_zero _)⟩
theorem step_l_made (T : Txt K mg A) {d : Nat} (ih : FnOk P w K mg base CX0 (d + 4) A.a_l_made A.d_l_made ["_law_told_here"] (spMade A d)) : FnOk P w K mg base CX0 (d + 5) A.a_l_made A.d_l_made ["_law_told_here"] (spMade A (d + 1)) := by
  refine T.F_l_made.ok sc_l_made (fun vs H Q E h => ?_) (fun cdv C outer s H vs Q E hr h => ?_)
  · obtain ⟨v, t, rfl, _⟩ := h
    rfl
  · obtain ⟨v, t, rfl, hv, hd, hf, few, k⟩ := h
    refine ⟨_, (pss_cons (ps_if (pt_not (pt_val (pe_callB call_isJ (by rfl) T.isinstance (by decide +kernel) (pa_cons (pv 0) (pa_cons (pe_bltn (v := .ty "tuple") (u := .type "tuple") (by rfl) T.tuple (by decide +kernel) rfl) pa_nil)))))
    (pss_one (ps_ret (pe_make T.mk_Point (ok_Point_init T) (hr.mono (by omega)) rfl T.gPoint T.b_Point_init .nil pass0 (pa_cons (pv 0) pa_nil))))
    pss_nil)
  (pss_cons (ps_setLc (i := 1) (own := [("_law_piece", 3)]) rfl sc_l_made.nd rfl rfl (sw_true rfl rfl rfl (by decide +kernel)) (pi_tup (pe_ix ix_tupJ (pv 0) pe_int (fun _ _ => rfl))) (blkOk_by (own := [("_law_piece", 3)]) (N := ["_law_told_here", "_law_parts", "_law_found", "_law_piece"]) (sc := defScope s_l_made) (by decide +kernel)) (fun _ _ _ _ _ => by exact (pg_name (i := 3) sc_l_made.nd rfl (Or.inl rfl))) (fun _ _ _ _ _ => by exact pts_nil) (fun _ _ _ _ _ => by exact (pe_call ih (hr.mono (by omega)) rfl T.g_l_made T.k_l_made T.b_l_made .nil pass0 (pa_cons (pv 3) pa_nil))))
  (pss_cons (ps_set (i := 2) sc_l_made.nd rfl (Or.inl rfl) (pe_ifExp (pt_cmpR op_eq (pe_ix ix_tupJ (pv 0) pe_int (fun _ _ => rfl)) pe_str (nomark _)) (pe_make T.mk_Side (ok_Side_init T) (hr.mono (by omega)) rfl T.gSide T.b_Side_init .nil pass0 (pa_cons (pv 1) pa_nil)) (pe_make T.mk_Join (ok_Join_init T) (hr.mono (by omega)) rfl T.gJoin T.b_Join_init .nil pass0 (pa_cons (pv 1) pa_nil))))
  (pss_cons (ps_expr (pe_bmL0 PySem.F.slot_list_clear PySem.F.type_list_clear mt_clear (pv 1)))
  (pss_one (ps_ret (pv 2))))))), ?_⟩
    rcases told_kind hv with ⟨n, rfl, rfl⟩ | ⟨j, ts, a, b, vs, rfl, rfl, h1, h2, h3⟩
    · simp [L2.start]
      exact fun x dx nx ndx nxd => make_point nx ndx nxd fun H' e t => k x H' e t
    · simp [L2.start, and_assoc, tyN_tup h1]
      rw [Tr.dep] at hd
      rw [Tr.form] at hf
      rw [Tr.pts] at few
      have pl := parts_le hf.2.2
      have lenv := h3.len
      refine ⟨_, rfl, a, _, 1, _, rfl, rfl, h1, by decide, rfl, b, rfl, ⟨_, .inl (.inl h2)⟩, fun D hD => ?_⟩
      refine lc_tupS (xs := vs) (fun i y H2 => ∃ t, ts[i]? = some t ∧ TreeAt A (fun x => H x = none ∧ x ≠ D) H2 y t) (fun i y H2 H3 acc ⟨t, h1, h2⟩ hD2 kk => ⟨t, h1, h2.to fun x o nx hx => ⟨nx, kk _ _ hx nx.2⟩⟩) hD (.inl (.inl h2)) (by omega) (fun i x H2 Nn hx e hH hN => ?_) (fun acc H2 e h4 hlen hall => ?_)
      · obtain ⟨u, hu, hat⟩ := h3.get hx
        have hm := List.mem_of_getElem? hu
        have := depL_le hm
        have := part_few hm
        simp [L2.start, wipe]
        exact ⟨x, u, rfl, hat.up e, by omega, (formL_iff.mp hf.2.2 u hm).1, by omega, fun a3 H3 e3 t3 => hN (.ref a3) H3 e3 ⟨u, hu, t3.to fun y o ny hy => ⟨⟨fresh_back e ny, fun z => hH (z ▸ ny)⟩, hy⟩⟩⟩
      · have tl : TreeL A (fun x => H x = none ∧ x ≠ D) H2 acc ts := treeL_of (by omega) hall
        refine ⟨_, e _ _ h1, _, rfl, ?_⟩
        have fin : ∀ (x : Addr) (H3 : Hp), Ex H2 H3 → TreeAt A (fun y => (H y = none ∧ y ≠ D) ∨ H2 y = none) H3 (.ref x) (.nd j ts) → (∃ p, V.ref D = V.ref p ∧ ∃ xs, H3 p = some (HO.lst xs)) ∧ rClear (V.ref D) [] H3 fun _ H1 => Q (.ref x) H1 := fun x H3 e3 t3 => by
          have hD3 := e3 _ _ h4
          refine ⟨⟨D, rfl, _, hD3⟩, D, _, rfl, rfl, hD3, k x _ (Ex.mut (e.trans e3) hD) (t3.to fun y o ny hy => ?_)⟩
          have nyD : y ≠ D := by
            rcases ny with ny | ny
            · exact ny.2
            · intro z; rw [z, h4] at ny; cases ny
          refine ⟨ny.elim (fun z => z.1) (fun z => fresh_back e z), by rw [upd_ne nyD]; exact hy⟩
        rw [j_eq_ss]
        cases j with
        | false => exact .inr ⟨rfl, fun x dx nx ndx nxd => make_Side (Q := fun v H2 => (∃ p, V.ref D = V.ref p ∧ ∃ x, H2 p = some (HO.lst x)) ∧ rClear (V.ref D) [] H2 fun _ H1 => Q v H1) h4 tl nx ndx nxd few fun H3 e3 t3 => fin x H3 e3 t3⟩
        | true => exact .inl ⟨rfl, fun x dx nx ndx nxd => make_Join (Q := fun v H2 => (∃ p, V.ref D = V.ref p ∧ ∃ x, H2 p = some (HO.lst x)) ∧ rClear (V.ref D) [] H2 fun _ H1 => Q v H1) h4 tl nx ndx nxd few fun H3 e3 t3 => fin x H3 e3 t3⟩
theorem ok_l_turned (T : Txt K mg A) : ∀ d : Nat, FnOk P w K mg base CX0 (d + 1) A.a_l_turned A.d_l_turned ["_law_told_here"] (spTurnT d)
  | 0 => none_spTurnT
  | d + 1 => step_l_turned T (ok_l_turned T d)
theorem ok_l_made (T : Txt K mg A) : ∀ d : Nat, FnOk P w K mg base CX0 (d + 4) A.a_l_made A.d_l_made ["_law_told_here"] (spMade A d)
  | 0 => none_spMade
  | d + 1 => step_l_made T (ok_l_made T d)
end
end Jk

namespace Jk
open PySem L2 Evl
/-- a tree as the law and the program have it -/
structure OkT (t : Tr) : Prop where
  form : t.form
  nd : t.pts.Nodup
  inr : ∀ n ∈ t.pts, 0 ≤ n ∧ n ≤ 29
theorem OkT.few {t : Tr} (h : OkT t) : t.pts.length ≤ 30 := pts_few h.nd h.inr
theorem OkT.dep {t : Tr} (h : OkT t) : t.dep ≤ 29 := dep_few h.form h.nd h.inr
theorem OkT.w {t : Tr} (h : OkT t) : okW t := ⟨by have := h.few; omega, h.form⟩
theorem OkT.b {t : Tr} (h : OkT t) : ∀ n ∈ t.pts, 0 ≤ n ∧ n < 1000 := fun n hn => by have := h.inr n hn; omega
theorem OkT.part {j : Bool} {ts : List Tr} (h : OkT (.nd j ts)) {t : Tr} (ht : t ∈ ts) : OkT t := by
  obtain ⟨f, nd, inr⟩ := h
  rw [Tr.form] at f
  rw [Tr.pts] at nd inr
  exact ⟨(formL_iff.mp f.2.2 t ht).1, nd_part nd ht, fun n hn => inr n (mem_ptsL.mpr ⟨t, ht, hn⟩)⟩
theorem OkT.turn {t : Tr} (h : OkT t) : OkT t.turn := ⟨turn_form t h.form, by rw [turn_pts]; exact h.nd, by rw [turn_pts]; exact h.inr⟩
def kindsT : Tr → List Bool
  | .pt _ => [true, false, false]
  | .nd j _ => [false, !j, j]
def wordT : Tr → Str
  | .pt _ => ""
  | .nd j _ => wdS j
theorem LsB.up {H H' : Hp} {l : Addr} {ns : List Bool} (h : LsB H l ns) (e : Ex H H') : LsB H' l ns := e _ _ h
theorem kinds_word {H : Hp} {p : Addr} {t : Tr} (h : H p = some (.lst [V.bl (decide (wordT t = Str.ofString "")), V.bl (decide (wordT t = Str.ofString "side")), V.bl (decide (wordT t = Str.ofString "join"))])) : LsB H p (kindsT t) := by
  unfold LsB
  rw [h]
  have a1 : ¬ ((Str.ofString "") = Str.ofString "side") := by decide +kernel
  have a2 : ¬ ((Str.ofString "") = Str.ofString "join") := by decide +kernel
  have a3 : ¬ ((Str.ofString "side") = Str.ofString "") := by decide +kernel
  have a4 : ¬ ((Str.ofString "side") = Str.ofString "join") := by decide +kernel
  have a5 : ¬ ((Str.ofString "join") = Str.ofString "") := by decide +kernel
  have a6 : ¬ ((Str.ofString "join") = Str.ofString "side") := by decide +kernel
  cases t with
  | pt n => simp [wordT, kindsT, a1, a2]
  | nd j ts => cases j <;> simp [wordT, kindsT, wdS, a3, a4, a5, a6]
def spIsT (A : Adr) : Sp := fun vs H Q _ => ∃ (v u : V) (N : Addr → Prop) (t : Tr), vs = [v, u] ∧ TreeAt A N H v t ∧ ToldAt H u t ∧ OkT t ∧ ∀ H', Ex H H' → Q (.bl true) H'
section
variable {P : Program} {w : World} {K : PySem.W.Frag} {mg : Str → Option Value} {base : Heap} {A : Adr}
theorem ok_l_is (T : Txt K mg A) : FnG P w K mg base 64 A.a_l_is A.d_l_is ["_law_tree_here", "_law_told_here"] (spIsT A) := by
  refine T.F_l_is.okG sc_l_is (fun vs H Q E h => ?_) (fun cdv C outer s H vs Q E hg hr h => ?_)
  · obtain ⟨v, u, N, t, rfl, _⟩ := h
    rfl
  · obtain ⟨v, u, N, t, rfl, hv, hu, ok, k⟩ := h
    refine ⟨_, (pss_cons (ps_set (i := 2) sc_l_is.nd rfl (Or.inl rfl) (pe_lstJ (pa_cons (pe_callB call_isO (by rfl) T.isinstance (by decide +kernel) (pa_cons (pv 0) (pa_cons (pe_glob (v := .ref A.c_Point) rfl T.gPoint rfl) pa_nil))) (pa_cons (pe_callB call_isO (by rfl) T.isinstance (by decide +kernel) (pa_cons (pv 0) (pa_cons (pe_glob (v := .ref A.c_Side) rfl T.gSide rfl) pa_nil))) (pa_cons (pe_callB call_isO (by rfl) T.isinstance (by decide +kernel) (pa_cons (pv 0) (pa_cons (pe_glob (v := .ref A.c_Join) rfl T.gJoin rfl) pa_nil))) pa_nil)))))
  (pss_cons (ps_set (i := 3) sc_l_is.nd rfl (Or.inl rfl) (pe_ifExp (pt_val (pe_callB call_isJ (by rfl) T.isinstance (by decide +kernel) (pa_cons (pv 1) (pa_cons (pe_bltn (v := .ty "tuple") (u := .type "tuple") (by rfl) T.tuple (by decide +kernel) rfl) pa_nil)))) (pe_ix ix_tupJ (pv 1) pe_int (fun _ _ => rfl)) pe_str))
  (pss_cons (ps_if (PW.pt (pw_or (pt_not (pt_val (pe_callB call_isO (by rfl) T.isinstance (by decide +kernel) (pa_cons (pv 0) (pa_cons (pe_glob (v := .ref A.c_Tree) rfl T.gTree rfl) pa_nil))))) (pw_or1 (pt_cmpR (op_neB hr.units) (pv 2) (pe_lstJ (pa_cons (pe_cmpR op_eq (pv 3) pe_str (nomark _)) (pa_cons (pe_cmpR op_eq (pv 3) pe_str (nomark _)) (pa_cons (pe_cmpR op_eq (pv 3) pe_str (nomark _)) pa_nil)))) (nomark _)))))
    (pss_one (ps_ret pe_bl))
    pss_nil)
  (pss_cons (ps_set (i := 4) sc_l_is.nd rfl (Or.inl rfl) (PE.or (pe_meth0 (pv 0) T.cl_Point T.m_Point_points (ok_Point_points T) (hr.mono (by omega)) T.b_Point_points .nil pass0) (PE.or (pe_meth0 (pv 0) T.cl_Side T.m_Side_points (ok_Side_points T) (hr.mono (by omega)) T.b_Side_points .nil pass0) (pe_meth0 (pv 0) T.cl_Join T.m_Join_points (ok_Join_points T) (hr.mono (by omega)) T.b_Join_points .nil pass0))))
  (pss_cons (ps_if (PW.pt (pw_or (pt_not (pt_val (pe_callB call_isJ (by rfl) T.isinstance (by decide +kernel) (pa_cons (pv 4) (pa_cons (pe_bltn (v := .ty "list") (u := .type "list") (by rfl) T.list (by decide +kernel) rfl) pa_nil))))) (pw_or1 (pt_cmpR op_ne (pe_callB (call_reprA (guards_deeper hg) hr.units) (by rfl) T.repr (by decide +kernel) (pa_cons (pv 4) pa_nil)) (pe_callB (call_reprA (guards_deeper hg) hr.units) (by rfl) T.repr (by decide +kernel) (pa_cons (pe_callB call_sortJ (by rfl) T.sorted (by decide +kernel) (pa_cons (pe_call (ok_l_points T 31) (hr.mono (by omega)) rfl T.g_l_points T.k_l_points T.b_l_points .nil pass0 (pa_cons (pv 1) pa_nil)) pa_nil)) pa_nil)) (nomark _)))))
    (pss_one (ps_ret pe_bl))
    pss_nil)
  (pss_cons (ps_expr (pe_bmL PySem.F.slot_list_append PySem.F.type_list_append mt_append (pv 4) (pa_cons pe_int pa_nil)))
  (pss_one (ps_ret (pe_and (pe_cmpR op_eq (pe_callB (call_reprA (guards_deeper hg) hr.units) (by rfl) T.repr (by decide +kernel) (pa_cons (PE.or (pe_meth0 (pv 0) T.cl_Point T.m_Point_told (ok_Point_told T) (hr.mono (by omega)) T.b_Point_told .nil pass0) (PE.or (pe_meth0 (pv 0) T.cl_Side T.m_Side_told (ok_Side_told T) (hr.mono (by omega)) T.b_Side_told .nil pass0) (pe_meth0 (pv 0) T.cl_Join T.m_Join_told (ok_Join_told T) (hr.mono (by omega)) T.b_Join_told .nil pass0))) pa_nil)) (pe_callB (call_reprA (guards_deeper hg) hr.units) (by rfl) T.repr (by decide +kernel) (pa_cons (pv 1) pa_nil)) (nomark _)) (pe_one (pe_cmpR (op_eqI hr.units) (PE.or (pe_meth0 (pv 0) T.cl_Point T.m_Point_points (ok_Point_points T) (hr.mono (by omega)) T.b_Point_points .nil pass0) (PE.or (pe_meth0 (pv 0) T.cl_Side T.m_Side_points (ok_Side_points T) (hr.mono (by omega)) T.b_Side_points .nil pass0) (pe_meth0 (pv 0) T.cl_Join T.m_Join_points (ok_Join_points T) (hr.mono (by omega)) T.b_Join_points .nil pass0))) (pe_callB call_sortJ (by rfl) T.sorted (by decide +kernel) (pa_cons (pe_call (ok_l_points T 31) (hr.mono (by omega)) rfl T.g_l_points T.k_l_points T.b_l_points .nil pass0 (pa_cons (pv 1) pa_nil)) pa_nil)) (nomark _)))))))))))), ?_⟩
    have few := ok.few
    have dep := ok.dep
    have es : ∀ n : Nat, (L2.start ["_law_tree_here", "_law_told_here", "_law_kinds", "_law_word", "_law_found"] [v, u]) = [some v, some u, none, none, none] := fun _ => rfl
    rw [es 0]
    refine seq_by (fun σ1 H1 => ∃ p, σ1 = [some v, some u, some (.ref p), none, none] ∧ Ex H H1 ∧ LsB H1 p (kindsT t)) (fun N hN => ?_) (fun s1 H1 m => ?_)
    · rcases tree_kind hv with ⟨n, a, dx, rfl, rfl, _, h1⟩ | ⟨ts, a, dx, l, q, vs, rfl, rfl, _, _, _, h1, h2, h3, _⟩ | ⟨ts, a, dx, l, q, vs, rfl, rfl, _, _, _, h1, h2, h3, _⟩
      · simp [and_assoc, h1, T.cl_Point, T.isa_Point, T.kt_Point_Point, T.kt_Point_Side, T.kt_Point_Join]
        exact fun p H2 n e h => hN _ _ ⟨p, rfl, e, h⟩
      · simp [and_assoc, h1, T.cl_Side, T.isa_Side, T.kt_Side_Point, T.kt_Side_Side, T.kt_Side_Join]
        exact fun p H2 n e h => hN _ _ ⟨p, rfl, e, h⟩
      · simp [and_assoc, h1, T.cl_Join, T.isa_Join, T.kt_Join_Point, T.kt_Join_Side, T.kt_Join_Join]
        exact fun p H2 n e h => hN _ _ ⟨p, rfl, e, h⟩
    obtain ⟨p, rfl, e1, hp⟩ := m
    refine seq_by (fun σ1 H2 => H2 = H1 ∧ σ1 = [some v, some u, some (.ref p), some (.str (wordT t)), none]) (fun N hN => ?_) (fun s1 H2 m => ?_)
    · rcases told_kind (hu.up e1) with ⟨n, rfl, rfl⟩ | ⟨j, ts, a, b, vs, rfl, rfl, h1, h2, h3⟩
      · simp
        exact hN _ _ ⟨rfl, rfl⟩
      · simp [tyN_tup h1, h1]
        exact hN _ _ ⟨rfl, rfl⟩
    obtain ⟨rfl, rfl⟩ := m
    refine seq_by (fun σ1 H3 => σ1 = [some v, some u, some (.ref p), some (.str (wordT t)), none] ∧ Ex H H3) (fun N hN => ?_) (fun s1 H3 m => ?_)
    · rcases tree_kind (hv.up e1) with ⟨n, a, dx, rfl, rfl, _, h1⟩ | ⟨ts, a, dx, l, q, vs, rfl, rfl, _, _, _, h1, h2, h3, _⟩ | ⟨ts, a, dx, l, q, vs, rfl, rfl, _, _, _, h1, h2, h3, _⟩
      · simp [and_assoc, h1, T.cl_Point, T.isa_Point, T.kt_Point_Tree]
        refine fun p1 H3 n3 e3 h3 => ⟨_, hp.up e3, kindsT _, kinds_word h3, .inl ⟨rfl, hN _ _ ⟨rfl, e1.trans e3⟩⟩⟩
      · simp [and_assoc, h1, T.cl_Side, T.isa_Side, T.kt_Side_Tree]
        refine fun p1 H3 n3 e3 h3 => ⟨_, hp.up e3, kindsT _, kinds_word h3, .inl ⟨rfl, hN _ _ ⟨rfl, e1.trans e3⟩⟩⟩
      · simp [and_assoc, h1, T.cl_Join, T.isa_Join, T.kt_Join_Tree]
        refine fun p1 H3 n3 e3 h3 => ⟨_, hp.up e3, kindsT _, kinds_word h3, .inl ⟨rfl, hN _ _ ⟨rfl, e1.trans e3⟩⟩⟩
    obtain ⟨rfl, e3⟩ := m
    simp
    refine read_points (hv.up e3) fun q H4 n4 e4 h4 => ?_
    have e04 := e3.trans e4
    have tb : ∀ n ∈ tpts t, 0 ≤ n ∧ n < 1000 := fun n hn => ok.b n (tpts_mem.mp hn)
    have tl : (tpts t).length = t.pts.length := srt_len _
    refine ⟨_, tyN_lst h4, .inr ⟨by simp, repr_ints h4 tb (by omega) ⟨u, t, rfl, hu.up e04, by omega, by omega, fun q5 H5 n5 e5 h5 => ?_⟩⟩⟩
    dsimp only
    rw [j_sorted]
    refine ⟨_, h5, by omega, fun q6 H6 n6 e6 h6 => repr_ints h6 tb (by rw [srt_len]; omega) ?_⟩
    rw [show srt t.pts = tpts t from rfl]
    rw [j_ne_ss, decide_eq_true rfl]
    have h46 : LsI H6 q (tpts t) := (h4.up e5).up e6
    have e06 := e04.trans (e5.trans e6)
    have nq : H q = none := fresh_back e3 n4
    refine .inl ⟨rfl, ⟨q, rfl, _, h46⟩, ?_⟩
    rw [j_app]
    refine ⟨_, h46, lt_line (by simp; omega), ?_⟩
    have e07 : Ex H (upd H6 q (.lst ((tpts t).map V.int ++ [.int 0]))) := Ex.mut e06 nq
    refine read_told (hv.up e07) (by omega) ok.w fun w H8 e8 h8 => repr_tree h8 ok.form ok.b (by omega) (repr_tree ((hu.up e07).up e8) ok.form ok.b (by omega) ?_)
    rw [j_eq_ss, decide_eq_true rfl]
    have e08 := e07.trans e8
    refine .inr ⟨rfl, read_points (hv.up e08) fun q9 H9 n9 e9 h9 => ⟨u, t, rfl, (hu.up e08).up e9, by omega, by omega, fun q10 H10 n10 e10 h10 => ?_⟩⟩
    dsimp only
    rw [j_sorted]
    refine ⟨_, h10, by omega, fun q11 H11 n11 e11 h11 => ?_⟩
    rw [j_eqI]
    refine ⟨_, (h9.up e10).up e11, _, h11, ?_⟩
    rw [show srt t.pts = tpts t from rfl, decide_eq_true rfl]
    exact k _ (e08.trans (e9.trans (e10.trans e11)))
end
end Jk

namespace Jk
open PySem L2 Evl
theorem WebAt.dAt {C : Addr} {H : Hp} {p l : Addr} {ds : List Addr} {rows : List (List Int)} (W : WebAt C H p l ds rows) {d : Addr} (h : d ∈ ds) : ∃ kv, H d = some (.dK kv) := by
  obtain ⟨i, hi, ei⟩ := List.mem_iff_getElem.mp h
  obtain ⟨d', c1, c2, _⟩ := W.at (i := i) (by rw [← W.len]; exact hi)
  rw [List.getElem?_eq_getElem hi, ei] at c1
  cases c1
  exact ⟨_, c2⟩
/-- what is no dict with keys for ints and texts stays when the web's own dicts change -/
theorem WebAt.kp {C : Addr} {H H' : Hp} {p l : Addr} {ds : List Addr} {rows : List (List Int)} (W : WebAt C H p l ds rows) (b : But ds H H') {a : Addr} {o : HO} (h : H a = some o) (no : ∀ kv, o ≠ .dK kv) : H' a = some o :=
  b.kp _ _ h fun z => by
    obtain ⟨kv, e⟩ := W.dAt z
    rw [h] at e
    exact no kv (Option.some.inj e)
theorem WebAt.kpT {C : Addr} {H H' : Hp} {p l : Addr} {ds : List Addr} {rows : List (List Int)} (W : WebAt C H p l ds rows) (b : But ds H H') {ts : List Addr} {prs : List (Int × Int)} (h : TupsAt H ts prs) : TupsAt H' ts prs := h.map fun t o e => W.kp b e (by simp)
theorem pairs_nd (n : Nat) : (pairsL n).Nodup := (pairs_sorted n).imp lexLt_ne
theorem pairs_few {n : Nat} (h : n ≤ 30) : (pairsL n).length ≤ 900 := by
  have z2 := rows_len n n
  have z3 : n * n ≤ 30 * 30 := Nat.mul_le_mul h h
  have z5 : (pairsL n).length ≤ n * n := z2
  omega
structure Step (f : Int × Int → Bool) (k m : Nat) (rows : List (List Int)) : Prop where
  G : Good rows
  R : Rel rows k (((pairsL k).take m).filter f)
theorem Step.len {f : Int × Int → Bool} {k m : Nat} {rows : List (List Int)} (S : Step f k m rows) : rows.length = k := by have := S.R.n; omega
theorem step_init {f : Int × Int → Bool} {k : Nat} (h1 : 1 ≤ k) (h2 : k ≤ 30) : Step f k 0 (List.replicate k []) := ⟨good_init h1 h2, by simpa using rel_init⟩
theorem Step.ok {f : Int × Int → Bool} {k m i j : Nat} {rows : List (List Int)} (S : Step f k m rows) (hp : (pairsL k)[m]? = some ((i : Int), (j : Int))) :
    okTwo rows (.int i) (.int j) = true ∧ tied rows i j = false := by
  have hl := S.len
  obtain ⟨a, b, e, hab, hb⟩ := pairs_in (List.mem_of_getElem? hp)
  have e1 : (i : Int) = a := (Prod.mk.inj e).1
  have e2 : (j : Int) = b := (Prod.mk.inj e).2
  have hij : i < j := by omega
  have hj : j < rows.length := by omega
  refine ⟨?_, ?_⟩
  · unfold okTwo
    rw [okPt_of (by omega) (by simp; omega), okPt_of (by omega) (by simp; omega)]
    simp; omega
  · cases ht : tied rows i j with
    | false => rfl
    | true =>
      have t := (tied_iff rows i j).mp ht
      have hin := (S.R.tie S.G (by omega : i ≠ j)).mpr t
      have et : tieN i j = ((i : Int), (j : Int)) := by unfold tieN; rw [show min i j = i by omega, show max i j = j by omega]
      rw [et] at hin
      have h2 := (List.mem_filter.mp hin).1
      obtain ⟨q, hq, eq⟩ := List.mem_iff_getElem.mp h2
      rw [List.getElem_take] at eq
      rw [List.length_take] at hq
      obtain ⟨hm, em⟩ := List.getElem?_eq_some_iff.mp hp
      have := List.pairwise_iff_getElem.mp (pairs_nd k) q m (by omega) hm (by omega)
      exact absurd (eq.trans em.symm) this
theorem Step.yes {f : Int × Int → Bool} {k m i j : Nat} {rows : List (List Int)} (S : Step f k m rows) (hp : (pairsL k)[m]? = some ((i : Int), (j : Int))) (hf : f ((i : Int), (j : Int)) = true) : Step f k (m + 1) (putR rows i j) := by
  obtain ⟨h1, h2⟩ := S.ok hp
  have hl := S.len
  obtain ⟨a, b, e, hab, hb⟩ := pairs_in (List.mem_of_getElem? hp)
  have e1 : (i : Int) = a := (Prod.mk.inj e).1
  have e2 : (j : Int) = b := (Prod.mk.inj e).2
  have nt : ¬ tN rows i j := fun z => by rw [(tied_iff rows i j).mpr z] at h2; cases h2
  have et : tieN i j = ((i : Int), (j : Int)) := by unfold tieN; rw [show min i j = i by omega, show max i j = j by omega]
  refine ⟨good_put S.G (by omega) (by omega) (by omega) nt, ?_⟩
  have z := rel_put S.G S.R (show i < rows.length by omega) (show j < rows.length by omega) (by omega) nt
  rw [et] at z
  rw [List.take_add_one, hp, List.filter_append]
  simpa [hf] using z
theorem Step.no {f : Int × Int → Bool} {k m : Nat} {p : Int × Int} {rows : List (List Int)} (S : Step f k m rows) (hp : (pairsL k)[m]? = some p) (hf : f p = false) : Step f k (m + 1) rows := by
  refine ⟨S.G, ?_⟩
  rw [List.take_add_one, hp, List.filter_append]
  simpa [hf] using S.R
/-- a new web whose ties are those of the pairs that f tells -/
def RetWeb (C : Addr) (f : Int × Int → Bool) (k : Nat) (H : Hp) (Q : VK) : Prop := ∀ (p l : Addr) (ds : List Addr) (rows : List (List Int)) (H' : Hp), Ex H H' → WebAt C H' p l ds rows → H p = none → H l = none → (∀ d ∈ ds, H d = none) → Good rows → Rel rows k ((pairsL k).filter f) → Q (.ref p) H'
end Jk

namespace Jk
open PySem L2 Evl
def spTR (K : PySem.W.Frag) (A : Adr) : Sp := fun vs H Q _ => ∃ (v u : V) (a : Addr) (N : Addr → Prop) (t : Tr) (sc : List Int), vs = [v, u, .ref a] ∧ TreeAt A N H v t ∧ ToldAt H u t ∧ OkT t ∧ SqL K H a (sc.map V.int) ∧ ∀ H', Ex H H' → Q (.bl true) H'
/-- whole: its points are 0 and so on -/
def whole (t : Tr) : Prop := tpts t = rngI t.pts.length
def tieF (t : Tr) (p : Int × Int) : Bool := t.tie p.1 p.2
def spWebOf (A : Adr) : Sp := fun vs H Q E => ∃ (u : V) (t : Tr), vs = [u] ∧ ToldAt H u t ∧ OkT t ∧ (¬ whole t → ∀ H', Ex H H' → E (.ref A.c_BadTree) none H') ∧ (whole t → RetWeb A.c_Web (tieF t) t.pts.length H Q)
theorem whole_in {t : Tr} (h : whole t) {n : Int} : n ∈ t.pts ↔ 0 ≤ n ∧ n < t.pts.length := by
  rw [← tpts_mem, h, rng_in]
theorem pts_pos {t : Tr} (h : t.form) : 1 ≤ t.pts.length := by have := t.dep_lt h; omega
/-- the law's list of ties is that of the web -/
theorem ties_web {t : Tr} (ok : OkT t) (h : whole t) : t.ties.Perm ((pairsL t.pts.length).filter (tieF t)) := by
  refine (List.perm_ext_iff_of_nodup (ties_nodup t ok.nd) ((pairs_nd _).sublist List.filter_sublist)).mpr fun p => ?_
  rw [List.mem_filter, pairs_iff]
  have swap : ∀ {a b : Int}, a ∈ t.pts → b ∈ t.pts → a ≠ b → (mmI a b ∈ t.ties ↔ tieF t (a, b) = true) := fun ha hb ne => ties_tie t ok.nd ne ha hb
  constructor
  · intro hp
    obtain ⟨c, hc, e, he, rfl⟩ := ties_in t p hp
    have ne : c ≠ e := fun z => by
      subst z
      have := ties_lt t ok.nd _ hp
      simp [mmI] at this
    have ic := (whole_in h).mp hc
    have ie := (whole_in h).mp he
    rcases Int.lt_or_gt_of_ne ne with z | z
    · have em : mmI c e = (c, e) := by unfold mmI; rw [Int.min_eq_left (by omega), Int.max_eq_right (by omega)]
      refine ⟨⟨c.toNat, e.toNat, by rw [em]; exact Prod.ext (by show c = _; omega) (by show e = _; omega), by omega, by omega⟩, ?_⟩
      rw [em]
      exact (swap hc he ne).mp hp
    · have em : mmI c e = (e, c) := by unfold mmI; rw [Int.min_eq_right (by omega), Int.max_eq_left (by omega)]
      refine ⟨⟨e.toNat, c.toNat, by rw [em]; exact Prod.ext (by show e = _; omega) (by show c = _; omega), by omega, by omega⟩, ?_⟩
      rw [em]
      rw [mm_comm] at hp
      exact (swap he hc ne.symm).mp hp
  · rintro ⟨⟨i, j, rfl, hij, hj⟩, hf⟩
    have hi := (whole_in h (n := (i : Int))).mpr (by omega)
    have hj' := (whole_in h (n := (j : Int))).mpr (by omega)
    have := (swap hi hj' (by omega)).mpr hf
    have em : mmI (i : Int) (j : Int) = ((i : Int), (j : Int)) := by unfold mmI; rw [Int.min_eq_left (by omega), Int.max_eq_right (by omega)]
    rwa [em] at this
section
variable {P : Program} {w : World} {K : PySem.W.Frag} {mg : Str → Option Value} {base : Heap} {A : Adr}
theorem ok_l_ties_right (T : Txt K mg A) : FnOk P w K mg base CX0 64 A.a_l_ties_right A.d_l_ties_right ["_law_tree_here", "_law_told_here", "_law_script"] (spTR K A) := by
  refine T.F_l_ties_right.ok sc_l_ties_right (fun vs H Q E h => ?_) (fun cdv C outer s H vs Q E hr h => ?_)
  · obtain ⟨v, u, a, N, t, sc, rfl, _⟩ := h
    rfl
  · obtain ⟨v, u, a, N, t, sc, rfl, hv, hu, ok, hS, k⟩ := h
    refine ⟨_, (pss_cons (ps_set (i := 3) sc_l_ties_right.nd rfl (Or.inl rfl) (pe_callB call_sortJ (by rfl) T.sorted (by decide +kernel) (pa_cons (pe_call (ok_l_points T 31) (hr.mono (by omega)) rfl T.g_l_points T.k_l_points T.b_l_points .nil pass0 (pa_cons (pv 1) pa_nil)) pa_nil)))
  (pss_cons (ps_set (i := 4) sc_l_ties_right.nd rfl (Or.inl rfl) (pe_call (ok_l_ties T 31) (hr.mono (by omega)) rfl T.g_l_ties T.k_l_ties T.b_l_ties .nil pass0 (pa_cons (pv 1) pa_nil)))
  (pss_cons (ps_for PassesOwn.never rfl (pi_range1 rfl T.range (pa_cons (pe_callB (call_min2 rfl) (by rfl) T.min (by decide +kernel) (pa_cons pe_int (pa_cons (pe_op op_mul (pe_callB call_lenJ (by rfl) T.len (by decide +kernel) (pa_cons (pv 3) pa_nil)) (pe_callB call_lenJ (by rfl) T.len (by decide +kernel) (pa_cons (pv 3) pa_nil))) pa_nil))) pa_nil)) (pg_name (i := 5) sc_l_ties_right.nd rfl (.inl rfl))
    (pss_cons (ps_set (i := 6) sc_l_ties_right.nd rfl (Or.inl rfl) (pe_call (ok_l_number T) (hr.mono (by omega)) rfl T.g_l_number T.k_l_number T.b_l_number .nil pass0 (pa_cons (pv 2) (pa_cons (pe_op op_add (pv 5) pe_int) pa_nil))))
      (pss_cons (ps_set (i := 7) sc_l_ties_right.nd rfl (Or.inl rfl) (pe_ix ix_listJ (pv 3) (pe_op op_mod (pv 6) (pe_callB call_lenJ (by rfl) T.len (by decide +kernel) (pa_cons (pv 3) pa_nil))) (fun _ _ => rfl)))
      (pss_cons (ps_set (i := 8) sc_l_ties_right.nd rfl (Or.inl rfl) (pe_ix ix_listJ (pv 3) (pe_op op_mod (pe_op op_fdiv (pv 6) pe_int) (pe_callB call_lenJ (by rfl) T.len (by decide +kernel) (pa_cons (pv 3) pa_nil))) (fun _ _ => rfl)))
      (pss_one (ps_if (pt_cmpR op_ne (pv 7) (pv 8) (nomark _))
        (pss_cons (ps_set (i := 9) sc_l_ties_right.nd rfl (Or.inl rfl) (PE.or (pe_meth (pv 0) T.cl_Point T.m_Point_tied (ok_Point_tied T) (hr.mono (by omega)) T.b_Point_tied .nil pass0 (pa_cons (pv 7) (pa_cons (pv 8) pa_nil))) (PE.or (pe_meth (pv 0) T.cl_Side T.m_Side_tied (ok_Side_tied T) (hr.mono (by omega)) T.b_Side_tied .nil pass0 (pa_cons (pv 7) (pa_cons (pv 8) pa_nil))) (pe_meth (pv 0) T.cl_Join T.m_Join_tied (ok_Join_tied T) (hr.mono (by omega)) T.b_Join_tied .nil pass0 (pa_cons (pv 7) (pa_cons (pv 8) pa_nil))))))
          (pss_one (ps_if (PW.pt (pw_or (pt_not (pt_val (pe_callB call_isJ (by rfl) T.isinstance (by decide +kernel) (pa_cons (pv 9) (pa_cons (pe_bltn (v := .ty "bool") (u := .type "bool") (by rfl) T.bool (by decide +kernel) rfl) pa_nil))))) (pw_or1 (pt_cmpR op_ne (pv 9) (pe_cmpR (op_inP hr.u65) (pe_tupJ (pa_cons (pe_callB (call_min2 rfl) (by rfl) T.min (by decide +kernel) (pa_cons (pv 7) (pa_cons (pv 8) pa_nil))) (pa_cons (pe_callB (call_max2 rfl) (by rfl) T.max (by decide +kernel) (pa_cons (pv 7) (pa_cons (pv 8) pa_nil))) pa_nil))) (pv 4) (by rfl)) (nomark _)))))
            (pss_one (ps_ret pe_bl))
            pss_nil)))
        pss_nil))))))
  (pss_one (ps_ret pe_bl))))), ?_⟩
    have few := ok.few
    have dep := ok.dep
    have pos := pts_pos ok.form
    have tl : (tpts t).length = t.pts.length := srt_len _
    simp [L2.start, and_assoc]
    refine ⟨u, t, rfl, hu, by omega, by omega, fun q0 H0 n0 e0 h0 => ?_⟩
    dsimp only
    rw [j_sorted, lsI_ex h0]
    refine ⟨by omega, fun q H1 n1 e1 h1 => ⟨u, t, rfl, (hu.up e0).up e1, by omega, by omega, fun L H2 n2 e2 h2 => ?_⟩⟩
    have e02 := e0.trans (e1.trans e2)
    have hq : LsI H2 q (tpts t) := h1.up e2
    have hq' : H2 q = some (.lst ((tpts t).map V.int)) := hq
    have ln : (((tpts t).map V.int).length : Int) = t.pts.length := by rw [List.length_map, tl]
    have ln2 : (((tpts t).map V.int).length : Int) * (((tpts t).map V.int).length : Int) ≤ 900 := by
      rw [ln]
      have : (t.pts.length : Int) * (t.pts.length : Int) ≤ 30 * 30 := Int.mul_le_mul (by omega) (by omega) (by omega) (by omega)
      omega
    have ln0 : 0 ≤ (((tpts t).map V.int).length : Int) * (((tpts t).map V.int).length : Int) := Int.mul_nonneg (by omega) (by omega)
    generalize hM : (((tpts t).map V.int).length : Int) * (((tpts t).map V.int).length : Int) = M at ln2 ln0
    refine ⟨.ref q, rfl, q, _, rfl, hq', .ref q, rfl, q, _, rfl, hq', _, _, rfl, rfl, .inl ⟨by omega, by omega⟩, _, _, rfl, _, rfl, by rw [hM]; split <;> omega, by rw [hM]; split <;> omega, for_range (fun i σ H' => ∃ (b5 b6 b7 b8 b9 : Option V), σ = [some v, some u, some (.ref a), some (.ref q), some (.ref L), b5, b6, b7, b8, b9] ∧ Ex H2 H') ⟨none, none, none, none, none, rfl, Ex.refl _⟩ (fun i σ H' hi h => ?_) (fun σ H' h => ?_)⟩
    · obtain ⟨b5, b6, b7, b8, b9, rfl, e⟩ := h
      have hi40 : i < 40 := by rw [hM] at hi; split at hi <;> omega
      have e0H := e02.trans e
      have hqH : H' q = some (.lst ((tpts t).map V.int)) := e _ _ hq'
      have hL : LsP H' L t.ties := h2.up e
      simp [and_assoc]
      refine ⟨a, sc, (i : Int) + 70, rfl, sql_up hS e0H, by omega, ?_⟩
      generalize num sc ((i : Int) + 70) = c
      have one : ∀ c : Int, ∃ n, n ∈ t.pts ∧ 0 ≤ c % (t.pts.length : Int) ∧ (tpts t)[(c % (t.pts.length : Int)).toNat]? = some n := fun c => by
        have m0 := Int.emod_nonneg c (show (t.pts.length : Int) ≠ 0 by omega)
        have m1 := Int.emod_lt_of_pos c (show (0 : Int) < t.pts.length by omega)
        have hj : (c % (t.pts.length : Int)).toNat < (tpts t).length := by omega
        exact ⟨(tpts t)[(c % (t.pts.length : Int)).toNat], tpts_mem.mp (List.getElem_mem hj), m0, List.getElem?_eq_getElem hj⟩
      obtain ⟨x, hx, x0, x1⟩ := one c
      obtain ⟨y, hy, y0, y1⟩ := one (c / 64)
      simp [hqH, tl, CDiv]
      refine ⟨by omega, x0, .int x, ⟨x, x1, rfl⟩, by omega, y0, .int y, ⟨y, y1, rfl⟩, ?_⟩
      rw [j_ne_ii]
      by_cases ne : x = y
      · exact .inl ⟨by simp [ne], e⟩
      · refine .inr ⟨by simp [ne], read_tied (hv.up e0H) (by omega) fun H5 e5 => ?_⟩
        simp [ite_min, ite_max]
        refine fun p H6 n6 e6 h6 => ⟨min x y, max x y, h6, _, (hL.up e5).up e6, .inl ⟨?_, e.trans (e5.trans e6)⟩⟩
        have := ties_tie t ok.nd ne hx hy
        unfold mmI at this
        cases z : t.tie x y with
        | true => exact (decide_eq_true (this.mpr z)).symm
        | false => exact (decide_eq_false fun w => by rw [this.mp w] at z; cases z).symm
    · obtain ⟨b5, b6, b7, b8, b9, rfl, e⟩ := h
      exact k _ (e02.trans e)
theorem ok_web_of (T : Txt K mg A) : FnOk P w K mg base (L2.CX P w) 64 A.a_web_of A.d_web_of ["told"] (spWebOf A) := by
  refine T.F_web_of.okX sc_web_of (fun vs H Q E h => ?_) (fun cdv C outer s H vs Q E hr h => ?_)
  · obtain ⟨u, t, rfl, _⟩ := h
    rfl
  · obtain ⟨u, t, rfl, hu, ok, k1, k2⟩ := h
    refine ⟨_, (pss_cons (ps_set (i := 1) sc_web_of.nd rfl (Or.inl rfl) (pe_call (ok_tree_by T) (hr.mono (by omega)) rfl T.g_tree_by T.k_tree_by T.b_tree_by .nil pass0 (pa_cons (pv 0) pa_nil)))
  (pss_cons (ps_set (i := 2) sc_web_of.nd rfl (Or.inl rfl) (PE.or (pe_meth0 (pv 1) T.cl_Point T.m_Point_points (ok_Point_points T) (hr.mono (by omega)) T.b_Point_points .nil pass0) (PE.or (pe_meth0 (pv 1) T.cl_Side T.m_Side_points (ok_Side_points T) (hr.mono (by omega)) T.b_Side_points .nil pass0) (pe_meth0 (pv 1) T.cl_Join T.m_Join_points (ok_Join_points T) (hr.mono (by omega)) T.b_Join_points .nil pass0))))
  (pss_cons (ps_if (pt_cmpR (op_neI hr.units) (pv 2) (pe_lstR rfl (by rfl) T.list (by rfl) T.range (pe_callB call_lenJ (by rfl) T.len (by decide +kernel) (pa_cons (pv 2) pa_nil))) (nomark _))
    (pss_one (ps_raise rfl (takes_of rfl rfl rfl rfl) (pmk_own PySem.F.excBase_ValueError T.xBadTree T.gBadTree T.kBadTree (raises_own T.bBadTree T.tBadTree) rfl)))
    pss_nil)
  (pss_cons (ps_set (i := 3) sc_web_of.nd rfl (Or.inl rfl) (pe_make T.mk_Web (ok_Web_init T) (hr.mono (by omega)) rfl T.gWeb T.b_Web_init .nil (passes_call (E := E) (takes_of rfl rfl rfl rfl) fun _ _ _ _ z => z) (pa_cons (pe_callB call_lenJ (by rfl) T.len (by decide +kernel) (pa_cons (pv 2) pa_nil)) pa_nil)))
  (pss_cons (ps_for (passes_of rfl) rfl (pi_list (pe_call (ok_pairs T) (hr.mono (by omega)) rfl T.g_pairs T.k_pairs T.b_pairs .nil pass0 (pa_cons (pe_callB call_lenJ (by rfl) T.len (by decide +kernel) (pa_cons (pv 2) pa_nil)) pa_nil))) (pg_tupJ (n := 2) rfl (pgs_cons (pg_name (i := 4) sc_web_of.nd rfl (.inl rfl)) (pgs_cons (pg_name (i := 5) sc_web_of.nd rfl (.inl rfl)) pgs_nil)))
    (pss_one (ps_if (pt_val (PE.or (pe_meth (pv 1) T.cl_Point T.m_Point_tied (ok_Point_tied T) (hr.mono (by omega)) T.b_Point_tied .nil pass0 (pa_cons (pv 4) (pa_cons (pv 5) pa_nil))) (PE.or (pe_meth (pv 1) T.cl_Side T.m_Side_tied (ok_Side_tied T) (hr.mono (by omega)) T.b_Side_tied .nil pass0 (pa_cons (pv 4) (pa_cons (pv 5) pa_nil))) (pe_meth (pv 1) T.cl_Join T.m_Join_tied (ok_Join_tied T) (hr.mono (by omega)) T.b_Join_tied .nil pass0 (pa_cons (pv 4) (pa_cons (pv 5) pa_nil))))))
        (pss_one (ps_expr (pe_meth (pv 3) T.cl_Web T.m_Web_put (ok_Web_put T) (hr.mono (by omega)) T.b_Web_put .nil (passes_call (E := E) (takes_of rfl rfl rfl rfl) fun _ _ _ _ z => z) (pa_cons (pv 4) (pa_cons (pv 5) pa_nil)))))
        pss_nil)))
  (pss_one (ps_ret (pv 3)))))))), ?_⟩
    have few := ok.few
    have dep := ok.dep
    have pos := pts_pos ok.form
    have tl : (tpts t).length = t.pts.length := srt_len _
    simp [L2.start, and_assoc]
    refine ⟨u, t, rfl, hu, ok.form, ok.nd, ok.inr, fun a H1 e1 t1 => ?_⟩
    refine read_points t1 fun q H2 n2 e2 h2 => ?_
    have e02 := e1.trans e2
    have h2' : H2 q = some (.lst ((tpts t).map V.int)) := h2
    simp [h2', tl]
    refine ⟨t.pts.length, rfl, by omega, fun r H3 n3 e3 h3 => ?_⟩
    have hr3 : LsI H3 r (rngI t.pts.length) := h3
    have e03 := e02.trans e3
    refine ⟨_, h2.up e3, _, hr3, ?_⟩
    by_cases wh : tpts t = rngI t.pts.length
    · refine .inl ⟨wh, ?_⟩
      have h3' : H3 q = some (.lst ((tpts t).map V.int)) := e3 _ _ h2'
      refine ⟨_, h3', ?_⟩
      have ln : ((tpts t).map V.int).length = t.pts.length := by rw [List.length_map, tl]
      rw [ln]
      intro p' dx' n1 n2 n3
      refine ⟨p', dx', _, rfl, upd_same, .int _, fun z => ?_, fun z l' ds' H4 W1 b1 nl nds => ⟨rfl, ?_⟩⟩
      · have zz : ¬ ((1 : Int) ≤ t.pts.length ∧ (t.pts.length : Int) ≤ 30) := by simpa [inR] using z
        omega
      have eX : Ex H3 (upd (upd H3 dx' (.own p')) p' (.ins A.c_Web dx' [])) := fun b o e => by
        rw [upd_ne (ne_of_none e n1), upd_ne (ne_of_none e n2)]; exact e
      have e34 : Ex H3 H4 := fun b o e => b1.kp b o (eX b o e) (by simpa using ne_of_none e n1)
      have e1n : (iOf (.int (t.pts.length : Int))).toNat = t.pts.length := by simp [iOf]
      rw [e1n] at W1
      have nX : ∀ x, (upd (upd H3 dx' (.own p')) p' (.ins A.c_Web dx' [])) x = none → H3 x = none := fun x z => fresh_back eX z
      have h4' := e34 _ _ h3'
      refine ⟨_, rfl, q, _, rfl, h4', t.pts.length, by rw [ln]; rfl, by omega, fun ts q5 H5 hq e45 hql hts => ⟨q5, rfl, ⟨_, .inl (.inl hql)⟩, ?_⟩⟩
      have e04 := e03.trans e34
      have e05 := e04.trans e45
      have e35 := e34.trans e45
      have nn : ∀ x, (upd (upd H3 dx' (.own p')) p' (.ins A.c_Web dx' [])) x = none → H x = none := fun x z => fresh_back e03 (nX x z)
      have t3 := t1.up (e2.trans e3)
      refine for_list (xs := ts.map V.ref) (fun m σ H' => ∃ (b3 b4 : Option V) (rows' : List (List Int)), σ = [some u, some (.ref a), some (.ref q), some (.ref p'), b3, b4] ∧ Ex H3 H' ∧ H' q5 = some (.lst (ts.map V.ref)) ∧ TupsAt H' ts (pairsL t.pts.length) ∧ WebAt A.c_Web H' p' l' ds' rows' ∧ Step (tieF t) t.pts.length m rows') ⟨none, none, _, rfl, e35, hql, hts, W1.up e45, step_init pos few⟩ (fun m σ H' _ h => ?_) (fun m x σ H' hx h => ?_) (fun σ H' h => ?_)
      · obtain ⟨_, _, _, _, _, h, _⟩ := h
        exact .inl (.inl h)
      · obtain ⟨b3, b4, rows', rfl, e, hq', ht', W', S⟩ := h
        rw [List.getElem?_map] at hx
        cases ht0 : ts[m]? with
        | none => rw [ht0] at hx; cases hx
        | some c =>
          rw [ht0] at hx
          cases hx
          have hm : m < ts.length := (List.getElem?_eq_some_iff.mp ht0).1
          have hm' : m < (pairsL t.pts.length).length := by rw [← ht'.1]; exact hm
          have hp0 : (pairsL t.pts.length)[m]? = some (pairsL t.pts.length)[m] := List.getElem?_eq_getElem hm'
          obtain ⟨i, j, hp, hij, hj⟩ := pairs_in (List.mem_of_getElem? hp0)
          have htup := ht'.2 m c _ ht0 hp0
          rw [hp] at htup hp0
          obtain ⟨dxp, wp⟩ := W'.ob
          obtain ⟨s1, s2⟩ := S.ok hp0
          have sm : ∀ r ∈ rows', r.length ≤ 100 := fun r hr => by have := S.G.small r hr; omega
          simp [and_assoc, htup]
          refine read_tied' (t3.up e) (by omega) fun H6 e6 => ?_
          have W6 := W'.up e6
          have ht6 := ht'.up e6
          have hq6 := e6 _ _ hq'
          have e36 := e.trans e6
          cases hf : t.tie i j with
          | false => exact .inl ⟨rfl, e36, hq6, ht6, rows', W6, S.no hp0 hf⟩
          | true =>
            refine .inr ⟨rfl, ?_⟩
            obtain ⟨dx6, w6⟩ := W6.ob
            refine ⟨dx6, _, w6, wf_put _, p', l', ds', rows', .int i, .int j, rfl, W6, .int _, .int _, S.G.sy, sm, ?_⟩
            refine ⟨fun z => (by rw [s1] at z; cases z), fun _ z => (by have z' : tied rows' i j = true := z; rw [s2] at z'; cases z'), fun _ _ H7 W7 b7 => ?_⟩
            exact ⟨ex_but e36 b7 (fun d hd => nX _ (nds d hd)), W6.kp b7 hq6 (by simp), W6.kpT b7 ht6, _, W7, S.yes hp0 hf⟩
      · obtain ⟨b3, b4, rows', rfl, e, hq', ht', W', S⟩ := h
        have R := S.R
        rw [List.length_map, hts.1, List.take_length] at R
        exact ⟨_, rfl, k2 wh p' l' ds' rows' H' (e03.trans e) W' (fresh_back e03 n1) (nn _ nl) (fun d hd => nn _ (nds d hd)) S.G R⟩
    · refine .inr ⟨wh, k1 wh H3 e03⟩
theorem in_tree (A : Adr) : (A.c_BadTree, ("tree" : Str)) ∈ kinds A := by simp [kinds]
def spSaid (A : Adr) : Sp := fun vs H Q _ => ∃ (u : V) (t : Tr), vs = [u] ∧ ToldAt H u t ∧ OkT t ∧ (¬ whole t → ∀ H', Ex H H' → Q (.str "tree") H') ∧
  (whole t → ∀ (p l : Addr) (prs : List (Int × Int)) (H' : Hp), Ex H H' → H' p = some (.tup [.int (t.pts.length : Int), .ref l]) → LsP H' l prs → (∀ qs : List (Int × Int), qs.Perm t.ties → qs.Pairwise lexLe → qs = prs) → Q (.ref p) H')
theorem ok_l_web_said (T : Txt K mg A) : FnOk P w K mg base CX0 67 A.a_l_web_said A.d_l_web_said ["_law_told_here"] (spSaid A) := by
  refine T.F_l_web_said.ok sc_l_web_said (fun vs H Q E h => ?_) (fun cdv C outer s H vs Q E hr h => ?_)
  · obtain ⟨u, t, rfl, _⟩ := h
    rfl
  · obtain ⟨u, t, rfl, hu, ok, k1, k2⟩ := h
    refine ⟨_, (pss_cons (ps_set (i := 1) sc_l_web_said.nd rfl (Or.inl rfl) pe_non)
  (pss_cons (ps_set (i := 2) sc_l_web_said.nd rfl (Or.inl rfl) pe_non)
  (pss_cons (ps_try_keep (i := 3) rfl rfl rfl rfl sc_l_web_said.nd rfl rfl ⟨rfl, by decide, .inl T.gJoinError⟩ takes0 (fun W pn xe tk _ => by exact (pss_one (ps_set (i := 2) sc_l_web_said.nd rfl (Or.inl rfl) (pe_callS (ok_web_of T) (hr.mono (by omega)) rfl T.g_web_of T.k_web_of T.b_web_of (fun σ => passAt tk σ) (pa_cons (pv 0) pa_nil))))) (fun a oe cls d pn hz hf => by exact (pss_one (ps_set (i := 1) sc_l_web_said.nd rfl (Or.inl rfl) (pv 3)))))
  (pss_cons (ps_if (pt_cmpR op_notN (pv 1) pe_non (nomark _))
    (pss_one (ps_ret (pe_call (ok_l_kind T) (hr.mono (by omega)) rfl T.g_l_kind T.k_l_kind T.b_l_kind .nil pass0 (pa_cons (pv 1) pa_nil))))
    pss_nil)
  (pss_one (ps_ret (pe_tupJ (pa_cons (pe_meth0 (pv 2) T.cl_Web T.m_Web_many (ok_Web_many T) (hr.mono (by omega)) T.b_Web_many .nil pass0) (pa_cons (pe_meth0 (pv 2) T.cl_Web T.m_Web_ties (ok_Web_ties T) (hr.mono (by omega)) T.b_Web_ties .nil pass0) pa_nil))))))))), ?_⟩
    simp [L2.start, and_assoc]
    have few := ok.few
    refine ⟨u, t, rfl, hu, ok, fun nw H1 e1 => ?_, fun wh p l ds rows H1 e1 W np nl nds G R => ?_⟩
    · refine ⟨true, exmJ T (in_tree A), fun _ a ha => ?_, fun z => nomatch z⟩
      simp
      intro na
      have e2 : Ex H1 (upd H1 a (ExK (.ref A.c_BadTree) none a)) := Ex.new na
      exact ⟨a, A.c_BadTree, "tree", rfl, upd_same, in_tree A, fun H2 e3 => k1 nw H2 (e1.trans (e2.trans e3))⟩
    · obtain ⟨dx, w1⟩ := W.ob
      have rn := R.n
      simp
      refine ⟨dx, _, w1, wf_many _, p, l, ds, rows, rfl, W, dx, _, w1, wf_ties _, p, l, ds, rows, rfl, W, by omega, fun ts q H2 n2 e2 h2 ht q2 H3 n3 e3 h3 => ?_⟩
      refine k2 wh q2 q (tiesL rows) H3 (e1.trans (e2.trans e3)) (by rw [h3, rn]) ⟨ts, e3 _ _ h2, ht.up e3⟩ fun qs hp hs => sorted_ties G R (hp.trans (ties_web ok wh)) hs
end
end Jk

namespace Jk
open PySem L2 Evl
def spLaw (K : PySem.W.Frag) : Sp := fun vs H Q _ => ∃ (a : Addr) (ns : List Int), vs = [.ref a] ∧ SqL K H a (ns.map V.int) ∧ ns.length ≤ 63 ∧ ∀ H', Q (.bl true) H'
theorem okT_of {t : Tr} {names : List Int} {n m : Nat} (hn : names.Perm (rngI n)) (h30 : n ≤ 30) (f : t.form) (nd : t.pts.Nodup) (p : t.pts.Perm (names.take m)) : OkT t :=
  ⟨f, nd, fun x hx => by
    have h1 := List.mem_of_mem_take (p.mem_iff.mp hx)
    have h2 := rng_in.mp (hn.mem_iff.mp h1)
    omega⟩
theorem most_ix (k : Int) : ∃ m : Int, [V.int 30, V.int 30, V.int 7, V.int 2][(k % 4).toNat]? = some (V.int m) ∧ 1 ≤ m ∧ m ≤ 30 := by
  obtain ⟨j, hj, e⟩ : ∃ j : Nat, j < 4 ∧ (k % 4).toNat = j := ⟨_, by omega, rfl⟩
  rw [e]
  match j, hj with
  | 0, _ => exact ⟨30, rfl, by omega, by omega⟩
  | 1, _ => exact ⟨30, rfl, by omega, by omega⟩
  | 2, _ => exact ⟨7, rfl, by omega, by omega⟩
  | 3, _ => exact ⟨2, rfl, by omega, by omega⟩
theorem rng_len (n : Nat) : (rngI n).length = n := by simp [rngI]
def TurnOr (A : Adr) (d : Nat) (a : Addr) (H : Hp) (Q : VK) : Prop := (∃ dx fs, H a = some (.ins A.c_Point dx fs) ∧ NoFld fs "turned" ∧ spPointTurn A [.ref a] H Q E0) ∨ (∃ dx fs, H a = some (.ins A.c_Side dx fs) ∧ NoFld fs "turned" ∧ spSideTurn A d [.ref a] H Q E0) ∨ (∃ dx fs, H a = some (.ins A.c_Join dx fs) ∧ NoFld fs "turned" ∧ spJoinTurn A d [.ref a] H Q E0)
theorem read_turned2 {A : Adr} {d : Nat} {a : Addr} {t : Tr} {N : Addr → Prop} {H : Hp} {Q : VK} (h : TreeAt A N H (.ref a) t) (hd : t.dep < d) (few : t.pts.length < 64) (hf : t.form) (k : ∀ a H', Ex H H' → TreeAt A (fun x => H x = none) H' (.ref a) t → Q (.ref a) H') :
    TurnOr A d a H (fun x H1 => ∃ b, x = .ref b ∧ ∃ dx fs, H1 b = some (.ins A.c_Point dx fs) ∧ NoFld fs "turned" ∧ spPointTurn A [x] H1 Q E0) ∨ TurnOr A d a H (fun x H1 => ∃ b, x = .ref b ∧ ∃ dx fs, H1 b = some (.ins A.c_Side dx fs) ∧ NoFld fs "turned" ∧ spSideTurn A d [x] H1 Q E0) ∨
      TurnOr A d a H (fun x H1 => ∃ b, x = .ref b ∧ ∃ dx fs, H1 b = some (.ins A.c_Join dx fs) ∧ NoFld fs "turned" ∧ spJoinTurn A d [x] H1 Q E0) := by
  have up : ∀ (b : Addr) (H1 : Hp), Ex H H1 → TreeAt A (fun x => H x = none) H1 (.ref b) t.turn → ∀ c H2, Ex H1 H2 → TreeAt A (fun x => H1 x = none) H2 (.ref c) t.turn.turn → Q (.ref c) H2 := fun b H1 e1 t1 c H2 e2 t2 => by
    rw [turn_turn] at t2
    exact k c H2 (e1.trans e2) (t2.to fun y o ny hy => ⟨fresh_back e1 ny, hy⟩)
  have r := fun (Q1 : VK) (q : ∀ b H1, Ex H H1 → TreeAt A (fun x => H x = none) H1 (.ref b) t.turn → Q1 (.ref b) H1) => read_turned' (d := d) h hd few hf q
  have hd' : t.turn.dep < d := by rw [turn_dep]; exact hd
  have few' : t.turn.pts.length < 64 := by rw [turn_pts]; exact few
  have hf' := turn_form t hf
  cases t with
  | pt n =>
    refine .inl (r _ fun b H1 e1 t1 => ?_)
    have u := up b H1 e1 t1
    rw [Tr.turn] at t1 u
    rw [Tr.turn] at u
    rw [TreeAt] at t1
    obtain ⟨b', dx, e, _, w⟩ := t1
    cases e
    exact ⟨b, rfl, dx, _, w, by simp, b, dx, n, rfl, w, u⟩
  | nd j ts =>
    cases j with
    | false =>
      refine .inr (.inr (r _ fun b H1 e1 t1 => ?_))
      have u := up b H1 e1 t1
      rw [Tr.turn] at t1 u hd' few' hf'
      have t1' := t1
      rw [TreeAt] at t1
      obtain ⟨b', dx, l, q, vs, e, _, _, _, w, _⟩ := t1
      cases e
      exact ⟨b, rfl, dx, _, w, by simp, .ref b, _, turnL ts, rfl, t1', hd', few', hf', u⟩
    | true =>
      refine .inr (.inl (r _ fun b H1 e1 t1 => ?_))
      have u := up b H1 e1 t1
      rw [Tr.turn] at t1 u hd' few' hf'
      have t1' := t1
      rw [TreeAt] at t1
      obtain ⟨b', dx, l, q, vs, e, _, _, _, w, _⟩ := t1
      cases e
      exact ⟨b, rfl, dx, _, w, by simp, .ref b, _, turnL ts, rfl, t1', hd', few', hf', u⟩
/-- what is due of the web, as the law has it -/
def DueAt (H : Hp) (w : V) (t : Tr) : Prop := (¬ whole t ∧ w = .str "tree") ∨ (whole t ∧ ∃ (p l : Addr) (qs : List (Int × Int)), w = .ref p ∧ H p = some (.tup [.int (t.pts.length : Int), .ref l]) ∧ LsP H l qs ∧ qs.Perm t.ties ∧ qs.Pairwise lexLe)
theorem DueAt.up {H H' : Hp} {w : V} {t : Tr} (h : DueAt H w t) (e : Ex H H') : DueAt H' w t := by
  rcases h with h | ⟨h, p, l, qs, h1, h2, h3, h4⟩
  · exact .inl h
  · exact .inr ⟨h, p, l, qs, h1, e _ _ h2, h3.up e, h4⟩
theorem rp_tree : Rp (.str (Str.ofString "tree")) 4 0 := ⟨by decide +kernel, rfl, rfl, Nat.le_refl _, by decide +kernel, rfl⟩
theorem rp_due {t : Tr} (ok : OkT t) {qs : List (Int × Int)} (hp : qs.Perm t.ties) : Rp (.tuple [.int (t.pts.length : Int), .list (qs.map pd)]) 30000 4 := by
  have few := ok.few
  have ln : qs.length ≤ 900 := by
    rw [hp.length_eq]
    refine Nat.le_trans (ties_len t) ?_
    exact Nat.le_trans (Nat.mul_le_mul few few) (by decide)
  have h1 : RpL (qs.map pd) (23 * qs.length) 1 := RpL.pairs fun p hp' => by
    obtain ⟨c, hc, d, hd, rfl⟩ := ties_in t p (hp.mem_iff.mp hp')
    have := ok.b c hc
    have := ok.b d hd
    unfold mmI
    constructor <;> constructor <;> simp only <;> omega
  exact (RpL.cons ((Rp.int (by omega)).mono (Nat.le_refl _) (Nat.zero_le _)) (RpL.cons h1.list (RpL.nil 0 _))).tuple.mono (by omega) (by omega)
section
variable {P : Program} {w : World} {K : PySem.W.Frag} {mg : Str → Option Value} {base : Heap} {A : Adr}
theorem ok_law (T : Txt K mg A) : FnG P w K mg base 70 A.a_law A.d_law ["_law_script"] (spLaw K) := by
  refine T.F_law.okG sc_law (fun vs H Q E h => ?_) (fun cdv C outer s H vs Q E hg hr h => ?_)
  · obtain ⟨a, ns, rfl, _⟩ := h
    rfl
  · obtain ⟨a, sc, rfl, hS, hl, k⟩ := h
    refine ⟨_, (pss_cons (ps_set (i := 1) sc_law.nd rfl (Or.inl rfl) (pe_call (ok_l_number T) (hr.mono (by omega)) rfl T.g_l_number T.k_l_number T.b_l_number .nil pass0 (pa_cons (pv 0) (pa_cons pe_int pa_nil))))
  (pss_cons (ps_set (i := 2) sc_law.nd rfl (Or.inl rfl) (pe_call (ok_l_order T) (hr.mono (by omega)) rfl T.g_l_order T.k_l_order T.b_l_order .nil pass0 (pa_cons pe_int (pa_cons (pv 1) pa_nil))))
  (pss_cons (ps_if (pt_cmpR op_gt (pe_op op_mod (pv 1) pe_int) pe_int (nomark _))
    (pss_one (ps_set (i := 2) sc_law.nd rfl (Or.inl rfl) (pe_call (ok_l_order T) (hr.mono (by omega)) rfl T.g_l_order T.k_l_order T.b_l_order .nil pass0 (pa_cons (pe_callB (call_min2 rfl) (by rfl) T.min (by decide +kernel) (pa_cons pe_int (pa_cons (pe_op op_add pe_int (pe_callB call_len_seq (by rfl) T.len (by decide +kernel) (pa_cons (pv 0) pa_nil))) pa_nil))) (pa_cons (pv 1) pa_nil)))))
    pss_nil)
  (pss_cons (ps_set (i := 3) sc_law.nd rfl (Or.inl rfl) (pe_call (ok_l_tree T) (hr.mono (by omega)) rfl T.g_l_tree T.k_l_tree T.b_l_tree .nil pass0 (pa_cons (pv 0) (pa_cons (pe_ix ix_listJ (pe_lstJ (pa_cons pe_int (pa_cons pe_int (pa_cons pe_int (pa_cons pe_int pa_nil))))) (pe_op op_mod (pe_op op_fdiv (pv 1) pe_int) pe_int) (fun _ _ => rfl)) (pa_cons (pv 2) pa_nil)))))
  (pss_cons (ps_set (i := 4) sc_law.nd rfl (Or.inl rfl) (pe_callB call_sortJ (by rfl) T.sorted (by decide +kernel) (pa_cons (pe_call (ok_l_points T 31) (hr.mono (by omega)) rfl T.g_l_points T.k_l_points T.b_l_points .nil pass0 (pa_cons (pv 3) pa_nil)) pa_nil)))
  (pss_cons (ps_set (i := 5) sc_law.nd rfl (Or.inl rfl) pe_str)
  (pss_cons (ps_if (pt_cmpR (op_eqI hr.units) (pv 4) (pe_lstR rfl (by rfl) T.list (by rfl) T.range (pe_callB call_lenJ (by rfl) T.len (by decide +kernel) (pa_cons (pv 4) pa_nil))) (nomark _))
    (pss_one (ps_set (i := 5) sc_law.nd rfl (Or.inl rfl) (pe_tupJ (pa_cons (pe_callB call_lenJ (by rfl) T.len (by decide +kernel) (pa_cons (pv 4) pa_nil)) (pa_cons (pe_callB call_sortP (by rfl) T.sorted (by decide +kernel) (pa_cons (pe_call (ok_l_ties T 31) (hr.mono (by omega)) rfl T.g_l_ties T.k_l_ties T.b_l_ties .nil pass0 (pa_cons (pv 3) pa_nil)) pa_nil)) pa_nil)))))
    pss_nil)
  (pss_cons (ps_for PassesOwn.never rfl (pi_tup (pe_tupJ (pa_cons (pe_call (ok_tree_by T) (hr.mono (by omega)) rfl T.g_tree_by T.k_tree_by T.b_tree_by .nil pass0 (pa_cons (pv 3) pa_nil)) (pa_cons (pe_call (ok_l_made T 31) (hr.mono (by omega)) rfl T.g_l_made T.k_l_made T.b_l_made .nil pass0 (pa_cons (pv 3) pa_nil)) pa_nil)))) (pg_name (i := 6) sc_law.nd rfl (.inl rfl))
    (pss_cons (ps_if (PW.pt (pw_or (pt_not (pt_val (pe_callG (ok_l_is T) hg (hr.mono (by omega)) rfl T.g_l_is T.k_l_is T.b_l_is (pa_cons (pv 6) (pa_cons (pv 3) pa_nil))))) (pw_or1 (pt_not (pt_val (pe_callG (ok_l_is T) hg (hr.mono (by omega)) rfl T.g_l_is T.k_l_is T.b_l_is (pa_cons (PE.or (pe_meth0 (pv 6) T.cl_Point T.m_Point_turned (ok_Point_turned T) (hr.mono (by omega)) T.b_Point_turned .nil pass0) (PE.or (pe_meth0 (pv 6) T.cl_Side T.m_Side_turned (ok_Side_turned T) (hr.mono (by omega)) T.b_Side_turned .nil pass0) (pe_meth0 (pv 6) T.cl_Join T.m_Join_turned (ok_Join_turned T) (hr.mono (by omega)) T.b_Join_turned .nil pass0))) (pa_cons (pe_call (ok_l_turned T 31) (hr.mono (by omega)) rfl T.g_l_turned T.k_l_turned T.b_l_turned .nil pass0 (pa_cons (pv 3) pa_nil)) pa_nil))))))))
        (pss_one (ps_ret pe_bl))
        pss_nil)
      (pss_one (ps_if (PW.pt (pw_or (pt_not (pt_val (pe_callG (ok_l_is T) hg (hr.mono (by omega)) rfl T.g_l_is T.k_l_is T.b_l_is (pa_cons (PE.or (pe_meth0 (PE.or (pe_meth0 (pv 6) T.cl_Point T.m_Point_turned (ok_Point_turned T) (hr.mono (by omega)) T.b_Point_turned .nil pass0) (PE.or (pe_meth0 (pv 6) T.cl_Side T.m_Side_turned (ok_Side_turned T) (hr.mono (by omega)) T.b_Side_turned .nil pass0) (pe_meth0 (pv 6) T.cl_Join T.m_Join_turned (ok_Join_turned T) (hr.mono (by omega)) T.b_Join_turned .nil pass0))) T.cl_Point T.m_Point_turned (ok_Point_turned T) (hr.mono (by omega)) T.b_Point_turned .nil pass0) (PE.or (pe_meth0 (PE.or (pe_meth0 (pv 6) T.cl_Point T.m_Point_turned (ok_Point_turned T) (hr.mono (by omega)) T.b_Point_turned .nil pass0) (PE.or (pe_meth0 (pv 6) T.cl_Side T.m_Side_turned (ok_Side_turned T) (hr.mono (by omega)) T.b_Side_turned .nil pass0) (pe_meth0 (pv 6) T.cl_Join T.m_Join_turned (ok_Join_turned T) (hr.mono (by omega)) T.b_Join_turned .nil pass0))) T.cl_Side T.m_Side_turned (ok_Side_turned T) (hr.mono (by omega)) T.b_Side_turned .nil pass0) (pe_meth0 (PE.or (pe_meth0 (pv 6) T.cl_Point T.m_Point_turned (ok_Point_turned T) (hr.mono (by omega)) T.b_Point_turned .nil pass0) (PE.or (pe_meth0 (pv 6) T.cl_Side T.m_Side_turned (ok_Side_turned T) (hr.mono (by omega)) T.b_Side_turned .nil pass0) (pe_meth0 (pv 6) T.cl_Join T.m_Join_turned (ok_Join_turned T) (hr.mono (by omega)) T.b_Join_turned .nil pass0))) T.cl_Join T.m_Join_turned (ok_Join_turned T) (hr.mono (by omega)) T.b_Join_turned .nil pass0))) (pa_cons (pv 3) pa_nil))))) (pw_or1 (pt_not (pt_val (pe_call (ok_l_ties_right T) (hr.mono (by omega)) rfl T.g_l_ties_right T.k_l_ties_right T.b_l_ties_right .nil pass0 (pa_cons (pv 6) (pa_cons (pv 3) (pa_cons (pv 0) pa_nil)))))))))
        (pss_one (ps_ret pe_bl))
        pss_nil))))
  (pss_cons (ps_if (pt_val (pe_callB call_isJ (by rfl) T.isinstance (by decide +kernel) (pa_cons (pv 3) (pa_cons (pe_bltn (v := .ty "tuple") (u := .type "tuple") (by rfl) T.tuple (by decide +kernel) rfl) pa_nil))))
    (pss_one (ps_for PassesOwn.never rfl (pi_range1 rfl T.range (pa_cons (pe_callB call_lenT (by rfl) T.len (by decide +kernel) (pa_cons (pe_ix ix_tupJ (pv 3) pe_int (fun _ _ => rfl)) pa_nil)) pa_nil)) (pg_name (i := 7) sc_law.nd rfl (.inl rfl))
        (pss_one (ps_if (pt_not (pt_val (pe_callG (ok_l_is T) hg (hr.mono (by omega)) rfl T.g_l_is T.k_l_is T.b_l_is (pa_cons (pe_call (ok_tree_by T) (hr.mono (by omega)) rfl T.g_tree_by T.k_tree_by T.b_tree_by .nil pass0 (pa_cons (pe_ix ix_tupJ (pe_ix ix_tupJ (pv 3) pe_int (fun _ _ => rfl)) (pv 7) (fun _ _ => rfl)) pa_nil)) (pa_cons (pe_ix ix_tupJ (pe_ix ix_tupJ (pv 3) pe_int (fun _ _ => rfl)) (pv 7) (fun _ _ => rfl)) pa_nil)))))
            (pss_one (ps_ret pe_bl))
            pss_nil))))
    pss_nil)
  (pss_one (ps_ret (pe_cmpR op_eq (pe_callB (call_reprA (guards_deeper hg) hr.units) (by rfl) T.repr (by decide +kernel) (pa_cons (pe_call (ok_l_web_said T) (hr.mono (by omega)) rfl T.g_l_web_said T.k_l_web_said T.b_l_web_said .nil pass0 (pa_cons (pv 3) pa_nil)) pa_nil)) (pe_callB (call_reprA (guards_deeper hg) hr.units) (by rfl) T.repr (by decide +kernel) (pa_cons (pv 5) pa_nil)) (nomark _))))))))))))), ?_⟩
    have hlen : ((sc.map V.int).length : Int) = sc.length := by rw [List.length_map]
    refine seq_by (fun σ1 H1 => H = H1 ∧ σ1 = [some (.ref a), some (.int (num sc 64)), none, none, none, none, none, none]) (fun N hN => ?_) (fun s1 H1 m => ?_)
    · simp [L2.start, and_assoc]
      exact ⟨a, sc, 64, rfl, hS, by omega, hN _ _ ⟨rfl, rfl⟩⟩
    obtain ⟨rfl, rfl⟩ := m
    generalize num sc 64 = c
    refine seq_by (fun σ1 H1 => ∃ (ml : Addr) (names : List Int), σ1 = [some (.ref a), some (.int c), some (.ref ml), none, none, none, none, none] ∧ Ex H H1 ∧ LsI H1 ml names ∧ names.Perm (rngI 30)) (fun N hN => ?_) (fun s1 H1 m => ?_)
    · simp [and_assoc]
      exact ⟨30, c, rfl, by omega, fun names q H1 hp n1 e1 h1 => hN _ _ ⟨q, names, rfl, e1, h1, hp⟩⟩
    obtain ⟨ml0, names0, rfl, e0, hM0, hp0⟩ := m
    refine seq_by (fun σ1 H1 => ∃ (ml : Addr) (names : List Int) (n : Nat), σ1 = [some (.ref a), some (.int c), some (.ref ml), none, none, none, none, none] ∧ Ex H H1 ∧ LsI H1 ml names ∧ names.Perm (rngI n) ∧ n ≤ 30 ∧ min 29 sc.length + 1 ≤ n) (fun N hN => ?_) (fun s1 H1 m => ?_)
    · simp [and_assoc]
      by_cases hc : 0 < c % 3
      · refine .inr ⟨hc, sc.map V.int, .inl (sql_up hS e0), min 30 (1 + sc.length), c, ?_, by omega, fun names q H1 hp n1 e1 h1 => hN _ _ ⟨q, names, _, rfl, e0.trans e1, h1, hp, by omega, by omega⟩⟩
        rw [hlen, ite_min]
        congr 2
        omega
      · refine .inl ⟨by omega, hN _ _ ⟨ml0, names0, 30, rfl, e0, hM0, hp0, by omega, by omega⟩⟩
    obtain ⟨ml, names, n, rfl, e1, hM, hp, hn30, hmin⟩ := m
    clear hp0 hM0 e0
    have nlen : names.length = n := by rw [hp.length_eq, rng_len]
    refine seq_by (fun σ1 H2 => ∃ (u : V) (t : Tr), σ1 = [some (.ref a), some (.int c), some (.ref ml), some u, none, none, none, none] ∧ Ex H H2 ∧ ToldAt H2 u t ∧ OkT t) (fun N hN => ?_) (fun s1 H2 m => ?_)
    · obtain ⟨most, hm, m1, m30⟩ := most_ix (c / 3)
      simp [and_assoc, CDiv]
      refine fun p H2 n2 e2 h2 => ⟨_, h2, by omega, .int most, hm, a, ml, sc, names, most, rfl, sql_up hS (e1.trans e2), hM.up e2, (hp.nodup_iff).mpr (rng_nd n), ⟨m1, m30⟩, by omega, fun u t H3 e3 hu f nd pm => hN _ _ ⟨u, t, rfl, e1.trans (e2.trans e3), hu, okT_of hp hn30 f nd pm⟩⟩
    obtain ⟨u, t, rfl, e2, hu, ok⟩ := m
    have few := ok.few
    have dep := ok.dep
    have pos := pts_pos ok.form
    have tl : (tpts t).length = t.pts.length := srt_len _
    refine seq_by (fun σ1 H3 => ∃ (q : Addr), σ1 = [some (.ref a), some (.int c), some (.ref ml), some u, some (.ref q), none, none, none] ∧ Ex H H3 ∧ ToldAt H3 u t ∧ LsI H3 q (tpts t)) (fun N hN => ?_) (fun s1 H3 m => ?_)
    · simp [and_assoc]
      refine ⟨u, t, rfl, hu, by omega, by omega, fun q H3 n3 e3 h3 => ?_⟩
      dsimp only
      rw [j_sorted, lsI_ex h3]
      exact ⟨by omega, fun r H4 n4 e4 h4 => hN _ _ ⟨r, rfl, e2.trans (e3.trans e4), (hu.up e3).up e4, h4⟩⟩
    obtain ⟨q, rfl, e3, hu3, hq⟩ := m
    have hq' : H3 q = some (.lst ((tpts t).map V.int)) := hq
    refine seq_by (fun σ1 H4 => H3 = H4 ∧ σ1 = [some (.ref a), some (.int c), some (.ref ml), some u, some (.ref q), some (.str "tree"), none, none]) (fun N hN => ?_) (fun s1 H4 m => ?_)
    · simp
      exact hN _ _ ⟨rfl, rfl⟩
    obtain ⟨rfl, rfl⟩ := m
    refine seq_by (fun σ1 H4 => ∃ (w : V), σ1 = [some (.ref a), some (.int c), some (.ref ml), some u, some (.ref q), some w, none, none] ∧ Ex H H4 ∧ ToldAt H4 u t ∧ DueAt H4 w t) (fun N hN => ?_) (fun s1 H4 m => ?_)
    · simp [hq', tl]
      refine ⟨t.pts.length, rfl, by omega, fun r H4 n4 e4 h4 => ⟨_, hq.up e4, rngI t.pts.length, h4, ?_⟩⟩
      by_cases wh : tpts t = rngI t.pts.length
      · refine .inr ⟨wh, _, e4 _ _ hq', u, t, rfl, hu3.up e4, by omega, by omega, fun l H5 n5 e5 h5 => ?_⟩
        dsimp only
        rw [j_sortP]
        refine ⟨_, h5, fun qs D H6 hp hs n6 e6 h6 p H7 n7 e7 h7 => hN _ _ ⟨.ref p, rfl, e3.trans (e4.trans (e5.trans (e6.trans e7))), hu3.up (e4.trans (e5.trans (e6.trans e7))), .inr ⟨wh, p, D, qs, rfl, ?_, h6.up e7, hp, hs⟩⟩⟩
        rw [h7, List.length_map, tl]
      · exact .inl ⟨wh, hN _ _ ⟨.str "tree", rfl, e3.trans e4, hu3.up e4, .inl ⟨wh, rfl⟩⟩⟩
    obtain ⟨w', rfl, e4, hu4, hd⟩ := m
    refine seq_by (fun σ1 H5 => ∃ (b6 b7 : Option V), σ1 = [some (.ref a), some (.int c), some (.ref ml), some u, some (.ref q), some w', b6, b7] ∧ Ex H H5 ∧ ToldAt H5 u t ∧ DueAt H5 w' t) (fun N hN => ?_) (fun s1 H5 m => ?_)
    · refine ⟨u, rfl, u, t, rfl, hu4, ok.form, ok.nd, ok.inr, fun x1 H5 e5 t5 => ⟨u, rfl, u, t, rfl, hu4.up e5, by omega, ok.form, by omega, fun x2 H6 e6 t6 => ⟨by simp, fun p H7 n7 e7 h7 => ⟨p, rfl, ⟨_, .inl (.inl h7)⟩, ?_⟩⟩⟩⟩
      have e47 := e5.trans (e6.trans e7)
      refine for_tup (xs := [.ref x1, .ref x2]) (fun i σ H' => ∃ (b6 : Option V), σ = [some (.ref a), some (.int c), some (.ref ml), some u, some (.ref q), some w', b6, none] ∧ Ex H7 H') ⟨none, rfl, Ex.refl _⟩ (fun i σ H' _ h => ?_) (fun i x σ H' hx h => ?_) (fun σ H' h => ?_)
      · obtain ⟨b6, rfl, e⟩ := h
        exact .inl (.inl (e _ _ h7))
      · obtain ⟨b6, rfl, e⟩ := h
        have e7' := (e4.trans e47).trans e
        have huH := hu4.up (e47.trans e)
        have tx : ∃ (xa : Addr) (N : Addr → Prop), x = .ref xa ∧ TreeAt A N H' (.ref xa) t := by
          match i, hx with
          | 0, hx => cases hx; exact ⟨x1, _, rfl, t5.up ((e6.trans e7).trans e)⟩
          | 1, hx => cases hx; exact ⟨x2, _, rfl, t6.up (e7.trans e)⟩
          | i + 2, hx => simp at hx
        obtain ⟨xa, Nx, rfl, tx⟩ := tx
        simp [and_assoc]
        refine ⟨_, u, Nx, t, rfl, tx, huH, ok, fun H8 e8 => .inr ⟨rfl, ?_⟩⟩
        refine read_turned' (tx.up e8) (by omega) (by omega) ok.form fun x9 H9 e9 t9 => ⟨u, t, rfl, (huH.up e8).up e9, by omega, ok.w, fun u10 H10 e10 h10 => ⟨_, u10, _, t.turn, rfl, t9.up e10, h10, ok.turn, fun H11 e11 => .inr ⟨rfl, ?_⟩⟩⟩
        have e811 := e8.trans (e9.trans (e10.trans e11))
        refine read_turned2 (tx.up e811) (by omega) (by omega) ok.form fun x12 H12 e12 t12 => ?_
        have e812 := e811.trans e12
        refine ⟨_, u, _, t, rfl, t12, huH.up e812, ok, fun H13 e13 => .inr ⟨rfl, ?_⟩⟩
        have e813 := e812.trans e13
        exact ⟨_, u, a, Nx, t, sc, rfl, tx.up e813, huH.up e813, ok, sql_up hS (e7'.trans e813), fun H14 e14 => .inr ⟨rfl, e.trans (e813.trans e14)⟩⟩
      · obtain ⟨b6, rfl, e⟩ := h
        exact hN _ _ ⟨b6, none, rfl, e4.trans (e47.trans e), hu4.up (e47.trans e), hd.up (e47.trans e)⟩
    obtain ⟨b6, b7, rfl, e5, hu5, hd5⟩ := m
    refine seq_by (fun σ1 H6 => ∃ (b6 b7 : Option V), σ1 = [some (.ref a), some (.int c), some (.ref ml), some u, some (.ref q), some w', b6, b7] ∧ Ex H H6 ∧ ToldAt H6 u t ∧ DueAt H6 w' t) (fun N hN => ?_) (fun s1 H6 m => ?_)
    · rcases told_kind hu5 with ⟨n0, rfl, rfl⟩ | ⟨j, ts, ua, ub, us, rfl, rfl, h1, h2, h3⟩
      · simp
        exact hN _ _ ⟨b6, b7, rfl, e5, hu5, hd5⟩
      · simp [tyN_tup h1]
        have lu := h3.len
        have pw := (parts_few ok.w).2
        refine ⟨_, rfl, ua, _, 1, _, rfl, rfl, h1, by decide, rfl, ub, _, rfl, h2, _, rfl, by omega, by omega, for_range (fun i σ H' => ∃ (b6 b7 : Option V), σ = [some (.ref a), some (.int c), some (.ref ml), some (.ref ua), some (.ref q), some w', b6, b7] ∧ Ex H5 H') ⟨b6, b7, rfl, Ex.refl _⟩ (fun i σ H' hi h => ?_) (fun σ H' h => ?_)⟩
        · obtain ⟨b6, b7, rfl, e⟩ := h
          have hi' : i < us.length := by simpa using hi
          have hx : us[i]? = some us[i] := List.getElem?_eq_getElem hi'
          obtain ⟨t', ht, hat⟩ := h3.get hx
          have ok' := ok.part (List.mem_of_getElem? ht)
          simp [and_assoc, e _ _ h1, e _ _ h2, hx]
          refine ⟨_, t', rfl, hat.up e, ok'.form, ok'.nd, ok'.inr, fun x8 H8 e8 t8 => ⟨_, (e.trans e8) _ _ h1, _, rfl, ub, us, (i : Int), us[i], rfl, rfl, (e.trans e8) _ _ h2, by omega, hx, _, us[i], _, t', rfl, t8, (hat.up e).up e8, ok', fun H9 e9 => .inr ⟨rfl, e.trans (e8.trans e9)⟩⟩⟩
        · obtain ⟨b6, b7, rfl, e⟩ := h
          exact hN _ _ ⟨b6, b7, rfl, e5.trans e, hu5.up e, hd5.up e⟩
    obtain ⟨b6', b7', rfl, e6, hu6, hd6⟩ := m
    simp [and_assoc]
    refine ⟨u, t, rfl, hu6, ok, fun nw H7 e7 => ?_, fun wh p l prs H7 e7 hp hl hprs => ?_⟩
    · rcases hd6.up e7 with ⟨_, rfl⟩ | ⟨wh, _⟩
      · refine ⟨.str "tree", _, _, _, rfl, .str _, rp_tree, by decide, by decide, .str "tree", _, _, _, rfl, .str _, rp_tree, by decide, by decide, ?_⟩
        show rEq _ _ _ _
        rw [j_eq_ss, decide_eq_true rfl]
        exact k _
      · exact absurd wh nw
    · rcases hd6.up e7 with ⟨nw, _⟩ | ⟨_, p2, l2, qs, rfl, h2, hq2, hqp, hqs⟩
      · exact absurd wh nw
      · have eq := hprs qs hqp hqs
        subst eq
        have rp := rp_due ok hqp
        have dp : ∀ (p l : Addr) (H : Hp), H p = some (.tup [.int (t.pts.length : Int), .ref l]) → LsP H l qs → Dp K H (.ref p) (.tuple [.int (t.pts.length : Int), .list (qs.map pd)]) := fun p l H h1 h2 => .tup (.inl (.inl h1)) (.cons (.int _) (.cons h2.dp .nil))
        refine ⟨_, _, _, _, rfl, dp p l H7 hp hl, rp, by decide, by decide, _, _, _, _, rfl, dp p2 l2 H7 h2 hq2, rp, by decide, by decide, ?_⟩
        show rEq _ _ _ _
        rw [j_eq_ss, decide_eq_true rfl]
        exact k _
end
end Jk

namespace Jk
open PySem L2 Evl
theorem all_mk {l : PySem.W.OpenLaw} {w : World} {K : PySem.W.Frag} {h : Heap} {mg : Str → Option Value} {fa c_BadPoint c_BadSize c_BadText c_BadTree c_Join c_JoinError c_NoTie c_NoTree c_Point c_Side c_TooMany c_Tree c_Twice c_Web a_wall a_whole_within a_pairs a_Web_init a_Web_many a_Web_has a_Web_put a_Web_ties a_Web_need_point a_Point_init a_Point_told a_Point_points a_Point_tied a_Point_turned a_Side_init a_Side_told a_Side_points a_Side_tied a_Side_turned a_Join_init a_Join_told a_Join_points a_Join_tied a_Join_turned a_points_of a_told_of a_turned_of a_tied_among a_tree_by a_tree_under a_opened a_web_of a_l_mixed a_l_number a_l_kind a_l_order a_l_least a_l_told a_l_tree a_l_points a_l_ties a_l_turned a_l_is a_l_made a_l_ties_right a_l_web_said a_law : Addr} (X : K.In h) (G : h.Ns mainGlobals mg) (hfa : mg "law" = some (.ref fa))
    {oc_wall kV_wall dc_wall pm_wall cd_wall ct_wall oc_whole_within kV_whole_within dc_whole_within pm_whole_within cd_whole_within ct_whole_within oc_pairs kV_pairs dc_pairs pm_pairs cd_pairs ct_pairs oc_Web_init kV_Web_init dc_Web_init pm_Web_init cd_Web_init ct_Web_init oc_Web_many kV_Web_many dc_Web_many pm_Web_many cd_Web_many ct_Web_many oc_Web_has kV_Web_has dc_Web_has pm_Web_has cd_Web_has ct_Web_has oc_Web_put kV_Web_put dc_Web_put pm_Web_put cd_Web_put ct_Web_put oc_Web_ties kV_Web_ties dc_Web_ties pm_Web_ties cd_Web_ties ct_Web_ties oc_Web_need_point kV_Web_need_point dc_Web_need_point pm_Web_need_point cd_Web_need_point ct_Web_need_point oc_Point_init kV_Point_init dc_Point_init pm_Point_init cd_Point_init ct_Point_init oc_Point_told kV_Point_told dc_Point_told pm_Point_told cd_Point_told ct_Point_told oc_Point_points kV_Point_points dc_Point_points pm_Point_points cd_Point_points ct_Point_points oc_Point_tied kV_Point_tied dc_Point_tied pm_Point_tied cd_Point_tied ct_Point_tied oc_Point_turned kV_Point_turned dc_Point_turned pm_Point_turned cd_Point_turned ct_Point_turned oc_Side_init kV_Side_init dc_Side_init pm_Side_init cd_Side_init ct_Side_init oc_Side_told kV_Side_told dc_Side_told pm_Side_told cd_Side_told ct_Side_told oc_Side_points kV_Side_points dc_Side_points pm_Side_points cd_Side_points ct_Side_points oc_Side_tied kV_Side_tied dc_Side_tied pm_Side_tied cd_Side_tied ct_Side_tied oc_Side_turned kV_Side_turned dc_Side_turned pm_Side_turned cd_Side_turned ct_Side_turned oc_Join_init kV_Join_init dc_Join_init pm_Join_init cd_Join_init ct_Join_init oc_Join_told kV_Join_told dc_Join_told pm_Join_told cd_Join_told ct_Join_told oc_Join_points kV_Join_points dc_Join_points pm_Join_points cd_Join_points ct_Join_points oc_Join_tied kV_Join_tied dc_Join_tied pm_Join_tied cd_Join_tied ct_Join_tied oc_Join_turned kV_Join_turned dc_Join_turned pm_Join_turned cd_Join_turned ct_Join_turned oc_points_of kV_points_of dc_points_of pm_points_of cd_points_of ct_points_of oc_told_of kV_told_of dc_told_of pm_told_of cd_told_of ct_told_of oc_turned_of kV_turned_of dc_turned_of pm_turned_of cd_turned_of ct_turned_of oc_tied_among kV_tied_among dc_tied_among pm_tied_among cd_tied_among ct_tied_among oc_tree_by kV_tree_by dc_tree_by pm_tree_by cd_tree_by ct_tree_by oc_tree_under kV_tree_under dc_tree_under pm_tree_under cd_tree_under ct_tree_under oc_opened kV_opened dc_opened pm_opened cd_opened ct_opened oc_web_of kV_web_of dc_web_of pm_web_of cd_web_of ct_web_of oc_l_mixed kV_l_mixed dc_l_mixed pm_l_mixed cd_l_mixed ct_l_mixed oc_l_number kV_l_number dc_l_number pm_l_number cd_l_number ct_l_number oc_l_kind kV_l_kind dc_l_kind pm_l_kind cd_l_kind ct_l_kind oc_l_order kV_l_order dc_l_order pm_l_order cd_l_order ct_l_order oc_l_least kV_l_least dc_l_least pm_l_least cd_l_least ct_l_least oc_l_told kV_l_told dc_l_told pm_l_told cd_l_told ct_l_told oc_l_tree kV_l_tree dc_l_tree pm_l_tree cd_l_tree ct_l_tree oc_l_points kV_l_points dc_l_points pm_l_points cd_l_points ct_l_points oc_l_ties kV_l_ties dc_l_ties pm_l_ties cd_l_ties ct_l_ties oc_l_turned kV_l_turned dc_l_turned pm_l_turned cd_l_turned ct_l_turned oc_l_is kV_l_is dc_l_is pm_l_is cd_l_is ct_l_is oc_l_made kV_l_made dc_l_made pm_l_made cd_l_made ct_l_made oc_l_ties_right kV_l_ties_right dc_l_ties_right pm_l_ties_right cd_l_ties_right ct_l_ties_right oc_l_web_said kV_l_web_said dc_l_web_said pm_l_web_said cd_l_web_said ct_l_web_said oc_law kV_law dc_law pm_law cd_law ct_law : Value} {od_wall od_whole_within od_pairs od_Web_init od_Web_many od_Web_has od_Web_put od_Web_ties od_Web_need_point od_Point_init od_Point_told od_Point_points od_Point_tied od_Point_turned od_Side_init od_Side_told od_Side_points od_Side_tied od_Side_turned od_Join_init od_Join_told od_Join_points od_Join_tied od_Join_turned od_points_of od_told_of od_turned_of od_tied_among od_tree_by od_tree_under od_opened od_web_of od_l_mixed od_l_number od_l_kind od_l_order od_l_least od_l_told od_l_tree od_l_points od_l_ties od_l_turned od_l_is od_l_made od_l_ties_right od_l_web_said od_law an_wall an_whole_within an_pairs an_Web_init an_Web_many an_Web_has an_Web_put an_Web_ties an_Web_need_point an_Point_init an_Point_told an_Point_points an_Point_tied an_Point_turned an_Side_init an_Side_told an_Side_points an_Side_tied an_Side_turned an_Join_init an_Join_told an_Join_points an_Join_tied an_Join_turned an_points_of an_told_of an_turned_of an_tied_among an_tree_by an_tree_under an_opened an_web_of an_l_mixed an_l_number an_l_kind an_l_order an_l_least an_l_told an_l_tree an_l_points an_l_ties an_l_turned an_l_is an_l_made an_l_ties_right an_l_web_said an_law : Option Addr} {sl_wall sl_whole_within sl_pairs sl_Web_init sl_Web_many sl_Web_has sl_Web_put sl_Web_ties sl_Web_need_point sl_Point_init sl_Point_told sl_Point_points sl_Point_tied sl_Point_turned sl_Side_init sl_Side_told sl_Side_points sl_Side_tied sl_Side_turned sl_Join_init sl_Join_told sl_Join_points sl_Join_tied sl_Join_turned sl_points_of sl_told_of sl_turned_of sl_tied_among sl_tree_by sl_tree_under sl_opened sl_web_of sl_l_mixed sl_l_number sl_l_kind sl_l_order sl_l_least sl_l_told sl_l_tree sl_l_points sl_l_ties sl_l_turned sl_l_is sl_l_made sl_l_ties_right sl_l_web_said sl_law : Array (Option Value)} {tk_MOST_POINTS tk_SIDE tk_JOIN : Tok}
    (h_c_BadPoint : PySem.W.nsIn K mainGlobals "BadPoint" = some (some (.ref c_BadPoint)))
    (h_c_BadSize : PySem.W.nsIn K mainGlobals "BadSize" = some (some (.ref c_BadSize)))
    (h_c_BadText : PySem.W.nsIn K mainGlobals "BadText" = some (some (.ref c_BadText)))
    (h_c_BadTree : PySem.W.nsIn K mainGlobals "BadTree" = some (some (.ref c_BadTree)))
    (h_c_Join : PySem.W.nsIn K mainGlobals "Join" = some (some (.ref c_Join)))
    (h_c_JoinError : PySem.W.nsIn K mainGlobals "JoinError" = some (some (.ref c_JoinError)))
    (h_c_NoTie : PySem.W.nsIn K mainGlobals "NoTie" = some (some (.ref c_NoTie)))
    (h_c_NoTree : PySem.W.nsIn K mainGlobals "NoTree" = some (some (.ref c_NoTree)))
    (h_c_Point : PySem.W.nsIn K mainGlobals "Point" = some (some (.ref c_Point)))
    (h_c_Side : PySem.W.nsIn K mainGlobals "Side" = some (some (.ref c_Side)))
    (h_c_TooMany : PySem.W.nsIn K mainGlobals "TooMany" = some (some (.ref c_TooMany)))
    (h_c_Tree : PySem.W.nsIn K mainGlobals "Tree" = some (some (.ref c_Tree)))
    (h_c_Twice : PySem.W.nsIn K mainGlobals "Twice" = some (some (.ref c_Twice)))
    (h_c_Web : PySem.W.nsIn K mainGlobals "Web" = some (some (.ref c_Web)))
    (f_wall : PySem.W.nsIn K mainGlobals "_wall" = some (some (.ref a_wall)))
    (l_wall : K.lookup a_wall = some ⟨oc_wall, od_wall, .func (PySem.W.fnOf "_wall" "_wall" (defArgs s_wall) (defBody s_wall) (defScope s_wall) .none kV_wall dc_wall pm_wall an_wall cd_wall ct_wall), sl_wall⟩)
    (c_wall : PySem.W.codeIn K cd_wall "_wall" = true)
    (k_wall : PySem.W.keepIn K (.ref a_wall) = true)
    (f_whole_within : PySem.W.nsIn K mainGlobals "whole_within" = some (some (.ref a_whole_within)))
    (l_whole_within : K.lookup a_whole_within = some ⟨oc_whole_within, od_whole_within, .func (PySem.W.fnOf "whole_within" "whole_within" (defArgs s_whole_within) (defBody s_whole_within) (defScope s_whole_within) .none kV_whole_within dc_whole_within pm_whole_within an_whole_within cd_whole_within ct_whole_within), sl_whole_within⟩)
    (c_whole_within : PySem.W.codeIn K cd_whole_within "whole_within" = true)
    (k_whole_within : PySem.W.keepIn K (.ref a_whole_within) = true)
    (f_pairs : PySem.W.nsIn K mainGlobals "pairs" = some (some (.ref a_pairs)))
    (l_pairs : K.lookup a_pairs = some ⟨oc_pairs, od_pairs, .func (PySem.W.fnOf "pairs" "pairs" (defArgs s_pairs) (defBody s_pairs) (defScope s_pairs) .none kV_pairs dc_pairs pm_pairs an_pairs cd_pairs ct_pairs), sl_pairs⟩)
    (c_pairs : PySem.W.codeIn K cd_pairs "pairs" = true)
    (k_pairs : PySem.W.keepIn K (.ref a_pairs) = true)
    (f_Web_init : PySem.W.findIn K (.ref c_Web) "__init__" = some (some (.ref a_Web_init)))
    (i_Web_init : PySem.W.isFn K (.ref a_Web_init) = true)
    (l_Web_init : K.lookup a_Web_init = some ⟨oc_Web_init, od_Web_init, .func (PySem.W.fnOf "__init__" "Web.__init__" (defArgs s_Web_init) (defBody s_Web_init) (defScope s_Web_init) .none kV_Web_init dc_Web_init pm_Web_init an_Web_init cd_Web_init ct_Web_init), sl_Web_init⟩)
    (c_Web_init : PySem.W.codeIn K cd_Web_init "Web.__init__" = true)
    (k_Web_init : PySem.W.keepIn K (.ref a_Web_init) = true)
    (f_Web_many : PySem.W.findIn K (.ref c_Web) "many" = some (some (.ref a_Web_many)))
    (i_Web_many : PySem.W.isFn K (.ref a_Web_many) = true)
    (l_Web_many : K.lookup a_Web_many = some ⟨oc_Web_many, od_Web_many, .func (PySem.W.fnOf "many" "Web.many" (defArgs s_Web_many) (defBody s_Web_many) (defScope s_Web_many) .none kV_Web_many dc_Web_many pm_Web_many an_Web_many cd_Web_many ct_Web_many), sl_Web_many⟩)
    (c_Web_many : PySem.W.codeIn K cd_Web_many "Web.many" = true)
    (k_Web_many : PySem.W.keepIn K (.ref a_Web_many) = true)
    (f_Web_has : PySem.W.findIn K (.ref c_Web) "has" = some (some (.ref a_Web_has)))
    (i_Web_has : PySem.W.isFn K (.ref a_Web_has) = true)
    (l_Web_has : K.lookup a_Web_has = some ⟨oc_Web_has, od_Web_has, .func (PySem.W.fnOf "has" "Web.has" (defArgs s_Web_has) (defBody s_Web_has) (defScope s_Web_has) .none kV_Web_has dc_Web_has pm_Web_has an_Web_has cd_Web_has ct_Web_has), sl_Web_has⟩)
    (c_Web_has : PySem.W.codeIn K cd_Web_has "Web.has" = true)
    (k_Web_has : PySem.W.keepIn K (.ref a_Web_has) = true)
    (f_Web_put : PySem.W.findIn K (.ref c_Web) "put" = some (some (.ref a_Web_put)))
    (i_Web_put : PySem.W.isFn K (.ref a_Web_put) = true)
    (l_Web_put : K.lookup a_Web_put = some ⟨oc_Web_put, od_Web_put, .func (PySem.W.fnOf "put" "Web.put" (defArgs s_Web_put) (defBody s_Web_put) (defScope s_Web_put) .none kV_Web_put dc_Web_put pm_Web_put an_Web_put cd_Web_put ct_Web_put), sl_Web_put⟩)
    (c_Web_put : PySem.W.codeIn K cd_Web_put "Web.put" = true)
    (k_Web_put : PySem.W.keepIn K (.ref a_Web_put) = true)
    (f_Web_ties : PySem.W.findIn K (.ref c_Web) "ties" = some (some (.ref a_Web_ties)))
    (i_Web_ties : PySem.W.isFn K (.ref a_Web_ties) = true)
    (l_Web_ties : K.lookup a_Web_ties = some ⟨oc_Web_ties, od_Web_ties, .func (PySem.W.fnOf "ties" "Web.ties" (defArgs s_Web_ties) (defBody s_Web_ties) (defScope s_Web_ties) .none kV_Web_ties dc_Web_ties pm_Web_ties an_Web_ties cd_Web_ties ct_Web_ties), sl_Web_ties⟩)
    (c_Web_ties : PySem.W.codeIn K cd_Web_ties "Web.ties" = true)
    (k_Web_ties : PySem.W.keepIn K (.ref a_Web_ties) = true)
    (f_Web_need_point : PySem.W.findIn K (.ref c_Web) "_need_point" = some (some (.ref a_Web_need_point)))
    (i_Web_need_point : PySem.W.isFn K (.ref a_Web_need_point) = true)
    (l_Web_need_point : K.lookup a_Web_need_point = some ⟨oc_Web_need_point, od_Web_need_point, .func (PySem.W.fnOf "_need_point" "Web._need_point" (defArgs s_Web_need_point) (defBody s_Web_need_point) (defScope s_Web_need_point) .none kV_Web_need_point dc_Web_need_point pm_Web_need_point an_Web_need_point cd_Web_need_point ct_Web_need_point), sl_Web_need_point⟩)
    (c_Web_need_point : PySem.W.codeIn K cd_Web_need_point "Web._need_point" = true)
    (k_Web_need_point : PySem.W.keepIn K (.ref a_Web_need_point) = true)
    (f_Point_init : PySem.W.findIn K (.ref c_Point) "__init__" = some (some (.ref a_Point_init)))
    (i_Point_init : PySem.W.isFn K (.ref a_Point_init) = true)
    (l_Point_init : K.lookup a_Point_init = some ⟨oc_Point_init, od_Point_init, .func (PySem.W.fnOf "__init__" "Point.__init__" (defArgs s_Point_init) (defBody s_Point_init) (defScope s_Point_init) .none kV_Point_init dc_Point_init pm_Point_init an_Point_init cd_Point_init ct_Point_init), sl_Point_init⟩)
    (c_Point_init : PySem.W.codeIn K cd_Point_init "Point.__init__" = true)
    (k_Point_init : PySem.W.keepIn K (.ref a_Point_init) = true)
    (f_Point_told : PySem.W.findIn K (.ref c_Point) "told" = some (some (.ref a_Point_told)))
    (i_Point_told : PySem.W.isFn K (.ref a_Point_told) = true)
    (l_Point_told : K.lookup a_Point_told = some ⟨oc_Point_told, od_Point_told, .func (PySem.W.fnOf "told" "Point.told" (defArgs s_Point_told) (defBody s_Point_told) (defScope s_Point_told) .none kV_Point_told dc_Point_told pm_Point_told an_Point_told cd_Point_told ct_Point_told), sl_Point_told⟩)
    (c_Point_told : PySem.W.codeIn K cd_Point_told "Point.told" = true)
    (k_Point_told : PySem.W.keepIn K (.ref a_Point_told) = true)
    (f_Point_points : PySem.W.findIn K (.ref c_Point) "points" = some (some (.ref a_Point_points)))
    (i_Point_points : PySem.W.isFn K (.ref a_Point_points) = true)
    (l_Point_points : K.lookup a_Point_points = some ⟨oc_Point_points, od_Point_points, .func (PySem.W.fnOf "points" "Point.points" (defArgs s_Point_points) (defBody s_Point_points) (defScope s_Point_points) .none kV_Point_points dc_Point_points pm_Point_points an_Point_points cd_Point_points ct_Point_points), sl_Point_points⟩)
    (c_Point_points : PySem.W.codeIn K cd_Point_points "Point.points" = true)
    (k_Point_points : PySem.W.keepIn K (.ref a_Point_points) = true)
    (f_Point_tied : PySem.W.findIn K (.ref c_Point) "tied" = some (some (.ref a_Point_tied)))
    (i_Point_tied : PySem.W.isFn K (.ref a_Point_tied) = true)
    (l_Point_tied : K.lookup a_Point_tied = some ⟨oc_Point_tied, od_Point_tied, .func (PySem.W.fnOf "tied" "Point.tied" (defArgs s_Point_tied) (defBody s_Point_tied) (defScope s_Point_tied) .none kV_Point_tied dc_Point_tied pm_Point_tied an_Point_tied cd_Point_tied ct_Point_tied), sl_Point_tied⟩)
    (c_Point_tied : PySem.W.codeIn K cd_Point_tied "Point.tied" = true)
    (k_Point_tied : PySem.W.keepIn K (.ref a_Point_tied) = true)
    (f_Point_turned : PySem.W.findIn K (.ref c_Point) "turned" = some (some (.ref a_Point_turned)))
    (i_Point_turned : PySem.W.isFn K (.ref a_Point_turned) = true)
    (l_Point_turned : K.lookup a_Point_turned = some ⟨oc_Point_turned, od_Point_turned, .func (PySem.W.fnOf "turned" "Point.turned" (defArgs s_Point_turned) (defBody s_Point_turned) (defScope s_Point_turned) .none kV_Point_turned dc_Point_turned pm_Point_turned an_Point_turned cd_Point_turned ct_Point_turned), sl_Point_turned⟩)
    (c_Point_turned : PySem.W.codeIn K cd_Point_turned "Point.turned" = true)
    (k_Point_turned : PySem.W.keepIn K (.ref a_Point_turned) = true)
    (f_Side_init : PySem.W.findIn K (.ref c_Side) "__init__" = some (some (.ref a_Side_init)))
    (i_Side_init : PySem.W.isFn K (.ref a_Side_init) = true)
    (l_Side_init : K.lookup a_Side_init = some ⟨oc_Side_init, od_Side_init, .func (PySem.W.fnOf "__init__" "Side.__init__" (defArgs s_Side_init) (defBody s_Side_init) (defScope s_Side_init) .none kV_Side_init dc_Side_init pm_Side_init an_Side_init cd_Side_init ct_Side_init), sl_Side_init⟩)
    (c_Side_init : PySem.W.codeIn K cd_Side_init "Side.__init__" = true)
    (k_Side_init : PySem.W.keepIn K (.ref a_Side_init) = true)
    (f_Side_told : PySem.W.findIn K (.ref c_Side) "told" = some (some (.ref a_Side_told)))
    (i_Side_told : PySem.W.isFn K (.ref a_Side_told) = true)
    (l_Side_told : K.lookup a_Side_told = some ⟨oc_Side_told, od_Side_told, .func (PySem.W.fnOf "told" "Side.told" (defArgs s_Side_told) (defBody s_Side_told) (defScope s_Side_told) .none kV_Side_told dc_Side_told pm_Side_told an_Side_told cd_Side_told ct_Side_told), sl_Side_told⟩)
    (c_Side_told : PySem.W.codeIn K cd_Side_told "Side.told" = true)
    (k_Side_told : PySem.W.keepIn K (.ref a_Side_told) = true)
    (f_Side_points : PySem.W.findIn K (.ref c_Side) "points" = some (some (.ref a_Side_points)))
    (i_Side_points : PySem.W.isFn K (.ref a_Side_points) = true)
    (l_Side_points : K.lookup a_Side_points = some ⟨oc_Side_points, od_Side_points, .func (PySem.W.fnOf "points" "Side.points" (defArgs s_Side_points) (defBody s_Side_points) (defScope s_Side_points) .none kV_Side_points dc_Side_points pm_Side_points an_Side_points cd_Side_points ct_Side_points), sl_Side_points⟩)
    (c_Side_points : PySem.W.codeIn K cd_Side_points "Side.points" = true)
    (k_Side_points : PySem.W.keepIn K (.ref a_Side_points) = true)
    (f_Side_tied : PySem.W.findIn K (.ref c_Side) "tied" = some (some (.ref a_Side_tied)))
    (i_Side_tied : PySem.W.isFn K (.ref a_Side_tied) = true)
    (l_Side_tied : K.lookup a_Side_tied = some ⟨oc_Side_tied, od_Side_tied, .func (PySem.W.fnOf "tied" "Side.tied" (defArgs s_Side_tied) (defBody s_Side_tied) (defScope s_Side_tied) .none kV_Side_tied dc_Side_tied pm_Side_tied an_Side_tied cd_Side_tied ct_Side_tied), sl_Side_tied⟩)
    (c_Side_tied : PySem.W.codeIn K cd_Side_tied "Side.tied" = true)
    (k_Side_tied : PySem.W.keepIn K (.ref a_Side_tied) = true)
    (f_Side_turned : PySem.W.findIn K (.ref c_Side) "turned" = some (some (.ref a_Side_turned)))
    (i_Side_turned : PySem.W.isFn K (.ref a_Side_turned) = true)
    (l_Side_turned : K.lookup a_Side_turned = some ⟨oc_Side_turned, od_Side_turned, .func (PySem.W.fnOf "turned" "Side.turned" (defArgs s_Side_turned) (defBody s_Side_turned) (defScope s_Side_turned) .none kV_Side_turned dc_Side_turned pm_Side_turned an_Side_turned cd_Side_turned ct_Side_turned), sl_Side_turned⟩)
    (c_Side_turned : PySem.W.codeIn K cd_Side_turned "Side.turned" = true)
    (k_Side_turned : PySem.W.keepIn K (.ref a_Side_turned) = true)
    (f_Join_init : PySem.W.findIn K (.ref c_Join) "__init__" = some (some (.ref a_Join_init)))
    (i_Join_init : PySem.W.isFn K (.ref a_Join_init) = true)
    (l_Join_init : K.lookup a_Join_init = some ⟨oc_Join_init, od_Join_init, .func (PySem.W.fnOf "__init__" "Join.__init__" (defArgs s_Join_init) (defBody s_Join_init) (defScope s_Join_init) .none kV_Join_init dc_Join_init pm_Join_init an_Join_init cd_Join_init ct_Join_init), sl_Join_init⟩)
    (c_Join_init : PySem.W.codeIn K cd_Join_init "Join.__init__" = true)
    (k_Join_init : PySem.W.keepIn K (.ref a_Join_init) = true)
    (f_Join_told : PySem.W.findIn K (.ref c_Join) "told" = some (some (.ref a_Join_told)))
    (i_Join_told : PySem.W.isFn K (.ref a_Join_told) = true)
    (l_Join_told : K.lookup a_Join_told = some ⟨oc_Join_told, od_Join_told, .func (PySem.W.fnOf "told" "Join.told" (defArgs s_Join_told) (defBody s_Join_told) (defScope s_Join_told) .none kV_Join_told dc_Join_told pm_Join_told an_Join_told cd_Join_told ct_Join_told), sl_Join_told⟩)
    (c_Join_told : PySem.W.codeIn K cd_Join_told "Join.told" = true)
    (k_Join_told : PySem.W.keepIn K (.ref a_Join_told) = true)
    (f_Join_points : PySem.W.findIn K (.ref c_Join) "points" = some (some (.ref a_Join_points)))
    (i_Join_points : PySem.W.isFn K (.ref a_Join_points) = true)
    (l_Join_points : K.lookup a_Join_points = some ⟨oc_Join_points, od_Join_points, .func (PySem.W.fnOf "points" "Join.points" (defArgs s_Join_points) (defBody s_Join_points) (defScope s_Join_points) .none kV_Join_points dc_Join_points pm_Join_points an_Join_points cd_Join_points ct_Join_points), sl_Join_points⟩)
    (c_Join_points : PySem.W.codeIn K cd_Join_points "Join.points" = true)
    (k_Join_points : PySem.W.keepIn K (.ref a_Join_points) = true)
    (f_Join_tied : PySem.W.findIn K (.ref c_Join) "tied" = some (some (.ref a_Join_tied)))
    (i_Join_tied : PySem.W.isFn K (.ref a_Join_tied) = true)
    (l_Join_tied : K.lookup a_Join_tied = some ⟨oc_Join_tied, od_Join_tied, .func (PySem.W.fnOf "tied" "Join.tied" (defArgs s_Join_tied) (defBody s_Join_tied) (defScope s_Join_tied) .none kV_Join_tied dc_Join_tied pm_Join_tied an_Join_tied cd_Join_tied ct_Join_tied), sl_Join_tied⟩)
    (c_Join_tied : PySem.W.codeIn K cd_Join_tied "Join.tied" = true)
    (k_Join_tied : PySem.W.keepIn K (.ref a_Join_tied) = true)
    (f_Join_turned : PySem.W.findIn K (.ref c_Join) "turned" = some (some (.ref a_Join_turned)))
    (i_Join_turned : PySem.W.isFn K (.ref a_Join_turned) = true)
    (l_Join_turned : K.lookup a_Join_turned = some ⟨oc_Join_turned, od_Join_turned, .func (PySem.W.fnOf "turned" "Join.turned" (defArgs s_Join_turned) (defBody s_Join_turned) (defScope s_Join_turned) .none kV_Join_turned dc_Join_turned pm_Join_turned an_Join_turned cd_Join_turned ct_Join_turned), sl_Join_turned⟩)
    (c_Join_turned : PySem.W.codeIn K cd_Join_turned "Join.turned" = true)
    (k_Join_turned : PySem.W.keepIn K (.ref a_Join_turned) = true)
    (f_points_of : PySem.W.nsIn K mainGlobals "_points_of" = some (some (.ref a_points_of)))
    (l_points_of : K.lookup a_points_of = some ⟨oc_points_of, od_points_of, .func (PySem.W.fnOf "_points_of" "_points_of" (defArgs s_points_of) (defBody s_points_of) (defScope s_points_of) .none kV_points_of dc_points_of pm_points_of an_points_of cd_points_of ct_points_of), sl_points_of⟩)
    (c_points_of : PySem.W.codeIn K cd_points_of "_points_of" = true)
    (k_points_of : PySem.W.keepIn K (.ref a_points_of) = true)
    (f_told_of : PySem.W.nsIn K mainGlobals "_told_of" = some (some (.ref a_told_of)))
    (l_told_of : K.lookup a_told_of = some ⟨oc_told_of, od_told_of, .func (PySem.W.fnOf "_told_of" "_told_of" (defArgs s_told_of) (defBody s_told_of) (defScope s_told_of) .none kV_told_of dc_told_of pm_told_of an_told_of cd_told_of ct_told_of), sl_told_of⟩)
    (c_told_of : PySem.W.codeIn K cd_told_of "_told_of" = true)
    (k_told_of : PySem.W.keepIn K (.ref a_told_of) = true)
    (f_turned_of : PySem.W.nsIn K mainGlobals "_turned_of" = some (some (.ref a_turned_of)))
    (l_turned_of : K.lookup a_turned_of = some ⟨oc_turned_of, od_turned_of, .func (PySem.W.fnOf "_turned_of" "_turned_of" (defArgs s_turned_of) (defBody s_turned_of) (defScope s_turned_of) .none kV_turned_of dc_turned_of pm_turned_of an_turned_of cd_turned_of ct_turned_of), sl_turned_of⟩)
    (c_turned_of : PySem.W.codeIn K cd_turned_of "_turned_of" = true)
    (k_turned_of : PySem.W.keepIn K (.ref a_turned_of) = true)
    (f_tied_among : PySem.W.nsIn K mainGlobals "_tied_among" = some (some (.ref a_tied_among)))
    (l_tied_among : K.lookup a_tied_among = some ⟨oc_tied_among, od_tied_among, .func (PySem.W.fnOf "_tied_among" "_tied_among" (defArgs s_tied_among) (defBody s_tied_among) (defScope s_tied_among) .none kV_tied_among dc_tied_among pm_tied_among an_tied_among cd_tied_among ct_tied_among), sl_tied_among⟩)
    (c_tied_among : PySem.W.codeIn K cd_tied_among "_tied_among" = true)
    (k_tied_among : PySem.W.keepIn K (.ref a_tied_among) = true)
    (f_tree_by : PySem.W.nsIn K mainGlobals "tree_by" = some (some (.ref a_tree_by)))
    (l_tree_by : K.lookup a_tree_by = some ⟨oc_tree_by, od_tree_by, .func (PySem.W.fnOf "tree_by" "tree_by" (defArgs s_tree_by) (defBody s_tree_by) (defScope s_tree_by) .none kV_tree_by dc_tree_by pm_tree_by an_tree_by cd_tree_by ct_tree_by), sl_tree_by⟩)
    (c_tree_by : PySem.W.codeIn K cd_tree_by "tree_by" = true)
    (k_tree_by : PySem.W.keepIn K (.ref a_tree_by) = true)
    (f_tree_under : PySem.W.nsIn K mainGlobals "_tree_under" = some (some (.ref a_tree_under)))
    (l_tree_under : K.lookup a_tree_under = some ⟨oc_tree_under, od_tree_under, .func (PySem.W.fnOf "_tree_under" "_tree_under" (defArgs s_tree_under) (defBody s_tree_under) (defScope s_tree_under) .none kV_tree_under dc_tree_under pm_tree_under an_tree_under cd_tree_under ct_tree_under), sl_tree_under⟩)
    (c_tree_under : PySem.W.codeIn K cd_tree_under "_tree_under" = true)
    (k_tree_under : PySem.W.keepIn K (.ref a_tree_under) = true)
    (f_opened : PySem.W.nsIn K mainGlobals "_opened" = some (some (.ref a_opened)))
    (l_opened : K.lookup a_opened = some ⟨oc_opened, od_opened, .func (PySem.W.fnOf "_opened" "_opened" (defArgs s_opened) (defBody s_opened) (defScope s_opened) .none kV_opened dc_opened pm_opened an_opened cd_opened ct_opened), sl_opened⟩)
    (c_opened : PySem.W.codeIn K cd_opened "_opened" = true)
    (k_opened : PySem.W.keepIn K (.ref a_opened) = true)
    (f_web_of : PySem.W.nsIn K mainGlobals "web_of" = some (some (.ref a_web_of)))
    (l_web_of : K.lookup a_web_of = some ⟨oc_web_of, od_web_of, .func (PySem.W.fnOf "web_of" "web_of" (defArgs s_web_of) (defBody s_web_of) (defScope s_web_of) .none kV_web_of dc_web_of pm_web_of an_web_of cd_web_of ct_web_of), sl_web_of⟩)
    (c_web_of : PySem.W.codeIn K cd_web_of "web_of" = true)
    (k_web_of : PySem.W.keepIn K (.ref a_web_of) = true)
    (f_l_mixed : PySem.W.nsIn K mainGlobals "_law_mixed" = some (some (.ref a_l_mixed)))
    (l_l_mixed : K.lookup a_l_mixed = some ⟨oc_l_mixed, od_l_mixed, .func (PySem.W.fnOf "_law_mixed" "_law_mixed" (defArgs s_l_mixed) (defBody s_l_mixed) (defScope s_l_mixed) .none kV_l_mixed dc_l_mixed pm_l_mixed an_l_mixed cd_l_mixed ct_l_mixed), sl_l_mixed⟩)
    (c_l_mixed : PySem.W.codeIn K cd_l_mixed "_law_mixed" = true)
    (k_l_mixed : PySem.W.keepIn K (.ref a_l_mixed) = true)
    (f_l_number : PySem.W.nsIn K mainGlobals "_law_number" = some (some (.ref a_l_number)))
    (l_l_number : K.lookup a_l_number = some ⟨oc_l_number, od_l_number, .func (PySem.W.fnOf "_law_number" "_law_number" (defArgs s_l_number) (defBody s_l_number) (defScope s_l_number) .none kV_l_number dc_l_number pm_l_number an_l_number cd_l_number ct_l_number), sl_l_number⟩)
    (c_l_number : PySem.W.codeIn K cd_l_number "_law_number" = true)
    (k_l_number : PySem.W.keepIn K (.ref a_l_number) = true)
    (f_l_kind : PySem.W.nsIn K mainGlobals "_law_kind" = some (some (.ref a_l_kind)))
    (l_l_kind : K.lookup a_l_kind = some ⟨oc_l_kind, od_l_kind, .func (PySem.W.fnOf "_law_kind" "_law_kind" (defArgs s_l_kind) (defBody s_l_kind) (defScope s_l_kind) .none kV_l_kind dc_l_kind pm_l_kind an_l_kind cd_l_kind ct_l_kind), sl_l_kind⟩)
    (c_l_kind : PySem.W.codeIn K cd_l_kind "_law_kind" = true)
    (k_l_kind : PySem.W.keepIn K (.ref a_l_kind) = true)
    (f_l_order : PySem.W.nsIn K mainGlobals "_law_order" = some (some (.ref a_l_order)))
    (l_l_order : K.lookup a_l_order = some ⟨oc_l_order, od_l_order, .func (PySem.W.fnOf "_law_order" "_law_order" (defArgs s_l_order) (defBody s_l_order) (defScope s_l_order) .none kV_l_order dc_l_order pm_l_order an_l_order cd_l_order ct_l_order), sl_l_order⟩)
    (c_l_order : PySem.W.codeIn K cd_l_order "_law_order" = true)
    (k_l_order : PySem.W.keepIn K (.ref a_l_order) = true)
    (f_l_least : PySem.W.nsIn K mainGlobals "_law_least" = some (some (.ref a_l_least)))
    (l_l_least : K.lookup a_l_least = some ⟨oc_l_least, od_l_least, .func (PySem.W.fnOf "_law_least" "_law_least" (defArgs s_l_least) (defBody s_l_least) (defScope s_l_least) .none kV_l_least dc_l_least pm_l_least an_l_least cd_l_least ct_l_least), sl_l_least⟩)
    (c_l_least : PySem.W.codeIn K cd_l_least "_law_least" = true)
    (k_l_least : PySem.W.keepIn K (.ref a_l_least) = true)
    (f_l_told : PySem.W.nsIn K mainGlobals "_law_told" = some (some (.ref a_l_told)))
    (l_l_told : K.lookup a_l_told = some ⟨oc_l_told, od_l_told, .func (PySem.W.fnOf "_law_told" "_law_told" (defArgs s_l_told) (defBody s_l_told) (defScope s_l_told) .none kV_l_told dc_l_told pm_l_told an_l_told cd_l_told ct_l_told), sl_l_told⟩)
    (c_l_told : PySem.W.codeIn K cd_l_told "_law_told" = true)
    (k_l_told : PySem.W.keepIn K (.ref a_l_told) = true)
    (f_l_tree : PySem.W.nsIn K mainGlobals "_law_tree" = some (some (.ref a_l_tree)))
    (l_l_tree : K.lookup a_l_tree = some ⟨oc_l_tree, od_l_tree, .func (PySem.W.fnOf "_law_tree" "_law_tree" (defArgs s_l_tree) (defBody s_l_tree) (defScope s_l_tree) .none kV_l_tree dc_l_tree pm_l_tree an_l_tree cd_l_tree ct_l_tree), sl_l_tree⟩)
    (c_l_tree : PySem.W.codeIn K cd_l_tree "_law_tree" = true)
    (k_l_tree : PySem.W.keepIn K (.ref a_l_tree) = true)
    (f_l_points : PySem.W.nsIn K mainGlobals "_law_points" = some (some (.ref a_l_points)))
    (l_l_points : K.lookup a_l_points = some ⟨oc_l_points, od_l_points, .func (PySem.W.fnOf "_law_points" "_law_points" (defArgs s_l_points) (defBody s_l_points) (defScope s_l_points) .none kV_l_points dc_l_points pm_l_points an_l_points cd_l_points ct_l_points), sl_l_points⟩)
    (c_l_points : PySem.W.codeIn K cd_l_points "_law_points" = true)
    (k_l_points : PySem.W.keepIn K (.ref a_l_points) = true)
    (f_l_ties : PySem.W.nsIn K mainGlobals "_law_ties" = some (some (.ref a_l_ties)))
    (l_l_ties : K.lookup a_l_ties = some ⟨oc_l_ties, od_l_ties, .func (PySem.W.fnOf "_law_ties" "_law_ties" (defArgs s_l_ties) (defBody s_l_ties) (defScope s_l_ties) .none kV_l_ties dc_l_ties pm_l_ties an_l_ties cd_l_ties ct_l_ties), sl_l_ties⟩)
    (c_l_ties : PySem.W.codeIn K cd_l_ties "_law_ties" = true)
    (k_l_ties : PySem.W.keepIn K (.ref a_l_ties) = true)
    (f_l_turned : PySem.W.nsIn K mainGlobals "_law_turned" = some (some (.ref a_l_turned)))
    (l_l_turned : K.lookup a_l_turned = some ⟨oc_l_turned, od_l_turned, .func (PySem.W.fnOf "_law_turned" "_law_turned" (defArgs s_l_turned) (defBody s_l_turned) (defScope s_l_turned) .none kV_l_turned dc_l_turned pm_l_turned an_l_turned cd_l_turned ct_l_turned), sl_l_turned⟩)
    (c_l_turned : PySem.W.codeIn K cd_l_turned "_law_turned" = true)
    (k_l_turned : PySem.W.keepIn K (.ref a_l_turned) = true)
    (f_l_is : PySem.W.nsIn K mainGlobals "_law_is" = some (some (.ref a_l_is)))
    (l_l_is : K.lookup a_l_is = some ⟨oc_l_is, od_l_is, .func (PySem.W.fnOf "_law_is" "_law_is" (defArgs s_l_is) (defBody s_l_is) (defScope s_l_is) .none kV_l_is dc_l_is pm_l_is an_l_is cd_l_is ct_l_is), sl_l_is⟩)
    (c_l_is : PySem.W.codeIn K cd_l_is "_law_is" = true)
    (k_l_is : PySem.W.keepIn K (.ref a_l_is) = true)
    (f_l_made : PySem.W.nsIn K mainGlobals "_law_made" = some (some (.ref a_l_made)))
    (l_l_made : K.lookup a_l_made = some ⟨oc_l_made, od_l_made, .func (PySem.W.fnOf "_law_made" "_law_made" (defArgs s_l_made) (defBody s_l_made) (defScope s_l_made) .none kV_l_made dc_l_made pm_l_made an_l_made cd_l_made ct_l_made), sl_l_made⟩)
    (c_l_made : PySem.W.codeIn K cd_l_made "_law_made" = true)
    (k_l_made : PySem.W.keepIn K (.ref a_l_made) = true)
    (f_l_ties_right : PySem.W.nsIn K mainGlobals "_law_ties_right" = some (some (.ref a_l_ties_right)))
    (l_l_ties_right : K.lookup a_l_ties_right = some ⟨oc_l_ties_right, od_l_ties_right, .func (PySem.W.fnOf "_law_ties_right" "_law_ties_right" (defArgs s_l_ties_right) (defBody s_l_ties_right) (defScope s_l_ties_right) .none kV_l_ties_right dc_l_ties_right pm_l_ties_right an_l_ties_right cd_l_ties_right ct_l_ties_right), sl_l_ties_right⟩)
    (c_l_ties_right : PySem.W.codeIn K cd_l_ties_right "_law_ties_right" = true)
    (k_l_ties_right : PySem.W.keepIn K (.ref a_l_ties_right) = true)
    (f_l_web_said : PySem.W.nsIn K mainGlobals "_law_web_said" = some (some (.ref a_l_web_said)))
    (l_l_web_said : K.lookup a_l_web_said = some ⟨oc_l_web_said, od_l_web_said, .func (PySem.W.fnOf "_law_web_said" "_law_web_said" (defArgs s_l_web_said) (defBody s_l_web_said) (defScope s_l_web_said) .none kV_l_web_said dc_l_web_said pm_l_web_said an_l_web_said cd_l_web_said ct_l_web_said), sl_l_web_said⟩)
    (c_l_web_said : PySem.W.codeIn K cd_l_web_said "_law_web_said" = true)
    (k_l_web_said : PySem.W.keepIn K (.ref a_l_web_said) = true)
    (f_law : PySem.W.nsIn K mainGlobals "law" = some (some (.ref a_law)))
    (l_law : K.lookup a_law = some ⟨oc_law, od_law, .func (PySem.W.fnOf "law" "law" (defArgs s_law) (defBody s_law) (defScope s_law) .none kV_law dc_law pm_law an_law cd_law ct_law), sl_law⟩)
    (c_law : PySem.W.codeIn K cd_law "law" = true)
    (k_law : PySem.W.keepIn K (.ref a_law) = true)
    (pg_Web : PySem.W.plainGet K c_Web Str.empty = true)
    (hd_Web : PySem.W.hasDictIn K c_Web = true)
    (po_Web : PySem.W.plainOver K c_Web = true)
    (sa_Web : PySem.W.findIn K (.ref c_Web) "__setattr__" = some (some (.builtin "object.__setattr__")))
    (mm_Web : PySem.W.makesIn K c_Web = true)
    (kc_Web : PySem.W.keepIn K (.ref c_Web) = true)
    (n_Web__near : PySem.W.findIn K (.ref c_Web) "_near" = some none)
    (pg_Point : PySem.W.plainGet K c_Point Str.empty = true)
    (hd_Point : PySem.W.hasDictIn K c_Point = true)
    (po_Point : PySem.W.plainOver K c_Point = true)
    (sa_Point : PySem.W.findIn K (.ref c_Point) "__setattr__" = some (some (.builtin "object.__setattr__")))
    (mm_Point : PySem.W.makesIn K c_Point = true)
    (kc_Point : PySem.W.keepIn K (.ref c_Point) = true)
    (n_Point__number : PySem.W.findIn K (.ref c_Point) "_number" = some none)
    (pg_Side : PySem.W.plainGet K c_Side Str.empty = true)
    (hd_Side : PySem.W.hasDictIn K c_Side = true)
    (po_Side : PySem.W.plainOver K c_Side = true)
    (sa_Side : PySem.W.findIn K (.ref c_Side) "__setattr__" = some (some (.builtin "object.__setattr__")))
    (mm_Side : PySem.W.makesIn K c_Side = true)
    (kc_Side : PySem.W.keepIn K (.ref c_Side) = true)
    (n_Side__parts : PySem.W.findIn K (.ref c_Side) "_parts" = some none)
    (n_Side__points : PySem.W.findIn K (.ref c_Side) "_points" = some none)
    (pg_Join : PySem.W.plainGet K c_Join Str.empty = true)
    (hd_Join : PySem.W.hasDictIn K c_Join = true)
    (po_Join : PySem.W.plainOver K c_Join = true)
    (sa_Join : PySem.W.findIn K (.ref c_Join) "__setattr__" = some (some (.builtin "object.__setattr__")))
    (mm_Join : PySem.W.makesIn K c_Join = true)
    (kc_Join : PySem.W.keepIn K (.ref c_Join) = true)
    (n_Join__parts : PySem.W.findIn K (.ref c_Join) "_parts" = some none)
    (n_Join__points : PySem.W.findIn K (.ref c_Join) "_points" = some none)
    (xBadSize : PySem.W.excIn K c_BadSize [.type "ValueError", .type "Exception", .type "BaseException", .type "object"] "ValueError.__new__" = true)
    (kBadSize : PySem.W.keepIn K (.ref c_BadSize) = true)
    (bBadSize : PySem.W.subIn K (.ref c_BadSize) (.type "BaseException") = some true)
    (tBadSize : PySem.W.typeIn K (.ref c_BadSize) = some (.type "type"))
    (xBadPoint : PySem.W.excIn K c_BadPoint [.type "ValueError", .type "Exception", .type "BaseException", .type "object"] "ValueError.__new__" = true)
    (kBadPoint : PySem.W.keepIn K (.ref c_BadPoint) = true)
    (bBadPoint : PySem.W.subIn K (.ref c_BadPoint) (.type "BaseException") = some true)
    (tBadPoint : PySem.W.typeIn K (.ref c_BadPoint) = some (.type "type"))
    (xTwice : PySem.W.excIn K c_Twice [.type "ValueError", .type "Exception", .type "BaseException", .type "object"] "ValueError.__new__" = true)
    (kTwice : PySem.W.keepIn K (.ref c_Twice) = true)
    (bTwice : PySem.W.subIn K (.ref c_Twice) (.type "BaseException") = some true)
    (tTwice : PySem.W.typeIn K (.ref c_Twice) = some (.type "type"))
    (xBadTree : PySem.W.excIn K c_BadTree [.type "ValueError", .type "Exception", .type "BaseException", .type "object"] "ValueError.__new__" = true)
    (kBadTree : PySem.W.keepIn K (.ref c_BadTree) = true)
    (bBadTree : PySem.W.subIn K (.ref c_BadTree) (.type "BaseException") = some true)
    (tBadTree : PySem.W.typeIn K (.ref c_BadTree) = some (.type "type"))
    (hb_JoinError : PySem.W.subIn K (.ref c_JoinError) (.type "BaseException") = some true)
    (hdd_JoinError : PySem.W.hasDictIn K c_JoinError = true)
    (ht_JoinError : PySem.W.typeIn K (.ref c_JoinError) = some (.type "type"))
    (su_BadSize_JoinError : PySem.W.subIn K (.ref c_BadSize) (.ref c_JoinError) = some true)
    (su_BadPoint_JoinError : PySem.W.subIn K (.ref c_BadPoint) (.ref c_JoinError) = some true)
    (su_Twice_JoinError : PySem.W.subIn K (.ref c_Twice) (.ref c_JoinError) = some true)
    (su_BadTree_JoinError : PySem.W.subIn K (.ref c_BadTree) (.ref c_JoinError) = some true)
    (hn0 : PySem.W.specialIn K (.builtin "object.__class__") "__get__" = some (some (.builtin "getset_descriptor.__get__")))
    (ht0 : PySem.W.takesIn K (.builtin "object.__class__") = some true)
    (sd_BadSize : PySem.W.hasDictIn K c_BadSize = true)
    (st_BadSize : PySem.W.typeIn K (.ref c_BadSize) = some (.type "type"))
    (ss_BadSize : PySem.W.subIn K (.ref c_BadSize) (.ref c_BadSize) = some true)
    (sd_BadPoint : PySem.W.hasDictIn K c_BadPoint = true)
    (st_BadPoint : PySem.W.typeIn K (.ref c_BadPoint) = some (.type "type"))
    (ss_BadPoint : PySem.W.subIn K (.ref c_BadPoint) (.ref c_BadPoint) = some true)
    (sd_Twice : PySem.W.hasDictIn K c_Twice = true)
    (st_Twice : PySem.W.typeIn K (.ref c_Twice) = some (.type "type"))
    (ss_Twice : PySem.W.subIn K (.ref c_Twice) (.ref c_Twice) = some true)
    (sd_NoTie : PySem.W.hasDictIn K c_NoTie = true)
    (st_NoTie : PySem.W.typeIn K (.ref c_NoTie) = some (.type "type"))
    (ss_NoTie : PySem.W.subIn K (.ref c_NoTie) (.ref c_NoTie) = some true)
    (sd_TooMany : PySem.W.hasDictIn K c_TooMany = true)
    (st_TooMany : PySem.W.typeIn K (.ref c_TooMany) = some (.type "type"))
    (ss_TooMany : PySem.W.subIn K (.ref c_TooMany) (.ref c_TooMany) = some true)
    (sd_NoTree : PySem.W.hasDictIn K c_NoTree = true)
    (st_NoTree : PySem.W.typeIn K (.ref c_NoTree) = some (.type "type"))
    (ss_NoTree : PySem.W.subIn K (.ref c_NoTree) (.ref c_NoTree) = some true)
    (sd_BadTree : PySem.W.hasDictIn K c_BadTree = true)
    (st_BadTree : PySem.W.typeIn K (.ref c_BadTree) = some (.type "type"))
    (ss_BadTree : PySem.W.subIn K (.ref c_BadTree) (.ref c_BadTree) = some true)
    (sd_BadText : PySem.W.hasDictIn K c_BadText = true)
    (st_BadText : PySem.W.typeIn K (.ref c_BadText) = some (.type "type"))
    (ss_BadText : PySem.W.subIn K (.ref c_BadText) (.ref c_BadText) = some true)
    (eg_BadSize : PySem.W.findIn K (.ref c_BadSize) "__getattribute__" = some (some (.builtin "BaseException.__getattribute__")))
    (ek_BadSize : PySem.W.findIn K (.ref c_BadSize) "__getattr__" = some none)
    (ed_BadSize : PySem.W.hasDictIn K c_BadSize = true)
    (ea_BadSize : PySem.W.findIn K (.ref c_BadSize) "__class__" = some (some (.builtin "object.__class__")))
    (em_BadSize : PySem.W.mroIn K c_BadSize (.type "object") = some true)
    (is_BadSize_BadSize : PySem.W.subIn K (.ref c_BadSize) (.ref c_BadSize) = some true)
    (is_BadSize_BadPoint : PySem.W.subIn K (.ref c_BadSize) (.ref c_BadPoint) = some false)
    (is_BadSize_Twice : PySem.W.subIn K (.ref c_BadSize) (.ref c_Twice) = some false)
    (is_BadSize_NoTie : PySem.W.subIn K (.ref c_BadSize) (.ref c_NoTie) = some false)
    (is_BadSize_TooMany : PySem.W.subIn K (.ref c_BadSize) (.ref c_TooMany) = some false)
    (is_BadSize_NoTree : PySem.W.subIn K (.ref c_BadSize) (.ref c_NoTree) = some false)
    (is_BadSize_BadTree : PySem.W.subIn K (.ref c_BadSize) (.ref c_BadTree) = some false)
    (is_BadSize_BadText : PySem.W.subIn K (.ref c_BadSize) (.ref c_BadText) = some false)
    (is_BadSize_ValueError : PySem.W.subIn K (.ref c_BadSize) (.type "ValueError") = some true)
    (eg_BadPoint : PySem.W.findIn K (.ref c_BadPoint) "__getattribute__" = some (some (.builtin "BaseException.__getattribute__")))
    (ek_BadPoint : PySem.W.findIn K (.ref c_BadPoint) "__getattr__" = some none)
    (ed_BadPoint : PySem.W.hasDictIn K c_BadPoint = true)
    (ea_BadPoint : PySem.W.findIn K (.ref c_BadPoint) "__class__" = some (some (.builtin "object.__class__")))
    (em_BadPoint : PySem.W.mroIn K c_BadPoint (.type "object") = some true)
    (is_BadPoint_BadSize : PySem.W.subIn K (.ref c_BadPoint) (.ref c_BadSize) = some false)
    (is_BadPoint_BadPoint : PySem.W.subIn K (.ref c_BadPoint) (.ref c_BadPoint) = some true)
    (is_BadPoint_Twice : PySem.W.subIn K (.ref c_BadPoint) (.ref c_Twice) = some false)
    (is_BadPoint_NoTie : PySem.W.subIn K (.ref c_BadPoint) (.ref c_NoTie) = some false)
    (is_BadPoint_TooMany : PySem.W.subIn K (.ref c_BadPoint) (.ref c_TooMany) = some false)
    (is_BadPoint_NoTree : PySem.W.subIn K (.ref c_BadPoint) (.ref c_NoTree) = some false)
    (is_BadPoint_BadTree : PySem.W.subIn K (.ref c_BadPoint) (.ref c_BadTree) = some false)
    (is_BadPoint_BadText : PySem.W.subIn K (.ref c_BadPoint) (.ref c_BadText) = some false)
    (is_BadPoint_ValueError : PySem.W.subIn K (.ref c_BadPoint) (.type "ValueError") = some true)
    (eg_Twice : PySem.W.findIn K (.ref c_Twice) "__getattribute__" = some (some (.builtin "BaseException.__getattribute__")))
    (ek_Twice : PySem.W.findIn K (.ref c_Twice) "__getattr__" = some none)
    (ed_Twice : PySem.W.hasDictIn K c_Twice = true)
    (ea_Twice : PySem.W.findIn K (.ref c_Twice) "__class__" = some (some (.builtin "object.__class__")))
    (em_Twice : PySem.W.mroIn K c_Twice (.type "object") = some true)
    (is_Twice_BadSize : PySem.W.subIn K (.ref c_Twice) (.ref c_BadSize) = some false)
    (is_Twice_BadPoint : PySem.W.subIn K (.ref c_Twice) (.ref c_BadPoint) = some false)
    (is_Twice_Twice : PySem.W.subIn K (.ref c_Twice) (.ref c_Twice) = some true)
    (is_Twice_NoTie : PySem.W.subIn K (.ref c_Twice) (.ref c_NoTie) = some false)
    (is_Twice_TooMany : PySem.W.subIn K (.ref c_Twice) (.ref c_TooMany) = some false)
    (is_Twice_NoTree : PySem.W.subIn K (.ref c_Twice) (.ref c_NoTree) = some false)
    (is_Twice_BadTree : PySem.W.subIn K (.ref c_Twice) (.ref c_BadTree) = some false)
    (is_Twice_BadText : PySem.W.subIn K (.ref c_Twice) (.ref c_BadText) = some false)
    (is_Twice_ValueError : PySem.W.subIn K (.ref c_Twice) (.type "ValueError") = some true)
    (eg_BadTree : PySem.W.findIn K (.ref c_BadTree) "__getattribute__" = some (some (.builtin "BaseException.__getattribute__")))
    (ek_BadTree : PySem.W.findIn K (.ref c_BadTree) "__getattr__" = some none)
    (ed_BadTree : PySem.W.hasDictIn K c_BadTree = true)
    (ea_BadTree : PySem.W.findIn K (.ref c_BadTree) "__class__" = some (some (.builtin "object.__class__")))
    (em_BadTree : PySem.W.mroIn K c_BadTree (.type "object") = some true)
    (is_BadTree_BadSize : PySem.W.subIn K (.ref c_BadTree) (.ref c_BadSize) = some false)
    (is_BadTree_BadPoint : PySem.W.subIn K (.ref c_BadTree) (.ref c_BadPoint) = some false)
    (is_BadTree_Twice : PySem.W.subIn K (.ref c_BadTree) (.ref c_Twice) = some false)
    (is_BadTree_NoTie : PySem.W.subIn K (.ref c_BadTree) (.ref c_NoTie) = some false)
    (is_BadTree_TooMany : PySem.W.subIn K (.ref c_BadTree) (.ref c_TooMany) = some false)
    (is_BadTree_NoTree : PySem.W.subIn K (.ref c_BadTree) (.ref c_NoTree) = some false)
    (is_BadTree_BadTree : PySem.W.subIn K (.ref c_BadTree) (.ref c_BadTree) = some true)
    (is_BadTree_BadText : PySem.W.subIn K (.ref c_BadTree) (.ref c_BadText) = some false)
    (is_BadTree_ValueError : PySem.W.subIn K (.ref c_BadTree) (.type "ValueError") = some true)
    (kd_Point : PySem.W.hasDictIn K c_Point = true)
    (ke_Point : PySem.W.typeIn K (.ref c_Point) = some (.type "type"))
    (kf_Point : PySem.W.subIn K (.ref c_Point) (.ref c_Point) = some true)
    (kg_Point_Point : PySem.W.subIn K (.ref c_Point) (.ref c_Point) = some true)
    (kg_Side_Point : PySem.W.subIn K (.ref c_Side) (.ref c_Point) = some false)
    (kg_Join_Point : PySem.W.subIn K (.ref c_Join) (.ref c_Point) = some false)
    (kd_Side : PySem.W.hasDictIn K c_Side = true)
    (ke_Side : PySem.W.typeIn K (.ref c_Side) = some (.type "type"))
    (kf_Side : PySem.W.subIn K (.ref c_Side) (.ref c_Side) = some true)
    (kg_Point_Side : PySem.W.subIn K (.ref c_Point) (.ref c_Side) = some false)
    (kg_Side_Side : PySem.W.subIn K (.ref c_Side) (.ref c_Side) = some true)
    (kg_Join_Side : PySem.W.subIn K (.ref c_Join) (.ref c_Side) = some false)
    (kd_Join : PySem.W.hasDictIn K c_Join = true)
    (ke_Join : PySem.W.typeIn K (.ref c_Join) = some (.type "type"))
    (kf_Join : PySem.W.subIn K (.ref c_Join) (.ref c_Join) = some true)
    (kg_Point_Join : PySem.W.subIn K (.ref c_Point) (.ref c_Join) = some false)
    (kg_Side_Join : PySem.W.subIn K (.ref c_Side) (.ref c_Join) = some false)
    (kg_Join_Join : PySem.W.subIn K (.ref c_Join) (.ref c_Join) = some true)
    (kd_Tree : PySem.W.hasDictIn K c_Tree = true)
    (ke_Tree : PySem.W.typeIn K (.ref c_Tree) = some (.type "type"))
    (kf_Tree : PySem.W.subIn K (.ref c_Tree) (.ref c_Tree) = some true)
    (kg_Point_Tree : PySem.W.subIn K (.ref c_Point) (.ref c_Tree) = some true)
    (kg_Side_Tree : PySem.W.subIn K (.ref c_Side) (.ref c_Tree) = some true)
    (kg_Join_Tree : PySem.W.subIn K (.ref c_Join) (.ref c_Tree) = some true)
    (ia_Point : PySem.W.findIn K (.ref c_Point) "__class__" = some (some (.builtin "object.__class__")))
    (im_Point : PySem.W.mroIn K c_Point (.type "object") = some true)
    (ia_Side : PySem.W.findIn K (.ref c_Side) "__class__" = some (some (.builtin "object.__class__")))
    (im_Side : PySem.W.mroIn K c_Side (.type "object") = some true)
    (ia_Join : PySem.W.findIn K (.ref c_Join) "__class__" = some (some (.builtin "object.__class__")))
    (im_Join : PySem.W.mroIn K c_Join (.type "object") = some true)
    (z_NotImplementedError : PySem.W.nsIn K mainGlobals "NotImplementedError" = some none)
    (z_ValueError : PySem.W.nsIn K mainGlobals "ValueError" = some none)
    (z_bool : PySem.W.nsIn K mainGlobals "bool" = some none)
    (z_int : PySem.W.nsIn K mainGlobals "int" = some none)
    (z_isinstance : PySem.W.nsIn K mainGlobals "isinstance" = some none)
    (z_len : PySem.W.nsIn K mainGlobals "len" = some none)
    (z_list : PySem.W.nsIn K mainGlobals "list" = some none)
    (z_max : PySem.W.nsIn K mainGlobals "max" = some none)
    (z_min : PySem.W.nsIn K mainGlobals "min" = some none)
    (z_range : PySem.W.nsIn K mainGlobals "range" = some none)
    (z_repr : PySem.W.nsIn K mainGlobals "repr" = some none)
    (z_sorted : PySem.W.nsIn K mainGlobals "sorted" = some none)
    (z_str : PySem.W.nsIn K mainGlobals "str" = some none)
    (z_tuple : PySem.W.nsIn K mainGlobals "tuple" = some none)
    (v_MOST_POINTS : PySem.W.nsIn K mainGlobals "MOST_POINTS" = some (some (.int (30) tk_MOST_POINTS)))
    (v_SIDE : PySem.W.nsIn K mainGlobals "SIDE" = some (some (.str "side" tk_SIDE)))
    (v_JOIN : PySem.W.nsIn K mainGlobals "JOIN" = some (some (.str "join" tk_JOIN))) :
    ∃ fd : FuncData, (∀ (s : Shared) (v : Value), BindsTo s fd ⟨[v], []⟩ [("_law_script", v)]) ∧ ∀ base : Heap, K.In base → base.Ns mainGlobals mg → FnG l.prog w K mg base 70 fa fd ["_law_script"] (spLaw K) := by
  have e := hfa.symm.trans (PySem.W.mg_of X G f_law)
  obtain rfl : a_law = fa := by cases e; rfl
  have T : Txt K mg { a_wall := a_wall, d_wall := PySem.W.fnOf "_wall" "_wall" (defArgs s_wall) (defBody s_wall) (defScope s_wall) .none kV_wall dc_wall pm_wall an_wall cd_wall ct_wall, a_whole_within := a_whole_within, d_whole_within := PySem.W.fnOf "whole_within" "whole_within" (defArgs s_whole_within) (defBody s_whole_within) (defScope s_whole_within) .none kV_whole_within dc_whole_within pm_whole_within an_whole_within cd_whole_within ct_whole_within, a_pairs := a_pairs, d_pairs := PySem.W.fnOf "pairs" "pairs" (defArgs s_pairs) (defBody s_pairs) (defScope s_pairs) .none kV_pairs dc_pairs pm_pairs an_pairs cd_pairs ct_pairs, a_Web_init := a_Web_init, d_Web_init := PySem.W.fnOf "__init__" "Web.__init__" (defArgs s_Web_init) (defBody s_Web_init) (defScope s_Web_init) .none kV_Web_init dc_Web_init pm_Web_init an_Web_init cd_Web_init ct_Web_init, a_Web_many := a_Web_many, d_Web_many := PySem.W.fnOf "many" "Web.many" (defArgs s_Web_many) (defBody s_Web_many) (defScope s_Web_many) .none kV_Web_many dc_Web_many pm_Web_many an_Web_many cd_Web_many ct_Web_many, a_Web_has := a_Web_has, d_Web_has := PySem.W.fnOf "has" "Web.has" (defArgs s_Web_has) (defBody s_Web_has) (defScope s_Web_has) .none kV_Web_has dc_Web_has pm_Web_has an_Web_has cd_Web_has ct_Web_has, a_Web_put := a_Web_put, d_Web_put := PySem.W.fnOf "put" "Web.put" (defArgs s_Web_put) (defBody s_Web_put) (defScope s_Web_put) .none kV_Web_put dc_Web_put pm_Web_put an_Web_put cd_Web_put ct_Web_put, a_Web_ties := a_Web_ties, d_Web_ties := PySem.W.fnOf "ties" "Web.ties" (defArgs s_Web_ties) (defBody s_Web_ties) (defScope s_Web_ties) .none kV_Web_ties dc_Web_ties pm_Web_ties an_Web_ties cd_Web_ties ct_Web_ties, a_Web_need_point := a_Web_need_point, d_Web_need_point := PySem.W.fnOf "_need_point" "Web._need_point" (defArgs s_Web_need_point) (defBody s_Web_need_point) (defScope s_Web_need_point) .none kV_Web_need_point dc_Web_need_point pm_Web_need_point an_Web_need_point cd_Web_need_point ct_Web_need_point, a_Point_init := a_Point_init, d_Point_init := PySem.W.fnOf "__init__" "Point.__init__" (defArgs s_Point_init) (defBody s_Point_init) (defScope s_Point_init) .none kV_Point_init dc_Point_init pm_Point_init an_Point_init cd_Point_init ct_Point_init, a_Point_told := a_Point_told, d_Point_told := PySem.W.fnOf "told" "Point.told" (defArgs s_Point_told) (defBody s_Point_told) (defScope s_Point_told) .none kV_Point_told dc_Point_told pm_Point_told an_Point_told cd_Point_told ct_Point_told, a_Point_points := a_Point_points, d_Point_points := PySem.W.fnOf "points" "Point.points" (defArgs s_Point_points) (defBody s_Point_points) (defScope s_Point_points) .none kV_Point_points dc_Point_points pm_Point_points an_Point_points cd_Point_points ct_Point_points, a_Point_tied := a_Point_tied, d_Point_tied := PySem.W.fnOf "tied" "Point.tied" (defArgs s_Point_tied) (defBody s_Point_tied) (defScope s_Point_tied) .none kV_Point_tied dc_Point_tied pm_Point_tied an_Point_tied cd_Point_tied ct_Point_tied, a_Point_turned := a_Point_turned, d_Point_turned := PySem.W.fnOf "turned" "Point.turned" (defArgs s_Point_turned) (defBody s_Point_turned) (defScope s_Point_turned) .none kV_Point_turned dc_Point_turned pm_Point_turned an_Point_turned cd_Point_turned ct_Point_turned, a_Side_init := a_Side_init, d_Side_init := PySem.W.fnOf "__init__" "Side.__init__" (defArgs s_Side_init) (defBody s_Side_init) (defScope s_Side_init) .none kV_Side_init dc_Side_init pm_Side_init an_Side_init cd_Side_init ct_Side_init, a_Side_told := a_Side_told, d_Side_told := PySem.W.fnOf "told" "Side.told" (defArgs s_Side_told) (defBody s_Side_told) (defScope s_Side_told) .none kV_Side_told dc_Side_told pm_Side_told an_Side_told cd_Side_told ct_Side_told, a_Side_points := a_Side_points, d_Side_points := PySem.W.fnOf "points" "Side.points" (defArgs s_Side_points) (defBody s_Side_points) (defScope s_Side_points) .none kV_Side_points dc_Side_points pm_Side_points an_Side_points cd_Side_points ct_Side_points, a_Side_tied := a_Side_tied, d_Side_tied := PySem.W.fnOf "tied" "Side.tied" (defArgs s_Side_tied) (defBody s_Side_tied) (defScope s_Side_tied) .none kV_Side_tied dc_Side_tied pm_Side_tied an_Side_tied cd_Side_tied ct_Side_tied, a_Side_turned := a_Side_turned, d_Side_turned := PySem.W.fnOf "turned" "Side.turned" (defArgs s_Side_turned) (defBody s_Side_turned) (defScope s_Side_turned) .none kV_Side_turned dc_Side_turned pm_Side_turned an_Side_turned cd_Side_turned ct_Side_turned, a_Join_init := a_Join_init, d_Join_init := PySem.W.fnOf "__init__" "Join.__init__" (defArgs s_Join_init) (defBody s_Join_init) (defScope s_Join_init) .none kV_Join_init dc_Join_init pm_Join_init an_Join_init cd_Join_init ct_Join_init, a_Join_told := a_Join_told, d_Join_told := PySem.W.fnOf "told" "Join.told" (defArgs s_Join_told) (defBody s_Join_told) (defScope s_Join_told) .none kV_Join_told dc_Join_told pm_Join_told an_Join_told cd_Join_told ct_Join_told, a_Join_points := a_Join_points, d_Join_points := PySem.W.fnOf "points" "Join.points" (defArgs s_Join_points) (defBody s_Join_points) (defScope s_Join_points) .none kV_Join_points dc_Join_points pm_Join_points an_Join_points cd_Join_points ct_Join_points, a_Join_tied := a_Join_tied, d_Join_tied := PySem.W.fnOf "tied" "Join.tied" (defArgs s_Join_tied) (defBody s_Join_tied) (defScope s_Join_tied) .none kV_Join_tied dc_Join_tied pm_Join_tied an_Join_tied cd_Join_tied ct_Join_tied, a_Join_turned := a_Join_turned, d_Join_turned := PySem.W.fnOf "turned" "Join.turned" (defArgs s_Join_turned) (defBody s_Join_turned) (defScope s_Join_turned) .none kV_Join_turned dc_Join_turned pm_Join_turned an_Join_turned cd_Join_turned ct_Join_turned, a_points_of := a_points_of, d_points_of := PySem.W.fnOf "_points_of" "_points_of" (defArgs s_points_of) (defBody s_points_of) (defScope s_points_of) .none kV_points_of dc_points_of pm_points_of an_points_of cd_points_of ct_points_of, a_told_of := a_told_of, d_told_of := PySem.W.fnOf "_told_of" "_told_of" (defArgs s_told_of) (defBody s_told_of) (defScope s_told_of) .none kV_told_of dc_told_of pm_told_of an_told_of cd_told_of ct_told_of, a_turned_of := a_turned_of, d_turned_of := PySem.W.fnOf "_turned_of" "_turned_of" (defArgs s_turned_of) (defBody s_turned_of) (defScope s_turned_of) .none kV_turned_of dc_turned_of pm_turned_of an_turned_of cd_turned_of ct_turned_of, a_tied_among := a_tied_among, d_tied_among := PySem.W.fnOf "_tied_among" "_tied_among" (defArgs s_tied_among) (defBody s_tied_among) (defScope s_tied_among) .none kV_tied_among dc_tied_among pm_tied_among an_tied_among cd_tied_among ct_tied_among, a_tree_by := a_tree_by, d_tree_by := PySem.W.fnOf "tree_by" "tree_by" (defArgs s_tree_by) (defBody s_tree_by) (defScope s_tree_by) .none kV_tree_by dc_tree_by pm_tree_by an_tree_by cd_tree_by ct_tree_by, a_tree_under := a_tree_under, d_tree_under := PySem.W.fnOf "_tree_under" "_tree_under" (defArgs s_tree_under) (defBody s_tree_under) (defScope s_tree_under) .none kV_tree_under dc_tree_under pm_tree_under an_tree_under cd_tree_under ct_tree_under, a_opened := a_opened, d_opened := PySem.W.fnOf "_opened" "_opened" (defArgs s_opened) (defBody s_opened) (defScope s_opened) .none kV_opened dc_opened pm_opened an_opened cd_opened ct_opened, a_web_of := a_web_of, d_web_of := PySem.W.fnOf "web_of" "web_of" (defArgs s_web_of) (defBody s_web_of) (defScope s_web_of) .none kV_web_of dc_web_of pm_web_of an_web_of cd_web_of ct_web_of, a_l_mixed := a_l_mixed, d_l_mixed := PySem.W.fnOf "_law_mixed" "_law_mixed" (defArgs s_l_mixed) (defBody s_l_mixed) (defScope s_l_mixed) .none kV_l_mixed dc_l_mixed pm_l_mixed an_l_mixed cd_l_mixed ct_l_mixed, a_l_number := a_l_number, d_l_number := PySem.W.fnOf "_law_number" "_law_number" (defArgs s_l_number) (defBody s_l_number) (defScope s_l_number) .none kV_l_number dc_l_number pm_l_number an_l_number cd_l_number ct_l_number, a_l_kind := a_l_kind, d_l_kind := PySem.W.fnOf "_law_kind" "_law_kind" (defArgs s_l_kind) (defBody s_l_kind) (defScope s_l_kind) .none kV_l_kind dc_l_kind pm_l_kind an_l_kind cd_l_kind ct_l_kind, a_l_order := a_l_order, d_l_order := PySem.W.fnOf "_law_order" "_law_order" (defArgs s_l_order) (defBody s_l_order) (defScope s_l_order) .none kV_l_order dc_l_order pm_l_order an_l_order cd_l_order ct_l_order, a_l_least := a_l_least, d_l_least := PySem.W.fnOf "_law_least" "_law_least" (defArgs s_l_least) (defBody s_l_least) (defScope s_l_least) .none kV_l_least dc_l_least pm_l_least an_l_least cd_l_least ct_l_least, a_l_told := a_l_told, d_l_told := PySem.W.fnOf "_law_told" "_law_told" (defArgs s_l_told) (defBody s_l_told) (defScope s_l_told) .none kV_l_told dc_l_told pm_l_told an_l_told cd_l_told ct_l_told, a_l_tree := a_l_tree, d_l_tree := PySem.W.fnOf "_law_tree" "_law_tree" (defArgs s_l_tree) (defBody s_l_tree) (defScope s_l_tree) .none kV_l_tree dc_l_tree pm_l_tree an_l_tree cd_l_tree ct_l_tree, a_l_points := a_l_points, d_l_points := PySem.W.fnOf "_law_points" "_law_points" (defArgs s_l_points) (defBody s_l_points) (defScope s_l_points) .none kV_l_points dc_l_points pm_l_points an_l_points cd_l_points ct_l_points, a_l_ties := a_l_ties, d_l_ties := PySem.W.fnOf "_law_ties" "_law_ties" (defArgs s_l_ties) (defBody s_l_ties) (defScope s_l_ties) .none kV_l_ties dc_l_ties pm_l_ties an_l_ties cd_l_ties ct_l_ties, a_l_turned := a_l_turned, d_l_turned := PySem.W.fnOf "_law_turned" "_law_turned" (defArgs s_l_turned) (defBody s_l_turned) (defScope s_l_turned) .none kV_l_turned dc_l_turned pm_l_turned an_l_turned cd_l_turned ct_l_turned, a_l_is := a_l_is, d_l_is := PySem.W.fnOf "_law_is" "_law_is" (defArgs s_l_is) (defBody s_l_is) (defScope s_l_is) .none kV_l_is dc_l_is pm_l_is an_l_is cd_l_is ct_l_is, a_l_made := a_l_made, d_l_made := PySem.W.fnOf "_law_made" "_law_made" (defArgs s_l_made) (defBody s_l_made) (defScope s_l_made) .none kV_l_made dc_l_made pm_l_made an_l_made cd_l_made ct_l_made, a_l_ties_right := a_l_ties_right, d_l_ties_right := PySem.W.fnOf "_law_ties_right" "_law_ties_right" (defArgs s_l_ties_right) (defBody s_l_ties_right) (defScope s_l_ties_right) .none kV_l_ties_right dc_l_ties_right pm_l_ties_right an_l_ties_right cd_l_ties_right ct_l_ties_right, a_l_web_said := a_l_web_said, d_l_web_said := PySem.W.fnOf "_law_web_said" "_law_web_said" (defArgs s_l_web_said) (defBody s_l_web_said) (defScope s_l_web_said) .none kV_l_web_said dc_l_web_said pm_l_web_said an_l_web_said cd_l_web_said ct_l_web_said, a_law := a_law, d_law := PySem.W.fnOf "law" "law" (defArgs s_law) (defBody s_law) (defScope s_law) .none kV_law dc_law pm_law an_law cd_law ct_law, c_BadPoint := c_BadPoint, c_BadSize := c_BadSize, c_BadText := c_BadText, c_BadTree := c_BadTree, c_Join := c_Join, c_JoinError := c_JoinError, c_NoTie := c_NoTie, c_NoTree := c_NoTree, c_Point := c_Point, c_Side := c_Side, c_TooMany := c_TooMany, c_Tree := c_Tree, c_Twice := c_Twice, c_Web := c_Web } := {
    g_wall := PySem.W.mg_of X G f_wall
    k_wall := k_wall
    b_wall := (fun_mk (st := s_wall) l_wall c_wall k_wall).binds (ps := ["k"]) fun _ _ _ _ _ _ us hl => match us, hl with | [_], _ => rfl
    F_wall := fun_mk (st := s_wall) l_wall c_wall k_wall
    g_whole_within := PySem.W.mg_of X G f_whole_within
    k_whole_within := k_whole_within
    b_whole_within := (fun_mk (st := s_whole_within) l_whole_within c_whole_within k_whole_within).binds (ps := ["number", "least", "most"]) fun _ _ _ _ _ _ us hl => match us, hl with | [_, _, _], _ => rfl
    F_whole_within := fun_mk (st := s_whole_within) l_whole_within c_whole_within k_whole_within
    g_pairs := PySem.W.mg_of X G f_pairs
    k_pairs := k_pairs
    b_pairs := (fun_mk (st := s_pairs) l_pairs c_pairs k_pairs).binds (ps := ["many"]) fun _ _ _ _ _ _ us hl => match us, hl with | [_], _ => rfl
    F_pairs := fun_mk (st := s_pairs) l_pairs c_pairs k_pairs
    b_Web_init := (fun_mk (st := s_Web_init) l_Web_init c_Web_init k_Web_init).binds (ps := ["self", "many"]) fun _ _ _ _ _ _ us hl => match us, hl with | [_, _], _ => rfl
    F_Web_init := fun_mk (st := s_Web_init) l_Web_init c_Web_init k_Web_init
    m_Web_many := ⟨f_Web_many, i_Web_many, k_Web_many⟩
    b_Web_many := (fun_mk (st := s_Web_many) l_Web_many c_Web_many k_Web_many).binds (ps := ["self"]) fun _ _ _ _ _ _ us hl => match us, hl with | [_], _ => rfl
    F_Web_many := fun_mk (st := s_Web_many) l_Web_many c_Web_many k_Web_many
    m_Web_has := ⟨f_Web_has, i_Web_has, k_Web_has⟩
    b_Web_has := (fun_mk (st := s_Web_has) l_Web_has c_Web_has k_Web_has).binds (ps := ["self", "one", "other"]) fun _ _ _ _ _ _ us hl => match us, hl with | [_, _, _], _ => rfl
    F_Web_has := fun_mk (st := s_Web_has) l_Web_has c_Web_has k_Web_has
    m_Web_put := ⟨f_Web_put, i_Web_put, k_Web_put⟩
    b_Web_put := (fun_mk (st := s_Web_put) l_Web_put c_Web_put k_Web_put).binds (ps := ["self", "one", "other"]) fun _ _ _ _ _ _ us hl => match us, hl with | [_, _, _], _ => rfl
    F_Web_put := fun_mk (st := s_Web_put) l_Web_put c_Web_put k_Web_put
    m_Web_ties := ⟨f_Web_ties, i_Web_ties, k_Web_ties⟩
    b_Web_ties := (fun_mk (st := s_Web_ties) l_Web_ties c_Web_ties k_Web_ties).binds (ps := ["self"]) fun _ _ _ _ _ _ us hl => match us, hl with | [_], _ => rfl
    F_Web_ties := fun_mk (st := s_Web_ties) l_Web_ties c_Web_ties k_Web_ties
    m_Web_need_point := ⟨f_Web_need_point, i_Web_need_point, k_Web_need_point⟩
    b_Web_need_point := (fun_mk (st := s_Web_need_point) l_Web_need_point c_Web_need_point k_Web_need_point).binds (ps := ["self", "point"]) fun _ _ _ _ _ _ us hl => match us, hl with | [_, _], _ => rfl
    F_Web_need_point := fun_mk (st := s_Web_need_point) l_Web_need_point c_Web_need_point k_Web_need_point
    b_Point_init := (fun_mk (st := s_Point_init) l_Point_init c_Point_init k_Point_init).binds (ps := ["self", "number"]) fun _ _ _ _ _ _ us hl => match us, hl with | [_, _], _ => rfl
    F_Point_init := fun_mk (st := s_Point_init) l_Point_init c_Point_init k_Point_init
    m_Point_told := ⟨f_Point_told, i_Point_told, k_Point_told⟩
    b_Point_told := (fun_mk (st := s_Point_told) l_Point_told c_Point_told k_Point_told).binds (ps := ["self"]) fun _ _ _ _ _ _ us hl => match us, hl with | [_], _ => rfl
    F_Point_told := fun_mk (st := s_Point_told) l_Point_told c_Point_told k_Point_told
    m_Point_points := ⟨f_Point_points, i_Point_points, k_Point_points⟩
    b_Point_points := (fun_mk (st := s_Point_points) l_Point_points c_Point_points k_Point_points).binds (ps := ["self"]) fun _ _ _ _ _ _ us hl => match us, hl with | [_], _ => rfl
    F_Point_points := fun_mk (st := s_Point_points) l_Point_points c_Point_points k_Point_points
    m_Point_tied := ⟨f_Point_tied, i_Point_tied, k_Point_tied⟩
    b_Point_tied := (fun_mk (st := s_Point_tied) l_Point_tied c_Point_tied k_Point_tied).binds (ps := ["self", "one", "other"]) fun _ _ _ _ _ _ us hl => match us, hl with | [_, _, _], _ => rfl
    F_Point_tied := fun_mk (st := s_Point_tied) l_Point_tied c_Point_tied k_Point_tied
    m_Point_turned := ⟨f_Point_turned, i_Point_turned, k_Point_turned⟩
    b_Point_turned := (fun_mk (st := s_Point_turned) l_Point_turned c_Point_turned k_Point_turned).binds (ps := ["self"]) fun _ _ _ _ _ _ us hl => match us, hl with | [_], _ => rfl
    F_Point_turned := fun_mk (st := s_Point_turned) l_Point_turned c_Point_turned k_Point_turned
    b_Side_init := (fun_mk (st := s_Side_init) l_Side_init c_Side_init k_Side_init).binds (ps := ["self", "parts"]) fun _ _ _ _ _ _ us hl => match us, hl with | [_, _], _ => rfl
    F_Side_init := fun_mk (st := s_Side_init) l_Side_init c_Side_init k_Side_init
    m_Side_told := ⟨f_Side_told, i_Side_told, k_Side_told⟩
    b_Side_told := (fun_mk (st := s_Side_told) l_Side_told c_Side_told k_Side_told).binds (ps := ["self"]) fun _ _ _ _ _ _ us hl => match us, hl with | [_], _ => rfl
    F_Side_told := fun_mk (st := s_Side_told) l_Side_told c_Side_told k_Side_told
    m_Side_points := ⟨f_Side_points, i_Side_points, k_Side_points⟩
    b_Side_points := (fun_mk (st := s_Side_points) l_Side_points c_Side_points k_Side_points).binds (ps := ["self"]) fun _ _ _ _ _ _ us hl => match us, hl with | [_], _ => rfl
    F_Side_points := fun_mk (st := s_Side_points) l_Side_points c_Side_points k_Side_points
    m_Side_tied := ⟨f_Side_tied, i_Side_tied, k_Side_tied⟩
    b_Side_tied := (fun_mk (st := s_Side_tied) l_Side_tied c_Side_tied k_Side_tied).binds (ps := ["self", "one", "other"]) fun _ _ _ _ _ _ us hl => match us, hl with | [_, _, _], _ => rfl
    F_Side_tied := fun_mk (st := s_Side_tied) l_Side_tied c_Side_tied k_Side_tied
    m_Side_turned := ⟨f_Side_turned, i_Side_turned, k_Side_turned⟩
    b_Side_turned := (fun_mk (st := s_Side_turned) l_Side_turned c_Side_turned k_Side_turned).binds (ps := ["self"]) fun _ _ _ _ _ _ us hl => match us, hl with | [_], _ => rfl
    F_Side_turned := fun_mk (st := s_Side_turned) l_Side_turned c_Side_turned k_Side_turned
    b_Join_init := (fun_mk (st := s_Join_init) l_Join_init c_Join_init k_Join_init).binds (ps := ["self", "parts"]) fun _ _ _ _ _ _ us hl => match us, hl with | [_, _], _ => rfl
    F_Join_init := fun_mk (st := s_Join_init) l_Join_init c_Join_init k_Join_init
    m_Join_told := ⟨f_Join_told, i_Join_told, k_Join_told⟩
    b_Join_told := (fun_mk (st := s_Join_told) l_Join_told c_Join_told k_Join_told).binds (ps := ["self"]) fun _ _ _ _ _ _ us hl => match us, hl with | [_], _ => rfl
    F_Join_told := fun_mk (st := s_Join_told) l_Join_told c_Join_told k_Join_told
    m_Join_points := ⟨f_Join_points, i_Join_points, k_Join_points⟩
    b_Join_points := (fun_mk (st := s_Join_points) l_Join_points c_Join_points k_Join_points).binds (ps := ["self"]) fun _ _ _ _ _ _ us hl => match us, hl with | [_], _ => rfl
    F_Join_points := fun_mk (st := s_Join_points) l_Join_points c_Join_points k_Join_points
    m_Join_tied := ⟨f_Join_tied, i_Join_tied, k_Join_tied⟩
    b_Join_tied := (fun_mk (st := s_Join_tied) l_Join_tied c_Join_tied k_Join_tied).binds (ps := ["self", "one", "other"]) fun _ _ _ _ _ _ us hl => match us, hl with | [_, _, _], _ => rfl
    F_Join_tied := fun_mk (st := s_Join_tied) l_Join_tied c_Join_tied k_Join_tied
    m_Join_turned := ⟨f_Join_turned, i_Join_turned, k_Join_turned⟩
    b_Join_turned := (fun_mk (st := s_Join_turned) l_Join_turned c_Join_turned k_Join_turned).binds (ps := ["self"]) fun _ _ _ _ _ _ us hl => match us, hl with | [_], _ => rfl
    F_Join_turned := fun_mk (st := s_Join_turned) l_Join_turned c_Join_turned k_Join_turned
    g_points_of := PySem.W.mg_of X G f_points_of
    k_points_of := k_points_of
    b_points_of := (fun_mk (st := s_points_of) l_points_of c_points_of k_points_of).binds (ps := ["trees"]) fun _ _ _ _ _ _ us hl => match us, hl with | [_], _ => rfl
    F_points_of := fun_mk (st := s_points_of) l_points_of c_points_of k_points_of
    g_told_of := PySem.W.mg_of X G f_told_of
    k_told_of := k_told_of
    b_told_of := (fun_mk (st := s_told_of) l_told_of c_told_of k_told_of).binds (ps := ["trees"]) fun _ _ _ _ _ _ us hl => match us, hl with | [_], _ => rfl
    F_told_of := fun_mk (st := s_told_of) l_told_of c_told_of k_told_of
    g_turned_of := PySem.W.mg_of X G f_turned_of
    k_turned_of := k_turned_of
    b_turned_of := (fun_mk (st := s_turned_of) l_turned_of c_turned_of k_turned_of).binds (ps := ["trees"]) fun _ _ _ _ _ _ us hl => match us, hl with | [_], _ => rfl
    F_turned_of := fun_mk (st := s_turned_of) l_turned_of c_turned_of k_turned_of
    g_tied_among := PySem.W.mg_of X G f_tied_among
    k_tied_among := k_tied_among
    b_tied_among := (fun_mk (st := s_tied_among) l_tied_among c_tied_among k_tied_among).binds (ps := ["trees", "one", "other", "across"]) fun _ _ _ _ _ _ us hl => match us, hl with | [_, _, _, _], _ => rfl
    F_tied_among := fun_mk (st := s_tied_among) l_tied_among c_tied_among k_tied_among
    g_tree_by := PySem.W.mg_of X G f_tree_by
    k_tree_by := k_tree_by
    b_tree_by := (fun_mk (st := s_tree_by) l_tree_by c_tree_by k_tree_by).binds (ps := ["told"]) fun _ _ _ _ _ _ us hl => match us, hl with | [_], _ => rfl
    F_tree_by := fun_mk (st := s_tree_by) l_tree_by c_tree_by k_tree_by
    g_tree_under := PySem.W.mg_of X G f_tree_under
    k_tree_under := k_tree_under
    b_tree_under := (fun_mk (st := s_tree_under) l_tree_under c_tree_under k_tree_under).binds (ps := ["above", "told", "deep", "met"]) fun _ _ _ _ _ _ us hl => match us, hl with | [_, _, _, _], _ => rfl
    F_tree_under := fun_mk (st := s_tree_under) l_tree_under c_tree_under k_tree_under
    g_opened := PySem.W.mg_of X G f_opened
    k_opened := k_opened
    b_opened := (fun_mk (st := s_opened) l_opened c_opened k_opened).binds (ps := ["told"]) fun _ _ _ _ _ _ us hl => match us, hl with | [_], _ => rfl
    F_opened := fun_mk (st := s_opened) l_opened c_opened k_opened
    g_web_of := PySem.W.mg_of X G f_web_of
    k_web_of := k_web_of
    b_web_of := (fun_mk (st := s_web_of) l_web_of c_web_of k_web_of).binds (ps := ["told"]) fun _ _ _ _ _ _ us hl => match us, hl with | [_], _ => rfl
    F_web_of := fun_mk (st := s_web_of) l_web_of c_web_of k_web_of
    g_l_mixed := PySem.W.mg_of X G f_l_mixed
    k_l_mixed := k_l_mixed
    b_l_mixed := (fun_mk (st := s_l_mixed) l_l_mixed c_l_mixed k_l_mixed).binds (ps := ["_law_cell", "_law_k"]) fun _ _ _ _ _ _ us hl => match us, hl with | [_, _], _ => rfl
    F_l_mixed := fun_mk (st := s_l_mixed) l_l_mixed c_l_mixed k_l_mixed
    g_l_number := PySem.W.mg_of X G f_l_number
    k_l_number := k_l_number
    b_l_number := (fun_mk (st := s_l_number) l_l_number c_l_number k_l_number).binds (ps := ["_law_script", "_law_k"]) fun _ _ _ _ _ _ us hl => match us, hl with | [_, _], _ => rfl
    F_l_number := fun_mk (st := s_l_number) l_l_number c_l_number k_l_number
    g_l_kind := PySem.W.mg_of X G f_l_kind
    k_l_kind := k_l_kind
    b_l_kind := (fun_mk (st := s_l_kind) l_l_kind c_l_kind k_l_kind).binds (ps := ["_law_e"]) fun _ _ _ _ _ _ us hl => match us, hl with | [_], _ => rfl
    F_l_kind := fun_mk (st := s_l_kind) l_l_kind c_l_kind k_l_kind
    g_l_order := PySem.W.mg_of X G f_l_order
    k_l_order := k_l_order
    b_l_order := (fun_mk (st := s_l_order) l_l_order c_l_order k_l_order).binds (ps := ["_law_many", "_law_number_here"]) fun _ _ _ _ _ _ us hl => match us, hl with | [_, _], _ => rfl
    F_l_order := fun_mk (st := s_l_order) l_l_order c_l_order k_l_order
    g_l_least := PySem.W.mg_of X G f_l_least
    k_l_least := k_l_least
    b_l_least := (fun_mk (st := s_l_least) l_l_least c_l_least k_l_least).binds (ps := ["_law_told_here"]) fun _ _ _ _ _ _ us hl => match us, hl with | [_], _ => rfl
    F_l_least := fun_mk (st := s_l_least) l_l_least c_l_least k_l_least
    g_l_told := PySem.W.mg_of X G f_l_told
    k_l_told := k_l_told
    b_l_told := (fun_mk (st := s_l_told) l_l_told c_l_told k_l_told).binds (ps := ["_law_nodes", "_law_at", "_law_names"]) fun _ _ _ _ _ _ us hl => match us, hl with | [_, _, _], _ => rfl
    F_l_told := fun_mk (st := s_l_told) l_l_told c_l_told k_l_told
    g_l_tree := PySem.W.mg_of X G f_l_tree
    k_l_tree := k_l_tree
    b_l_tree := (fun_mk (st := s_l_tree) l_l_tree c_l_tree k_l_tree).binds (ps := ["_law_script", "_law_most", "_law_names"]) fun _ _ _ _ _ _ us hl => match us, hl with | [_, _, _], _ => rfl
    F_l_tree := fun_mk (st := s_l_tree) l_l_tree c_l_tree k_l_tree
    g_l_points := PySem.W.mg_of X G f_l_points
    k_l_points := k_l_points
    b_l_points := (fun_mk (st := s_l_points) l_l_points c_l_points k_l_points).binds (ps := ["_law_told_here"]) fun _ _ _ _ _ _ us hl => match us, hl with | [_], _ => rfl
    F_l_points := fun_mk (st := s_l_points) l_l_points c_l_points k_l_points
    g_l_ties := PySem.W.mg_of X G f_l_ties
    k_l_ties := k_l_ties
    b_l_ties := (fun_mk (st := s_l_ties) l_l_ties c_l_ties k_l_ties).binds (ps := ["_law_told_here"]) fun _ _ _ _ _ _ us hl => match us, hl with | [_], _ => rfl
    F_l_ties := fun_mk (st := s_l_ties) l_l_ties c_l_ties k_l_ties
    g_l_turned := PySem.W.mg_of X G f_l_turned
    k_l_turned := k_l_turned
    b_l_turned := (fun_mk (st := s_l_turned) l_l_turned c_l_turned k_l_turned).binds (ps := ["_law_told_here"]) fun _ _ _ _ _ _ us hl => match us, hl with | [_], _ => rfl
    F_l_turned := fun_mk (st := s_l_turned) l_l_turned c_l_turned k_l_turned
    g_l_is := PySem.W.mg_of X G f_l_is
    k_l_is := k_l_is
    b_l_is := (fun_mk (st := s_l_is) l_l_is c_l_is k_l_is).binds (ps := ["_law_tree_here", "_law_told_here"]) fun _ _ _ _ _ _ us hl => match us, hl with | [_, _], _ => rfl
    F_l_is := fun_mk (st := s_l_is) l_l_is c_l_is k_l_is
    g_l_made := PySem.W.mg_of X G f_l_made
    k_l_made := k_l_made
    b_l_made := (fun_mk (st := s_l_made) l_l_made c_l_made k_l_made).binds (ps := ["_law_told_here"]) fun _ _ _ _ _ _ us hl => match us, hl with | [_], _ => rfl
    F_l_made := fun_mk (st := s_l_made) l_l_made c_l_made k_l_made
    g_l_ties_right := PySem.W.mg_of X G f_l_ties_right
    k_l_ties_right := k_l_ties_right
    b_l_ties_right := (fun_mk (st := s_l_ties_right) l_l_ties_right c_l_ties_right k_l_ties_right).binds (ps := ["_law_tree_here", "_law_told_here", "_law_script"]) fun _ _ _ _ _ _ us hl => match us, hl with | [_, _, _], _ => rfl
    F_l_ties_right := fun_mk (st := s_l_ties_right) l_l_ties_right c_l_ties_right k_l_ties_right
    g_l_web_said := PySem.W.mg_of X G f_l_web_said
    k_l_web_said := k_l_web_said
    b_l_web_said := (fun_mk (st := s_l_web_said) l_l_web_said c_l_web_said k_l_web_said).binds (ps := ["_law_told_here"]) fun _ _ _ _ _ _ us hl => match us, hl with | [_], _ => rfl
    F_l_web_said := fun_mk (st := s_l_web_said) l_l_web_said c_l_web_said k_l_web_said
    g_law := PySem.W.mg_of X G f_law
    k_law := k_law
    b_law := (fun_mk (st := s_law) l_law c_law k_law).binds (ps := ["_law_script"]) fun _ _ _ _ _ _ us hl => match us, hl with | [_], _ => rfl
    F_law := fun_mk (st := s_law) l_law c_law k_law
    cl_Web := ⟨pg_Web, hd_Web, po_Web, sa_Web⟩
    mk_Web := ⟨mm_Web, f_Web_init, i_Web_init, kc_Web⟩
    n_Web__near := n_Web__near
    cl_Point := ⟨pg_Point, hd_Point, po_Point, sa_Point⟩
    mk_Point := ⟨mm_Point, f_Point_init, i_Point_init, kc_Point⟩
    n_Point__number := n_Point__number
    cl_Side := ⟨pg_Side, hd_Side, po_Side, sa_Side⟩
    mk_Side := ⟨mm_Side, f_Side_init, i_Side_init, kc_Side⟩
    n_Side__parts := n_Side__parts
    n_Side__points := n_Side__points
    cl_Join := ⟨pg_Join, hd_Join, po_Join, sa_Join⟩
    mk_Join := ⟨mm_Join, f_Join_init, i_Join_init, kc_Join⟩
    n_Join__parts := n_Join__parts
    n_Join__points := n_Join__points
    gBadPoint := PySem.W.mg_of X G h_c_BadPoint
    gBadSize := PySem.W.mg_of X G h_c_BadSize
    gBadText := PySem.W.mg_of X G h_c_BadText
    gBadTree := PySem.W.mg_of X G h_c_BadTree
    gJoin := PySem.W.mg_of X G h_c_Join
    gJoinError := PySem.W.mg_of X G h_c_JoinError
    gNoTie := PySem.W.mg_of X G h_c_NoTie
    gNoTree := PySem.W.mg_of X G h_c_NoTree
    gPoint := PySem.W.mg_of X G h_c_Point
    gSide := PySem.W.mg_of X G h_c_Side
    gTooMany := PySem.W.mg_of X G h_c_TooMany
    gTree := PySem.W.mg_of X G h_c_Tree
    gTwice := PySem.W.mg_of X G h_c_Twice
    gWeb := PySem.W.mg_of X G h_c_Web
    xBadSize := xBadSize
    kBadSize := kBadSize
    bBadSize := bBadSize
    tBadSize := tBadSize
    xBadPoint := xBadPoint
    kBadPoint := kBadPoint
    bBadPoint := bBadPoint
    tBadPoint := tBadPoint
    xTwice := xTwice
    kTwice := kTwice
    bTwice := bTwice
    tTwice := tTwice
    xBadTree := xBadTree
    kBadTree := kBadTree
    bBadTree := bBadTree
    tBadTree := tBadTree
    hb_JoinError := hb_JoinError
    hd_JoinError := hdd_JoinError
    ht_JoinError := ht_JoinError
    su_BadSize_JoinError := su_BadSize_JoinError
    su_BadPoint_JoinError := su_BadPoint_JoinError
    su_Twice_JoinError := su_Twice_JoinError
    su_BadTree_JoinError := su_BadTree_JoinError
    ec_BadSize := ⟨eg_BadSize, ek_BadSize, bBadSize, ed_BadSize, ea_BadSize, hn0, ht0, em_BadSize⟩
    is_BadSize_BadSize := kit_ref sd_BadSize st_BadSize ss_BadSize is_BadSize_BadSize
    is_BadSize_BadPoint := kit_ref sd_BadPoint st_BadPoint ss_BadPoint is_BadSize_BadPoint
    is_BadSize_Twice := kit_ref sd_Twice st_Twice ss_Twice is_BadSize_Twice
    is_BadSize_NoTie := kit_ref sd_NoTie st_NoTie ss_NoTie is_BadSize_NoTie
    is_BadSize_TooMany := kit_ref sd_TooMany st_TooMany ss_TooMany is_BadSize_TooMany
    is_BadSize_NoTree := kit_ref sd_NoTree st_NoTree ss_NoTree is_BadSize_NoTree
    is_BadSize_BadTree := kit_ref sd_BadTree st_BadTree ss_BadTree is_BadSize_BadTree
    is_BadSize_BadText := kit_ref sd_BadText st_BadText ss_BadText is_BadSize_BadText
    is_BadSize_ValueError := kit_tyo (by decide +kernel) is_BadSize_ValueError
    ec_BadPoint := ⟨eg_BadPoint, ek_BadPoint, bBadPoint, ed_BadPoint, ea_BadPoint, hn0, ht0, em_BadPoint⟩
    is_BadPoint_BadSize := kit_ref sd_BadSize st_BadSize ss_BadSize is_BadPoint_BadSize
    is_BadPoint_BadPoint := kit_ref sd_BadPoint st_BadPoint ss_BadPoint is_BadPoint_BadPoint
    is_BadPoint_Twice := kit_ref sd_Twice st_Twice ss_Twice is_BadPoint_Twice
    is_BadPoint_NoTie := kit_ref sd_NoTie st_NoTie ss_NoTie is_BadPoint_NoTie
    is_BadPoint_TooMany := kit_ref sd_TooMany st_TooMany ss_TooMany is_BadPoint_TooMany
    is_BadPoint_NoTree := kit_ref sd_NoTree st_NoTree ss_NoTree is_BadPoint_NoTree
    is_BadPoint_BadTree := kit_ref sd_BadTree st_BadTree ss_BadTree is_BadPoint_BadTree
    is_BadPoint_BadText := kit_ref sd_BadText st_BadText ss_BadText is_BadPoint_BadText
    is_BadPoint_ValueError := kit_tyo (by decide +kernel) is_BadPoint_ValueError
    ec_Twice := ⟨eg_Twice, ek_Twice, bTwice, ed_Twice, ea_Twice, hn0, ht0, em_Twice⟩
    is_Twice_BadSize := kit_ref sd_BadSize st_BadSize ss_BadSize is_Twice_BadSize
    is_Twice_BadPoint := kit_ref sd_BadPoint st_BadPoint ss_BadPoint is_Twice_BadPoint
    is_Twice_Twice := kit_ref sd_Twice st_Twice ss_Twice is_Twice_Twice
    is_Twice_NoTie := kit_ref sd_NoTie st_NoTie ss_NoTie is_Twice_NoTie
    is_Twice_TooMany := kit_ref sd_TooMany st_TooMany ss_TooMany is_Twice_TooMany
    is_Twice_NoTree := kit_ref sd_NoTree st_NoTree ss_NoTree is_Twice_NoTree
    is_Twice_BadTree := kit_ref sd_BadTree st_BadTree ss_BadTree is_Twice_BadTree
    is_Twice_BadText := kit_ref sd_BadText st_BadText ss_BadText is_Twice_BadText
    is_Twice_ValueError := kit_tyo (by decide +kernel) is_Twice_ValueError
    ec_BadTree := ⟨eg_BadTree, ek_BadTree, bBadTree, ed_BadTree, ea_BadTree, hn0, ht0, em_BadTree⟩
    is_BadTree_BadSize := kit_ref sd_BadSize st_BadSize ss_BadSize is_BadTree_BadSize
    is_BadTree_BadPoint := kit_ref sd_BadPoint st_BadPoint ss_BadPoint is_BadTree_BadPoint
    is_BadTree_Twice := kit_ref sd_Twice st_Twice ss_Twice is_BadTree_Twice
    is_BadTree_NoTie := kit_ref sd_NoTie st_NoTie ss_NoTie is_BadTree_NoTie
    is_BadTree_TooMany := kit_ref sd_TooMany st_TooMany ss_TooMany is_BadTree_TooMany
    is_BadTree_NoTree := kit_ref sd_NoTree st_NoTree ss_NoTree is_BadTree_NoTree
    is_BadTree_BadTree := kit_ref sd_BadTree st_BadTree ss_BadTree is_BadTree_BadTree
    is_BadTree_BadText := kit_ref sd_BadText st_BadText ss_BadText is_BadTree_BadText
    is_BadTree_ValueError := kit_tyo (by decide +kernel) is_BadTree_ValueError
    kt_Point_Point := kit_ref kd_Point ke_Point kf_Point kg_Point_Point
    kt_Side_Point := kit_ref kd_Point ke_Point kf_Point kg_Side_Point
    kt_Join_Point := kit_ref kd_Point ke_Point kf_Point kg_Join_Point
    kt_Point_Side := kit_ref kd_Side ke_Side kf_Side kg_Point_Side
    kt_Side_Side := kit_ref kd_Side ke_Side kf_Side kg_Side_Side
    kt_Join_Side := kit_ref kd_Side ke_Side kf_Side kg_Join_Side
    kt_Point_Join := kit_ref kd_Join ke_Join kf_Join kg_Point_Join
    kt_Side_Join := kit_ref kd_Join ke_Join kf_Join kg_Side_Join
    kt_Join_Join := kit_ref kd_Join ke_Join kf_Join kg_Join_Join
    kt_Point_Tree := kit_ref kd_Tree ke_Tree kf_Tree kg_Point_Tree
    kt_Side_Tree := kit_ref kd_Tree ke_Tree kf_Tree kg_Side_Tree
    kt_Join_Tree := kit_ref kd_Tree ke_Tree kf_Tree kg_Join_Tree
    isa_Point := ⟨ia_Point, hn0, ht0, im_Point⟩
    isa_Side := ⟨ia_Side, hn0, ht0, im_Side⟩
    isa_Join := ⟨ia_Join, hn0, ht0, im_Join⟩
    NotImplementedError := PySem.W.mg_none_of X G z_NotImplementedError
    ValueError := PySem.W.mg_none_of X G z_ValueError
    bool := PySem.W.mg_none_of X G z_bool
    int := PySem.W.mg_none_of X G z_int
    isinstance := PySem.W.mg_none_of X G z_isinstance
    len := PySem.W.mg_none_of X G z_len
    list := PySem.W.mg_none_of X G z_list
    max := PySem.W.mg_none_of X G z_max
    min := PySem.W.mg_none_of X G z_min
    range := PySem.W.mg_none_of X G z_range
    repr := PySem.W.mg_none_of X G z_repr
    sorted := PySem.W.mg_none_of X G z_sorted
    str := PySem.W.mg_none_of X G z_str
    tuple := PySem.W.mg_none_of X G z_tuple
    cMOST_POINTS := ⟨_, PySem.W.mg_of X G v_MOST_POINTS⟩
    cSIDE := ⟨_, PySem.W.mg_of X G v_SIDE⟩
    cJOIN := ⟨_, PySem.W.mg_of X G v_JOIN⟩ }
  exact ⟨_, fun s v => .of_eq rfl, fun base _ _ => ok_law T⟩

theorem walk {l : PySem.W.OpenLaw} {q : Program} {loose : List Str} {XP : (Str → Option Value) → Heap → Prop} {YP : World → Heap → Prop} {d : DefRec} {K : Params → PySem.W.Frag} (hn : l.most = some 63) (hdf : d.params.defaults = [])
    (hY : ∀ (w : World) (h : Heap), YP w h → (K w.params).In h)
    (F : ∀ (w : World) (mg : Str → Option Value) (fa : Addr) (h : Heap), (K w.params).In h → h.Ns mainGlobals mg → mg d.name = some (.ref fa) →
      ∃ fd : FuncData, (∀ (s : Shared) (u : Value), BindsTo s fd ⟨[u], []⟩ [("_law_script", u)]) ∧ ∀ base : Heap, (K w.params).In base → base.Ns mainGlobals mg → FnG l.prog w (K w.params) mg base 70 fa fd ["_law_script"] (spLaw (K w.params))) :
    PySem.W.WalkO q loose XP YP l.row.toRowW d [] (fun f vs => PySem.call f vs) :=
  walk_ofG (n := 63) (sp := spLaw) hn (by decide) hdf ⟨rfl, by decide, by decide⟩ hY F (fun _ _ a ns hl _ hS => ⟨a, ns, rfl, hS, hl, fun _ => rfl⟩)
end Jk
open PySem PySem.W PyProof.Rows
set_option maxRecDepth 100000 in
set_option maxHeartbeats 0 in
theorem PySem.Challenge.cw_joinside_k03_trees_told_holds : PySem.Challenge.rw_joinside_k03_trees_told.Holds := by
  w_on; o_law; k_head; (case hw => w_witness2)
  k_fill
  refine Jk.walk (l := PySem.Challenge.rw_joinside_k03_trees_told) rfl rfl (fun w h Y => PySem.W.kIn_of Y) ?F
  case F =>
    intro w mg fa h KX G hmg
    refine' Jk.all_mk KX G hmg ?h_c_BadPoint ?h_c_BadSize ?h_c_BadText ?h_c_BadTree ?h_c_Join ?h_c_JoinError ?h_c_NoTie ?h_c_NoTree ?h_c_Point ?h_c_Side ?h_c_TooMany ?h_c_Tree ?h_c_Twice ?h_c_Web ?f_wall ?l_wall ?c_wall ?k_wall ?f_whole_within ?l_whole_within ?c_whole_within ?k_whole_within ?f_pairs ?l_pairs ?c_pairs ?k_pairs ?f_Web_init ?i_Web_init ?l_Web_init ?c_Web_init ?k_Web_init ?f_Web_many ?i_Web_many ?l_Web_many ?c_Web_many ?k_Web_many ?f_Web_has ?i_Web_has ?l_Web_has ?c_Web_has ?k_Web_has ?f_Web_put ?i_Web_put ?l_Web_put ?c_Web_put ?k_Web_put ?f_Web_ties ?i_Web_ties ?l_Web_ties ?c_Web_ties ?k_Web_ties ?f_Web_need_point ?i_Web_need_point ?l_Web_need_point ?c_Web_need_point ?k_Web_need_point ?f_Point_init ?i_Point_init ?l_Point_init ?c_Point_init ?k_Point_init ?f_Point_told ?i_Point_told ?l_Point_told ?c_Point_told ?k_Point_told ?f_Point_points ?i_Point_points ?l_Point_points ?c_Point_points ?k_Point_points ?f_Point_tied ?i_Point_tied ?l_Point_tied ?c_Point_tied ?k_Point_tied ?f_Point_turned ?i_Point_turned ?l_Point_turned ?c_Point_turned ?k_Point_turned ?f_Side_init ?i_Side_init ?l_Side_init ?c_Side_init ?k_Side_init ?f_Side_told ?i_Side_told ?l_Side_told ?c_Side_told ?k_Side_told ?f_Side_points ?i_Side_points ?l_Side_points ?c_Side_points ?k_Side_points ?f_Side_tied ?i_Side_tied ?l_Side_tied ?c_Side_tied ?k_Side_tied ?f_Side_turned ?i_Side_turned ?l_Side_turned ?c_Side_turned ?k_Side_turned ?f_Join_init ?i_Join_init ?l_Join_init ?c_Join_init ?k_Join_init ?f_Join_told ?i_Join_told ?l_Join_told ?c_Join_told ?k_Join_told ?f_Join_points ?i_Join_points ?l_Join_points ?c_Join_points ?k_Join_points ?f_Join_tied ?i_Join_tied ?l_Join_tied ?c_Join_tied ?k_Join_tied ?f_Join_turned ?i_Join_turned ?l_Join_turned ?c_Join_turned ?k_Join_turned ?f_points_of ?l_points_of ?c_points_of ?k_points_of ?f_told_of ?l_told_of ?c_told_of ?k_told_of ?f_turned_of ?l_turned_of ?c_turned_of ?k_turned_of ?f_tied_among ?l_tied_among ?c_tied_among ?k_tied_among ?f_tree_by ?l_tree_by ?c_tree_by ?k_tree_by ?f_tree_under ?l_tree_under ?c_tree_under ?k_tree_under ?f_opened ?l_opened ?c_opened ?k_opened ?f_web_of ?l_web_of ?c_web_of ?k_web_of ?f_l_mixed ?l_l_mixed ?c_l_mixed ?k_l_mixed ?f_l_number ?l_l_number ?c_l_number ?k_l_number ?f_l_kind ?l_l_kind ?c_l_kind ?k_l_kind ?f_l_order ?l_l_order ?c_l_order ?k_l_order ?f_l_least ?l_l_least ?c_l_least ?k_l_least ?f_l_told ?l_l_told ?c_l_told ?k_l_told ?f_l_tree ?l_l_tree ?c_l_tree ?k_l_tree ?f_l_points ?l_l_points ?c_l_points ?k_l_points ?f_l_ties ?l_l_ties ?c_l_ties ?k_l_ties ?f_l_turned ?l_l_turned ?c_l_turned ?k_l_turned ?f_l_is ?l_l_is ?c_l_is ?k_l_is ?f_l_made ?l_l_made ?c_l_made ?k_l_made ?f_l_ties_right ?l_l_ties_right ?c_l_ties_right ?k_l_ties_right ?f_l_web_said ?l_l_web_said ?c_l_web_said ?k_l_web_said ?f_law ?l_law ?c_law ?k_law ?pg_Web ?hd_Web ?po_Web ?sa_Web ?mm_Web ?kc_Web ?n_Web__near ?pg_Point ?hd_Point ?po_Point ?sa_Point ?mm_Point ?kc_Point ?n_Point__number ?pg_Side ?hd_Side ?po_Side ?sa_Side ?mm_Side ?kc_Side ?n_Side__parts ?n_Side__points ?pg_Join ?hd_Join ?po_Join ?sa_Join ?mm_Join ?kc_Join ?n_Join__parts ?n_Join__points ?xBadSize ?kBadSize ?bBadSize ?tBadSize ?xBadPoint ?kBadPoint ?bBadPoint ?tBadPoint ?xTwice ?kTwice ?bTwice ?tTwice ?xBadTree ?kBadTree ?bBadTree ?tBadTree ?hb_JoinError ?hdd_JoinError ?ht_JoinError ?su_BadSize_JoinError ?su_BadPoint_JoinError ?su_Twice_JoinError ?su_BadTree_JoinError ?hn0 ?ht0 ?sd_BadSize ?st_BadSize ?ss_BadSize ?sd_BadPoint ?st_BadPoint ?ss_BadPoint ?sd_Twice ?st_Twice ?ss_Twice ?sd_NoTie ?st_NoTie ?ss_NoTie ?sd_TooMany ?st_TooMany ?ss_TooMany ?sd_NoTree ?st_NoTree ?ss_NoTree ?sd_BadTree ?st_BadTree ?ss_BadTree ?sd_BadText ?st_BadText ?ss_BadText ?eg_BadSize ?ek_BadSize ?ed_BadSize ?ea_BadSize ?em_BadSize ?is_BadSize_BadSize ?is_BadSize_BadPoint ?is_BadSize_Twice ?is_BadSize_NoTie ?is_BadSize_TooMany ?is_BadSize_NoTree ?is_BadSize_BadTree ?is_BadSize_BadText ?is_BadSize_ValueError ?eg_BadPoint ?ek_BadPoint ?ed_BadPoint ?ea_BadPoint ?em_BadPoint ?is_BadPoint_BadSize ?is_BadPoint_BadPoint ?is_BadPoint_Twice ?is_BadPoint_NoTie ?is_BadPoint_TooMany ?is_BadPoint_NoTree ?is_BadPoint_BadTree ?is_BadPoint_BadText ?is_BadPoint_ValueError ?eg_Twice ?ek_Twice ?ed_Twice ?ea_Twice ?em_Twice ?is_Twice_BadSize ?is_Twice_BadPoint ?is_Twice_Twice ?is_Twice_NoTie ?is_Twice_TooMany ?is_Twice_NoTree ?is_Twice_BadTree ?is_Twice_BadText ?is_Twice_ValueError ?eg_BadTree ?ek_BadTree ?ed_BadTree ?ea_BadTree ?em_BadTree ?is_BadTree_BadSize ?is_BadTree_BadPoint ?is_BadTree_Twice ?is_BadTree_NoTie ?is_BadTree_TooMany ?is_BadTree_NoTree ?is_BadTree_BadTree ?is_BadTree_BadText ?is_BadTree_ValueError ?kd_Point ?ke_Point ?kf_Point ?kg_Point_Point ?kg_Side_Point ?kg_Join_Point ?kd_Side ?ke_Side ?kf_Side ?kg_Point_Side ?kg_Side_Side ?kg_Join_Side ?kd_Join ?ke_Join ?kf_Join ?kg_Point_Join ?kg_Side_Join ?kg_Join_Join ?kd_Tree ?ke_Tree ?kf_Tree ?kg_Point_Tree ?kg_Side_Tree ?kg_Join_Tree ?ia_Point ?im_Point ?ia_Side ?im_Side ?ia_Join ?im_Join ?z_NotImplementedError ?z_ValueError ?z_bool ?z_int ?z_isinstance ?z_len ?z_list ?z_max ?z_min ?z_range ?z_repr ?z_sorted ?z_str ?z_tuple ?v_MOST_POINTS ?v_SIDE ?v_JOIN
    (case h_c_BadPoint => k_is)
    (case h_c_BadSize => k_is)
    (case h_c_BadText => k_is)
    (case h_c_BadTree => k_is)
    (case h_c_Join => k_is)
    (case h_c_JoinError => k_is)
    (case h_c_NoTie => k_is)
    (case h_c_NoTree => k_is)
    (case h_c_Point => k_is)
    (case h_c_Side => k_is)
    (case h_c_TooMany => k_is)
    (case h_c_Tree => k_is)
    (case h_c_Twice => k_is)
    (case h_c_Web => k_is)
    (case f_wall => k_is)
    (case l_wall => k_is)
    (case c_wall => k_is)
    (case k_wall => k_is)
    (case f_whole_within => k_is)
    (case l_whole_within => k_is)
    (case c_whole_within => k_is)
    (case k_whole_within => k_is)
    (case f_pairs => k_is)
    (case l_pairs => k_is)
    (case c_pairs => k_is)
    (case k_pairs => k_is)
    (case f_Web_init => k_is)
    (case i_Web_init => k_is)
    (case l_Web_init => k_is)
    (case c_Web_init => k_is)
    (case k_Web_init => k_is)
    (case f_Web_many => k_is)
    (case i_Web_many => k_is)
    (case l_Web_many => k_is)
    (case c_Web_many => k_is)
    (case k_Web_many => k_is)
    (case f_Web_has => k_is)
    (case i_Web_has => k_is)
    (case l_Web_has => k_is)
    (case c_Web_has => k_is)
    (case k_Web_has => k_is)
    (case f_Web_put => k_is)
    (case i_Web_put => k_is)
    (case l_Web_put => k_is)
    (case c_Web_put => k_is)
    (case k_Web_put => k_is)
    (case f_Web_ties => k_is)
    (case i_Web_ties => k_is)
    (case l_Web_ties => k_is)
    (case c_Web_ties => k_is)
    (case k_Web_ties => k_is)
    (case f_Web_need_point => k_is)
    (case i_Web_need_point => k_is)
    (case l_Web_need_point => k_is)
    (case c_Web_need_point => k_is)
    (case k_Web_need_point => k_is)
    (case f_Point_init => k_is)
    (case i_Point_init => k_is)
    (case l_Point_init => k_is)
    (case c_Point_init => k_is)
    (case k_Point_init => k_is)
    (case f_Point_told => k_is)
    (case i_Point_told => k_is)
    (case l_Point_told => k_is)
    (case c_Point_told => k_is)
    (case k_Point_told => k_is)
    (case f_Point_points => k_is)
    (case i_Point_points => k_is)
    (case l_Point_points => k_is)
    (case c_Point_points => k_is)
    (case k_Point_points => k_is)
    (case f_Point_tied => k_is)
    (case i_Point_tied => k_is)
    (case l_Point_tied => k_is)
    (case c_Point_tied => k_is)
    (case k_Point_tied => k_is)
    (case f_Point_turned => k_is)
    (case i_Point_turned => k_is)
    (case l_Point_turned => k_is)
    (case c_Point_turned => k_is)
    (case k_Point_turned => k_is)
    (case f_Side_init => k_is)
    (case i_Side_init => k_is)
    (case l_Side_init => k_is)
    (case c_Side_init => k_is)
    (case k_Side_init => k_is)
    (case f_Side_told => k_is)
    (case i_Side_told => k_is)
    (case l_Side_told => k_is)
    (case c_Side_told => k_is)
    (case k_Side_told => k_is)
    (case f_Side_points => k_is)
    (case i_Side_points => k_is)
    (case l_Side_points => k_is)
    (case c_Side_points => k_is)
    (case k_Side_points => k_is)
    (case f_Side_tied => k_is)
    (case i_Side_tied => k_is)
    (case l_Side_tied => k_is)
    (case c_Side_tied => k_is)
    (case k_Side_tied => k_is)
    (case f_Side_turned => k_is)
    (case i_Side_turned => k_is)
    (case l_Side_turned => k_is)
    (case c_Side_turned => k_is)
    (case k_Side_turned => k_is)
    (case f_Join_init => k_is)
    (case i_Join_init => k_is)
    (case l_Join_init => k_is)
    (case c_Join_init => k_is)
    (case k_Join_init => k_is)
    (case f_Join_told => k_is)
    (case i_Join_told => k_is)
    (case l_Join_told => k_is)
    (case c_Join_told => k_is)
    (case k_Join_told => k_is)
    (case f_Join_points => k_is)
    (case i_Join_points => k_is)
    (case l_Join_points => k_is)
    (case c_Join_points => k_is)
    (case k_Join_points => k_is)
    (case f_Join_tied => k_is)
    (case i_Join_tied => k_is)
    (case l_Join_tied => k_is)
    (case c_Join_tied => k_is)
    (case k_Join_tied => k_is)
    (case f_Join_turned => k_is)
    (case i_Join_turned => k_is)
    (case l_Join_turned => k_is)
    (case c_Join_turned => k_is)
    (case k_Join_turned => k_is)
    (case f_points_of => k_is)
    (case l_points_of => k_is)
    (case c_points_of => k_is)
    (case k_points_of => k_is)
    (case f_told_of => k_is)
    (case l_told_of => k_is)
    (case c_told_of => k_is)
    (case k_told_of => k_is)
    (case f_turned_of => k_is)
    (case l_turned_of => k_is)
    (case c_turned_of => k_is)
    (case k_turned_of => k_is)
    (case f_tied_among => k_is)
    (case l_tied_among => k_is)
    (case c_tied_among => k_is)
    (case k_tied_among => k_is)
    (case f_tree_by => k_is)
    (case l_tree_by => k_is)
    (case c_tree_by => k_is)
    (case k_tree_by => k_is)
    (case f_tree_under => k_is)
    (case l_tree_under => k_is)
    (case c_tree_under => k_is)
    (case k_tree_under => k_is)
    (case f_opened => k_is)
    (case l_opened => k_is)
    (case c_opened => k_is)
    (case k_opened => k_is)
    (case f_web_of => k_is)
    (case l_web_of => k_is)
    (case c_web_of => k_is)
    (case k_web_of => k_is)
    (case f_l_mixed => k_is)
    (case l_l_mixed => k_is)
    (case c_l_mixed => k_is)
    (case k_l_mixed => k_is)
    (case f_l_number => k_is)
    (case l_l_number => k_is)
    (case c_l_number => k_is)
    (case k_l_number => k_is)
    (case f_l_kind => k_is)
    (case l_l_kind => k_is)
    (case c_l_kind => k_is)
    (case k_l_kind => k_is)
    (case f_l_order => k_is)
    (case l_l_order => k_is)
    (case c_l_order => k_is)
    (case k_l_order => k_is)
    (case f_l_least => k_is)
    (case l_l_least => k_is)
    (case c_l_least => k_is)
    (case k_l_least => k_is)
    (case f_l_told => k_is)
    (case l_l_told => k_is)
    (case c_l_told => k_is)
    (case k_l_told => k_is)
    (case f_l_tree => k_is)
    (case l_l_tree => k_is)
    (case c_l_tree => k_is)
    (case k_l_tree => k_is)
    (case f_l_points => k_is)
    (case l_l_points => k_is)
    (case c_l_points => k_is)
    (case k_l_points => k_is)
    (case f_l_ties => k_is)
    (case l_l_ties => k_is)
    (case c_l_ties => k_is)
    (case k_l_ties => k_is)
    (case f_l_turned => k_is)
    (case l_l_turned => k_is)
    (case c_l_turned => k_is)
    (case k_l_turned => k_is)
    (case f_l_is => k_is)
    (case l_l_is => k_is)
    (case c_l_is => k_is)
    (case k_l_is => k_is)
    (case f_l_made => k_is)
    (case l_l_made => k_is)
    (case c_l_made => k_is)
    (case k_l_made => k_is)
    (case f_l_ties_right => k_is)
    (case l_l_ties_right => k_is)
    (case c_l_ties_right => k_is)
    (case k_l_ties_right => k_is)
    (case f_l_web_said => k_is)
    (case l_l_web_said => k_is)
    (case c_l_web_said => k_is)
    (case k_l_web_said => k_is)
    (case f_law => k_is)
    (case l_law => k_is)
    (case c_law => k_is)
    (case k_law => k_is)
    (case pg_Web => k_is)
    (case hd_Web => k_is)
    (case po_Web => k_is)
    (case sa_Web => k_is)
    (case mm_Web => k_is)
    (case kc_Web => k_is)
    (case n_Web__near => k_is)
    (case pg_Point => k_is)
    (case hd_Point => k_is)
    (case po_Point => k_is)
    (case sa_Point => k_is)
    (case mm_Point => k_is)
    (case kc_Point => k_is)
    (case n_Point__number => k_is)
    (case pg_Side => k_is)
    (case hd_Side => k_is)
    (case po_Side => k_is)
    (case sa_Side => k_is)
    (case mm_Side => k_is)
    (case kc_Side => k_is)
    (case n_Side__parts => k_is)
    (case n_Side__points => k_is)
    (case pg_Join => k_is)
    (case hd_Join => k_is)
    (case po_Join => k_is)
    (case sa_Join => k_is)
    (case mm_Join => k_is)
    (case kc_Join => k_is)
    (case n_Join__parts => k_is)
    (case n_Join__points => k_is)
    (case xBadSize => k_exc)
    (case kBadSize => k_is)
    (case bBadSize => k_is)
    (case tBadSize => k_is)
    (case xBadPoint => k_exc)
    (case kBadPoint => k_is)
    (case bBadPoint => k_is)
    (case tBadPoint => k_is)
    (case xTwice => k_exc)
    (case kTwice => k_is)
    (case bTwice => k_is)
    (case tTwice => k_is)
    (case xBadTree => k_exc)
    (case kBadTree => k_is)
    (case bBadTree => k_is)
    (case tBadTree => k_is)
    (case hb_JoinError => k_is)
    (case hdd_JoinError => k_is)
    (case ht_JoinError => k_is)
    (case su_BadSize_JoinError => k_is)
    (case su_BadPoint_JoinError => k_is)
    (case su_Twice_JoinError => k_is)
    (case su_BadTree_JoinError => k_is)
    (case hn0 => k_is)
    (case ht0 => k_is)
    (case sd_BadSize => k_is)
    (case st_BadSize => k_is)
    (case ss_BadSize => k_is)
    (case sd_BadPoint => k_is)
    (case st_BadPoint => k_is)
    (case ss_BadPoint => k_is)
    (case sd_Twice => k_is)
    (case st_Twice => k_is)
    (case ss_Twice => k_is)
    (case sd_NoTie => k_is)
    (case st_NoTie => k_is)
    (case ss_NoTie => k_is)
    (case sd_TooMany => k_is)
    (case st_TooMany => k_is)
    (case ss_TooMany => k_is)
    (case sd_NoTree => k_is)
    (case st_NoTree => k_is)
    (case ss_NoTree => k_is)
    (case sd_BadTree => k_is)
    (case st_BadTree => k_is)
    (case ss_BadTree => k_is)
    (case sd_BadText => k_is)
    (case st_BadText => k_is)
    (case ss_BadText => k_is)
    (case eg_BadSize => k_is)
    (case ek_BadSize => k_is)
    (case ed_BadSize => k_is)
    (case ea_BadSize => k_is)
    (case em_BadSize => k_is)
    (case is_BadSize_BadSize => k_is)
    (case is_BadSize_BadPoint => k_is)
    (case is_BadSize_Twice => k_is)
    (case is_BadSize_NoTie => k_is)
    (case is_BadSize_TooMany => k_is)
    (case is_BadSize_NoTree => k_is)
    (case is_BadSize_BadTree => k_is)
    (case is_BadSize_BadText => k_is)
    (case is_BadSize_ValueError => k_is)
    (case eg_BadPoint => k_is)
    (case ek_BadPoint => k_is)
    (case ed_BadPoint => k_is)
    (case ea_BadPoint => k_is)
    (case em_BadPoint => k_is)
    (case is_BadPoint_BadSize => k_is)
    (case is_BadPoint_BadPoint => k_is)
    (case is_BadPoint_Twice => k_is)
    (case is_BadPoint_NoTie => k_is)
    (case is_BadPoint_TooMany => k_is)
    (case is_BadPoint_NoTree => k_is)
    (case is_BadPoint_BadTree => k_is)
    (case is_BadPoint_BadText => k_is)
    (case is_BadPoint_ValueError => k_is)
    (case eg_Twice => k_is)
    (case ek_Twice => k_is)
    (case ed_Twice => k_is)
    (case ea_Twice => k_is)
    (case em_Twice => k_is)
    (case is_Twice_BadSize => k_is)
    (case is_Twice_BadPoint => k_is)
    (case is_Twice_Twice => k_is)
    (case is_Twice_NoTie => k_is)
    (case is_Twice_TooMany => k_is)
    (case is_Twice_NoTree => k_is)
    (case is_Twice_BadTree => k_is)
    (case is_Twice_BadText => k_is)
    (case is_Twice_ValueError => k_is)
    (case eg_BadTree => k_is)
    (case ek_BadTree => k_is)
    (case ed_BadTree => k_is)
    (case ea_BadTree => k_is)
    (case em_BadTree => k_is)
    (case is_BadTree_BadSize => k_is)
    (case is_BadTree_BadPoint => k_is)
    (case is_BadTree_Twice => k_is)
    (case is_BadTree_NoTie => k_is)
    (case is_BadTree_TooMany => k_is)
    (case is_BadTree_NoTree => k_is)
    (case is_BadTree_BadTree => k_is)
    (case is_BadTree_BadText => k_is)
    (case is_BadTree_ValueError => k_is)
    (case kd_Point => k_is)
    (case ke_Point => k_is)
    (case kf_Point => k_is)
    (case kg_Point_Point => k_is)
    (case kg_Side_Point => k_is)
    (case kg_Join_Point => k_is)
    (case kd_Side => k_is)
    (case ke_Side => k_is)
    (case kf_Side => k_is)
    (case kg_Point_Side => k_is)
    (case kg_Side_Side => k_is)
    (case kg_Join_Side => k_is)
    (case kd_Join => k_is)
    (case ke_Join => k_is)
    (case kf_Join => k_is)
    (case kg_Point_Join => k_is)
    (case kg_Side_Join => k_is)
    (case kg_Join_Join => k_is)
    (case kd_Tree => k_is)
    (case ke_Tree => k_is)
    (case kf_Tree => k_is)
    (case kg_Point_Tree => k_is)
    (case kg_Side_Tree => k_is)
    (case kg_Join_Tree => k_is)
    (case ia_Point => k_is)
    (case im_Point => k_is)
    (case ia_Side => k_is)
    (case im_Side => k_is)
    (case ia_Join => k_is)
    (case im_Join => k_is)
    (case z_NotImplementedError => k_is)
    (case z_ValueError => k_is)
    (case z_bool => k_is)
    (case z_int => k_is)
    (case z_isinstance => k_is)
    (case z_len => k_is)
    (case z_list => k_is)
    (case z_max => k_is)
    (case z_min => k_is)
    (case z_range => k_is)
    (case z_repr => k_is)
    (case z_sorted => k_is)
    (case z_str => k_is)
    (case z_tuple => k_is)
    (case v_MOST_POINTS => k_is)
    (case v_SIDE => k_is)
    (case v_JOIN => k_is)
